/- The statement Worth: all that it calls. -/
import Derived.Test.YtmfcpbhdggonfaaGreatDoorMjAJ
import Derived.Test.YtmfcpbhdggonfaaGreatDoorMjAN
import Derived.Test.YtmfcpbhdggonfaaGreatDoorMjBQ
namespace Go.Proofs.YtmfcpbhdggonfaaGreatDoor
open Go.RowKit RR
theorem run_good {s:ByteArray} {L:List Tk} {τ:QSt} (h:RunOk s L τ):goodB s = true∧atsM (planOf s) = true∧planOf s = planF τ.p.names τ.sts τ.nds:=by
 have hT:toksF s = L:=by unfold toksF; rw [h.lex]
 have hQ:programQ L 600 startQ = some τ:=h.run
 have hR:runF s = τ:=by unfold runF; rw [hT,hQ]; rfl
 have hP:planOf s = planF τ.p.names τ.sts τ.nds:=by unfold planOf; rw [hR]
 refine ⟨?_,?_,hP⟩
 ·unfold goodB
  rw [hP,hR,hT,hQ,h.lex]
  obtain ⟨c1,c2,c3,c4⟩:=h.counts
  have hl:=h.lines
  have hz:=h.size
  have hn:=h.len
  have e1:(endP L s.size τ.p).1 = 0:=by unfold endP; rw [h.ok,h.check]; rfl
  have a1:(τ.sts.all fun x=>decide (x.vals.length ≤ 9000)) = true:=List.all_eq_true.2 fun x hx=>decide_eq_true (by have:=(h.vals x hx).2; omega)
  have a2:((planF τ.p.names τ.sts τ.nds).lines.all fun x=>decide (x.vals.length ≤ 10000)) = true:=List.all_eq_true.2 fun x hx=>decide_eq_true (by have:=(h.each x hx).2; omega)
  have b1:=h.names
  have b2:=h.sts
  have b3:=h.nds
  rw [a1,a2,e1,decide_eq_true (show s.size ≤ 500 by omega),decide_eq_true (show L.length ≤ 500 by omega),decide_eq_true c1,decide_eq_true c2,decide_eq_true c3,decide_eq_true c4,decide_eq_true (show (planF τ.p.names τ.sts τ.nds).lines.length ≤ 10000 by omega),decide_eq_true (show (planF τ.p.names τ.sts τ.nds).nodes.length ≤ 10000 by omega),decide_eq_true b1,decide_eq_true (show τ.sts.length ≤ 9000 by omega),decide_eq_true (show τ.nds.length ≤ 9000 by omega)]
  rfl
 ·unfold atsM
  rw [hP]
  exact List.all_eq_true.2 fun x hx=>decide_eq_true (by have:=(h.each x hx).1; omega)
theorem play_run {W:World} (ht:TabOk W) {tx:ByteArray} {L:List Tk} {τ:QSt} (h:RunOk tx L τ):PlayW_ W (planF τ.p.names τ.sts τ.nds) tx:=fun _ hs _ hb=>by
 obtain ⟨g1,g2,g3⟩:=run_good h
 rw [← g3]
 exact (play_tab g1 g2 hs rfl (ht.below hb)).mono fun _ _ h=>h
theorem itoa_w {W:World} (ht:TabOk W):ItoW W:=fun n z hz hn=>⟨itoa_mid (by omega),fun w hb=>by rw [hz]; exact ItOk.tab ht n (by omega) w hb⟩
theorem leaf_small (raw:ByteArray) {E:List (ByteArray × Bool)} (ch:Bool) (hE:∀ x ∈ E,NmE x.1) (i:Nat):(flat (leafM raw E ch i).1.ps).size ≤ 5:=by
 obtain ⟨_,r,_⟩:=(leaf_pln raw ch i hE).is
 exact r.size
theorem brk_small (raw:ByteArray) {E:List (ByteArray × Bool)} (ch:Bool) (hE:∀ x ∈ E,NmE x.1) (l:Pc × Nat) (hl:(flat l.1.ps).size ≤ 5):(flat (brkM raw E ch l).1.ps).size ≤ 26:=by
 unfold brkM
 simp only []
 split
 ·obtain ⟨_,r,_⟩:=(exp0_ok raw ch (nxW raw 2 l.2).2 hE).is
  show (flat (tOpen :: (_ ++ [tShut]))).size ≤ 26
  rw [flat_brk]
  simp only [ByteArray.size_append]
  have:=r.size
  have e1:(⟨#[40]⟩:ByteArray).size = 1:=rfl
  have e2:(⟨#[41]⟩:ByteArray).size = 1:=rfl
  omega
 ·exact Nat.le_trans hl (by decide)
theorem make_w (W:World) (raw:ByteArray) (ch:Bool) (hr:raw.size ≤ 9223372036854775807):MakeW W raw ch:=fun F B E a1 a2 hN hB hL hE=>by
 have f0:=m_factor0 W.heap.size F B raw E ch a1 a2 hr hN hB hL (leaf_small raw ch hE)
 have z0:∀ i,(flat (fac0 raw E ch i).1.ps).size ≤ 100:=fun i=>by
  obtain ⟨_,r,_⟩:=(neg_fac (raw:=raw) (leaf_pln raw ch i hE)).is
  exact Nat.le_trans r.size (by decide)
 have e0:ExpC W.heap.size F B raw E ch a1 a2 0 (exp0 raw E ch):=m_expr W.heap.size F B raw E ch a1 a2 0 (fac0 raw E ch) hr hN hB (fun i hi=>fac0_in raw E ch hi) z0 f0
 have f1:=m_factor1 W.heap.size F B raw E ch a1 a2 hr hN hB hL (leaf_small raw ch hE) (fun l hl=>brk_small raw ch hE l hl) e0
 have z1:∀ i,(flat (fac1 raw E ch i).1.ps).size ≤ 100:=fun i=>by
  obtain ⟨_,r,_⟩:=(neg_fac (raw:=raw) (brk_pln raw ch hE (leaf_pln raw ch i hE))).is
  exact Nat.le_trans r.size (by decide)
 exact ⟨e0,m_expr W.heap.size F B raw E ch a1 a2 1 (fac1 raw E ch) hr hN hB (fun i hi=>fac1_in raw E ch hi) z1 f1⟩
theorem k_Worth_all (raw:ByteArray) (ch:Bool) (hr:raw.size ≤ 9223372036854775807) (W:World) (ht:TabOk W) :
    Calls Tryz.prog 13 #[.string raw,.bool ch] W fun e w'=>e = .returned (.bool true)∧Below W.heap.size W w' :=
 k_Worth W raw ch (make_w W raw ch hr) (fun _ _ _ h=>play_run ht h) (itoa_w ht)
end Go.Proofs.YtmfcpbhdggonfaaGreatDoor
