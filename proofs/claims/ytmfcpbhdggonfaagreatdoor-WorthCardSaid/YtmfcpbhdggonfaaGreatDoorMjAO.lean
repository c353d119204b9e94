/- Contracts of the reference's small functions. -/
import Derived.Test.YtmfcpbhdggonfaaGreatDoorMjAA
import Derived.Deep.QuietTactic
import Derived.BigQuiet
import Derived.Laws.AppendOwnNone
import Derived.Deep.RegionWith
import Derived.Deep.RegionHeld
namespace Go.Proofs.YtmfcpbhdggonfaaGreatDoor
open Go.RowKit RR
end Go.Proofs.YtmfcpbhdggonfaaGreatDoor
namespace Go.Proofs.YtmfcpbhdggonfaaGreatDoor
open Go.RowKit RR
def ToksAt (w:World) (b o:Nat) (L:List Tk):Prop :=
 b < w.heap.size∧∀ i,(h:i < L.length)→w.cell? ⟨b,o + i * 2,none⟩ = some (.string L[i].t)∧w.cell? ⟨b,o + i * 2 + 1,none⟩ = some (.int .i64 L[i].p)
theorem ToksAt.below {w w':World} {b o:Nat} {L:List Tk} (h:ToksAt w b o L) (hb:Below w.heap.size w w'):ToksAt w' b o L :=
 ⟨Nat.lt_of_lt_of_le h.1 hb.size,fun i hi=>⟨(hb.cell (p:=⟨b,o + i * 2,none⟩) h.1).trans (h.2 i hi).1,(hb.cell (p:=⟨b,o + i * 2 + 1,none⟩) h.1).trans (h.2 i hi).2⟩⟩
theorem below_drewN (B:Nat) (w:World) (n:Nat):Below B w (w.drewN n):=⟨rfl,rfl,rfl,Nat.le_refl _,fun _ _=>rfl⟩
def IntSl (w:World) (ao:Option Addr) (cap:Nat) (l:List Nat):Prop:=(ao = none→cap = 0)∧l.length ≤ cap∧∀ i,(h:i < l.length)→∃ b o,b < w.heap.size∧ao = some ⟨b,o,none⟩∧w.cell? ⟨b,o + i,none⟩ = some (.int .i64 l[i])
theorem IntSl.below {w w':World} {ao:Option Addr} {cap:Nat} {l:List Nat} (h:IntSl w ao cap l) (hb:Below w.heap.size w w'):IntSl w' ao cap l:=⟨h.1,h.2.1,fun i hi=>by
 obtain ⟨b,o,h1,h2,h3⟩:=h.2.2 i hi
 exact ⟨b,o,Nat.lt_of_lt_of_le h1 hb.size,h2,(hb.cell (p:=⟨b,o + i,none⟩) h1).trans h3⟩⟩
end Go.Proofs.YtmfcpbhdggonfaaGreatDoor
namespace Go.Proofs.YtmfcpbhdggonfaaGreatDoor
open Go.RowKit RR
theorem bx {w wr:World} {T:TypeId} {v:Value} (hb:Below (w.heap.size + 1) (w.alloc (.cells #[v] T)) wr):wr.cell? ⟨w.heap.size,0,none⟩ = some v∧w.heap.size < wr.heap.size∧Below w.heap.size w wr:=by
 have h1:(w.alloc (.cells #[v] T)).cell? ⟨w.heap.size,0,none⟩ = some v:=by simp
 have h2:=hb.size
 refine ⟨(hb.cell (p:=⟨w.heap.size,0,none⟩) (Nat.lt_succ_self _)).trans h1,?_,((Below.refl _ _).alloc (Nat.le_refl _) _).trans (hb.mono (Nat.le_succ _))⟩
 simp at h2; omega
theorem Tryz.infoInt:(Tryz.prog.info? 3).map (fun i=>(i.zero,i.size,i.bytes)) = some (some (.int .i64 0),1,8):=by kernel_rfl
theorem owns_below {w w':World} {base:Nat} {e:TypeId} {size:Nat} {v:Value} {n:Nat} {xs:List Value} (h:w.ownsRow base e size v n xs) (hb:Below w.heap.size w w'):w'.ownsRow base e size v n xs:=by
 refine ⟨h.1,?_⟩
 rcases h.2 with h2 | ⟨g,cap,cur,hv,hg,hh,r⟩
 ·exact .inl h2
 ·exact .inr ⟨g,cap,cur,hv,hg,by rw [hb.block g (Array.getElem?_eq_some_iff.1 hh).1]; exact hh,r⟩
theorem int_one {k:Int}:∀ u ∈ [Value.int .i64 k],u.oneCell' = true:=by intro u hu; simp at hu; subst hu; rfl
end Go.Proofs.YtmfcpbhdggonfaaGreatDoor
namespace Go.Proofs.YtmfcpbhdggonfaaGreatDoor
open Go.RowKit RR
theorem addr_add (b o j:Nat):(⟨b,o,none⟩:Addr).add j = ⟨b,o + j,none⟩:=by
 unfold Addr.add
 by_cases h:j = 0
 ·rw [if_pos h,h]; rfl
 ·rw [if_neg h]
theorem lit_eq (t:ByteArray) (c:ByteArray) (l:List UInt8) (h:c.toList = l):(t.toList == l) = decide (t = c):=by rw [← h,seq_comm]
theorem l40:(⟨#[40]⟩:ByteArray).toList = [40]:=by rw [bl]
theorem l41:(⟨#[41]⟩:ByteArray).toList = [41]:=by rw [bl]
theorem l123:(⟨#[123]⟩:ByteArray).toList = [123]:=by rw [bl]
theorem l125:(⟨#[125]⟩:ByteArray).toList = [125]:=by rw [bl]
theorem mate_step {L:List Tk} {st d:Int} {f k:Nat} {n:Int} (h:k < L.length):∃ δ:Int,-1 ≤ δ∧δ ≤ 1∧mateF L st d (f + 1) k n = (if n + δ = 0 then (k:Int) else mateF L st d f (k + st) (n + δ)) ∧
    (((L[k].t.toList == [40]) = true∧(L[k].t.toList == [41]) = false∧(L[k].t.toList == [125]) = false∧δ = 1) ∨ ((L[k].t.toList == [40]) = false∧(L[k].t.toList == [123]) = true∧(L[k].t.toList == [41]) = false∧(L[k].t.toList == [125]) = false∧δ = 1) ∨
     ((L[k].t.toList == [40]) = false∧(L[k].t.toList == [123]) = false∧(L[k].t.toList == [41]) = true∧δ = -1) ∨ ((L[k].t.toList == [40]) = false∧(L[k].t.toList == [123]) = false∧(L[k].t.toList == [41]) = false∧(L[k].t.toList == [125]) = true∧δ = -1) ∨
     ((L[k].t.toList == [40]) = false∧(L[k].t.toList == [123]) = false∧(L[k].t.toList == [41]) = false∧(L[k].t.toList == [125]) = false∧δ = 0)):=by
 have e:mateF L st d (f + 1) k n = (let n1:=if L[k].t = ⟨#[40]⟩ ∨ L[k].t = ⟨#[123]⟩ then n + 1 else n
     let n2:=if L[k].t = ⟨#[41]⟩ ∨ L[k].t = ⟨#[125]⟩ then n1 - 1 else n1
     if n2 = 0 then (k:Int) else mateF L st d f (k + st) n2):=by
  rw [mateF,if_pos ⟨by omega,by omega⟩,Int.toNat_natCast,tk_eq h]
 rw [e,lit_eq _ _ _ l40,lit_eq _ _ _ l41,lit_eq _ _ _ l123,lit_eq _ _ _ l125]
 generalize L[k].t = t
 by_cases a1:t = ⟨#[40]⟩
 ·subst a1
  exact ⟨1,by omega,by omega,by rfl,.inl ⟨by decide,by decide,by decide,rfl⟩⟩
 by_cases a2:t = ⟨#[123]⟩
 ·subst a2
  exact ⟨1,by omega,by omega,by rfl,.inr (.inl ⟨by decide,by decide,by decide,by decide,rfl⟩)⟩
 by_cases a3:t = ⟨#[41]⟩
 ·subst a3
  exact ⟨-1,by omega,by omega,by rfl,.inr (.inr (.inl ⟨by decide,by decide,by decide,rfl⟩))⟩
 by_cases a4:t = ⟨#[125]⟩
 ·subst a4
  exact ⟨-1,by omega,by omega,by rfl,.inr (.inr (.inr (.inl ⟨by decide,by decide,by decide,by decide,rfl⟩)))⟩
 refine ⟨0,by omega,by omega,?_,.inr (.inr (.inr (.inr ⟨decide_eq_false a1,decide_eq_false a2,decide_eq_false a3,decide_eq_false a4,rfl⟩)))⟩
 simp only [a1,a2,a3,a4,or_self,if_false,Int.add_zero]
end Go.Proofs.YtmfcpbhdggonfaaGreatDoor
namespace Go.Proofs.YtmfcpbhdggonfaaGreatDoor
open Go.RowKit RR
theorem keep2 {wr W w1:World} {a c:Addr} {x y:Value} (ha:a.block < wr.heap.size) (hc:c.block < wr.heap.size) (h:W.cell? a = some x∧W.cell? c = some y∧Below wr.heap.size wr W) (hb:Below W.heap.size W w1):w1.cell? a = some x∧w1.cell? c = some y∧Below wr.heap.size wr w1 :=
 ⟨(hb.cell (Nat.lt_of_lt_of_le ha h.2.2.size)).trans h.1,(hb.cell (Nat.lt_of_lt_of_le hc h.2.2.size)).trans h.2.1,h.2.2.trans (hb.mono h.2.2.size)⟩
end Go.Proofs.YtmfcpbhdggonfaaGreatDoor
namespace Go.Proofs.YtmfcpbhdggonfaaGreatDoor
open Go.RowKit RR
def NmSl (w:World) (ao:Option Addr) (l:List Nm):Prop:=∀ i,(h:i < l.length)→∃ b o,b < w.heap.size∧ao = some ⟨b,o,none⟩∧w.cell? ⟨b,o + i * 4,none⟩ = some (.string l[i].word)∧w.cell? ⟨b,o + i * 4 + 1,none⟩ = some (.int .i64 l[i].at_)∧w.cell? ⟨b,o + i * 4 + 2,none⟩ = some (.int .i64 l[i].role)∧w.cell? ⟨b,o + i * 4 + 3,none⟩ = some (.int .i64 l[i].proc)
theorem NmSl.below {w w':World} {ao:Option Addr} {l:List Nm} (h:NmSl w ao l) (hb:Below w.heap.size w w'):NmSl w' ao l:=fun i hi=>by
 obtain ⟨b,o,h1,h2,h3,h4,h5,h6⟩:=h i hi
 exact ⟨b,o,Nat.lt_of_lt_of_le h1 hb.size,h2,(hb.cell (p:=⟨b,o + i * 4,none⟩) h1).trans h3,(hb.cell (p:=⟨b,o + i * 4 + 1,none⟩) h1).trans h4,(hb.cell (p:=⟨b,o + i * 4 + 2,none⟩) h1).trans h5,(hb.cell (p:=⟨b,o + i * 4 + 3,none⟩) h1).trans h6⟩
set_option maxHeartbeats 400000 in
theorem c_isWhole (r:Nat) (w:World) :
    Calls Tryz.prog 208 #[.int .i64 r] w fun e w'=>e = .returned (.bool (isWholeB r))∧w' = w:=by
 have H:∀ a b c:Bool,((r:Int) == 0) = a→((r:Int) == 1) = b→((r:Int) == 2) = c→isWholeB r = (a || b || c):=by
  intro a b c ha hb hc
  subst ha; subst hb; subst hc
  unfold isWholeB
  rw [Bool.eq_iff_iff]; simp; omega
 cases h0:((r:Int) == 0)
 ·cases h1:((r:Int) == 1)
  ·cases h2:((r:Int) == 2)
   all_goals
    have HE:=hide (H _ _ _ h0 h1 h2)
    clear H
    go_enter Tryz.func208,Tryz.ntmps208
    go_wp2
    go_ret
    exact ⟨ret_bool (by rw [HE.out]; rfl),rfl⟩
  ·have HE:=hide (H _ _ _ h0 h1 rfl)
   clear H
   go_enter Tryz.func208,Tryz.ntmps208
   go_wp2
   go_ret
   exact ⟨ret_bool (by rw [HE.out]; rfl),rfl⟩
 ·have HE:=hide (H _ _ _ h0 rfl rfl)
  clear H
  go_enter Tryz.func208,Tryz.ntmps208
  go_wp2
  go_ret
  exact ⟨ret_bool (by rw [HE.out]; rfl),rfl⟩
set_option maxRecDepth 100000 in
set_option maxHeartbeats 1000000 in
theorem c_isGiven (ao:Option Addr) (cap:Nat) (l:List Nm) (t:ByteArray) (r:Nat) (w:World) (hl:l.length ≤ 1000) (hi:NmSl w ao l) :
    Calls Tryz.prog 209 #[.slice ao l.length cap,.string t,.int .i64 r] w fun e w'=>e = .returned (.bool (isGivenB l t r))∧Below w.heap.size w w':=by
 go_enter Tryz.func209,Tryz.ntmps209
 go_wp2
 go_loopw [11] (fun u wr=>∃ k:Nat,u = .int .i64 k∧k ≤ l.length∧isGivenB (l.take k) t r = false∧Below w.heap.size w wr) (fun u _=>l.length - (intOf u).toNat)
 case atStart=>exact ⟨0,rfl,Nat.zero_le _,rfl,Below.refl _ _⟩
 case round =>
  obtain ⟨k,rfl,hk,hn,hbel⟩:=hrel
  by_cases hlt:k < l.length
  ·obtain ⟨b,o,hb,hao,c1,c2,c3,c4⟩:=(hi.below hbel) k hlt
   subst hao
   have HS:Hid (isGivenB (l.take (k + 1)) t r = (isGivenB (l.take k) t r || (decide (l[k].role = r) && decide (l[k].word = t)))):=any_snoc _ l k hlt
   have HN:=hide hn
   clear hn
   by_cases hr:(l[k].role:Int) = r
   ·have hr':((l[k].role:Int) == r) = true:=beq_iff_eq.2 hr
    have HR:Hid (l[k].role = r):=by show _ = _; omega
    cases hw:(l[k].word.toList == t.toList)
    ·have HW:Hid (¬ l[k].word = t):=fun e=>by rw [e] at hw; simp at hw
     clear hr
     go_wp2
     go_roundw
     case rel=>exact ⟨k + 1,by go_num,by omega,by rw [HS.out,HN.out,decide_eq_false HW.out,Bool.and_false]; rfl,hbel.alloc hbel.size _⟩
     case measure=>simp [intOf]; omega
    ·have HW:Hid (l[k].word = t):=toList_inj.1 (by simpa using hw)
     clear hr
     go_wp2
     go_ret
     exact ⟨ret_bool (any_get _ l k hlt (by show (decide _ && decide _) = true; rw [decide_eq_true HR.out,decide_eq_true HW.out]; rfl)).symm,hbel.alloc hbel.size _⟩
   ·have hr':((l[k].role:Int) == r) = false:=beq_eq_false_iff_ne.2 hr
    have HR:Hid (¬ l[k].role = r):=fun e=>hr (by omega)
    clear hr
    go_wp2
    go_roundw
    case rel=>exact ⟨k + 1,by go_num,by omega,by rw [HS.out,HN.out,decide_eq_false HR.out]; rfl,hbel.alloc hbel.size _⟩
    case measure=>simp [intOf]; omega
  ·go_wp2
   go_ret
   exact ⟨ret_bool (by rw [← hn,List.take_of_length_le (by omega)]),hbel⟩
set_option maxRecDepth 100000 in
set_option maxHeartbeats 1000000 in
theorem c_isParam (ao:Option Addr) (cap:Nat) (l:List Nm) (t:ByteArray) (r:Int) (w:World) (hl:l.length ≤ 1000) (hi:NmSl w ao l) :
    Calls Tryz.prog 210 #[.slice ao l.length cap,.string t,.int .i64 r] w fun e w'=>e = .returned (.bool (isParamB l t r))∧Below w.heap.size w w':=by
 go_enter Tryz.func210,Tryz.ntmps210
 go_wp2
 go_loopw [11] (fun u wr=>∃ k:Nat,u = .int .i64 k∧k ≤ l.length∧isParamB (l.take k) t r = false∧Below w.heap.size w wr) (fun u _=>l.length - (intOf u).toNat)
 case atStart=>exact ⟨0,rfl,Nat.zero_le _,rfl,Below.refl _ _⟩
 case round =>
  obtain ⟨k,rfl,hk,hn,hbel⟩:=hrel
  by_cases hlt:k < l.length
  ·obtain ⟨b,o,hb,hao,c1,c2,c3,c4⟩:=(hi.below hbel) k hlt
   subst hao
   have HS:Hid (isParamB (l.take (k + 1)) t r = (isParamB (l.take k) t r || (decide (l[k].role = 3) && decide (l[k].proc = r) && decide (l[k].word = t)))):=any_snoc _ l k hlt
   have HN:=hide hn
   clear hn
   by_cases hr:(l[k].role:Int) = 3
   ·have hr':((l[k].role:Int) == 3) = true:=beq_iff_eq.2 hr
    have HR:Hid (l[k].role = 3):=by show _ = _; omega
    by_cases hq:l[k].proc = r
    ·have hq':(l[k].proc == r) = true:=beq_iff_eq.2 hq
     have HQ:=hide hq
     cases hw:(l[k].word.toList == t.toList)
     ·have HW:Hid (¬ l[k].word = t):=fun e=>by rw [e] at hw; simp at hw
      clear hr hq
      go_wp2
      go_roundw
      case rel=>exact ⟨k + 1,by go_num,by omega,by rw [HS.out,HN.out,decide_eq_false HW.out,Bool.and_false]; rfl,hbel.alloc hbel.size _⟩
      case measure=>simp [intOf]; omega
     ·have HW:Hid (l[k].word = t):=toList_inj.1 (by simpa using hw)
      clear hr hq
      go_wp2
      go_ret
      exact ⟨ret_bool (any_get _ l k hlt (by show (decide _ && decide _ && decide _) = true; rw [decide_eq_true HR.out,decide_eq_true HQ.out,decide_eq_true HW.out]; rfl)).symm,hbel.alloc hbel.size _⟩
    ·have hq':(l[k].proc == r) = false:=beq_eq_false_iff_ne.2 hq
     have HQ:=hide hq
     clear hr hq
     go_wp2
     go_roundw
     case rel=>exact ⟨k + 1,by go_num,by omega,by rw [HS.out,HN.out,decide_eq_false HQ.out,Bool.and_false]; rfl,hbel.alloc hbel.size _⟩
     case measure=>simp [intOf]; omega
   ·have hr':((l[k].role:Int) == 3) = false:=beq_eq_false_iff_ne.2 hr
    have HR:Hid (¬ l[k].role = 3):=fun e=>hr (by omega)
    clear hr
    go_wp2
    go_roundw
    case rel=>exact ⟨k + 1,by go_num,by omega,by rw [HS.out,HN.out,decide_eq_false HR.out]; rfl,hbel.alloc hbel.size _⟩
    case measure=>simp [intOf]; omega
  ·go_wp2
   go_ret
   exact ⟨ret_bool (by rw [← hn,List.take_of_length_le (by omega)]),hbel⟩
end Go.Proofs.YtmfcpbhdggonfaaGreatDoor
namespace Go.Proofs.YtmfcpbhdggonfaaGreatDoor
open Go.RowKit RR
theorem nb {w wr:World} {T:TypeId} {x0 x1 x2 x3:Value} (hb:Below (w.heap.size + 1) (w.alloc (.cells #[x0,x1,x2,x3] T)) wr):wr.cell? ⟨w.heap.size,0,none⟩ = some x0∧wr.cell? ⟨w.heap.size,1,none⟩ = some x1∧wr.cell? ⟨w.heap.size,2,none⟩ = some x2∧wr.cell? ⟨w.heap.size,3,none⟩ = some x3∧w.heap.size < wr.heap.size∧Below w.heap.size w wr:=by
 have h2:=hb.size
 refine ⟨(hb.cell (p:=⟨w.heap.size,0,none⟩) (Nat.lt_succ_self _)).trans (by simp),(hb.cell (p:=⟨w.heap.size,1,none⟩) (Nat.lt_succ_self _)).trans (by simp),(hb.cell (p:=⟨w.heap.size,2,none⟩) (Nat.lt_succ_self _)).trans (by simp),(hb.cell (p:=⟨w.heap.size,3,none⟩) (Nat.lt_succ_self _)).trans (by simp),?_,((Below.refl _ _).alloc (Nat.le_refl _) _).trans (hb.mono (Nat.le_succ _))⟩
 simp at h2; omega
set_option maxRecDepth 100000 in
set_option maxHeartbeats 4000000 in
theorem c_givenTwice (ao:Option Addr) (cap:Nat) (l:List Nm) (i:Nat) (n:Nm) (w:World) (hl:l.length ≤ 1000) (hi:NmSl w ao l) :
    Calls Tryz.prog 185 #[.slice ao l.length cap,.int .i64 i,(.agg #[.string n.word,.int .i64 n.at_,.int .i64 n.role,.int .i64 n.proc])] w fun e w'=>e = .returned (.bool (clashF l i n 0))∧Below w.heap.size w w':=by
 go_enter Tryz.func185,Tryz.ntmps185
 go_wp2
 go_loopw [11] (fun u wr=>∃ k:Nat,u = .int .i64 k∧k ≤ l.length∧clashF l i n k = clashF l i n 0∧Below (w.heap.size + 1) (w.alloc (.cells #[.string n.word,.int .i64 n.at_,.int .i64 n.role,.int .i64 n.proc] 186)) wr) (fun u _=>l.length - (intOf u).toNat)
 case atStart=>exact ⟨0,rfl,Nat.zero_le _,rfl,Below.refl _ _⟩
 case round =>
  obtain ⟨k,rfl,hk,hn,hbx⟩:=hrel
  have HN:=hide hn
  have HB:=hide hbx
  obtain ⟨n0,n1,n2,n3,hsz,hbel⟩:=nb hbx
  clear hn hbx
  by_cases hlt:k < l.length
  ·obtain ⟨b,o,hb,hao,c1,c2,c3,c4⟩:=(hi.below hbel) k hlt
   subst hao
   clear hbel
   by_cases eW:l[k].word = n.word
   ·have fW:(l[k].word.toList == n.word.toList) = true:=by rw [eW]; simp
    cases eA:isWholeB n.role
    ·by_cases eP:n.role = 3
     ·have fP:((n.role:Int) == 3) = true:=beq_iff_eq.2 (by omega)
      cases eB:isWholeB l[k].role
      ·by_cases eQ:l[k].role = 3
       ·have fQ:((l[k].role:Int) == 3) = true:=beq_iff_eq.2 (by omega)
        by_cases eR:l[k].proc = n.proc
        ·have fR:(l[k].proc == n.proc) = true:=beq_iff_eq.2 (by omega)
         by_cases eJ:k < i
         ·have fJ:(k:Int) < i:=by omega
          have HC:Hid (clashB i n k l[k] = true):=by show _ = _; unfold clashB; first | (rw [decide_eq_true eW,eA,decide_eq_true eP,eB,decide_eq_true eQ,decide_eq_true eR,decide_eq_true eJ]; done) | (rw [decide_eq_true eW,eA,decide_eq_true eP,eB,decide_eq_true eQ,decide_eq_true eR,decide_eq_true eJ]; rfl)
          clear eP eQ eR eW
          go_wp2_with (first | (go_at_call 208; refine (c_isWhole _ _).mono ?_; rintro e w' ⟨rfl,rfl⟩))
          go_ret
          exact ⟨ret_bool (by rw [← HN.out,clashF_yes hlt HC.out]),(nb HB.out).2.2.2.2.2.alloc (nb HB.out).2.2.2.2.2.size _⟩
         ·have fJ:i ≤ k:=by omega
          have HC:Hid (clashB i n k l[k] = false):=by show _ = _; unfold clashB; first | (rw [decide_eq_true eW,eA,decide_eq_true eP,eB,decide_eq_true eQ,decide_eq_true eR,decide_eq_false eJ]; done) | (rw [decide_eq_true eW,eA,decide_eq_true eP,eB,decide_eq_true eQ,decide_eq_true eR,decide_eq_false eJ]; rfl)
          clear eP eQ eR eW
          go_wp2_with (first | (go_at_call 208; refine (c_isWhole _ _).mono ?_; rintro e w' ⟨rfl,rfl⟩))
          go_roundw
          case rel=>exact ⟨k + 1,by go_num,by omega,by rw [← HN.out,clashF_no hlt HC.out],HB.out.alloc (nb HB.out).2.2.2.2.1 _⟩
          case measure=>simp [intOf]; omega
        ·have fR:(l[k].proc == n.proc) = false:=beq_eq_false_iff_ne.2 (by omega)
         have HC:Hid (clashB i n k l[k] = false):=by show _ = _; unfold clashB; first | (rw [decide_eq_true eW,eA,decide_eq_true eP,eB,decide_eq_true eQ,decide_eq_false eR]; done) | (rw [decide_eq_true eW,eA,decide_eq_true eP,eB,decide_eq_true eQ,decide_eq_false eR]; rfl)
         clear eP eQ eR eW
         go_wp2_with (first | (go_at_call 208; refine (c_isWhole _ _).mono ?_; rintro e w' ⟨rfl,rfl⟩))
         go_roundw
         case rel=>exact ⟨k + 1,by go_num,by omega,by rw [← HN.out,clashF_no hlt HC.out],HB.out.alloc (nb HB.out).2.2.2.2.1 _⟩
         case measure=>simp [intOf]; omega
       ·have fQ:((l[k].role:Int) == 3) = false:=beq_eq_false_iff_ne.2 (by omega)
        have HC:Hid (clashB i n k l[k] = false):=by show _ = _; unfold clashB; first | (rw [decide_eq_true eW,eA,decide_eq_true eP,eB,decide_eq_false eQ]; done) | (rw [decide_eq_true eW,eA,decide_eq_true eP,eB,decide_eq_false eQ]; rfl)
        clear eP eQ eW
        go_wp2_with (first | (go_at_call 208; refine (c_isWhole _ _).mono ?_; rintro e w' ⟨rfl,rfl⟩))
        go_roundw
        case rel=>exact ⟨k + 1,by go_num,by omega,by rw [← HN.out,clashF_no hlt HC.out],HB.out.alloc (nb HB.out).2.2.2.2.1 _⟩
        case measure=>simp [intOf]; omega
      ·have HC:Hid (clashB i n k l[k] = true):=by show _ = _; unfold clashB; first | (rw [decide_eq_true eW,eA,decide_eq_true eP,eB]; done) | (rw [decide_eq_true eW,eA,decide_eq_true eP,eB]; rfl)
       clear eP eW
       go_wp2_with (first | (go_at_call 208; refine (c_isWhole _ _).mono ?_; rintro e w' ⟨rfl,rfl⟩))
       go_ret
       exact ⟨ret_bool (by rw [← HN.out,clashF_yes hlt HC.out]),(nb HB.out).2.2.2.2.2.alloc (nb HB.out).2.2.2.2.2.size _⟩
     ·have fP:((n.role:Int) == 3) = false:=beq_eq_false_iff_ne.2 (by omega)
      have HC:Hid (clashB i n k l[k] = false):=by show _ = _; unfold clashB; first | (rw [decide_eq_true eW,eA,decide_eq_false eP]; done) | (rw [decide_eq_true eW,eA,decide_eq_false eP]; rfl)
      clear eP eW
      go_wp2_with (first | (go_at_call 208; refine (c_isWhole _ _).mono ?_; rintro e w' ⟨rfl,rfl⟩))
      go_roundw
      case rel=>exact ⟨k + 1,by go_num,by omega,by rw [← HN.out,clashF_no hlt HC.out],HB.out.alloc (nb HB.out).2.2.2.2.1 _⟩
      case measure=>simp [intOf]; omega
    ·cases eB:isWholeB l[k].role
     ·by_cases eP:n.role = 3
      ·have fP:((n.role:Int) == 3) = true:=beq_iff_eq.2 (by omega)
       by_cases eQ:l[k].role = 3
       ·have fQ:((l[k].role:Int) == 3) = true:=beq_iff_eq.2 (by omega)
        by_cases eR:l[k].proc = n.proc
        ·have fR:(l[k].proc == n.proc) = true:=beq_iff_eq.2 (by omega)
         by_cases eJ:k < i
         ·have fJ:(k:Int) < i:=by omega
          have HC:Hid (clashB i n k l[k] = true):=by show _ = _; unfold clashB; first | (rw [decide_eq_true eW,eA,eB,decide_eq_true eP,decide_eq_true eQ,decide_eq_true eR,decide_eq_true eJ]; done) | (rw [decide_eq_true eW,eA,eB,decide_eq_true eP,decide_eq_true eQ,decide_eq_true eR,decide_eq_true eJ]; rfl)
          clear eP eQ eR eW
          go_wp2_with (first | (go_at_call 208; refine (c_isWhole _ _).mono ?_; rintro e w' ⟨rfl,rfl⟩))
          go_ret
          exact ⟨ret_bool (by rw [← HN.out,clashF_yes hlt HC.out]),(nb HB.out).2.2.2.2.2.alloc (nb HB.out).2.2.2.2.2.size _⟩
         ·have fJ:i ≤ k:=by omega
          have HC:Hid (clashB i n k l[k] = false):=by show _ = _; unfold clashB; first | (rw [decide_eq_true eW,eA,eB,decide_eq_true eP,decide_eq_true eQ,decide_eq_true eR,decide_eq_false eJ]; done) | (rw [decide_eq_true eW,eA,eB,decide_eq_true eP,decide_eq_true eQ,decide_eq_true eR,decide_eq_false eJ]; rfl)
          clear eP eQ eR eW
          go_wp2_with (first | (go_at_call 208; refine (c_isWhole _ _).mono ?_; rintro e w' ⟨rfl,rfl⟩))
          go_roundw
          case rel=>exact ⟨k + 1,by go_num,by omega,by rw [← HN.out,clashF_no hlt HC.out],HB.out.alloc (nb HB.out).2.2.2.2.1 _⟩
          case measure=>simp [intOf]; omega
        ·have fR:(l[k].proc == n.proc) = false:=beq_eq_false_iff_ne.2 (by omega)
         have HC:Hid (clashB i n k l[k] = false):=by show _ = _; unfold clashB; first | (rw [decide_eq_true eW,eA,eB,decide_eq_true eP,decide_eq_true eQ,decide_eq_false eR]; done) | (rw [decide_eq_true eW,eA,eB,decide_eq_true eP,decide_eq_true eQ,decide_eq_false eR]; rfl)
         clear eP eQ eR eW
         go_wp2_with (first | (go_at_call 208; refine (c_isWhole _ _).mono ?_; rintro e w' ⟨rfl,rfl⟩))
         go_roundw
         case rel=>exact ⟨k + 1,by go_num,by omega,by rw [← HN.out,clashF_no hlt HC.out],HB.out.alloc (nb HB.out).2.2.2.2.1 _⟩
         case measure=>simp [intOf]; omega
       ·have fQ:((l[k].role:Int) == 3) = false:=beq_eq_false_iff_ne.2 (by omega)
        have HC:Hid (clashB i n k l[k] = false):=by show _ = _; unfold clashB; first | (rw [decide_eq_true eW,eA,eB,decide_eq_true eP,decide_eq_false eQ]; done) | (rw [decide_eq_true eW,eA,eB,decide_eq_true eP,decide_eq_false eQ]; rfl)
        clear eP eQ eW
        go_wp2_with (first | (go_at_call 208; refine (c_isWhole _ _).mono ?_; rintro e w' ⟨rfl,rfl⟩))
        go_roundw
        case rel=>exact ⟨k + 1,by go_num,by omega,by rw [← HN.out,clashF_no hlt HC.out],HB.out.alloc (nb HB.out).2.2.2.2.1 _⟩
        case measure=>simp [intOf]; omega
      ·have fP:((n.role:Int) == 3) = false:=beq_eq_false_iff_ne.2 (by omega)
       have HC:Hid (clashB i n k l[k] = false):=by show _ = _; unfold clashB; first | (rw [decide_eq_true eW,eA,eB,decide_eq_false eP]; done) | (rw [decide_eq_true eW,eA,eB,decide_eq_false eP]; rfl)
       clear eP eW
       go_wp2_with (first | (go_at_call 208; refine (c_isWhole _ _).mono ?_; rintro e w' ⟨rfl,rfl⟩))
       go_roundw
       case rel=>exact ⟨k + 1,by go_num,by omega,by rw [← HN.out,clashF_no hlt HC.out],HB.out.alloc (nb HB.out).2.2.2.2.1 _⟩
       case measure=>simp [intOf]; omega
     ·by_cases eJ:k < i
      ·have fJ:(k:Int) < i:=by omega
       have HC:Hid (clashB i n k l[k] = true):=by show _ = _; unfold clashB; first | (rw [decide_eq_true eW,eA,eB,decide_eq_true eJ]; done) | (rw [decide_eq_true eW,eA,eB,decide_eq_true eJ]; rfl)
       clear eW
       go_wp2_with (first | (go_at_call 208; refine (c_isWhole _ _).mono ?_; rintro e w' ⟨rfl,rfl⟩))
       go_ret
       exact ⟨ret_bool (by rw [← HN.out,clashF_yes hlt HC.out]),(nb HB.out).2.2.2.2.2.alloc (nb HB.out).2.2.2.2.2.size _⟩
      ·have fJ:i ≤ k:=by omega
       by_cases eP:n.role = 3
       ·have fP:((n.role:Int) == 3) = true:=beq_iff_eq.2 (by omega)
        have HC:Hid (clashB i n k l[k] = true):=by show _ = _; unfold clashB; first | (rw [decide_eq_true eW,eA,eB,decide_eq_false eJ,decide_eq_true eP]; done) | (rw [decide_eq_true eW,eA,eB,decide_eq_false eJ,decide_eq_true eP]; rfl)
        clear eP eW
        go_wp2_with (first | (go_at_call 208; refine (c_isWhole _ _).mono ?_; rintro e w' ⟨rfl,rfl⟩))
        go_ret
        exact ⟨ret_bool (by rw [← HN.out,clashF_yes hlt HC.out]),(nb HB.out).2.2.2.2.2.alloc (nb HB.out).2.2.2.2.2.size _⟩
       ·have fP:((n.role:Int) == 3) = false:=beq_eq_false_iff_ne.2 (by omega)
        have HC:Hid (clashB i n k l[k] = false):=by show _ = _; unfold clashB; first | (rw [decide_eq_true eW,eA,eB,decide_eq_false eJ,decide_eq_false eP]; done) | (rw [decide_eq_true eW,eA,eB,decide_eq_false eJ,decide_eq_false eP]; rfl)
        clear eP eW
        go_wp2_with (first | (go_at_call 208; refine (c_isWhole _ _).mono ?_; rintro e w' ⟨rfl,rfl⟩))
        go_roundw
        case rel=>exact ⟨k + 1,by go_num,by omega,by rw [← HN.out,clashF_no hlt HC.out],HB.out.alloc (nb HB.out).2.2.2.2.1 _⟩
        case measure=>simp [intOf]; omega
   ·have fW:(l[k].word.toList == n.word.toList) = false:=by rw [seq_comm]; exact decide_eq_false eW
    have HC:Hid (clashB i n k l[k] = false):=by show _ = _; unfold clashB; first | (rw [decide_eq_false eW]; done) | (rw [decide_eq_false eW]; rfl)
    clear eW
    go_wp2_with (first | (go_at_call 208; refine (c_isWhole _ _).mono ?_; rintro e w' ⟨rfl,rfl⟩))
    go_roundw
    case rel=>exact ⟨k + 1,by go_num,by omega,by rw [← HN.out,clashF_no hlt HC.out],HB.out.alloc (nb HB.out).2.2.2.2.1 _⟩
    case measure=>simp [intOf]; omega
  ·go_wp2
   go_ret
   exact ⟨ret_bool (by rw [← HN.out,clashF_out hlt]),hbel⟩
end Go.Proofs.YtmfcpbhdggonfaaGreatDoor
namespace Go.Proofs.YtmfcpbhdggonfaaGreatDoor
open Go.RowKit RR
def optOut:Option Nat→Value
 | some p=>.tuple #[.int .i64 p,.bool true]
 | none=>.tuple #[.int .i64 0,.bool false]
set_option maxRecDepth 100000 in
set_option maxHeartbeats 1000000 in
theorem c_misused (ao:Option Addr) (cap:Nat) (l:List Nm) (n:Nm) (w:World) (hl:l.length ≤ 1000) (hi:NmSl w ao l) :
    Calls Tryz.prog 186 #[.slice ao l.length cap,(.agg #[.string n.word,.int .i64 n.at_,.int .i64 n.role,.int .i64 n.proc])] w fun e w'=>e = .returned (.bool (misusedB l n))∧Below w.heap.size w w':=by
 have hx0:=(Below.refl (w.heap.size + 1) (w.alloc (.cells #[.string n.word,.int .i64 n.at_,.int .i64 n.role,.int .i64 n.proc] 186)))
 obtain ⟨n0,n1,n2,n3,hsz,hbel⟩:=nb hx0
 have hsl:=hi.below hbel
 by_cases h4:n.role = 4
 ·have f4:((n.role:Int) == 4) = true:=beq_iff_eq.2 (by omega)
  cases hg:isGivenB l n.word 0
  ·have HE:Hid (misusedB l n = !isParamB l n.word n.proc):=by show _ = _; unfold misusedB; rw [if_pos h4,hg]; rfl
   clear h4
   go_enter Tryz.func186,Tryz.ntmps186
   go_wp2_with fail
   refine (c_isGiven _ _ l _ 0 _ hl hsl).mono ?_
   rintro e w1 ⟨rfl,hb1⟩
   have hx1:=hx0.trans (hb1.mono hsz)
   obtain ⟨m0,m1,m2,m3,hsz1,hbel1⟩:=nb hx1
   have hsl1:=hi.below hbel1
   go_wp2_with fail
   refine (c_isParam _ _ l _ _ _ hl hsl1).mono ?_
   rintro e w2 ⟨rfl,hb2⟩
   go_wp2_with fail
   go_ret
   exact ⟨ret_bool HE.out.symm,hbel1.trans (hb2.mono (Nat.le_of_lt hsz1))⟩
  ·have HE:Hid (misusedB l n = false):=by show _ = _; unfold misusedB; rw [if_pos h4,hg]; rfl
   clear h4
   go_enter Tryz.func186,Tryz.ntmps186
   go_wp2_with fail
   refine (c_isGiven _ _ l _ 0 _ hl hsl).mono ?_
   rintro e w1 ⟨rfl,hb1⟩
   go_wp2_with fail
   go_ret
   exact ⟨ret_bool HE.out.symm,hbel.trans (hb1.mono (Nat.le_of_lt hsz))⟩
 have f4:((n.role:Int) == 4) = false:=beq_eq_false_iff_ne.2 (by omega)
 by_cases h5:n.role = 5
 ·have f5:((n.role:Int) == 5) = true:=beq_iff_eq.2 (by omega)
  have HE:Hid (misusedB l n = !isGivenB l n.word 1):=by show _ = _; unfold misusedB; rw [if_neg h4,if_pos h5]
  clear h4 h5
  go_enter Tryz.func186,Tryz.ntmps186
  go_wp2_with fail
  refine (c_isGiven _ _ l _ 1 _ hl hsl).mono ?_
  rintro e w1 ⟨rfl,hb1⟩
  go_wp2_with fail
  go_ret
  exact ⟨ret_bool HE.out.symm,hbel.trans (hb1.mono (Nat.le_of_lt hsz))⟩
 have f5:((n.role:Int) == 5) = false:=beq_eq_false_iff_ne.2 (by omega)
 by_cases h6:n.role = 6
 ·have f6:((n.role:Int) == 6) = true:=beq_iff_eq.2 (by omega)
  have HE:Hid (misusedB l n = !isGivenB l n.word 2):=by show _ = _; unfold misusedB; rw [if_neg h4,if_neg h5,if_pos (.inl h6)]
  clear h4 h5 h6
  go_enter Tryz.func186,Tryz.ntmps186
  go_wp2_with fail
  refine (c_isGiven _ _ l _ 2 _ hl hsl).mono ?_
  rintro e w1 ⟨rfl,hb1⟩
  go_wp2_with fail
  go_ret
  exact ⟨ret_bool HE.out.symm,hbel.trans (hb1.mono (Nat.le_of_lt hsz))⟩
 have f6:((n.role:Int) == 6) = false:=beq_eq_false_iff_ne.2 (by omega)
 by_cases h7:n.role = 7
 ·have f7:((n.role:Int) == 7) = true:=beq_iff_eq.2 (by omega)
  have HE:Hid (misusedB l n = !isGivenB l n.word 2):=by show _ = _; unfold misusedB; rw [if_neg h4,if_neg h5,if_pos (.inr h7)]
  clear h4 h5 h6 h7
  go_enter Tryz.func186,Tryz.ntmps186
  go_wp2_with fail
  refine (c_isGiven _ _ l _ 2 _ hl hsl).mono ?_
  rintro e w1 ⟨rfl,hb1⟩
  go_wp2_with fail
  go_ret
  exact ⟨ret_bool HE.out.symm,hbel.trans (hb1.mono (Nat.le_of_lt hsz))⟩
 have f7:((n.role:Int) == 7) = false:=beq_eq_false_iff_ne.2 (by omega)
 have HE:Hid (misusedB l n = false):=by show _ = _; unfold misusedB; rw [if_neg h4,if_neg h5,if_neg (fun h=>h.elim h6 h7)]
 clear h4 h5 h6 h7
 go_enter Tryz.func186,Tryz.ntmps186
 go_wp2_with fail
 go_ret
 exact ⟨ret_bool HE.out.symm,hbel⟩
set_option maxRecDepth 100000 in
set_option maxHeartbeats 1000000 in
theorem c_firstGivenTwice (ao:Option Addr) (cap:Nat) (l:List Nm) (w:World) (hl:l.length ≤ 1000) (hi:NmSl w ao l) :
    Calls Tryz.prog 138 #[.slice ao l.length cap] w fun e w'=>e = .returned (optOut (twiceP l))∧Below w.heap.size w w':=by
 go_enter Tryz.func138,Tryz.ntmps138
 go_wp2
 go_loopw [8] (fun u wr=>∃ k:Nat,u = .int .i64 k∧k ≤ l.length∧firstF (fun i n=>clashF l i n 0) l k = twiceP l∧Below w.heap.size w wr) (fun u _=>l.length - (intOf u).toNat)
 case atStart=>exact ⟨0,rfl,Nat.zero_le _,rfl,Below.refl _ _⟩
 case round =>
  obtain ⟨k,rfl,hk,hn,hbel⟩:=hrel
  have HN:=hide hn
  clear hn
  by_cases hlt:k < l.length
  ·have hsl:=hi.below hbel
   obtain ⟨b,o,hb,hao,c1,c2,c3,c4⟩:=hsl k hlt
   subst hao
   have hsl2:=fun ob=>hsl.below ((Below.refl _ _).alloc (Nat.le_refl _) ob)
   cases hc:clashF l k l[k] 0
   ·have HE:=hide (firstF_no (p:=fun i n=>clashF l i n 0) hlt hc)
    go_wp2_with fail
    refine (c_givenTwice _ _ l k l[k] _ hl (hsl2 _)).mono ?_
    rintro e w1 ⟨rfl,hb1⟩
    go_wp2_with fail
    go_roundw
    case rel=>exact ⟨k + 1,by go_num,by omega,by rw [← HN.out,HE.out],(hbel.alloc hbel.size _).trans (hb1.mono (Nat.le_trans hbel.size (by simp)))⟩
    case measure=>simp [intOf]; omega
   ·have HE:=hide (firstF_yes (p:=fun i n=>clashF l i n 0) hlt hc)
    go_wp2_with fail
    refine (c_givenTwice _ _ l k l[k] _ hl (hsl2 _)).mono ?_
    rintro e w1 ⟨rfl,hb1⟩
    have hc1:=(hb1.cell (p:=⟨wr.heap.size,1,none⟩) (by simp))
    simp at hc1
    go_wp2_with fail
    go_ret2
    exact ⟨by rw [← HN.out,HE.out]; rfl,(hbel.alloc hbel.size _).trans (hb1.mono (Nat.le_trans hbel.size (by simp)))⟩
  ·go_wp2
   go_ret2
   exact ⟨by rw [← HN.out,firstF_out hlt]; rfl,hbel⟩
set_option maxRecDepth 100000 in
set_option maxHeartbeats 1000000 in
theorem c_firstMisused (ao:Option Addr) (cap:Nat) (l:List Nm) (w:World) (hl:l.length ≤ 1000) (hi:NmSl w ao l) :
    Calls Tryz.prog 139 #[.slice ao l.length cap] w fun e w'=>e = .returned (optOut (misP l))∧Below w.heap.size w w':=by
 go_enter Tryz.func139,Tryz.ntmps139
 go_wp2
 go_loopw [8] (fun u wr=>∃ k:Nat,u = .int .i64 k∧k ≤ l.length∧firstF (fun _ n=>misusedB l n) l k = misP l∧Below w.heap.size w wr) (fun u _=>l.length - (intOf u).toNat)
 case atStart=>exact ⟨0,rfl,Nat.zero_le _,rfl,Below.refl _ _⟩
 case round =>
  obtain ⟨k,rfl,hk,hn,hbel⟩:=hrel
  have HN:=hide hn
  clear hn
  by_cases hlt:k < l.length
  ·have hsl:=hi.below hbel
   obtain ⟨b,o,hb,hao,c1,c2,c3,c4⟩:=hsl k hlt
   subst hao
   have hsl2:=fun ob=>hsl.below ((Below.refl _ _).alloc (Nat.le_refl _) ob)
   cases hc:misusedB l l[k]
   ·have HE:=hide (firstF_no (p:=fun _ n=>misusedB l n) hlt hc)
    go_wp2_with fail
    refine (c_misused _ _ l l[k] _ hl (hsl2 _)).mono ?_
    rintro e w1 ⟨rfl,hb1⟩
    go_wp2_with fail
    go_roundw
    case rel=>exact ⟨k + 1,by go_num,by omega,by rw [← HN.out,HE.out],(hbel.alloc hbel.size _).trans (hb1.mono (Nat.le_trans hbel.size (by simp)))⟩
    case measure=>simp [intOf]; omega
   ·have HE:=hide (firstF_yes (p:=fun _ n=>misusedB l n) hlt hc)
    go_wp2_with fail
    refine (c_misused _ _ l l[k] _ hl (hsl2 _)).mono ?_
    rintro e w1 ⟨rfl,hb1⟩
    have hc1:=(hb1.cell (p:=⟨wr.heap.size,1,none⟩) (by simp))
    simp at hc1
    go_wp2_with fail
    go_ret2
    exact ⟨by rw [← HN.out,HE.out]; rfl,(hbel.alloc hbel.size _).trans (hb1.mono (Nat.le_trans hbel.size (by simp)))⟩
  ·go_wp2
   go_ret2
   exact ⟨by rw [← HN.out,firstF_out hlt]; rfl,hbel⟩
end Go.Proofs.YtmfcpbhdggonfaaGreatDoor
namespace Go.Proofs.YtmfcpbhdggonfaaGreatDoor
open Go.RowKit RR
def CtsAt (w:World) (B:Nat) (c:Cts):Prop:=w.heap[B]? = some (.cells #[.int .i64 c.sh,.int .i64 c.lo,.int .i64 c.pr,.int .i64 c.pa,.int .i64 c.th] 282 (0,0))
theorem CtsAt.cells {w:World} {B:Nat} {c:Cts} (h:CtsAt w B c):w.cell? ⟨B,0,none⟩ = some (.int .i64 c.sh)∧w.cell? ⟨B,1,none⟩ = some (.int .i64 c.lo)∧w.cell? ⟨B,2,none⟩ = some (.int .i64 c.pr)∧w.cell? ⟨B,3,none⟩ = some (.int .i64 c.pa)∧w.cell? ⟨B,4,none⟩ = some (.int .i64 c.th)∧(∀ i,w.frozen? ⟨B,i,none⟩ = false):=by
 unfold CtsAt at h
 refine ⟨?_,?_,?_,?_,?_,fun i=>?_⟩ <;> simp [World.cell?,World.frozen?,h]
set_option maxRecDepth 100000 in
set_option maxHeartbeats 1000000 in
theorem c_tooMany (w:World) (B:Nat) (c:Cts) (h:CtsAt w B c) :
    Calls Tryz.prog 184 #[.pointer (some ⟨B,0,none⟩)] w fun e w'=>e = .returned (.bool c.too)∧w' = w:=by
 obtain ⟨c0,c1,c2,c3,c4,_⟩:=h.cells
 by_cases h0:4 < c.sh
 ·have HE:Hid (c.too = true):=by show _ = _; unfold Cts.too; simp; omega
  have g0:(4:Int) < c.sh:=by omega
  have d0:decide ((4:Int) < c.sh) = true:=decide_eq_true (by omega)
  go_enter Tryz.func184,Tryz.ntmps184
  go_wp2_with fail
  go_ret
  exact ⟨ret_bool (by rw [HE.out]),rfl⟩
 by_cases h1:3 < c.lo
 ·have HE:Hid (c.too = true):=by show _ = _; unfold Cts.too; simp; omega
  have g0:(c.sh:Int) ≤ 4:=by omega
  have d0:decide ((4:Int) < c.sh) = false:=decide_eq_false (by omega)
  have g1:(3:Int) < c.lo:=by omega
  have d1:decide ((3:Int) < c.lo) = true:=decide_eq_true (by omega)
  go_enter Tryz.func184,Tryz.ntmps184
  go_wp2_with fail
  go_ret
  exact ⟨ret_bool (by rw [HE.out]),rfl⟩
 by_cases h2:4 < c.pr
 ·have HE:Hid (c.too = true):=by show _ = _; unfold Cts.too; simp; omega
  have g0:(c.sh:Int) ≤ 4:=by omega
  have d0:decide ((4:Int) < c.sh) = false:=decide_eq_false (by omega)
  have g1:(c.lo:Int) ≤ 3:=by omega
  have d1:decide ((3:Int) < c.lo) = false:=decide_eq_false (by omega)
  have g2:(4:Int) < c.pr:=by omega
  have d2:decide ((4:Int) < c.pr) = true:=decide_eq_true (by omega)
  go_enter Tryz.func184,Tryz.ntmps184
  go_wp2_with fail
  go_ret
  exact ⟨ret_bool (by rw [HE.out]),rfl⟩
 by_cases h3:3 < c.pa
 ·have HE:Hid (c.too = true):=by show _ = _; unfold Cts.too; simp; omega
  have g0:(c.sh:Int) ≤ 4:=by omega
  have d0:decide ((4:Int) < c.sh) = false:=decide_eq_false (by omega)
  have g1:(c.lo:Int) ≤ 3:=by omega
  have d1:decide ((3:Int) < c.lo) = false:=decide_eq_false (by omega)
  have g2:(c.pr:Int) ≤ 4:=by omega
  have d2:decide ((4:Int) < c.pr) = false:=decide_eq_false (by omega)
  have g3:(3:Int) < c.pa:=by omega
  have d3:decide ((3:Int) < c.pa) = true:=decide_eq_true (by omega)
  go_enter Tryz.func184,Tryz.ntmps184
  go_wp2_with fail
  go_ret
  exact ⟨ret_bool (by rw [HE.out]),rfl⟩
 by_cases h4:3 < c.th
 ·have HE:Hid (c.too = true):=by show _ = _; unfold Cts.too; simp; omega
  have g0:(c.sh:Int) ≤ 4:=by omega
  have d0:decide ((4:Int) < c.sh) = false:=decide_eq_false (by omega)
  have g1:(c.lo:Int) ≤ 3:=by omega
  have d1:decide ((3:Int) < c.lo) = false:=decide_eq_false (by omega)
  have g2:(c.pr:Int) ≤ 4:=by omega
  have d2:decide ((4:Int) < c.pr) = false:=decide_eq_false (by omega)
  have g3:(c.pa:Int) ≤ 3:=by omega
  have d3:decide ((3:Int) < c.pa) = false:=decide_eq_false (by omega)
  have g4:(3:Int) < c.th:=by omega
  have d4:decide ((3:Int) < c.th) = true:=decide_eq_true (by omega)
  go_enter Tryz.func184,Tryz.ntmps184
  go_wp2_with fail
  go_ret
  exact ⟨ret_bool (by rw [HE.out]),rfl⟩
 have g0:(c.sh:Int) ≤ 4:=by omega
 have d0:decide ((4:Int) < c.sh) = false:=decide_eq_false (by omega)
 have g1:(c.lo:Int) ≤ 3:=by omega
 have d1:decide ((3:Int) < c.lo) = false:=decide_eq_false (by omega)
 have g2:(c.pr:Int) ≤ 4:=by omega
 have d2:decide ((4:Int) < c.pr) = false:=decide_eq_false (by omega)
 have g3:(c.pa:Int) ≤ 3:=by omega
 have d3:decide ((3:Int) < c.pa) = false:=decide_eq_false (by omega)
 have g4:(c.th:Int) ≤ 3:=by omega
 have d4:decide ((3:Int) < c.th) = false:=decide_eq_false (by omega)
 have HE:Hid (c.too = false):=by show _ = _; unfold Cts.too; simp; omega
 go_enter Tryz.func184,Tryz.ntmps184
 go_wp2_with fail
 go_ret
 exact ⟨ret_bool (by rw [HE.out]),rfl⟩
end Go.Proofs.YtmfcpbhdggonfaaGreatDoor
namespace Go.Proofs.YtmfcpbhdggonfaaGreatDoor
open Go.RowKit RR
structure Only (B:Nat) (w w':World):Prop where
 os:w'.os = w.os
 tape:w'.tape = w.tape
 output:w'.output = w.output
 size:w'.heap.size = w.heap.size
 block:∀ k,k ≠ B→w'.heap[k]? = w.heap[k]?
theorem Only.refl (B:Nat) (w:World):Only B w w:=⟨rfl,rfl,rfl,rfl,fun _ _=>rfl⟩
theorem Only.set {B:Nat} {a w:World} (h:Only B a w) (o:Nat) (v:Value):Only B a (w.setCell ⟨B,o,none⟩ v) :=
 ⟨h.os,h.tape,h.output,by rw [← h.size]; simp [World.setCell],fun k hk=>(Below.heap_setCell w ⟨B,o,none⟩ v k hk).trans (h.block k hk)⟩
theorem Only.cell {B:Nat} {w w':World} (h:Only B w w') {p:Addr} (hp:p.block ≠ B):w'.cell? p = w.cell? p:=World.cell?_of_block (w:=w) (h.block p.block hp)
theorem Only.below {B:Nat} {w w':World} (h:Only B w w'):Below B w w':=⟨h.os,h.tape,h.output,Nat.le_of_eq h.size.symm,fun k hk=>h.block k (by omega)⟩
theorem cts_set {w:World} {B:Nat} {cs:Array Value} {T:TypeId} (h:w.heap[B]? = some (.cells cs T (0,0))) (o:Nat) (v:Value):(w.setCell ⟨B,o,none⟩ v).heap[B]? = some (.cells (cs.setIfInBounds o v) T (0,0)):=by
 simp only [World.setCell,Array.getElem?_modify]
 rw [if_pos trivial,h]
 rfl
set_option maxRecDepth 100000 in
set_option maxHeartbeats 1000000 in
theorem c_add (w:World) (B:Nat) (c:Cts) (r:Nat) (h:CtsAt w B c) (hb:c.sh ≤ 1000∧c.lo ≤ 1000∧c.pr ≤ 1000∧c.pa ≤ 1000∧c.th ≤ 1000) :
    Calls Tryz.prog 183 #[.pointer (some ⟨B,0,none⟩),.int .i64 r] w fun e w'=>e = .returned (.tuple #[])∧CtsAt w' B (c.add r)∧Only B w w':=by
 obtain ⟨b0,b1,b2,b3,b4⟩:=hb
 obtain ⟨c0,c1,c2,c3,c4,hf⟩:=h.cells
 have f0:=hf 0
 have f1:=hf 1
 have f2:=hf 2
 have f3:=hf 3
 have f4:=hf 4
 clear hf
 by_cases h0:r = 0
 ·have e0:((r:Int) == 0) = true:=beq_iff_eq.2 (by omega)
  have HE:Hid (c.add r = { c with sh:=c.sh + 1 }):=by show _ = _; unfold Cts.add; rw [if_pos h0]
  have H:=hide h
  clear h h0
  go_enter Tryz.func183,Tryz.ntmps183
  go_wp2_with fail
  go_end0
  refine ⟨rfl,?_,(Only.refl _ _).set _ _⟩
  rw [HE.out]
  exact cts_set H.out 0 _
 by_cases h1:r = 1
 ·have e1:((r:Int) == 1) = true:=beq_iff_eq.2 (by omega)
  have e0:((r:Int) == 0) = false:=beq_eq_false_iff_ne.2 (by omega)
  have HE:Hid (c.add r = { c with lo:=c.lo + 1 }):=by show _ = _; unfold Cts.add; rw [if_neg h0,if_pos h1]
  have H:=hide h
  clear h h0 h1
  go_enter Tryz.func183,Tryz.ntmps183
  go_wp2_with fail
  go_end0
  refine ⟨rfl,?_,(Only.refl _ _).set _ _⟩
  rw [HE.out]
  exact cts_set H.out 1 _
 by_cases h2:r = 2
 ·have e2:((r:Int) == 2) = true:=beq_iff_eq.2 (by omega)
  have e0:((r:Int) == 0) = false:=beq_eq_false_iff_ne.2 (by omega)
  have e1:((r:Int) == 1) = false:=beq_eq_false_iff_ne.2 (by omega)
  have HE:Hid (c.add r = { c with pr:=c.pr + 1,pa:=0 }):=by show _ = _; unfold Cts.add; rw [if_neg h0,if_neg h1,if_pos h2]
  have H:=hide h
  clear h h0 h1 h2
  go_enter Tryz.func183,Tryz.ntmps183
  go_wp2_with fail
  go_end0
  refine ⟨rfl,?_,((Only.refl _ _).set _ _).set _ _⟩
  rw [HE.out]
  exact cts_set (cts_set H.out 2 _) 3 _
 by_cases h3:r = 3
 ·have e3:((r:Int) == 3) = true:=beq_iff_eq.2 (by omega)
  have e0:((r:Int) == 0) = false:=beq_eq_false_iff_ne.2 (by omega)
  have e1:((r:Int) == 1) = false:=beq_eq_false_iff_ne.2 (by omega)
  have e2:((r:Int) == 2) = false:=beq_eq_false_iff_ne.2 (by omega)
  have HE:Hid (c.add r = { c with pa:=c.pa + 1 }):=by show _ = _; unfold Cts.add; rw [if_neg h0,if_neg h1,if_neg h2,if_pos h3]
  have H:=hide h
  clear h h0 h1 h2 h3
  go_enter Tryz.func183,Tryz.ntmps183
  go_wp2_with fail
  go_end0
  refine ⟨rfl,?_,(Only.refl _ _).set _ _⟩
  rw [HE.out]
  exact cts_set H.out 3 _
 by_cases h7:r = 7
 ·have e7:((r:Int) == 7) = true:=beq_iff_eq.2 (by omega)
  have e0:((r:Int) == 0) = false:=beq_eq_false_iff_ne.2 (by omega)
  have e1:((r:Int) == 1) = false:=beq_eq_false_iff_ne.2 (by omega)
  have e2:((r:Int) == 2) = false:=beq_eq_false_iff_ne.2 (by omega)
  have e3:((r:Int) == 3) = false:=beq_eq_false_iff_ne.2 (by omega)
  have HE:Hid (c.add r = { c with th:=c.th + 1 }):=by show _ = _; unfold Cts.add; rw [if_neg h0,if_neg h1,if_neg h2,if_neg h3,if_pos h7]
  have H:=hide h
  clear h h0 h1 h2 h3 h7
  go_enter Tryz.func183,Tryz.ntmps183
  go_wp2_with fail
  go_end0
  refine ⟨rfl,?_,(Only.refl _ _).set _ _⟩
  rw [HE.out]
  exact cts_set H.out 4 _
 have e0:((r:Int) == 0) = false:=beq_eq_false_iff_ne.2 (by omega)
 have e1:((r:Int) == 1) = false:=beq_eq_false_iff_ne.2 (by omega)
 have e2:((r:Int) == 2) = false:=beq_eq_false_iff_ne.2 (by omega)
 have e3:((r:Int) == 3) = false:=beq_eq_false_iff_ne.2 (by omega)
 have e7:((r:Int) == 7) = false:=beq_eq_false_iff_ne.2 (by omega)
 have HE:Hid (c.add r = c):=by show _ = _; unfold Cts.add; rw [if_neg h0,if_neg h1,if_neg h2,if_neg h3,if_neg h7]
 have H:=hide h
 clear h h0 h1 h2 h3 h7
 go_enter Tryz.func183,Tryz.ntmps183
 go_wp2_with fail
 go_end0
 exact ⟨rfl,by rw [HE.out]; exact H.out,Only.refl _ _⟩
theorem add_le (c:Cts) (r k:Nat) (h:c.sh ≤ k∧c.lo ≤ k∧c.pr ≤ k∧c.pa ≤ k∧c.th ≤ k):(c.add r).sh ≤ k + 1∧(c.add r).lo ≤ k + 1∧(c.add r).pr ≤ k + 1∧(c.add r).pa ≤ k + 1∧(c.add r).th ≤ k + 1:=by
 unfold Cts.add
 (repeat' split) <;> (try dsimp only) <;> omega
set_option maxRecDepth 100000 in
set_option maxHeartbeats 1000000 in
theorem c_firstTooMany (ao:Option Addr) (cap:Nat) (l:List Nm) (w:World) (hl:l.length ≤ 999) (hi:NmSl w ao l) :
    Calls Tryz.prog 137 #[.slice ao l.length cap] w fun e w'=>e = .returned (optOut (manyP l))∧Below w.heap.size w w':=by
 go_enter Tryz.func137,Tryz.ntmps137
 go_wp2
 go_loopw [9] (fun u wr=>∃ (k:Nat) (c:Cts),u = .int .i64 k∧k ≤ l.length∧manyF2 (l.drop k) c = manyP l∧(c.sh ≤ k∧c.lo ≤ k∧c.pr ≤ k∧c.pa ≤ k∧c.th ≤ k)∧CtsAt wr w.heap.size c∧w.heap.size < wr.heap.size∧Below w.heap.size w wr) (fun u _=>l.length - (intOf u).toNat)
 case atStart=>exact ⟨0,⟨0,0,0,0,0⟩,rfl,Nat.zero_le _,rfl,by simp,heap_alloc_new w _,by simp,(Below.refl _ _).alloc (Nat.le_refl _) _⟩
 case round =>
  obtain ⟨k,c,rfl,hk,hn,hcb,hct,hsz,hbel⟩:=hrel
  have HN:=hide hn
  clear hn
  by_cases hlt:k < l.length
  ·have hsl:=hi.below hbel
   obtain ⟨b,o,hb,hao,c1,c2,c3,c4⟩:=hsl k hlt
   subst hao
   have HD:Hid (l.drop k = l[k] :: l.drop (k + 1)):=List.drop_eq_getElem_cons hlt
   have hct1:∀ ob,CtsAt (wr.alloc ob) w.heap.size c:=fun ob=>(Below.heap_alloc wr ob _ hsz).trans hct
   have hle:=add_le c l[k].role k hcb
   cases hT:(c.add l[k].role).too
   ·have HE:Hid (manyF2 (l.drop k) c = manyF2 (l.drop (k + 1)) (c.add l[k].role)):=by show _ = _; rw [HD.out,manyF2,hT]; rfl
    go_wp2_with fail
    refine (c_add _ _ c _ (hct1 _) (by omega)).mono ?_
    rintro e w1 ⟨rfl,hc1,ho1⟩
    go_wp2_with fail
    refine (c_tooMany _ _ _ hc1).mono ?_
    rintro e w2 ⟨rfl,hw2⟩
    subst hw2
    go_wp2_with fail
    go_roundw
    case rel=>exact ⟨k + 1,c.add l[k].role,by go_num,by omega,by rw [← HN.out,HE.out],hle,hc1,by rw [ho1.size]; simp; omega,(hbel.alloc hbel.size _).trans ho1.below⟩
    case measure=>simp [intOf]; omega
   ·have HE:Hid (manyF2 (l.drop k) c = some l[k].at_):=by show _ = _; rw [HD.out,manyF2,hT]; rfl
    go_wp2_with fail
    refine (c_add _ _ c _ (hct1 _) (by omega)).mono ?_
    rintro e w1 ⟨rfl,hc1,ho1⟩
    have hcl:=ho1.cell (p:=⟨wr.heap.size,1,none⟩) (by show wr.heap.size ≠ w.heap.size; omega)
    simp at hcl
    go_wp2_with fail
    refine (c_tooMany _ _ _ hc1).mono ?_
    rintro e w2 ⟨rfl,hw2⟩
    subst hw2
    go_wp2_with fail
    go_ret2
    exact ⟨by rw [← HN.out,HE.out]; rfl,(hbel.alloc hbel.size _).trans ho1.below⟩
  ·go_wp2
   go_ret2
   exact ⟨by rw [← HN.out,List.drop_of_length_le (by omega)]; rfl,hbel⟩
end Go.Proofs.YtmfcpbhdggonfaaGreatDoor
