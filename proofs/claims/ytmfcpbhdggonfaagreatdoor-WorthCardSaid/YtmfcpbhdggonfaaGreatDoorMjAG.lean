/- Contracts of the statements' own package: the maker of EXPRs: leaf. -/
import Derived.Test.YtmfcpbhdggonfaaGreatDoorMjAD
import Derived.Test.YtmfcpbhdggonfaaGreatDoorMjAE
import Derived.Test.YtmfcpbhdggonfaaGreatDoorMjAF
import Derived.Deep.RegionHeld
namespace Go.Proofs.YtmfcpbhdggonfaaGreatDoor
open Go.RowKit RR
def pcV (p:Pc):Value:=.agg #[.string (flat p.ps),.bool p.v,.bool p.a]
def MkAt (F B:Nat) (a1 a2:Option Addr) (n:Nat) (ch:Bool) (w:World):Prop:=w.heap[B]? = some (.cells #[.pointer (some ⟨F,0,none⟩),.slice a1 n n,.slice a2 n n,.bool ch] 58 (0,0))
def MRow (F:Nat) (E:List (ByteArray × Bool)) (a1 a2:Option Addr) (w:World):Prop :=
 0 < E.length→∃ R S,a1 = some ⟨R,0,none⟩∧a2 = some ⟨S,0,none⟩∧R ≠ F∧S ≠ F∧w.heap[R]? = some (.cells (E.map fun x=>Value.string x.1).toArray 9 (0,0))∧w.heap[S]? = some (.cells (E.map fun x=>Value.bool x.2).toArray 4 (0,0))
structure Kf (N F:Nat) (w w':World):Prop where
 below:Below N w w'
 keep:∀ j,j < w.heap.size→j ≠ F→w'.heap[j]? = w.heap[j]?
theorem Kf.refl (N F:Nat) (w:World):Kf N F w w:=⟨Below.refl _ _,fun _ _ _=>rfl⟩
theorem Kf.trans {N F:Nat} {a b c:World} (h:Kf N F a b) (k:Kf N F b c):Kf N F a c:=⟨h.below.trans k.below,fun j hj h1=>(k.keep j (Nat.lt_of_lt_of_le hj h.below.size) h1).trans (h.keep j hj h1)⟩
theorem Kf.mk_ {N F B:Nat} {a1 a2:Option Addr} {n:Nat} {ch:Bool} {w w':World} (h:Kf N F w w') (hB:B ≠ F) (hm:MkAt F B a1 a2 n ch w):MkAt F B a1 a2 n ch w':=(h.keep B (Array.getElem?_eq_some_iff.1 hm).1 hB).trans hm
theorem Kf.row {N F:Nat} {E:List (ByteArray × Bool)} {a1 a2:Option Addr} {w w':World} (h:Kf N F w w') (hm:MRow F E a1 a2 w):MRow F E a1 a2 w':=fun hE=>by
 obtain ⟨R,S,e1,e2,h1,h2,h3,h4⟩:=hm hE
 exact ⟨R,S,e1,e2,h1,h2,(h.keep R (Array.getElem?_eq_some_iff.1 h3).1 h1).trans h3,(h.keep S (Array.getElem?_eq_some_iff.1 h4).1 h2).trans h4⟩
theorem Kf.alloc (N F:Nat) (w:World) (o:Obj) (h:N ≤ w.heap.size):Kf N F w (w.alloc o):=⟨(Below.refl _ _).alloc h _,fun _ hj _=>Below.heap_alloc _ _ _ hj⟩
theorem k_nextM (N F B:Nat) (raw:ByteArray) (i n:Nat) (z:Int) (hz:z = n) (hn:0 < n∧n ≤ 16) (hr:raw.size ≤ 9223372036854775807) (w:World) (hF:FeedAt F raw i w) (hi:i ≤ raw.size) (hN:N ≤ F) (hB:B ≠ F) :
    Calls Tryz.prog 39 #[.pointer (some ⟨F,0,none⟩),.int .i64 z] w fun e w'=>e = .returned (.int .i64 (nxW raw n i).1)∧FeedAt F raw (nxW raw n i).2 w'∧Kf N F w w':=by
 subst hz
 refine (k_next N F B raw i n hn hr w hF hi hN hB).mono ?_
 rintro e w' ⟨rfl,h1,h2,h3⟩
 refine ⟨rfl,h1,h3.below,fun j hj hf=>?_⟩
 by_cases hb:j = B
 ·rw [hb]; exact h2
 ·exact h3.keep j hj hf hb
theorem Kf.drew {N F:Nat} {w w':World} (h:Kf N F w.drew w'):Kf N F w w':=⟨(Below.refl N w).drew.trans h.below,h.keep⟩
theorem Kf.set {N F P o:Nat} {x:Value} {w w':World} (h:Kf N F w w') (hP:w.heap.size ≤ P) (hN:N ≤ P):Kf N F w (w'.setCell ⟨P,o,none⟩ x):=⟨h.below.setCell (p:=⟨P,o,none⟩) hN _,fun j hj hf=>(wset_ne _ _ _ _ _ (by omega)).trans (h.keep j hj hf)⟩
theorem feed_set {F P o i:Nat} {raw:ByteArray} {x:Value} {w:World} (h:FeedAt F raw i w) (hP:P ≠ F):FeedAt F raw i (w.setCell ⟨P,o,none⟩ x):=(wset_ne _ _ _ _ _ (Ne.symm hP)).trans h
theorem pc_ret {fn:Func} {p:Tmp} {R:Ending→World→Prop} {act:Act} {w:World} {P:Nat} {pc:Pc} (h:fn.results = #[.cell p 60]) (ht:act.tmps.getD p undef = .pointer (some ⟨P,0,none⟩)) (hd:act.defers = []) (hP:w.heap[P]? = some (.cells #[.string (flat pc.ps),.bool pc.v,.bool pc.a] 60 (0,0))) (hR:R (.returned (pcV pc)) w):bodyPost Tryz.prog fn R .ret act w :=
 bodyPost_ret (res_cell (cs:=[.string (flat pc.ps),.bool pc.v,.bool pc.a]) h ht (range_whole hP) Tryz.underlying60 rfl (by kernel_rfl)) hd hR
theorem flat1M (t:ByteArray):flat [t] = t:=ByteArray.append_empty
theorem Kf.drw {N F:Nat} {w w':World} (h:Kf N F w w'):Kf N F w w'.drew:=⟨h.below.drew,h.keep⟩
theorem set3M {w:World} {P:Nat} {x y z a b c:Value} {T:TypeId} (h:w.heap[P]? = some (.cells #[x,y,z] T (0,0))):(((w.setCell ⟨P,0,none⟩ a).setCell ⟨P,1,none⟩ b).setCell ⟨P,2,none⟩ c).heap[P]? = some (.cells #[a,b,c] T (0,0)):=wset (wset (wset h 0 a) 1 b) 2 c
set_option maxRecDepth 100000 in
set_option maxHeartbeats 2000000 in
theorem m_leaf (N F B:Nat) (raw:ByteArray) (i:Nat) (E:List (ByteArray × Bool)) (ch:Bool) (a1 a2:Option Addr) (hr:raw.size ≤ 9223372036854775807) (w:World) (hF:FeedAt F raw i w) (hM:MkAt F B a1 a2 E.length ch w) (hR:MRow F E a1 a2 w) (hi:i ≤ raw.size) (hN:N ≤ F) (hB:B ≠ F) (hE:E.length ≤ 5) :
    Calls Tryz.prog 73 #[.pointer (some ⟨B,0,none⟩)] w fun e w'=>e = .returned (pcV (leafM raw E ch i).1)∧FeedAt F raw (leafM raw E ch i).2 w'∧Kf N F w w':=by
 have hlF:F < w.heap.size:=(Array.getElem?_eq_some_iff.1 hF).1
 have hlB:B < w.heap.size:=(Array.getElem?_eq_some_iff.1 hM).1
 have HF:=hide hF
 have HM:=hide hM
 have HR:=hide hR
 clear hF hM hR
 go_enter Tryz.func73,Tryz.ntmps73
 go_upto_region 1 with fail
 have hz:=World.size_alloc w (.cells #[.string ⟨#[]⟩,.bool false,.bool false] 60)
 have hP:(w.alloc (.cells #[.string ⟨#[]⟩,.bool false,.bool false] 60)).heap[w.heap.size]? = some (.cells #[.string ⟨#[]⟩,.bool false,.bool false] 60 (0,0)):=heap_alloc_new _ _
 have HK1:Hid (Kf N F w (w.alloc (.cells #[.string ⟨#[]⟩,.bool false,.bool false] 60))):=Kf.alloc N F w _ (by omega)
 have HF1:Hid (FeedAt F raw i (w.alloc (.cells #[.string ⟨#[]⟩,.bool false,.bool false] 60))):=(Below.heap_alloc _ _ _ hlF).trans HF.out
 have HM1:=hide (HK1.out.mk_ hB HM.out)
 clear HF HM
 generalize w.alloc (.cells #[.string ⟨#[]⟩,.bool false,.bool false] 60) = w1 at *
 have hPF:w.heap.size ≠ F:=by omega
 have hPl:w.heap.size < w1.heap.size:=by omega
 clear hz
 obtain ⟨P,HP⟩:∃ P,Hid (P = w.heap.size):=⟨_,rfl⟩
 have hNP:N ≤ P:=by have:=HP.out; omega
 rw [← HP.out] at hP hPF hPl hlF ⊢
 have c0:w1.cell? ⟨B,0,none⟩ = some (.pointer (some ⟨F,0,none⟩)):=by have:=HM1.out; unfold MkAt at this; simp [World.cell?,this]
 have c1:w1.cell? ⟨B,1,none⟩ = some (.slice a1 E.length E.length):=by have:=HM1.out; unfold MkAt at this; simp [World.cell?,this]
 have hc0:∀ w':World,w'.heap[B]? = w1.heap[B]?→w'.cell? ⟨B,0,none⟩ = some (.pointer (some ⟨F,0,none⟩)):=fun w' h=>by have:=HM1.out; unfold MkAt at this; simp [World.cell?,h,this]
 have hc1:∀ w':World,w'.heap[B]? = w1.heap[B]?→w'.cell? ⟨B,1,none⟩ = some (.slice a1 E.length E.length):=fun w' h=>by have:=HM1.out; unfold MkAt at this; simp [World.cell?,h,this]
 clear c0 c1
 have hw3:IntKind.i64.wrap ((E.length:Int) + 3) = ((E.length + 3:Nat):Int):=by rw [IntKind.wrap_i64]; omega
 have HC:=hide (k_nextM N F B raw i (E.length + 3) (IntKind.i64.wrap ((E.length:Int) + 3)) hw3 (by omega) hr w1.drew HF1.out hi hN hB)
 clear hw3
 refine wp_region_held_drew (S:=fun w'=>w'.heap[B]? = w1.heap[B]?) (by kernel_rfl) rfl (fun hHeld=>?_)
 refine wpAnyH_take (i:=0) (v:=?_) rfl (by kernel_rfl) (by kernel_rfl) (by kernel_rfl) (fun _ _ _ h=>h) (Or.inl ⟨by rfl,?_⟩) (by assumption) ?_; rotate_left; focus (intro w' hSw; go_simp; (first | done | with_reducible rfl)); (try simp only [put_laws])
 refine wpAnyH_take (i:=1) (v:=?_) rfl (by kernel_rfl) (by kernel_rfl) (by kernel_rfl) (fun _ _ _ h=>h) (Or.inl ⟨by rfl,?_⟩) (by assumption) ?_; rotate_left; focus (intro w' hSw; go_simp; (first | done | with_reducible rfl)); (try simp only [put_laws])
 refine wpAnyH_take (i:=2) (v:=?_) rfl (by kernel_rfl) (by kernel_rfl) (by kernel_rfl) (fun _ _ _ h=>h) (Or.inl ⟨by rfl,?_⟩) (by assumption) ?_; rotate_left; focus (intro w' hSw; go_simp; (first | done | with_reducible rfl)); (try simp only [put_laws])
 refine wpAnyH_take (i:=3) (v:=?_) rfl (by kernel_rfl) (by kernel_rfl) (by kernel_rfl) (fun _ _ _ h=>h) (Or.inl ⟨by rfl,?_⟩) (by assumption) ?_; rotate_left; focus (intro w' hSw; go_simp; (first | done | with_reducible rfl)); (try simp only [put_laws])
 refine wpAnyH_take (i:=4) (v:=?_) rfl (by kernel_rfl) (by kernel_rfl) (by kernel_rfl) (fun _ _ _ h=>h) (Or.inl ⟨by rfl,?_⟩) (by assumption) ?_; rotate_left; focus (intro w' hSw; go_simp; (first | done | with_reducible rfl)); (try simp only [put_laws])
 refine wpAnyH_take (i:=5) (v:=?_) rfl (by kernel_rfl) (by kernel_rfl) (by kernel_rfl) (fun _ _ _ h=>h) (Or.inl ⟨by rfl,?_⟩) (by assumption) ?_; rotate_left; focus (intro w' hSw; go_simp; (first | done | with_reducible rfl)); (try simp only [put_laws])
 refine wpAnyH_take (i:=6) (v:=?_) rfl (by kernel_rfl) (by kernel_rfl) (by kernel_rfl) (fun _ _ _ h=>h) (Or.inl ⟨by rfl,?_⟩) (by assumption) ?_; rotate_left; focus (intro w' hSw; go_simp; (first | done | with_reducible rfl)); (try simp only [put_laws])
 refine wpAnyH_take (i:=7) (v:=?_) rfl (by kernel_rfl) (by kernel_rfl) (by kernel_rfl) (fun _ _ _ h=>h) (Or.inl ⟨by rfl,?_⟩) (by assumption) ?_; rotate_left; focus (intro w' hSw; go_simp; (first | done | with_reducible rfl)); (try simp only [put_laws])
 refine wpAnyH_take (i:=8) (v:=?_) rfl (by kernel_rfl) (by kernel_rfl) (by kernel_rfl) (fun _ _ _ h=>h) (Or.inl ⟨by rfl,?_⟩) (by assumption) ?_; rotate_left; focus (intro w' hSw; go_simp; (first | done | with_reducible rfl)); (try simp only [put_laws])
 refine wpAnyH_take (i:=9) (v:=?_) rfl (by kernel_rfl) (by kernel_rfl) (by kernel_rfl) (fun _ _ _ h=>h) (Or.inl ⟨by rfl,?_⟩) (by assumption) ?_; rotate_left; focus (intro w' hSw; go_simp; (first | done | with_reducible rfl)); (try simp only [put_laws])
 refine wpAnyH_ready (rs:=[10]) (by kernel_rfl) (by simp) ?_; refine AllReadyH.cons rfl (fun K hK=>?_) AllReadyH.nil
 go_simp
 refine HC.out.mono ?_
 clear HC
 rintro e w2 ⟨rfl,hF2,k2⟩
 have k2:=k2.drew
 have hk:=nxW_lt raw i (n:=E.length + 3) (by omega)
 have hi2:=nx_in raw (E.length + 3) hi
 have HL:Hid (leafM raw E ch i = (if (nxW raw (E.length + 3) i).1 < E.length then ⟨[(E[(nxW raw (E.length + 3) i).1]?.getD (⟨#[]⟩,false)).1],(E[(nxW raw (E.length + 3) i).1]?.getD (⟨#[]⟩,false)).2,false⟩ else if (nxW raw (E.length + 3) i).1 = E.length then ⟨[tTrue],true,false⟩ else if (nxW raw (E.length + 3) i).1 = E.length + 1 then ⟨[tFalse],false,false⟩ else ⟨[tAsk],ch,true⟩,(nxW raw (E.length + 3) i).2)):=rfl
 generalize (nxW raw (E.length + 3) i).2 = i2 at *
 generalize (nxW raw (E.length + 3) i).1 = k at *
 have hB2:w2.heap[B]? = w1.heap[B]?:=k2.keep B (Array.getElem?_eq_some_iff.1 HM1.out).1 hB
 refine hK.out _ _ hB2 (fun hHeld=>?_)
 clear hK K
 refine wpAnyH_ready (rs:=[11]) (by kernel_rfl) (by simp) ?_; refine AllReadyH.cons rfl (fun K hK=>?_) AllReadyH.nil
 go_simp
 refine hK.out _ _ hB2 (fun hHeld=>?_)
 clear hK K
 try simp only [put_laws]
 refine wpAnyH_done (by kernel_rfl) ?_ _
 have HF2:=hide hF2
 have HM2:=hide (k2.mk_ hB HM1.out)
 have HK2:=hide (HK1.out.trans k2)
 have hP2:=(k2.keep P hPl hPF).trans hP
 have hPl2:P < w2.heap.size:=Nat.lt_of_lt_of_le hPl k2.below.size
 clear hF2 k2 HK1 HF1 HM1 hP hPl hc0 hc1 hHeld hB2
 have HBP:Hid (B ≠ P):=by show B ≠ P; have:=HP.out; have:=hlB; omega
 have c1:w2.cell? ⟨B,1,none⟩ = some (.slice a1 E.length E.length):=by have:=HM2.out; unfold MkAt at this; simp [World.cell?,this]
 have c3:w2.cell? ⟨B,3,none⟩ = some (.bool ch):=by have:=HM2.out; unfold MkAt at this; simp [World.cell?,this]
 have p0:w2.cell? ⟨P,0,none⟩ = some (.string ⟨#[]⟩):=by simp [World.cell?,hP2]
 have p1:w2.cell? ⟨P,1,none⟩ = some (.bool false):=by simp [World.cell?,hP2]
 have p2:w2.cell? ⟨P,2,none⟩ = some (.bool false):=by simp [World.cell?,hP2]
 have z0:w2.frozen? ⟨P,0,none⟩ = false:=by simp [World.frozen?,hP2]
 have z1:w2.frozen? ⟨P,1,none⟩ = false:=by simp [World.frozen?,hP2]
 have z2:w2.frozen? ⟨P,2,none⟩ = false:=by simp [World.frozen?,hP2]
 by_cases h1:k < E.length
 ·have hlt:(k:Int) < (E.length:Int):=by omega
  obtain ⟨R,S,rfl,rfl,hRF,hSF,hR0,hS0⟩:=HR.out (by omega)
  have hlR:R < w.heap.size:=(Array.getElem?_eq_some_iff.1 hR0).1
  have hlS:S < w.heap.size:=(Array.getElem?_eq_some_iff.1 hS0).1
  have hR2:=(HK2.out.keep R hlR hRF).trans hR0
  have hS2:=(HK2.out.keep S hlS hSF).trans hS0
  have HRP:Hid (R ≠ P):=by show R ≠ P; have:=HP.out; omega
  have HSP:Hid (S ≠ P):=by show S ≠ P; have:=HP.out; omega
  clear hR0 hS0 hlR hlS
  have HX:Hid ((leafM raw E ch i).1 = ⟨[E[k].1],E[k].2,false⟩∧(leafM raw E ch i).2 = i2):=by show _∧_; rw [HL.out,if_pos h1,List.getElem?_eq_getElem h1]; exact ⟨rfl,rfl⟩
  have hcB:∀ w':World,(w'.heap[B]? = w2.heap[B]?∧w'.heap[R]? = w2.heap[R]?∧w'.heap[S]? = w2.heap[S]?)→w'.cell? ⟨B,1,none⟩ = some (.slice (some ⟨R,0,none⟩) E.length E.length):=fun w' h=>by have:=HM2.out; unfold MkAt at this; simp [World.cell?,h.1,this]
  have hcV:∀ w':World,(w'.heap[B]? = w2.heap[B]?∧w'.heap[R]? = w2.heap[R]?∧w'.heap[S]? = w2.heap[S]?)→w'.cell? ⟨B,2,none⟩ = some (.slice (some ⟨S,0,none⟩) E.length E.length):=fun w' h=>by have:=HM2.out; unfold MkAt at this; simp [World.cell?,h.1,this]
  have hcR:∀ w':World,(w'.heap[B]? = w2.heap[B]?∧w'.heap[R]? = w2.heap[R]?∧w'.heap[S]? = w2.heap[S]?)→w'.cell? ⟨R,k,none⟩ = some (.string E[k].1):=fun w' h=>by simp [World.cell?,h.2.1,hR2,h1]
  have hcS:∀ w':World,(w'.heap[B]? = w2.heap[B]?∧w'.heap[R]? = w2.heap[R]?∧w'.heap[S]? = w2.heap[S]?)→w'.cell? ⟨S,k,none⟩ = some (.bool E[k].2):=fun w' h=>by simp [World.cell?,h.2.2,hS2,h1]
  clear HL HR hR2 hS2
  go_upto_region 3 with fail
  clear c1 c3
  generalize E[k].1 = et at *
  generalize E[k].2 = ev at *
  refine wp_region_held_drew (S:=fun w'=>w'.heap[B]? = w2.heap[B]?∧w'.heap[R]? = w2.heap[R]?∧w'.heap[S]? = w2.heap[S]?) (by kernel_rfl) ⟨rfl,rfl,rfl⟩ (fun hHeld=>?_)
  refine wpAnyH_take (i:=0) (v:=?_) rfl (by kernel_rfl) (by kernel_rfl) (by kernel_rfl) (fun _ _ _ h=>h) (Or.inl ⟨by rfl,?_⟩) (by assumption) ?_; rotate_left; focus (intro w' hSw; go_simp; (first | done | with_reducible rfl)); (try simp only [put_laws])
  refine wpAnyH_take (i:=1) (v:=?_) rfl (by kernel_rfl) (by kernel_rfl) (by kernel_rfl) (fun _ _ _ h=>h) (Or.inl ⟨by rfl,?_⟩) (by assumption) ?_; rotate_left; focus (intro w' hSw; go_simp; (first | done | with_reducible rfl)); (try simp only [put_laws])
  refine wpAnyH_take (i:=2) (v:=?_) rfl (by kernel_rfl) (by kernel_rfl) (by kernel_rfl) (fun _ _ _ h=>h) (Or.inl ⟨by rfl,?_⟩) (by assumption) ?_; rotate_left; focus (intro w' hSw; go_simp; (first | done | with_reducible rfl)); (try simp only [put_laws])
  refine wpAnyH_take (i:=3) (v:=?_) rfl (by kernel_rfl) (by kernel_rfl) (by kernel_rfl) (fun _ _ _ h=>h) (Or.inl ⟨by rfl,?_⟩) (by assumption) ?_; rotate_left; focus (intro w' hSw; go_simp; (first | done | with_reducible rfl)); (try simp only [put_laws])
  refine wpAnyH_take (i:=4) (v:=?_) rfl (by kernel_rfl) (by kernel_rfl) (by kernel_rfl) (fun _ _ _ h=>h) (Or.inl ⟨by rfl,?_⟩) (by assumption) ?_; rotate_left; focus (intro w' hSw; go_simp; (first | done | with_reducible rfl)); (try simp only [put_laws])
  refine wpAnyH_take (i:=5) (v:=?_) rfl (by kernel_rfl) (by kernel_rfl) (by kernel_rfl) (fun _ _ _ h=>h) (Or.inl ⟨by rfl,?_⟩) (by assumption) ?_; rotate_left; focus (intro w' hSw; go_simp; (first | done | with_reducible rfl)); (try simp only [put_laws])
  refine wpAnyH_take (i:=6) (v:=?_) rfl (by kernel_rfl) (by kernel_rfl) (by kernel_rfl) (fun _ _ _ h=>h) (Or.inl ⟨by rfl,?_⟩) (by assumption) ?_; rotate_left; focus (intro w' hSw; go_simp; (first | done | with_reducible rfl)); (try simp only [put_laws])
  refine wpAnyH_take (i:=7) (v:=?_) rfl (by kernel_rfl) (by kernel_rfl) (by kernel_rfl) (fun _ _ _ h=>h) (Or.inl ⟨by rfl,?_⟩) (by assumption) ?_; rotate_left; focus (intro w' hSw; go_simp; (first | done | with_reducible rfl)); (try simp only [put_laws])
  refine wpAnyH_take (i:=8) (v:=?_) rfl (by kernel_rfl) (by kernel_rfl) (by kernel_rfl) (fun _ _ _ h=>h) (Or.inl ⟨by rfl,?_⟩) (by assumption) ?_; rotate_left; focus (intro w' hSw; go_simp; (first | done | with_reducible rfl)); (try simp only [put_laws])
  refine wpAnyH_take (i:=9) (v:=?_) rfl (by kernel_rfl) (by kernel_rfl) (by kernel_rfl) (fun _ _ _ h=>h) (Or.inl ⟨by rfl,?_⟩) (by assumption) ?_; rotate_left; focus (intro w' hSw; go_simp; (first | done | with_reducible rfl)); (try simp only [put_laws])
  refine wpAnyH_take (i:=10) (v:=?_) rfl (by kernel_rfl) (by kernel_rfl) (by kernel_rfl) (fun _ _ _ h=>h) (Or.inl ⟨by rfl,?_⟩) (by assumption) ?_; rotate_left; focus (intro w' hSw; go_simp; (first | done | with_reducible rfl)); (try simp only [put_laws])
  refine wpAnyH_take (i:=11) (v:=?_) rfl (by kernel_rfl) (by kernel_rfl) (by kernel_rfl) (fun _ _ _ h=>h) (Or.inl ⟨by rfl,?_⟩) (by assumption) ?_; rotate_left; focus (intro w' hSw; go_simp; (first | done | with_reducible rfl)); (try simp only [put_laws])
  refine wpAnyH_take (i:=12) (v:=?_) rfl (by kernel_rfl) (by kernel_rfl) (by kernel_rfl) (fun _ _ _ h=>h) (Or.inl ⟨by rfl,?_⟩) (by assumption) ?_; rotate_left; focus (intro w' hSw; go_simp; (first | done | with_reducible rfl)); (try simp only [put_laws])
  refine wpAnyH_take (i:=13) (v:=?_) rfl (by kernel_rfl) (by kernel_rfl) (by kernel_rfl) (fun _ _ _ h=>h) (Or.inl ⟨by rfl,?_⟩) (by assumption) ?_; rotate_left; focus (intro w' hSw; go_simp; (first | done | with_reducible rfl)); (try simp only [put_laws])
  refine wpAnyH_take (i:=14) (v:=?_) rfl (by kernel_rfl) (by kernel_rfl) (by kernel_rfl) (fun _ _ _ h=>h) (Or.inl ⟨by rfl,?_⟩) (by assumption) ?_; rotate_left; focus (intro w' hSw; go_simp; (first | done | with_reducible rfl)); (try simp only [put_laws])
  refine wpAnyH_ready (rs:=[15]) (by kernel_rfl) (by simp) ?_; refine AllReadyH.cons rfl (fun K hK=>?_) AllReadyH.nil
  go_simp
  refine hK.out _ _ ?_ (fun hHeld=>?_)
  ·exact ⟨(wset_ne _ _ _ _ _ HBP.out).trans ((wset_ne _ _ _ _ _ HBP.out).trans (wset_ne _ _ _ _ _ HBP.out)),(wset_ne _ _ _ _ _ HRP.out).trans ((wset_ne _ _ _ _ _ HRP.out).trans (wset_ne _ _ _ _ _ HRP.out)),(wset_ne _ _ _ _ _ HSP.out).trans ((wset_ne _ _ _ _ _ HSP.out).trans (wset_ne _ _ _ _ _ HSP.out))⟩
  clear hK K
  try simp only [put_laws]
  refine wpAnyH_done (by kernel_rfl) ?_ _
  clear hcB hcV hcR hcS hHeld
  go_wp2_with fail
  refine pc_ret (pc:=⟨[et],ev,false⟩) Tryz.results73 rfl rfl ?_ ?_
  ·rw [flat1M]; exact set3M (w:=w2.drew) hP2
  refine ⟨?_,?_,?_⟩
  ·rw [HX.out.1]
  ·rw [HX.out.2]; exact feed_set (w:=(w2.drew.setCell _ _).setCell _ _) (feed_set (w:=w2.drew.setCell _ _) (feed_set (w:=w2.drew) HF2.out hPF) hPF) hPF
  ·exact (((HK2.out.drw).set (Nat.le_of_eq HP.out.symm) hNP).set (Nat.le_of_eq HP.out.symm) hNP).set (Nat.le_of_eq HP.out.symm) hNP
 ·have hge:(E.length:Int) ≤ k:=by omega
  by_cases h2:k = E.length
  ·subst h2
   have HX:Hid ((leafM raw E ch i).1 = ⟨[tTrue],true,false⟩∧(leafM raw E ch i).2 = i2):=by show _∧_; rw [HL.out,if_neg (Nat.lt_irrefl _),if_pos rfl]; exact ⟨rfl,rfl⟩
   clear HL h1 hge
   go_wp2_with fail
   refine pc_ret (pc:=⟨[tTrue],true,false⟩) Tryz.results73 rfl rfl (by rw [flat1M]; exact set3M hP2) ?_
   refine ⟨?_,?_,?_⟩
   ·rw [HX.out.1]
   ·rw [HX.out.2]; exact feed_set (feed_set (feed_set HF2.out hPF) hPF) hPF
   ·exact ((HK2.out.set (Nat.le_of_eq HP.out.symm) hNP).set (Nat.le_of_eq HP.out.symm) hNP).set (Nat.le_of_eq HP.out.symm) hNP
  ·have e2:((k:Int) == (E.length:Int)) = false:=beq_eq_false_iff_ne.2 (by omega)
   by_cases h3:k = E.length + 1
   ·subst h3
    have HX:Hid ((leafM raw E ch i).1 = ⟨[tFalse],false,false⟩∧(leafM raw E ch i).2 = i2):=by show _∧_; rw [HL.out,if_neg h1,if_neg h2,if_pos rfl]; exact ⟨rfl,rfl⟩
    clear HL h1 h2
    go_wp2_with fail
    refine pc_ret (pc:=⟨[tFalse],false,false⟩) Tryz.results73 rfl rfl (by rw [flat1M]; exact set3M hP2) ?_
    refine ⟨?_,?_,?_⟩
    ·rw [HX.out.1]
    ·rw [HX.out.2]; exact feed_set (feed_set (feed_set HF2.out hPF) hPF) hPF
    ·exact ((HK2.out.set (Nat.le_of_eq HP.out.symm) hNP).set (Nat.le_of_eq HP.out.symm) hNP).set (Nat.le_of_eq HP.out.symm) hNP
   ·have e3:((k:Int) == (E.length:Int) + 1) = false:=beq_eq_false_iff_ne.2 (by omega)
    have HX:Hid ((leafM raw E ch i).1 = ⟨[tAsk],ch,true⟩∧(leafM raw E ch i).2 = i2):=by show _∧_; rw [HL.out,if_neg h1,if_neg h2,if_neg h3]; exact ⟨rfl,rfl⟩
    clear HL h1 h2 h3
    go_wp2_with fail
    refine pc_ret (pc:=⟨[tAsk],ch,true⟩) Tryz.results73 rfl rfl (by rw [flat1M]; exact set3M hP2) ?_
    refine ⟨?_,?_,?_⟩
    ·rw [HX.out.1]
    ·rw [HX.out.2]; exact feed_set (feed_set (feed_set HF2.out hPF) hPF) hPF
    ·exact ((HK2.out.set (Nat.le_of_eq HP.out.symm) hNP).set (Nat.le_of_eq HP.out.symm) hNP).set (Nat.le_of_eq HP.out.symm) hNP
end Go.Proofs.YtmfcpbhdggonfaaGreatDoor
