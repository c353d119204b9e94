/- Contracts of the statements' own package: the maker of EXPRs: factor. -/
import Derived.Test.YtmfcpbhdggonfaaGreatDoorMjAG
namespace Go.Proofs.YtmfcpbhdggonfaaGreatDoor
open Go.RowKit RR
def FacC (N F B:Nat) (raw:ByteArray) (E:List (ByteArray × Bool)) (ch:Bool) (a1 a2:Option Addr) (deep:Int) (fac:Nat→Pc × Nat):Prop:=∀ (i:Nat) (w:World),i ≤ raw.size→FeedAt F raw i w→MkAt F B a1 a2 E.length ch w→MRow F E a1 a2 w →
 Calls Tryz.prog 43 #[.pointer (some ⟨B,0,none⟩),.int .i64 deep] w fun e w'=>e = .returned (pcV (fac i).1)∧FeedAt F raw (fac i).2 w'∧Kf N F w w'
def ExpC (N F B:Nat) (raw:ByteArray) (E:List (ByteArray × Bool)) (ch:Bool) (a1 a2:Option Addr) (deep:Int) (exp:Nat→Pc × Nat):Prop:=∀ (i:Nat) (w:World),i ≤ raw.size→FeedAt F raw i w→MkAt F B a1 a2 E.length ch w→MRow F E a1 a2 w →
 Calls Tryz.prog 26 #[.pointer (some ⟨B,0,none⟩),.int .i64 deep] w fun e w'=>e = .returned (pcV (exp i).1)∧FeedAt F raw (exp i).2 w'∧Kf N F w w'
def PcAt (P:Nat) (s:ByteArray) (v a:Bool) (w:World):Prop:=w.heap[P]? = some (.cells #[.string s,.bool v,.bool a] 60 (0,0))
theorem PcAt.cells {P:Nat} {s:ByteArray} {v a:Bool} {w:World} (h:PcAt P s v a w):(w.cell? ⟨P,0,none⟩ = some (.string s)∧w.cell? ⟨P,1,none⟩ = some (.bool v)∧w.cell? ⟨P,2,none⟩ = some (.bool a))∧w.frozen? ⟨P,0,none⟩ = false∧w.frozen? ⟨P,1,none⟩ = false∧w.frozen? ⟨P,2,none⟩ = false:=by
 unfold PcAt at h
 refine ⟨⟨?_,?_,?_⟩,?_,?_,?_⟩ <;> simp [World.cell?,World.frozen?,h]
theorem PcAt.kf {N F P:Nat} {s:ByteArray} {v a:Bool} {w w':World} (h:PcAt P s v a w) (k:Kf N F w w') (hP:P ≠ F):PcAt P s v a w':=(k.keep P (Array.getElem?_eq_some_iff.1 h).1 hP).trans h
set_option maxRecDepth 100000 in
set_option maxHeartbeats 2000000 in
theorem m_factor0 (N F B:Nat) (raw:ByteArray) (E:List (ByteArray × Bool)) (ch:Bool) (a1 a2:Option Addr) (hr:raw.size ≤ 9223372036854775807) (hN:N ≤ F) (hB:B ≠ F) (hE:E.length ≤ 5) (hz:∀ i,(flat (leafM raw E ch i).1.ps).size ≤ 5):FacC N F B raw E ch a1 a2 0 (fac0 raw E ch):=by
 intro i w hi hF hM hR
 have hlF:F < w.heap.size:=(Array.getElem?_eq_some_iff.1 hF).1
 have hlB:B < w.heap.size:=(Array.getElem?_eq_some_iff.1 hM).1
 have HF:=hide hF
 have HM:=hide hM
 have HR:=hide hR
 clear hF hM hR
 go_enter Tryz.func43,Tryz.ntmps43
 go_upto_region 1 with fail
 have hzz:=World.size_alloc w (.cells #[.string ⟨#[]⟩,.bool false,.bool false] 60)
 have hP:(w.alloc (.cells #[.string ⟨#[]⟩,.bool false,.bool false] 60)).heap[w.heap.size]? = some (.cells #[.string ⟨#[]⟩,.bool false,.bool false] 60 (0,0)):=heap_alloc_new _ _
 have HK1:Hid (Kf N F w (w.alloc (.cells #[.string ⟨#[]⟩,.bool false,.bool false] 60))):=Kf.alloc N F w _ (by omega)
 have HF1:Hid (FeedAt F raw i (w.alloc (.cells #[.string ⟨#[]⟩,.bool false,.bool false] 60))):=(Below.heap_alloc _ _ _ hlF).trans HF.out
 have HM1:=hide (HK1.out.mk_ hB HM.out)
 have HR1:=hide (HK1.out.row HR.out)
 clear HF HM HR
 generalize w.alloc (.cells #[.string ⟨#[]⟩,.bool false,.bool false] 60) = w1 at *
 have hPF:w.heap.size ≠ F:=by omega
 have hPl:w.heap.size < w1.heap.size:=by omega
 clear hzz
 obtain ⟨P,HP⟩:∃ P,Hid (P = w.heap.size):=⟨_,rfl⟩
 have hNP:N ≤ P:=by have:=HP.out; omega
 rw [← HP.out] at hP hPF hPl hlF hlB ⊢
 go_wp2_with fail
 refine (m_leaf N F B raw i E ch a1 a2 hr w1 HF1.out HM1.out HR1.out hi hN hB hE).mono ?_
 rintro e w2 ⟨rfl,hF2,k2⟩
 have hi2:=leafM_in raw E ch hi
 have hz2:=hz i
 have HL:Hid (fac0 raw E ch i = negM raw (leafM raw E ch i)):=rfl
 generalize leafM raw E ch i = l at *
 obtain ⟨⟨ps,v,a⟩,i2⟩:=l
 have HF2:=hide hF2
 have HM2:=hide (k2.mk_ hB HM1.out)
 have HR2:=hide (k2.row HR1.out)
 have HK2:=hide (HK1.out.trans k2)
 have hP2:=(k2.keep P hPl hPF).trans hP
 have hPl2:P < w2.heap.size:=Nat.lt_of_lt_of_le hPl k2.below.size
 clear hF2 k2 HK1 HF1 HM1 HR1 hP hPl
 unfold pcV
 simp only [] at hi2 hz2 HF2
 go_upto_region 2 with fail
 have hzq:=World.size_alloc w2 (.cells #[.string (flat ps),.bool v,.bool a] 60)
 have hQ:(w2.alloc (.cells #[.string (flat ps),.bool v,.bool a] 60)).heap[w2.heap.size]? = some (.cells #[.string (flat ps),.bool v,.bool a] 60 (0,0)):=heap_alloc_new _ _
 have kq:Kf N F w2 (w2.alloc (.cells #[.string (flat ps),.bool v,.bool a] 60)):=Kf.alloc N F w2 _ (by omega)
 have HF3:Hid (FeedAt F raw i2 (w2.alloc (.cells #[.string (flat ps),.bool v,.bool a] 60))):=(Below.heap_alloc _ _ _ (by omega)).trans HF2.out
 generalize w2.alloc (.cells #[.string (flat ps),.bool v,.bool a] 60) = w3 at *
 have hQF:w2.heap.size ≠ F:=by omega
 have hQP:w2.heap.size ≠ P:=by omega
 have hNQ:N ≤ w2.heap.size:=by omega
 have hQl:w2.heap.size < w3.heap.size:=by omega
 have hlF2:F < w2.heap.size:=by omega
 clear hzq
 have HWQ:Hid (w.heap.size ≤ w2.heap.size):=HK2.out.below.size
 have HM3:=hide (kq.mk_ hB HM2.out)
 have HR3:=hide (kq.row HR2.out)
 have HK3:=hide (HK2.out.trans kq)
 have hP3:=(kq.keep P hPl2 hPF).trans hP2
 have hPl3:P < w3.heap.size:=Nat.lt_of_lt_of_le hPl2 kq.below.size
 clear HF2 HM2 HR2 HK2 hP2 hPl2 kq hlF2
 generalize w2.heap.size = Q at *
 have c0:w3.cell? ⟨B,0,none⟩ = some (.pointer (some ⟨F,0,none⟩)):=by have:=HM3.out; unfold MkAt at this; simp [World.cell?,this]
 go_wp2_with fail
 refine (k_nextM N F B raw i2 3 3 rfl (by decide) hr w3 HF3.out hi2 hN hB).mono ?_
 rintro e w4 ⟨rfl,hF4,k4⟩
 have hk:=nxW_lt raw i2 (n:=3) (by decide)
 have HN:Hid (negM raw (⟨ps,v,a⟩,i2) = (if (nxW raw 3 i2).1 = 1 then ⟨tBang :: ps,!v,a⟩ else ⟨ps,v,a⟩,(nxW raw 3 i2).2)):=rfl
 generalize (nxW raw 3 i2).2 = i4 at *
 generalize (nxW raw 3 i2).1 = k at *
 have HF4:=hide hF4
 have HK4:=hide (HK3.out.trans k4)
 have hP4:=(k4.keep P hPl3 hPF).trans hP3
 have hQ4:=(k4.keep Q hQl hQF).trans hQ
 clear hF4 k4 c0 HF3 HM3 HR3 HK3 hP3 hPl3 hQ hQl
 have q0:w4.cell? ⟨Q,0,none⟩ = some (.string (flat ps)):=by simp [World.cell?,hQ4]
 have q1:w4.cell? ⟨Q,1,none⟩ = some (.bool v):=by simp [World.cell?,hQ4]
 have q2:w4.cell? ⟨Q,2,none⟩ = some (.bool a):=by simp [World.cell?,hQ4]
 have y0:w4.frozen? ⟨Q,0,none⟩ = false:=by simp [World.frozen?,hQ4]
 have y1:w4.frozen? ⟨Q,1,none⟩ = false:=by simp [World.frozen?,hQ4]
 have p0:w4.cell? ⟨P,0,none⟩ = some (.string ⟨#[]⟩):=by simp [World.cell?,hP4]
 have p1:w4.cell? ⟨P,1,none⟩ = some (.bool false):=by simp [World.cell?,hP4]
 have p2:w4.cell? ⟨P,2,none⟩ = some (.bool false):=by simp [World.cell?,hP4]
 have z0:w4.frozen? ⟨P,0,none⟩ = false:=by simp [World.frozen?,hP4]
 have z1:w4.frozen? ⟨P,1,none⟩ = false:=by simp [World.frozen?,hP4]
 have z2:w4.frozen? ⟨P,2,none⟩ = false:=by simp [World.frozen?,hP4]
 have hPQ:P ≠ Q:=Ne.symm hQP
 have eP:w.heap.size ≤ P:=Nat.le_of_eq HP.out.symm
 have HEP:=hide eP
 have HP4:=hide hP4
 clear eP hP4 hQ4
 by_cases h1:k = 1
 ·have HX:Hid ((fac0 raw E ch i).1 = ⟨tBang :: ps,!v,a⟩∧(fac0 raw E ch i).2 = i4):=by show _∧_; rw [HL.out,HN.out,if_pos h1]; exact ⟨rfl,rfl⟩
  clear HN HL
  subst h1
  go_wp2_with fail
  refine pc_ret (pc:=⟨tBang :: ps,!v,a⟩) Tryz.results43 rfl rfl ?_ ?_
  ·exact set3M ((wset_ne _ _ _ _ _ hPQ).trans ((wset_ne _ _ _ _ _ hPQ).trans HP4.out))
  refine ⟨?_,?_,?_⟩
  ·rw [HX.out.1]
  ·rw [HX.out.2]; exact feed_set (feed_set (feed_set (feed_set (feed_set HF4.out hQF) hQF) hPF) hPF) hPF
  ·exact ((((HK4.out.set HWQ.out hNQ).set HWQ.out hNQ).set HEP.out hNP).set HEP.out hNP).set HEP.out hNP
 ·have HX:Hid ((fac0 raw E ch i).1 = ⟨ps,v,a⟩∧(fac0 raw E ch i).2 = i4):=by show _∧_; rw [HL.out,HN.out,if_neg h1]; exact ⟨rfl,rfl⟩
  have h1':((k:Int) == 1) = false:=beq_eq_false_iff_ne.2 (by omega)
  clear HN HL h1
  go_wp2_with fail
  refine pc_ret (pc:=⟨ps,v,a⟩) Tryz.results43 rfl rfl ?_ ?_
  ·exact set3M HP4.out
  refine ⟨?_,?_,?_⟩
  ·rw [HX.out.1]
  ·rw [HX.out.2]; exact feed_set (feed_set (feed_set HF4.out hPF) hPF) hPF
  ·exact ((HK4.out.set HEP.out hNP).set HEP.out hNP).set HEP.out hNP
end Go.Proofs.YtmfcpbhdggonfaaGreatDoor
