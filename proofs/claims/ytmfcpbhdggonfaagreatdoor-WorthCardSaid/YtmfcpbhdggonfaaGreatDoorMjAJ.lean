/- Contracts of the statements' own package: the maker of EXPRs: expr. Laid by tools/genP.py. -/
import Derived.Test.YtmfcpbhdggonfaaGreatDoorMjAI
namespace Go.Proofs.YtmfcpbhdggonfaaGreatDoor
open Go.RowKit RR
theorem PcAt.lt {P:Nat} {s:ByteArray} {v a:Bool} {w:World} (h:PcAt P s v a w):P < w.heap.size:=(Array.getElem?_eq_some_iff.1 h).1
def Ro (R:Nat) (w w':World):Prop:=∀ j,j ≠ R→w'.heap[j]? = w.heap[j]?
theorem Ro.pc {R P:Nat} {s:ByteArray} {v a:Bool} {w w':World} (h:Ro R w w') (hp:P ≠ R) (k:PcAt P s v a w):PcAt P s v a w':=(h P hp).trans k
theorem Ro.set {R o:Nat} {x:Value} {w w':World} (h:Ro R w w'):Ro R w (w'.setCell ⟨R,o,none⟩ x):=fun j hj=>(wset_ne _ _ _ _ _ hj).trans (h j hj)
theorem Ro.refl (R:Nat) (w:World):Ro R w w:=fun _ _=>rfl
theorem PcAt.set2 {P:Nat} {s:ByteArray} {v a b:Bool} {w:World} (h:PcAt P s v a w):PcAt P s v b (w.setCell ⟨P,2,none⟩ (.bool b)):=wset h 2 _
theorem pc_alloc (w:World) (s:ByteArray) (v a:Bool):PcAt w.heap.size s v a (w.alloc (.cells #[.string (s),.bool v,.bool a] 60)):=heap_alloc_new _ _
set_option maxRecDepth 100000 in
set_option maxHeartbeats 4000000 in
theorem m_expr (N F B:Nat) (raw:ByteArray) (E:List (ByteArray × Bool)) (ch:Bool) (a1 a2:Option Addr) (deep:Int) (fac:Nat→Pc × Nat) (hr:raw.size ≤ 9223372036854775807) (hN:N ≤ F) (hB:B ≠ F) (hfi:∀ i,i ≤ raw.size→(fac i).2 ≤ raw.size) (hz:∀ i,(flat (fac i).1.ps).size ≤ 100) (hfac:FacC N F B raw E ch a1 a2 deep fac):ExpC N F B raw E ch a1 a2 deep (expM raw fac):=by
 have HFAC:=hide hfac
 clear hfac
 intro i w hi hF hM hR
 have hlF:F < w.heap.size:=(Array.getElem?_eq_some_iff.1 hF).1
 have HF0:=hide hF
 have HM:=hide hM
 have HRW:=hide hR
 clear hF hM hR
 go_enter Tryz.func26,Tryz.ntmps26
 go_upto_region 1 with fail
 have hz_:=World.size_alloc w (.cells #[.string (⟨#[]⟩),.bool false,.bool false] 60)
 have HX_:Hid (PcAt w.heap.size (⟨#[]⟩) false false (w.alloc (.cells #[.string (⟨#[]⟩),.bool false,.bool false] 60))):=pc_alloc _ _ _ _
 have ka:Kf N F w (w.alloc (.cells #[.string (⟨#[]⟩),.bool false,.bool false] 60)):=Kf.alloc N F w _ (by omega)
 have HF_:Hid (FeedAt F raw i (w.alloc (.cells #[.string (⟨#[]⟩),.bool false,.bool false] 60))):=(Below.heap_alloc _ _ _ hlF).trans HF0.out
 generalize w.alloc (.cells #[.string (⟨#[]⟩),.bool false,.bool false] 60) = w1 at *
 have hPF:w.heap.size ≠ F:=by omega
 have hNP:N ≤ w.heap.size:=by omega
 have hlF_:F < w1.heap.size:=by omega
 have HK_:=hide ka
 have HWP:Hid (w.heap.size ≤ w.heap.size):=Nat.le_refl _
 clear hz_ ka hlF HF0
 obtain ⟨P,HEP⟩:∃ P,Hid (P = w.heap.size):=⟨_,rfl⟩
 rw [← HEP.out] at HX_ hPF hNP ⊢
 have HWP:Hid (w.heap.size ≤ P):=Nat.le_of_eq HEP.out.symm
 have HP:=HX_
 have HF0:=HF_
 have hlF:=hlF_
 have HK:=HK_
 clear HX_ HF_ hlF_ HK_
 have HL:Hid (expM raw fac i = (mixM (nxW raw 6 (fac (fac (fac i).2).2).2).1 (fac i).1 (fac (fac i).2).1 (fac (fac (fac i).2).2).1,(nxW raw 6 (fac (fac (fac i).2).2).2).2)):=rfl
 go_wp2_with fail
 refine (HFAC.out i w1 hi HF0.out (HK.out.mk_ hB HM.out) (HK.out.row HRW.out)).mono ?_
 rintro e w2 ⟨rfl,hF_,ka⟩
 have hi1:=hfi i hi
 have hza:=hz i
 generalize fac i = fa at *
 obtain ⟨⟨pa,va,ba⟩,i1⟩:=fa
 unfold pcV
 have hi1:i1 ≤ raw.size:=hi1
 have hza:(flat pa).size ≤ 100:=hza
 have hF_:FeedAt F raw i1 w2:=hF_
 have HF_:=hide hF_
 have HK_:=hide (HK.out.trans ka)
 have hlF_:F < w2.heap.size:=Nat.lt_of_lt_of_le hlF ka.below.size
 have HN_P:=hide (HP.out.kf ka hPF)
 clear hF_ ka HF0 HK hlF HP
 have HF0:=HF_
 have hlF:=hlF_
 have HK:=HK_
 have HP:=HN_P
 clear HF_ hlF_ HK_ HN_P
 go_upto_region 2 with fail
 have hz_:=World.size_alloc w2 (.cells #[.string (flat pa),.bool va,.bool ba] 60)
 have HX_:Hid (PcAt w2.heap.size (flat pa) va ba (w2.alloc (.cells #[.string (flat pa),.bool va,.bool ba] 60))):=pc_alloc _ _ _ _
 have ka:Kf N F w2 (w2.alloc (.cells #[.string (flat pa),.bool va,.bool ba] 60)):=Kf.alloc N F w2 _ (by omega)
 have HF_:Hid (FeedAt F raw i1 (w2.alloc (.cells #[.string (flat pa),.bool va,.bool ba] 60))):=(Below.heap_alloc _ _ _ hlF).trans HF0.out
 have hl_P:P < w2.heap.size:=HP.out.lt
 have HN_P:=hide (HP.out.kf ka hPF)
 generalize w2.alloc (.cells #[.string (flat pa),.bool va,.bool ba] 60) = w3 at *
 have hAF:w2.heap.size ≠ F:=by omega
 have hPA:P ≠ w2.heap.size:=by omega
 have hAP:w2.heap.size ≠ P:=by omega
 have hNA:N ≤ w2.heap.size:=by omega
 have hlF_:F < w3.heap.size:=by omega
 have HWA:Hid (w.heap.size ≤ w2.heap.size):=HK.out.below.size
 have HK_:=hide (HK.out.trans ka)
 clear hz_ ka hlF HF0 HK
 clear HP hl_P
 generalize w2.heap.size = A at *
 have HA:=HX_
 have HF0:=HF_
 have hlF:=hlF_
 have HK:=HK_
 have HP:=HN_P
 clear HX_ HF_ hlF_ HK_ HN_P
 go_wp2_with fail
 refine (HFAC.out i1 w3 hi1 HF0.out (HK.out.mk_ hB HM.out) (HK.out.row HRW.out)).mono ?_
 rintro e w4 ⟨rfl,hF_,ka⟩
 have hi2:=hfi i1 hi1
 have hzc:=hz i1
 generalize fac i1 = fc at *
 obtain ⟨⟨pc,vc,bc⟩,i2⟩:=fc
 unfold pcV
 have hi2:i2 ≤ raw.size:=hi2
 have hzc:(flat pc).size ≤ 100:=hzc
 have hF_:FeedAt F raw i2 w4:=hF_
 have HF_:=hide hF_
 have HK_:=hide (HK.out.trans ka)
 have hlF_:F < w4.heap.size:=Nat.lt_of_lt_of_le hlF ka.below.size
 have HN_P:=hide (HP.out.kf ka hPF)
 have HN_A:=hide (HA.out.kf ka hAF)
 clear hF_ ka HF0 HK hlF HP HA
 have HF0:=HF_
 have hlF:=hlF_
 have HK:=HK_
 have HP:=HN_P
 have HA:=HN_A
 clear HF_ hlF_ HK_ HN_P HN_A
 go_upto_region 3 with fail
 have hz_:=World.size_alloc w4 (.cells #[.string (flat pc),.bool vc,.bool bc] 60)
 have HX_:Hid (PcAt w4.heap.size (flat pc) vc bc (w4.alloc (.cells #[.string (flat pc),.bool vc,.bool bc] 60))):=pc_alloc _ _ _ _
 have ka:Kf N F w4 (w4.alloc (.cells #[.string (flat pc),.bool vc,.bool bc] 60)):=Kf.alloc N F w4 _ (by omega)
 have HF_:Hid (FeedAt F raw i2 (w4.alloc (.cells #[.string (flat pc),.bool vc,.bool bc] 60))):=(Below.heap_alloc _ _ _ hlF).trans HF0.out
 have hl_P:P < w4.heap.size:=HP.out.lt
 have HN_P:=hide (HP.out.kf ka hPF)
 have hl_A:A < w4.heap.size:=HA.out.lt
 have HN_A:=hide (HA.out.kf ka hAF)
 generalize w4.alloc (.cells #[.string (flat pc),.bool vc,.bool bc] 60) = w5 at *
 have hCF:w4.heap.size ≠ F:=by omega
 have hPC:P ≠ w4.heap.size:=by omega
 have hCP:w4.heap.size ≠ P:=by omega
 have hAC:A ≠ w4.heap.size:=by omega
 have hCA:w4.heap.size ≠ A:=by omega
 have hNC:N ≤ w4.heap.size:=by omega
 have hlF_:F < w5.heap.size:=by omega
 have HWC:Hid (w.heap.size ≤ w4.heap.size):=HK.out.below.size
 have HK_:=hide (HK.out.trans ka)
 clear hz_ ka hlF HF0 HK
 clear HP hl_P
 clear HA hl_A
 generalize w4.heap.size = C at *
 have HC:=HX_
 have HF0:=HF_
 have hlF:=hlF_
 have HK:=HK_
 have HP:=HN_P
 have HA:=HN_A
 clear HX_ HF_ hlF_ HK_ HN_P HN_A
 go_wp2_with fail
 refine (HFAC.out i2 w5 hi2 HF0.out (HK.out.mk_ hB HM.out) (HK.out.row HRW.out)).mono ?_
 rintro e w6 ⟨rfl,hF_,ka⟩
 have hi3:=hfi i2 hi2
 have hzd:=hz i2
 generalize fac i2 = fd at *
 obtain ⟨⟨pd,vd,bd⟩,i3⟩:=fd
 unfold pcV
 have hi3:i3 ≤ raw.size:=hi3
 have hzd:(flat pd).size ≤ 100:=hzd
 have hF_:FeedAt F raw i3 w6:=hF_
 have HF_:=hide hF_
 have HK_:=hide (HK.out.trans ka)
 have hlF_:F < w6.heap.size:=Nat.lt_of_lt_of_le hlF ka.below.size
 have HN_P:=hide (HP.out.kf ka hPF)
 have HN_A:=hide (HA.out.kf ka hAF)
 have HN_C:=hide (HC.out.kf ka hCF)
 clear hF_ ka HF0 HK hlF HP HA HC
 have HF0:=HF_
 have hlF:=hlF_
 have HK:=HK_
 have HP:=HN_P
 have HA:=HN_A
 have HC:=HN_C
 clear HF_ hlF_ HK_ HN_P HN_A HN_C
 go_upto_region 4 with fail
 have hz_:=World.size_alloc w6 (.cells #[.string (flat pd),.bool vd,.bool bd] 60)
 have HX_:Hid (PcAt w6.heap.size (flat pd) vd bd (w6.alloc (.cells #[.string (flat pd),.bool vd,.bool bd] 60))):=pc_alloc _ _ _ _
 have ka:Kf N F w6 (w6.alloc (.cells #[.string (flat pd),.bool vd,.bool bd] 60)):=Kf.alloc N F w6 _ (by omega)
 have HF_:Hid (FeedAt F raw i3 (w6.alloc (.cells #[.string (flat pd),.bool vd,.bool bd] 60))):=(Below.heap_alloc _ _ _ hlF).trans HF0.out
 have hl_P:P < w6.heap.size:=HP.out.lt
 have HN_P:=hide (HP.out.kf ka hPF)
 have hl_A:A < w6.heap.size:=HA.out.lt
 have HN_A:=hide (HA.out.kf ka hAF)
 have hl_C:C < w6.heap.size:=HC.out.lt
 have HN_C:=hide (HC.out.kf ka hCF)
 generalize w6.alloc (.cells #[.string (flat pd),.bool vd,.bool bd] 60) = w7 at *
 have hDF:w6.heap.size ≠ F:=by omega
 have hPD:P ≠ w6.heap.size:=by omega
 have hDP:w6.heap.size ≠ P:=by omega
 have hAD:A ≠ w6.heap.size:=by omega
 have hDA:w6.heap.size ≠ A:=by omega
 have hCD:C ≠ w6.heap.size:=by omega
 have hDC:w6.heap.size ≠ C:=by omega
 have hND:N ≤ w6.heap.size:=by omega
 have hlF_:F < w7.heap.size:=by omega
 have HWD:Hid (w.heap.size ≤ w6.heap.size):=HK.out.below.size
 have HK_:=hide (HK.out.trans ka)
 clear hz_ ka hlF HF0 HK
 clear HP hl_P
 clear HA hl_A
 clear HC hl_C
 generalize w6.heap.size = D at *
 have HD:=HX_
 have HF0:=HF_
 have hlF:=hlF_
 have HK:=HK_
 have HP:=HN_P
 have HA:=HN_A
 have HC:=HN_C
 clear HX_ HF_ hlF_ HK_ HN_P HN_A HN_C
 have ca:=HA.out.cells
 go_upto_region 5 with fail
 clear ca
 have hz_:=World.size_alloc w7 (.cells #[.string (flat pa),.bool va,.bool ba] 60)
 have HX_:Hid (PcAt w7.heap.size (flat pa) va ba (w7.alloc (.cells #[.string (flat pa),.bool va,.bool ba] 60))):=pc_alloc _ _ _ _
 have ka:Kf N F w7 (w7.alloc (.cells #[.string (flat pa),.bool va,.bool ba] 60)):=Kf.alloc N F w7 _ (by omega)
 have HF_:Hid (FeedAt F raw i3 (w7.alloc (.cells #[.string (flat pa),.bool va,.bool ba] 60))):=(Below.heap_alloc _ _ _ hlF).trans HF0.out
 have hl_P:P < w7.heap.size:=HP.out.lt
 have HN_P:=hide (HP.out.kf ka hPF)
 have hl_A:A < w7.heap.size:=HA.out.lt
 have HN_A:=hide (HA.out.kf ka hAF)
 have hl_C:C < w7.heap.size:=HC.out.lt
 have HN_C:=hide (HC.out.kf ka hCF)
 have hl_D:D < w7.heap.size:=HD.out.lt
 have HN_D:=hide (HD.out.kf ka hDF)
 generalize w7.alloc (.cells #[.string (flat pa),.bool va,.bool ba] 60) = w8 at *
 have hRF:w7.heap.size ≠ F:=by omega
 have hPR:P ≠ w7.heap.size:=by omega
 have hRP:w7.heap.size ≠ P:=by omega
 have hAR:A ≠ w7.heap.size:=by omega
 have hRA:w7.heap.size ≠ A:=by omega
 have hCR:C ≠ w7.heap.size:=by omega
 have hRC:w7.heap.size ≠ C:=by omega
 have hDR:D ≠ w7.heap.size:=by omega
 have hRD:w7.heap.size ≠ D:=by omega
 have hNR:N ≤ w7.heap.size:=by omega
 have hlF_:F < w8.heap.size:=by omega
 have HWR:Hid (w.heap.size ≤ w7.heap.size):=HK.out.below.size
 have HK_:=hide (HK.out.trans ka)
 clear hz_ ka hlF HF0 HK
 clear HP hl_P
 clear HA hl_A
 clear HC hl_C
 clear HD hl_D
 generalize w7.heap.size = R at *
 have HR:=HX_
 have HF0:=HF_
 have hlF:=hlF_
 have HK:=HK_
 have HP:=HN_P
 have HA:=HN_A
 have HC:=HN_C
 have HD:=HN_D
 clear HX_ HF_ hlF_ HK_ HN_P HN_A HN_C HN_D
 have c0:w8.cell? ⟨B,0,none⟩ = some (.pointer (some ⟨F,0,none⟩)):=by have:=HK.out.mk_ hB HM.out; unfold MkAt at this; simp [World.cell?,this]
 go_wp2_with fail
 refine (k_nextM N F B raw i3 6 6 rfl (by decide) hr w8 HF0.out hi3 hN hB).mono ?_
 rintro e w9 ⟨rfl,hF_,ka⟩
 have hk:=nxW_lt raw i3 (n:=6) (by decide)
 have HL2:Hid (expM raw fac i = (mixM (nxW raw 6 i3).1 ⟨pa,va,ba⟩ ⟨pc,vc,bc⟩ ⟨pd,vd,bd⟩,(nxW raw 6 i3).2)):=HL
 clear HL
 generalize (nxW raw 6 i3).2 = i4 at *
 generalize (nxW raw 6 i3).1 = k at *
 have HF_:=hide hF_
 have HK_:=hide (HK.out.trans ka)
 have hlF_:F < w9.heap.size:=Nat.lt_of_lt_of_le hlF ka.below.size
 have HN_P:=hide (HP.out.kf ka hPF)
 have HN_A:=hide (HA.out.kf ka hAF)
 have HN_C:=hide (HC.out.kf ka hCF)
 have HN_D:=hide (HD.out.kf ka hDF)
 have HN_R:=hide (HR.out.kf ka hRF)
 clear hF_ ka HF0 HK hlF HP HA HC HD HR
 have HF0:=HF_
 have hlF:=hlF_
 have HK:=HK_
 have HP:=HN_P
 have HA:=HN_A
 have HC:=HN_C
 have HD:=HN_D
 have HR:=HN_R
 clear HF_ hlF_ HK_ HN_P HN_A HN_C HN_D HN_R
 clear c0
 go_upto_if 26 with fail
 have HRr:=Ro.refl R w9
 have HKw:=hide HK.out
 go_cut [] (fun wx=>PcAt R (flat pa) va (if 0 < k then ba || bc else ba) wx∧Ro R w9 wx∧Kf N F w wx)
 case first =>
  have ca:=HA.out.cells
  have cc:=HC.out.cells
  have cr:=HR.out.cells
  have HRo:=hide HRr
  clear HRr
  by_cases h0:k = 0
  ·subst h0
   go_wp2_with fail
   go_meet
   case rel=>exact ⟨HR.out,HRo.out,HKw.out⟩
  ·have h0':(0:Int) < (k:Int):=by omega
   have HIF:Hid ((if 0 < k then ba || bc else ba) = (ba || bc)):=if_pos (by omega)
   cases ba
   ·go_wp2_with fail
    go_meet
    case rel=>rw [HIF.out]; exact ⟨HR.out.set2,HRo.out.set,HKw.out.set HWR.out hNR⟩
   ·go_wp2_with fail
    go_meet
    case rel=>rw [HIF.out]; exact ⟨HR.out.set2,HRo.out.set,HKw.out.set HWR.out hNR⟩
 case rest =>
  obtain ⟨hR1,hO1,hK1⟩:=hcut
  have HR1:=hide hR1
  have HO1:=hide hO1
  have HK1:=hide hK1
  clear hR1 hO1 hK1 HR HRr HKw
  generalize hq1:(if 0 < k then ba || bc else ba) = q1 at *
  have HQ1:Hid ((if 0 < k then ba || bc else ba) = q1):=hq1
  clear hq1
  go_upto_if 35 with fail
  go_cut [] (fun wx=>PcAt R (flat pa) va (if 2 < k then q1 || bd else q1) wx∧Ro R w9 wx∧Kf N F w wx)
  case first =>
   have cd:=(HO1.out.pc hDR HD.out).cells
   have cr:=HR1.out.cells
   by_cases h2:2 < k
   ·have h2':(2:Int) < (k:Int):=by omega
    have HIF:Hid ((if 2 < k then q1 || bd else q1) = (q1 || bd)):=if_pos h2
    cases q1
    ·go_wp2_with fail
     go_meet
     case rel=>rw [HIF.out]; exact ⟨HR1.out.set2,HO1.out.set,HK1.out.set HWR.out hNR⟩
    ·go_wp2_with fail
     go_meet
     case rel=>rw [HIF.out]; exact ⟨HR1.out.set2,HO1.out.set,HK1.out.set HWR.out hNR⟩
   ·have h2':(k:Int) ≤ 2:=by omega
    have HIF:Hid ((if 2 < k then q1 || bd else q1) = q1):=if_neg h2
    clear h2
    go_wp2_with fail
    go_meet
    case rel=>rw [HIF.out]; exact ⟨HR1.out,HO1.out,HK1.out⟩
  case rest =>
   obtain ⟨hR2,hO2,hK2⟩:=hcut
   have HR2:=hide hR2
   have HO2:=hide hO2
   have HK2:=hide hK2
   clear hR2 hO2 hK2 HR1 HO1 HK1
   generalize hq2:(if 2 < k then q1 || bd else q1) = q2 at *
   have HQ2:Hid ((if 2 < k then q1 || bd else q1) = q2):=hq2
   clear hq2
   generalize wc = w10 at *
   have ca:=(HO2.out.pc hAR HA.out).cells
   have cc:=(HO2.out.pc hCR HC.out).cells
   have cd:=(HO2.out.pc hDR HD.out).cells
   have cp:=(HO2.out.pc hPR HP.out).cells
   have cr:=HR2.out.cells
   have HPw:=hide (HO2.out.pc hPR HP.out)
   have HFw:Hid (FeedAt F raw i4 w10):=(HO2.out F (Ne.symm hRF)).trans HF0.out
   have HLA:Hid ((expM raw fac i).1 = mixM k ⟨pa,va,ba⟩ ⟨pc,vc,bc⟩ ⟨pd,vd,bd⟩):=by show _ = _; rw [HL2.out]
   have HLB:Hid ((expM raw fac i).2 = i4):=by show _ = _; rw [HL2.out]
   clear HL2
   by_cases h0:k = 0
   ·subst h0
    have eq:q2 = ba:=by rw [← HQ2.out,← HQ1.out]; rfl
    have HX:Hid ((expM raw fac i).1 = ⟨pa,va,q2⟩):=by show _ = _; rw [HLA.out,eq]; rfl
    clear HLA HQ1 HQ2 eq
    go_wp2_with fail
    refine pc_ret (pc:=(expM raw fac i).1) Tryz.results26 rfl rfl ?_ ?_
    ·rw [HX.out]; exact set3M HPw.out
    refine ⟨rfl,?_,?_⟩
    ·rw [HLB.out]; exact feed_set (feed_set (feed_set HFw.out hPF) hPF) hPF
    ·exact ((HK2.out.set HWP.out hNP).set HWP.out hNP).set HWP.out hNP
   have g0:((k:Int) == 0) = false:=beq_eq_false_iff_ne.2 (by omega)
   by_cases h1:k = 1
   ·subst h1
    have eq:q2 = (ba || bc):=by rw [← HQ2.out,← HQ1.out]; rfl
    have HX:Hid ((expM raw fac i).1 = ⟨pa ++ ([tB,tAnd,tB] ++ pc),va && vc,q2⟩):=by show _ = _; rw [HLA.out,eq]; rfl
    have HT:Hid (flat (⟨pa ++ ([tB,tAnd,tB] ++ pc),va && vc,q2⟩:Pc).ps = (flat pa ++ ⟨#[32,38,32]⟩) ++ flat pc):=by show flat (_ ++ _) = _; simp only [flat_app,ByteArray.append_assoc]; rfl
    clear HLA HQ1 HQ2 eq
    cases va
    ·as_aux_lemma =>
       go_wp2_with fail
       refine pc_ret (pc:=(expM raw fac i).1) Tryz.results26 rfl rfl ?_ ?_
       ·rw [HX.out,HT.out]; exact set3M ((wset_ne _ _ _ _ _ hPR).trans ((wset_ne _ _ _ _ _ hPR).trans HPw.out))
       refine ⟨rfl,?_,?_⟩
       ·rw [HLB.out]; exact feed_set (feed_set (feed_set (feed_set (feed_set HFw.out hRF) hRF) hPF) hPF) hPF
       ·exact ((((HK2.out.set HWR.out hNR).set HWR.out hNR).set HWP.out hNP).set HWP.out hNP).set HWP.out hNP
    ·as_aux_lemma =>
       go_wp2_with fail
       refine pc_ret (pc:=(expM raw fac i).1) Tryz.results26 rfl rfl ?_ ?_
       ·rw [HX.out,HT.out]; exact set3M ((wset_ne _ _ _ _ _ hPR).trans ((wset_ne _ _ _ _ _ hPR).trans HPw.out))
       refine ⟨rfl,?_,?_⟩
       ·rw [HLB.out]; exact feed_set (feed_set (feed_set (feed_set (feed_set HFw.out hRF) hRF) hPF) hPF) hPF
       ·exact ((((HK2.out.set HWR.out hNR).set HWR.out hNR).set HWP.out hNP).set HWP.out hNP).set HWP.out hNP
   have g1:((k:Int) == 1) = false:=beq_eq_false_iff_ne.2 (by omega)
   by_cases h2:k = 2
   ·subst h2
    have eq:q2 = (ba || bc):=by rw [← HQ2.out,← HQ1.out]; rfl
    have HX:Hid ((expM raw fac i).1 = ⟨pa ++ ([tOr] ++ pc),va || vc,q2⟩):=by show _ = _; rw [HLA.out,eq]; rfl
    have HT:Hid (flat (⟨pa ++ ([tOr] ++ pc),va || vc,q2⟩:Pc).ps = (flat pa ++ ⟨#[124]⟩) ++ flat pc):=by show flat (_ ++ _) = _; simp only [flat_app,ByteArray.append_assoc]; rfl
    clear HLA HQ1 HQ2 eq
    cases va
    ·as_aux_lemma =>
       go_wp2_with fail
       refine pc_ret (pc:=(expM raw fac i).1) Tryz.results26 rfl rfl ?_ ?_
       ·rw [HX.out,HT.out]; exact set3M ((wset_ne _ _ _ _ _ hPR).trans ((wset_ne _ _ _ _ _ hPR).trans HPw.out))
       refine ⟨rfl,?_,?_⟩
       ·rw [HLB.out]; exact feed_set (feed_set (feed_set (feed_set (feed_set HFw.out hRF) hRF) hPF) hPF) hPF
       ·exact ((((HK2.out.set HWR.out hNR).set HWR.out hNR).set HWP.out hNP).set HWP.out hNP).set HWP.out hNP
    ·as_aux_lemma =>
       go_wp2_with fail
       refine pc_ret (pc:=(expM raw fac i).1) Tryz.results26 rfl rfl ?_ ?_
       ·rw [HX.out,HT.out]; exact set3M ((wset_ne _ _ _ _ _ hPR).trans ((wset_ne _ _ _ _ _ hPR).trans HPw.out))
       refine ⟨rfl,?_,?_⟩
       ·rw [HLB.out]; exact feed_set (feed_set (feed_set (feed_set (feed_set HFw.out hRF) hRF) hPF) hPF) hPF
       ·exact ((((HK2.out.set HWR.out hNR).set HWR.out hNR).set HWP.out hNP).set HWP.out hNP).set HWP.out hNP
   have g2:((k:Int) == 2) = false:=beq_eq_false_iff_ne.2 (by omega)
   by_cases h3:k = 3
   ·subst h3
    have eq:q2 = (ba || bc || bd):=by rw [← HQ2.out,← HQ1.out]; rfl
    have HX:Hid ((expM raw fac i).1 = ⟨pa ++ ([tB,tOr,tB] ++ (pc ++ ([tB,tAnd,tB] ++ pd))),va || (vc && vd),q2⟩):=by show _ = _; rw [HLA.out,eq]; rfl
    have HT:Hid (flat (⟨pa ++ ([tB,tOr,tB] ++ (pc ++ ([tB,tAnd,tB] ++ pd))),va || (vc && vd),q2⟩:Pc).ps = (((flat pa ++ ⟨#[32,124,32]⟩) ++ flat pc) ++ ⟨#[32,38,32]⟩) ++ flat pd):=by show flat (_ ++ _) = _; simp only [flat_app,ByteArray.append_assoc]; rfl
    clear HLA HQ1 HQ2 eq
    cases va
    ·cases vc
     ·as_aux_lemma =>
        go_wp2_with fail
        refine pc_ret (pc:=(expM raw fac i).1) Tryz.results26 rfl rfl ?_ ?_
        ·rw [HX.out,HT.out]; exact set3M ((wset_ne _ _ _ _ _ hPR).trans ((wset_ne _ _ _ _ _ hPR).trans HPw.out))
        refine ⟨rfl,?_,?_⟩
        ·rw [HLB.out]; exact feed_set (feed_set (feed_set (feed_set (feed_set HFw.out hRF) hRF) hPF) hPF) hPF
        ·exact ((((HK2.out.set HWR.out hNR).set HWR.out hNR).set HWP.out hNP).set HWP.out hNP).set HWP.out hNP
     ·as_aux_lemma =>
        go_wp2_with fail
        refine pc_ret (pc:=(expM raw fac i).1) Tryz.results26 rfl rfl ?_ ?_
        ·rw [HX.out,HT.out]; exact set3M ((wset_ne _ _ _ _ _ hPR).trans ((wset_ne _ _ _ _ _ hPR).trans HPw.out))
        refine ⟨rfl,?_,?_⟩
        ·rw [HLB.out]; exact feed_set (feed_set (feed_set (feed_set (feed_set HFw.out hRF) hRF) hPF) hPF) hPF
        ·exact ((((HK2.out.set HWR.out hNR).set HWR.out hNR).set HWP.out hNP).set HWP.out hNP).set HWP.out hNP
    ·cases vc
     ·as_aux_lemma =>
        go_wp2_with fail
        refine pc_ret (pc:=(expM raw fac i).1) Tryz.results26 rfl rfl ?_ ?_
        ·rw [HX.out,HT.out]; exact set3M ((wset_ne _ _ _ _ _ hPR).trans ((wset_ne _ _ _ _ _ hPR).trans HPw.out))
        refine ⟨rfl,?_,?_⟩
        ·rw [HLB.out]; exact feed_set (feed_set (feed_set (feed_set (feed_set HFw.out hRF) hRF) hPF) hPF) hPF
        ·exact ((((HK2.out.set HWR.out hNR).set HWR.out hNR).set HWP.out hNP).set HWP.out hNP).set HWP.out hNP
     ·as_aux_lemma =>
        go_wp2_with fail
        refine pc_ret (pc:=(expM raw fac i).1) Tryz.results26 rfl rfl ?_ ?_
        ·rw [HX.out,HT.out]; exact set3M ((wset_ne _ _ _ _ _ hPR).trans ((wset_ne _ _ _ _ _ hPR).trans HPw.out))
        refine ⟨rfl,?_,?_⟩
        ·rw [HLB.out]; exact feed_set (feed_set (feed_set (feed_set (feed_set HFw.out hRF) hRF) hPF) hPF) hPF
        ·exact ((((HK2.out.set HWR.out hNR).set HWR.out hNR).set HWP.out hNP).set HWP.out hNP).set HWP.out hNP
   have g3:((k:Int) == 3) = false:=beq_eq_false_iff_ne.2 (by omega)
   by_cases h4:k = 4
   ·subst h4
    have eq:q2 = (ba || bc || bd):=by rw [← HQ2.out,← HQ1.out]; rfl
    have HX:Hid ((expM raw fac i).1 = ⟨pa ++ ([tAnd] ++ (pc ++ ([tOr] ++ pd))),(va && vc) || vd,q2⟩):=by show _ = _; rw [HLA.out,eq]; rfl
    have HT:Hid (flat (⟨pa ++ ([tAnd] ++ (pc ++ ([tOr] ++ pd))),(va && vc) || vd,q2⟩:Pc).ps = (((flat pa ++ ⟨#[38]⟩) ++ flat pc) ++ ⟨#[124]⟩) ++ flat pd):=by show flat (_ ++ _) = _; simp only [flat_app,ByteArray.append_assoc]; rfl
    clear HLA HQ1 HQ2 eq
    cases va
    ·cases vc
     ·as_aux_lemma =>
        go_wp2_with fail
        refine pc_ret (pc:=(expM raw fac i).1) Tryz.results26 rfl rfl ?_ ?_
        ·rw [HX.out,HT.out]; exact set3M ((wset_ne _ _ _ _ _ hPR).trans ((wset_ne _ _ _ _ _ hPR).trans HPw.out))
        refine ⟨rfl,?_,?_⟩
        ·rw [HLB.out]; exact feed_set (feed_set (feed_set (feed_set (feed_set HFw.out hRF) hRF) hPF) hPF) hPF
        ·exact ((((HK2.out.set HWR.out hNR).set HWR.out hNR).set HWP.out hNP).set HWP.out hNP).set HWP.out hNP
     ·as_aux_lemma =>
        go_wp2_with fail
        refine pc_ret (pc:=(expM raw fac i).1) Tryz.results26 rfl rfl ?_ ?_
        ·rw [HX.out,HT.out]; exact set3M ((wset_ne _ _ _ _ _ hPR).trans ((wset_ne _ _ _ _ _ hPR).trans HPw.out))
        refine ⟨rfl,?_,?_⟩
        ·rw [HLB.out]; exact feed_set (feed_set (feed_set (feed_set (feed_set HFw.out hRF) hRF) hPF) hPF) hPF
        ·exact ((((HK2.out.set HWR.out hNR).set HWR.out hNR).set HWP.out hNP).set HWP.out hNP).set HWP.out hNP
    ·cases vc
     ·as_aux_lemma =>
        go_wp2_with fail
        refine pc_ret (pc:=(expM raw fac i).1) Tryz.results26 rfl rfl ?_ ?_
        ·rw [HX.out,HT.out]; exact set3M ((wset_ne _ _ _ _ _ hPR).trans ((wset_ne _ _ _ _ _ hPR).trans HPw.out))
        refine ⟨rfl,?_,?_⟩
        ·rw [HLB.out]; exact feed_set (feed_set (feed_set (feed_set (feed_set HFw.out hRF) hRF) hPF) hPF) hPF
        ·exact ((((HK2.out.set HWR.out hNR).set HWR.out hNR).set HWP.out hNP).set HWP.out hNP).set HWP.out hNP
     ·as_aux_lemma =>
        go_wp2_with fail
        refine pc_ret (pc:=(expM raw fac i).1) Tryz.results26 rfl rfl ?_ ?_
        ·rw [HX.out,HT.out]; exact set3M ((wset_ne _ _ _ _ _ hPR).trans ((wset_ne _ _ _ _ _ hPR).trans HPw.out))
        refine ⟨rfl,?_,?_⟩
        ·rw [HLB.out]; exact feed_set (feed_set (feed_set (feed_set (feed_set HFw.out hRF) hRF) hPF) hPF) hPF
        ·exact ((((HK2.out.set HWR.out hNR).set HWR.out hNR).set HWP.out hNP).set HWP.out hNP).set HWP.out hNP
   have g4:((k:Int) == 4) = false:=beq_eq_false_iff_ne.2 (by omega)
   by_cases h5:k = 5
   ·subst h5
    have eq:q2 = (ba || bc || bd):=by rw [← HQ2.out,← HQ1.out]; rfl
    have HX:Hid ((expM raw fac i).1 = ⟨pa ++ ([tB,tOr,tB] ++ (pc ++ ([tB,tOr,tB] ++ pd))),va || vc || vd,q2⟩):=by show _ = _; rw [HLA.out,eq]; rfl
    have HT:Hid (flat (⟨pa ++ ([tB,tOr,tB] ++ (pc ++ ([tB,tOr,tB] ++ pd))),va || vc || vd,q2⟩:Pc).ps = (((flat pa ++ ⟨#[32,124,32]⟩) ++ flat pc) ++ ⟨#[32,124,32]⟩) ++ flat pd):=by show flat (_ ++ _) = _; simp only [flat_app,ByteArray.append_assoc]; rfl
    clear HLA HQ1 HQ2 eq
    cases va
    ·cases vc
     ·as_aux_lemma =>
        go_wp2_with fail
        refine pc_ret (pc:=(expM raw fac i).1) Tryz.results26 rfl rfl ?_ ?_
        ·rw [HX.out,HT.out]; exact set3M ((wset_ne _ _ _ _ _ hPR).trans ((wset_ne _ _ _ _ _ hPR).trans HPw.out))
        refine ⟨rfl,?_,?_⟩
        ·rw [HLB.out]; exact feed_set (feed_set (feed_set (feed_set (feed_set HFw.out hRF) hRF) hPF) hPF) hPF
        ·exact ((((HK2.out.set HWR.out hNR).set HWR.out hNR).set HWP.out hNP).set HWP.out hNP).set HWP.out hNP
     ·as_aux_lemma =>
        go_wp2_with fail
        refine pc_ret (pc:=(expM raw fac i).1) Tryz.results26 rfl rfl ?_ ?_
        ·rw [HX.out,HT.out]; exact set3M ((wset_ne _ _ _ _ _ hPR).trans ((wset_ne _ _ _ _ _ hPR).trans HPw.out))
        refine ⟨rfl,?_,?_⟩
        ·rw [HLB.out]; exact feed_set (feed_set (feed_set (feed_set (feed_set HFw.out hRF) hRF) hPF) hPF) hPF
        ·exact ((((HK2.out.set HWR.out hNR).set HWR.out hNR).set HWP.out hNP).set HWP.out hNP).set HWP.out hNP
    ·cases vc
     ·as_aux_lemma =>
        go_wp2_with fail
        refine pc_ret (pc:=(expM raw fac i).1) Tryz.results26 rfl rfl ?_ ?_
        ·rw [HX.out,HT.out]; exact set3M ((wset_ne _ _ _ _ _ hPR).trans ((wset_ne _ _ _ _ _ hPR).trans HPw.out))
        refine ⟨rfl,?_,?_⟩
        ·rw [HLB.out]; exact feed_set (feed_set (feed_set (feed_set (feed_set HFw.out hRF) hRF) hPF) hPF) hPF
        ·exact ((((HK2.out.set HWR.out hNR).set HWR.out hNR).set HWP.out hNP).set HWP.out hNP).set HWP.out hNP
     ·as_aux_lemma =>
        go_wp2_with fail
        refine pc_ret (pc:=(expM raw fac i).1) Tryz.results26 rfl rfl ?_ ?_
        ·rw [HX.out,HT.out]; exact set3M ((wset_ne _ _ _ _ _ hPR).trans ((wset_ne _ _ _ _ _ hPR).trans HPw.out))
        refine ⟨rfl,?_,?_⟩
        ·rw [HLB.out]; exact feed_set (feed_set (feed_set (feed_set (feed_set HFw.out hRF) hRF) hPF) hPF) hPF
        ·exact ((((HK2.out.set HWR.out hNR).set HWR.out hNR).set HWP.out hNP).set HWP.out hNP).set HWP.out hNP
   exact absurd hk (by omega)
end Go.Proofs.YtmfcpbhdggonfaaGreatDoor
