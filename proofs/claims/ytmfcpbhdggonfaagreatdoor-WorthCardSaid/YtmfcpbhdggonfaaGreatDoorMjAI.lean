/- Contracts of the statements' own package: the maker of EXPRs: factor, with brackets. -/
import Derived.Test.YtmfcpbhdggonfaaGreatDoorMjAH
namespace Go.Proofs.YtmfcpbhdggonfaaGreatDoor
open Go.RowKit RR
theorem flat_brk (xs:List ByteArray):flat (tOpen :: (xs ++ [tShut])) = (⟨#[40]⟩ ++ flat xs ++ ⟨#[41]⟩:ByteArray):=by
 show tOpen ++ flat (xs ++ [tShut]) = _
 rw [flat_app,flat1M,ByteArray.append_assoc]
set_option maxRecDepth 100000 in
set_option maxHeartbeats 2000000 in
theorem m_factor1 (N F B:Nat) (raw:ByteArray) (E:List (ByteArray × Bool)) (ch:Bool) (a1 a2:Option Addr) (hr:raw.size ≤ 9223372036854775807) (hN:N ≤ F) (hB:B ≠ F) (hE:E.length ≤ 5) (hz:∀ i,(flat (leafM raw E ch i).1.ps).size ≤ 5) (hz2:∀ l:Pc × Nat,(flat l.1.ps).size ≤ 5→(flat (brkM raw E ch l).1.ps).size ≤ 26) (hex:ExpC N F B raw E ch a1 a2 0 (exp0 raw E ch)):FacC N F B raw E ch a1 a2 1 (fac1 raw E ch):=by
 have HEX:=hide hex
 clear hex
 intro i w hi hF hM hR
 have hlF:F < w.heap.size:=(Array.getElem?_eq_some_iff.1 hF).1
 have hlB:B < w.heap.size:=(Array.getElem?_eq_some_iff.1 hM).1
 have HF:=hide hF
 have HM:=hide hM
 have HR:=hide hR
 clear hF hM hR
 go_enter Tryz.func43,Tryz.ntmps43
 go_upto_region 1 with fail
 have hzz:=World.size_alloc w (.cells #[.string ⟨#[]⟩,.bool false,.bool false] 60)
 have hP:(w.alloc (.cells #[.string ⟨#[]⟩,.bool false,.bool false] 60)).heap[w.heap.size]? = some (.cells #[.string ⟨#[]⟩,.bool false,.bool false] 60 (0,0)):=heap_alloc_new _ _
 have HK1:Hid (Kf N F w (w.alloc (.cells #[.string ⟨#[]⟩,.bool false,.bool false] 60))):=Kf.alloc N F w _ (by omega)
 have HF1:Hid (FeedAt F raw i (w.alloc (.cells #[.string ⟨#[]⟩,.bool false,.bool false] 60))):=(Below.heap_alloc _ _ _ hlF).trans HF.out
 have HM1:=hide (HK1.out.mk_ hB HM.out)
 have HR1:=hide (HK1.out.row HR.out)
 have HM0:=HM
 have HR0:=HR
 clear HF HM HR
 generalize w.alloc (.cells #[.string ⟨#[]⟩,.bool false,.bool false] 60) = w1 at *
 have hPF:w.heap.size ≠ F:=by omega
 have hPl:w.heap.size < w1.heap.size:=by omega
 clear hzz
 obtain ⟨P,HP⟩:∃ P,Hid (P = w.heap.size):=⟨_,rfl⟩
 have hNP:N ≤ P:=by have:=HP.out; omega
 rw [← HP.out] at hP hPF hPl hlF hlB ⊢
 go_wp2_with fail
 refine (m_leaf N F B raw i E ch a1 a2 hr w1 HF1.out HM1.out HR1.out hi hN hB hE).mono ?_
 rintro e w2 ⟨rfl,hF2,k2⟩
 have hi2:=leafM_in raw E ch hi
 have hzl:=hz i
 have HL:Hid (fac1 raw E ch i = negM raw (brkM raw E ch (leafM raw E ch i))):=rfl
 generalize leafM raw E ch i = l at *
 obtain ⟨⟨ps,v,a⟩,i2⟩:=l
 have HF2:=hide hF2
 have HM2:=hide (k2.mk_ hB HM1.out)
 have HR2:=hide (k2.row HR1.out)
 have HK2:=hide (HK1.out.trans k2)
 have hP2:=(k2.keep P hPl hPF).trans hP
 have hPl2:P < w2.heap.size:=Nat.lt_of_lt_of_le hPl k2.below.size
 clear hF2 k2 HK1 HF1 HM1 HR1 hP hPl
 unfold pcV
 simp only [] at hi2 hzl HF2
 go_upto_region 2 with fail
 have hzq:=World.size_alloc w2 (.cells #[.string (flat ps),.bool v,.bool a] 60)
 have hQ:(w2.alloc (.cells #[.string (flat ps),.bool v,.bool a] 60)).heap[w2.heap.size]? = some (.cells #[.string (flat ps),.bool v,.bool a] 60 (0,0)):=heap_alloc_new _ _
 have kq:Kf N F w2 (w2.alloc (.cells #[.string (flat ps),.bool v,.bool a] 60)):=Kf.alloc N F w2 _ (by omega)
 have HF3:Hid (FeedAt F raw i2 (w2.alloc (.cells #[.string (flat ps),.bool v,.bool a] 60))):=(Below.heap_alloc _ _ _ (by omega)).trans HF2.out
 generalize w2.alloc (.cells #[.string (flat ps),.bool v,.bool a] 60) = w3 at *
 have hQF:w2.heap.size ≠ F:=by omega
 have hQP:w2.heap.size ≠ P:=by omega
 have hNQ:N ≤ w2.heap.size:=by omega
 have hQl:w2.heap.size < w3.heap.size:=by omega
 have hlF2:F < w2.heap.size:=by omega
 clear hzq
 have HWQ:Hid (w.heap.size ≤ w2.heap.size):=HK2.out.below.size
 have HM3:=hide (kq.mk_ hB HM2.out)
 have HR3:=hide (kq.row HR2.out)
 have HK3:=hide (HK2.out.trans kq)
 have hP3:=(kq.keep P hPl2 hPF).trans hP2
 have hPl3:P < w3.heap.size:=Nat.lt_of_lt_of_le hPl2 kq.below.size
 clear HF2 HM2 HR2 HK2 hP2 hPl2 kq hlF2
 generalize w2.heap.size = Q at *
 have c0:w3.cell? ⟨B,0,none⟩ = some (.pointer (some ⟨F,0,none⟩)):=by have:=HM3.out; unfold MkAt at this; simp [World.cell?,this]
 go_wp2_with fail
 refine (k_nextM N F B raw i2 2 2 rfl (by decide) hr w3 HF3.out hi2 hN hB).mono ?_
 rintro e w5 ⟨rfl,hF5,k5'⟩
 have hk5:=nxW_lt raw i2 (n:=2) (by decide)
 have hi5:=nx_in raw 2 hi2
 have hzb:=hz2 (⟨ps,v,a⟩,i2) hzl
 have hib:=brkM_in raw E ch (l:=(⟨ps,v,a⟩,i2)) hi2
 have HBR:Hid (brkM raw E ch (⟨ps,v,a⟩,i2) = if (nxW raw 2 i2).1 = 1 then (⟨tOpen :: ((exp0 raw E ch (nxW raw 2 i2).2).1.ps ++ [tShut]),(exp0 raw E ch (nxW raw 2 i2).2).1.v,(exp0 raw E ch (nxW raw 2 i2).2).1.a⟩,(exp0 raw E ch (nxW raw 2 i2).2).2) else (⟨ps,v,a⟩,(nxW raw 2 i2).2)):=rfl
 generalize (nxW raw 2 i2).2 = i5 at *
 generalize (nxW raw 2 i2).1 = k5 at *
 generalize brkM raw E ch (⟨ps,v,a⟩,i2) = br at *
 have HF5:=hide hF5
 have HM5:=hide (k5'.mk_ hB HM3.out)
 have HR5:=hide (k5'.row HR3.out)
 have HK5:=hide (HK3.out.trans k5')
 have hP5:=(k5'.keep P hPl3 hPF).trans hP3
 have hQ5:=(k5'.keep Q hQl hQF).trans hQ
 have hPl5:P < w5.heap.size:=Nat.lt_of_lt_of_le hPl3 k5'.below.size
 have hQl5:Q < w5.heap.size:=Nat.lt_of_lt_of_le hQl k5'.below.size
 clear hF5 k5' c0 HF3 HM3 HR3 HK3 hP3 hPl3 hQ hQl
 go_upto_if 17 with fail
 go_cut [] (fun wx=>PcAt Q (flat br.1.ps) br.1.v br.1.a wx∧FeedAt F raw br.2 wx∧Kf N F w wx∧wx.heap[P]? = some (.cells #[.string ⟨#[]⟩,.bool false,.bool false] 60 (0,0)))
 case first =>
  have q0:w5.cell? ⟨Q,0,none⟩ = some (.string (flat ps)):=by simp [World.cell?,hQ5]
  by_cases h5:k5 = 1
  ·have HX:Hid (br = (⟨tOpen :: ((exp0 raw E ch i5).1.ps ++ [tShut]),(exp0 raw E ch i5).1.v,(exp0 raw E ch i5).1.a⟩,(exp0 raw E ch i5).2)):=by show _ = _; rw [HBR.out,if_pos h5]
   clear HBR HL
   subst h5
   go_wp2_with fail
   refine (HEX.out i5 w5 hi5 HF5.out HM5.out HR5.out).mono ?_
   rintro e w6 ⟨rfl,hF6,k6⟩
   generalize exp0 raw E ch i5 = x at *
   obtain ⟨⟨xs,xv,xa⟩,i6⟩:=x
   have hQ6:=(k6.keep Q hQl5 hQF).trans hQ5
   have hP6:=(k6.keep P hPl5 hPF).trans hP5
   have HF6:=hide hF6
   have HM6:=hide (k6.mk_ hB HM5.out)
   have HR6:=hide (k6.row HR5.out)
   have HK6:=hide (HK5.out.trans k6)
   clear hF6 k6 HF5 HM5 HR5 HK5 hQ5 hP5 q0
   have q0:w6.cell? ⟨Q,0,none⟩ = some (.string (flat ps)):=by simp [World.cell?,hQ6]
   have q1:w6.cell? ⟨Q,1,none⟩ = some (.bool v):=by simp [World.cell?,hQ6]
   have q2:w6.cell? ⟨Q,2,none⟩ = some (.bool a):=by simp [World.cell?,hQ6]
   have y0:w6.frozen? ⟨Q,0,none⟩ = false:=by simp [World.frozen?,hQ6]
   have y1:w6.frozen? ⟨Q,1,none⟩ = false:=by simp [World.frozen?,hQ6]
   have y2:w6.frozen? ⟨Q,2,none⟩ = false:=by simp [World.frozen?,hQ6]
   have HQ6:=hide hQ6
   have HP6:=hide hP6
   clear hQ6 hP6
   unfold pcV
   simp only [] at HF6
   have hzx:(flat xs).size ≤ 26:=by
    rw [HX.out] at hzb
    have e:flat (tOpen :: (xs ++ [tShut])) = tOpen ++ flat (xs ++ [tShut]):=rfl
    simp only [e,ByteArray.size_append,size_flat_app] at hzb
    omega
   go_wp2_with fail
   go_meet
   case rel =>
    rw [HX.out]
    refine ⟨?_,feed_set (feed_set (feed_set (feed_set HF6.out hQF) hQF) hQF) hQF,(((HK6.out.set HWQ.out hNQ).set HWQ.out hNQ).set HWQ.out hNQ).set HWQ.out hNQ,?_⟩
    ·unfold PcAt
     rw [flat_brk]
     exact wset (set3M HQ6.out) 0 _
    ·exact (wset_ne _ _ _ _ _ (Ne.symm hQP)).trans ((wset_ne _ _ _ _ _ (Ne.symm hQP)).trans ((wset_ne _ _ _ _ _ (Ne.symm hQP)).trans ((wset_ne _ _ _ _ _ (Ne.symm hQP)).trans HP6.out)))
  ·have HX:Hid (br = (⟨ps,v,a⟩,i5)):=by show _ = _; rw [HBR.out,if_neg h5]
   have h5':((k5:Int) == 1) = false:=beq_eq_false_iff_ne.2 (by omega)
   clear HBR HL h5
   go_wp2_with fail
   go_meet
   case rel=>rw [HX.out]; exact ⟨hQ5,HF5.out,HK5.out,hP5⟩
 case rest =>
  clear HF5 HM5 HR5 HK5 hP5 hQ5 hPl5 hQl5 HBR HEX hzl hi2
  obtain ⟨hQ,hF3,hK3,hP3⟩:=hcut
  obtain ⟨⟨ps,v,a⟩,i2⟩:=br
  have hzl:(flat ps).size ≤ 26:=hzb
  have hi2:i2 ≤ raw.size:=hib
  clear hzb hib
  generalize wc = w3 at *
  have hQ:w3.heap[Q]? = some (.cells #[.string (flat ps),.bool v,.bool a] 60 (0,0)):=hQ
  have hF3:FeedAt F raw i2 w3:=hF3
  have hPl3:P < w3.heap.size:=(Array.getElem?_eq_some_iff.1 hP3).1
  have hQl:Q < w3.heap.size:=(Array.getElem?_eq_some_iff.1 hQ).1
  have HF3:=hide hF3
  have HK3:=hide hK3
  have HM3:=hide (hK3.mk_ hB HM0.out)
  have HR3:=hide (hK3.row HR0.out)
  clear hF3 hK3
  have c0:w3.cell? ⟨B,0,none⟩ = some (.pointer (some ⟨F,0,none⟩)):=by have:=HM3.out; unfold MkAt at this; simp [World.cell?,this]
  go_wp2_with fail
  refine (k_nextM N F B raw i2 3 3 rfl (by decide) hr w3 HF3.out hi2 hN hB).mono ?_
  rintro e w4 ⟨rfl,hF4,k4⟩
  have hk:=nxW_lt raw i2 (n:=3) (by decide)
  have HN:Hid (negM raw (⟨ps,v,a⟩,i2) = (if (nxW raw 3 i2).1 = 1 then ⟨tBang :: ps,!v,a⟩ else ⟨ps,v,a⟩,(nxW raw 3 i2).2)):=rfl
  generalize (nxW raw 3 i2).2 = i4 at *
  generalize (nxW raw 3 i2).1 = k at *
  have HF4:=hide hF4
  have HK4:=hide (HK3.out.trans k4)
  have hP4:=(k4.keep P hPl3 hPF).trans hP3
  have hQ4:=(k4.keep Q hQl hQF).trans hQ
  clear hF4 k4 c0 HF3 HM3 HR3 HK3 hP3 hPl3 hQ hQl
  have q0:w4.cell? ⟨Q,0,none⟩ = some (.string (flat ps)):=by simp [World.cell?,hQ4]
  have q1:w4.cell? ⟨Q,1,none⟩ = some (.bool v):=by simp [World.cell?,hQ4]
  have q2:w4.cell? ⟨Q,2,none⟩ = some (.bool a):=by simp [World.cell?,hQ4]
  have y0:w4.frozen? ⟨Q,0,none⟩ = false:=by simp [World.frozen?,hQ4]
  have y1:w4.frozen? ⟨Q,1,none⟩ = false:=by simp [World.frozen?,hQ4]
  have p0:w4.cell? ⟨P,0,none⟩ = some (.string ⟨#[]⟩):=by simp [World.cell?,hP4]
  have p1:w4.cell? ⟨P,1,none⟩ = some (.bool false):=by simp [World.cell?,hP4]
  have p2:w4.cell? ⟨P,2,none⟩ = some (.bool false):=by simp [World.cell?,hP4]
  have z0:w4.frozen? ⟨P,0,none⟩ = false:=by simp [World.frozen?,hP4]
  have z1:w4.frozen? ⟨P,1,none⟩ = false:=by simp [World.frozen?,hP4]
  have z2:w4.frozen? ⟨P,2,none⟩ = false:=by simp [World.frozen?,hP4]
  have hPQ:P ≠ Q:=Ne.symm hQP
  have eP:w.heap.size ≤ P:=Nat.le_of_eq HP.out.symm
  have HEP:=hide eP
  have HP4:=hide hP4
  clear eP hP4 hQ4
  by_cases h1:k = 1
  ·have HX:Hid ((fac1 raw E ch i).1 = ⟨tBang :: ps,!v,a⟩∧(fac1 raw E ch i).2 = i4):=by show _∧_; rw [HL.out,HN.out,if_pos h1]; exact ⟨rfl,rfl⟩
   clear HN HL
   subst h1
   go_wp2_with fail
   refine pc_ret (pc:=⟨tBang :: ps,!v,a⟩) Tryz.results43 rfl rfl ?_ ?_
   ·exact set3M ((wset_ne _ _ _ _ _ hPQ).trans ((wset_ne _ _ _ _ _ hPQ).trans HP4.out))
   refine ⟨?_,?_,?_⟩
   ·rw [HX.out.1]
   ·rw [HX.out.2]; exact feed_set (feed_set (feed_set (feed_set (feed_set HF4.out hQF) hQF) hPF) hPF) hPF
   ·exact ((((HK4.out.set HWQ.out hNQ).set HWQ.out hNQ).set HEP.out hNP).set HEP.out hNP).set HEP.out hNP
  ·have HX:Hid ((fac1 raw E ch i).1 = ⟨ps,v,a⟩∧(fac1 raw E ch i).2 = i4):=by show _∧_; rw [HL.out,HN.out,if_neg h1]; exact ⟨rfl,rfl⟩
   have h1':((k:Int) == 1) = false:=beq_eq_false_iff_ne.2 (by omega)
   clear HN HL h1
   go_wp2_with fail
   refine pc_ret (pc:=⟨ps,v,a⟩) Tryz.results43 rfl rfl ?_ ?_
   ·exact set3M HP4.out
   refine ⟨?_,?_,?_⟩
   ·rw [HX.out.1]
   ·rw [HX.out.2]; exact feed_set (feed_set (feed_set HF4.out hPF) hPF) hPF
   ·exact ((HK4.out.set HEP.out hNP).set HEP.out hNP).set HEP.out hNP
end Go.Proofs.YtmfcpbhdggonfaaGreatDoor
