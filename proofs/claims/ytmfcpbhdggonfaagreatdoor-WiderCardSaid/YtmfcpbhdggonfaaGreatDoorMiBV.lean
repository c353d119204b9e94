/- The statement Wider, over what it calls. -/
import Derived.Test.YtmfcpbhdggonfaaGreatDoorMiBO
import Derived.Test.YtmfcpbhdggonfaaGreatDoorMiBK
namespace Go.Proofs.YtmfcpbhdggonfaaGreatDoor
open Go.RowKit RR
structure WdS (race1 dead1 wh1:Bool) (rb1 db1:ByteArray) (n1 f:Int) (race2 dead2:Bool) (rb2 db2:ByteArray) (g:Int) (race3 dead3 wh3:Bool) (rb3 db3:ByteArray) (n3 h:Int):Prop where
 big:f = 9 ∨ f = 0
 ctx:g = 9 ∨ g = 0
 stp:h = 9 ∨ h = 0
 both:f = 9→h = 9
 more:f = 0→g = 0→(race1 = true→race2 = true∧rb2.size ≤ rb1.size)∧(dead1 = true→dead2 = true∧db2.size ≤ db1.size)
 whole:f = 0→wh1 = true→h = 0∧wh3 = true∧n3 = n1∧race3 = race1∧dead3 = dead1
 same:f = 0→h = 0→(race1 = true→race3 = true∧rb3.size = rb1.size)∧(dead1 = true→dead3 = true∧db3.size = db1.size)∧n1 ≤ n3
theorem cells6 {w:World} {b:Nat} {C:Array Value} {t:TypeId} (h:w.heap[b]? = some (.cells C t (0,0))) (o:Nat) {x:Value} (hx:C[o]? = some x):w.cell? ⟨b,o,none⟩ = some x:=by
 simp only [World.cell?,h]
 exact hx
theorem kpB {w w':World} {b:Nat} {x:Obj} (h:w.heap[b]? = some x) (hb:Below w.heap.size w w'):w'.heap[b]? = some x:=(hb.block _ (Array.getElem?_eq_some_iff.1 h).1).trans h
theorem kpA {w:World} {b:Nat} {x o:Obj} (h:w.heap[b]? = some x):(w.alloc o).heap[b]? = some x:=(Below.heap_alloc _ _ _ (Array.getElem?_eq_some_iff.1 h).1).trans h
set_option maxRecDepth 100000 in
set_option maxHeartbeats 16000000 in
theorem k_Wider (W:World) (raw tx:ByteArray) (c st:Int) (j m:Nat) (hj:j < 5) (hm:m < 60) (T E:ByteArray) (rc dd:Bool) (at0:Int) (race1 dead1 wh1 race2 dead2 wh2 race3 dead3 wh3:Bool) (rb1 db1 rb2 db2 rb3 db3:ByteArray) (n1 n2 n3 f g h:Int)
    (hPR:ProgC W raw tx) (hPL:∀ w,Below W.heap.size W w→Calls Tryz.prog 22 #[.string tx,.string ⟨#[]⟩] w fun e w'=>e = .returned (.tuple #[.agg #[.string T,.string E,.bool rc,.bool dd],.int .i64 0,.int .i64 at0])∧Below w.heap.size w w') (hT:6 ≤ T.size∧T.extract 0 6 = headT) (hp1:PickR c 5 j) (hp2:PickR st 60 m)
    (hS1:SeaC W tx (1 + j) m race1 dead1 rb1 db1 wh1 n1 f) (hS2:SeaC W tx (1 + j + 1) m race2 dead2 rb2 db2 wh2 n2 g) (hS3:SeaC W tx (1 + j) (m + 1) race3 dead3 rb3 db3 wh3 n3 h) (hS0:SeaC W tx (1 + j) 0 rc dd ⟨#[]⟩ ⟨#[]⟩ false 1 0) (hW:WdS race1 dead1 wh1 rb1 db1 n1 f race2 dead2 rb2 db2 g race3 dead3 wh3 rb3 db3 n3 h) :
    Calls Tryz.prog 12 #[.string raw,.int .i64 c,.int .i64 st] W fun e w'=>e = .returned (.bool true)∧Below W.heap.size W w':=by
 have HPR:=hide hPR
 have HPL:=hide hPL
 have HT:=hide hT
 have HP1:=hide hp1
 have HP2:=hide hp2
 have HS1:=hide hS1
 have HS2:=hide hS2
 have HS3:=hide hS3
 have HS0:=hide hS0
 have HW:=hide hW
 have hj':(j:Int) < 5:=by omega
 have hm':(m:Int) < 60:=by omega
 clear hPR hPL hT hp1 hp2 hS1 hS2 hS3 hS0 hW hj hm
 go_enter Tryz.func12,Tryz.ntmps12
 go_wp2_with fail
 refine (HPR.out _ (Below.refl _ _)).mono ?_
 rintro e w1 ⟨rfl,hb1⟩
 have HB1:=hide hb1
 clear hb1
 go_wp2_with fail
 refine (HPL.out _ HB1.out).mono ?_
 rintro e w2 ⟨rfl,hb2⟩
 have HB2:=hide (HB1.out.trans (hb2.mono HB1.out.size))
 clear hb2 HB1
 go_upto_region 3 with fail
 have bV:(w2.alloc (.cells #[.string T,.string E,.bool rc,.bool dd] 42)).heap[w2.heap.size]? = some (.cells #[.string T,.string E,.bool rc,.bool dd] 42 (0,0)):=heap_alloc_new _ _
 have HB3:=hide (HB2.out.alloc HB2.out.size (.cells #[.string T,.string E,.bool rc,.bool dd] 42))
 clear HB2
 generalize w2.alloc (.cells #[.string T,.string E,.bool rc,.bool dd] 42) = w3 at *
 generalize w2.heap.size = V at *
 have cV0:w3.cell? ⟨V,0,none⟩ = some (.string T):=cells6 bV 0 rfl
 go_cut [38] (fun u wx=>u = .bool false∧w3 = wx)
 case first =>
  go_wp2_with (go_at_call 25; refine (k_beginsT T headT _ HT.out.1 HT.out.2).mono ?_; rintro e w6 ⟨rfl,rfl⟩)
  go_meet
  case rel=>exact ⟨rfl,rfl⟩
 case rest =>
  obtain ⟨rfl,hq⟩:=hcut
  subst hq
  clear cV0
  go_wp2_with fail
  refine (HP1.out _).mono ?_
  rintro e w3 ⟨rfl,rfl⟩
  go_wp2_with fail
  refine (HP2.out _).mono ?_
  rintro e w3 ⟨rfl,rfl⟩
  go_wp2_with fail
  refine (HS1.out _ HB3.out).mono ?_
  rintro e w4 ⟨rfl,hb⟩
  have bV':=kpB bV hb
  have HB3b:=hide (HB3.out.trans (hb.mono HB3.out.size))
  clear hb HB3 bV HS1
  go_upto_region 8 with fail
  have bV:=kpA (o:=.cells #[.bool race1,.bool dead1,.string rb1,.string db1,.bool wh1,.int .i64 n1] 35) bV'
  have b1:(w4.alloc (.cells #[.bool race1,.bool dead1,.string rb1,.string db1,.bool wh1,.int .i64 n1] 35)).heap[w4.heap.size]? = some (.cells #[.bool race1,.bool dead1,.string rb1,.string db1,.bool wh1,.int .i64 n1] 35 (0,0)):=heap_alloc_new _ _
  have HB4:=hide (HB3b.out.alloc HB3b.out.size (.cells #[.bool race1,.bool dead1,.string rb1,.string db1,.bool wh1,.int .i64 n1] 35))
  clear HB3b bV'
  generalize w4.alloc (.cells #[.bool race1,.bool dead1,.string rb1,.string db1,.bool wh1,.int .i64 n1] 35) = x4 at *
  generalize w4.heap.size = B1 at *
  go_wp2_with fail
  refine (HS2.out _ HB4.out).mono ?_
  rintro e w5 ⟨rfl,hb⟩
  have bV':=kpB bV hb
  have b1':=kpB b1 hb
  have HB4b:=hide (HB4.out.trans (hb.mono HB4.out.size))
  clear hb HB4 bV b1 HS2
  go_upto_region 9 with fail
  have bV:=kpA (o:=.cells #[.bool race2,.bool dead2,.string rb2,.string db2,.bool wh2,.int .i64 n2] 35) bV'
  have b1:=kpA (o:=.cells #[.bool race2,.bool dead2,.string rb2,.string db2,.bool wh2,.int .i64 n2] 35) b1'
  have b2:(w5.alloc (.cells #[.bool race2,.bool dead2,.string rb2,.string db2,.bool wh2,.int .i64 n2] 35)).heap[w5.heap.size]? = some (.cells #[.bool race2,.bool dead2,.string rb2,.string db2,.bool wh2,.int .i64 n2] 35 (0,0)):=heap_alloc_new _ _
  have HB5:=hide (HB4b.out.alloc HB4b.out.size (.cells #[.bool race2,.bool dead2,.string rb2,.string db2,.bool wh2,.int .i64 n2] 35))
  clear HB4b bV' b1'
  generalize w5.alloc (.cells #[.bool race2,.bool dead2,.string rb2,.string db2,.bool wh2,.int .i64 n2] 35) = x5 at *
  generalize w5.heap.size = B2 at *
  go_wp2_with fail
  refine (HS3.out _ HB5.out).mono ?_
  rintro e w6 ⟨rfl,hb⟩
  have bV':=kpB bV hb
  have b1':=kpB b1 hb
  have b2':=kpB b2 hb
  have HB5b:=hide (HB5.out.trans (hb.mono HB5.out.size))
  clear hb HB5 bV b1 b2 HS3
  go_upto_region 10 with fail
  have bV:=kpA (o:=.cells #[.bool race3,.bool dead3,.string rb3,.string db3,.bool wh3,.int .i64 n3] 35) bV'
  have b1:=kpA (o:=.cells #[.bool race3,.bool dead3,.string rb3,.string db3,.bool wh3,.int .i64 n3] 35) b1'
  have b2:=kpA (o:=.cells #[.bool race3,.bool dead3,.string rb3,.string db3,.bool wh3,.int .i64 n3] 35) b2'
  have b3:(w6.alloc (.cells #[.bool race3,.bool dead3,.string rb3,.string db3,.bool wh3,.int .i64 n3] 35)).heap[w6.heap.size]? = some (.cells #[.bool race3,.bool dead3,.string rb3,.string db3,.bool wh3,.int .i64 n3] 35 (0,0)):=heap_alloc_new _ _
  have HB6:=hide (HB5b.out.alloc HB5b.out.size (.cells #[.bool race3,.bool dead3,.string rb3,.string db3,.bool wh3,.int .i64 n3] 35))
  clear HB5b bV' b1' b2'
  generalize w6.alloc (.cells #[.bool race3,.bool dead3,.string rb3,.string db3,.bool wh3,.int .i64 n3] 35) = x6 at *
  generalize w6.heap.size = B3 at *
  go_wp2_with fail
  refine (HS0.out _ HB6.out).mono ?_
  rintro e w7 ⟨rfl,hb⟩
  have bV':=kpB bV hb
  have b1':=kpB b1 hb
  have b2':=kpB b2 hb
  have b3':=kpB b3 hb
  have HB6b:=hide (HB6.out.trans (hb.mono HB6.out.size))
  clear hb HB6 bV b1 b2 b3 HS0
  go_upto_region 11 with fail
  have bV:=kpA (o:=.cells #[.bool rc,.bool dd,.string ⟨#[]⟩,.string ⟨#[]⟩,.bool false,.int .i64 1] 35) bV'
  have b1:=kpA (o:=.cells #[.bool rc,.bool dd,.string ⟨#[]⟩,.string ⟨#[]⟩,.bool false,.int .i64 1] 35) b1'
  have b2:=kpA (o:=.cells #[.bool rc,.bool dd,.string ⟨#[]⟩,.string ⟨#[]⟩,.bool false,.int .i64 1] 35) b2'
  have b3:=kpA (o:=.cells #[.bool rc,.bool dd,.string ⟨#[]⟩,.string ⟨#[]⟩,.bool false,.int .i64 1] 35) b3'
  have b0:(w7.alloc (.cells #[.bool rc,.bool dd,.string ⟨#[]⟩,.string ⟨#[]⟩,.bool false,.int .i64 1] 35)).heap[w7.heap.size]? = some (.cells #[.bool rc,.bool dd,.string ⟨#[]⟩,.string ⟨#[]⟩,.bool false,.int .i64 1] 35 (0,0)):=heap_alloc_new _ _
  have HB7:=hide (HB6b.out.alloc HB6b.out.size (.cells #[.bool rc,.bool dd,.string ⟨#[]⟩,.string ⟨#[]⟩,.bool false,.int .i64 1] 35))
  clear HB6b bV' b1' b2' b3'
  generalize w7.alloc (.cells #[.bool rc,.bool dd,.string ⟨#[]⟩,.string ⟨#[]⟩,.bool false,.int .i64 1] 35) = x7 at *
  generalize w7.heap.size = B0 at *
  have v2:x7.cell? ⟨V,2,none⟩ = some (.bool rc):=cells6 bV 2 rfl
  have v3:x7.cell? ⟨V,3,none⟩ = some (.bool dd):=cells6 bV 3 rfl
  have z0:x7.cell? ⟨B0,0,none⟩ = some (.bool rc):=cells6 b0 0 rfl
  have z1:x7.cell? ⟨B0,1,none⟩ = some (.bool dd):=cells6 b0 1 rfl
  have z2:x7.cell? ⟨B0,2,none⟩ = some (.string ⟨#[]⟩):=cells6 b0 2 rfl
  have z3:x7.cell? ⟨B0,3,none⟩ = some (.string ⟨#[]⟩):=cells6 b0 3 rfl
  have z4:x7.cell? ⟨B0,4,none⟩ = some (.bool false):=cells6 b0 4 rfl
  have z5:x7.cell? ⟨B0,5,none⟩ = some (.int .i64 1):=cells6 b0 5 rfl
  have H1:=hide b1
  have H2:=hide b2
  have H3:=hide b3
  clear bV b0 b1 b2 b3
  go_cut [107] (fun u wx=>u = .bool false∧x7 = wx)
  case first =>
   go_wp2_with fail
   go_meet
   case rel=>exact ⟨by cases rc <;> cases dd <;> rfl,rfl⟩
  case rest =>
   obtain ⟨rfl,hq⟩:=hcut
   subst hq
   clear v2 v3 z0 z1 z2 z3 z4 z5
   rcases HW.out.big with hf | hf
   ·have hh:=HW.out.both hf
    have hg:=HW.out.ctx
    subst hf hh
    clear HW H1 H2 H3
    rcases hg with hg | hg
    ·subst hg
     as_aux_lemma =>
      go_wp2_with fail
      go_ret
      exact ⟨rfl,HB7.out⟩
    ·subst hg
     as_aux_lemma =>
      go_wp2_with fail
      go_ret
      exact ⟨rfl,HB7.out⟩
   ·subst hf
    have HMO:=hide (HW.out.more rfl)
    have HWH:=hide (HW.out.whole rfl)
    have HSA:=hide (HW.out.same rfl)
    have HCG:=hide HW.out.ctx
    have HCH:=hide HW.out.stp
    clear HW
    have c10:x7.cell? ⟨B1,0,none⟩ = some (.bool race1):=cells6 H1.out 0 rfl
    have c11:x7.cell? ⟨B1,1,none⟩ = some (.bool dead1):=cells6 H1.out 1 rfl
    have c12:x7.cell? ⟨B1,2,none⟩ = some (.string rb1):=cells6 H1.out 2 rfl
    have c13:x7.cell? ⟨B1,3,none⟩ = some (.string db1):=cells6 H1.out 3 rfl
    have c14:x7.cell? ⟨B1,4,none⟩ = some (.bool wh1):=cells6 H1.out 4 rfl
    have c15:x7.cell? ⟨B1,5,none⟩ = some (.int .i64 n1):=cells6 H1.out 5 rfl
    have c20:x7.cell? ⟨B2,0,none⟩ = some (.bool race2):=cells6 H2.out 0 rfl
    have c21:x7.cell? ⟨B2,1,none⟩ = some (.bool dead2):=cells6 H2.out 1 rfl
    have c22:x7.cell? ⟨B2,2,none⟩ = some (.string rb2):=cells6 H2.out 2 rfl
    have c23:x7.cell? ⟨B2,3,none⟩ = some (.string db2):=cells6 H2.out 3 rfl
    have c30:x7.cell? ⟨B3,0,none⟩ = some (.bool race3):=cells6 H3.out 0 rfl
    have c31:x7.cell? ⟨B3,1,none⟩ = some (.bool dead3):=cells6 H3.out 1 rfl
    have c32:x7.cell? ⟨B3,2,none⟩ = some (.string rb3):=cells6 H3.out 2 rfl
    have c33:x7.cell? ⟨B3,3,none⟩ = some (.string db3):=cells6 H3.out 3 rfl
    have c34:x7.cell? ⟨B3,4,none⟩ = some (.bool wh3):=cells6 H3.out 4 rfl
    have c35:x7.cell? ⟨B3,5,none⟩ = some (.int .i64 n3):=cells6 H3.out 5 rfl
    clear H1 H2 H3
    rcases HCH.out with hh | hh
    ·subst hh
     have hw1:wh1 = false:=by
      cases wh1 with
      | false=>rfl
      | true=>exact absurd (HWH.out rfl).1 (by decide)
     subst hw1
     clear HWH
     rcases HCG.out with hg | hg
     ·subst hg
      clear HCG HCH
      cases race1
      ·cases dead1
       ·clear HMO HSA
        as_aux_lemma =>
         go_wp2_with fail
         go_ret
         exact ⟨by first | rfl | (simp; omega) | simp [*],HB7.out⟩
       ·clear HMO HSA
        as_aux_lemma =>
         go_wp2_with fail
         go_ret
         exact ⟨by first | rfl | (simp; omega) | simp [*],HB7.out⟩
      ·cases dead1
       ·clear HMO HSA
        as_aux_lemma =>
         go_wp2_with fail
         go_ret
         exact ⟨by first | rfl | (simp; omega) | simp [*],HB7.out⟩
       ·clear HMO HSA
        as_aux_lemma =>
         go_wp2_with fail
         go_ret
         exact ⟨by first | rfl | (simp; omega) | simp [*],HB7.out⟩
     ·subst hg
      clear HCG HCH
      cases race1
      ·cases dead1
       ·clear HMO HSA
        as_aux_lemma =>
         go_wp2_with fail
         go_ret
         exact ⟨by first | rfl | (simp; omega) | simp [*],HB7.out⟩
       ·obtain ⟨d1,d2⟩:=(HMO.out rfl).2 rfl
        subst d1
        clear HMO HSA
        as_aux_lemma =>
         go_wp2_with fail
         go_ret
         exact ⟨by first | rfl | (simp; omega) | simp [*],HB7.out⟩
      ·obtain ⟨r1,r2⟩:=(HMO.out rfl).1 rfl
       subst r1
       cases dead1
       ·clear HMO HSA
        as_aux_lemma =>
         go_wp2_with fail
         go_ret
         exact ⟨by first | rfl | (simp; omega) | simp [*],HB7.out⟩
       ·obtain ⟨d1,d2⟩:=(HMO.out rfl).2 rfl
        subst d1
        clear HMO HSA
        as_aux_lemma =>
         go_wp2_with fail
         go_ret
         exact ⟨by first | rfl | (simp; omega) | simp [*],HB7.out⟩
    ·subst hh
     cases wh1
     ·clear HWH
      rcases HCG.out with hg | hg
      ·subst hg
       clear HCG HCH
       cases race1
       ·cases dead1
        ·have n4:=(HSA.out rfl).2.2
         clear HMO HSA
         as_aux_lemma =>
          go_wp2_with fail
          go_ret
          exact ⟨by first | rfl | (simp; omega) | simp [*],HB7.out⟩
        ·obtain ⟨d3,d4⟩:=(HSA.out rfl).2.1 rfl
         subst d3
         have d4':(db3.size:Int) = db1.size:=by omega
         clear d4
         have n4:=(HSA.out rfl).2.2
         clear HMO HSA
         as_aux_lemma =>
          go_wp2_with fail
          go_ret
          exact ⟨by first | rfl | (simp; omega) | simp [*],HB7.out⟩
       ·obtain ⟨r3,r4⟩:=(HSA.out rfl).1 rfl
        subst r3
        have r4':(rb3.size:Int) = rb1.size:=by omega
        clear r4
        cases dead1
        ·have n4:=(HSA.out rfl).2.2
         clear HMO HSA
         as_aux_lemma =>
          go_wp2_with fail
          go_ret
          exact ⟨by first | rfl | (simp; omega) | simp [*],HB7.out⟩
        ·obtain ⟨d3,d4⟩:=(HSA.out rfl).2.1 rfl
         subst d3
         have d4':(db3.size:Int) = db1.size:=by omega
         clear d4
         have n4:=(HSA.out rfl).2.2
         clear HMO HSA
         as_aux_lemma =>
          go_wp2_with fail
          go_ret
          exact ⟨by first | rfl | (simp; omega) | simp [*],HB7.out⟩
      ·subst hg
       clear HCG HCH
       cases race1
       ·cases dead1
        ·have n4:=(HSA.out rfl).2.2
         clear HMO HSA
         as_aux_lemma =>
          go_wp2_with fail
          go_ret
          exact ⟨by first | rfl | (simp; omega) | simp [*],HB7.out⟩
        ·obtain ⟨d1,d2⟩:=(HMO.out rfl).2 rfl
         subst d1
         obtain ⟨d3,d4⟩:=(HSA.out rfl).2.1 rfl
         subst d3
         have d4':(db3.size:Int) = db1.size:=by omega
         clear d4
         have n4:=(HSA.out rfl).2.2
         clear HMO HSA
         as_aux_lemma =>
          go_wp2_with fail
          go_ret
          exact ⟨by first | rfl | (simp; omega) | simp [*],HB7.out⟩
       ·obtain ⟨r1,r2⟩:=(HMO.out rfl).1 rfl
        subst r1
        obtain ⟨r3,r4⟩:=(HSA.out rfl).1 rfl
        subst r3
        have r4':(rb3.size:Int) = rb1.size:=by omega
        clear r4
        cases dead1
        ·have n4:=(HSA.out rfl).2.2
         clear HMO HSA
         as_aux_lemma =>
          go_wp2_with fail
          go_ret
          exact ⟨by first | rfl | (simp; omega) | simp [*],HB7.out⟩
        ·obtain ⟨d1,d2⟩:=(HMO.out rfl).2 rfl
         subst d1
         obtain ⟨d3,d4⟩:=(HSA.out rfl).2.1 rfl
         subst d3
         have d4':(db3.size:Int) = db1.size:=by omega
         clear d4
         have n4:=(HSA.out rfl).2.2
         clear HMO HSA
         as_aux_lemma =>
          go_wp2_with fail
          go_ret
          exact ⟨by first | rfl | (simp; omega) | simp [*],HB7.out⟩
     ·obtain ⟨_,w2,w3,w4,w5⟩:=HWH.out rfl
      subst w2 w3 w4 w5
      clear HWH
      rcases HCG.out with hg | hg
      ·subst hg
       clear HCG HCH
       cases race3
       ·cases dead3
        ·have n4:=(HSA.out rfl).2.2
         clear HMO HSA
         as_aux_lemma =>
          go_wp2_with fail
          go_ret
          exact ⟨by first | rfl | (simp; omega) | simp [*],HB7.out⟩
        ·obtain ⟨d3,d4⟩:=(HSA.out rfl).2.1 rfl
         clear d3
         have d4':(db3.size:Int) = db1.size:=by omega
         clear d4
         have n4:=(HSA.out rfl).2.2
         clear HMO HSA
         as_aux_lemma =>
          go_wp2_with fail
          go_ret
          exact ⟨by first | rfl | (simp; omega) | simp [*],HB7.out⟩
       ·obtain ⟨r3,r4⟩:=(HSA.out rfl).1 rfl
        clear r3
        have r4':(rb3.size:Int) = rb1.size:=by omega
        clear r4
        cases dead3
        ·have n4:=(HSA.out rfl).2.2
         clear HMO HSA
         as_aux_lemma =>
          go_wp2_with fail
          go_ret
          exact ⟨by first | rfl | (simp; omega) | simp [*],HB7.out⟩
        ·obtain ⟨d3,d4⟩:=(HSA.out rfl).2.1 rfl
         clear d3
         have d4':(db3.size:Int) = db1.size:=by omega
         clear d4
         have n4:=(HSA.out rfl).2.2
         clear HMO HSA
         as_aux_lemma =>
          go_wp2_with fail
          go_ret
          exact ⟨by first | rfl | (simp; omega) | simp [*],HB7.out⟩
      ·subst hg
       clear HCG HCH
       cases race3
       ·cases dead3
        ·have n4:=(HSA.out rfl).2.2
         clear HMO HSA
         as_aux_lemma =>
          go_wp2_with fail
          go_ret
          exact ⟨by first | rfl | (simp; omega) | simp [*],HB7.out⟩
        ·obtain ⟨d1,d2⟩:=(HMO.out rfl).2 rfl
         subst d1
         obtain ⟨d3,d4⟩:=(HSA.out rfl).2.1 rfl
         clear d3
         have d4':(db3.size:Int) = db1.size:=by omega
         clear d4
         have n4:=(HSA.out rfl).2.2
         clear HMO HSA
         as_aux_lemma =>
          go_wp2_with fail
          go_ret
          exact ⟨by first | rfl | (simp; omega) | simp [*],HB7.out⟩
       ·obtain ⟨r1,r2⟩:=(HMO.out rfl).1 rfl
        subst r1
        obtain ⟨r3,r4⟩:=(HSA.out rfl).1 rfl
        clear r3
        have r4':(rb3.size:Int) = rb1.size:=by omega
        clear r4
        cases dead3
        ·have n4:=(HSA.out rfl).2.2
         clear HMO HSA
         as_aux_lemma =>
          go_wp2_with fail
          go_ret
          exact ⟨by first | rfl | (simp; omega) | simp [*],HB7.out⟩
        ·obtain ⟨d1,d2⟩:=(HMO.out rfl).2 rfl
         subst d1
         obtain ⟨d3,d4⟩:=(HSA.out rfl).2.1 rfl
         clear d3
         have d4':(db3.size:Int) = db1.size:=by omega
         clear d4
         have n4:=(HSA.out rfl).2.2
         clear HMO HSA
         as_aux_lemma =>
          go_wp2_with fail
          go_ret
          exact ⟨by first | rfl | (simp; omega) | simp [*],HB7.out⟩
end Go.Proofs.YtmfcpbhdggonfaaGreatDoor
