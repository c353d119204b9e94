/- Contracts of the statements' own package: pick. -/
import Derived.Test.YtmfcpbhdggonfaaGreatDoorMhAA
import Derived.Deep.CutBlock
import Derived.Deep.DeepCutAuto
namespace Go.Proofs.YtmfcpbhdggonfaaGreatDoor
open Go.RowKit
set_option maxRecDepth 100000 in
set_option maxHeartbeats 1000000 in
theorem k_pickG (c m:Int) (hc:-9223372036854775808 ≤ c∧c ≤ 9223372036854775807) (hm:0 < m∧m ≤ 1000) :
    ∃ j:Nat,(j:Int) < m∧∀ w,Calls Tryz.prog 18 #[.int .i64 c,.int .i64 m] w fun e w'=>e = .returned (.int .i64 j)∧w' = w:=by
 by_cases h:c < 0
 ·have hz:0 ≤ -(c + 1):=by omega
  have e1:(-(c + 1)).tmod m = (-(c + 1)) % m:=Int.tmod_eq_emod_of_nonneg hz
  have e2:=Int.emod_nonneg (-(c + 1)) (show m ≠ 0 by omega)
  have e3:=Int.emod_lt_of_pos (-(c + 1)) hm.1
  have e4:=Int.neg_tmod (c + 1) m
  obtain ⟨j,hj⟩:∃ j:Nat,(-(c + 1)) % m = (j:Int):=⟨_,(Int.toNat_of_nonneg e2).symm⟩
  have HJ:Hid (-(c + 1).tmod m = (j:Int)):=by show _ = _; rw [← e4,e1,hj]
  refine ⟨j,by rw [← hj]; exact e3,fun w=>?_⟩
  clear e1 e2 e3 e4 hj
  have hm1:=hm.1
  have hmne:¬ m = 0:=by omega
  go_enter Tryz.func18,Tryz.ntmps18
  go_wp2
  go_ret
  exact ⟨congrArg (fun z=>Ending.returned (.int .i64 z)) HJ.out,rfl⟩
 ·have hz:0 ≤ c:=by omega
  have e2:=Int.emod_nonneg c (show m ≠ 0 by omega)
  have e3:=Int.emod_lt_of_pos c hm.1
  obtain ⟨j,hj⟩:∃ j:Nat,c % m = (j:Int):=⟨_,(Int.toNat_of_nonneg e2).symm⟩
  have HJ:Hid (c % m = (j:Int)):=hj
  refine ⟨j,by rw [← hj]; exact e3,fun w=>?_⟩
  clear e2 e3 hj
  have hm1:=hm.1
  have hmne:¬ m = 0:=by omega
  go_enter Tryz.func18,Tryz.ntmps18
  go_wp2
  go_ret
  exact ⟨congrArg (fun z=>Ending.returned (.int .i64 z)) HJ.out,rfl⟩
def PickR (x m:Int) (j:Nat):Prop:=∀ w,Calls Tryz.prog 18 #[.int .i64 x,.int .i64 m] w fun e w'=>e = .returned (.int .i64 j)∧w' = w
end Go.Proofs.YtmfcpbhdggonfaaGreatDoor
namespace Go.Proofs.YtmfcpbhdggonfaaGreatDoor
open Go.RowKit
theorem cellS {w:World} {a:Addr} {x:Value} {ob:Obj} (h:w.cell? a = some x):(w.alloc ob).cell? a = some x:=(World.cell?_alloc_lt _ _ _ (World.block_lt_of_cell? w a h)).trans h
theorem cellB {w w':World} {a:Addr} {x:Value} (h:w.cell? a = some x) (hb:Below w.heap.size w w'):w'.cell? a = some x:=(hb.cell (p:=a) (World.block_lt_of_cell? w a h)).trans h
structure Shw (W:World) (tx rb db:ByteArray) (race dead:Bool) (points most steps:Int):Prop where
 p1:∀ w,Below W.heap.size W w→Calls Tryz.prog 22 #[.string tx,.string rb] w fun e w'=>(∃ T E d,e = .returned (.tuple #[.agg #[.string T,.string E,.bool race,.bool d],.int .i64 0,.int .i64 0]))∧Below w.heap.size w w'
 p2:∀ w,Below W.heap.size W w→Calls Tryz.prog 22 #[.string tx,.string db] w fun e w'=>(∃ T E r,e = .returned (.tuple #[.agg #[.string T,.string E,.bool r,.bool dead],.int .i64 0,.int .i64 0]))∧Below w.heap.size w w'
 c1:∃ n:Int,¬ most < n∧∀ w,Calls Tryz.prog 34 #[.string rb] w fun e w'=>e = .returned (.tuple #[.int .i64 n,.int .i64 0])∧w' = w
 c2:∃ n:Int,¬ most < n∧∀ w,Calls Tryz.prog 34 #[.string db] w fun e w'=>e = .returned (.tuple #[.int .i64 n,.int .i64 0])∧w' = w
 l1:¬ steps < (rb.size:Int)
 l2:¬ steps < (db.size:Int)
 r0:race = false→rb = ⟨#[]⟩
 d0:dead = false→db = ⟨#[]⟩
 n1:¬ points < 1
 n6:¬ 600 < points
set_option maxRecDepth 100000 in
set_option maxHeartbeats 8000000 in
theorem k_shown (W:World) (tx rb db:ByteArray) (race dead whole:Bool) (points most steps:Int) (h:Shw W tx rb db race dead points most steps) (w:World) (hw:Below W.heap.size W w) :
    Calls Tryz.prog 21 #[.string tx,.agg #[.bool race,.bool dead,.string rb,.string db,.bool whole,.int .i64 points],.int .i64 most,.int .i64 steps] w fun e w'=>e = .returned (.bool true)∧Below w.heap.size w w':=by
 have HP1:=hide h.p1
 have HP2:=hide h.p2
 obtain ⟨m1,hm1,hc1⟩:=h.c1
 obtain ⟨m2,hm2,hc2⟩:=h.c2
 have HC1:=hide hc1
 have HC2:=hide hc2
 have hl1:=h.l1
 have hl2:=h.l2
 have HR0:=hide h.r0
 have HD0:=hide h.d0
 have hn1:=h.n1
 have hn6:=h.n6
 have HW:=hide hw
 clear h hc1 hc2 hw
 go_enter Tryz.func21,Tryz.ntmps21
 go_upto_region 1 with fail
 have x0:(w.alloc (.cells #[.bool race,.bool dead,.string rb,.string db,.bool whole,.int .i64 points] 35)).cell? ⟨w.heap.size,0,none⟩ = some (.bool race):=by simp
 have x1:(w.alloc (.cells #[.bool race,.bool dead,.string rb,.string db,.bool whole,.int .i64 points] 35)).cell? ⟨w.heap.size,1,none⟩ = some (.bool dead):=by simp
 have x2:(w.alloc (.cells #[.bool race,.bool dead,.string rb,.string db,.bool whole,.int .i64 points] 35)).cell? ⟨w.heap.size,2,none⟩ = some (.string rb):=by simp
 have x3:(w.alloc (.cells #[.bool race,.bool dead,.string rb,.string db,.bool whole,.int .i64 points] 35)).cell? ⟨w.heap.size,3,none⟩ = some (.string db):=by simp
 have x5:(w.alloc (.cells #[.bool race,.bool dead,.string rb,.string db,.bool whole,.int .i64 points] 35)).cell? ⟨w.heap.size,5,none⟩ = some (.int .i64 points):=by simp
 have hb0:Below w.heap.size w (w.alloc (.cells #[.bool race,.bool dead,.string rb,.string db,.bool whole,.int .i64 points] 35)):=(Below.refl _ _).alloc (Nat.le_refl _) _
 have HB0:=hide hb0
 clear hb0
 generalize w.alloc (.cells #[.bool race,.bool dead,.string rb,.string db,.bool whole,.int .i64 points] 35) = w0 at *
 go_cut [46] (fun u wx=>u = .bool false∧w0 = wx)
 case first =>
  cases race <;> cases dead
  ·have hr:=HR0.out rfl
   have hd:=HD0.out rfl
   subst hr hd
   go_wp2_with fail
   go_meet
   case rel=>exact ⟨rfl,rfl⟩
  ·have hr:=HR0.out rfl
   subst hr
   go_wp2_with fail
   go_meet
   case rel=>exact ⟨rfl,rfl⟩
  ·have hd:=HD0.out rfl
   subst hd
   go_wp2_with fail
   go_meet
   case rel=>exact ⟨rfl,rfl⟩
  ·go_wp2_with fail
   go_meet
   case rel=>exact ⟨rfl,rfl⟩
 case rest =>
  obtain ⟨rfl,hq⟩:=hcut
  subst hq
  go_wp2_with fail
  refine (HP1.out _ (HW.out.trans (HB0.out.mono HW.out.size))).mono ?_
  rintro e w1 ⟨⟨T1,E1,d1,rfl⟩,hb1⟩
  have y0:=cellB x0 hb1
  have y1:=cellB x1 hb1
  have y2:=cellB x2 hb1
  have y3:=cellB x3 hb1
  have HB1:=hide (HB0.out.trans (hb1.mono HB0.out.size))
  clear x0 x1 x2 x3 x5 hb1
  go_upto_region 4 with fail
  have x0:=cellS (ob:=.cells #[.string T1,.string E1,.bool race,.bool d1] 42) y0
  have x1:=cellS (ob:=.cells #[.string T1,.string E1,.bool race,.bool d1] 42) y1
  have x2:=cellS (ob:=.cells #[.string T1,.string E1,.bool race,.bool d1] 42) y2
  have x3:=cellS (ob:=.cells #[.string T1,.string E1,.bool race,.bool d1] 42) y3
  have v1:(w1.alloc (.cells #[.string T1,.string E1,.bool race,.bool d1] 42)).cell? ⟨w1.heap.size,2,none⟩ = some (.bool race):=by simp
  have HB2:=hide (HB1.out.alloc HB1.out.size (.cells #[.string T1,.string E1,.bool race,.bool d1] 42))
  clear y0 y1 y2 y3 HB1
  generalize w1.alloc (.cells #[.string T1,.string E1,.bool race,.bool d1] 42) = w2 at *
  go_wp2_with fail
  refine (HP2.out _ (HW.out.trans (HB2.out.mono HW.out.size))).mono ?_
  rintro e w3 ⟨⟨T2,E2,r2,rfl⟩,hb3⟩
  have y0:=cellB x0 hb3
  have y1:=cellB x1 hb3
  have y2:=cellB x2 hb3
  have y3:=cellB x3 hb3
  have v2:=cellB v1 hb3
  have HB3:=hide (HB2.out.trans (hb3.mono HB2.out.size))
  clear x0 x1 x2 x3 v1 hb3 HB2
  go_upto_region 5 with fail
  have x0:=cellS (ob:=.cells #[.string T2,.string E2,.bool r2,.bool dead] 42) y0
  have x1:=cellS (ob:=.cells #[.string T2,.string E2,.bool r2,.bool dead] 42) y1
  have x2:=cellS (ob:=.cells #[.string T2,.string E2,.bool r2,.bool dead] 42) y2
  have x3:=cellS (ob:=.cells #[.string T2,.string E2,.bool r2,.bool dead] 42) y3
  have v1:=cellS (ob:=.cells #[.string T2,.string E2,.bool r2,.bool dead] 42) v2
  have v3:(w3.alloc (.cells #[.string T2,.string E2,.bool r2,.bool dead] 42)).cell? ⟨w3.heap.size,3,none⟩ = some (.bool dead):=by simp
  have HB4:=hide (HB3.out.alloc HB3.out.size (.cells #[.string T2,.string E2,.bool r2,.bool dead] 42))
  clear y0 y1 y2 y3 v2 HB3
  generalize w3.alloc (.cells #[.string T2,.string E2,.bool r2,.bool dead] 42) = w4 at *
  go_wp2_with fail
  refine (HC1.out _).mono ?_
  rintro e w5 ⟨rfl,rfl⟩
  go_wp2_with fail
  refine (HC2.out _).mono ?_
  rintro e w6 ⟨rfl,rfl⟩
  cases race <;> cases dead
  all_goals
   go_wp2_with fail
   go_ret
   exact ⟨rfl,HB4.out⟩
end Go.Proofs.YtmfcpbhdggonfaaGreatDoor
