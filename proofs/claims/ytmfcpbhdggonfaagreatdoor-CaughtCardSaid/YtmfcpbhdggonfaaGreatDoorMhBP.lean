/- The statement Caught, over what it calls. -/
import Derived.Test.YtmfcpbhdggonfaaGreatDoorMhBM
import Derived.Test.YtmfcpbhdggonfaaGreatDoorMhBO
namespace Go.Proofs.YtmfcpbhdggonfaaGreatDoor
open Go.RowKit RR
def SeaC (W:World) (tx:ByteArray) (c n:Int) (race dead:Bool) (rb db:ByteArray) (wh:Bool) (pts er:Int):Prop:=∀ w,Below W.heap.size W w→Calls Tryz.prog 20 #[.string tx,.int .i64 c,.int .i64 n] w fun e w'=>e = .returned (.tuple #[.agg #[.bool race,.bool dead,.string rb,.string db,.bool wh,.int .i64 pts],.int .i64 er])∧Below w.heap.size w w'
set_option maxRecDepth 100000 in
set_option maxHeartbeats 16000000 in
theorem k_Caught_big (W:World) (raw path tx:ByteArray) (c:Int) (j:Nat) (hj:j < 6) (k:Wk) (wh:Bool) (hPR:ProgC W raw tx) (hpk:PickR c 6 j) (hWA:WalkC W tx path (1 + j) k) (hS:SeaC W tx (1 + j) 60 false false ⟨#[]⟩ ⟨#[]⟩ wh 0 9) :
    Calls Tryz.prog 8 #[.string raw,.string path,.int .i64 c] W fun e w'=>e = .returned (.bool true)∧Below W.heap.size W w':=by
 have HPR:=hide hPR
 have HWA:=hide hWA
 have HS:=hide hS
 have HPK:=hide hpk
 have hj':(j:Int) < 6:=by omega
 clear hPR hWA hS hpk hj
 go_enter Tryz.func8,Tryz.ntmps8
 go_wp2_with fail
 refine (HPR.out _ (Below.refl _ _)).mono ?_
 rintro e w1 ⟨rfl,hb1⟩
 have HB1:=hide hb1
 clear hb1
 go_wp2_with fail
 refine (HPK.out _).mono ?_
 rintro e w1 ⟨rfl,rfl⟩
 go_wp2_with fail
 refine (HWA.out _ HB1.out).mono ?_
 rintro e w2 ⟨rfl,hb2⟩
 have HB2:=hide (HB1.out.trans (hb2.mono HB1.out.size))
 clear hb2 HB1
 go_upto_region 4 with fail
 have HB3:=hide (HB2.out.alloc HB2.out.size (.cells #[.string k.s,.int .i64 k.ctx,.int .i64 k.last,.int .i64 k.race,.int .i64 k.dead] 31))
 clear HB2
 generalize w2.alloc (.cells #[.string k.s,.int .i64 k.ctx,.int .i64 k.last,.int .i64 k.race,.int .i64 k.dead] 31) = w3 at *
 go_wp2_with fail
 refine (HS.out _ HB3.out).mono ?_
 rintro e w4 ⟨rfl,hb4⟩
 have HB4:=hide (HB3.out.trans (hb4.mono HB3.out.size))
 clear hb4 HB3
 go_wp2_with fail
 go_ret
 exact ⟨rfl,HB4.out.alloc HB4.out.size _⟩
set_option maxRecDepth 100000 in
set_option maxHeartbeats 16000000 in
theorem k_Caught_ok (W:World) (raw path tx:ByteArray) (c:Int) (j:Nat) (hj:j < 6) (k:Wk) (race dead wh:Bool) (rb db:ByteArray) (pts:Int) (hPR:ProgC W raw tx) (hpk:PickR c 6 j) (hWA:WalkC W tx path (1 + j) k) (hS:SeaC W tx (1 + j) 60 race dead rb db wh pts 0) (hsh:Shw W tx rb db race dead pts (1 + j) 60)
    (hr:k.race < 0 ∨ race = true∧(rb.size:Int) ≤ k.race) (hd:k.dead < 0 ∨ dead = true∧(db.size:Int) ≤ k.dead) :
    Calls Tryz.prog 8 #[.string raw,.string path,.int .i64 c] W fun e w'=>e = .returned (.bool true)∧Below W.heap.size W w':=by
 have HPR:=hide hPR
 have HWA:=hide hWA
 have HS:=hide hS
 have HPK:=hide hpk
 have HSH:=hide hsh
 have HR:=hide hr
 have HD:=hide hd
 have hj':(j:Int) < 6:=by omega
 clear hPR hWA hS hpk hj hsh hr hd
 go_enter Tryz.func8,Tryz.ntmps8
 go_wp2_with fail
 refine (HPR.out _ (Below.refl _ _)).mono ?_
 rintro e w1 ⟨rfl,hb1⟩
 have HB1:=hide hb1
 clear hb1
 go_wp2_with fail
 refine (HPK.out _).mono ?_
 rintro e w1 ⟨rfl,rfl⟩
 go_wp2_with fail
 refine (HWA.out _ HB1.out).mono ?_
 rintro e w2 ⟨rfl,hb2⟩
 have HB2:=hide (HB1.out.trans (hb2.mono HB1.out.size))
 clear hb2 HB1
 go_upto_region 4 with fail
 have HB3:=hide (HB2.out.alloc HB2.out.size (.cells #[.string k.s,.int .i64 k.ctx,.int .i64 k.last,.int .i64 k.race,.int .i64 k.dead] 31))
 have r3:(w2.alloc (.cells #[.string k.s,.int .i64 k.ctx,.int .i64 k.last,.int .i64 k.race,.int .i64 k.dead] 31)).cell? ⟨w2.heap.size,3,none⟩ = some (.int .i64 k.race):=by simp
 have r4:(w2.alloc (.cells #[.string k.s,.int .i64 k.ctx,.int .i64 k.last,.int .i64 k.race,.int .i64 k.dead] 31)).cell? ⟨w2.heap.size,4,none⟩ = some (.int .i64 k.dead):=by simp
 clear HB2
 generalize w2.alloc (.cells #[.string k.s,.int .i64 k.ctx,.int .i64 k.last,.int .i64 k.race,.int .i64 k.dead] 31) = w3 at *
 generalize w2.heap.size = B at *
 go_wp2_with fail
 refine (HS.out _ HB3.out).mono ?_
 rintro e w4 ⟨rfl,hb4⟩
 have s3:=cellB r3 hb4
 have s4:=cellB r4 hb4
 have HB4:=hide (HB3.out.trans (hb4.mono HB3.out.size))
 clear hb4 HB3 r3 r4
 go_upto_region 7 with fail
 have r3:=cellS (ob:=.cells #[.bool race,.bool dead,.string rb,.string db,.bool wh,.int .i64 pts] 35) s3
 have r4:=cellS (ob:=.cells #[.bool race,.bool dead,.string rb,.string db,.bool wh,.int .i64 pts] 35) s4
 have x0:(w4.alloc (.cells #[.bool race,.bool dead,.string rb,.string db,.bool wh,.int .i64 pts] 35)).cell? ⟨w4.heap.size,0,none⟩ = some (.bool race):=by simp
 have x1:(w4.alloc (.cells #[.bool race,.bool dead,.string rb,.string db,.bool wh,.int .i64 pts] 35)).cell? ⟨w4.heap.size,1,none⟩ = some (.bool dead):=by simp
 have x2:(w4.alloc (.cells #[.bool race,.bool dead,.string rb,.string db,.bool wh,.int .i64 pts] 35)).cell? ⟨w4.heap.size,2,none⟩ = some (.string rb):=by simp
 have x3:(w4.alloc (.cells #[.bool race,.bool dead,.string rb,.string db,.bool wh,.int .i64 pts] 35)).cell? ⟨w4.heap.size,3,none⟩ = some (.string db):=by simp
 have x4:(w4.alloc (.cells #[.bool race,.bool dead,.string rb,.string db,.bool wh,.int .i64 pts] 35)).cell? ⟨w4.heap.size,4,none⟩ = some (.bool wh):=by simp
 have x5:(w4.alloc (.cells #[.bool race,.bool dead,.string rb,.string db,.bool wh,.int .i64 pts] 35)).cell? ⟨w4.heap.size,5,none⟩ = some (.int .i64 pts):=by simp
 have HB5:=hide (HB4.out.alloc HB4.out.size (.cells #[.bool race,.bool dead,.string rb,.string db,.bool wh,.int .i64 pts] 35))
 clear HB4 s3 s4
 generalize w4.alloc (.cells #[.bool race,.bool dead,.string rb,.string db,.bool wh,.int .i64 pts] 35) = w5 at *
 generalize w4.heap.size = R at *
 go_wp2_with fail
 refine (k_shown W tx rb db race dead wh pts (1 + j) 60 HSH.out _ HB5.out).mono ?_
 rintro e w6 ⟨rfl,hb6⟩
 have s3:=cellB r3 hb6
 have s4:=cellB r4 hb6
 have y0:=cellB x0 hb6
 have y1:=cellB x1 hb6
 have y2:=cellB x2 hb6
 have y3:=cellB x3 hb6
 have HB6:=hide (HB5.out.trans (hb6.mono HB5.out.size))
 clear hb6 HB5 r3 r4 x0 x1 x2 x3 x4 x5 HSH
 by_cases h1:k.race < 0
 ·by_cases h2:k.dead < 0
  ·clear HR HD
   go_wp2_with fail
   go_ret
   exact ⟨rfl,HB6.out⟩
  ·obtain ⟨d1,d2⟩:=HD.out.resolve_left h2
   subst d1
   clear HR HD
   go_wp2_with fail
   go_ret
   exact ⟨rfl,HB6.out⟩
 ·obtain ⟨e1,e2⟩:=HR.out.resolve_left h1
  subst e1
  by_cases h2:k.dead < 0
  ·clear HR HD
   go_wp2_with fail
   go_ret
   exact ⟨rfl,HB6.out⟩
  ·obtain ⟨d1,d2⟩:=HD.out.resolve_left h2
   subst d1
   clear HR HD
   go_wp2_with fail
   go_ret
   exact ⟨rfl,HB6.out⟩
end Go.Proofs.YtmfcpbhdggonfaaGreatDoor
