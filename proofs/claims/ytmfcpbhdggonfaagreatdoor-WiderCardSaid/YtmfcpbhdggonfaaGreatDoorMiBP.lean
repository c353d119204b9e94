/- Contracts of the program's package search: a searcher in memory. -/
import Derived.Test.YtmfcpbhdggonfaaGreatDoorMiAY
import Derived.Laws.StructEq
import Derived.Test.YtmfcpbhdggonfaaGreatDoorMiAG
namespace Go.Proofs.YtmfcpbhdggonfaaGreatDoor
open Go.RowKit RR
def ptL (x:Pt):List Value:=[.int .i64 x.ctx,.int .i64 x.last] ++ cfgL x.cfg
def sgL (x:Sg):List Value:=ptL x.pt ++ [.string x.by_]
def rpL (r:Rp):List Value:=[.bool r.race,.bool r.dead,.string r.raceBy,.string r.deadBy,.bool r.whole,.int .i64 r.points]
def srL (p:Plan) (v:PV) (most:Int) (vS vF:Value) (r:Rp):List Value:=plL p v ++ [.int .i64 most,vS,vF] ++ rpL r
structure SrAt (B base:Nat) (p:Plan) (v:PV) (most:Int) (vS vF:Value) (s:Sr) (w:World):Prop where
 box:w.heap[B]? = some (.cells (srL p v most vS vF s.rep).toArray 127 (0,0))
 seen:w.ownsRow base 183 60 vS s.seen.length (s.seen.flatMap ptL)
 fresh:w.ownsRow base 235 61 vF s.fresh.length (s.fresh.flatMap sgL)
set_option maxRecDepth 100000 in
set_option maxHeartbeats 2000000 in
theorem se_ended (B:Nat) (race dead whole:Bool) (w:World) (h0:w.cell? ⟨B,9,none⟩ = some (.bool race)) (h1:w.cell? ⟨B,10,none⟩ = some (.bool dead)) (h4:w.cell? ⟨B,13,none⟩ = some (.bool whole)) :
    Calls Tryz.prog 107 #[.pointer (some ⟨B,0,none⟩)] w fun e w'=>e = .returned (.bool ((race && dead) || whole))∧w' = w:=by
 cases race <;> cases dead <;> cases whole
 all_goals
  go_enter Tryz.func107,Tryz.ntmps107
  go_wp2
  go_ret
  exact ⟨rfl,rfl⟩
end Go.Proofs.YtmfcpbhdggonfaaGreatDoor
namespace Go.Proofs.YtmfcpbhdggonfaaGreatDoor
open Go.RowKit RR
def eqRow (d:Nat) (e:TypeId) (n:Nat) (xs ys:Array Value):Nat→Nat→Sem Bool
 | 0,_=>pure true
 | c + 1,i=>do
  let a ← part e xs (i * n)
  let b ← part e ys (i * n)
  let r ← Op.equalIn d e a b
  if (!r) = true then pure false else eqRow d e n xs ys c (i + 1)
theorem run_equalIn_row {P:Program} (w:World) (d:Nat) (t e:TypeId) (len n:Nat) (xs ys:Array Value) (ht:P.underlying t = some (.array len e)) (hn:∀ w,(Go.sizeOf e).run P w = .ok n w) :
    (Op.equalIn (d + 1) t (.agg xs) (.agg ys)).run P w = (eqRow d e n xs ys len 0).run P w:=by
 simp only [Op.equalIn,Sem.run_bind,run_underlying ht,Result.andThen_ok,hn]
 simp only [Std.Legacy.Range.forIn_eq_forIn_range',Std.Legacy.Range.size,Nat.sub_zero,Nat.add_one_sub_one,Nat.div_one]
 clear ht hn
 generalize (0:Nat) = i
 induction len generalizing i w with
 | zero=>simp [eqRow]
 | succ c ih =>
  rw [List.range'_succ]
  simp only [List.forIn_cons,eqRow,Sem.run_bind]
  generalize (part e xs (i * n)).run P w = r1
  cases r1 with
  | halt x w1=>simp [Result.andThen]
  | ok a w1 =>
   simp only [Result.andThen_ok]
   generalize (part e ys (i * n)).run P w1 = r2
   cases r2 with
   | halt x w2=>simp [Result.andThen]
   | ok b w2 =>
    simp only [Result.andThen_ok]
    generalize (Op.equalIn d e a b).run P w2 = r3
    cases r3 with
    | halt x w3=>simp [Result.andThen]
    | ok r w3 =>
     cases r
     ·simp only [Result.andThen_ok,Bool.not_false,if_true,Sem.run_pure]
     ·simp only [Result.andThen_ok,Bool.not_true,Bool.false_eq_true,if_false,Sem.run_pure]
      exact ih w3 (i + 1)
theorem eq_bools (d:Nat) (a0 a1 a2 b0 b1 b2:Bool) (w:World):(Op.equalIn (d + 2) 132 (.agg #[.bool a0,.bool a1,.bool a2]) (.agg #[.bool b0,.bool b1,.bool b2])).run Tryz.prog w = .ok ((a0 == b0) && (a1 == b1) && (a2 == b2)) w:=by
 have u4:=Tryz.underlying4
 have i4:=Tryz.isAgg4
 rw [run_equalIn_row w (d + 1) 132 4 3 1 _ _ Tryz.underlying132 Tryz.sizeOf4]
 simp only [eqRow]
 go_simp
 cases a0 <;> cases a1 <;> cases a2 <;> cases b0 <;> cases b1 <;> cases b2 <;> rfl
set_option maxRecDepth 100000 in
theorem eq_frame (d:Nat) (a b:Frm) (w:World):(Op.equalIn (d + 3) 134 (.agg #[.int .i64 a.line,.bool a.p0,.bool a.p1,.bool a.p2]) (.agg #[.int .i64 b.line,.bool b.p0,.bool b.p1,.bool b.p2])).run Tryz.prog w = .ok (frmEq a b) w:=by
 have u3:=Tryz.underlying3
 have i3:=Tryz.isAgg3
 have i5:=Tryz.isAgg132
 have z5:=Tryz.sizeOf132
 have hS:Tryz.prog.underlying 134 = some (.struct (Tryz.prog.fieldsOf 134)):=by kernel_rfl
 have hp:Tryz.prog.stoodInHeld 134 = false:=by kernel_rfl
 have hB:=eq_bools d
 rw [run_equalIn_agg w (d + 2) 134 _ _ hS hp]
 simp only [Program.fieldsOf,Tryz.underlying134]
 go_simp
 unfold frmEq
 by_cases h0:a.line = b.line <;> by_cases h1:a.p0 = b.p0 <;> by_cases h2:a.p1 = b.p1 <;> by_cases h3:a.p2 = b.p2 <;> simp [h0,h1,h2,h3]
set_option maxRecDepth 100000 in
theorem eq_frames (d:Nat) (a b:Thr) (w:World):(Op.equalIn (d + 4) 135 (.agg #[.int .i64 a.f0.line,.bool a.f0.p0,.bool a.f0.p1,.bool a.f0.p2,.int .i64 a.f1.line,.bool a.f1.p0,.bool a.f1.p1,.bool a.f1.p2,.int .i64 a.f2.line,.bool a.f2.p0,.bool a.f2.p1,.bool a.f2.p2,.int .i64 a.f3.line,.bool a.f3.p0,.bool a.f3.p1,.bool a.f3.p2]) (.agg #[.int .i64 b.f0.line,.bool b.f0.p0,.bool b.f0.p1,.bool b.f0.p2,.int .i64 b.f1.line,.bool b.f1.p0,.bool b.f1.p1,.bool b.f1.p2,.int .i64 b.f2.line,.bool b.f2.p0,.bool b.f2.p1,.bool b.f2.p2,.int .i64 b.f3.line,.bool b.f3.p0,.bool b.f3.p1,.bool b.f3.p2])).run Tryz.prog w = .ok (frmEq a.f0 b.f0 && frmEq a.f1 b.f1 && frmEq a.f2 b.f2 && frmEq a.f3 b.f3) w:=by
 have i4:=Tryz.isAgg134
 have z4:=Tryz.sizeOf134
 have hF:=eq_frame d
 rw [run_equalIn_row w (d + 3) 135 134 4 4 _ _ Tryz.underlying135 Tryz.sizeOf134]
 simp only [eqRow]
 go_simp
 cases frmEq a.f0 b.f0 <;> cases frmEq a.f1 b.f1 <;> cases frmEq a.f2 b.f2 <;> cases frmEq a.f3 b.f3 <;> rfl
set_option maxRecDepth 100000 in
theorem eq_thread (d:Nat) (a b:Thr) (w:World):(Op.equalIn (d + 5) 137 (.agg #[.int .i64 a.count,.int .i64 a.f0.line,.bool a.f0.p0,.bool a.f0.p1,.bool a.f0.p2,.int .i64 a.f1.line,.bool a.f1.p0,.bool a.f1.p1,.bool a.f1.p2,.int .i64 a.f2.line,.bool a.f2.p0,.bool a.f2.p1,.bool a.f2.p2,.int .i64 a.f3.line,.bool a.f3.p0,.bool a.f3.p1,.bool a.f3.p2]) (.agg #[.int .i64 b.count,.int .i64 b.f0.line,.bool b.f0.p0,.bool b.f0.p1,.bool b.f0.p2,.int .i64 b.f1.line,.bool b.f1.p0,.bool b.f1.p1,.bool b.f1.p2,.int .i64 b.f2.line,.bool b.f2.p0,.bool b.f2.p1,.bool b.f2.p2,.int .i64 b.f3.line,.bool b.f3.p0,.bool b.f3.p1,.bool b.f3.p2])).run Tryz.prog w = .ok (thrEq a b) w:=by
 have u3:=Tryz.underlying3
 have i3:=Tryz.isAgg3
 have i5:=Tryz.isAgg135
 have z5:=Tryz.sizeOf135
 have hS:Tryz.prog.underlying 137 = some (.struct (Tryz.prog.fieldsOf 137)):=by kernel_rfl
 have hp:Tryz.prog.stoodInHeld 137 = false:=by kernel_rfl
 have hB:=eq_frames d
 rw [run_equalIn_agg w (d + 4) 137 _ _ hS hp]
 simp only [Program.fieldsOf,Tryz.underlying137]
 go_simp
 unfold thrEq
 by_cases h:a.count = b.count <;> cases frmEq a.f0 b.f0 <;> cases frmEq a.f1 b.f1 <;> cases frmEq a.f2 b.f2 <;> cases frmEq a.f3 b.f3 <;> simp [h]
set_option maxRecDepth 100000 in
theorem eq_threads (d:Nat) (a b:Cfg) (w:World):(Op.equalIn (d + 6) 138 (.agg #[.int .i64 a.t0.count,.int .i64 a.t0.f0.line,.bool a.t0.f0.p0,.bool a.t0.f0.p1,.bool a.t0.f0.p2,.int .i64 a.t0.f1.line,.bool a.t0.f1.p0,.bool a.t0.f1.p1,.bool a.t0.f1.p2,.int .i64 a.t0.f2.line,.bool a.t0.f2.p0,.bool a.t0.f2.p1,.bool a.t0.f2.p2,.int .i64 a.t0.f3.line,.bool a.t0.f3.p0,.bool a.t0.f3.p1,.bool a.t0.f3.p2,.int .i64 a.t1.count,.int .i64 a.t1.f0.line,.bool a.t1.f0.p0,.bool a.t1.f0.p1,.bool a.t1.f0.p2,.int .i64 a.t1.f1.line,.bool a.t1.f1.p0,.bool a.t1.f1.p1,.bool a.t1.f1.p2,.int .i64 a.t1.f2.line,.bool a.t1.f2.p0,.bool a.t1.f2.p1,.bool a.t1.f2.p2,.int .i64 a.t1.f3.line,.bool a.t1.f3.p0,.bool a.t1.f3.p1,.bool a.t1.f3.p2,.int .i64 a.t2.count,.int .i64 a.t2.f0.line,.bool a.t2.f0.p0,.bool a.t2.f0.p1,.bool a.t2.f0.p2,.int .i64 a.t2.f1.line,.bool a.t2.f1.p0,.bool a.t2.f1.p1,.bool a.t2.f1.p2,.int .i64 a.t2.f2.line,.bool a.t2.f2.p0,.bool a.t2.f2.p1,.bool a.t2.f2.p2,.int .i64 a.t2.f3.line,.bool a.t2.f3.p0,.bool a.t2.f3.p1,.bool a.t2.f3.p2]) (.agg #[.int .i64 b.t0.count,.int .i64 b.t0.f0.line,.bool b.t0.f0.p0,.bool b.t0.f0.p1,.bool b.t0.f0.p2,.int .i64 b.t0.f1.line,.bool b.t0.f1.p0,.bool b.t0.f1.p1,.bool b.t0.f1.p2,.int .i64 b.t0.f2.line,.bool b.t0.f2.p0,.bool b.t0.f2.p1,.bool b.t0.f2.p2,.int .i64 b.t0.f3.line,.bool b.t0.f3.p0,.bool b.t0.f3.p1,.bool b.t0.f3.p2,.int .i64 b.t1.count,.int .i64 b.t1.f0.line,.bool b.t1.f0.p0,.bool b.t1.f0.p1,.bool b.t1.f0.p2,.int .i64 b.t1.f1.line,.bool b.t1.f1.p0,.bool b.t1.f1.p1,.bool b.t1.f1.p2,.int .i64 b.t1.f2.line,.bool b.t1.f2.p0,.bool b.t1.f2.p1,.bool b.t1.f2.p2,.int .i64 b.t1.f3.line,.bool b.t1.f3.p0,.bool b.t1.f3.p1,.bool b.t1.f3.p2,.int .i64 b.t2.count,.int .i64 b.t2.f0.line,.bool b.t2.f0.p0,.bool b.t2.f0.p1,.bool b.t2.f0.p2,.int .i64 b.t2.f1.line,.bool b.t2.f1.p0,.bool b.t2.f1.p1,.bool b.t2.f1.p2,.int .i64 b.t2.f2.line,.bool b.t2.f2.p0,.bool b.t2.f2.p1,.bool b.t2.f2.p2,.int .i64 b.t2.f3.line,.bool b.t2.f3.p0,.bool b.t2.f3.p1,.bool b.t2.f3.p2])).run Tryz.prog w = .ok (thrEq a.t0 b.t0 && thrEq a.t1 b.t1 && thrEq a.t2 b.t2) w:=by
 have i4:=Tryz.isAgg137
 have z4:=Tryz.sizeOf137
 have hF:=eq_thread d
 rw [run_equalIn_row w (d + 5) 138 137 3 17 _ _ Tryz.underlying138 Tryz.sizeOf137]
 simp only [eqRow]
 go_simp
 cases thrEq a.t0 b.t0 <;> cases thrEq a.t1 b.t1 <;> cases thrEq a.t2 b.t2 <;> rfl
set_option maxRecDepth 100000 in
theorem eq_shared (d:Nat) (a b:Cfg) (w:World):(Op.equalIn (d + 2) 130 (.agg #[.bool a.s0,.bool a.s1,.bool a.s2,.bool a.s3]) (.agg #[.bool b.s0,.bool b.s1,.bool b.s2,.bool b.s3])).run Tryz.prog w = .ok ((a.s0 == b.s0) && (a.s1 == b.s1) && (a.s2 == b.s2) && (a.s3 == b.s3)) w:=by
 have u4:=Tryz.underlying4
 have i4:=Tryz.isAgg4
 rw [run_equalIn_row w (d + 1) 130 4 4 1 _ _ Tryz.underlying130 Tryz.sizeOf4]
 simp only [eqRow]
 go_simp
 by_cases h0:a.s0 = b.s0 <;> by_cases h1:a.s1 = b.s1 <;> by_cases h2:a.s2 = b.s2 <;> by_cases h3:a.s3 = b.s3 <;> simp [h0,h1,h2,h3]
set_option maxRecDepth 100000 in
theorem eq_holders (d:Nat) (a b:Cfg) (w:World):(Op.equalIn (d + 2) 131 (.agg #[.int .i64 a.h0,.int .i64 a.h1,.int .i64 a.h2]) (.agg #[.int .i64 b.h0,.int .i64 b.h1,.int .i64 b.h2])).run Tryz.prog w = .ok (decide (a.h0 = b.h0) && decide (a.h1 = b.h1) && decide (a.h2 = b.h2)) w:=by
 have u4:=Tryz.underlying3
 have i4:=Tryz.isAgg3
 rw [run_equalIn_row w (d + 1) 131 3 3 1 _ _ Tryz.underlying131 Tryz.sizeOf3]
 simp only [eqRow]
 go_simp
 by_cases h0:a.h0 = b.h0 <;> by_cases h1:a.h1 = b.h1 <;> by_cases h2:a.h2 = b.h2 <;> simp [h0,h1,h2]
set_option maxRecDepth 100000 in
theorem eq_config (d:Nat) (a b:Cfg) (w:World):(Op.equalIn (d + 7) 140 (.agg #[.bool a.s0,.bool a.s1,.bool a.s2,.bool a.s3,.int .i64 a.h0,.int .i64 a.h1,.int .i64 a.h2,.int .i64 a.t0.count,.int .i64 a.t0.f0.line,.bool a.t0.f0.p0,.bool a.t0.f0.p1,.bool a.t0.f0.p2,.int .i64 a.t0.f1.line,.bool a.t0.f1.p0,.bool a.t0.f1.p1,.bool a.t0.f1.p2,.int .i64 a.t0.f2.line,.bool a.t0.f2.p0,.bool a.t0.f2.p1,.bool a.t0.f2.p2,.int .i64 a.t0.f3.line,.bool a.t0.f3.p0,.bool a.t0.f3.p1,.bool a.t0.f3.p2,.int .i64 a.t1.count,.int .i64 a.t1.f0.line,.bool a.t1.f0.p0,.bool a.t1.f0.p1,.bool a.t1.f0.p2,.int .i64 a.t1.f1.line,.bool a.t1.f1.p0,.bool a.t1.f1.p1,.bool a.t1.f1.p2,.int .i64 a.t1.f2.line,.bool a.t1.f2.p0,.bool a.t1.f2.p1,.bool a.t1.f2.p2,.int .i64 a.t1.f3.line,.bool a.t1.f3.p0,.bool a.t1.f3.p1,.bool a.t1.f3.p2,.int .i64 a.t2.count,.int .i64 a.t2.f0.line,.bool a.t2.f0.p0,.bool a.t2.f0.p1,.bool a.t2.f0.p2,.int .i64 a.t2.f1.line,.bool a.t2.f1.p0,.bool a.t2.f1.p1,.bool a.t2.f1.p2,.int .i64 a.t2.f2.line,.bool a.t2.f2.p0,.bool a.t2.f2.p1,.bool a.t2.f2.p2,.int .i64 a.t2.f3.line,.bool a.t2.f3.p0,.bool a.t2.f3.p1,.bool a.t2.f3.p2]) (.agg #[.bool b.s0,.bool b.s1,.bool b.s2,.bool b.s3,.int .i64 b.h0,.int .i64 b.h1,.int .i64 b.h2,.int .i64 b.t0.count,.int .i64 b.t0.f0.line,.bool b.t0.f0.p0,.bool b.t0.f0.p1,.bool b.t0.f0.p2,.int .i64 b.t0.f1.line,.bool b.t0.f1.p0,.bool b.t0.f1.p1,.bool b.t0.f1.p2,.int .i64 b.t0.f2.line,.bool b.t0.f2.p0,.bool b.t0.f2.p1,.bool b.t0.f2.p2,.int .i64 b.t0.f3.line,.bool b.t0.f3.p0,.bool b.t0.f3.p1,.bool b.t0.f3.p2,.int .i64 b.t1.count,.int .i64 b.t1.f0.line,.bool b.t1.f0.p0,.bool b.t1.f0.p1,.bool b.t1.f0.p2,.int .i64 b.t1.f1.line,.bool b.t1.f1.p0,.bool b.t1.f1.p1,.bool b.t1.f1.p2,.int .i64 b.t1.f2.line,.bool b.t1.f2.p0,.bool b.t1.f2.p1,.bool b.t1.f2.p2,.int .i64 b.t1.f3.line,.bool b.t1.f3.p0,.bool b.t1.f3.p1,.bool b.t1.f3.p2,.int .i64 b.t2.count,.int .i64 b.t2.f0.line,.bool b.t2.f0.p0,.bool b.t2.f0.p1,.bool b.t2.f0.p2,.int .i64 b.t2.f1.line,.bool b.t2.f1.p0,.bool b.t2.f1.p1,.bool b.t2.f1.p2,.int .i64 b.t2.f2.line,.bool b.t2.f2.p0,.bool b.t2.f2.p1,.bool b.t2.f2.p2,.int .i64 b.t2.f3.line,.bool b.t2.f3.p0,.bool b.t2.f3.p1,.bool b.t2.f3.p2])).run Tryz.prog w = .ok (cfgEq a b) w:=by
 have i1:=Tryz.isAgg130
 have z1:=Tryz.sizeOf130
 have i2:=Tryz.isAgg131
 have z2:=Tryz.sizeOf131
 have i3:=Tryz.isAgg138
 have z3:=Tryz.sizeOf138
 have hS:Tryz.prog.underlying 140 = some (.struct (Tryz.prog.fieldsOf 140)):=by kernel_rfl
 have hp:Tryz.prog.stoodInHeld 140 = false:=by kernel_rfl
 have hA:=eq_shared (d + 4)
 have hB:=eq_holders (d + 4)
 have hC:=eq_threads d
 rw [run_equalIn_agg w (d + 6) 140 _ _ hS hp]
 simp only [Program.fieldsOf,Tryz.underlying140]
 go_simp
 unfold cfgEq
 cases thrEq a.t0 b.t0 <;> cases thrEq a.t1 b.t1 <;> cases thrEq a.t2 b.t2 <;> by_cases h0:a.s0 = b.s0 <;> by_cases h1:a.s1 = b.s1 <;> by_cases h2:a.s2 = b.s2 <;> by_cases h3:a.s3 = b.s3 <;> by_cases h4:a.h0 = b.h0 <;> by_cases h5:a.h1 = b.h1 <;> by_cases h6:a.h2 = b.h2 <;> simp [h0,h1,h2,h3,h4,h5,h6]
set_option maxRecDepth 100000 in
theorem eq_point (a b:Pt) (w:World):(Op.equalIn 10000 183 (.agg (ptL a).toArray) (.agg (ptL b).toArray)).run Tryz.prog w = .ok (ptEq a b) w:=by
 have u3:=Tryz.underlying3
 have i3:=Tryz.isAgg3
 have i5:=Tryz.isAgg140
 have z5:=Tryz.sizeOf140
 have hS:Tryz.prog.underlying 183 = some (.struct (Tryz.prog.fieldsOf 183)):=by kernel_rfl
 have hp:Tryz.prog.stoodInHeld 183 = false:=by kernel_rfl
 have hB:=eq_config 9992
 show (Op.equalIn (9999 + 1) 183 (.agg #[.int .i64 a.ctx,.int .i64 a.last,.bool a.cfg.s0,.bool a.cfg.s1,.bool a.cfg.s2,.bool a.cfg.s3,.int .i64 a.cfg.h0,.int .i64 a.cfg.h1,.int .i64 a.cfg.h2,.int .i64 a.cfg.t0.count,.int .i64 a.cfg.t0.f0.line,.bool a.cfg.t0.f0.p0,.bool a.cfg.t0.f0.p1,.bool a.cfg.t0.f0.p2,.int .i64 a.cfg.t0.f1.line,.bool a.cfg.t0.f1.p0,.bool a.cfg.t0.f1.p1,.bool a.cfg.t0.f1.p2,.int .i64 a.cfg.t0.f2.line,.bool a.cfg.t0.f2.p0,.bool a.cfg.t0.f2.p1,.bool a.cfg.t0.f2.p2,.int .i64 a.cfg.t0.f3.line,.bool a.cfg.t0.f3.p0,.bool a.cfg.t0.f3.p1,.bool a.cfg.t0.f3.p2,.int .i64 a.cfg.t1.count,.int .i64 a.cfg.t1.f0.line,.bool a.cfg.t1.f0.p0,.bool a.cfg.t1.f0.p1,.bool a.cfg.t1.f0.p2,.int .i64 a.cfg.t1.f1.line,.bool a.cfg.t1.f1.p0,.bool a.cfg.t1.f1.p1,.bool a.cfg.t1.f1.p2,.int .i64 a.cfg.t1.f2.line,.bool a.cfg.t1.f2.p0,.bool a.cfg.t1.f2.p1,.bool a.cfg.t1.f2.p2,.int .i64 a.cfg.t1.f3.line,.bool a.cfg.t1.f3.p0,.bool a.cfg.t1.f3.p1,.bool a.cfg.t1.f3.p2,.int .i64 a.cfg.t2.count,.int .i64 a.cfg.t2.f0.line,.bool a.cfg.t2.f0.p0,.bool a.cfg.t2.f0.p1,.bool a.cfg.t2.f0.p2,.int .i64 a.cfg.t2.f1.line,.bool a.cfg.t2.f1.p0,.bool a.cfg.t2.f1.p1,.bool a.cfg.t2.f1.p2,.int .i64 a.cfg.t2.f2.line,.bool a.cfg.t2.f2.p0,.bool a.cfg.t2.f2.p1,.bool a.cfg.t2.f2.p2,.int .i64 a.cfg.t2.f3.line,.bool a.cfg.t2.f3.p0,.bool a.cfg.t2.f3.p1,.bool a.cfg.t2.f3.p2]) (.agg #[.int .i64 b.ctx,.int .i64 b.last,.bool b.cfg.s0,.bool b.cfg.s1,.bool b.cfg.s2,.bool b.cfg.s3,.int .i64 b.cfg.h0,.int .i64 b.cfg.h1,.int .i64 b.cfg.h2,.int .i64 b.cfg.t0.count,.int .i64 b.cfg.t0.f0.line,.bool b.cfg.t0.f0.p0,.bool b.cfg.t0.f0.p1,.bool b.cfg.t0.f0.p2,.int .i64 b.cfg.t0.f1.line,.bool b.cfg.t0.f1.p0,.bool b.cfg.t0.f1.p1,.bool b.cfg.t0.f1.p2,.int .i64 b.cfg.t0.f2.line,.bool b.cfg.t0.f2.p0,.bool b.cfg.t0.f2.p1,.bool b.cfg.t0.f2.p2,.int .i64 b.cfg.t0.f3.line,.bool b.cfg.t0.f3.p0,.bool b.cfg.t0.f3.p1,.bool b.cfg.t0.f3.p2,.int .i64 b.cfg.t1.count,.int .i64 b.cfg.t1.f0.line,.bool b.cfg.t1.f0.p0,.bool b.cfg.t1.f0.p1,.bool b.cfg.t1.f0.p2,.int .i64 b.cfg.t1.f1.line,.bool b.cfg.t1.f1.p0,.bool b.cfg.t1.f1.p1,.bool b.cfg.t1.f1.p2,.int .i64 b.cfg.t1.f2.line,.bool b.cfg.t1.f2.p0,.bool b.cfg.t1.f2.p1,.bool b.cfg.t1.f2.p2,.int .i64 b.cfg.t1.f3.line,.bool b.cfg.t1.f3.p0,.bool b.cfg.t1.f3.p1,.bool b.cfg.t1.f3.p2,.int .i64 b.cfg.t2.count,.int .i64 b.cfg.t2.f0.line,.bool b.cfg.t2.f0.p0,.bool b.cfg.t2.f0.p1,.bool b.cfg.t2.f0.p2,.int .i64 b.cfg.t2.f1.line,.bool b.cfg.t2.f1.p0,.bool b.cfg.t2.f1.p1,.bool b.cfg.t2.f1.p2,.int .i64 b.cfg.t2.f2.line,.bool b.cfg.t2.f2.p0,.bool b.cfg.t2.f2.p1,.bool b.cfg.t2.f2.p2,.int .i64 b.cfg.t2.f3.line,.bool b.cfg.t2.f3.p0,.bool b.cfg.t2.f3.p1,.bool b.cfg.t2.f3.p2])).run Tryz.prog w = .ok (ptEq a b) w
 rw [run_equalIn_agg w 9999 183 _ _ hS hp]
 simp only [Program.fieldsOf,Tryz.underlying183]
 go_simp
 unfold ptEq
 by_cases h0:a.ctx = b.ctx <;> by_cases h1:a.last = b.last <;> cases cfgEq a.cfg b.cfg <;> simp [h0,h1]
end Go.Proofs.YtmfcpbhdggonfaaGreatDoor
namespace Go.Proofs.YtmfcpbhdggonfaaGreatDoor
open Go.RowKit RR
theorem Tryz.sizePoint:(Tryz.prog.info? 183).map (·.size) = some 60:=by kernel_rfl
theorem Tryz.sizeSighting:(Tryz.prog.info? 235).map (·.size) = some 61:=by kernel_rfl
theorem one_pt (x:Pt):(ptL x).all (·.oneCell') = true:=rfl
theorem any_take {l:List Pt} {x:Pt} {i:Nat} (h:i < l.length):(l.take (i + 1)).any (ptEq · x) = ((l.take i).any (ptEq · x) || ptEq l[i] x):=by
 rw [List.take_succ_eq_append_getElem h,List.any_append]
 simp
set_option maxRecDepth 100000 in
set_option maxHeartbeats 8000000 in
theorem se_hasSeen (B:Nat) (x:Pt) (l:List Pt) (ao:Option Addr) (cap:Nat) (w:World) (hc:w.cell? ⟨B,7,none⟩ = some (.slice ao l.length cap)) (hl:l.length ≤ 10000) (hf:Flat w ao (l.flatMap ptL)) :
    Calls Tryz.prog 211 #[.pointer (some ⟨B,0,none⟩),.agg (ptL x).toArray] w fun e w'=>e = .returned (.bool (l.any (ptEq · x)))∧Below w.heap.size w w':=by
 have hG:Tryz.prog.eqGuardType Tryz.prog.depth 183 = false:=by kernel_rfl
 have HF:=hide hf
 clear hf
 go_enter Tryz.func211,Tryz.ntmps211
 go_upto_region 1 with (first | (refine wpl_box rfl 183 _ rfl (ptL x) rfl ?_))
 have hX:(w.alloc (.cells (ptL x).toArray 183)).rangeAt w.heap.size 0 (ptL x):=rg_new rfl
 have hbW:Below w.heap.size w (w.alloc (.cells (ptL x).toArray 183)):=(Below.refl _ _).alloc (Nat.le_refl _) _
 have hcW:=cell_below hc hbW
 have HFW:=hide (HF.out.below hbW)
 have HBW:=hide hbW
 clear hbW hc
 generalize w.alloc (.cells (ptL x).toArray 183) = W at *
 go_wp2_with fail
 go_loopw [5] (fun u wr=>∃ i:Nat,u = .int .i64 i∧i ≤ l.length∧(l.take i).any (ptEq · x) = false∧Below W.heap.size W wr) (fun u _=>l.length - (intOf u).toNat)
 case atStart=>exact ⟨0,rfl,by omega,rfl,Below.refl _ _⟩
 case round =>
  obtain ⟨i,rfl,hi,hn,hbr⟩:=hrel
  have HN:=hide hn
  have HBr:=hide hbr
  have hcr:=cell_below hcW hbr
  have hXr:=rg_below hX hbr
  clear hn hbr hcW hX
  by_cases hlt:i < l.length
  ·obtain ⟨b,o,hb,hao,hr⟩:=(HFW.out.below HBr.out).get (f:=ptL) (n:=60) (fun _=>rfl) (by decide) i hlt
   have HA:=hide (any_take (x:=x) hlt)
   have HM:=hide (List.getElem_mem hlt)
   generalize hY:l[i] = y at *
   clear hY
   subst hao
   have hcr':∀ w',Below wr.heap.size wr w'→w'.cell? ⟨B,7,none⟩ = some (.slice (some ⟨b,o,none⟩) l.length cap):=fun w' h=>cell_below hcr h
   go_wp2_with fail
   refine wp_region_held_drew (S:=fun w'=>Below wr.heap.size wr w') (by kernel_rfl) (Below.refl _ _).drew (fun hHeld=>?_)
   refine wpAnyH_take (i:=0) (v:=?_) rfl (by kernel_rfl) (by kernel_rfl) (by kernel_rfl) (fun _ _ _ h=>h) (Or.inl ⟨by rfl,?_⟩) (by assumption) ?_; rotate_left; focus (intro w' hSw; go_simp; (first | done | with_reducible rfl)); (try simp only [put_laws])
   refine wpAnyH_take (i:=1) (v:=?_) rfl (by kernel_rfl) (by kernel_rfl) (by kernel_rfl) (fun _ _ _ h=>h) (Or.inl ⟨by rfl,?_⟩) (by assumption) ?_; rotate_left; focus (intro w' hSw; go_simp; (first | done | with_reducible rfl)); (try simp only [put_laws])
   refine wpAnyH_take (i:=2) (v:=?_) rfl (by kernel_rfl) (by kernel_rfl) (by kernel_rfl) (fun _ _ _ h=>h) (Or.inl ⟨by rfl,?_⟩) (by assumption) ?_; rotate_left; focus (intro w' hSw; go_simp; (first | done | with_reducible rfl)); (try simp only [put_laws])
   refine wpAnyH_take (i:=3) (v:=?_) rfl (by kernel_rfl) (by kernel_rfl) (by kernel_rfl) (fun _ _ _ h=>h) (Or.inl ⟨by rfl,?_⟩) (by assumption) ?_; rotate_left; focus (intro w' hSw; go_simp; (first | done | with_reducible rfl)); (try simp only [put_laws])
   refine wpAnyH_take (i:=4) (v:=?_) rfl (by kernel_rfl) (by kernel_rfl) (by kernel_rfl) (fun _ _ _ h=>h) (Or.inl ⟨by rfl,?_⟩) (by assumption) ?_; rotate_left; focus (intro w' hSw; go_simp; (first | done | with_reducible rfl)); (try simp only [put_laws])
   refine wpAnyH_take (i:=5) (v:=?_) rfl (by kernel_rfl) (by kernel_rfl) (by kernel_rfl) (fun _ _ _ h=>h) (Or.inl ⟨by rfl,?_⟩) (by assumption) ?_; rotate_left; focus (intro w' hSw; go_simp; (first | done | with_reducible rfl)); (try simp only [put_laws])
   refine wpAnyH_take (i:=6) rfl (by kernel_rfl) (by kernel_rfl) (by kernel_rfl) (fun _ _ _ h=>h) (yieldsIf_load_mid (by rfl) _ _ rfl b (o + i * 60) rfl (ptL y) _ (fun _ h=>rg_below hr h) Tryz.underlying183 rfl Tryz.sizePoint) (by assumption) ?_
   try simp only [put_laws]
   refine wpAnyH_take (i:=7) rfl (by kernel_rfl) (by kernel_rfl) (by kernel_rfl) (fun _ _ _ h=>h) (yieldsIf_load_mid (by rfl) _ _ rfl w.heap.size 0 rfl (ptL x) _ (fun _ h=>rg_below hXr h) Tryz.underlying183 rfl Tryz.sizePoint) (by assumption) ?_
   try simp only [put_laws]
   have hEq:=eq_point y x
   refine wpAnyH_take (i:=8) (v:=?_) rfl (by kernel_rfl) (by kernel_rfl) (by kernel_rfl) (fun _ _ _ h=>h) (Or.inl ⟨by rfl,?_⟩) (by assumption) ?_; rotate_left; focus (intro w' hSw; go_simp; (first | done | with_reducible rfl)); (try simp only [put_laws])
   refine wpAnyH_done (by kernel_rfl) ?_ _
   have HB2:Hid (Below W.heap.size W wr.drew):=HBr.out.drew
   clear hHeld hEq hcr' hr hXr
   cases hp:ptEq y x with
   | true =>
    have HE:Hid (l.any (ptEq · x) = true):=List.any_eq_true.2 ⟨y,HM.out,hp⟩
    clear hp
    go_wp2_with fail
    go_ret
    exact ⟨ret_bool HE.out.symm,HBW.out.trans (HB2.out.mono HBW.out.size)⟩
   | false =>
    have HE:Hid ((l.take (i + 1)).any (ptEq · x) = false):=by show _ = _; rw [HA.out,HN.out,hp]; rfl
    clear hp
    go_wp2_with fail
    go_roundw
    case rel=>exact ⟨i + 1,by go_num,by omega,HE.out,HB2.out⟩
    case measure=>simp [intOf]; omega
  ·have hil:i = l.length:=by omega
   subst hil
   have HE:Hid (l.any (ptEq · x) = false):=by
    have:=HN.out
    rwa [List.take_length] at this
   go_wp2_with fail
   go_ret
   exact ⟨ret_bool HE.out.symm,HBW.out.trans (HBr.out.mono HBW.out.size)⟩
end Go.Proofs.YtmfcpbhdggonfaaGreatDoor
namespace Go.Proofs.YtmfcpbhdggonfaaGreatDoor
open Go.RowKit RR
theorem wpo_slice1 {P:Program} {o:Oper} {a:Act} {w:World} {K:Act→World→Prop} {Q:Exit→Act→World→Prop} (t e:TypeId) (x:Operand) (ho:o.op = .buildSlice t 1 #[(0,x)]) (cs:List Value) (hx:a.eval x = .agg cs.toArray) (n:Nat) (z:Value)
    (hu:P.underlying t = some (.slice e)) (hn:∀ w,(Go.sizeOf e).run P w = .ok n w) (hz:∀ w,(zeroValue e).run P w = .ok z w) (h0:0 < n) (h24:n ≤ 1000)
    (hf:Instr.fill (fun i=>some (i * n,n)) ((Array.range (1 * n)).map (z.cells[· % z.cells.size]!)) [(0,.agg cs.toArray)] = some cs.toArray)
    (h:K (a.put o.dst (.slice (some ⟨w.heap.size,0,none⟩) 1 1)) (w.alloc (.cells cs.toArray e))):o.wp P a w K Q:=by
 have h1:¬ 1 * n > 2 ^ 24:=by omega
 have h2:¬ 1 * n = 0:=by omega
 unfold Oper.wp execOp
 simp only [ho,Instr.buildSlice,Sem.run_bind,run_underlying hu,Result.andThen_ok,hn,List.map_toArray,List.map_cons,List.map_nil,hx,if_neg h1,if_neg h2,hz,hf,Sem.run_pure]
 simpa [go_sem] using h
theorem Tryz.fillPoint (x:Pt):Instr.fill (fun i=>some (i * 60,60)) ((Array.range (1 * 60)).map ((Value.agg (ptL ⟨0,0,zCfg⟩).toArray).cells[· % (Value.agg (ptL ⟨0,0,zCfg⟩).toArray).cells.size]!)) [(0,.agg (ptL x).toArray)] = some (ptL x).toArray:=by kernel_rfl
theorem Tryz.zeroPoint (w:World):(zeroValue 183).run Tryz.prog w = .ok (.agg (ptL ⟨0,0,zCfg⟩).toArray) w:=by
 have h:(Tryz.prog.info? 183).bind (·.zero) = some (.agg (ptL ⟨0,0,zCfg⟩).toArray):=by kernel_rfl
 obtain ⟨i,h1,h2⟩:=Option.bind_eq_some_iff.1 h
 simp [zeroValue,typeInfo,h1,h2]
theorem Tryz.fillSight (x:Sg):Instr.fill (fun i=>some (i * 61,61)) ((Array.range (1 * 61)).map ((Value.agg (sgL ⟨⟨0,0,zCfg⟩,⟨#[]⟩⟩).toArray).cells[· % (Value.agg (sgL ⟨⟨0,0,zCfg⟩,⟨#[]⟩⟩).toArray).cells.size]!)) [(0,.agg (sgL x).toArray)] = some (sgL x).toArray:=by kernel_rfl
theorem Tryz.zeroSight (w:World):(zeroValue 235).run Tryz.prog w = .ok (.agg (sgL ⟨⟨0,0,zCfg⟩,⟨#[]⟩⟩).toArray) w:=by
 have h:(Tryz.prog.info? 235).bind (·.zero) = some (.agg (sgL ⟨⟨0,0,zCfg⟩,⟨#[]⟩⟩).toArray):=by kernel_rfl
 obtain ⟨i,h1,h2⟩:=Option.bind_eq_some_iff.1 h
 simp [zeroValue,typeInfo,h1,h2]
theorem app_row_o {o:Oper} {a:Act} {K:Act→World→Prop} {Q:Exit→Act→World→Prop} {w0:World} {base:Nat} {T S:TypeId} {size bytes n:Nat} {z v:Value} {xs:List Value} {cs:Array Value}
    (hinfo:(Tryz.prog.info? T).map (fun i=>(i.zero,i.size,i.bytes)) = some (some z,size,bytes)) (hzs:z.cells.size = size) (hsz:0 < size) (hS:Tryz.prog.underlying S = some (.slice T))
    (hown:w0.ownsRow base T size v n xs) (hl:n ≤ 100000) (hby:bytes ≤ 100000) (hB:base ≤ w0.heap.size) (hcs:cs.toList.length = size) (h1:∀ u ∈ cs.toList,u.oneCell' = true) (sp xp:Operand)
    (ho:o.op = .call { callee:=.builtin .append,args:=#[sp,xp],argTypes:=#[S,S] }) (hs:a.eval sp = v) {nb:Nat}
    (hx:a.eval xp = .slice (some ⟨nb,0,none⟩) 1 1) (hnb:nb = w0.heap.size)
    (h:∀ g cap' w3,Apd base T size v n xs cs.toList w0 (.slice (some ⟨g,0,none⟩) (n + 1) cap') w3→K (a.put o.dst (.slice (some ⟨g,0,none⟩) (n + 1) cap')) w3) :
    o.wp Tryz.prog a (w0.alloc (.cells cs T)) K Q:=by
 obtain ⟨i0,hi0,hz0,hz1,hz2⟩:=info_parts hinfo
 subst hnb
 refine wp_append_lies _ sp xp S ho base T i0 z size bytes hS hi0 hz0 hz1 hz2 hzs hsz v n xs hs (hown.alloc _) ⟨w0.heap.size,0,none⟩ 1 1 cs.toList hx (by omega) (World.news_of_block (heap_alloc_new w0 _)) h1 (by decide) (by unfold maxLen; omega) (Nat.le_trans (Nat.mul_le_mul (show n + 1 ≤ 100001 by omega) hby) (by decide)) (Nat.le_trans hB (by simp)) _ rfl fun g cap' w3 hown3 hgrow hat _=>h _ _ _ ⟨hown3,?_,?_,?_⟩
 ·intro k hk h3
  exact (hgrow.block k (by simp; omega) h3).trans (Below.heap_alloc w0 _ k hk)
 ·refine ⟨hgrow.os,hgrow.tape,hgrow.output,Nat.le_trans (by simp) hgrow.size,fun k hk=>?_⟩
  refine (hgrow.block k (by simp; omega) (fun e=>?_)).trans (Below.heap_alloc w0 _ k (by omega))
  have:=(hown.lt k e.symm).1
  omega
 ·rcases hat with h3 | h3
  ·exact .inl h3.symm
  ·refine .inr fun g' hg'=>?_
   simp [Value.ownBlock] at hg'
   rw [← hg',h3]
   simp
end Go.Proofs.YtmfcpbhdggonfaaGreatDoor
namespace Go.Proofs.YtmfcpbhdggonfaaGreatDoor
open Go.RowKit RR
theorem SrAt.lt {B base:Nat} {p:Plan} {v:PV} {most:Int} {vS vF:Value} {s:Sr} {w:World} (h:SrAt B base p v most vS vF s w):B < w.heap.size:=(Array.getElem?_eq_some_iff.1 h.box).1
theorem info_point:(Tryz.prog.info? 183).map (fun i=>(i.zero,i.size,i.bytes)) = some (some (.agg (ptL ⟨0,0,zCfg⟩).toArray),60,((Tryz.prog.info? 183).map (·.bytes)).getD 0):=by kernel_rfl
theorem info_sight:(Tryz.prog.info? 235).map (fun i=>(i.zero,i.size,i.bytes)) = some (some (.agg (sgL ⟨⟨0,0,zCfg⟩,⟨#[]⟩⟩).toArray),61,((Tryz.prog.info? 235).map (·.bytes)).getD 0):=by kernel_rfl
theorem Tryz.buildSight (x:Pt) (b:ByteArray):Tryz.prog.built 235 [(0,.agg (ptL x).toArray),(1,.string b)] = some (sgL ⟨x,b⟩).toArray:=by kernel_rfl
theorem one_sg (x:Sg):(sgL x).all (·.oneCell') = true:=rfl
theorem Apd.undrew {base:Nat} {T:TypeId} {size:Nat} {v:Value} {n:Nat} {xs ys:List Value} {w0:World} {v':Value} {w3:World} (h:Apd base T size v n xs ys w0.drew v' w3):Apd base T size v n xs ys w0 v' w3:=⟨h.row,h.blk,⟨h.bel.os,h.bel.tape,h.bel.output,h.bel.size,h.bel.block⟩,h.own⟩
theorem heap_frz {w:World} {B:Nat} {cs:Array Value} {t:TypeId} (h:w.heap[B]? = some (.cells cs t (0,0))) (o:Nat):w.frozen? ⟨B,o,none⟩ = false:=by simp [World.frozen?,h]
theorem cellAl {w:World} {a:Addr} {x:Value} {ob:Obj} (h:w.cell? a = some x):(w.alloc ob).cell? a = some x:=(World.cell?_alloc_lt _ _ _ (World.block_lt_of_cell? w a h)).trans h
theorem setCell_heap_ne (w:World) (B o:Nat) (x:Value) (k:Nat) (h:k ≠ B):(w.setCell ⟨B,o,none⟩ x).heap[k]? = w.heap[k]?:=by
 have e:(w.setCell ⟨B,o,none⟩ x).heap[k]? = (w.heap.modify B fun
     | .cells c elem frozen=>.cells (c.setIfInBounds o x) elem frozen
     | o=>o)[k]?:=rfl
 rw [e,Array.getElem?_modify,if_neg (Ne.symm h)]
theorem owns_type {w:World} {base:Nat} {e:TypeId} {size:Nat} {v:Value} {n:Nat} {xs:List Value} (h:w.ownsRow base e size v n xs) {k:Nat} (hk:some k = v.ownBlock):∃ c f,w.heap[k]? = some (Obj.cells c e f):=by
 obtain ⟨h1,h2 | ⟨g,cap,cur,hv,hb,hh,hcap,hmax,hsz,htk⟩⟩:=h
 ·rw [h2.1] at hk; simp [Value.ownBlock] at hk
 ·rw [hv] at hk
  simp [Value.ownBlock] at hk
  subst hk
  exact ⟨_,_,hh⟩
theorem owns_slice {w:World} {base:Nat} {e:TypeId} {size:Nat} {v:Value} {n:Nat} {xs:List Value} (h:w.ownsRow base e size v n xs):∃ a cap,v = .slice a n cap:=by
 obtain ⟨a,cap,h1,_⟩:=flat_of_owns h
 exact ⟨a,cap,h1⟩
def SeeA (base B o:Nat) (T:TypeId) (size:Nat) (vS:Value) (n:Nat) (xs ys:List Value) (W wx:World):Prop:=∃ g cap w3,Apd base T size vS n xs ys W (.slice (some ⟨g,0,none⟩) (n + 1) cap) w3∧wx = w3.setCell ⟨B,o,none⟩ (.slice (some ⟨g,0,none⟩) (n + 1) cap)
structure SeK (base B:Nat) (vS vF:Value) (w:World) (vS' vF':Value) (w':World):Prop where
 bel:Below base w w'
 blk:∀ k,k < w.heap.size→k ≠ B→some k ≠ vS.ownBlock→some k ≠ vF.ownBlock→w'.heap[k]? = w.heap[k]?
 oS:vS'.ownBlock = vS.ownBlock ∨ ∀ g,vS'.ownBlock = some g→w.heap.size ≤ g
 oF:vF'.ownBlock = vF.ownBlock ∨ ∀ g,vF'.ownBlock = some g→w.heap.size ≤ g
theorem SeK.of_below {base B:Nat} {vS vF:Value} {w w':World} (h:Below w.heap.size w w') (hB:base ≤ w.heap.size):SeK base B vS vF w vS vF w':=⟨h.mono hB,fun _ hk _ _ _=>h.block _ hk,.inl rfl,.inl rfl⟩
theorem SeK.farS {base B:Nat} {vS vF vS' vF':Value} {w w':World} (h:SeK base B vS vF w vS' vF' w') {k:Nat} (hk:k < w.heap.size) (hn:some k ≠ vS.ownBlock):some k ≠ vS'.ownBlock:=fun e=>by
 rcases h.oS with h1 | h1
 ·exact hn (e.trans h1)
 ·have:=h1 k e.symm; omega
theorem SeK.farF {base B:Nat} {vS vF vS' vF':Value} {w w':World} (h:SeK base B vS vF w vS' vF' w') {k:Nat} (hk:k < w.heap.size) (hn:some k ≠ vF.ownBlock):some k ≠ vF'.ownBlock:=fun e=>by
 rcases h.oF with h1 | h1
 ·exact hn (e.trans h1)
 ·have:=h1 k e.symm; omega
theorem SeK.trans {base B:Nat} {vS vF vS1 vF1 vS2 vF2:Value} {w w1 w2:World} (h:SeK base B vS vF w vS1 vF1 w1) (g:SeK base B vS1 vF1 w1 vS2 vF2 w2):SeK base B vS vF w vS2 vF2 w2 where
 bel:=h.bel.trans g.bel
 blk:=fun k hk hB hS hF=>(g.blk k (Nat.lt_of_lt_of_le hk h.bel.size) hB (h.farS hk hS) (h.farF hk hF)).trans (h.blk k hk hB hS hF)
 oS:=by
  rcases g.oS with h1 | h1
  ·rw [h1]; exact h.oS
  ·exact .inr fun x hx=>Nat.le_trans h.bel.size (h1 x hx)
 oF:=by
  rcases g.oF with h1 | h1
  ·rw [h1]; exact h.oF
  ·exact .inr fun x hx=>Nat.le_trans h.bel.size (h1 x hx)
structure Far (k B:Nat) (vS vF:Value) (w:World):Prop where
 lt:k < w.heap.size
 ne:k ≠ B
 nS:some k ≠ vS.ownBlock
 nF:some k ≠ vF.ownBlock
theorem SeK.far {base k B:Nat} {vS vF vS' vF':Value} {w w':World} (h:SeK base B vS vF w vS' vF' w') (f:Far k B vS vF w):Far k B vS' vF' w':=⟨Nat.lt_of_lt_of_le f.lt h.bel.size,f.ne,h.farS f.lt f.nS,h.farF f.lt f.nF⟩
theorem SeK.same {base k B:Nat} {vS vF vS' vF':Value} {w w':World} (h:SeK base B vS vF w vS' vF' w') (f:Far k B vS vF w):w'.heap[k]? = w.heap[k]?:=h.blk k f.lt f.ne f.nS f.nF
theorem SrAt.far {base B:Nat} {p:Plan} {v:PV} {most:Int} {vS vF:Value} {s:Sr} {w:World} (h:SrAt B base p v most vS vF s w) {W:World} {k:Nat} (hk:w.heap.size ≤ k) (hW:k < W.heap.size):Far k B vS vF W where
 lt:=hW
 ne:=fun e=>by have:=h.lt; omega
 nS:=fun e=>by have:=(h.seen.lt k e.symm).2; omega
 nF:=fun e=>by have:=(h.fresh.lt k e.symm).2; omega
theorem SrAt.neS {base B:Nat} {p:Plan} {v:PV} {most:Int} {vS vF:Value} {s:Sr} {w:World} (h:SrAt B base p v most vS vF s w):some B ≠ vS.ownBlock:=fun e=>by
 obtain ⟨c,f,hc⟩:=owns_type h.seen e
 have h2:=h.box
 rw [hc] at h2
 simp at h2
theorem SrAt.neF {base B:Nat} {p:Plan} {v:PV} {most:Int} {vS vF:Value} {s:Sr} {w:World} (h:SrAt B base p v most vS vF s w):some B ≠ vF.ownBlock:=fun e=>by
 obtain ⟨c,f,hc⟩:=owns_type h.fresh e
 have h2:=h.box
 rw [hc] at h2
 simp at h2
theorem owns_set {w:World} {B o base:Nat} {e:TypeId} {size:Nat} {v x:Value} {n:Nat} {xs:List Value} (h:w.ownsRow base e size v n xs) (hne:some B ≠ v.ownBlock):(w.setCell ⟨B,o,none⟩ x).ownsRow base e size v n xs :=
 owns_keep h fun k _ _ hk hv=>(setCell_heap_ne _ _ _ _ _ (fun e=>hne (by rw [← e]; exact hv))).trans hk
theorem SrAt.below {base B:Nat} {p:Plan} {v:PV} {most:Int} {vS vF:Value} {s:Sr} {w w':World} (h:SrAt B base p v most vS vF s w) (hb:Below w.heap.size w w'):SrAt B base p v most vS vF s w' where
 box:=(hb.block _ h.lt).trans h.box
 seen:=owns_keep h.seen fun k _ _ hk _=>(hb.block k (Array.getElem?_eq_some_iff.1 hk).1).trans hk
 fresh:=owns_keep h.fresh fun k _ _ hk _=>(hb.block k (Array.getElem?_eq_some_iff.1 hk).1).trans hk
theorem seek_set {base B o:Nat} {vS vF:Value} {w:World} (hB:base ≤ B) (x:Value):SeK base B vS vF w vS vF (w.setCell ⟨B,o,none⟩ x):=⟨(Below.refl _ _).setCell (p:=⟨B,o,none⟩) hB _,fun _ _ hB _ _=>setCell_heap_ne _ _ _ _ _ hB,.inl rfl,.inl rfl⟩
theorem sr_rep {base B o:Nat} {p:Plan} {v:PV} {most:Int} {vS vF:Value} {s:Sr} {w:World} (h:SrAt B base p v most vS vF s w) (x:Value) (r:Rp) (hr:(srL p v most vS vF s.rep).toArray.setIfInBounds o x = (srL p v most vS vF r).toArray):SrAt B base p v most vS vF { s with rep:=r } (w.setCell ⟨B,o,none⟩ x) where
 box:=by rw [← hr]; exact setOne_heap h.box o x
 seen:=owns_set h.seen h.neS
 fresh:=owns_set h.fresh h.neF
theorem seeA_out {base B:Nat} {p:Plan} {v:PV} {most:Int} {vS vF:Value} {s:Sr} {x:Pt} {W wx:World} (hBb:base ≤ B) (h:SrAt B base p v most vS vF s W) (hA:SeeA base B 7 183 60 vS s.seen.length (s.seen.flatMap ptL) (ptL x) W wx) :
    ∃ vS',SrAt B base p v most vS' vF { s with seen:=s.seen ++ [x] } wx∧SeK base B vS vF W vS' vF wx:=by
 obtain ⟨g,cap,w3,ha,rfl⟩:=hA
 have hB3:w3.heap[B]? = _:=(ha.blk B h.lt h.neS).trans h.box
 have hF3:w3.ownsRow base 235 61 vF s.fresh.length (s.fresh.flatMap sgL):=owns_keep h.fresh fun k c f hk _=>by
  refine (ha.blk k (Array.getElem?_eq_some_iff.1 hk).1 (fun e=>?_)).trans hk
  obtain ⟨c2,f2,h2⟩:=owns_type h.seen e
  rw [h2] at hk
  have:=Option.some.inj hk
  simp at this
 refine ⟨.slice (some ⟨g,0,none⟩) (s.seen.length + 1) cap,⟨?_,?_,?_⟩,SeK.trans ⟨ha.bel,fun k hk _ hS _=>ha.blk k hk hS,ha.own,.inl rfl⟩ (seek_set hBb _)⟩
 ·exact setOne_heap hB3 7 _
 ·have hne:some B ≠ (Value.slice (some ⟨g,0,none⟩) (s.seen.length + 1) cap).ownBlock:=fun e=>by
    obtain ⟨c,f,hc⟩:=owns_type ha.row e
    rw [hc] at hB3
    simp at hB3
  have:=owns_set (o:=7) (x:=.slice (some ⟨g,0,none⟩) (s.seen.length + 1) cap) ha.row hne
  simpa [List.flatMap_append] using this
 ·exact owns_set hF3 h.neF
theorem seeB_out {base B:Nat} {p:Plan} {v:PV} {most:Int} {vS vF:Value} {s:Sr} {x:Sg} {W wx:World} (hBb:base ≤ B) (h:SrAt B base p v most vS vF s W) (hA:SeeA base B 8 235 61 vF s.fresh.length (s.fresh.flatMap sgL) (sgL x) W wx) :
    ∃ vF',SrAt B base p v most vS vF' { s with fresh:=s.fresh ++ [x] } wx∧SeK base B vS vF W vS vF' wx:=by
 obtain ⟨g,cap,w3,ha,rfl⟩:=hA
 have hB3:w3.heap[B]? = _:=(ha.blk B h.lt h.neF).trans h.box
 have hF3:w3.ownsRow base 183 60 vS s.seen.length (s.seen.flatMap ptL):=owns_keep h.seen fun k c f hk _=>by
  refine (ha.blk k (Array.getElem?_eq_some_iff.1 hk).1 (fun e=>?_)).trans hk
  obtain ⟨c2,f2,h2⟩:=owns_type h.fresh e
  rw [h2] at hk
  have:=Option.some.inj hk
  simp at this
 refine ⟨.slice (some ⟨g,0,none⟩) (s.fresh.length + 1) cap,⟨?_,?_,?_⟩,SeK.trans ⟨ha.bel,fun k hk _ _ hS=>ha.blk k hk hS,.inl rfl,ha.own⟩ (seek_set hBb _)⟩
 ·exact setOne_heap hB3 8 _
 ·exact owns_set hF3 h.neS
 ·have hne:some B ≠ (Value.slice (some ⟨g,0,none⟩) (s.fresh.length + 1) cap).ownBlock:=fun e=>by
    obtain ⟨c,f,hc⟩:=owns_type ha.row e
    rw [hc] at hB3
    simp at hB3
  have:=owns_set (o:=8) (x:=.slice (some ⟨g,0,none⟩) (s.fresh.length + 1) cap) ha.row hne
  simpa [List.flatMap_append] using this
theorem sr_plan {base B:Nat} {p:Plan} {v:PV} {most:Int} {vS vF:Value} {s:Sr} {w:World} (h:SrAt B base p v most vS vF s w):w.rangeAt B 0 (plL p v):=range_of_block h.box fun j x hx=>by
 rw [Nat.zero_add]
 unfold srL
 rw [List.append_assoc,List.getElem?_append_left (List.getElem?_eq_some_iff.1 hx).1]
 exact hx
theorem pt_cfg {k:Nat} {x:Pt} {w:World} (h:w.heap[k]? = some (.cells (ptL x).toArray 183 (0,0))):w.rangeAt k 2 (cfgL x.cfg):=range_of_block h fun j y hy=>by
 unfold ptL
 rw [List.getElem?_append_right (by simp)]
 simpa using hy
def PInB (base:Nat) (w:World) (p:Plan) (v:PV):Prop:=∃ w0,w0.heap.size ≤ base∧PIn w0 p v∧Below w0.heap.size w0 w
theorem PInB.below {base:Nat} {w w':World} {p:Plan} {v:PV} (h:PInB base w p v) (hb:Below base w w'):PInB base w' p v:=by
 obtain ⟨w0,h1,h2,h3⟩:=h
 exact ⟨w0,h1,h2,h3.trans (hb.mono h1)⟩
theorem PInB.in_ {base:Nat} {w:World} {p:Plan} {v:PV} (h:PInB base w p v):PIn w p v:=by
 obtain ⟨w0,_,h2,h3⟩:=h
 exact h2.below h3
end Go.Proofs.YtmfcpbhdggonfaaGreatDoor
