/- Great values by whole: boxes, loads, stores of configurations, threads, lines. -/
import Derived.Test.YtmfcpbhdggonfaaGreatDoorMjAD
import Derived.Deep.RegionHeld
namespace Go.Proofs.YtmfcpbhdggonfaaGreatDoor
open Go.RowKit RR
theorem wpo_box {P:Program} {o:Oper} {a:Act} {w:World} {K:Act→World→Prop} {Q:Exit→Act→World→Prop} (t:TypeId) (x:Operand) (ho:o.op = .box t x) (cs:List Value) (hx:a.eval x = .agg cs.toArray)
    (h:K (a.put o.dst (.pointer (some ⟨w.heap.size,0,none⟩))) (w.alloc (.cells cs.toArray t))):o.wp P a w K Q:=by
 unfold Oper.wp execOp
 simp only [ho,hx]
 simpa [go_sem] using h
theorem wpo_alloc {P:Program} {o:Oper} {a:Act} {w:World} {K:Act→World→Prop} {Q:Exit→Act→World→Prop} (t:TypeId) (ho:o.op = .alloc t) (cs:List Value) (hz:(P.info? t).bind (·.zero) = some (.agg cs.toArray))
    (h:K (a.put o.dst (.pointer (some ⟨w.heap.size,0,none⟩))) (w.alloc (.cells cs.toArray t))):o.wp P a w K Q:=by
 obtain ⟨i,h1,h2⟩:=Option.bind_eq_some_iff.1 hz
 unfold Oper.wp execOp
 simp only [ho,Instr.alloc,zeroValue,typeInfo]
 simpa [go_sem,h1,h2] using h
theorem setRow_new {w:World} {z cs:Array Value} {t:TypeId}:(w.alloc (.cells z t)).setRow w.heap.size cs = w.alloc (.cells cs t):=by
 unfold World.setRow World.alloc
 congr 1
 apply Array.ext_getElem?
 intro k
 rw [Array.getElem?_modify]
 by_cases hk:w.heap.size = k
 ·subst hk
  simp
 ·rw [if_neg hk,Array.getElem?_push,Array.getElem?_push]
  rw [if_neg (fun e=>hk e.symm),if_neg (fun e=>hk e.symm)]
theorem wpo_store_new {P:Program} {o:Oper} {a:Act} {w:World} {K:Act→World→Prop} {Q:Exit→Act→World→Prop} (ty:TypeId) (x y:Operand) (ho:o.op = .store ty x y) (b:Nat) (z:Array Value) (cs:List Value) (t:TypeId)
    (hx:a.eval x = .pointer (some ⟨b,0,none⟩)) (hy:a.eval y = .agg cs.toArray) (hb:b = w.heap.size) (hi:(P.info? ty).map (·.size) = some cs.length) (hz:z.size = cs.length) (h1:cs.all (·.oneCell') = true)
    (h:K (a.put o.dst undef) (w.alloc (.cells cs.toArray t))):o.wp P a (w.alloc (.cells z t)) K Q:=by
 subst hb
 refine wp_store_row ty x y ho w.heap.size cs.toArray hx hy t z (heap_alloc_new w _) (by simpa using hi) (by simpa using hz) (by simpa using h1) ?_
 rw [setRow_new]
 exact h
theorem wpo_zero {P:Program} {o:Oper} {a:Act} {w:World} {K:Act→World→Prop} {Q:Exit→Act→World→Prop} (t:TypeId) (ho:o.op = .build t #[]) (cs:List Value) (hz:P.built t [] = some cs.toArray)
    (h:K (a.put o.dst (.agg cs.toArray)) w):o.wp P a w K Q:=by
 refine wp_build t #[] ho (by simp [hz]) ?_
 simpa [hz] using h
/-! The same of the first operation of a list. -/
theorem wpl_box {P:Program} {ops:Array Oper} {rest:List Oper} {o:Oper} {a:Act} {w:World} {Q:Exit→Act→World→Prop} (hg:o.guard = none) (t:TypeId) (x:Operand) (ho:o.op = .box t x) (cs:List Value) (hx:a.eval x = .agg cs.toArray)
    (h:wpList P ops Q rest (a.put o.dst (.pointer (some ⟨w.heap.size,0,none⟩))) (w.alloc (.cells cs.toArray t))):wpList P ops Q (o :: rest) a w:=wpList_plain hg fun _ hK=>wpo_box t x ho cs hx (hK _ _ h)
theorem wpl_alloc {P:Program} {ops:Array Oper} {rest:List Oper} {o:Oper} {a:Act} {w:World} {Q:Exit→Act→World→Prop} (hg:o.guard = none) (t:TypeId) (ho:o.op = .alloc t) (cs:List Value) (hz:(P.info? t).bind (·.zero) = some (.agg cs.toArray))
    (h:wpList P ops Q rest (a.put o.dst (.pointer (some ⟨w.heap.size,0,none⟩))) (w.alloc (.cells cs.toArray t))):wpList P ops Q (o :: rest) a w:=wpList_plain hg fun _ hK=>wpo_alloc t ho cs hz (hK _ _ h)
theorem wpl_store_new {P:Program} {ops:Array Oper} {rest:List Oper} {o:Oper} {a:Act} {w:World} {Q:Exit→Act→World→Prop} (hg:o.guard = none) (ty:TypeId) (x y:Operand) (ho:o.op = .store ty x y) (b:Nat) (z:Array Value) (cs:List Value) (t:TypeId)
    (hx:a.eval x = .pointer (some ⟨b,0,none⟩)) (hy:a.eval y = .agg cs.toArray) (hb:b = w.heap.size) (hi:(P.info? ty).map (·.size) = some cs.length) (hz:z.size = cs.length) (h1:cs.all (·.oneCell') = true)
    (h:wpList P ops Q rest (a.put o.dst undef) (w.alloc (.cells cs.toArray t))):wpList P ops Q (o :: rest) a (w.alloc (.cells z t)):=wpList_plain hg fun _ hK=>wpo_store_new ty x y ho b z cs t hx hy hb hi hz h1 (hK _ _ h)
theorem wpl_zero {P:Program} {ops:Array Oper} {rest:List Oper} {o:Oper} {a:Act} {w:World} {Q:Exit→Act→World→Prop} (hg:o.guard = none) (t:TypeId) (ho:o.op = .build t #[]) (cs:List Value) (hz:P.built t [] = some cs.toArray)
    (h:wpList P ops Q rest (a.put o.dst (.agg cs.toArray)) w):wpList P ops Q (o :: rest) a w:=wpList_plain hg fun _ hK=>wpo_zero t ho cs hz (hK _ _ h)
theorem rg_new {w:World} {cs:List Value} {t:TypeId} {b:Nat} (hb:b = w.heap.size):(w.alloc (.cells cs.toArray t)).rangeAt b 0 cs:=by
 subst hb
 exact range_whole (heap_alloc_new w _)
theorem rg_alloc {w:World} {cs:List Value} {b o:Nat} {ob:Obj} (h:w.rangeAt b o cs):(w.alloc ob).rangeAt b o cs:=fun j v hv=>by
 have h1:=h j v hv
 rw [World.cell?_alloc_lt _ _ _ (World.block_lt_of_cell? w _ h1)]
 exact h1
theorem rg_below {w w':World} {cs:List Value} {b o:Nat} (h:w.rangeAt b o cs) (hb:Below w.heap.size w w'):w'.rangeAt b o cs:=fun j v hv=>by
 have h1:=h j v hv
 rw [← h1]
 simp only [World.cell?,hb.block b (World.block_lt_of_cell? w _ h1)]
theorem rg_sub {w:World} {b o:Nat} {pre mid post:List Value} (h:w.rangeAt b o (pre ++ mid ++ post)):w.rangeAt b (o + pre.length) mid:=fun j v hv=>by
 have:=h (pre.length + j) v (by rw [List.append_assoc,List.getElem?_append_right (by omega),Nat.add_sub_cancel_left,List.getElem?_append_left (List.getElem?_eq_some_iff.1 hv).1]; exact hv)
 rw [Nat.add_assoc]
 exact this
theorem cfg_sub (c:Cfg) (i:Nat) (hi:i < 3):∃ pre post,cfgL c = pre ++ thrL (c.t i) ++ post∧pre.length = 7 + i * 17:=by
 rcases i with _ | _ | _ | i
 ·exact ⟨[.bool c.s0,.bool c.s1,.bool c.s2,.bool c.s3,.int .i64 c.h0,.int .i64 c.h1,.int .i64 c.h2],thrL c.t1 ++ thrL c.t2,by unfold cfgL; simp [Cfg.t],rfl⟩
 ·exact ⟨[.bool c.s0,.bool c.s1,.bool c.s2,.bool c.s3,.int .i64 c.h0,.int .i64 c.h1,.int .i64 c.h2] ++ thrL c.t0,thrL c.t2,by unfold cfgL; simp [Cfg.t],rfl⟩
 ·exact ⟨[.bool c.s0,.bool c.s1,.bool c.s2,.bool c.s3,.int .i64 c.h0,.int .i64 c.h1,.int .i64 c.h2] ++ thrL c.t0 ++ thrL c.t1,[],by unfold cfgL; simp [Cfg.t],rfl⟩
 ·omega
theorem cfg_thr {w:World} {b o:Nat} {c:Cfg} (h:w.rangeAt b o (cfgL c)) (i:Nat) (hi:i < 3):w.rangeAt b (o + (7 + i * 17)) (thrL (c.t i)):=by
 obtain ⟨pre,post,h1,h2⟩:=cfg_sub c i hi
 rw [h1] at h
 rw [← h2]
 exact rg_sub h
theorem cfg_thr0 {w:World} {b:Nat} {c:Cfg} (h:w.rangeAt b 0 (cfgL c)) (i:Nat) (hi:i < 3):w.rangeAt b (7 + i * 17) (thrL (c.t i)):=by
 have:=cfg_thr h i hi
 rwa [Nat.zero_add] at this
theorem ret_agg {xs ys:List Value} (h:xs = ys):Ending.returned (.agg xs.toArray) = .returned (.agg ys.toArray):=by rw [h]
theorem setRow_heap {w:World} {g:Nat} {old cs:Array Value} {t:TypeId} (h:w.heap[g]? = some (.cells old t (0,0))):(w.setRow g cs).heap[g]? = some (.cells cs t (0,0)):=by
 unfold World.setRow
 simp only [Array.getElem?_modify]
 rw [if_pos trivial,h]
 rfl
theorem setRow_other {w:World} {g k:Nat} {cs:Array Value} (hk:k ≠ g):(w.setRow g cs).heap[k]? = w.heap[k]?:=by
 unfold World.setRow
 simp only [Array.getElem?_modify]
 rw [if_neg (fun e=>hk e.symm)]
theorem setRow_size {w:World} {g:Nat} {cs:Array Value}:(w.setRow g cs).heap.size = w.heap.size:=by
 unfold World.setRow
 simp
theorem setRow_below {n:Nat} {w0 w:World} {g:Nat} {cs:Array Value} (hb:Below n w0 w) (hg:n ≤ g):Below n w0 (w.setRow g cs) :=
 ⟨hb.os,hb.tape,hb.output,Nat.le_trans hb.size (Nat.le_of_eq setRow_size.symm),fun k hk=>(setRow_other (by omega)).trans (hb.block k hk)⟩
theorem wpo_store_box {P:Program} {o:Oper} {a:Act} {w:World} {K:Act→World→Prop} {Q:Exit→Act→World→Prop} (ty:TypeId) (x y:Operand) (ho:o.op = .store ty x y) (b:Nat) (old:Array Value) (cs:List Value) (t:TypeId)
    (hx:a.eval x = .pointer (some ⟨b,0,none⟩)) (hy:a.eval y = .agg cs.toArray) (hb:w.heap[b]? = some (.cells old t (0,0))) (hi:(P.info? ty).map (·.size) = some cs.length) (hz:old.size = cs.length) (h1:cs.all (·.oneCell') = true)
    (h:K (a.put o.dst undef) (w.setRow b cs.toArray)):o.wp P a w K Q :=
 wp_store_row ty x y ho b cs.toArray hx hy t old hb (by simpa using hi) (by simpa using hz) (by simpa using h1) h
theorem heap_new {w:World} {ob:Obj} {n:Nat} (h:n = w.heap.size):(w.alloc ob).heap[n]? = some ob:=by
 subst h
 exact heap_alloc_new _ _
theorem bigs2 (w:World) (x y:Obj):((w.alloc x).alloc y).heap[w.heap.size]? = some x∧((w.alloc x).alloc y).heap[w.heap.size + 1]? = some y∧Below w.heap.size w ((w.alloc x).alloc y)∧((w.alloc x).alloc y).heap.size = w.heap.size + 2 :=
 ⟨(Below.heap_alloc _ _ _ (by simp)).trans (heap_new rfl),heap_new (by simp),((Below.refl _ _).alloc (Nat.le_refl _) _).alloc (by simp) _,by simp⟩
theorem bigs3 (w:World) (x y z:Obj):(((w.alloc x).alloc y).alloc z).heap[w.heap.size]? = some x∧(((w.alloc x).alloc y).alloc z).heap[w.heap.size + 1]? = some y∧(((w.alloc x).alloc y).alloc z).heap[w.heap.size + 2]? = some z∧Below w.heap.size w (((w.alloc x).alloc y).alloc z)∧(((w.alloc x).alloc y).alloc z).heap.size = w.heap.size + 3 :=
 ⟨(Below.heap_alloc _ _ _ (by simp; omega)).trans (bigs2 w x y).1,(Below.heap_alloc _ _ _ (by simp)).trans (bigs2 w x y).2.1,heap_new (by simp),(bigs2 w x y).2.2.1.alloc (by simp; omega) _,by simp⟩
theorem yieldsIf_build {P:Program} {ops:Array Oper} {S:World→Prop} {op:Oper} {a:Act} (hw:Region.wanted op (yielded ops a.tmps) = true) (t:TypeId) (parts:Array (Nat × Operand)) (ho:op.op = .build t parts) (cs:List Value) (hb:P.built t (parts.map fun (i,x)=>(i,a.eval x)).toList = some cs.toArray):YieldsIf P ops S op (.agg cs.toArray) a :=
 .inl ⟨hw,fun w _=>by
  unfold execOp
  simp only [ho,Sem.run_bind,run_build w t _ _ hb,Result.andThen_ok,Sem.run_pure]⟩
theorem wpl_store_box {P:Program} {ops:Array Oper} {rest:List Oper} {o:Oper} {a:Act} {w:World} {Q:Exit→Act→World→Prop} (hg:o.guard = none) (ty:TypeId) (x y:Operand) (ho:o.op = .store ty x y) (b:Nat) (old:Array Value) (cs:List Value) (t:TypeId)
    (hx:a.eval x = .pointer (some ⟨b,0,none⟩)) (hy:a.eval y = .agg cs.toArray) (hb:w.heap[b]? = some (.cells old t (0,0))) (hi:(P.info? ty).map (·.size) = some cs.length) (hz:old.size = cs.length) (h1:cs.all (·.oneCell') = true)
    (h:wpList P ops Q rest (a.put o.dst undef) (w.setRow b cs.toArray)):wpList P ops Q (o :: rest) a w:=wpList_plain hg fun _ hK=>wpo_store_box ty x y ho b old cs t hx hy hb hi hz h1 (hK _ _ h)
theorem setAll_cfg (pre post:List Value) (c:Cfg) (t:Thr) (k:Nat) (hk:k < 3) (hp:pre.length = 6):setAll (pre ++ cfgL c ++ post).toArray (13 + k * 17) (thrL t) = (pre ++ cfgL (c.setT t k) ++ post).toArray:=by
 match pre,hp with
 | [a,b,d,e,f,g],_ =>
  rcases k with _ | _ | _ | k
  ·simp [setAll,thrL,frmL,cfgL,Cfg.setT]
  ·simp [setAll,thrL,frmL,cfgL,Cfg.setT]
  ·simp [setAll,thrL,frmL,cfgL,Cfg.setT]
  ·omega
theorem put_laws:(∀ (ts:List Value) (ds:List Deferred) (i:Nat) (v:Value),(Act.mk ts.toArray ds).put (some i) v = ⟨(ts.set i v).toArray,ds⟩)∧(∀ (a:Act) (v:Value),a.put none v = a)∧(∀ (a:Value) (l:List Value) (v:Value),(a :: l).set 0 v = v :: l)∧(∀ (a:Value) (l:List Value) (n:Nat) (v:Value),(a :: l).set (n + 1) v = a :: l.set n v)∧(∀ (l:List Oper) (i:Nat) (h:i < l.toArray.size),l.toArray[i] = l[i]'(by simpa using h))∧(∀ (a:Oper) (l:List Oper) (h:0 < (a :: l).length),(a :: l)[0] = a)∧(∀ (a:Oper) (l:List Oper) (n:Nat) (h:n + 1 < (a :: l).length),(a :: l)[n + 1] = l[n]'(by simpa using h)) :=
 ⟨fun _ _ _ _=>by simp [Act.put],fun _ _=>rfl,fun _ _ _=>rfl,fun _ _ _ _=>rfl,fun _ _ _=>rfl,fun _ _ _=>rfl,fun _ _ _ _=>rfl⟩
theorem Tryz.sizeProgram:(Tryz.prog.info? 123).map (·.size) = some 6:=by kernel_rfl
theorem Tryz.sizeConfig:(Tryz.prog.info? 140).map (·.size) = some 58:=by kernel_rfl
theorem Tryz.sizeLine:(Tryz.prog.info? 204).map (·.size) = some 16:=by kernel_rfl
theorem Tryz.sizeThr:(Tryz.prog.info? 137).map (·.size) = some 17:=by kernel_rfl
theorem Tryz.sizeWalker:(Tryz.prog.info? 259).map (·.size) = some 82:=by kernel_rfl
theorem Tryz.zeroConfig:(Tryz.prog.info? 140).bind (·.zero) = some (.agg (cfgL zCfg).toArray):=by kernel_rfl
theorem Tryz.zeroThread:(Tryz.prog.info? 137).bind (·.zero) = some (.agg (thrL zThr).toArray):=by kernel_rfl
def zLine:PLine:=⟨0,0,0,0,0,0,⟨0,0⟩,0,0,[],false,false,false,false,false⟩
theorem Tryz.zeroLine:(Tryz.prog.info? 204).bind (·.zero) = some (.agg (lnL zLine (.slice none 0 0)).toArray):=by kernel_rfl
theorem Tryz.buildConfig:Tryz.prog.built 140 [] = some (cfgL zCfg).toArray:=by kernel_rfl
theorem Tryz.buildThread:Tryz.prog.built 137 [] = some (thrL zThr).toArray:=by kernel_rfl
theorem one_cfg (c:Cfg):(cfgL c).all (·.oneCell') = true:=rfl
theorem one_thr (t:Thr):(thrL t).all (·.oneCell') = true:=rfl
theorem Tryz.buildWalker (x0 x1 x2 x3 x4 x5:Value) (c:Cfg) (t:Thr) (h:Int):Tryz.prog.built 259 [(0,.agg ([x0,x1,x2,x3,x4,x5]:List Value).toArray),(1,.agg (cfgL c).toArray),(2,.agg (thrL t).toArray),(3,.int .i64 h)] = some ([x0,x1,x2,x3,x4,x5] ++ cfgL c ++ thrL t ++ [Value.int .i64 h]).toArray:=by kernel_rfl
end Go.Proofs.YtmfcpbhdggonfaaGreatDoor
