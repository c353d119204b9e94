/- Contracts of the program's package play: a truth gets a value. -/
import Derived.Test.YtmfcpbhdggonfaaGreatDoorMjAT
namespace Go.Proofs.YtmfcpbhdggonfaaGreatDoor
open Go.RowKit RR
theorem WK.shared {B:Nat} {p:Plan} {v:PV} {k:Wlk} {w:World} (h:WK B p v k w):w.cell? ⟨B,6,none⟩ = some (.bool k.c.s0)∧w.cell? ⟨B,7,none⟩ = some (.bool k.c.s1)∧w.cell? ⟨B,8,none⟩ = some (.bool k.c.s2)∧w.cell? ⟨B,9,none⟩ = some (.bool k.c.s3)∧∀ i,w.frozen? ⟨B,i,none⟩ = false :=
 ⟨h.cfg.cell 0 (show 0 < 58 by decide),h.cfg.cell 1 (show 1 < 58 by decide),h.cfg.cell 2 (show 2 < 58 by decide),h.cfg.cell 3 (show 3 < 58 by decide),fun i=>TX.fz h i⟩
theorem WK.drew {B:Nat} {p:Plan} {v:PV} {k:Wlk} {w:World} (h:WK B p v k w):WK B p v k w.drew:=h
theorem giveF_neg {k:Wlk} {tg:Tru} {val:Bool} (h:tg.num < 0):giveF k tg val = k:=if_pos h
theorem giveF_all {k:Wlk} {i:Nat} {val:Bool} (h:i < 4):giveF k ⟨1,i⟩ val = { k with c:=k.c.setS val i }:=by
 unfold giveF
 rw [if_neg (show ¬ ((i:Int) < 0) by omega)]
 simp only
 rw [if_pos ⟨trivial,by omega⟩]
 cases frameF k.f 0 <;> rfl
theorem giveF_plain {k:Wlk} {own:Nat} {num:Int} {val:Bool} (h0:0 ≤ num) (h1:¬ (own = 1∧num < 4)) (h2:¬ (own = 2∧num < 3)):giveF k ⟨own,num⟩ val = k:=by
 unfold giveF
 rw [if_neg (show ¬ (num < 0) by omega)]
 simp only
 rw [if_neg h1]
 cases frameF k.f 0 with
 | none=>rfl
 | some f=>exact if_neg h2
theorem giveF_none {k:Wlk} {num:Int} {val:Bool} (h0:0 ≤ num) (hf:frameF k.f 0 = none):giveF k ⟨2,num⟩ val = k:=by
 unfold giveF
 rw [if_neg (show ¬ (num < 0) by omega)]
 simp only
 rw [if_neg (fun q=>absurd q.1 (by decide)),hf]
theorem giveF_frame {k:Wlk} {i:Nat} {val:Bool} {f:Frm} (h:i < 3) (hf:frameF k.f 0 = some f):giveF k ⟨2,i⟩ val = { k with f:=setLastF k.f (f.setP val i) }:=by
 unfold giveF
 rw [if_neg (show ¬ ((i:Int) < 0) by omega)]
 simp only
 rw [if_neg (fun q=>absurd q.1 (by decide)),hf]
 exact if_pos ⟨trivial,by omega⟩
set_option maxRecDepth 100000 in
set_option maxHeartbeats 8000000 in
theorem py_give_neg (B:Nat) (p:Plan) (v:PV) (k:Wlk) (own:Nat) (num:Int) (val:Bool) (w:World) (h:WK B p v k w) (hn:num < 0) :
    Calls Tryz.prog 214 #[.pointer (some ⟨B,0,none⟩),.agg #[.int .i64 own,.int .i64 num],.bool val] w fun e w'=>WkP B p v (giveF k ⟨own,num⟩ val) w e w':=by
 have hz:=h.lt
 have HT:=hide h
 obtain ⟨g0,g1,g2,g3,hfz⟩:=h.shared
 have fz0:=hfz 6
 have fz1:=hfz 7
 have fz2:=hfz 8
 have fz3:=hfz 9
 clear h hfz
 have HE:=hide (giveF_neg (k:=k) (tg:=⟨own,num⟩) (val:=val) hn)
 clear g0 g1 g2 g3 fz0 fz1 fz2 fz3
 go_enter Tryz.func214,Tryz.ntmps214
 go_wp2
 refine bodyPost_ret (v:=.tuple #[]) ?_ rfl ?_
 ·simp [results,Tryz.results214,go_sem]
 ·exact ⟨rfl,by rw [HE.out]; exact HT.out.alloc _,(Fr1.refl B w).alloc (Nat.le_of_lt hz) _⟩
set_option maxRecDepth 100000 in
set_option maxHeartbeats 8000000 in
theorem py_give_all0 (B:Nat) (p:Plan) (v:PV) (k:Wlk) (val:Bool) (w:World) (h:WK B p v k w) :
    Calls Tryz.prog 214 #[.pointer (some ⟨B,0,none⟩),.agg #[.int .i64 1,.int .i64 0],.bool val] w fun e w'=>WkP B p v (giveF k ⟨1,0⟩ val) w e w':=by
 have hz:=h.lt
 have HT:=hide h
 obtain ⟨g0,g1,g2,g3,hfz⟩:=h.shared
 have fz0:=hfz 6
 have fz1:=hfz 7
 have fz2:=hfz 8
 have fz3:=hfz 9
 clear h hfz
 have HE:Hid (giveF k ⟨1,0⟩ val = { k with c:=k.c.setS val 0 }):=giveF_all (k:=k) (i:=0) (val:=val) (by decide)
 have HS:Hid (WK B p v { k with c:=k.c.setS val 0 } (w.setCell ⟨B,6,none⟩ (.bool val))):=WK.of_cfg (HT.out.cfg.set 0 (.bool val) (show 0 < 58 by decide))
 have HX:Hid (((w.setCell ⟨B,6,none⟩ (.bool val)).alloc (.cells #[.int .i64 1,.int .i64 0] 193)).heap[w.heap.size]? = some (.cells #[.int .i64 1,.int .i64 0] 193 (0,0))):=by
  have q:=heap_alloc_new (w.setCell ⟨B,6,none⟩ (.bool val)) (.cells #[.int .i64 1,.int .i64 0] 193)
  simp only [World.size_setCell] at q
  exact q
 go_enter Tryz.func214,Tryz.ntmps214
 go_wp2_with fail
 go_region
 have hrg:=fun ob:Obj=>WK.rng (WK.drew (HS.out.alloc ob))
 go_upto_region 4 with fail
 refine wp_region_list ?_
 iterate 16 (first | (refine wp_load_mid _ _ rfl B 64 rfl (thrL k.f) _ (hrg _) Tryz.underlying137 rfl Tryz.sizeThread ?_; clear hrg) | (have hq:=hrg; clear hq; go_step) | skip)
 go_wp2_with fail
 refine (py_frame k.f 0 _).mono ?_
 rintro e w1 ⟨rfl,hb1⟩
 have hX:=(hb1.block w.heap.size (by simp)).trans HX.out
 have HT1:=hide ((WK.drew (HS.out.alloc _)).below hb1)
 have HF1:=hide (((((Fr1.refl B w).setCell 6 (.bool val)).alloc (by simp; omega) _).drew).trans (Fr1.of_below hb1 (by simp; omega)))
 have hz1:B < w1.heap.size:=HT1.out.lt
 have hzX:w.heap.size < w1.heap.size:=(Array.getElem?_eq_some_iff.1 hX).1
 have x0:w1.cell? ⟨w.heap.size,0,none⟩ = some (.int .i64 1):=by simp [World.cell?,hX]
 have x1:w1.cell? ⟨w.heap.size,1,none⟩ = some (.int .i64 0):=by simp [World.cell?,hX]
 clear g0 g1 g2 g3 fz0 fz1 fz2 fz3 hb1 hX
 cases hf:frameF k.f 0 with
 | none =>
  clear hf
  unfold frmV
  go_wp2
  go_end0
  exact ⟨rfl,by rw [HE.out]; exact HT1.out.alloc _,HF1.out.alloc (Nat.le_of_lt hz1) _⟩
 | some f =>
  clear hf
  unfold frmV
  go_wp2
  go_end0
  exact ⟨rfl,by rw [HE.out]; exact HT1.out.alloc _,HF1.out.alloc (Nat.le_of_lt hz1) _⟩
set_option maxRecDepth 100000 in
set_option maxHeartbeats 8000000 in
theorem py_give_all1 (B:Nat) (p:Plan) (v:PV) (k:Wlk) (val:Bool) (w:World) (h:WK B p v k w) :
    Calls Tryz.prog 214 #[.pointer (some ⟨B,0,none⟩),.agg #[.int .i64 1,.int .i64 1],.bool val] w fun e w'=>WkP B p v (giveF k ⟨1,1⟩ val) w e w':=by
 have hz:=h.lt
 have HT:=hide h
 obtain ⟨g0,g1,g2,g3,hfz⟩:=h.shared
 have fz0:=hfz 6
 have fz1:=hfz 7
 have fz2:=hfz 8
 have fz3:=hfz 9
 clear h hfz
 have HE:Hid (giveF k ⟨1,1⟩ val = { k with c:=k.c.setS val 1 }):=giveF_all (k:=k) (i:=1) (val:=val) (by decide)
 have HS:Hid (WK B p v { k with c:=k.c.setS val 1 } (w.setCell ⟨B,7,none⟩ (.bool val))):=WK.of_cfg (HT.out.cfg.set 1 (.bool val) (show 1 < 58 by decide))
 have HX:Hid (((w.setCell ⟨B,7,none⟩ (.bool val)).alloc (.cells #[.int .i64 1,.int .i64 1] 193)).heap[w.heap.size]? = some (.cells #[.int .i64 1,.int .i64 1] 193 (0,0))):=by
  have q:=heap_alloc_new (w.setCell ⟨B,7,none⟩ (.bool val)) (.cells #[.int .i64 1,.int .i64 1] 193)
  simp only [World.size_setCell] at q
  exact q
 go_enter Tryz.func214,Tryz.ntmps214
 go_wp2_with fail
 go_region
 have hrg:=fun ob:Obj=>WK.rng (WK.drew (HS.out.alloc ob))
 go_upto_region 4 with fail
 refine wp_region_list ?_
 iterate 16 (first | (refine wp_load_mid _ _ rfl B 64 rfl (thrL k.f) _ (hrg _) Tryz.underlying137 rfl Tryz.sizeThread ?_; clear hrg) | (have hq:=hrg; clear hq; go_step) | skip)
 go_wp2_with fail
 refine (py_frame k.f 0 _).mono ?_
 rintro e w1 ⟨rfl,hb1⟩
 have hX:=(hb1.block w.heap.size (by simp)).trans HX.out
 have HT1:=hide ((WK.drew (HS.out.alloc _)).below hb1)
 have HF1:=hide (((((Fr1.refl B w).setCell 7 (.bool val)).alloc (by simp; omega) _).drew).trans (Fr1.of_below hb1 (by simp; omega)))
 have hz1:B < w1.heap.size:=HT1.out.lt
 have hzX:w.heap.size < w1.heap.size:=(Array.getElem?_eq_some_iff.1 hX).1
 have x0:w1.cell? ⟨w.heap.size,0,none⟩ = some (.int .i64 1):=by simp [World.cell?,hX]
 have x1:w1.cell? ⟨w.heap.size,1,none⟩ = some (.int .i64 1):=by simp [World.cell?,hX]
 clear g0 g1 g2 g3 fz0 fz1 fz2 fz3 hb1 hX
 cases hf:frameF k.f 0 with
 | none =>
  clear hf
  unfold frmV
  go_wp2
  go_end0
  exact ⟨rfl,by rw [HE.out]; exact HT1.out.alloc _,HF1.out.alloc (Nat.le_of_lt hz1) _⟩
 | some f =>
  clear hf
  unfold frmV
  go_wp2
  go_end0
  exact ⟨rfl,by rw [HE.out]; exact HT1.out.alloc _,HF1.out.alloc (Nat.le_of_lt hz1) _⟩
set_option maxRecDepth 100000 in
set_option maxHeartbeats 8000000 in
theorem py_give_all2 (B:Nat) (p:Plan) (v:PV) (k:Wlk) (val:Bool) (w:World) (h:WK B p v k w) :
    Calls Tryz.prog 214 #[.pointer (some ⟨B,0,none⟩),.agg #[.int .i64 1,.int .i64 2],.bool val] w fun e w'=>WkP B p v (giveF k ⟨1,2⟩ val) w e w':=by
 have hz:=h.lt
 have HT:=hide h
 obtain ⟨g0,g1,g2,g3,hfz⟩:=h.shared
 have fz0:=hfz 6
 have fz1:=hfz 7
 have fz2:=hfz 8
 have fz3:=hfz 9
 clear h hfz
 have HE:Hid (giveF k ⟨1,2⟩ val = { k with c:=k.c.setS val 2 }):=giveF_all (k:=k) (i:=2) (val:=val) (by decide)
 have HS:Hid (WK B p v { k with c:=k.c.setS val 2 } (w.setCell ⟨B,8,none⟩ (.bool val))):=WK.of_cfg (HT.out.cfg.set 2 (.bool val) (show 2 < 58 by decide))
 have HX:Hid (((w.setCell ⟨B,8,none⟩ (.bool val)).alloc (.cells #[.int .i64 1,.int .i64 2] 193)).heap[w.heap.size]? = some (.cells #[.int .i64 1,.int .i64 2] 193 (0,0))):=by
  have q:=heap_alloc_new (w.setCell ⟨B,8,none⟩ (.bool val)) (.cells #[.int .i64 1,.int .i64 2] 193)
  simp only [World.size_setCell] at q
  exact q
 go_enter Tryz.func214,Tryz.ntmps214
 go_wp2_with fail
 go_region
 have hrg:=fun ob:Obj=>WK.rng (WK.drew (HS.out.alloc ob))
 go_upto_region 4 with fail
 refine wp_region_list ?_
 iterate 16 (first | (refine wp_load_mid _ _ rfl B 64 rfl (thrL k.f) _ (hrg _) Tryz.underlying137 rfl Tryz.sizeThread ?_; clear hrg) | (have hq:=hrg; clear hq; go_step) | skip)
 go_wp2_with fail
 refine (py_frame k.f 0 _).mono ?_
 rintro e w1 ⟨rfl,hb1⟩
 have hX:=(hb1.block w.heap.size (by simp)).trans HX.out
 have HT1:=hide ((WK.drew (HS.out.alloc _)).below hb1)
 have HF1:=hide (((((Fr1.refl B w).setCell 8 (.bool val)).alloc (by simp; omega) _).drew).trans (Fr1.of_below hb1 (by simp; omega)))
 have hz1:B < w1.heap.size:=HT1.out.lt
 have hzX:w.heap.size < w1.heap.size:=(Array.getElem?_eq_some_iff.1 hX).1
 have x0:w1.cell? ⟨w.heap.size,0,none⟩ = some (.int .i64 1):=by simp [World.cell?,hX]
 have x1:w1.cell? ⟨w.heap.size,1,none⟩ = some (.int .i64 2):=by simp [World.cell?,hX]
 clear g0 g1 g2 g3 fz0 fz1 fz2 fz3 hb1 hX
 cases hf:frameF k.f 0 with
 | none =>
  clear hf
  unfold frmV
  go_wp2
  go_end0
  exact ⟨rfl,by rw [HE.out]; exact HT1.out.alloc _,HF1.out.alloc (Nat.le_of_lt hz1) _⟩
 | some f =>
  clear hf
  unfold frmV
  go_wp2
  go_end0
  exact ⟨rfl,by rw [HE.out]; exact HT1.out.alloc _,HF1.out.alloc (Nat.le_of_lt hz1) _⟩
set_option maxRecDepth 100000 in
set_option maxHeartbeats 8000000 in
theorem py_give_all3 (B:Nat) (p:Plan) (v:PV) (k:Wlk) (val:Bool) (w:World) (h:WK B p v k w) :
    Calls Tryz.prog 214 #[.pointer (some ⟨B,0,none⟩),.agg #[.int .i64 1,.int .i64 3],.bool val] w fun e w'=>WkP B p v (giveF k ⟨1,3⟩ val) w e w':=by
 have hz:=h.lt
 have HT:=hide h
 obtain ⟨g0,g1,g2,g3,hfz⟩:=h.shared
 have fz0:=hfz 6
 have fz1:=hfz 7
 have fz2:=hfz 8
 have fz3:=hfz 9
 clear h hfz
 have HE:Hid (giveF k ⟨1,3⟩ val = { k with c:=k.c.setS val 3 }):=giveF_all (k:=k) (i:=3) (val:=val) (by decide)
 have HS:Hid (WK B p v { k with c:=k.c.setS val 3 } (w.setCell ⟨B,9,none⟩ (.bool val))):=WK.of_cfg (HT.out.cfg.set 3 (.bool val) (show 3 < 58 by decide))
 have HX:Hid (((w.setCell ⟨B,9,none⟩ (.bool val)).alloc (.cells #[.int .i64 1,.int .i64 3] 193)).heap[w.heap.size]? = some (.cells #[.int .i64 1,.int .i64 3] 193 (0,0))):=by
  have q:=heap_alloc_new (w.setCell ⟨B,9,none⟩ (.bool val)) (.cells #[.int .i64 1,.int .i64 3] 193)
  simp only [World.size_setCell] at q
  exact q
 go_enter Tryz.func214,Tryz.ntmps214
 go_wp2_with fail
 go_region
 have hrg:=fun ob:Obj=>WK.rng (WK.drew (HS.out.alloc ob))
 go_upto_region 4 with fail
 refine wp_region_list ?_
 iterate 16 (first | (refine wp_load_mid _ _ rfl B 64 rfl (thrL k.f) _ (hrg _) Tryz.underlying137 rfl Tryz.sizeThread ?_; clear hrg) | (have hq:=hrg; clear hq; go_step) | skip)
 go_wp2_with fail
 refine (py_frame k.f 0 _).mono ?_
 rintro e w1 ⟨rfl,hb1⟩
 have hX:=(hb1.block w.heap.size (by simp)).trans HX.out
 have HT1:=hide ((WK.drew (HS.out.alloc _)).below hb1)
 have HF1:=hide (((((Fr1.refl B w).setCell 9 (.bool val)).alloc (by simp; omega) _).drew).trans (Fr1.of_below hb1 (by simp; omega)))
 have hz1:B < w1.heap.size:=HT1.out.lt
 have hzX:w.heap.size < w1.heap.size:=(Array.getElem?_eq_some_iff.1 hX).1
 have x0:w1.cell? ⟨w.heap.size,0,none⟩ = some (.int .i64 1):=by simp [World.cell?,hX]
 have x1:w1.cell? ⟨w.heap.size,1,none⟩ = some (.int .i64 3):=by simp [World.cell?,hX]
 clear g0 g1 g2 g3 fz0 fz1 fz2 fz3 hb1 hX
 cases hf:frameF k.f 0 with
 | none =>
  clear hf
  unfold frmV
  go_wp2
  go_end0
  exact ⟨rfl,by rw [HE.out]; exact HT1.out.alloc _,HF1.out.alloc (Nat.le_of_lt hz1) _⟩
 | some f =>
  clear hf
  unfold frmV
  go_wp2
  go_end0
  exact ⟨rfl,by rw [HE.out]; exact HT1.out.alloc _,HF1.out.alloc (Nat.le_of_lt hz1) _⟩
set_option maxRecDepth 100000 in
set_option maxHeartbeats 8000000 in
theorem py_give_allout (B:Nat) (p:Plan) (v:PV) (k:Wlk) (num:Int) (val:Bool) (w:World) (h:WK B p v k w) (hn0:0 ≤ num) (h5:4 ≤ num) :
    Calls Tryz.prog 214 #[.pointer (some ⟨B,0,none⟩),.agg #[.int .i64 1,.int .i64 num],.bool val] w fun e w'=>WkP B p v (giveF k ⟨1,num⟩ val) w e w':=by
 have hz:=h.lt
 have HT:=hide h
 obtain ⟨g0,g1,g2,g3,hfz⟩:=h.shared
 have fz0:=hfz 6
 have fz1:=hfz 7
 have fz2:=hfz 8
 have fz3:=hfz 9
 clear h hfz
 have HE:=hide (giveF_plain (k:=k) (own:=1) (num:=num) (val:=val) hn0 (fun q=>absurd q.2 (by omega)) (fun q=>absurd q.1 (by decide:¬ (1:Nat) = 2)))
 go_enter Tryz.func214,Tryz.ntmps214
 have hrg:=fun ob:Obj=>WK.rng (HT.out.alloc ob)
 go_upto_region 4 with fail
 refine wp_region_list ?_
 iterate 16 (first | (refine wp_load_mid _ _ rfl B 64 rfl (thrL k.f) _ (hrg _) Tryz.underlying137 rfl Tryz.sizeThread ?_; clear hrg) | (have hq:=hrg; clear hq; go_step) | skip)
 go_wp2_with fail
 refine (py_frame k.f 0 _).mono ?_
 rintro e w1 ⟨rfl,hb1⟩
 have hX:=(hb1.block w.heap.size (by simp)).trans (heap_alloc_new w _)
 have HT1:=hide ((HT.out.alloc _).below hb1)
 have HF1:=hide (((Fr1.refl B w).alloc (Nat.le_of_lt hz) _).trans (Fr1.of_below hb1 (by simp; omega)))
 have hz1:B < w1.heap.size:=HT1.out.lt
 have hzX:w.heap.size < w1.heap.size:=(Array.getElem?_eq_some_iff.1 hX).1
 have x0:w1.cell? ⟨w.heap.size,0,none⟩ = some (.int .i64 1):=by simp [World.cell?,hX]
 have x1:w1.cell? ⟨w.heap.size,1,none⟩ = some (.int .i64 num):=by simp [World.cell?,hX]
 clear g0 g1 g2 g3 fz0 fz1 fz2 fz3 hb1 hX
 cases hf:frameF k.f 0 with
 | none =>
  clear hf
  unfold frmV
  go_wp2
  go_end0
  exact ⟨rfl,by rw [HE.out]; exact HT1.out.alloc _,HF1.out.alloc (Nat.le_of_lt hz1) _⟩
 | some f =>
  clear hf
  unfold frmV
  go_wp2
  go_end0
  exact ⟨rfl,by rw [HE.out]; exact HT1.out.alloc _,HF1.out.alloc (Nat.le_of_lt hz1) _⟩
set_option maxRecDepth 100000 in
set_option maxHeartbeats 8000000 in
theorem py_give_frameout (B:Nat) (p:Plan) (v:PV) (k:Wlk) (num:Int) (val:Bool) (w:World) (h:WK B p v k w) (hn0:0 ≤ num) (h5:3 ≤ num) :
    Calls Tryz.prog 214 #[.pointer (some ⟨B,0,none⟩),.agg #[.int .i64 2,.int .i64 num],.bool val] w fun e w'=>WkP B p v (giveF k ⟨2,num⟩ val) w e w':=by
 have hz:=h.lt
 have HT:=hide h
 obtain ⟨g0,g1,g2,g3,hfz⟩:=h.shared
 have fz0:=hfz 6
 have fz1:=hfz 7
 have fz2:=hfz 8
 have fz3:=hfz 9
 clear h hfz
 have HE:=hide (giveF_plain (k:=k) (own:=2) (num:=num) (val:=val) hn0 (fun q=>absurd q.1 (by decide:¬ (2:Nat) = 1)) (fun q=>absurd q.2 (by omega)))
 go_enter Tryz.func214,Tryz.ntmps214
 have hrg:=fun ob:Obj=>WK.rng (HT.out.alloc ob)
 go_upto_region 4 with fail
 refine wp_region_list ?_
 iterate 16 (first | (refine wp_load_mid _ _ rfl B 64 rfl (thrL k.f) _ (hrg _) Tryz.underlying137 rfl Tryz.sizeThread ?_; clear hrg) | (have hq:=hrg; clear hq; go_step) | skip)
 go_wp2_with fail
 refine (py_frame k.f 0 _).mono ?_
 rintro e w1 ⟨rfl,hb1⟩
 have hX:=(hb1.block w.heap.size (by simp)).trans (heap_alloc_new w _)
 have HT1:=hide ((HT.out.alloc _).below hb1)
 have HF1:=hide (((Fr1.refl B w).alloc (Nat.le_of_lt hz) _).trans (Fr1.of_below hb1 (by simp; omega)))
 have hz1:B < w1.heap.size:=HT1.out.lt
 have hzX:w.heap.size < w1.heap.size:=(Array.getElem?_eq_some_iff.1 hX).1
 have x0:w1.cell? ⟨w.heap.size,0,none⟩ = some (.int .i64 2):=by simp [World.cell?,hX]
 have x1:w1.cell? ⟨w.heap.size,1,none⟩ = some (.int .i64 num):=by simp [World.cell?,hX]
 clear g0 g1 g2 g3 fz0 fz1 fz2 fz3 hb1 hX
 cases hf:frameF k.f 0 with
 | none =>
  clear hf
  unfold frmV
  go_wp2
  go_end0
  exact ⟨rfl,by rw [HE.out]; exact HT1.out.alloc _,HF1.out.alloc (Nat.le_of_lt hz1) _⟩
 | some f =>
  clear hf
  unfold frmV
  go_wp2
  go_end0
  exact ⟨rfl,by rw [HE.out]; exact HT1.out.alloc _,HF1.out.alloc (Nat.le_of_lt hz1) _⟩
set_option maxRecDepth 100000 in
set_option maxHeartbeats 8000000 in
theorem py_give_other (B:Nat) (p:Plan) (v:PV) (k:Wlk) (own:Nat) (num:Int) (val:Bool) (w:World) (h:WK B p v k w) (hn0:0 ≤ num) (o1:¬ own = 1) (o2:¬ own = 2) :
    Calls Tryz.prog 214 #[.pointer (some ⟨B,0,none⟩),.agg #[.int .i64 own,.int .i64 num],.bool val] w fun e w'=>WkP B p v (giveF k ⟨own,num⟩ val) w e w':=by
 have hz:=h.lt
 have HT:=hide h
 obtain ⟨g0,g1,g2,g3,hfz⟩:=h.shared
 have fz0:=hfz 6
 have fz1:=hfz 7
 have fz2:=hfz 8
 have fz3:=hfz 9
 clear h hfz
 have HE:=hide (giveF_plain (k:=k) (own:=own) (num:=num) (val:=val) hn0 (fun q=>o1 q.1) (fun q=>o2 q.1))
 have p1:((own:Int) == 1) = false:=beq_eq_false_iff_ne.2 (by omega)
 have p2:((own:Int) == 2) = false:=beq_eq_false_iff_ne.2 (by omega)
 clear o1 o2
 go_enter Tryz.func214,Tryz.ntmps214
 have hrg:=fun ob:Obj=>WK.rng (HT.out.alloc ob)
 go_upto_region 4 with fail
 refine wp_region_list ?_
 iterate 16 (first | (refine wp_load_mid _ _ rfl B 64 rfl (thrL k.f) _ (hrg _) Tryz.underlying137 rfl Tryz.sizeThread ?_; clear hrg) | (have hq:=hrg; clear hq; go_step) | skip)
 go_wp2_with fail
 refine (py_frame k.f 0 _).mono ?_
 rintro e w1 ⟨rfl,hb1⟩
 have hX:=(hb1.block w.heap.size (by simp)).trans (heap_alloc_new w _)
 have HT1:=hide ((HT.out.alloc _).below hb1)
 have HF1:=hide (((Fr1.refl B w).alloc (Nat.le_of_lt hz) _).trans (Fr1.of_below hb1 (by simp; omega)))
 have hz1:B < w1.heap.size:=HT1.out.lt
 have hzX:w.heap.size < w1.heap.size:=(Array.getElem?_eq_some_iff.1 hX).1
 have x0:w1.cell? ⟨w.heap.size,0,none⟩ = some (.int .i64 own):=by simp [World.cell?,hX]
 have x1:w1.cell? ⟨w.heap.size,1,none⟩ = some (.int .i64 num):=by simp [World.cell?,hX]
 clear g0 g1 g2 g3 fz0 fz1 fz2 fz3 hb1 hX
 cases hf:frameF k.f 0 with
 | none =>
  clear hf
  unfold frmV
  go_wp2
  go_end0
  exact ⟨rfl,by rw [HE.out]; exact HT1.out.alloc _,HF1.out.alloc (Nat.le_of_lt hz1) _⟩
 | some f =>
  clear hf
  unfold frmV
  go_wp2
  go_end0
  exact ⟨rfl,by rw [HE.out]; exact HT1.out.alloc _,HF1.out.alloc (Nat.le_of_lt hz1) _⟩
set_option maxRecDepth 100000 in
set_option maxHeartbeats 8000000 in
theorem py_give_frame0 (B:Nat) (p:Plan) (v:PV) (k:Wlk) (val:Bool) (w:World) (h:WK B p v k w) :
    Calls Tryz.prog 214 #[.pointer (some ⟨B,0,none⟩),.agg #[.int .i64 2,.int .i64 0],.bool val] w fun e w'=>WkP B p v (giveF k ⟨2,0⟩ val) w e w':=by
 have hz:=h.lt
 have HT:=hide h
 obtain ⟨g0,g1,g2,g3,hfz⟩:=h.shared
 have fz0:=hfz 6
 have fz1:=hfz 7
 have fz2:=hfz 8
 have fz3:=hfz 9
 clear h hfz
 go_enter Tryz.func214,Tryz.ntmps214
 have hrg:=fun ob:Obj=>WK.rng (HT.out.alloc ob)
 go_upto_region 4 with fail
 refine wp_region_list ?_
 iterate 16 (first | (refine wp_load_mid _ _ rfl B 64 rfl (thrL k.f) _ (hrg _) Tryz.underlying137 rfl Tryz.sizeThread ?_; clear hrg) | (have hq:=hrg; clear hq; go_step) | skip)
 go_wp2_with fail
 refine (py_frame k.f 0 _).mono ?_
 rintro e w1 ⟨rfl,hb1⟩
 have hX:=(hb1.block w.heap.size (by simp)).trans (heap_alloc_new w _)
 have HT1:=hide ((HT.out.alloc _).below hb1)
 have HF1:=hide (((Fr1.refl B w).alloc (Nat.le_of_lt hz) _).trans (Fr1.of_below hb1 (by simp; omega)))
 have hz1:B < w1.heap.size:=HT1.out.lt
 have hzX:w.heap.size < w1.heap.size:=(Array.getElem?_eq_some_iff.1 hX).1
 have x0:w1.cell? ⟨w.heap.size,0,none⟩ = some (.int .i64 2):=by simp [World.cell?,hX]
 have x1:w1.cell? ⟨w.heap.size,1,none⟩ = some (.int .i64 0):=by simp [World.cell?,hX]
 clear g0 g1 g2 g3 fz0 fz1 fz2 fz3 hb1 hX
 cases hf:frameF k.f 0 with
 | none =>
  have HE:=hide (giveF_none (k:=k) (num:=0) (val:=val) (by decide) hf)
  clear hf
  unfold frmV
  go_wp2
  go_end0
  exact ⟨rfl,by rw [HE.out]; exact HT1.out.alloc _,HF1.out.alloc (Nat.le_of_lt hz1) _⟩
 | some f =>
  have HE:Hid (giveF k ⟨2,0⟩ val = { k with f:=setLastF k.f (f.setP val 0) }):=giveF_frame (k:=k) (i:=0) (val:=val) (f:=f) (by decide) hf
  have HT2:=hide (HT1.out.alloc (.cells #[.int .i64 f.line,.bool val,.bool f.p1,.bool f.p2] 134))
  have HF2:=hide (HF1.out.alloc (Nat.le_of_lt hz1) (.cells #[.int .i64 f.line,.bool val,.bool f.p1,.bool f.p2] 134))
  have hne:w1.heap.size ≠ B:=by omega
  clear hf
  unfold frmV
  go_wp2_with fail
  go_region_held (fun w'=>w'.cell? ⟨w1.heap.size,0,none⟩ = some (.int .i64 f.line)∧w'.cell? ⟨w1.heap.size,1,none⟩ = some (.bool val)∧w'.cell? ⟨w1.heap.size,2,none⟩ = some (.bool f.p1)∧w'.cell? ⟨w1.heap.size,3,none⟩ = some (.bool f.p2)) (first | exact ⟨by simp,by simp,by simp,by simp⟩ | exact keepF (by assumption) ⟨by simp,by simp,by simp,by simp⟩ (by simp) hne) (first | (go_at_call 216; refine (py_setLast B 64 (plL p v ++ cfgL k.c) [.int .i64 k.holder] 259 k.f (f.setP val 0) _ (WK.len p v k.c).symm ?_).mono ?_; exact HT2.out; rintro e w3 ⟨rfl,hT3,hF3⟩))
  have HF3:=hide (HF2.out.drew.trans hF3)
  have HT3:=hide hT3
  clear hT3 hF3
  go_wp2_with fail
  go_end0
  exact ⟨rfl,by rw [HE.out]; exact HT3.out,HF3.out⟩
set_option maxRecDepth 100000 in
set_option maxHeartbeats 8000000 in
theorem py_give_frame1 (B:Nat) (p:Plan) (v:PV) (k:Wlk) (val:Bool) (w:World) (h:WK B p v k w) :
    Calls Tryz.prog 214 #[.pointer (some ⟨B,0,none⟩),.agg #[.int .i64 2,.int .i64 1],.bool val] w fun e w'=>WkP B p v (giveF k ⟨2,1⟩ val) w e w':=by
 have hz:=h.lt
 have HT:=hide h
 obtain ⟨g0,g1,g2,g3,hfz⟩:=h.shared
 have fz0:=hfz 6
 have fz1:=hfz 7
 have fz2:=hfz 8
 have fz3:=hfz 9
 clear h hfz
 go_enter Tryz.func214,Tryz.ntmps214
 have hrg:=fun ob:Obj=>WK.rng (HT.out.alloc ob)
 go_upto_region 4 with fail
 refine wp_region_list ?_
 iterate 16 (first | (refine wp_load_mid _ _ rfl B 64 rfl (thrL k.f) _ (hrg _) Tryz.underlying137 rfl Tryz.sizeThread ?_; clear hrg) | (have hq:=hrg; clear hq; go_step) | skip)
 go_wp2_with fail
 refine (py_frame k.f 0 _).mono ?_
 rintro e w1 ⟨rfl,hb1⟩
 have hX:=(hb1.block w.heap.size (by simp)).trans (heap_alloc_new w _)
 have HT1:=hide ((HT.out.alloc _).below hb1)
 have HF1:=hide (((Fr1.refl B w).alloc (Nat.le_of_lt hz) _).trans (Fr1.of_below hb1 (by simp; omega)))
 have hz1:B < w1.heap.size:=HT1.out.lt
 have hzX:w.heap.size < w1.heap.size:=(Array.getElem?_eq_some_iff.1 hX).1
 have x0:w1.cell? ⟨w.heap.size,0,none⟩ = some (.int .i64 2):=by simp [World.cell?,hX]
 have x1:w1.cell? ⟨w.heap.size,1,none⟩ = some (.int .i64 1):=by simp [World.cell?,hX]
 clear g0 g1 g2 g3 fz0 fz1 fz2 fz3 hb1 hX
 cases hf:frameF k.f 0 with
 | none =>
  have HE:=hide (giveF_none (k:=k) (num:=1) (val:=val) (by decide) hf)
  clear hf
  unfold frmV
  go_wp2
  go_end0
  exact ⟨rfl,by rw [HE.out]; exact HT1.out.alloc _,HF1.out.alloc (Nat.le_of_lt hz1) _⟩
 | some f =>
  have HE:Hid (giveF k ⟨2,1⟩ val = { k with f:=setLastF k.f (f.setP val 1) }):=giveF_frame (k:=k) (i:=1) (val:=val) (f:=f) (by decide) hf
  have HT2:=hide (HT1.out.alloc (.cells #[.int .i64 f.line,.bool f.p0,.bool val,.bool f.p2] 134))
  have HF2:=hide (HF1.out.alloc (Nat.le_of_lt hz1) (.cells #[.int .i64 f.line,.bool f.p0,.bool val,.bool f.p2] 134))
  have hne:w1.heap.size ≠ B:=by omega
  clear hf
  unfold frmV
  go_wp2_with fail
  go_region_held (fun w'=>w'.cell? ⟨w1.heap.size,0,none⟩ = some (.int .i64 f.line)∧w'.cell? ⟨w1.heap.size,1,none⟩ = some (.bool f.p0)∧w'.cell? ⟨w1.heap.size,2,none⟩ = some (.bool val)∧w'.cell? ⟨w1.heap.size,3,none⟩ = some (.bool f.p2)) (first | exact ⟨by simp,by simp,by simp,by simp⟩ | exact keepF (by assumption) ⟨by simp,by simp,by simp,by simp⟩ (by simp) hne) (first | (go_at_call 216; refine (py_setLast B 64 (plL p v ++ cfgL k.c) [.int .i64 k.holder] 259 k.f (f.setP val 1) _ (WK.len p v k.c).symm ?_).mono ?_; exact HT2.out; rintro e w3 ⟨rfl,hT3,hF3⟩))
  have HF3:=hide (HF2.out.drew.trans hF3)
  have HT3:=hide hT3
  clear hT3 hF3
  go_wp2_with fail
  go_end0
  exact ⟨rfl,by rw [HE.out]; exact HT3.out,HF3.out⟩
set_option maxRecDepth 100000 in
set_option maxHeartbeats 8000000 in
theorem py_give_frame2 (B:Nat) (p:Plan) (v:PV) (k:Wlk) (val:Bool) (w:World) (h:WK B p v k w) :
    Calls Tryz.prog 214 #[.pointer (some ⟨B,0,none⟩),.agg #[.int .i64 2,.int .i64 2],.bool val] w fun e w'=>WkP B p v (giveF k ⟨2,2⟩ val) w e w':=by
 have hz:=h.lt
 have HT:=hide h
 obtain ⟨g0,g1,g2,g3,hfz⟩:=h.shared
 have fz0:=hfz 6
 have fz1:=hfz 7
 have fz2:=hfz 8
 have fz3:=hfz 9
 clear h hfz
 go_enter Tryz.func214,Tryz.ntmps214
 have hrg:=fun ob:Obj=>WK.rng (HT.out.alloc ob)
 go_upto_region 4 with fail
 refine wp_region_list ?_
 iterate 16 (first | (refine wp_load_mid _ _ rfl B 64 rfl (thrL k.f) _ (hrg _) Tryz.underlying137 rfl Tryz.sizeThread ?_; clear hrg) | (have hq:=hrg; clear hq; go_step) | skip)
 go_wp2_with fail
 refine (py_frame k.f 0 _).mono ?_
 rintro e w1 ⟨rfl,hb1⟩
 have hX:=(hb1.block w.heap.size (by simp)).trans (heap_alloc_new w _)
 have HT1:=hide ((HT.out.alloc _).below hb1)
 have HF1:=hide (((Fr1.refl B w).alloc (Nat.le_of_lt hz) _).trans (Fr1.of_below hb1 (by simp; omega)))
 have hz1:B < w1.heap.size:=HT1.out.lt
 have hzX:w.heap.size < w1.heap.size:=(Array.getElem?_eq_some_iff.1 hX).1
 have x0:w1.cell? ⟨w.heap.size,0,none⟩ = some (.int .i64 2):=by simp [World.cell?,hX]
 have x1:w1.cell? ⟨w.heap.size,1,none⟩ = some (.int .i64 2):=by simp [World.cell?,hX]
 clear g0 g1 g2 g3 fz0 fz1 fz2 fz3 hb1 hX
 cases hf:frameF k.f 0 with
 | none =>
  have HE:=hide (giveF_none (k:=k) (num:=2) (val:=val) (by decide) hf)
  clear hf
  unfold frmV
  go_wp2
  go_end0
  exact ⟨rfl,by rw [HE.out]; exact HT1.out.alloc _,HF1.out.alloc (Nat.le_of_lt hz1) _⟩
 | some f =>
  have HE:Hid (giveF k ⟨2,2⟩ val = { k with f:=setLastF k.f (f.setP val 2) }):=giveF_frame (k:=k) (i:=2) (val:=val) (f:=f) (by decide) hf
  have HT2:=hide (HT1.out.alloc (.cells #[.int .i64 f.line,.bool f.p0,.bool f.p1,.bool val] 134))
  have HF2:=hide (HF1.out.alloc (Nat.le_of_lt hz1) (.cells #[.int .i64 f.line,.bool f.p0,.bool f.p1,.bool val] 134))
  have hne:w1.heap.size ≠ B:=by omega
  clear hf
  unfold frmV
  go_wp2_with fail
  go_region_held (fun w'=>w'.cell? ⟨w1.heap.size,0,none⟩ = some (.int .i64 f.line)∧w'.cell? ⟨w1.heap.size,1,none⟩ = some (.bool f.p0)∧w'.cell? ⟨w1.heap.size,2,none⟩ = some (.bool f.p1)∧w'.cell? ⟨w1.heap.size,3,none⟩ = some (.bool val)) (first | exact ⟨by simp,by simp,by simp,by simp⟩ | exact keepF (by assumption) ⟨by simp,by simp,by simp,by simp⟩ (by simp) hne) (first | (go_at_call 216; refine (py_setLast B 64 (plL p v ++ cfgL k.c) [.int .i64 k.holder] 259 k.f (f.setP val 2) _ (WK.len p v k.c).symm ?_).mono ?_; exact HT2.out; rintro e w3 ⟨rfl,hT3,hF3⟩))
  have HF3:=hide (HF2.out.drew.trans hF3)
  have HT3:=hide hT3
  clear hT3 hF3
  go_wp2_with fail
  go_end0
  exact ⟨rfl,by rw [HE.out]; exact HT3.out,HF3.out⟩
theorem py_give (B:Nat) (p:Plan) (v:PV) (k:Wlk) (tg:Tru) (val:Bool) (w:World) (h:WK B p v k w) :
    Calls Tryz.prog 214 #[.pointer (some ⟨B,0,none⟩),truV tg,.bool val] w fun e w'=>WkP B p v (giveF k tg val) w e w':=by
 obtain ⟨own,num⟩:=tg
 show Calls Tryz.prog 214 #[.pointer (some ⟨B,0,none⟩),.agg #[.int .i64 own,.int .i64 num],.bool val] w _
 by_cases hn:num < 0
 ·exact py_give_neg B p v k own num val w h hn
 by_cases o1:own = 1
 ·subst o1
  by_cases h4:num < 4
  ·have h4':num = 0 ∨ num = 1 ∨ num = 2 ∨ num = 3:=by omega
   rcases h4' with rfl | rfl | rfl | rfl
   ·exact py_give_all0 B p v k val w h
   ·exact py_give_all1 B p v k val w h
   ·exact py_give_all2 B p v k val w h
   ·exact py_give_all3 B p v k val w h
  ·exact py_give_allout B p v k num val w h (by omega) (by omega)
 by_cases o2:own = 2
 ·subst o2
  by_cases h3:num < 3
  ·have h3':num = 0 ∨ num = 1 ∨ num = 2:=by omega
   rcases h3' with rfl | rfl | rfl
   ·exact py_give_frame0 B p v k val w h
   ·exact py_give_frame1 B p v k val w h
   ·exact py_give_frame2 B p v k val w h
  ·exact py_give_frameout B p v k num val w h (by omega) (by omega)
 ·exact py_give_other B p v k own num val w h (by omega) o1 o2
end Go.Proofs.YtmfcpbhdggonfaaGreatDoor
