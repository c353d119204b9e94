/- Contracts of the program's package play: a step of a walker. -/
import Derived.Test.YtmfcpbhdggonfaaGreatDoorMjAW
import Derived.Test.YtmfcpbhdggonfaaGreatDoorMjAS
import Derived.Test.YtmfcpbhdggonfaaGreatDoorMjAR
namespace Go.Proofs.YtmfcpbhdggonfaaGreatDoor
open Go.RowKit RR
set_option maxRecDepth 100000 in
set_option maxHeartbeats 8000000 in
theorem py_walk_call (B:Nat) (p:Plan) (v:PV) (k:Wlk) (a:PLine) (sa:Option Addr) (sc:Nat) (vs:List Bool) (ao:Option Addr) (cap:Nat) (w0 w:World) (h:WK B p v k w) (hp:PIn w0 p v) (hv:Flat w0 ao (vs.flatMap boL)) (hB:w0.heap.size ≤ B) (hb:Below w0.heap.size w0 w) (hk:a.kind = 1) :
    Calls Tryz.prog 154 #[.pointer (some ⟨B,0,none⟩),.agg (lnL a (.slice sa a.vals.length sc)).toArray,.slice ao vs.length cap] w fun e w'=>WbP B p v (walkF p k a vs) w e w':=by
 have HE:Hid (walkF p k a vs = callF p k a vs):=by show _ = _; unfold walkF; rw [if_pos hk]
 have hz:=h.lt
 have HT:=hide h
 have HP:=hide hp
 have HB:=hide hb
 have HV:=hide hv
 have HTW:=hide (h.alloc (.cells (lnL a (.slice sa a.vals.length sc)).toArray 204))
 have HFW:=hide ((Fr1.refl B w).alloc (Nat.le_of_lt hz) (.cells (lnL a (.slice sa a.vals.length sc)).toArray 204))
 have HBW:=hide (HFW.out.below hB hb)
 have HVW:=hide (hv.below HBW.out)
 have hzW:w.heap.size < (w.alloc (.cells (lnL a (.slice sa a.vals.length sc)).toArray 204)).heap.size:=by simp
 have hL:(w.alloc (.cells (lnL a (.slice sa a.vals.length sc)).toArray 204)).heap[w.heap.size]? = some (.cells (lnL a (.slice sa a.vals.length sc)).toArray 204 (0,0)):=heap_alloc_new _ _
 clear h hp hb hv
 go_enter Tryz.func154,Tryz.ntmps154
 go_upto_region 1 with (first | (refine wpl_box rfl 204 _ rfl (lnL a (.slice sa a.vals.length sc)) rfl ?_))
 generalize w.alloc (.cells (lnL a (.slice sa a.vals.length sc)).toArray 204) = W at *
 have hLB:B < w.heap.size:=hz
 generalize w.heap.size = L at *
 have hr:W.rangeAt L 0 (lnL a (.slice sa a.vals.length sc)):=range_whole hL
 have l0:W.cell? ⟨L,0,none⟩ = some (.int .i64 1):=(cell_blk hL 0 rfl).trans (by rw [hk]; rfl)
 clear hL hk
 go_wp2_with (first | (go_at_call 191; refine (py_valueAt ao cap vs _ _ HVW.out).mono ?_; rintro e w5 ⟨rfl,rfl⟩) | (refine wpList_load_mid rfl 204 _ rfl _ _ rfl (lnL a (.slice sa a.vals.length sc)) _ (by (repeat (first | assumption | exact rg_new (by simp) | refine rg_alloc ?_))) Tryz.underlying204 rfl Tryz.sizeLine ?_))
 refine (py_call B p v k a _ vs ao cap w0 _ HTW.out HP.out HV.out hB HBW.out).mono ?_
 rintro e w1 ⟨rfl,hk1,hf1⟩
 have HK:=hide hk1
 have HF:=hide (HFW.out.trans hf1)
 clear hk1 hf1
 go_wp2_with fail
 go_ret
 exact ⟨by rw [HE.out]; rfl,fun k' hk=>by rw [HE.out] at hk; exact HK.out k' hk,HF.out⟩
set_option maxRecDepth 100000 in
set_option maxHeartbeats 8000000 in
theorem py_walk_back7 (B:Nat) (p:Plan) (v:PV) (k:Wlk) (a:PLine) (sa:Option Addr) (sc:Nat) (vs:List Bool) (ao:Option Addr) (cap:Nat) (w0 w:World) (h:WK B p v k w) (hp:PIn w0 p v) (hv:Flat w0 ao (vs.flatMap boL)) (hB:w0.heap.size ≤ B) (hb:Below w0.heap.size w0 w) (hk:a.kind = 7) :
    Calls Tryz.prog 154 #[.pointer (some ⟨B,0,none⟩),.agg (lnL a (.slice sa a.vals.length sc)).toArray,.slice ao vs.length cap] w fun e w'=>WbP B p v (walkF p k a vs) w e w':=by
 have HE:Hid (walkF p k a vs = some (giveBackF p k (valAt vs 0))):=by show _ = _; unfold walkF; rw [if_neg (by omega),if_pos (by omega)]
 have hz:=h.lt
 have HT:=hide h
 have HP:=hide hp
 have HB:=hide hb
 have HV:=hide hv
 have HTW:=hide (h.alloc (.cells (lnL a (.slice sa a.vals.length sc)).toArray 204))
 have HFW:=hide ((Fr1.refl B w).alloc (Nat.le_of_lt hz) (.cells (lnL a (.slice sa a.vals.length sc)).toArray 204))
 have HBW:=hide (HFW.out.below hB hb)
 have HVW:=hide (hv.below HBW.out)
 have hzW:w.heap.size < (w.alloc (.cells (lnL a (.slice sa a.vals.length sc)).toArray 204)).heap.size:=by simp
 have hL:(w.alloc (.cells (lnL a (.slice sa a.vals.length sc)).toArray 204)).heap[w.heap.size]? = some (.cells (lnL a (.slice sa a.vals.length sc)).toArray 204 (0,0)):=heap_alloc_new _ _
 clear h hp hb hv
 go_enter Tryz.func154,Tryz.ntmps154
 go_upto_region 1 with (first | (refine wpl_box rfl 204 _ rfl (lnL a (.slice sa a.vals.length sc)) rfl ?_))
 generalize w.alloc (.cells (lnL a (.slice sa a.vals.length sc)).toArray 204) = W at *
 have hLB:B < w.heap.size:=hz
 generalize w.heap.size = L at *
 have hr:W.rangeAt L 0 (lnL a (.slice sa a.vals.length sc)):=range_whole hL
 have l0:W.cell? ⟨L,0,none⟩ = some (.int .i64 7):=(cell_blk hL 0 rfl).trans (by rw [hk]; rfl)
 clear hL hk
 go_wp2_with (first | (go_at_call 191; refine (py_valueAt ao cap vs _ _ HVW.out).mono ?_; rintro e w5 ⟨rfl,rfl⟩))
 refine (py_giveBack B p v k (valAt vs 0) w0 _ HTW.out HP.out hB HBW.out).mono ?_
 rintro e w1 ⟨rfl,hk1,hf1⟩
 have HK:=hide hk1
 have HF:=hide (HFW.out.trans hf1)
 clear hk1 hf1
 go_wp2_with fail
 go_ret
 exact ⟨by rw [HE.out]; rfl,fun k' hk=>by rw [HE.out] at hk; cases hk; exact HK.out,HF.out⟩
set_option maxRecDepth 100000 in
set_option maxHeartbeats 8000000 in
theorem py_walk_back9 (B:Nat) (p:Plan) (v:PV) (k:Wlk) (a:PLine) (sa:Option Addr) (sc:Nat) (vs:List Bool) (ao:Option Addr) (cap:Nat) (w0 w:World) (h:WK B p v k w) (hp:PIn w0 p v) (hv:Flat w0 ao (vs.flatMap boL)) (hB:w0.heap.size ≤ B) (hb:Below w0.heap.size w0 w) (hk:a.kind = 9) :
    Calls Tryz.prog 154 #[.pointer (some ⟨B,0,none⟩),.agg (lnL a (.slice sa a.vals.length sc)).toArray,.slice ao vs.length cap] w fun e w'=>WbP B p v (walkF p k a vs) w e w':=by
 have HE:Hid (walkF p k a vs = some (giveBackF p k (valAt vs 0))):=by show _ = _; unfold walkF; rw [if_neg (by omega),if_pos (by omega)]
 have hz:=h.lt
 have HT:=hide h
 have HP:=hide hp
 have HB:=hide hb
 have HV:=hide hv
 have HTW:=hide (h.alloc (.cells (lnL a (.slice sa a.vals.length sc)).toArray 204))
 have HFW:=hide ((Fr1.refl B w).alloc (Nat.le_of_lt hz) (.cells (lnL a (.slice sa a.vals.length sc)).toArray 204))
 have HBW:=hide (HFW.out.below hB hb)
 have HVW:=hide (hv.below HBW.out)
 have hzW:w.heap.size < (w.alloc (.cells (lnL a (.slice sa a.vals.length sc)).toArray 204)).heap.size:=by simp
 have hL:(w.alloc (.cells (lnL a (.slice sa a.vals.length sc)).toArray 204)).heap[w.heap.size]? = some (.cells (lnL a (.slice sa a.vals.length sc)).toArray 204 (0,0)):=heap_alloc_new _ _
 clear h hp hb hv
 go_enter Tryz.func154,Tryz.ntmps154
 go_upto_region 1 with (first | (refine wpl_box rfl 204 _ rfl (lnL a (.slice sa a.vals.length sc)) rfl ?_))
 generalize w.alloc (.cells (lnL a (.slice sa a.vals.length sc)).toArray 204) = W at *
 have hLB:B < w.heap.size:=hz
 generalize w.heap.size = L at *
 have hr:W.rangeAt L 0 (lnL a (.slice sa a.vals.length sc)):=range_whole hL
 have l0:W.cell? ⟨L,0,none⟩ = some (.int .i64 9):=(cell_blk hL 0 rfl).trans (by rw [hk]; rfl)
 clear hL hk
 go_wp2_with (first | (go_at_call 191; refine (py_valueAt ao cap vs _ _ HVW.out).mono ?_; rintro e w5 ⟨rfl,rfl⟩))
 refine (py_giveBack B p v k (valAt vs 0) w0 _ HTW.out HP.out hB HBW.out).mono ?_
 rintro e w1 ⟨rfl,hk1,hf1⟩
 have HK:=hide hk1
 have HF:=hide (HFW.out.trans hf1)
 clear hk1 hf1
 go_wp2_with fail
 go_ret
 exact ⟨by rw [HE.out]; rfl,fun k' hk=>by rw [HE.out] at hk; cases hk; exact HK.out,HF.out⟩
set_option maxRecDepth 100000 in
set_option maxHeartbeats 8000000 in
theorem py_walk_branch2 (B:Nat) (p:Plan) (v:PV) (k:Wlk) (a:PLine) (sa:Option Addr) (sc:Nat) (vs:List Bool) (ao:Option Addr) (cap:Nat) (w0 w:World) (h:WK B p v k w) (hp:PIn w0 p v) (hv:Flat w0 ao (vs.flatMap boL)) (hB:w0.heap.size ≤ B) (hb:Below w0.heap.size w0 w) (hk:a.kind = 2) :
    Calls Tryz.prog 154 #[.pointer (some ⟨B,0,none⟩),.agg (lnL a (.slice sa a.vals.length sc)).toArray,.slice ao vs.length cap] w fun e w'=>WbP B p v (walkF p k a vs) w e w':=by
 have HE:Hid (walkF p k a vs = some (goToF k (if valAt vs 0 then a.thn else a.els))):=by show _ = _; unfold walkF; rw [if_neg (by omega),if_neg (by omega),if_pos (by omega)]
 have hz:=h.lt
 have HT:=hide h
 have HP:=hide hp
 have HB:=hide hb
 have HV:=hide hv
 have HTW:=hide (h.alloc (.cells (lnL a (.slice sa a.vals.length sc)).toArray 204))
 have HFW:=hide ((Fr1.refl B w).alloc (Nat.le_of_lt hz) (.cells (lnL a (.slice sa a.vals.length sc)).toArray 204))
 have HBW:=hide (HFW.out.below hB hb)
 have HVW:=hide (hv.below HBW.out)
 have hzW:w.heap.size < (w.alloc (.cells (lnL a (.slice sa a.vals.length sc)).toArray 204)).heap.size:=by simp
 have hL:(w.alloc (.cells (lnL a (.slice sa a.vals.length sc)).toArray 204)).heap[w.heap.size]? = some (.cells (lnL a (.slice sa a.vals.length sc)).toArray 204 (0,0)):=heap_alloc_new _ _
 clear h hp hb hv
 go_enter Tryz.func154,Tryz.ntmps154
 go_upto_region 1 with (first | (refine wpl_box rfl 204 _ rfl (lnL a (.slice sa a.vals.length sc)) rfl ?_))
 generalize w.alloc (.cells (lnL a (.slice sa a.vals.length sc)).toArray 204) = W at *
 have hLB:B < w.heap.size:=hz
 generalize w.heap.size = L at *
 have hr:W.rangeAt L 0 (lnL a (.slice sa a.vals.length sc)):=range_whole hL
 have l0:W.cell? ⟨L,0,none⟩ = some (.int .i64 2):=(cell_blk hL 0 rfl).trans (by rw [hk]; rfl)
 clear hL hk
 go_wp2_with (first | (go_at_call 191; refine (py_valueAt ao cap vs _ _ HVW.out).mono ?_; rintro e w5 ⟨rfl,rfl⟩) | (refine wpList_load_mid rfl 204 _ rfl _ _ rfl (lnL a (.slice sa a.vals.length sc)) _ (by (repeat (first | assumption | exact rg_new (by simp) | refine rg_alloc ?_))) Tryz.underlying204 rfl Tryz.sizeLine ?_))
 refine (py_branch B p v k a sa sc (valAt vs 0) _ HTW.out).mono ?_
 rintro e w1 ⟨rfl,hk1,hf1⟩
 have HK:=hide hk1
 have HF:=hide (HFW.out.trans hf1)
 clear hk1 hf1
 go_wp2_with fail
 go_ret
 exact ⟨by rw [HE.out]; rfl,fun k' hk=>by rw [HE.out] at hk; cases hk; exact HK.out,HF.out⟩
set_option maxRecDepth 100000 in
set_option maxHeartbeats 8000000 in
theorem py_walk_branch3 (B:Nat) (p:Plan) (v:PV) (k:Wlk) (a:PLine) (sa:Option Addr) (sc:Nat) (vs:List Bool) (ao:Option Addr) (cap:Nat) (w0 w:World) (h:WK B p v k w) (hp:PIn w0 p v) (hv:Flat w0 ao (vs.flatMap boL)) (hB:w0.heap.size ≤ B) (hb:Below w0.heap.size w0 w) (hk:a.kind = 3) :
    Calls Tryz.prog 154 #[.pointer (some ⟨B,0,none⟩),.agg (lnL a (.slice sa a.vals.length sc)).toArray,.slice ao vs.length cap] w fun e w'=>WbP B p v (walkF p k a vs) w e w':=by
 have HE:Hid (walkF p k a vs = some (goToF k (if valAt vs 0 then a.thn else a.els))):=by show _ = _; unfold walkF; rw [if_neg (by omega),if_neg (by omega),if_pos (by omega)]
 have hz:=h.lt
 have HT:=hide h
 have HP:=hide hp
 have HB:=hide hb
 have HV:=hide hv
 have HTW:=hide (h.alloc (.cells (lnL a (.slice sa a.vals.length sc)).toArray 204))
 have HFW:=hide ((Fr1.refl B w).alloc (Nat.le_of_lt hz) (.cells (lnL a (.slice sa a.vals.length sc)).toArray 204))
 have HBW:=hide (HFW.out.below hB hb)
 have HVW:=hide (hv.below HBW.out)
 have hzW:w.heap.size < (w.alloc (.cells (lnL a (.slice sa a.vals.length sc)).toArray 204)).heap.size:=by simp
 have hL:(w.alloc (.cells (lnL a (.slice sa a.vals.length sc)).toArray 204)).heap[w.heap.size]? = some (.cells (lnL a (.slice sa a.vals.length sc)).toArray 204 (0,0)):=heap_alloc_new _ _
 clear h hp hb hv
 go_enter Tryz.func154,Tryz.ntmps154
 go_upto_region 1 with (first | (refine wpl_box rfl 204 _ rfl (lnL a (.slice sa a.vals.length sc)) rfl ?_))
 generalize w.alloc (.cells (lnL a (.slice sa a.vals.length sc)).toArray 204) = W at *
 have hLB:B < w.heap.size:=hz
 generalize w.heap.size = L at *
 have hr:W.rangeAt L 0 (lnL a (.slice sa a.vals.length sc)):=range_whole hL
 have l0:W.cell? ⟨L,0,none⟩ = some (.int .i64 3):=(cell_blk hL 0 rfl).trans (by rw [hk]; rfl)
 clear hL hk
 go_wp2_with (first | (go_at_call 191; refine (py_valueAt ao cap vs _ _ HVW.out).mono ?_; rintro e w5 ⟨rfl,rfl⟩) | (refine wpList_load_mid rfl 204 _ rfl _ _ rfl (lnL a (.slice sa a.vals.length sc)) _ (by (repeat (first | assumption | exact rg_new (by simp) | refine rg_alloc ?_))) Tryz.underlying204 rfl Tryz.sizeLine ?_))
 refine (py_branch B p v k a sa sc (valAt vs 0) _ HTW.out).mono ?_
 rintro e w1 ⟨rfl,hk1,hf1⟩
 have HK:=hide hk1
 have HF:=hide (HFW.out.trans hf1)
 clear hk1 hf1
 go_wp2_with fail
 go_ret
 exact ⟨by rw [HE.out]; rfl,fun k' hk=>by rw [HE.out] at hk; cases hk; exact HK.out,HF.out⟩
set_option maxRecDepth 100000 in
set_option maxHeartbeats 8000000 in
theorem py_walk_act (B:Nat) (p:Plan) (v:PV) (k:Wlk) (a:PLine) (sa:Option Addr) (sc:Nat) (vs:List Bool) (ao:Option Addr) (cap:Nat) (w0 w:World) (h:WK B p v k w) (hp:PIn w0 p v) (hv:Flat w0 ao (vs.flatMap boL)) (hB:w0.heap.size ≤ B) (hb:Below w0.heap.size w0 w) (k1:¬ a.kind = 1) (k7:¬ a.kind = 7) (k9:¬ a.kind = 9) (k2:¬ a.kind = 2) (k3:¬ a.kind = 3) :
    Calls Tryz.prog 154 #[.pointer (some ⟨B,0,none⟩),.agg (lnL a (.slice sa a.vals.length sc)).toArray,.slice ao vs.length cap] w fun e w'=>WbP B p v (walkF p k a vs) w e w':=by
 have HE:Hid (walkF p k a vs = (actF k a (valAt vs 0)).map fun w1=>goToF w1 a.next):=by show _ = _; unfold walkF; rw [if_neg (by omega),if_neg (by omega),if_neg (by omega)]
 have p1:((a.kind:Int) == 1) = false:=beq_eq_false_iff_ne.2 (by omega)
 have p7:((a.kind:Int) == 7) = false:=beq_eq_false_iff_ne.2 (by omega)
 have p9:((a.kind:Int) == 9) = false:=beq_eq_false_iff_ne.2 (by omega)
 have p2:((a.kind:Int) == 2) = false:=beq_eq_false_iff_ne.2 (by omega)
 have p3:((a.kind:Int) == 3) = false:=beq_eq_false_iff_ne.2 (by omega)
 clear k1 k7 k9 k2 k3
 have hz:=h.lt
 have HT:=hide h
 have HP:=hide hp
 have HB:=hide hb
 have HV:=hide hv
 have HTW:=hide (h.alloc (.cells (lnL a (.slice sa a.vals.length sc)).toArray 204))
 have HFW:=hide ((Fr1.refl B w).alloc (Nat.le_of_lt hz) (.cells (lnL a (.slice sa a.vals.length sc)).toArray 204))
 have HBW:=hide (HFW.out.below hB hb)
 have HVW:=hide (hv.below HBW.out)
 have hzW:w.heap.size < (w.alloc (.cells (lnL a (.slice sa a.vals.length sc)).toArray 204)).heap.size:=by simp
 have hL:(w.alloc (.cells (lnL a (.slice sa a.vals.length sc)).toArray 204)).heap[w.heap.size]? = some (.cells (lnL a (.slice sa a.vals.length sc)).toArray 204 (0,0)):=heap_alloc_new _ _
 clear h hp hb hv
 go_enter Tryz.func154,Tryz.ntmps154
 go_upto_region 1 with (first | (refine wpl_box rfl 204 _ rfl (lnL a (.slice sa a.vals.length sc)) rfl ?_))
 generalize w.alloc (.cells (lnL a (.slice sa a.vals.length sc)).toArray 204) = W at *
 have hLB:B < w.heap.size:=hz
 generalize w.heap.size = L at *
 have hr:W.rangeAt L 0 (lnL a (.slice sa a.vals.length sc)):=range_whole hL
 have l0:W.cell? ⟨L,0,none⟩ = some (.int .i64 a.kind):=cell_blk hL 0 rfl
 have HL:=hide hL
 clear hL
 go_wp2_with (first | (go_at_call 191; refine (py_valueAt ao cap vs _ _ HVW.out).mono ?_; rintro e w5 ⟨rfl,rfl⟩) | (refine wpList_load_mid rfl 204 _ rfl _ _ rfl (lnL a (.slice sa a.vals.length sc)) _ (by (repeat (first | assumption | exact rg_new (by simp) | refine rg_alloc ?_))) Tryz.underlying204 rfl Tryz.sizeLine ?_))
 refine (py_act B p v k a sa sc (valAt vs 0) _ HTW.out).mono ?_
 rintro e w1 ⟨rfl,hk1,hf1⟩
 have HF:=hide (HFW.out.trans hf1)
 have n1:w1.cell? ⟨L,3,none⟩ = some (.int .i64 a.next):=by rw [← (show w5.cell? ⟨L,3,none⟩ = some (.int .i64 a.next) from cell_blk HL.out 3 rfl)]; simp only [World.cell?,hf1.blk L hzW (by omega)]
 cases ha:actF k a (valAt vs 0) with
 | none =>
  have HE1:Hid (walkF p k a vs = none):=by show _ = _; rw [HE.out,ha]; rfl
  clear hk1 hf1 hr l0 n1 ha
  go_wp2_with fail
  go_ret
  exact ⟨by rw [HE1.out]; rfl,fun k' hk=>by rw [HE1.out] at hk; (cases hk),HF.out⟩
 | some k1 =>
  have HE1:Hid (walkF p k a vs = some (goToF k1 a.next)):=by show _ = _; rw [HE.out,ha]; rfl
  have HK:=hide (hk1 k1 ha)
  clear hk1 hf1 hr l0 ha
  go_wp2_with fail
  refine (py_goToW B p v k1 a.next _ HK.out).mono ?_
  rintro e w2 ⟨rfl,hk2,hf2⟩
  have HK2:=hide hk2
  have HF2:=hide (HF.out.trans hf2)
  clear hk2 hf2 n1
  go_wp2_with fail
  go_ret
  exact ⟨by rw [HE1.out]; rfl,fun k' hk=>by rw [HE1.out] at hk; cases hk; exact HK2.out,HF2.out⟩
theorem py_walk (B:Nat) (p:Plan) (v:PV) (k:Wlk) (a:PLine) (sa:Option Addr) (sc:Nat) (vs:List Bool) (ao:Option Addr) (cap:Nat) (w0 w:World) (h:WK B p v k w) (hp:PIn w0 p v) (hv:Flat w0 ao (vs.flatMap boL)) (hB:w0.heap.size ≤ B) (hb:Below w0.heap.size w0 w) :
    Calls Tryz.prog 154 #[.pointer (some ⟨B,0,none⟩),.agg (lnL a (.slice sa a.vals.length sc)).toArray,.slice ao vs.length cap] w fun e w'=>WbP B p v (walkF p k a vs) w e w':=by
 by_cases k1:a.kind = 1
 ·exact py_walk_call B p v k a sa sc vs ao cap w0 w h hp hv hB hb k1
 by_cases k7:a.kind = 7
 ·exact py_walk_back7 B p v k a sa sc vs ao cap w0 w h hp hv hB hb k7
 by_cases k9:a.kind = 9
 ·exact py_walk_back9 B p v k a sa sc vs ao cap w0 w h hp hv hB hb k9
 by_cases k2:a.kind = 2
 ·exact py_walk_branch2 B p v k a sa sc vs ao cap w0 w h hp hv hB hb k2
 by_cases k3:a.kind = 3
 ·exact py_walk_branch3 B p v k a sa sc vs ao cap w0 w h hp hv hB hb k3
 ·exact py_walk_act B p v k a sa sc vs ao cap w0 w h hp hv hB hb k1 k7 k9 k2 k3
end Go.Proofs.YtmfcpbhdggonfaaGreatDoor
namespace Go.Proofs.YtmfcpbhdggonfaaGreatDoor
open Go.RowKit RR
def siA (s:Sight):Value:=.agg #[.bool s.s0,.bool s.s1,.bool s.s2,.bool s.s3,.bool s.p0,.bool s.p1,.bool s.p2,.bool s.choice]
set_option maxRecDepth 100000 in
set_option maxHeartbeats 2000000 in
theorem py_truth (s:Sight) (t:Tru) (w:World) :
    Calls Tryz.prog 218 #[siA s,truV t] w fun e w'=>e = .returned (.bool (seeF s t))∧Below w.heap.size w w':=by
 have hbX:∀ x y:Obj,Below w.heap.size w ((w.alloc x).alloc y):=fun x y=>((Below.refl _ _).alloc (Nat.le_refl _) _).alloc (by simp) _
 unfold siA truV
 obtain ⟨own,num⟩:=t
 simp only
 by_cases o1:own = 1
 ·subst o1
  by_cases h:0 ≤ num∧num < 4
  ·have h4:num = 0 ∨ num = 1 ∨ num = 2 ∨ num = 3:=by omega
   clear h
   rcases h4 with rfl | rfl | rfl | rfl
   all_goals
    go_enter Tryz.func218,Tryz.ntmps218
    go_wp2
    go_ret
    exact ⟨ret_bool rfl,hbX _ _⟩
  ·have HE:Hid (seeF s ⟨1,num⟩ = false):=by show _ = _; unfold seeF; rw [if_neg (fun q=>h ⟨q.2.1,q.2.2⟩),if_neg (fun q=>absurd q.1 (by decide:¬ (1:Nat) = 2))]
   by_cases h0:num < 0
   ·clear h
    go_enter Tryz.func218,Tryz.ntmps218
    go_wp2
    go_ret
    exact ⟨ret_bool HE.out.symm,hbX _ _⟩
   ·have h1:4 ≤ num:=by omega
    clear h
    go_enter Tryz.func218,Tryz.ntmps218
    go_wp2
    go_ret
    exact ⟨ret_bool HE.out.symm,hbX _ _⟩
 by_cases o2:own = 2
 ·subst o2
  by_cases h:0 ≤ num∧num < 3
  ·have h4:num = 0 ∨ num = 1 ∨ num = 2:=by omega
   clear h o1
   rcases h4 with rfl | rfl | rfl
   all_goals
    go_enter Tryz.func218,Tryz.ntmps218
    go_wp2
    go_ret
    exact ⟨ret_bool rfl,hbX _ _⟩
  ·have HE:Hid (seeF s ⟨2,num⟩ = false):=by show _ = _; unfold seeF; rw [if_neg (fun q=>o1 q.1),if_neg (fun q=>h ⟨q.2.1,q.2.2⟩)]
   clear o1
   by_cases h0:num < 0
   ·clear h
    go_enter Tryz.func218,Tryz.ntmps218
    go_wp2
    go_ret
    exact ⟨ret_bool HE.out.symm,hbX _ _⟩
   ·have h1:3 ≤ num:=by omega
    clear h
    go_enter Tryz.func218,Tryz.ntmps218
    go_wp2
    go_ret
    exact ⟨ret_bool HE.out.symm,hbX _ _⟩
 ·have HE:Hid (seeF s ⟨own,num⟩ = false):=by show _ = _; unfold seeF; rw [if_neg (fun q=>o1 q.1),if_neg (fun q=>o2 q.1)]
  have p1:((own:Int) == 1) = false:=beq_eq_false_iff_ne.2 (by omega)
  have p2:((own:Int) == 2) = false:=beq_eq_false_iff_ne.2 (by omega)
  clear o1 o2
  go_enter Tryz.func218,Tryz.ntmps218
  go_wp2
  go_ret
  exact ⟨ret_bool HE.out.symm,hbX _ _⟩
set_option maxRecDepth 100000 in
set_option maxHeartbeats 2000000 in
theorem py_valueOf (s:Sight) (n:PNd) (l r:Bool) (w:World) :
    Calls Tryz.prog 212 #[siA s,.agg #[.int .i64 n.sign,.int .i64 n.tr.own,.int .i64 n.tr.num,.int .i64 n.left,.int .i64 n.right],.bool l,.bool r] w fun e w'=>e = .returned (.bool (signF s n l r))∧Below w.heap.size w w':=by
 have hbX:∀ x y:Obj,Below w.heap.size w ((w.alloc x).alloc y):=fun x y=>((Below.refl _ _).alloc (Nat.le_refl _) _).alloc (by simp) _
 obtain ⟨sign,tr,left,right⟩:=n
 simp only
 by_cases k1:sign = 1
 ·subst k1
  unfold siA
  go_enter Tryz.func212,Tryz.ntmps212
  go_wp2
  go_ret
  exact ⟨ret_bool rfl,hbX _ _⟩
 by_cases k2:sign = 2
 ·subst k2
  clear k1
  unfold siA
  go_enter Tryz.func212,Tryz.ntmps212
  go_wp2
  go_ret
  exact ⟨ret_bool rfl,hbX _ _⟩
 by_cases k3:sign = 3
 ·subst k3
  clear k1 k2
  go_enter Tryz.func212,Tryz.ntmps212
  unfold siA
  go_wp2_with fail
  refine (py_truth s tr _).mono ?_
  rintro e w1 ⟨rfl,hb1⟩
  go_wp2_with fail
  go_ret
  exact ⟨rfl,(hbX _ _).trans (hb1.mono (hbX _ _).size)⟩
 by_cases k4:sign = 4
 ·subst k4
  clear k1 k2 k3
  unfold siA
  go_enter Tryz.func212,Tryz.ntmps212
  go_wp2
  go_ret
  exact ⟨ret_bool rfl,hbX _ _⟩
 by_cases k5:sign = 5
 ·subst k5
  clear k1 k2 k3 k4
  cases l
  all_goals
   unfold siA
   go_enter Tryz.func212,Tryz.ntmps212
   go_wp2
   go_ret
   exact ⟨ret_bool rfl,hbX _ _⟩
 by_cases k6:sign = 6
 ·subst k6
  clear k1 k2 k3 k4 k5
  cases l
  all_goals
   unfold siA
   go_enter Tryz.func212,Tryz.ntmps212
   go_wp2
   go_ret
   exact ⟨ret_bool rfl,hbX _ _⟩
 ·have HE:Hid (signF s ⟨sign,tr,left,right⟩ l r = false):=by show _ = _; unfold signF; rw [if_neg k1,if_neg k2,if_neg k3,if_neg k4,if_neg k5,if_neg k6]
  have p1:((sign:Int) == 1) = false:=beq_eq_false_iff_ne.2 (by omega)
  have p2:((sign:Int) == 2) = false:=beq_eq_false_iff_ne.2 (by omega)
  have p3:((sign:Int) == 3) = false:=beq_eq_false_iff_ne.2 (by omega)
  have p4:((sign:Int) == 4) = false:=beq_eq_false_iff_ne.2 (by omega)
  have p5:((sign:Int) == 5) = false:=beq_eq_false_iff_ne.2 (by omega)
  have p6:((sign:Int) == 6) = false:=beq_eq_false_iff_ne.2 (by omega)
  clear k1 k2 k3 k4 k5 k6
  unfold siA
  go_enter Tryz.func212,Tryz.ntmps212
  go_wp2
  go_ret
  exact ⟨ret_bool HE.out.symm,hbX _ _⟩
theorem workG_out {s:Sight} {nodes:List PNd} {first last i:Int} {f:Nat} {v:List Bool} (h:¬ (0 ≤ i∧i ≤ last∧i < nodes.length)):workG s nodes first last f i v = v:=by
 cases f with
 | zero=>rfl
 | succ f=>exact if_neg h
theorem workG_in {s:Sight} {nodes:List PNd} {first last:Int} {f k:Nat} {v:List Bool} (hk:k < nodes.length) (hl:(k:Int) ≤ last):workG s nodes first last (f + 1) k v = workG s nodes first last f ((k:Int) + 1) (v ++ [signF s nodes[k] (valAt v (wrap64 (nodes[k].left - first))) (valAt v (wrap64 (nodes[k].right - first)))]):=by
 have e:pnAt nodes k = nodes[k]:=by unfold pnAt; rw [List.getElem?_eq_getElem hk]; rfl
 rw [workG,if_pos ⟨by omega,hl,by omega⟩,Int.toNat_natCast,e]
theorem Tryz.infoBool:(Tryz.prog.info? 4).map (fun i=>(i.zero,i.size,i.bytes)) = some (some (.bool false),1,1):=by kernel_rfl
theorem one_bool {b:Bool}:∀ u ∈ [Value.bool b],u.oneCell' = true:=by intro u hu; simp at hu; subst hu; rfl
end Go.Proofs.YtmfcpbhdggonfaaGreatDoor
namespace Go.Proofs.YtmfcpbhdggonfaaGreatDoor
open Go.RowKit RR
set_option maxRecDepth 100000 in
set_option maxHeartbeats 4000000 in
theorem py_workOut (s:Sight) (nodes:List PNd) (aN:Option Addr) (cN:Nat) (first last:Int) (w:World) (hN:Flat w aN (nodes.flatMap ndP)) (hl:nodes.length ≤ 10000) :
    Calls Tryz.prog 190 #[siA s,.slice aN nodes.length cN,.agg #[.int .i64 first,.int .i64 last]] w fun e w'=>e = .returned (.bool (workF s nodes (first,last)))∧Below w.heap.size w w':=by
 unfold siA
 go_enter Tryz.func190,Tryz.ntmps190
 go_wp2
 go_loopw [7,8] (fun v u wr=>∃ (i:Int) (f:Nat) (vs:List Bool) (ao:Option Addr) (cap:Nat),v = .slice ao vs.length cap∧u = .int .i64 i∧((nodes.length:Int) < f + i ∨ i < 0)∧workG s nodes first last f i vs = workG s nodes first last (nodes.length + 1) first []∧vs.length + f ≤ nodes.length + 1∧wr.ownsRow (w.heap.size + 2) 4 1 (.slice ao vs.length cap) vs.length (vs.flatMap boL)∧Below (w.heap.size + 2) ((w.alloc (.cells #[.bool s.s0,.bool s.s1,.bool s.s2,.bool s.s3,.bool s.p0,.bool s.p1,.bool s.p2,.bool s.choice] 256)).alloc (.cells #[.int .i64 first,.int .i64 last] 248)) wr) (fun _ u _=>(nodes.length - intOf u).toNat)
 case atStart=>exact ⟨first,nodes.length + 1,[],none,0,rfl,rfl,by omega,rfl,by simp,World.ownsRow_nil _ _ _ _,Below.refl _ _⟩
 case round =>
  obtain ⟨i,f,vs,ao,cap,rfl,rfl,hf,hn,hlen,hrow,hbx⟩:=hrel
  have HN:=hide hn
  have HRow:=hide hrow
  have HB:=hide hbx
  obtain ⟨hS,hE,hbel⟩:=boxes2 (w1:=wr) (by simpa using hbx)
  have hzE:w.heap.size + 1 < wr.heap.size:=(Array.getElem?_eq_some_iff.1 hE).1
  have hzS:w.heap.size < wr.heap.size:=by omega
  have e0:wr.cell? ⟨w.heap.size + 1,0,none⟩ = some (.int .i64 first):=by simp [World.cell?,hE]
  have e1:wr.cell? ⟨w.heap.size + 1,1,none⟩ = some (.int .i64 last):=by simp [World.cell?,hE]
  have hNr:=hN.below hbel
  have HBel:=hide hbel
  obtain ⟨ao',cap',q1,q2⟩:=flat_of_owns hrow
  cases q1
  have HV:=hide q2
  clear hn hrow hbx hbel q2
  by_cases h0:0 ≤ i
  ·by_cases h1:i ≤ last
   ·by_cases h2:i < nodes.length
    ·obtain ⟨k,rfl⟩:=Int.eq_ofNat_of_zero_le h0
     have hk:k < nodes.length:=by omega
     obtain ⟨b,o,hb,hao,hr5⟩:=hNr.get (f:=ndP) (n:=5) (fun _=>rfl) (by decide) k hk
     obtain ⟨f,rfl⟩:∃ g,f = g + 1:=⟨f - 1,by omega⟩
     have HS:=hide (workG_in (s:=s) (first:=first) (f:=f) (v:=vs) hk h1)
     generalize hNd:nodes[k] = n at *
     have n0:wr.cell? ⟨b,o + k * 5,none⟩ = some (.int .i64 n.sign):=hr5 0 _ rfl
     have n1:wr.cell? ⟨b,o + k * 5 + 1,none⟩ = some (.int .i64 n.tr.own):=hr5 1 _ rfl
     have n2:wr.cell? ⟨b,o + k * 5 + 2,none⟩ = some (.int .i64 n.tr.num):=hr5 2 _ rfl
     have n3:wr.cell? ⟨b,o + k * 5 + 3,none⟩ = some (.int .i64 n.left):=hr5 3 _ rfl
     have n4:wr.cell? ⟨b,o + k * 5 + 4,none⟩ = some (.int .i64 n.right):=hr5 4 _ rfl
     have s0:wr.cell? ⟨w.heap.size,0,none⟩ = some (.bool s.s0):=by simp [World.cell?,hS]
     have s1:wr.cell? ⟨w.heap.size,1,none⟩ = some (.bool s.s1):=by simp [World.cell?,hS]
     have s2:wr.cell? ⟨w.heap.size,2,none⟩ = some (.bool s.s2):=by simp [World.cell?,hS]
     have s3:wr.cell? ⟨w.heap.size,3,none⟩ = some (.bool s.s3):=by simp [World.cell?,hS]
     have s4:wr.cell? ⟨w.heap.size,4,none⟩ = some (.bool s.p0):=by simp [World.cell?,hS]
     have s5:wr.cell? ⟨w.heap.size,5,none⟩ = some (.bool s.p1):=by simp [World.cell?,hS]
     have s6:wr.cell? ⟨w.heap.size,6,none⟩ = some (.bool s.p2):=by simp [World.cell?,hS]
     have s7:wr.cell? ⟨w.heap.size,7,none⟩ = some (.bool s.choice):=by simp [World.cell?,hS]
     have hbX:∀ ob:Obj,Below wr.heap.size wr (wr.alloc ob):=fun ob=>(Below.refl _ _).alloc (Nat.le_refl _) ob
     subst hao
     clear hNd hr5 hNr hS hE hN
     go_wp2_with fail
     refine (py_valueAt _ _ vs _ _ (HV.out.below (hbX _))).mono ?_
     rintro e w1 ⟨rfl,rfl⟩
     go_wp2_with fail
     refine (py_valueAt _ _ vs _ _ (HV.out.below (hbX _))).mono ?_
     rintro e w1 ⟨rfl,rfl⟩
     go_wp2_with fail
     refine (py_valueOf s n _ _ _).mono ?_
     rintro e w2 ⟨rfl,hb2⟩
     have hb12:Below wr.heap.size wr w2:=(hbX _).trans (hb2.mono (hbX _).size)
     have HRow2:=hide (owns_below HRow.out hb12)
     have HB2:=hide (HB.out.trans (hb12.mono (by omega)))
     have hz2:w.heap.size + 2 ≤ w2.heap.size:=by have:=hb12.size; omega
     clear hb2 hb12 n0 n1 n2 n3 n4 s0 s1 s2 s3 s4 s5 s6 s7 e0 e1 hbX
     generalize hVal:signF s n (valAt vs (wrap64 (n.left - first))) (valAt vs (wrap64 (n.right - first))) = val at *
     have HVal:=hide hVal
     clear hVal
     go_wp2_with (at_builtin; refine app_row Tryz.infoBool rfl (by decide) Tryz.underlying56 HRow2.out (by omega) (by decide) hz2 rfl one_bool rfl _ _ rfl rfl rfl rfl ?_; intro g cap' w3 ha; refine Hid.out ?_)
     refine hide ?_
     have HR3:Hid (w3.ownsRow (w.heap.size + 2) 4 1 (.slice (some ⟨g,0,none⟩) (vs ++ [val]).length cap') (vs ++ [val]).length ((vs ++ [val]).flatMap boL)):=by
      have h:=ha.row
      show World.ownsRow _ _ _ _ _ _ _
      rw [List.length_append,List.flatMap_append]
      exact h
     have HB3:=hide (HB2.out.trans ha.bel)
     clear ha
     go_wp2_with fail
     go_roundw
     case rel=>exact ⟨(k:Int) + 1,f,vs ++ [val],some ⟨g,0,none⟩,cap',by rw [List.length_append]; rfl,by go_num,by omega,by rw [← HN.out,HS.out],by simp; omega,HR3.out,HB3.out⟩
     case measure=>simp [intOf]; omega
    ·have h3:(nodes.length:Int) ≤ i:=by omega
     have HE:Hid (vs = workG s nodes first last (nodes.length + 1) first []):=(workG_out (f:=f) (by omega)).symm.trans HN.out
     go_wp2_with (go_at_call 191; refine (py_valueAt _ _ vs _ _ HV.out).mono ?_; rintro e w1 ⟨rfl,rfl⟩)
     go_ret
     exact ⟨ret_bool (by rw [HE.out]; rfl),HBel.out⟩
   ·have h3:last < i:=by omega
    have HE:Hid (vs = workG s nodes first last (nodes.length + 1) first []):=(workG_out (f:=f) (by omega)).symm.trans HN.out
    go_wp2_with (go_at_call 191; refine (py_valueAt _ _ vs _ _ HV.out).mono ?_; rintro e w1 ⟨rfl,rfl⟩)
    go_ret
    exact ⟨ret_bool (by rw [HE.out]; rfl),HBel.out⟩
  ·have h3:i < 0:=by omega
   have HE:Hid (vs = workG s nodes first last (nodes.length + 1) first []):=(workG_out (f:=f) (by omega)).symm.trans HN.out
   go_wp2_with (go_at_call 191; refine (py_valueAt _ _ vs _ _ HV.out).mono ?_; rintro e w1 ⟨rfl,rfl⟩)
   go_ret
   exact ⟨ret_bool (by rw [HE.out]; rfl),HBel.out⟩
def BoP (vs:List Bool) (w:World) (e:Ending) (w':World):Prop:=∃ ao cap,e = .returned (.slice ao vs.length cap)∧Flat w' ao (vs.flatMap boL)∧Below w.heap.size w w'
theorem box1 {w w1:World} {c1:Array Value} {T1:TypeId} (h:Below (w.heap.size + 1) (w.alloc (.cells c1 T1)) w1):w1.heap[w.heap.size]? = some (.cells c1 T1 (0,0))∧Below w.heap.size w w1 :=
 ⟨(h.block _ (by omega)).trans (heap_alloc_new w _),((Below.refl _ _).alloc (Nat.le_refl _) _).trans (h.mono (by omega))⟩
set_option maxRecDepth 100000 in
set_option maxHeartbeats 4000000 in
theorem py_workOutAll (s:Sight) (nodes:List PNd) (aN:Option Addr) (cN:Nat) (l:List (Int × Int)) (sa:Option Addr) (sc:Nat) (w:World) (hN:Flat w aN (nodes.flatMap ndP)) (hL:Flat w sa (l.flatMap exC)) (hl:nodes.length ≤ 10000) (hl2:l.length ≤ 10000) :
    Calls Tryz.prog 153 #[siA s,.slice aN nodes.length cN,.slice sa l.length sc] w fun e w'=>BoP (workAllF s nodes l) w e w':=by
 unfold siA
 go_enter Tryz.func153,Tryz.ntmps153
 go_wp2
 go_loopw [7,13] (fun v u wr=>∃ (k:Nat) (ao:Option Addr) (cap:Nat),v = .slice ao k cap∧u = .int .i64 k∧k ≤ l.length∧wr.ownsRow (w.heap.size + 1) 4 1 (.slice ao k cap) k (((l.take k).map (workF s nodes)).flatMap boL)∧Below (w.heap.size + 1) (w.alloc (.cells #[.bool s.s0,.bool s.s1,.bool s.s2,.bool s.s3,.bool s.p0,.bool s.p1,.bool s.p2,.bool s.choice] 256)) wr) (fun _ u _=>l.length - (intOf u).toNat)
 case atStart=>exact ⟨0,none,0,rfl,rfl,Nat.zero_le _,World.ownsRow_nil _ _ _ _,Below.refl _ _⟩
 case round =>
  obtain ⟨k,ao,cap,rfl,rfl,hk,hrow,hbx⟩:=hrel
  have HRow:=hide hrow
  have HB:=hide hbx
  obtain ⟨hS,hbel⟩:=box1 hbx
  have hzS:w.heap.size < wr.heap.size:=(Array.getElem?_eq_some_iff.1 hS).1
  have HBel:=hide hbel
  clear hrow hbx
  by_cases hlt:k < l.length
  ·obtain ⟨b,o,hb,hao,hr⟩:=(hL.below hbel).get (f:=exC) (n:=2) (fun _=>rfl) (by decide) k hlt
   have HTk:Hid ((l.take (k + 1)).map (workF s nodes) = (l.take k).map (workF s nodes) ++ [workF s nodes l[k]]):=by
    show _ = _
    rw [List.take_succ_eq_append_getElem hlt,List.map_append]; rfl
   generalize hEx:l[k] = ex at *
   have e0:wr.cell? ⟨b,o + k * 2,none⟩ = some (.int .i64 ex.1):=hr 0 _ rfl
   have e1:wr.cell? ⟨b,o + k * 2 + 1,none⟩ = some (.int .i64 ex.2):=hr 1 _ rfl
   have s0:wr.cell? ⟨w.heap.size,0,none⟩ = some (.bool s.s0):=by simp [World.cell?,hS]
   have s1:wr.cell? ⟨w.heap.size,1,none⟩ = some (.bool s.s1):=by simp [World.cell?,hS]
   have s2:wr.cell? ⟨w.heap.size,2,none⟩ = some (.bool s.s2):=by simp [World.cell?,hS]
   have s3:wr.cell? ⟨w.heap.size,3,none⟩ = some (.bool s.s3):=by simp [World.cell?,hS]
   have s4:wr.cell? ⟨w.heap.size,4,none⟩ = some (.bool s.p0):=by simp [World.cell?,hS]
   have s5:wr.cell? ⟨w.heap.size,5,none⟩ = some (.bool s.p1):=by simp [World.cell?,hS]
   have s6:wr.cell? ⟨w.heap.size,6,none⟩ = some (.bool s.p2):=by simp [World.cell?,hS]
   have s7:wr.cell? ⟨w.heap.size,7,none⟩ = some (.bool s.choice):=by simp [World.cell?,hS]
   have hbX:∀ ob:Obj,Below wr.heap.size wr (wr.alloc ob):=fun ob=>(Below.refl _ _).alloc (Nat.le_refl _) ob
   subst hao
   clear hEx hr hS hbel
   go_wp2_with fail
   refine (py_workOut s nodes aN cN ex.1 ex.2 _ (hN.below (HBel.out.trans ((hbX _).mono (by omega)))) hl).mono ?_
   rintro e w2 ⟨rfl,hb2⟩
   have hb12:Below wr.heap.size wr w2:=(hbX _).trans (hb2.mono (hbX _).size)
   have HRow2:=hide (owns_below HRow.out hb12)
   have HB2:=hide (HB.out.trans (hb12.mono (by omega)))
   have hz2:w.heap.size + 1 ≤ w2.heap.size:=by have:=hb12.size; omega
   clear hb2 hb12 e0 e1 s0 s1 s2 s3 s4 s5 s6 s7 hbX
   generalize hVal:workF s nodes (ex.1,ex.2) = val at *
   have HVal:Hid (workF s nodes ex = val):=hVal
   clear hVal
   go_wp2_with (at_builtin; refine app_row Tryz.infoBool rfl (by decide) Tryz.underlying56 HRow2.out (by omega) (by decide) hz2 rfl one_bool rfl _ _ rfl rfl rfl rfl ?_; intro g cap' w3 ha; refine Hid.out ?_)
   refine hide ?_
   have HR3:Hid (w3.ownsRow (w.heap.size + 1) 4 1 (.slice (some ⟨g,0,none⟩) (k + 1) cap') (k + 1) (((l.take (k + 1)).map (workF s nodes)).flatMap boL)):=by
    have h:=ha.row
    show World.ownsRow _ _ _ _ _ _ _
    rw [HTk.out,List.flatMap_append]
    exact h
   have HB3:=hide (HB2.out.trans ha.bel)
   clear ha
   go_wp2_with fail
   go_roundw
   case rel=>exact ⟨k + 1,some ⟨g,0,none⟩,cap',rfl,by go_num,by omega,HR3.out,HB3.out⟩
   case measure=>simp [intOf]; omega
  ·have hkl:k = l.length:=by omega
   subst hkl
   have HP:Hid (BoP (workAllF s nodes l) w (.returned (.slice ao l.length cap)) wr):=by
    obtain ⟨ao',cap',q1,q2⟩:=flat_of_owns HRow.out
    cases q1
    rw [List.take_length] at q2
    exact ⟨ao,cap,by unfold workAllF; rw [List.length_map],q2,HBel.out⟩
   clear hbel hS
   go_wp2_with fail
   go_ret
   exact HP.out
end Go.Proofs.YtmfcpbhdggonfaaGreatDoor
