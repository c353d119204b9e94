/- Contracts of the program's package play: a step. -/
import Derived.Test.YtmfcpbhdggonfaaGreatDoorMjAX
namespace Go.Proofs.YtmfcpbhdggonfaaGreatDoor
open Go.RowKit RR
def wlkL (p:Plan) (v:PV) (c:Cfg) (t:Thr) (h:Int):List Value:=plL p v ++ cfgL c ++ thrL t ++ [.int .i64 h]
theorem Tryz.buildWalkerP (p:Plan) (v:PV) (c:Cfg) (t:Thr) (h:Int):Tryz.prog.built 259 [(0,.agg (plL p v).toArray),(1,.agg (cfgL c).toArray),(2,.agg (thrL t).toArray),(3,.int .i64 h)] = some (wlkL p v c t h).toArray:=Tryz.buildWalker _ _ _ _ _ _ c t h
theorem yieldsIf_build2 {P:Program} {ops:Array Oper} {S:World→Prop} {op:Oper} {a:Act} (hw:Region.wanted op (yielded ops a.tmps) = true) (t:TypeId) (parts:Array (Nat × Operand)) (ho:op.op = .build t parts) (l:List (Nat × Value)) (hl:(parts.map fun (i,x)=>(i,a.eval x)).toList = l) (cs:List Value) (hb:P.built t l = some cs.toArray):YieldsIf P ops S op (.agg cs.toArray) a:=by
 subst hl
 exact yieldsIf_build hw t parts ho cs hb
def zWlk:List Value:=[.int .i64 0,.int .i64 0,.slice none 0 0,.slice none 0 0,.slice none 0 0,.slice none 0 0] ++ cfgL zCfg ++ thrL zThr ++ [.int .i64 0]
theorem Tryz.zeroWalker:(Tryz.prog.info? 259).bind (·.zero) = some (.agg zWlk.toArray):=by kernel_rfl
theorem Tryz.sizeWalkerL (p:Plan) (v:PV) (c:Cfg) (t:Thr) (h:Int):(Tryz.prog.info? 259).map (·.size) = some (wlkL p v c t h).length:=Tryz.sizeWalker
theorem thr_size (t:Thr):(thrL t).toArray.size = 17:=rfl
theorem Tryz.sizeThrA (t:Thr):(Tryz.prog.info? 137).map (·.size) = some (thrL t).toArray.size:=Tryz.sizeThr
theorem one_thrA (t:Thr):(thrL t).toArray.all (·.oneCell') = true:=by simpa using one_thr t
theorem one_wlk (p:Plan) (v:PV) (c:Cfg) (t:Thr) (h:Int):(wlkL p v c t h).all (·.oneCell') = true:=rfl
theorem WK.there {B:Nat} {p:Plan} {v:PV} {k:Wlk} {w:World} (h:WK B p v k w) (i:Nat) (hi:i < 3):w.there B (13 + i * 17) 17 :=
 there_of_block h (by rw [List.size_toArray,List.length_append,List.length_append,WK.len p v k.c]; show 13 + i * 17 + 17 ≤ 64 + 17 + 1; omega)
theorem WK.setT {B:Nat} {p:Plan} {v:PV} {k:Wlk} {w:World} (h:WK B p v k w) (i:Nat) (hi:i < 3):WK B p v { k with c:=k.c.setT k.f i } (w.setCells B (13 + i * 17) (thrL k.f))∧(w.setCells B (13 + i * 17) (thrL k.f)).rangeAt B 6 (cfgL (k.c.setT k.f i)):=by
 have h1:WK B p v { k with c:=k.c.setT k.f i } (w.setCells B (13 + i * 17) (thrL k.f)):=by
  refine WK.of_cfg ?_
  have h2:=h.cfg
  unfold TX at h2 ⊢
  rw [setCells_heap _ _ _ _ h2,setAll_cfg _ _ _ _ _ hi rfl]
 refine ⟨h1,fun j x hx=>?_⟩
 have:=h1.cfg.cell j (List.getElem?_eq_some_iff.1 hx).1
 exact this.trans hx
def StP (r:Option Cfg) (w:World) (e:Ending) (w':World):Prop:=e = .returned (.tuple #[.agg (cfgL (r.getD zCfg)).toArray,.bool r.isSome])∧Below w.heap.size w w'
theorem StP.none {r:Option Cfg} {w w':World} (h:r = .none) (hb:Below w.heap.size w w'):StP r w (.returned (.tuple #[.agg (cfgL zCfg).toArray,.bool false])) w':=by
 subst h
 exact ⟨rfl,hb⟩
theorem StP.some {r:Option Cfg} {c:Cfg} {w w':World} (h:r = .some c) (hb:Below w.heap.size w w'):StP r w (.returned (.tuple #[.agg (cfgL c).toArray,.bool true])) w':=by
 subst h
 exact ⟨rfl,hb⟩
set_option maxRecDepth 100000 in
set_option maxHeartbeats 8000000 in
theorem py_Step_low (p:Plan) (v:PV) (c:Cfg) (i:Int) (ch:Bool) (w:World) (hp:PIn w p v) (hi:i < 0) :
    Calls Tryz.prog 109 #[.agg (plL p v).toArray,.agg (cfgL c).toArray,.int .i64 i,.bool ch] w fun e w'=>StP (stepF p c i ch) w e w':=by
 have HE:Hid (stepF p c i ch = none):=by show _ = _; unfold stepF; rw [if_neg (by omega)]
 have HP:=hide hp
 clear hp
 obtain ⟨hP,hC,hR,hbW,hsz⟩:=bigs3 w (.cells (plL p v).toArray 123) (.cells (cfgL c).toArray 140) (.cells (cfgL zCfg).toArray 140)
 go_enter Tryz.func109,Tryz.ntmps109
 go_upto_region 1 with (first | (refine wpl_box rfl 123 _ rfl (plL p v) rfl ?_) | (refine wpl_box rfl 140 _ rfl (cfgL c) rfl ?_) | (refine wpl_alloc rfl 140 rfl (cfgL zCfg) Tryz.zeroConfig ?_))
 have HPW:=hide (HP.out.below hbW)
 generalize ((w.alloc (.cells (plL p v).toArray 123)).alloc (.cells (cfgL c).toArray 140)).alloc (.cells (cfgL zCfg).toArray 140) = W at *
 have HBW:=hide hbW
 clear hbW
 go_wp2_with (first | (refine wpl_zero rfl 140 rfl (cfgL zCfg) Tryz.buildConfig ?_) | (refine wpl_store_box rfl 140 _ _ rfl (w.heap.size + 2) _ (cfgL zCfg) _ rfl rfl hR Tryz.sizeConfig rfl (one_cfg _) ?_))
 refine bodyPost_ret (v:=.tuple #[.agg (cfgL zCfg).toArray,.bool false]) ?_ rfl (StP.none HE.out (setRow_below HBW.out (by omega)))
 exact res_cell_tmp Tryz.results109 rfl rfl (range_whole (setRow_heap hR)) Tryz.underlying140 rfl Tryz.sizeConfig
set_option maxRecDepth 100000 in
set_option maxHeartbeats 8000000 in
theorem py_Step_high (p:Plan) (v:PV) (c:Cfg) (i:Int) (ch:Bool) (w:World) (hp:PIn w p v) (hi:3 ≤ i) :
    Calls Tryz.prog 109 #[.agg (plL p v).toArray,.agg (cfgL c).toArray,.int .i64 i,.bool ch] w fun e w'=>StP (stepF p c i ch) w e w':=by
 have HE:Hid (stepF p c i ch = none):=by show _ = _; unfold stepF; rw [if_neg (by omega)]
 have HP:=hide hp
 clear hp
 obtain ⟨hP,hC,hR,hbW,hsz⟩:=bigs3 w (.cells (plL p v).toArray 123) (.cells (cfgL c).toArray 140) (.cells (cfgL zCfg).toArray 140)
 go_enter Tryz.func109,Tryz.ntmps109
 go_upto_region 1 with (first | (refine wpl_box rfl 123 _ rfl (plL p v) rfl ?_) | (refine wpl_box rfl 140 _ rfl (cfgL c) rfl ?_) | (refine wpl_alloc rfl 140 rfl (cfgL zCfg) Tryz.zeroConfig ?_))
 have HPW:=hide (HP.out.below hbW)
 generalize ((w.alloc (.cells (plL p v).toArray 123)).alloc (.cells (cfgL c).toArray 140)).alloc (.cells (cfgL zCfg).toArray 140) = W at *
 have HBW:=hide hbW
 clear hbW
 go_wp2_with (first | (refine wpl_zero rfl 140 rfl (cfgL zCfg) Tryz.buildConfig ?_) | (refine wpl_store_box rfl 140 _ _ rfl (w.heap.size + 2) _ (cfgL zCfg) _ rfl rfl hR Tryz.sizeConfig rfl (one_cfg _) ?_))
 refine bodyPost_ret (v:=.tuple #[.agg (cfgL zCfg).toArray,.bool false]) ?_ rfl (StP.none HE.out (setRow_below HBW.out (by omega)))
 exact res_cell_tmp Tryz.results109 rfl rfl (range_whole (setRow_heap hR)) Tryz.underlying140 rfl Tryz.sizeConfig
set_option maxRecDepth 100000 in
set_option maxHeartbeats 8000000 in
theorem py_Step_ended (p:Plan) (v:PV) (c:Cfg) (k:Nat) (ch:Bool) (w:World) (hp:PIn w p v) (hk:k < 3) (hf:frameF (c.t k) 0 = none) :
    Calls Tryz.prog 109 #[.agg (plL p v).toArray,.agg (cfgL c).toArray,.int .i64 k,.bool ch] w fun e w'=>StP (stepF p c k ch) w e w':=by
 have HE:Hid (stepF p c k ch = none):=by show _ = _; unfold stepF; rw [if_pos (by omega),Int.toNat_natCast,hf]
 have HP:=hide hp
 clear hp
 obtain ⟨hP,hC,hR,hbW,hsz⟩:=bigs3 w (.cells (plL p v).toArray 123) (.cells (cfgL c).toArray 140) (.cells (cfgL zCfg).toArray 140)
 go_enter Tryz.func109,Tryz.ntmps109
 go_upto_region 1 with (first | (refine wpl_box rfl 123 _ rfl (plL p v) rfl ?_) | (refine wpl_box rfl 140 _ rfl (cfgL c) rfl ?_) | (refine wpl_alloc rfl 140 rfl (cfgL zCfg) Tryz.zeroConfig ?_))
 have HPW:=hide (HP.out.below hbW)
 generalize ((w.alloc (.cells (plL p v).toArray 123)).alloc (.cells (cfgL c).toArray 140)).alloc (.cells (cfgL zCfg).toArray 140) = W at *
 have HBW:=hide hbW
 clear hbW
 have hrC:W.rangeAt (w.heap.size + 1) 0 (cfgL c):=range_whole hC
 go_wp2_with (first | (refine wpList_load_mid rfl 137 _ rfl _ _ rfl (thrL (c.t k)) _ (cfg_thr0 (by (repeat (first | assumption | exact rg_new (by simp) | refine rg_alloc ?_))) k hk) Tryz.underlying137 rfl Tryz.sizeThr ?_))
 refine (py_frame (c.t k) 0 _).mono ?_
 rintro e w1 ⟨rfl,hb1⟩
 have HB1:=hide (HBW.out.trans (hb1.mono (by omega)))
 have hz1:w.heap.size + 3 ≤ w1.heap.size:=by have:=hb1.size; omega
 have HP1:=hide (HPW.out.below hb1)
 have hP1:=(hb1.block _ (by omega)).trans hP
 have hC1:=(hb1.block _ (by omega)).trans hC
 have hR1:=(hb1.block _ (by omega)).trans hR
 clear hb1 hP hC hR hrC HPW
 rw [hf]
 clear hf
 unfold frmV
 have hR2:∀ ob,(w1.alloc ob).heap[w.heap.size + 2]? = some (.cells (cfgL zCfg).toArray 140 (0,0)):=fun ob=>(Below.heap_alloc _ _ _ (by omega)).trans hR1
 go_wp2_with (first | (refine wpl_zero rfl 140 rfl (cfgL zCfg) Tryz.buildConfig ?_) | (refine wpl_store_box rfl 140 _ _ rfl (w.heap.size + 2) _ (cfgL zCfg) _ rfl rfl (hR2 _) Tryz.sizeConfig rfl (one_cfg _) ?_))
 refine bodyPost_ret (v:=.tuple #[.agg (cfgL zCfg).toArray,.bool false]) ?_ rfl (StP.none HE.out (setRow_below (HB1.out.alloc (by omega) _) (by omega)))
 exact res_cell_tmp Tryz.results109 rfl rfl (range_whole (setRow_heap (hR2 _))) Tryz.underlying140 rfl Tryz.sizeConfig
set_option maxRecDepth 100000 in
set_option maxHeartbeats 8000000 in
theorem py_Step_unasked (p:Plan) (v:PV) (c:Cfg) (k:Nat) (f:Frm) (w:World) (hp:PIn w p v) (hk:k < 3) (hf:frameF (c.t k) 0 = some f) (hc:(lineAt p f.line).choice = false) :
    Calls Tryz.prog 109 #[.agg (plL p v).toArray,.agg (cfgL c).toArray,.int .i64 k,.bool true] w fun e w'=>StP (stepF p c k true) w e w':=by
 have HE:Hid (stepF p c k true = none):=by show _ = _; unfold stepF; rw [if_pos (by omega),Int.toNat_natCast,hf]; simp [hc]
 have HP:=hide hp
 clear hp
 obtain ⟨hP,hC,hR,hbW,hsz⟩:=bigs3 w (.cells (plL p v).toArray 123) (.cells (cfgL c).toArray 140) (.cells (cfgL zCfg).toArray 140)
 go_enter Tryz.func109,Tryz.ntmps109
 go_upto_region 1 with (first | (refine wpl_box rfl 123 _ rfl (plL p v) rfl ?_) | (refine wpl_box rfl 140 _ rfl (cfgL c) rfl ?_) | (refine wpl_alloc rfl 140 rfl (cfgL zCfg) Tryz.zeroConfig ?_))
 have HPW:=hide (HP.out.below hbW)
 generalize ((w.alloc (.cells (plL p v).toArray 123)).alloc (.cells (cfgL c).toArray 140)).alloc (.cells (cfgL zCfg).toArray 140) = W at *
 have HBW:=hide hbW
 clear hbW
 have hrC:W.rangeAt (w.heap.size + 1) 0 (cfgL c):=range_whole hC
 go_wp2_with (first | (refine wpList_load_mid rfl 137 _ rfl _ _ rfl (thrL (c.t k)) _ (cfg_thr0 (by (repeat (first | assumption | exact rg_new (by simp) | refine rg_alloc ?_))) k hk) Tryz.underlying137 rfl Tryz.sizeThr ?_))
 refine (py_frame (c.t k) 0 _).mono ?_
 rintro e w1 ⟨rfl,hb1⟩
 have HB1:=hide (HBW.out.trans (hb1.mono (by omega)))
 have hz1:w.heap.size + 3 ≤ w1.heap.size:=by have:=hb1.size; omega
 have HP1:=hide (HPW.out.below hb1)
 have hP1:=(hb1.block _ (by omega)).trans hP
 have hC1:=(hb1.block _ (by omega)).trans hC
 have hR1:=(hb1.block _ (by omega)).trans hR
 clear hb1 hP hC hR hrC HPW
 rw [hf]
 clear hf
 unfold frmV
 have hrP:w1.rangeAt w.heap.size 0 (plL p v):=range_whole hP1
 go_wp2_with (first | (refine wpList_load_mid rfl 123 _ rfl _ _ rfl (plL p v) _ (by (repeat (first | assumption | exact rg_new (by simp) | refine rg_alloc ?_))) Tryz.underlying123 rfl Tryz.sizeProgram ?_))
 refine (pn_Line p v f.line _ (HP1.out.below ((Below.refl _ _).alloc (Nat.le_refl _) _))).mono ?_
 rintro e w2 ⟨sa,sc,rfl,hfl,hb2⟩
 have hb12:Below w1.heap.size w1 w2:=((Below.refl _ _).alloc (Nat.le_refl _) _).trans (hb2.mono (by simp))
 have HB2:=hide (HB1.out.trans (hb12.mono (by omega)))
 have hz2:w1.heap.size + 1 ≤ w2.heap.size:=by have:=hb2.size; simp at this; exact this
 have HP2:=hide (HP1.out.below hb12)
 have hP2:=(hb12.block _ (by omega)).trans hP1
 have hC2:=(hb12.block _ (by omega)).trans hC1
 have hR2:=(hb12.block _ (by omega)).trans hR1
 have hF2:w2.heap[w1.heap.size]? = some (.cells #[.int .i64 f.line,.bool f.p0,.bool f.p1,.bool f.p2] 134 (0,0)):=(hb2.block _ (by simp)).trans (heap_alloc_new _ _)
 have HFl:=hide hfl
 clear hb2 hb12 hP1 hC1 hR1 hrP HP1 HB1 hfl
 go_upto_region 7 with (first | (refine wpl_alloc rfl 204 rfl (lnL zLine (.slice none 0 0)) Tryz.zeroLine ?_) | (refine wpl_store_new rfl 204 _ _ rfl _ _ (lnL (lineAt p f.line) (.slice sa (lineAt p f.line).vals.length sc)) _ rfl rfl (by simp) Tryz.sizeLine rfl rfl ?_))
 have hl2:Below w2.heap.size w2 (w2.alloc (.cells (lnL (lineAt p f.line) (.slice sa (lineAt p f.line).vals.length sc)).toArray 204)):=(Below.refl _ _).alloc (Nat.le_refl _) _
 have hP3:=(hl2.block _ (by omega)).trans hP2
 have hC3:=(hl2.block _ (by omega)).trans hC2
 have hR3:=(hl2.block _ (by omega)).trans hR2
 have hF3:=(hl2.block _ (by omega)).trans hF2
 have HB3:=hide (HB2.out.trans (hl2.mono (by omega)))
 have HP3:=hide (HP2.out.below hl2)
 have HFl3:=hide (HFl.out.below hl2)
 have hz3:w2.heap.size + 1 = (w2.alloc (.cells (lnL (lineAt p f.line) (.slice sa (lineAt p f.line).vals.length sc)).toArray 204)).heap.size:=by simp
 have hL3:(w2.alloc (.cells (lnL (lineAt p f.line) (.slice sa (lineAt p f.line).vals.length sc)).toArray 204)).heap[w2.heap.size]? = some (.cells (lnL (lineAt p f.line) (.slice sa (lineAt p f.line).vals.length sc)).toArray 204 (0,0)):=heap_alloc_new _ _
 clear hP2 hC2 hR2 hF2 hl2 HB2 HP2 HFl
 generalize w2.alloc (.cells (lnL (lineAt p f.line) (.slice sa (lineAt p f.line).vals.length sc)).toArray 204) = w3 at *
 generalize w2.heap.size = L at *
 generalize w1.heap.size = F at *
 have l11:w3.cell? ⟨L,11,none⟩ = some (.bool (lineAt p f.line).choice):=cell_blk hL3 11 rfl
 rw [hc] at l11
 go_wp2_with (first | (refine wpl_zero rfl 140 rfl (cfgL zCfg) Tryz.buildConfig ?_) | (refine wpl_store_box rfl 140 _ _ rfl (w.heap.size + 2) _ (cfgL zCfg) _ rfl rfl hR3 Tryz.sizeConfig rfl (one_cfg _) ?_))
 refine bodyPost_ret (v:=.tuple #[.agg (cfgL zCfg).toArray,.bool false]) ?_ rfl (StP.none HE.out (setRow_below HB3.out (by omega)))
 exact res_cell_tmp Tryz.results109 rfl rfl (range_whole (setRow_heap hR3)) Tryz.underlying140 rfl Tryz.sizeConfig
set_option maxRecDepth 100000 in
set_option maxHeartbeats 8000000 in
theorem py_Step_f (p:Plan) (v:PV) (c:Cfg) (k:Nat) (f:Frm) (w:World) (hp:PIn w p v) (hk:k < 3) (hf:frameF (c.t k) 0 = some f) :
    Calls Tryz.prog 109 #[.agg (plL p v).toArray,.agg (cfgL c).toArray,.int .i64 k,.bool false] w fun e w'=>StP (stepF p c k false) w e w':=by
 have HE:Hid (stepF p c k false = (walkF p ⟨c,c.t k,k + 1⟩ (lineAt p f.line) (workAllF ⟨c.s0,c.s1,c.s2,c.s3,f.p0,f.p1,f.p2,false⟩ p.nodes (lineAt p f.line).vals)).map fun w=>w.c.setT w.f k):=by show _ = _; unfold stepF; rw [if_pos (by omega),Int.toNat_natCast,hf]; simp
 have hbN:p.nodes.length ≤ 10000:=hp.bN
 have hbV:(lineAt p f.line).vals.length ≤ 10000:=hp.vals f.line
 have HP:=hide hp
 clear hp
 obtain ⟨hP,hC,hR,hbW,hsz⟩:=bigs3 w (.cells (plL p v).toArray 123) (.cells (cfgL c).toArray 140) (.cells (cfgL zCfg).toArray 140)
 go_enter Tryz.func109,Tryz.ntmps109
 go_upto_region 1 with (first | (refine wpl_box rfl 123 _ rfl (plL p v) rfl ?_) | (refine wpl_box rfl 140 _ rfl (cfgL c) rfl ?_) | (refine wpl_alloc rfl 140 rfl (cfgL zCfg) Tryz.zeroConfig ?_))
 have HPW:=hide (HP.out.below hbW)
 generalize ((w.alloc (.cells (plL p v).toArray 123)).alloc (.cells (cfgL c).toArray 140)).alloc (.cells (cfgL zCfg).toArray 140) = W at *
 have HBW:=hide hbW
 clear hbW
 have hrC:W.rangeAt (w.heap.size + 1) 0 (cfgL c):=range_whole hC
 go_wp2_with (first | (refine wpList_load_mid rfl 137 _ rfl _ _ rfl (thrL (c.t k)) _ (cfg_thr0 (by (repeat (first | assumption | exact rg_new (by simp) | refine rg_alloc ?_))) k hk) Tryz.underlying137 rfl Tryz.sizeThr ?_))
 refine (py_frame (c.t k) 0 _).mono ?_
 rintro e w1 ⟨rfl,hb1⟩
 have HB1:=hide (HBW.out.trans (hb1.mono (by omega)))
 have hz1:w.heap.size + 3 ≤ w1.heap.size:=by have:=hb1.size; omega
 have HP1:=hide (HPW.out.below hb1)
 have hP1:=(hb1.block _ (by omega)).trans hP
 have hC1:=(hb1.block _ (by omega)).trans hC
 have hR1:=(hb1.block _ (by omega)).trans hR
 clear hb1 hP hC hR hrC HPW
 rw [hf]
 clear hf
 unfold frmV
 have hrP:w1.rangeAt w.heap.size 0 (plL p v):=range_whole hP1
 go_wp2_with (first | (refine wpList_load_mid rfl 123 _ rfl _ _ rfl (plL p v) _ (by (repeat (first | assumption | exact rg_new (by simp) | refine rg_alloc ?_))) Tryz.underlying123 rfl Tryz.sizeProgram ?_))
 refine (pn_Line p v f.line _ (HP1.out.below ((Below.refl _ _).alloc (Nat.le_refl _) _))).mono ?_
 rintro e w2 ⟨sa,sc,rfl,hfl,hb2⟩
 have hb12:Below w1.heap.size w1 w2:=((Below.refl _ _).alloc (Nat.le_refl _) _).trans (hb2.mono (by simp))
 have HB2:=hide (HB1.out.trans (hb12.mono (by omega)))
 have hz2:w1.heap.size + 1 ≤ w2.heap.size:=by have:=hb2.size; simp at this; exact this
 have HP2:=hide (HP1.out.below hb12)
 have hP2:=(hb12.block _ (by omega)).trans hP1
 have hC2:=(hb12.block _ (by omega)).trans hC1
 have hR2:=(hb12.block _ (by omega)).trans hR1
 have hF2:w2.heap[w1.heap.size]? = some (.cells #[.int .i64 f.line,.bool f.p0,.bool f.p1,.bool f.p2] 134 (0,0)):=(hb2.block _ (by simp)).trans (heap_alloc_new _ _)
 have HFl:=hide hfl
 clear hb2 hb12 hP1 hC1 hR1 hrP HP1 HB1 hfl
 go_upto_region 7 with (first | (refine wpl_alloc rfl 204 rfl (lnL zLine (.slice none 0 0)) Tryz.zeroLine ?_) | (refine wpl_store_new rfl 204 _ _ rfl _ _ (lnL (lineAt p f.line) (.slice sa (lineAt p f.line).vals.length sc)) _ rfl rfl (by simp) Tryz.sizeLine rfl rfl ?_))
 have hl2:Below w2.heap.size w2 (w2.alloc (.cells (lnL (lineAt p f.line) (.slice sa (lineAt p f.line).vals.length sc)).toArray 204)):=(Below.refl _ _).alloc (Nat.le_refl _) _
 have hP3:=(hl2.block _ (by omega)).trans hP2
 have hC3:=(hl2.block _ (by omega)).trans hC2
 have hR3:=(hl2.block _ (by omega)).trans hR2
 have hF3:=(hl2.block _ (by omega)).trans hF2
 have HB3:=hide (HB2.out.trans (hl2.mono (by omega)))
 have HP3:=hide (HP2.out.below hl2)
 have HFl3:=hide (HFl.out.below hl2)
 have hz3:w2.heap.size + 1 = (w2.alloc (.cells (lnL (lineAt p f.line) (.slice sa (lineAt p f.line).vals.length sc)).toArray 204)).heap.size:=by simp
 have hL3:(w2.alloc (.cells (lnL (lineAt p f.line) (.slice sa (lineAt p f.line).vals.length sc)).toArray 204)).heap[w2.heap.size]? = some (.cells (lnL (lineAt p f.line) (.slice sa (lineAt p f.line).vals.length sc)).toArray 204 (0,0)):=heap_alloc_new _ _
 clear hP2 hC2 hR2 hF2 hl2 HB2 HP2 HFl
 generalize w2.alloc (.cells (lnL (lineAt p f.line) (.slice sa (lineAt p f.line).vals.length sc)).toArray 204) = w3 at *
 generalize w2.heap.size = L at *
 generalize w1.heap.size = F at *
 have l11:w3.cell? ⟨L,11,none⟩ = some (.bool (lineAt p f.line).choice):=cell_blk hL3 11 rfl
 clear l11
 have s0:w3.cell? ⟨w.heap.size + 1,0,none⟩ = some (.bool c.s0):=cell_blk hC3 0 rfl
 have s1:w3.cell? ⟨w.heap.size + 1,1,none⟩ = some (.bool c.s1):=cell_blk hC3 1 rfl
 have s2:w3.cell? ⟨w.heap.size + 1,2,none⟩ = some (.bool c.s2):=cell_blk hC3 2 rfl
 have s3:w3.cell? ⟨w.heap.size + 1,3,none⟩ = some (.bool c.s3):=cell_blk hC3 3 rfl
 have f1:w3.cell? ⟨F,1,none⟩ = some (.bool f.p0):=by simp [World.cell?,hF3]
 have f2:w3.cell? ⟨F,2,none⟩ = some (.bool f.p1):=by simp [World.cell?,hF3]
 have f3:w3.cell? ⟨F,3,none⟩ = some (.bool f.p2):=by simp [World.cell?,hF3]
 have l10:w3.cell? ⟨L,10,none⟩ = some (.slice sa (lineAt p f.line).vals.length sc):=cell_blk hL3 10 rfl
 have n5:w3.cell? ⟨w.heap.size,5,none⟩ = some (.slice v.aN p.nodes.length v.cN):=cell_blk hP3 5 rfl
 have g0:w.heap.size < w3.heap.size:=by omega
 have g1:L < w3.heap.size:=by omega
 have HC3:=hide hC3
 have HP3':=hide hP3
 have HL3:=hide hL3
 have HR3:=hide hR3
 clear hC3 hP3 hL3 hR3
 go_wp2_with fail
 refine (py_workOutAll ⟨c.s0,c.s1,c.s2,c.s3,f.p0,f.p1,f.p2,false⟩ p.nodes v.aN v.cN (lineAt p f.line).vals sa sc _ ((HP3.out.below ((Below.refl _ _).alloc (Nat.le_refl _) _)).at_.2.2.2) (HFl3.out.below ((Below.refl _ _).alloc (Nat.le_refl _) _)) hbN hbV).mono ?_
 rintro e w4 ⟨ao,cap,rfl,hvs,hb4⟩
 have hb34:Below w3.heap.size w3 w4:=((Below.refl _ _).alloc (Nat.le_refl _) _).trans (hb4.mono (by simp))
 have HB4:=hide (HB3.out.trans (hb34.mono (by omega)))
 have HP4:=hide (HP3.out.below hb34)
 have HV4:=hide hvs
 have hP4:=(hb34.block _ (by omega)).trans HP3'.out
 have hC4:=(hb34.block _ (by omega)).trans HC3.out
 have hR4:=(hb34.block _ (by omega)).trans HR3.out
 have hL4:=(hb34.block _ (by omega)).trans HL3.out
 have hz4:L < w4.heap.size:=Nat.lt_of_lt_of_le g1 hb34.size
 clear hb4 hb34 hvs s0 s1 s2 s3 f1 f2 f3 l10 n5 HB3 HP3 HFl3 HC3 HP3' HL3 HR3 hF3
 generalize hVs:workAllF ⟨c.s0,c.s1,c.s2,c.s3,f.p0,f.p1,f.p2,false⟩ p.nodes (lineAt p f.line).vals = vs at *
 clear hVs
 go_wp2_with fail
 have hrP:w4.rangeAt w.heap.size 0 (plL p v):=range_whole hP4
 have hrC:w4.rangeAt (w.heap.size + 1) 0 (cfgL c):=range_whole hC4
 refine wp_region_held_drew (S:=fun w'=>Below w4.heap.size w4 w') (by kernel_rfl) (Below.refl _ _).drew (fun hHeld=>?_)
 refine wpAnyH_take (i:=0) rfl (by kernel_rfl) (by kernel_rfl) (by kernel_rfl) (fun _ _ _ h=>h) (yieldsIf_load_mid (by rfl) _ _ rfl w.heap.size 0 rfl (plL p v) _ (fun _ h=>rg_below hrP h) Tryz.underlying123 rfl Tryz.sizeProgram) (by assumption) ?_
 try simp only [put_laws]
 refine wpAnyH_take (i:=1) rfl (by kernel_rfl) (by kernel_rfl) (by kernel_rfl) (fun _ _ _ h=>h) (yieldsIf_load_mid (by rfl) _ _ rfl (w.heap.size + 1) 0 rfl (cfgL c) _ (fun _ h=>rg_below hrC h) Tryz.underlying140 rfl Tryz.sizeConfig) (by assumption) ?_
 try simp only [put_laws]
 refine wpAnyH_take (i:=2) (v:=?_) rfl (by kernel_rfl) (by kernel_rfl) (by kernel_rfl) (fun _ _ _ h=>h) (Or.inl ⟨by rfl,?_⟩) (by assumption) ?_; rotate_left; focus (intro w' hSw; go_simp; (first | done | with_reducible rfl)); (try simp only [put_laws])
 refine wpAnyH_take (i:=3) (v:=?_) rfl (by kernel_rfl) (by kernel_rfl) (by kernel_rfl) (fun _ _ _ h=>h) (Or.inl ⟨by rfl,?_⟩) (by assumption) ?_; rotate_left; focus (intro w' hSw; go_simp; (first | done | with_reducible rfl)); (try simp only [put_laws])
 refine wpAnyH_take (i:=4) (v:=?_) rfl (by kernel_rfl) (by kernel_rfl) (by kernel_rfl) (fun _ _ _ h=>h) (Or.inl ⟨by rfl,?_⟩) (by assumption) ?_; rotate_left; focus (intro w' hSw; go_simp; (first | done | with_reducible rfl)); (try simp only [put_laws])
 refine wpAnyH_take (i:=5) rfl (by kernel_rfl) (by kernel_rfl) (by kernel_rfl) (fun _ _ _ h=>h) (yieldsIf_load_mid (by rfl) _ _ rfl (w.heap.size + 1) (7 + k * 17) rfl (thrL (c.t k)) _ (fun _ h=>cfg_thr0 (rg_below hrC h) k hk) Tryz.underlying137 rfl Tryz.sizeThr) (by assumption) ?_
 try simp only [put_laws]
 refine wpAnyH_take (i:=6) (v:=?_) rfl (by kernel_rfl) (by kernel_rfl) (by kernel_rfl) (fun _ _ _ h=>h) (Or.inl ⟨by rfl,?_⟩) (by assumption) ?_; rotate_left; focus (intro w' hSw; go_simp; (first | done | with_reducible rfl)); (try simp only [put_laws])
 refine wpAnyH_take (i:=7) (v:=.int .i64 (k + 1)) rfl (by kernel_rfl) (by kernel_rfl) (by kernel_rfl) (fun _ _ _ h=>h) (Or.inl ⟨by rfl,?_⟩) (by assumption) ?_
 focus (intro w' hSw; go_simp; exact IntWalk.i64_in _ (by omega))
 try simp only [put_laws]
 refine wpAnyH_take (i:=8) rfl (by kernel_rfl) (by kernel_rfl) (by kernel_rfl) (fun _ _ _ h=>h) (yieldsIf_build2 (by rfl) _ _ rfl [(0,.agg (plL p v).toArray),(1,.agg (cfgL c).toArray),(2,.agg (thrL (c.t k)).toArray),(3,.int .i64 (k + 1))] (by go_simp) (wlkL p v c (c.t k) (k + 1)) (Tryz.buildWalkerP p v c (c.t k) (k + 1))) (by assumption) ?_
 try simp only [put_laws]
 refine wpAnyH_ready (rs:=[9]) (by kernel_rfl) (by simp) ?_; refine AllReadyH.cons rfl (fun K hK=>?_) AllReadyH.nil
 rw [if_pos (by rfl)]
 refine wpo_alloc 259 rfl (zWlk) Tryz.zeroWalker ?_
 refine hK.out _ _ (hHeld.alloc hHeld.size _) (fun hHeld=>?_)
 clear hK K
 try simp only [put_laws]
 refine wpAnyH_ready (rs:=[10]) (by kernel_rfl) (by simp) ?_; refine AllReadyH.cons rfl (fun K hK=>?_) AllReadyH.nil
 rw [if_pos (by rfl)]
 refine wpo_store_new 259 _ _ rfl _ _ (wlkL p v c (c.t k) (k + 1)) _ rfl rfl rfl (Tryz.sizeWalkerL _ _ _ _ _) rfl (one_wlk p v c (c.t k) (k + 1)) ?_
 refine hK.out _ _ ((Below.refl _ _).drew.alloc (Nat.le_refl _) _) (fun hHeld=>?_)
 clear hK K
 try simp only [put_laws]
 refine wpAnyH_done (by kernel_rfl) ?_ _
 have HWK:Hid (WK w4.heap.size p v ⟨c,c.t k,k + 1⟩ (w4.drew.alloc (.cells (wlkL p v c (c.t k) (k + 1)).toArray 259))):=heap_alloc_new w4.drew _
 have hR5:=(hHeld.block _ (by omega)).trans hR4
 have hL5:=(hHeld.block _ (by omega)).trans hL4
 have HB5:=hide hHeld
 clear hHeld hrP hrC hP4 hC4 hR4 hL4
 generalize w4.drew.alloc (.cells (wlkL p v c (c.t k) (k + 1)).toArray 259) = w5 at *
 have hrL:w5.rangeAt L 0 (lnL (lineAt p f.line) (.slice sa (lineAt p f.line).vals.length sc)):=range_whole hL5
 go_wp2_with (first | (refine wpList_load_mid rfl 204 _ rfl _ _ rfl (lnL (lineAt p f.line) (.slice sa (lineAt p f.line).vals.length sc)) _ (by (repeat (first | assumption | exact rg_new (by simp) | refine rg_alloc ?_))) Tryz.underlying204 rfl Tryz.sizeLine ?_))
 refine (py_walk w4.heap.size p v ⟨c,c.t k,k + 1⟩ (lineAt p f.line) sa sc vs ao cap w4 _ HWK.out HP4.out HV4.out (Nat.le_refl _) HB5.out).mono ?_
 rintro e w6 ⟨rfl,hk6,hf6⟩
 have HB6:Hid (Below w4.heap.size w4 w6):=HB5.out.trans hf6.bel
 have hz5:w4.heap.size ≤ w5.heap.size:=HB5.out.size
 have hR6:=(hf6.blk _ (by omega) (by omega)).trans hR5
 cases hwk:walkF p ⟨c,c.t k,k + 1⟩ (lineAt p f.line) vs with
 | none =>
  have HE1:Hid (stepF p c k false = none):=by show _ = _; rw [HE.out,hwk]; rfl
  clear hk6 hf6 hrL hL5 hR5 hwk HE
  go_wp2_with (first | (refine wpl_zero rfl 140 rfl (cfgL zCfg) Tryz.buildConfig ?_) | (refine wpl_store_box rfl 140 _ _ rfl (w.heap.size + 2) _ (cfgL zCfg) _ rfl rfl hR6 Tryz.sizeConfig rfl (one_cfg _) ?_))
  refine bodyPost_ret (v:=.tuple #[.agg (cfgL zCfg).toArray,.bool false]) ?_ rfl (StP.none HE1.out (setRow_below (HB4.out.trans (HB6.out.mono (by omega))) (by omega)))
  exact res_cell_tmp Tryz.results109 rfl rfl (range_whole (setRow_heap hR6)) Tryz.underlying140 rfl Tryz.sizeConfig
 | some k1 =>
  obtain ⟨c2,hc2⟩:∃ c2,c2 = k1.c.setT k1.f k:=⟨_,rfl⟩
  have HE1:Hid (stepF p c k false = some c2):=by show _ = _; rw [HE.out,hwk,hc2]; rfl
  have HK:=hide (hk6 k1 hwk)
  have hrT:=(hk6 k1 hwk).rng
  have hth:w6.there w4.heap.size (13 + k * 17) (thrL k1.f).toArray.size:=by rw [thr_size]; exact WK.there (hk6 k1 hwk) k hk
  have HX:Hid ((w6.setCells w4.heap.size (13 + k * 17) (thrL k1.f)).rangeAt w4.heap.size 6 (cfgL c2)):=by show World.rangeAt _ _ _ _; rw [hc2]; exact (WK.setT (hk6 k1 hwk) k hk).2
  clear hc2
  have hz6:=(hk6 k1 hwk).lt
  clear hk6 hf6 hrL hL5 hR5 hwk HE
  go_upto_region 15 with (first | (refine wpList_load_mid rfl 137 _ rfl _ _ rfl (thrL k1.f) _ hrT Tryz.underlying137 rfl Tryz.sizeThr ?_) | (refine wpList_store_mid rfl 137 _ _ rfl w4.heap.size (13 + k * 17) (thrL k1.f).toArray rfl rfl hth (Tryz.sizeThrA _) (one_thrA _) ?_))
  have hR7:(w6.setCells w4.heap.size (13 + k * 17) (thrL k1.f)).heap[w.heap.size + 2]? = some (.cells (cfgL zCfg).toArray 140 (0,0)):=(setCells_other (by omega) _ _ _).trans hR6
  have HB7:=hide (setCells_below (b:=w4.heap.size) (by omega) (thrL k1.f) (13 + k * 17) _ (HB4.out.trans (HB6.out.mono (by omega))))
  clear hrT hth hR6
  generalize w6.setCells w4.heap.size (13 + k * 17) (thrL k1.f) = w7 at *
  have hrX:=HX.out
  go_wp2_with (first | (refine wpList_load_mid rfl 140 _ rfl _ _ rfl (cfgL c2) _ hrX Tryz.underlying140 rfl Tryz.sizeConfig ?_) | (refine wpl_store_box rfl 140 _ _ rfl (w.heap.size + 2) _ (cfgL c2) _ rfl rfl hR7 Tryz.sizeConfig rfl (one_cfg _) ?_))
  refine bodyPost_ret (v:=.tuple #[.agg (cfgL c2).toArray,.bool true]) ?_ rfl (StP.some HE1.out (setRow_below HB7.out (by omega)))
  exact res_cell_tmp Tryz.results109 rfl rfl (range_whole (setRow_heap hR7)) Tryz.underlying140 rfl Tryz.sizeConfig
set_option maxRecDepth 100000 in
set_option maxHeartbeats 8000000 in
theorem py_Step_t (p:Plan) (v:PV) (c:Cfg) (k:Nat) (f:Frm) (w:World) (hp:PIn w p v) (hk:k < 3) (hf:frameF (c.t k) 0 = some f) (hc:(lineAt p f.line).choice = true) :
    Calls Tryz.prog 109 #[.agg (plL p v).toArray,.agg (cfgL c).toArray,.int .i64 k,.bool true] w fun e w'=>StP (stepF p c k true) w e w':=by
 have HE:Hid (stepF p c k true = (walkF p ⟨c,c.t k,k + 1⟩ (lineAt p f.line) (workAllF ⟨c.s0,c.s1,c.s2,c.s3,f.p0,f.p1,f.p2,true⟩ p.nodes (lineAt p f.line).vals)).map fun w=>w.c.setT w.f k):=by show _ = _; unfold stepF; rw [if_pos (by omega),Int.toNat_natCast,hf]; simp [hc]
 have hbN:p.nodes.length ≤ 10000:=hp.bN
 have hbV:(lineAt p f.line).vals.length ≤ 10000:=hp.vals f.line
 have HP:=hide hp
 clear hp
 obtain ⟨hP,hC,hR,hbW,hsz⟩:=bigs3 w (.cells (plL p v).toArray 123) (.cells (cfgL c).toArray 140) (.cells (cfgL zCfg).toArray 140)
 go_enter Tryz.func109,Tryz.ntmps109
 go_upto_region 1 with (first | (refine wpl_box rfl 123 _ rfl (plL p v) rfl ?_) | (refine wpl_box rfl 140 _ rfl (cfgL c) rfl ?_) | (refine wpl_alloc rfl 140 rfl (cfgL zCfg) Tryz.zeroConfig ?_))
 have HPW:=hide (HP.out.below hbW)
 generalize ((w.alloc (.cells (plL p v).toArray 123)).alloc (.cells (cfgL c).toArray 140)).alloc (.cells (cfgL zCfg).toArray 140) = W at *
 have HBW:=hide hbW
 clear hbW
 have hrC:W.rangeAt (w.heap.size + 1) 0 (cfgL c):=range_whole hC
 go_wp2_with (first | (refine wpList_load_mid rfl 137 _ rfl _ _ rfl (thrL (c.t k)) _ (cfg_thr0 (by (repeat (first | assumption | exact rg_new (by simp) | refine rg_alloc ?_))) k hk) Tryz.underlying137 rfl Tryz.sizeThr ?_))
 refine (py_frame (c.t k) 0 _).mono ?_
 rintro e w1 ⟨rfl,hb1⟩
 have HB1:=hide (HBW.out.trans (hb1.mono (by omega)))
 have hz1:w.heap.size + 3 ≤ w1.heap.size:=by have:=hb1.size; omega
 have HP1:=hide (HPW.out.below hb1)
 have hP1:=(hb1.block _ (by omega)).trans hP
 have hC1:=(hb1.block _ (by omega)).trans hC
 have hR1:=(hb1.block _ (by omega)).trans hR
 clear hb1 hP hC hR hrC HPW
 rw [hf]
 clear hf
 unfold frmV
 have hrP:w1.rangeAt w.heap.size 0 (plL p v):=range_whole hP1
 go_wp2_with (first | (refine wpList_load_mid rfl 123 _ rfl _ _ rfl (plL p v) _ (by (repeat (first | assumption | exact rg_new (by simp) | refine rg_alloc ?_))) Tryz.underlying123 rfl Tryz.sizeProgram ?_))
 refine (pn_Line p v f.line _ (HP1.out.below ((Below.refl _ _).alloc (Nat.le_refl _) _))).mono ?_
 rintro e w2 ⟨sa,sc,rfl,hfl,hb2⟩
 have hb12:Below w1.heap.size w1 w2:=((Below.refl _ _).alloc (Nat.le_refl _) _).trans (hb2.mono (by simp))
 have HB2:=hide (HB1.out.trans (hb12.mono (by omega)))
 have hz2:w1.heap.size + 1 ≤ w2.heap.size:=by have:=hb2.size; simp at this; exact this
 have HP2:=hide (HP1.out.below hb12)
 have hP2:=(hb12.block _ (by omega)).trans hP1
 have hC2:=(hb12.block _ (by omega)).trans hC1
 have hR2:=(hb12.block _ (by omega)).trans hR1
 have hF2:w2.heap[w1.heap.size]? = some (.cells #[.int .i64 f.line,.bool f.p0,.bool f.p1,.bool f.p2] 134 (0,0)):=(hb2.block _ (by simp)).trans (heap_alloc_new _ _)
 have HFl:=hide hfl
 clear hb2 hb12 hP1 hC1 hR1 hrP HP1 HB1 hfl
 go_upto_region 7 with (first | (refine wpl_alloc rfl 204 rfl (lnL zLine (.slice none 0 0)) Tryz.zeroLine ?_) | (refine wpl_store_new rfl 204 _ _ rfl _ _ (lnL (lineAt p f.line) (.slice sa (lineAt p f.line).vals.length sc)) _ rfl rfl (by simp) Tryz.sizeLine rfl rfl ?_))
 have hl2:Below w2.heap.size w2 (w2.alloc (.cells (lnL (lineAt p f.line) (.slice sa (lineAt p f.line).vals.length sc)).toArray 204)):=(Below.refl _ _).alloc (Nat.le_refl _) _
 have hP3:=(hl2.block _ (by omega)).trans hP2
 have hC3:=(hl2.block _ (by omega)).trans hC2
 have hR3:=(hl2.block _ (by omega)).trans hR2
 have hF3:=(hl2.block _ (by omega)).trans hF2
 have HB3:=hide (HB2.out.trans (hl2.mono (by omega)))
 have HP3:=hide (HP2.out.below hl2)
 have HFl3:=hide (HFl.out.below hl2)
 have hz3:w2.heap.size + 1 = (w2.alloc (.cells (lnL (lineAt p f.line) (.slice sa (lineAt p f.line).vals.length sc)).toArray 204)).heap.size:=by simp
 have hL3:(w2.alloc (.cells (lnL (lineAt p f.line) (.slice sa (lineAt p f.line).vals.length sc)).toArray 204)).heap[w2.heap.size]? = some (.cells (lnL (lineAt p f.line) (.slice sa (lineAt p f.line).vals.length sc)).toArray 204 (0,0)):=heap_alloc_new _ _
 clear hP2 hC2 hR2 hF2 hl2 HB2 HP2 HFl
 generalize w2.alloc (.cells (lnL (lineAt p f.line) (.slice sa (lineAt p f.line).vals.length sc)).toArray 204) = w3 at *
 generalize w2.heap.size = L at *
 generalize w1.heap.size = F at *
 have l11:w3.cell? ⟨L,11,none⟩ = some (.bool (lineAt p f.line).choice):=cell_blk hL3 11 rfl
 rw [hc] at l11
 have s0:w3.cell? ⟨w.heap.size + 1,0,none⟩ = some (.bool c.s0):=cell_blk hC3 0 rfl
 have s1:w3.cell? ⟨w.heap.size + 1,1,none⟩ = some (.bool c.s1):=cell_blk hC3 1 rfl
 have s2:w3.cell? ⟨w.heap.size + 1,2,none⟩ = some (.bool c.s2):=cell_blk hC3 2 rfl
 have s3:w3.cell? ⟨w.heap.size + 1,3,none⟩ = some (.bool c.s3):=cell_blk hC3 3 rfl
 have f1:w3.cell? ⟨F,1,none⟩ = some (.bool f.p0):=by simp [World.cell?,hF3]
 have f2:w3.cell? ⟨F,2,none⟩ = some (.bool f.p1):=by simp [World.cell?,hF3]
 have f3:w3.cell? ⟨F,3,none⟩ = some (.bool f.p2):=by simp [World.cell?,hF3]
 have l10:w3.cell? ⟨L,10,none⟩ = some (.slice sa (lineAt p f.line).vals.length sc):=cell_blk hL3 10 rfl
 have n5:w3.cell? ⟨w.heap.size,5,none⟩ = some (.slice v.aN p.nodes.length v.cN):=cell_blk hP3 5 rfl
 have g0:w.heap.size < w3.heap.size:=by omega
 have g1:L < w3.heap.size:=by omega
 have HC3:=hide hC3
 have HP3':=hide hP3
 have HL3:=hide hL3
 have HR3:=hide hR3
 clear hC3 hP3 hL3 hR3
 go_wp2_with fail
 refine (py_workOutAll ⟨c.s0,c.s1,c.s2,c.s3,f.p0,f.p1,f.p2,true⟩ p.nodes v.aN v.cN (lineAt p f.line).vals sa sc _ ((HP3.out.below ((Below.refl _ _).alloc (Nat.le_refl _) _)).at_.2.2.2) (HFl3.out.below ((Below.refl _ _).alloc (Nat.le_refl _) _)) hbN hbV).mono ?_
 rintro e w4 ⟨ao,cap,rfl,hvs,hb4⟩
 have hb34:Below w3.heap.size w3 w4:=((Below.refl _ _).alloc (Nat.le_refl _) _).trans (hb4.mono (by simp))
 have HB4:=hide (HB3.out.trans (hb34.mono (by omega)))
 have HP4:=hide (HP3.out.below hb34)
 have HV4:=hide hvs
 have hP4:=(hb34.block _ (by omega)).trans HP3'.out
 have hC4:=(hb34.block _ (by omega)).trans HC3.out
 have hR4:=(hb34.block _ (by omega)).trans HR3.out
 have hL4:=(hb34.block _ (by omega)).trans HL3.out
 have hz4:L < w4.heap.size:=Nat.lt_of_lt_of_le g1 hb34.size
 clear hb4 hb34 hvs s0 s1 s2 s3 f1 f2 f3 l10 n5 HB3 HP3 HFl3 HC3 HP3' HL3 HR3 hF3 l11
 generalize hVs:workAllF ⟨c.s0,c.s1,c.s2,c.s3,f.p0,f.p1,f.p2,true⟩ p.nodes (lineAt p f.line).vals = vs at *
 clear hVs
 go_wp2_with fail
 have hrP:w4.rangeAt w.heap.size 0 (plL p v):=range_whole hP4
 have hrC:w4.rangeAt (w.heap.size + 1) 0 (cfgL c):=range_whole hC4
 refine wp_region_held_drew (S:=fun w'=>Below w4.heap.size w4 w') (by kernel_rfl) (Below.refl _ _).drew (fun hHeld=>?_)
 refine wpAnyH_take (i:=0) rfl (by kernel_rfl) (by kernel_rfl) (by kernel_rfl) (fun _ _ _ h=>h) (yieldsIf_load_mid (by rfl) _ _ rfl w.heap.size 0 rfl (plL p v) _ (fun _ h=>rg_below hrP h) Tryz.underlying123 rfl Tryz.sizeProgram) (by assumption) ?_
 try simp only [put_laws]
 refine wpAnyH_take (i:=1) rfl (by kernel_rfl) (by kernel_rfl) (by kernel_rfl) (fun _ _ _ h=>h) (yieldsIf_load_mid (by rfl) _ _ rfl (w.heap.size + 1) 0 rfl (cfgL c) _ (fun _ h=>rg_below hrC h) Tryz.underlying140 rfl Tryz.sizeConfig) (by assumption) ?_
 try simp only [put_laws]
 refine wpAnyH_take (i:=2) (v:=?_) rfl (by kernel_rfl) (by kernel_rfl) (by kernel_rfl) (fun _ _ _ h=>h) (Or.inl ⟨by rfl,?_⟩) (by assumption) ?_; rotate_left; focus (intro w' hSw; go_simp; (first | done | with_reducible rfl)); (try simp only [put_laws])
 refine wpAnyH_take (i:=3) (v:=?_) rfl (by kernel_rfl) (by kernel_rfl) (by kernel_rfl) (fun _ _ _ h=>h) (Or.inl ⟨by rfl,?_⟩) (by assumption) ?_; rotate_left; focus (intro w' hSw; go_simp; (first | done | with_reducible rfl)); (try simp only [put_laws])
 refine wpAnyH_take (i:=4) (v:=?_) rfl (by kernel_rfl) (by kernel_rfl) (by kernel_rfl) (fun _ _ _ h=>h) (Or.inl ⟨by rfl,?_⟩) (by assumption) ?_; rotate_left; focus (intro w' hSw; go_simp; (first | done | with_reducible rfl)); (try simp only [put_laws])
 refine wpAnyH_take (i:=5) rfl (by kernel_rfl) (by kernel_rfl) (by kernel_rfl) (fun _ _ _ h=>h) (yieldsIf_load_mid (by rfl) _ _ rfl (w.heap.size + 1) (7 + k * 17) rfl (thrL (c.t k)) _ (fun _ h=>cfg_thr0 (rg_below hrC h) k hk) Tryz.underlying137 rfl Tryz.sizeThr) (by assumption) ?_
 try simp only [put_laws]
 refine wpAnyH_take (i:=6) (v:=?_) rfl (by kernel_rfl) (by kernel_rfl) (by kernel_rfl) (fun _ _ _ h=>h) (Or.inl ⟨by rfl,?_⟩) (by assumption) ?_; rotate_left; focus (intro w' hSw; go_simp; (first | done | with_reducible rfl)); (try simp only [put_laws])
 refine wpAnyH_take (i:=7) (v:=.int .i64 (k + 1)) rfl (by kernel_rfl) (by kernel_rfl) (by kernel_rfl) (fun _ _ _ h=>h) (Or.inl ⟨by rfl,?_⟩) (by assumption) ?_
 focus (intro w' hSw; go_simp; exact IntWalk.i64_in _ (by omega))
 try simp only [put_laws]
 refine wpAnyH_take (i:=8) rfl (by kernel_rfl) (by kernel_rfl) (by kernel_rfl) (fun _ _ _ h=>h) (yieldsIf_build2 (by rfl) _ _ rfl [(0,.agg (plL p v).toArray),(1,.agg (cfgL c).toArray),(2,.agg (thrL (c.t k)).toArray),(3,.int .i64 (k + 1))] (by go_simp) (wlkL p v c (c.t k) (k + 1)) (Tryz.buildWalkerP p v c (c.t k) (k + 1))) (by assumption) ?_
 try simp only [put_laws]
 refine wpAnyH_ready (rs:=[9]) (by kernel_rfl) (by simp) ?_; refine AllReadyH.cons rfl (fun K hK=>?_) AllReadyH.nil
 rw [if_pos (by rfl)]
 refine wpo_alloc 259 rfl (zWlk) Tryz.zeroWalker ?_
 refine hK.out _ _ (hHeld.alloc hHeld.size _) (fun hHeld=>?_)
 clear hK K
 try simp only [put_laws]
 refine wpAnyH_ready (rs:=[10]) (by kernel_rfl) (by simp) ?_; refine AllReadyH.cons rfl (fun K hK=>?_) AllReadyH.nil
 rw [if_pos (by rfl)]
 refine wpo_store_new 259 _ _ rfl _ _ (wlkL p v c (c.t k) (k + 1)) _ rfl rfl rfl (Tryz.sizeWalkerL _ _ _ _ _) rfl (one_wlk p v c (c.t k) (k + 1)) ?_
 refine hK.out _ _ ((Below.refl _ _).drew.alloc (Nat.le_refl _) _) (fun hHeld=>?_)
 clear hK K
 try simp only [put_laws]
 refine wpAnyH_done (by kernel_rfl) ?_ _
 have HWK:Hid (WK w4.heap.size p v ⟨c,c.t k,k + 1⟩ (w4.drew.alloc (.cells (wlkL p v c (c.t k) (k + 1)).toArray 259))):=heap_alloc_new w4.drew _
 have hR5:=(hHeld.block _ (by omega)).trans hR4
 have hL5:=(hHeld.block _ (by omega)).trans hL4
 have HB5:=hide hHeld
 clear hHeld hrP hrC hP4 hC4 hR4 hL4
 generalize w4.drew.alloc (.cells (wlkL p v c (c.t k) (k + 1)).toArray 259) = w5 at *
 have hrL:w5.rangeAt L 0 (lnL (lineAt p f.line) (.slice sa (lineAt p f.line).vals.length sc)):=range_whole hL5
 go_wp2_with (first | (refine wpList_load_mid rfl 204 _ rfl _ _ rfl (lnL (lineAt p f.line) (.slice sa (lineAt p f.line).vals.length sc)) _ (by (repeat (first | assumption | exact rg_new (by simp) | refine rg_alloc ?_))) Tryz.underlying204 rfl Tryz.sizeLine ?_))
 refine (py_walk w4.heap.size p v ⟨c,c.t k,k + 1⟩ (lineAt p f.line) sa sc vs ao cap w4 _ HWK.out HP4.out HV4.out (Nat.le_refl _) HB5.out).mono ?_
 rintro e w6 ⟨rfl,hk6,hf6⟩
 have HB6:Hid (Below w4.heap.size w4 w6):=HB5.out.trans hf6.bel
 have hz5:w4.heap.size ≤ w5.heap.size:=HB5.out.size
 have hR6:=(hf6.blk _ (by omega) (by omega)).trans hR5
 cases hwk:walkF p ⟨c,c.t k,k + 1⟩ (lineAt p f.line) vs with
 | none =>
  have HE1:Hid (stepF p c k true = none):=by show _ = _; rw [HE.out,hwk]; rfl
  clear hk6 hf6 hrL hL5 hR5 hwk HE
  go_wp2_with (first | (refine wpl_zero rfl 140 rfl (cfgL zCfg) Tryz.buildConfig ?_) | (refine wpl_store_box rfl 140 _ _ rfl (w.heap.size + 2) _ (cfgL zCfg) _ rfl rfl hR6 Tryz.sizeConfig rfl (one_cfg _) ?_))
  refine bodyPost_ret (v:=.tuple #[.agg (cfgL zCfg).toArray,.bool false]) ?_ rfl (StP.none HE1.out (setRow_below (HB4.out.trans (HB6.out.mono (by omega))) (by omega)))
  exact res_cell_tmp Tryz.results109 rfl rfl (range_whole (setRow_heap hR6)) Tryz.underlying140 rfl Tryz.sizeConfig
 | some k1 =>
  obtain ⟨c2,hc2⟩:∃ c2,c2 = k1.c.setT k1.f k:=⟨_,rfl⟩
  have HE1:Hid (stepF p c k true = some c2):=by show _ = _; rw [HE.out,hwk,hc2]; rfl
  have HK:=hide (hk6 k1 hwk)
  have hrT:=(hk6 k1 hwk).rng
  have hth:w6.there w4.heap.size (13 + k * 17) (thrL k1.f).toArray.size:=by rw [thr_size]; exact WK.there (hk6 k1 hwk) k hk
  have HX:Hid ((w6.setCells w4.heap.size (13 + k * 17) (thrL k1.f)).rangeAt w4.heap.size 6 (cfgL c2)):=by show World.rangeAt _ _ _ _; rw [hc2]; exact (WK.setT (hk6 k1 hwk) k hk).2
  clear hc2
  have hz6:=(hk6 k1 hwk).lt
  clear hk6 hf6 hrL hL5 hR5 hwk HE
  go_upto_region 15 with (first | (refine wpList_load_mid rfl 137 _ rfl _ _ rfl (thrL k1.f) _ hrT Tryz.underlying137 rfl Tryz.sizeThr ?_) | (refine wpList_store_mid rfl 137 _ _ rfl w4.heap.size (13 + k * 17) (thrL k1.f).toArray rfl rfl hth (Tryz.sizeThrA _) (one_thrA _) ?_))
  have hR7:(w6.setCells w4.heap.size (13 + k * 17) (thrL k1.f)).heap[w.heap.size + 2]? = some (.cells (cfgL zCfg).toArray 140 (0,0)):=(setCells_other (by omega) _ _ _).trans hR6
  have HB7:=hide (setCells_below (b:=w4.heap.size) (by omega) (thrL k1.f) (13 + k * 17) _ (HB4.out.trans (HB6.out.mono (by omega))))
  clear hrT hth hR6
  generalize w6.setCells w4.heap.size (13 + k * 17) (thrL k1.f) = w7 at *
  have hrX:=HX.out
  go_wp2_with (first | (refine wpList_load_mid rfl 140 _ rfl _ _ rfl (cfgL c2) _ hrX Tryz.underlying140 rfl Tryz.sizeConfig ?_) | (refine wpl_store_box rfl 140 _ _ rfl (w.heap.size + 2) _ (cfgL c2) _ rfl rfl hR7 Tryz.sizeConfig rfl (one_cfg _) ?_))
  refine bodyPost_ret (v:=.tuple #[.agg (cfgL c2).toArray,.bool true]) ?_ rfl (StP.some HE1.out (setRow_below HB7.out (by omega)))
  exact res_cell_tmp Tryz.results109 rfl rfl (range_whole (setRow_heap hR7)) Tryz.underlying140 rfl Tryz.sizeConfig
theorem py_Step (p:Plan) (v:PV) (c:Cfg) (i:Int) (ch:Bool) (w:World) (hp:PIn w p v) :
    Calls Tryz.prog 109 #[.agg (plL p v).toArray,.agg (cfgL c).toArray,.int .i64 i,.bool ch] w fun e w'=>StP (stepF p c i ch) w e w':=by
 by_cases hl:i < 0
 ·exact py_Step_low p v c i ch w hp hl
 by_cases hh:3 ≤ i
 ·exact py_Step_high p v c i ch w hp hh
 obtain ⟨k,rfl⟩:=Int.eq_ofNat_of_zero_le (Int.not_lt.1 hl)
 have hk:k < 3:=by omega
 cases hf:frameF (c.t k) 0 with
 | none=>exact py_Step_ended p v c k ch w hp hk hf
 | some f =>
  cases ch with
  | false=>exact py_Step_f p v c k f w hp hk hf
  | true =>
   cases hc:(lineAt p f.line).choice with
   | false=>exact py_Step_unasked p v c k f w hp hk hf hc
   | true=>exact py_Step_t p v c k f w hp hk hf hc
end Go.Proofs.YtmfcpbhdggonfaaGreatDoor
