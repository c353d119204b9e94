/- Contracts of the program's package play: what a step touches. -/
import Derived.Test.YtmfcpbhdggonfaaGreatDoorMjAZ
namespace Go.Proofs.YtmfcpbhdggonfaaGreatDoor
open Go.RowKit RR
theorem Tryz.sizeTouch:(Tryz.prog.info? 265).map (·.size) = some 8:=by kernel_rfl
theorem Tryz.zeroTouch:(Tryz.prog.info? 265).bind (·.zero) = some (.agg (tchL zTch).toArray):=by kernel_rfl
theorem one_tch (a:Tch):(tchL a).all (·.oneCell') = true:=rfl
theorem sz_alloc (w:World) (ob:Obj):(w.alloc ob).heap.size = w.heap.size + 1:=by simp
def TcP (r:Tch) (w:World) (e:Ending) (w':World):Prop:=e = .returned (.agg (tchL r).toArray)∧Below w.heap.size w w'
set_option maxRecDepth 100000 in
set_option maxHeartbeats 8000000 in
theorem py_touchOf_none (p:Plan) (v:PV) (t:Thr) (w:World) (hp:PIn w p v) (hf:frameF t 0 = none) :
    Calls Tryz.prog 160 #[.agg (plL p v).toArray,.agg (thrL t).toArray] w fun e w'=>TcP (touchF p t) w e w':=by
 have HE:Hid (touchF p t = zTch):=by show _ = _; unfold touchF; rw [hf]
 have HP:=hide hp
 clear hp
 obtain ⟨hP,hT,hQ,hbW,hsz⟩:=bigs3 w (.cells (plL p v).toArray 123) (.cells (thrL t).toArray 137) (.cells (tchL zTch).toArray 265)
 go_enter Tryz.func160,Tryz.ntmps160
 go_upto_region 2 with (first | (refine wpl_box rfl 123 _ rfl (plL p v) rfl ?_) | (refine wpl_box rfl 137 _ rfl (thrL t) rfl ?_) | (refine wpl_alloc rfl 265 rfl (tchL zTch) Tryz.zeroTouch ?_))
 try simp only [sz_alloc]
 have HPW:=hide (HP.out.below hbW)
 generalize ((w.alloc (.cells (plL p v).toArray 123)).alloc (.cells (thrL t).toArray 137)).alloc (.cells (tchL zTch).toArray 265) = W0 at *
 have hR:(W0.alloc (.cells (tchL zTch).toArray 265)).heap[w.heap.size + 3]? = some (.cells (tchL zTch).toArray 265 (0,0)):=heap_new hsz.symm
 have hb0:Below W0.heap.size W0 (W0.alloc (.cells (tchL zTch).toArray 265)):=(Below.refl _ _).alloc (Nat.le_refl _) _
 have hP:=(hb0.block _ (by omega)).trans hP
 have hT:=(hb0.block _ (by omega)).trans hT
 have hQ:=(hb0.block _ (by omega)).trans hQ
 have HBW:=hide (hbW.trans (hb0.mono (by omega)))
 have HPW:=hide (HPW.out.below hb0)
 have hsz:(W0.alloc (.cells (tchL zTch).toArray 265)).heap.size = w.heap.size + 4:=by simp [hsz]
 clear hb0 hbW
 generalize W0.alloc (.cells (tchL zTch).toArray 265) = W at *
 have hrT:W.rangeAt (w.heap.size + 1) 0 (thrL t):=range_whole hT
 go_wp2_with (first | (refine wpList_load_mid rfl 137 _ rfl _ _ rfl (thrL t) _ (by (repeat (first | assumption | exact rg_new (by simp) | refine rg_alloc ?_))) Tryz.underlying137 rfl Tryz.sizeThr ?_))
 refine (py_frame t 0 _).mono ?_
 rintro e w1 ⟨rfl,hb1⟩
 have HB1:=hide (HBW.out.trans (hb1.mono (by omega)))
 have hz1:w.heap.size + 4 ≤ w1.heap.size:=by have:=hb1.size; omega
 have HP1:=hide (HPW.out.below hb1)
 have hP1:=(hb1.block _ (by omega)).trans hP
 have hT1:=(hb1.block _ (by omega)).trans hT
 have hQ1:=(hb1.block _ (by omega)).trans hQ
 have hR1:=(hb1.block _ (by omega)).trans hR
 clear hb1 hP hT hQ hR HPW hrT
 rw [hf]
 clear hf
 unfold frmV
 have hb2:Below w1.heap.size w1 (w1.alloc (.cells #[.int .i64 0,.bool false,.bool false,.bool false] 134)):=(Below.refl _ _).alloc (Nat.le_refl _) _
 have HB2:=hide (HB1.out.trans (hb2.mono (by omega)))
 have hR2:=(hb2.block _ (by omega)).trans hR1
 have hQ2:=(hb2.block _ (by omega)).trans hQ1
 go_upto_region 3 with fail
 clear hP1 hT1 hQ1 hR1 HP1 HB1 hb2
 generalize w1.alloc (.cells #[.int .i64 0,.bool false,.bool false,.bool false] 134) = w2 at *
 go_wp2_with (first | (refine wpList_load_mid rfl 265 _ rfl _ _ rfl (tchL zTch) _ (range_whole hR2) Tryz.underlying265 rfl Tryz.sizeTouch ?_) | (refine wpl_store_box rfl 265 _ _ rfl (w.heap.size + 2) _ (tchL zTch) _ rfl rfl hQ2 Tryz.sizeTouch rfl (one_tch _) ?_))
 refine bodyPost_ret (v:=.agg (tchL zTch).toArray) ?_ rfl ⟨by rw [HE.out],setRow_below HB2.out (by omega)⟩
 exact res_cell Tryz.results160 rfl (range_whole (setRow_heap hQ2)) Tryz.underlying265 rfl Tryz.sizeTouch
set_option maxRecDepth 100000 in
set_option maxHeartbeats 8000000 in
theorem py_touchOf_some (p:Plan) (v:PV) (t:Thr) (f:Frm) (w:World) (hp:PIn w p v) (hf:frameF t 0 = some f) :
    Calls Tryz.prog 160 #[.agg (plL p v).toArray,.agg (thrL t).toArray] w fun e w'=>TcP (touchF p t) w e w':=by
 have HE0:Hid (touchF p t = if (writtenF p t (lineAt p f.line)).own = 1∧0 ≤ (writtenF p t (lineAt p f.line)).num∧(writtenF p t (lineAt p f.line)).num < 4 then Tch.setW ⟨(lineAt p f.line).r0,(lineAt p f.line).r1,(lineAt p f.line).r2,(lineAt p f.line).r3,false,false,false,false⟩ (writtenF p t (lineAt p f.line)).num.toNat else ⟨(lineAt p f.line).r0,(lineAt p f.line).r1,(lineAt p f.line).r2,(lineAt p f.line).r3,false,false,false,false⟩):=by show _ = _; unfold touchF; rw [hf]
 have HP:=hide hp
 clear hp
 obtain ⟨hP,hT,hQ,hbW,hsz⟩:=bigs3 w (.cells (plL p v).toArray 123) (.cells (thrL t).toArray 137) (.cells (tchL zTch).toArray 265)
 go_enter Tryz.func160,Tryz.ntmps160
 go_upto_region 2 with (first | (refine wpl_box rfl 123 _ rfl (plL p v) rfl ?_) | (refine wpl_box rfl 137 _ rfl (thrL t) rfl ?_) | (refine wpl_alloc rfl 265 rfl (tchL zTch) Tryz.zeroTouch ?_))
 try simp only [sz_alloc]
 have HPW:=hide (HP.out.below hbW)
 generalize ((w.alloc (.cells (plL p v).toArray 123)).alloc (.cells (thrL t).toArray 137)).alloc (.cells (tchL zTch).toArray 265) = W0 at *
 have hR:(W0.alloc (.cells (tchL zTch).toArray 265)).heap[w.heap.size + 3]? = some (.cells (tchL zTch).toArray 265 (0,0)):=heap_new hsz.symm
 have hb0:Below W0.heap.size W0 (W0.alloc (.cells (tchL zTch).toArray 265)):=(Below.refl _ _).alloc (Nat.le_refl _) _
 have hP:=(hb0.block _ (by omega)).trans hP
 have hT:=(hb0.block _ (by omega)).trans hT
 have hQ:=(hb0.block _ (by omega)).trans hQ
 have HBW:=hide (hbW.trans (hb0.mono (by omega)))
 have HPW:=hide (HPW.out.below hb0)
 have hsz:(W0.alloc (.cells (tchL zTch).toArray 265)).heap.size = w.heap.size + 4:=by simp [hsz]
 clear hb0 hbW
 generalize W0.alloc (.cells (tchL zTch).toArray 265) = W at *
 have hrT:W.rangeAt (w.heap.size + 1) 0 (thrL t):=range_whole hT
 go_wp2_with (first | (refine wpList_load_mid rfl 137 _ rfl _ _ rfl (thrL t) _ (by (repeat (first | assumption | exact rg_new (by simp) | refine rg_alloc ?_))) Tryz.underlying137 rfl Tryz.sizeThr ?_))
 refine (py_frame t 0 _).mono ?_
 rintro e w1 ⟨rfl,hb1⟩
 have HB1:=hide (HBW.out.trans (hb1.mono (by omega)))
 have hz1:w.heap.size + 4 ≤ w1.heap.size:=by have:=hb1.size; omega
 have HP1:=hide (HPW.out.below hb1)
 have hP1:=(hb1.block _ (by omega)).trans hP
 have hT1:=(hb1.block _ (by omega)).trans hT
 have hQ1:=(hb1.block _ (by omega)).trans hQ
 have hR1:=(hb1.block _ (by omega)).trans hR
 clear hb1 hP hT hQ hR HPW hrT
 rw [hf]
 clear hf
 unfold frmV
 have hrP:w1.rangeAt w.heap.size 0 (plL p v):=range_whole hP1
 go_wp2_with (first | (refine wpList_load_mid rfl 123 _ rfl _ _ rfl (plL p v) _ (by (repeat (first | assumption | exact rg_new (by simp) | refine rg_alloc ?_))) Tryz.underlying123 rfl Tryz.sizeProgram ?_))
 refine (pn_Line p v f.line _ (HP1.out.below ((Below.refl _ _).alloc (Nat.le_refl _) _))).mono ?_
 rintro e w2 ⟨sa,sc,rfl,hfl,hb2⟩
 have hb12:Below w1.heap.size w1 w2:=((Below.refl _ _).alloc (Nat.le_refl _) _).trans (hb2.mono (by simp))
 have HB2:=hide (HB1.out.trans (hb12.mono (by omega)))
 have hz2:w1.heap.size + 1 ≤ w2.heap.size:=by have:=hb2.size; simp at this; exact this
 have HP2:=hide (HP1.out.below hb12)
 have hP2:=(hb12.block _ (by omega)).trans hP1
 have hT2:=(hb12.block _ (by omega)).trans hT1
 have hQ2:=(hb12.block _ (by omega)).trans hQ1
 have hR2:=(hb12.block _ (by omega)).trans hR1
 clear hb2 hb12 hP1 hT1 hQ1 hR1 hrP HP1 HB1 hfl
 go_upto_region 6 with (first | (refine wpl_alloc rfl 204 rfl (lnL zLine (.slice none 0 0)) Tryz.zeroLine ?_) | (refine wpl_store_new rfl 204 _ _ rfl _ _ (lnL (lineAt p f.line) (.slice sa (lineAt p f.line).vals.length sc)) _ rfl rfl (by simp) Tryz.sizeLine rfl rfl ?_))
 have hl2:Below w2.heap.size w2 (w2.alloc (.cells (lnL (lineAt p f.line) (.slice sa (lineAt p f.line).vals.length sc)).toArray 204)):=(Below.refl _ _).alloc (Nat.le_refl _) _
 have hP3:=(hl2.block _ (by omega)).trans hP2
 have hT3:=(hl2.block _ (by omega)).trans hT2
 have hQ3:=(hl2.block _ (by omega)).trans hQ2
 have hR3:=(hl2.block _ (by omega)).trans hR2
 have HB3:=hide (HB2.out.trans (hl2.mono (by omega)))
 have HP3:=hide (HP2.out.below hl2)
 have hz3:w2.heap.size + 1 = (w2.alloc (.cells (lnL (lineAt p f.line) (.slice sa (lineAt p f.line).vals.length sc)).toArray 204)).heap.size:=by simp
 have hL3:(w2.alloc (.cells (lnL (lineAt p f.line) (.slice sa (lineAt p f.line).vals.length sc)).toArray 204)).heap[w2.heap.size]? = some (.cells (lnL (lineAt p f.line) (.slice sa (lineAt p f.line).vals.length sc)).toArray 204 (0,0)):=heap_alloc_new _ _
 clear hP2 hT2 hQ2 hR2 hl2 HB2 HP2
 generalize w2.alloc (.cells (lnL (lineAt p f.line) (.slice sa (lineAt p f.line).vals.length sc)).toArray 204) = w3 at *
 generalize w2.heap.size = L at *
 have r0:w3.cell? ⟨L,12,none⟩ = some (.bool (lineAt p f.line).r0):=cell_blk hL3 12 rfl
 have r1:w3.cell? ⟨L,13,none⟩ = some (.bool (lineAt p f.line).r1):=cell_blk hL3 13 rfl
 have r2:w3.cell? ⟨L,14,none⟩ = some (.bool (lineAt p f.line).r2):=cell_blk hL3 14 rfl
 have r3:w3.cell? ⟨L,15,none⟩ = some (.bool (lineAt p f.line).r3):=cell_blk hL3 15 rfl
 have y0:w3.cell? ⟨w.heap.size + 3,0,none⟩ = some (.bool false):=cell_blk hR3 0 rfl
 have y1:w3.cell? ⟨w.heap.size + 3,1,none⟩ = some (.bool false):=cell_blk hR3 1 rfl
 have y2:w3.cell? ⟨w.heap.size + 3,2,none⟩ = some (.bool false):=cell_blk hR3 2 rfl
 have y3:w3.cell? ⟨w.heap.size + 3,3,none⟩ = some (.bool false):=cell_blk hR3 3 rfl
 have fz0:w3.frozen? ⟨w.heap.size + 3,0,none⟩ = false:=by simp [World.frozen?,hR3]
 have fz1:w3.frozen? ⟨w.heap.size + 3,1,none⟩ = false:=by simp [World.frozen?,hR3]
 have fz2:w3.frozen? ⟨w.heap.size + 3,2,none⟩ = false:=by simp [World.frozen?,hR3]
 have fz3:w3.frozen? ⟨w.heap.size + 3,3,none⟩ = false:=by simp [World.frozen?,hR3]
 have HR4:Hid ((((((w3.setCell ⟨w.heap.size + 3,0,none⟩ (.bool (lineAt p f.line).r0)).setCell ⟨w.heap.size + 3,1,none⟩ (.bool (lineAt p f.line).r1)).setCell ⟨w.heap.size + 3,2,none⟩ (.bool (lineAt p f.line).r2)).setCell ⟨w.heap.size + 3,3,none⟩ (.bool (lineAt p f.line).r3))).heap[w.heap.size + 3]? = some (.cells (tchL ⟨(lineAt p f.line).r0,(lineAt p f.line).r1,(lineAt p f.line).r2,(lineAt p f.line).r3,false,false,false,false⟩).toArray 265 (0,0))):=(setOne_heap (setOne_heap (setOne_heap (setOne_heap hR3 0 _) 1 _) 2 _) 3 _).trans rfl
 have HF4:Hid (Fr1 (w.heap.size + 3) w3 ((((w3.setCell ⟨w.heap.size + 3,0,none⟩ (.bool (lineAt p f.line).r0)).setCell ⟨w.heap.size + 3,1,none⟩ (.bool (lineAt p f.line).r1)).setCell ⟨w.heap.size + 3,2,none⟩ (.bool (lineAt p f.line).r2)).setCell ⟨w.heap.size + 3,3,none⟩ (.bool (lineAt p f.line).r3))):=((((Fr1.refl _ _).setCell 0 _).setCell 1 _).setCell 2 _).setCell 3 _
 go_upto_region 7 with fail
 clear r0 r1 r2 r3 y0 y1 y2 y3 fz0 fz1 fz2 fz3 hR3
 generalize (((w3.setCell ⟨w.heap.size + 3,0,none⟩ (.bool (lineAt p f.line).r0)).setCell ⟨w.heap.size + 3,1,none⟩ (.bool (lineAt p f.line).r1)).setCell ⟨w.heap.size + 3,2,none⟩ (.bool (lineAt p f.line).r2)).setCell ⟨w.heap.size + 3,3,none⟩ (.bool (lineAt p f.line).r3) = w4 at *
 have hP4:=(HF4.out.blk _ (by omega) (by omega)).trans hP3
 have hT4:=(HF4.out.blk _ (by omega) (by omega)).trans hT3
 have hQ4:=(HF4.out.blk _ (by omega) (by omega)).trans hQ3
 have hL4:=(HF4.out.blk _ (by omega) (by omega)).trans hL3
 have hz4:w3.heap.size ≤ w4.heap.size:=HF4.out.bel.size
 have HB4:=hide (HB3.out.trans (HF4.out.bel.mono (by omega)))
 have HP4:=hide (HP.out.below HB4.out)
 have hrP:w4.rangeAt w.heap.size 0 (plL p v):=range_whole hP4
 have hrT:w4.rangeAt (w.heap.size + 1) 0 (thrL t):=range_whole hT4
 have hrL:w4.rangeAt L 0 (lnL (lineAt p f.line) (.slice sa (lineAt p f.line).vals.length sc)):=range_whole hL4
 have HR4':=hide HR4.out
 have HQ4:=hide hQ4
 clear hP3 hT3 hQ3 hL3 HP3 HB3 HF4 hP4 hT4 hL4 hQ4 HR4
 go_wp2_with (first | (refine wpList_load_mid rfl 123 _ rfl _ _ rfl (plL p v) _ (by (repeat (first | assumption | exact rg_new (by simp) | refine rg_alloc ?_))) Tryz.underlying123 rfl Tryz.sizeProgram ?_) | (refine wpList_load_mid rfl 137 _ rfl _ _ rfl (thrL t) _ (by (repeat (first | assumption | exact rg_new (by simp) | refine rg_alloc ?_))) Tryz.underlying137 rfl Tryz.sizeThr ?_) | (refine wpList_load_mid rfl 204 _ rfl _ _ rfl (lnL (lineAt p f.line) (.slice sa (lineAt p f.line).vals.length sc)) _ (by (repeat (first | assumption | exact rg_new (by simp) | refine rg_alloc ?_))) Tryz.underlying204 rfl Tryz.sizeLine ?_))
 refine (py_writtenBy p v t (lineAt p f.line) _ _ HP4.out).mono ?_
 rintro e w5 ⟨rfl,hb5⟩
 have HB5:=hide (HB4.out.trans (hb5.mono (by omega)))
 have hR5:=(hb5.block _ (by omega)).trans HR4'.out
 have hQ5:=(hb5.block _ (by omega)).trans HQ4.out
 have hz5:w4.heap.size ≤ w5.heap.size:=hb5.size
 clear hb5 hrP hrT hrL HP4 HB4 HR4' HQ4
 generalize writtenF p t (lineAt p f.line) = r at *
 go_upto_region 8 with fail
 have hb6:Below w5.heap.size w5 (w5.alloc (.cells #[.int .i64 r.own,.int .i64 r.num] 193)):=(Below.refl _ _).alloc (Nat.le_refl _) _
 have HB6:=hide (HB5.out.trans (hb6.mono (by omega)))
 have hR6:=(hb6.block _ (by omega)).trans hR5
 have hQ6:=(hb6.block _ (by omega)).trans hQ5
 have t0:(w5.alloc (.cells #[.int .i64 r.own,.int .i64 r.num] 193)).cell? ⟨w5.heap.size,0,none⟩ = some (.int .i64 r.own):=by simp
 have t1:(w5.alloc (.cells #[.int .i64 r.own,.int .i64 r.num] 193)).cell? ⟨w5.heap.size,1,none⟩ = some (.int .i64 r.num):=by simp
 clear hb6 hR5 hQ5 HB5
 generalize w5.alloc (.cells #[.int .i64 r.own,.int .i64 r.num] 193) = w6 at *
 generalize hT0:w5.heap.size = T0 at *
 by_cases h1:r.own = 1
 ·have o1:((r.own:Int) == 1) = true:=by rw [h1]; rfl
  by_cases hr:0 ≤ r.num∧r.num < 4
  ·have h4:r.num = 0 ∨ r.num = 1 ∨ r.num = 2 ∨ r.num = 3:=by omega
   rcases h4 with h | h | h | h
   ·have HE:Hid (touchF p t = ⟨(lineAt p f.line).r0,(lineAt p f.line).r1,(lineAt p f.line).r2,(lineAt p f.line).r3,true,false,false,false⟩):=by show _ = _; rw [HE0.out,if_pos ⟨h1,hr⟩,h]; rfl
    rw [h] at t1
    have y:w6.cell? ⟨w.heap.size + 3,4,none⟩ = some (.bool false):=cell_blk hR6 4 rfl
    have fz:w6.frozen? ⟨w.heap.size + 3,4,none⟩ = false:=by simp [World.frozen?,hR6]
    have HR7:Hid ((w6.setCell ⟨w.heap.size + 3,4,none⟩ (.bool true)).heap[w.heap.size + 3]? = some (.cells (tchL ⟨(lineAt p f.line).r0,(lineAt p f.line).r1,(lineAt p f.line).r2,(lineAt p f.line).r3,true,false,false,false⟩).toArray 265 (0,0))):=(setOne_heap hR6 4 _).trans rfl
    have HQ7:Hid ((w6.setCell ⟨w.heap.size + 3,4,none⟩ (.bool true)).heap[w.heap.size + 2]? = some (.cells (tchL zTch).toArray 265 (0,0))):=(Below.heap_setCell _ ⟨w.heap.size + 3,4,none⟩ _ _ (by simp)).trans hQ6
    have HB7:Hid (Below w.heap.size w (w6.setCell ⟨w.heap.size + 3,4,none⟩ (.bool true))):=HB6.out.setCell (p:=⟨w.heap.size + 3,4,none⟩) (by simp) _
    clear h1 hr h hR6 hQ6
    go_upto_region 10 with fail
    generalize w6.setCell ⟨w.heap.size + 3,4,none⟩ (.bool true) = w7 at *
    have hR7:=HR7.out
    have hQ7:=HQ7.out
    go_wp2_with (first | (refine wpList_load_mid rfl 265 _ rfl _ _ rfl (tchL ⟨(lineAt p f.line).r0,(lineAt p f.line).r1,(lineAt p f.line).r2,(lineAt p f.line).r3,true,false,false,false⟩) _ (range_whole hR7) Tryz.underlying265 rfl Tryz.sizeTouch ?_) | (refine wpl_store_box rfl 265 _ _ rfl (w.heap.size + 2) _ (tchL ⟨(lineAt p f.line).r0,(lineAt p f.line).r1,(lineAt p f.line).r2,(lineAt p f.line).r3,true,false,false,false⟩) _ rfl rfl hQ7 Tryz.sizeTouch rfl (one_tch _) ?_))
    refine bodyPost_ret (v:=.agg (tchL ⟨(lineAt p f.line).r0,(lineAt p f.line).r1,(lineAt p f.line).r2,(lineAt p f.line).r3,true,false,false,false⟩).toArray) ?_ rfl ⟨by rw [HE.out],setRow_below HB7.out (by omega)⟩
    exact res_cell Tryz.results160 rfl (range_whole (setRow_heap hQ7)) Tryz.underlying265 rfl Tryz.sizeTouch
   ·have HE:Hid (touchF p t = ⟨(lineAt p f.line).r0,(lineAt p f.line).r1,(lineAt p f.line).r2,(lineAt p f.line).r3,false,true,false,false⟩):=by show _ = _; rw [HE0.out,if_pos ⟨h1,hr⟩,h]; rfl
    rw [h] at t1
    have y:w6.cell? ⟨w.heap.size + 3,5,none⟩ = some (.bool false):=cell_blk hR6 5 rfl
    have fz:w6.frozen? ⟨w.heap.size + 3,5,none⟩ = false:=by simp [World.frozen?,hR6]
    have HR7:Hid ((w6.setCell ⟨w.heap.size + 3,5,none⟩ (.bool true)).heap[w.heap.size + 3]? = some (.cells (tchL ⟨(lineAt p f.line).r0,(lineAt p f.line).r1,(lineAt p f.line).r2,(lineAt p f.line).r3,false,true,false,false⟩).toArray 265 (0,0))):=(setOne_heap hR6 5 _).trans rfl
    have HQ7:Hid ((w6.setCell ⟨w.heap.size + 3,5,none⟩ (.bool true)).heap[w.heap.size + 2]? = some (.cells (tchL zTch).toArray 265 (0,0))):=(Below.heap_setCell _ ⟨w.heap.size + 3,5,none⟩ _ _ (by simp)).trans hQ6
    have HB7:Hid (Below w.heap.size w (w6.setCell ⟨w.heap.size + 3,5,none⟩ (.bool true))):=HB6.out.setCell (p:=⟨w.heap.size + 3,5,none⟩) (by simp) _
    clear h1 hr h hR6 hQ6
    go_upto_region 10 with fail
    generalize w6.setCell ⟨w.heap.size + 3,5,none⟩ (.bool true) = w7 at *
    have hR7:=HR7.out
    have hQ7:=HQ7.out
    go_wp2_with (first | (refine wpList_load_mid rfl 265 _ rfl _ _ rfl (tchL ⟨(lineAt p f.line).r0,(lineAt p f.line).r1,(lineAt p f.line).r2,(lineAt p f.line).r3,false,true,false,false⟩) _ (range_whole hR7) Tryz.underlying265 rfl Tryz.sizeTouch ?_) | (refine wpl_store_box rfl 265 _ _ rfl (w.heap.size + 2) _ (tchL ⟨(lineAt p f.line).r0,(lineAt p f.line).r1,(lineAt p f.line).r2,(lineAt p f.line).r3,false,true,false,false⟩) _ rfl rfl hQ7 Tryz.sizeTouch rfl (one_tch _) ?_))
    refine bodyPost_ret (v:=.agg (tchL ⟨(lineAt p f.line).r0,(lineAt p f.line).r1,(lineAt p f.line).r2,(lineAt p f.line).r3,false,true,false,false⟩).toArray) ?_ rfl ⟨by rw [HE.out],setRow_below HB7.out (by omega)⟩
    exact res_cell Tryz.results160 rfl (range_whole (setRow_heap hQ7)) Tryz.underlying265 rfl Tryz.sizeTouch
   ·have HE:Hid (touchF p t = ⟨(lineAt p f.line).r0,(lineAt p f.line).r1,(lineAt p f.line).r2,(lineAt p f.line).r3,false,false,true,false⟩):=by show _ = _; rw [HE0.out,if_pos ⟨h1,hr⟩,h]; rfl
    rw [h] at t1
    have y:w6.cell? ⟨w.heap.size + 3,6,none⟩ = some (.bool false):=cell_blk hR6 6 rfl
    have fz:w6.frozen? ⟨w.heap.size + 3,6,none⟩ = false:=by simp [World.frozen?,hR6]
    have HR7:Hid ((w6.setCell ⟨w.heap.size + 3,6,none⟩ (.bool true)).heap[w.heap.size + 3]? = some (.cells (tchL ⟨(lineAt p f.line).r0,(lineAt p f.line).r1,(lineAt p f.line).r2,(lineAt p f.line).r3,false,false,true,false⟩).toArray 265 (0,0))):=(setOne_heap hR6 6 _).trans rfl
    have HQ7:Hid ((w6.setCell ⟨w.heap.size + 3,6,none⟩ (.bool true)).heap[w.heap.size + 2]? = some (.cells (tchL zTch).toArray 265 (0,0))):=(Below.heap_setCell _ ⟨w.heap.size + 3,6,none⟩ _ _ (by simp)).trans hQ6
    have HB7:Hid (Below w.heap.size w (w6.setCell ⟨w.heap.size + 3,6,none⟩ (.bool true))):=HB6.out.setCell (p:=⟨w.heap.size + 3,6,none⟩) (by simp) _
    clear h1 hr h hR6 hQ6
    go_upto_region 10 with fail
    generalize w6.setCell ⟨w.heap.size + 3,6,none⟩ (.bool true) = w7 at *
    have hR7:=HR7.out
    have hQ7:=HQ7.out
    go_wp2_with (first | (refine wpList_load_mid rfl 265 _ rfl _ _ rfl (tchL ⟨(lineAt p f.line).r0,(lineAt p f.line).r1,(lineAt p f.line).r2,(lineAt p f.line).r3,false,false,true,false⟩) _ (range_whole hR7) Tryz.underlying265 rfl Tryz.sizeTouch ?_) | (refine wpl_store_box rfl 265 _ _ rfl (w.heap.size + 2) _ (tchL ⟨(lineAt p f.line).r0,(lineAt p f.line).r1,(lineAt p f.line).r2,(lineAt p f.line).r3,false,false,true,false⟩) _ rfl rfl hQ7 Tryz.sizeTouch rfl (one_tch _) ?_))
    refine bodyPost_ret (v:=.agg (tchL ⟨(lineAt p f.line).r0,(lineAt p f.line).r1,(lineAt p f.line).r2,(lineAt p f.line).r3,false,false,true,false⟩).toArray) ?_ rfl ⟨by rw [HE.out],setRow_below HB7.out (by omega)⟩
    exact res_cell Tryz.results160 rfl (range_whole (setRow_heap hQ7)) Tryz.underlying265 rfl Tryz.sizeTouch
   ·have HE:Hid (touchF p t = ⟨(lineAt p f.line).r0,(lineAt p f.line).r1,(lineAt p f.line).r2,(lineAt p f.line).r3,false,false,false,true⟩):=by show _ = _; rw [HE0.out,if_pos ⟨h1,hr⟩,h]; rfl
    rw [h] at t1
    have y:w6.cell? ⟨w.heap.size + 3,7,none⟩ = some (.bool false):=cell_blk hR6 7 rfl
    have fz:w6.frozen? ⟨w.heap.size + 3,7,none⟩ = false:=by simp [World.frozen?,hR6]
    have HR7:Hid ((w6.setCell ⟨w.heap.size + 3,7,none⟩ (.bool true)).heap[w.heap.size + 3]? = some (.cells (tchL ⟨(lineAt p f.line).r0,(lineAt p f.line).r1,(lineAt p f.line).r2,(lineAt p f.line).r3,false,false,false,true⟩).toArray 265 (0,0))):=(setOne_heap hR6 7 _).trans rfl
    have HQ7:Hid ((w6.setCell ⟨w.heap.size + 3,7,none⟩ (.bool true)).heap[w.heap.size + 2]? = some (.cells (tchL zTch).toArray 265 (0,0))):=(Below.heap_setCell _ ⟨w.heap.size + 3,7,none⟩ _ _ (by simp)).trans hQ6
    have HB7:Hid (Below w.heap.size w (w6.setCell ⟨w.heap.size + 3,7,none⟩ (.bool true))):=HB6.out.setCell (p:=⟨w.heap.size + 3,7,none⟩) (by simp) _
    clear h1 hr h hR6 hQ6
    go_upto_region 10 with fail
    generalize w6.setCell ⟨w.heap.size + 3,7,none⟩ (.bool true) = w7 at *
    have hR7:=HR7.out
    have hQ7:=HQ7.out
    go_wp2_with (first | (refine wpList_load_mid rfl 265 _ rfl _ _ rfl (tchL ⟨(lineAt p f.line).r0,(lineAt p f.line).r1,(lineAt p f.line).r2,(lineAt p f.line).r3,false,false,false,true⟩) _ (range_whole hR7) Tryz.underlying265 rfl Tryz.sizeTouch ?_) | (refine wpl_store_box rfl 265 _ _ rfl (w.heap.size + 2) _ (tchL ⟨(lineAt p f.line).r0,(lineAt p f.line).r1,(lineAt p f.line).r2,(lineAt p f.line).r3,false,false,false,true⟩) _ rfl rfl hQ7 Tryz.sizeTouch rfl (one_tch _) ?_))
    refine bodyPost_ret (v:=.agg (tchL ⟨(lineAt p f.line).r0,(lineAt p f.line).r1,(lineAt p f.line).r2,(lineAt p f.line).r3,false,false,false,true⟩).toArray) ?_ rfl ⟨by rw [HE.out],setRow_below HB7.out (by omega)⟩
    exact res_cell Tryz.results160 rfl (range_whole (setRow_heap hQ7)) Tryz.underlying265 rfl Tryz.sizeTouch
  ·have HE:Hid (touchF p t = ⟨(lineAt p f.line).r0,(lineAt p f.line).r1,(lineAt p f.line).r2,(lineAt p f.line).r3,false,false,false,false⟩):=by show _ = _; rw [HE0.out,if_neg (by omega)]
   by_cases hn:r.num < 0
   ·skip
    go_wp2_with (first | (refine wpList_load_mid rfl 265 _ rfl _ _ rfl (tchL ⟨(lineAt p f.line).r0,(lineAt p f.line).r1,(lineAt p f.line).r2,(lineAt p f.line).r3,false,false,false,false⟩) _ (range_whole hR6) Tryz.underlying265 rfl Tryz.sizeTouch ?_) | (refine wpl_store_box rfl 265 _ _ rfl (w.heap.size + 2) _ (tchL ⟨(lineAt p f.line).r0,(lineAt p f.line).r1,(lineAt p f.line).r2,(lineAt p f.line).r3,false,false,false,false⟩) _ rfl rfl hQ6 Tryz.sizeTouch rfl (one_tch _) ?_))
    refine bodyPost_ret (v:=.agg (tchL ⟨(lineAt p f.line).r0,(lineAt p f.line).r1,(lineAt p f.line).r2,(lineAt p f.line).r3,false,false,false,false⟩).toArray) ?_ rfl ⟨by rw [HE.out],setRow_below HB6.out (by omega)⟩
    exact res_cell Tryz.results160 rfl (range_whole (setRow_heap hQ6)) Tryz.underlying265 rfl Tryz.sizeTouch
   ·have hn4:4 ≤ r.num:=by omega
    go_wp2_with (first | (refine wpList_load_mid rfl 265 _ rfl _ _ rfl (tchL ⟨(lineAt p f.line).r0,(lineAt p f.line).r1,(lineAt p f.line).r2,(lineAt p f.line).r3,false,false,false,false⟩) _ (range_whole hR6) Tryz.underlying265 rfl Tryz.sizeTouch ?_) | (refine wpl_store_box rfl 265 _ _ rfl (w.heap.size + 2) _ (tchL ⟨(lineAt p f.line).r0,(lineAt p f.line).r1,(lineAt p f.line).r2,(lineAt p f.line).r3,false,false,false,false⟩) _ rfl rfl hQ6 Tryz.sizeTouch rfl (one_tch _) ?_))
    refine bodyPost_ret (v:=.agg (tchL ⟨(lineAt p f.line).r0,(lineAt p f.line).r1,(lineAt p f.line).r2,(lineAt p f.line).r3,false,false,false,false⟩).toArray) ?_ rfl ⟨by rw [HE.out],setRow_below HB6.out (by omega)⟩
    exact res_cell Tryz.results160 rfl (range_whole (setRow_heap hQ6)) Tryz.underlying265 rfl Tryz.sizeTouch
 ·have o1:((r.own:Int) == 1) = false:=beq_eq_false_iff_ne.2 (by omega)
  have HE:Hid (touchF p t = ⟨(lineAt p f.line).r0,(lineAt p f.line).r1,(lineAt p f.line).r2,(lineAt p f.line).r3,false,false,false,false⟩):=by show _ = _; rw [HE0.out,if_neg (by omega)]
  go_wp2_with (first | (refine wpList_load_mid rfl 265 _ rfl _ _ rfl (tchL ⟨(lineAt p f.line).r0,(lineAt p f.line).r1,(lineAt p f.line).r2,(lineAt p f.line).r3,false,false,false,false⟩) _ (range_whole hR6) Tryz.underlying265 rfl Tryz.sizeTouch ?_) | (refine wpl_store_box rfl 265 _ _ rfl (w.heap.size + 2) _ (tchL ⟨(lineAt p f.line).r0,(lineAt p f.line).r1,(lineAt p f.line).r2,(lineAt p f.line).r3,false,false,false,false⟩) _ rfl rfl hQ6 Tryz.sizeTouch rfl (one_tch _) ?_))
  refine bodyPost_ret (v:=.agg (tchL ⟨(lineAt p f.line).r0,(lineAt p f.line).r1,(lineAt p f.line).r2,(lineAt p f.line).r3,false,false,false,false⟩).toArray) ?_ rfl ⟨by rw [HE.out],setRow_below HB6.out (by omega)⟩
  exact res_cell Tryz.results160 rfl (range_whole (setRow_heap hQ6)) Tryz.underlying265 rfl Tryz.sizeTouch
theorem py_touchOf (p:Plan) (v:PV) (t:Thr) (w:World) (hp:PIn w p v) :
    Calls Tryz.prog 160 #[.agg (plL p v).toArray,.agg (thrL t).toArray] w fun e w'=>TcP (touchF p t) w e w':=by
 cases hf:frameF t 0 with
 | none=>exact py_touchOf_none p v t w hp hf
 | some f=>exact py_touchOf_some p v t f w hp hf
end Go.Proofs.YtmfcpbhdggonfaaGreatDoor
namespace Go.Proofs.YtmfcpbhdggonfaaGreatDoor
open Go.RowKit RR
theorem wpl_load_w {P:Program} {ops:Array Oper} {rest:List Oper} {op:Oper} {a:Act} {w:World} {Q:Exit→Act→World→Prop} (hw:Region.wanted op (yielded ops a.tmps) = true) (ty:TypeId) (x:Operand) (ho:op.op = .load ty x)
    (b o:Nat) (hx:a.eval x = .pointer (some ⟨b,o,none⟩)) (cs:List Value) (d:TypeDesc) (hc:w.rangeAt b o cs) (hu:P.underlying ty = some d) (hd:d.isRow = true) (hi:(P.info? ty).map (·.size) = some cs.length)
    (h:wpList P ops Q rest (a.put op.dst (.agg cs.toArray)) w):wpList P ops Q (op :: rest) a w :=
 wpList_step fun _ hK=>by
  rw [if_pos hw]
  exact wp_load_mid ty x ho b o hx cs d hc hu hd hi (hK _ _ h)
def waitG (p:Plan) (c:Cfg):Nat→Bool
 | 0=>false
 | i + 1=>waitG p c i || atAcqF p (threadF c i)
theorem waitG_all (p:Plan) (c:Cfg):waitG p c 3 = (atAcqF p c.t0 || atAcqF p c.t1 || atAcqF p c.t2):=by
 show ((false || atAcqF p c.t0) || atAcqF p c.t1 || atAcqF p c.t2) = _
 rw [Bool.false_or]
theorem isEmpty_size (s:ByteArray):s.toList.isEmpty = (s.size == 0):=by
 rw [Go.ByteArray.toList_eq]
 obtain ⟨⟨l⟩⟩:=s
 cases l <;> rfl
set_option maxRecDepth 100000 in
set_option maxHeartbeats 8000000 in
theorem py_Dead (p:Plan) (v:PV) (c:Cfg) (w:World) (hp:PIn w p v) :
    Calls Tryz.prog 113 #[.agg (plL p v).toArray,.agg (cfgL c).toArray] w fun e w'=>e = .returned (.bool (deadF p c))∧Below w.heap.size w w':=by
 have HP:=hide hp
 clear hp
 obtain ⟨hP,hC,hbW,hsz⟩:=bigs2 w (.cells (plL p v).toArray 123) (.cells (cfgL c).toArray 140)
 go_enter Tryz.func113,Tryz.ntmps113
 go_upto_region 1 with (first | (refine wpl_box rfl 123 _ rfl (plL p v) rfl ?_) | (refine wpl_box rfl 140 _ rfl (cfgL c) rfl ?_))
 have HPW:=hide (HP.out.below hbW)
 generalize (w.alloc (.cells (plL p v).toArray 123)).alloc (.cells (cfgL c).toArray 140) = W at *
 have HBW:=hide hbW
 have hrP:W.rangeAt w.heap.size 0 (plL p v):=range_whole hP
 have hrC:W.rangeAt (w.heap.size + 1) 0 (cfgL c):=range_whole hC
 clear hbW hP hC
 go_wp2_with fail
 go_loopw [5,6] (fun s u wr=>∃ i:Nat,s = .bool (waitG p c i)∧u = .int .i64 i∧i ≤ 3∧Below W.heap.size W wr) (fun _ u _=>3 - (intOf u).toNat)
 case atStart=>exact ⟨0,rfl,rfl,by omega,Below.refl _ _⟩
 case round =>
  obtain ⟨i,rfl,rfl,hi,hbr⟩:=hrel
  have HBr:=hide hbr
  have hrP1:wr.rangeAt w.heap.size 0 (plL p v):=rg_below hrP hbr
  have hrC1:wr.rangeAt (w.heap.size + 1) 0 (cfgL c):=rg_below hrC hbr
  clear hbr hrP hrC
  by_cases h3:i < 3
  ·go_wp2_with fail
   refine wp_region_held_drew (S:=fun w'=>Below wr.heap.size wr w') (by kernel_rfl) (Below.refl _ _).drew (fun hHeld=>?_)
   refine wpAnyH_take (i:=0) rfl (by kernel_rfl) (by kernel_rfl) (by kernel_rfl) (fun _ _ _ h=>h) (yieldsIf_load_mid (by rfl) _ _ rfl w.heap.size 0 rfl (plL p v) _ (fun _ h=>rg_below hrP1 h) Tryz.underlying123 rfl Tryz.sizeProgram) (by assumption) ?_
   try simp only [put_laws]
   refine wpAnyH_take (i:=1) rfl (by kernel_rfl) (by kernel_rfl) (by kernel_rfl) (fun _ _ _ h=>h) (yieldsIf_load_mid (by rfl) _ _ rfl (w.heap.size + 1) 0 rfl (cfgL c) _ (fun _ h=>rg_below hrC1 h) Tryz.underlying140 rfl Tryz.sizeConfig) (by assumption) ?_
   try simp only [put_laws]
   refine wpAnyH_take (i:=2) (v:=?_) rfl (by kernel_rfl) (by kernel_rfl) (by kernel_rfl) (fun _ _ _ h=>h) (Or.inl ⟨by rfl,?_⟩) (by assumption) ?_; rotate_left; focus (intro w' hSw; go_simp; (first | done | with_reducible rfl)); (try simp only [put_laws])
   refine wpAnyH_ready (rs:=[3]) (by kernel_rfl) (by simp) ?_; refine AllReadyH.cons rfl (fun K hK=>?_) AllReadyH.nil
   go_simp
   refine (py_thread c i _).mono ?_
   rintro e w1 ⟨rfl,hb1⟩
   have hb1':Below wr.heap.size wr w1:=(Below.refl _ _).drew.trans hb1
   clear hb1
   refine hK.out _ _ hb1' (fun hHeld=>?_)
   clear hK K
   try simp only [put_laws]
   refine wpAnyH_ready (rs:=[4]) (by kernel_rfl) (by simp) ?_; refine AllReadyH.cons rfl (fun K hK=>?_) AllReadyH.nil
   go_simp
   refine (py_atAcquire p v (threadF c i) _ (HPW.out.below (HBr.out.trans (hb1'.mono HBr.out.size)))).mono ?_
   rintro e w2 ⟨rfl,hb2⟩
   have hb2':Below wr.heap.size wr w2:=hb1'.trans (hb2.mono hb1'.size)
   clear hb2
   refine hK.out _ _ hb2' (fun hHeld=>?_)
   clear hK K hHeld
   try simp only [put_laws]
   refine wpAnyH_done (by kernel_rfl) ?_ _
   have HB2:=hide (HBr.out.trans (hb2'.mono HBr.out.size))
   clear hb1' hb2' hrP1 hrC1
   cases ha:atAcqF p (threadF c i) with
   | false =>
    have HE:Hid (waitG p c (i + 1) = waitG p c i):=by show _ = _; show (waitG p c i || _) = _; rw [ha,Bool.or_false]
    clear ha
    go_wp2_with fail
    go_roundw
    case rel=>exact ⟨i + 1,by rw [HE.out],by go_num,by omega,HB2.out⟩
    case measure=>simp [intOf]; omega
   | true =>
    have HE:Hid (waitG p c (i + 1) = true):=by show _ = _; show (waitG p c i || _) = _; rw [ha,Bool.or_true]
    clear ha
    go_wp2_with fail
    go_roundw
    case rel=>exact ⟨i + 1,by rw [HE.out],by go_num,by omega,HB2.out⟩
    case measure=>simp [intOf]; omega
  ·have hi3:i = 3:=by omega
   subst hi3
   have HB:=hide (HBW.out.trans (HBr.out.mono (by omega)))
   cases hw:waitG p c 3 with
   | false =>
    have HE:Hid (deadF p c = false):=by show _ = _; unfold deadF; rw [← waitG_all,hw]; rfl
    clear hw
    go_wp2_with fail
    go_ret
    exact ⟨ret_bool HE.out.symm,HB.out⟩
   | true =>
    have HE:Hid (deadF p c = ((enabledF p c).size == 0)):=by show _ = _; unfold deadF; rw [← waitG_all,hw,Bool.true_and]
    clear hw
    go_wp2_with (first | (refine wpl_load_w (by rfl) 123 _ rfl _ _ rfl (plL p v) _ hrP1 Tryz.underlying123 rfl Tryz.sizeProgram ?_) | (refine wpl_load_w (by rfl) 140 _ rfl _ _ rfl (cfgL c) _ hrC1 Tryz.underlying140 rfl Tryz.sizeConfig ?_))
    refine (py_Enabled p v c _ (HPW.out.below HBr.out)).mono ?_
    rintro e w1 ⟨rfl,hb1⟩
    have HB1:=hide (HB.out.trans (hb1.mono HB.out.size))
    clear hb1 hrP1 hrC1
    go_wp2_with fail
    go_ret
    exact ⟨ret_bool (by rw [HE.out,isEmpty_size]),HB1.out⟩
end Go.Proofs.YtmfcpbhdggonfaaGreatDoor
