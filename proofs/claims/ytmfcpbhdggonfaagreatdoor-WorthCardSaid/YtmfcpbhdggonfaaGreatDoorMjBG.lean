/- Contracts of the program's package play: the view of a configuration. -/
import Derived.Test.YtmfcpbhdggonfaaGreatDoorMjBE
import Derived.Test.YtmfcpbhdggonfaaGreatDoorMjBF
import Derived.Test.YtmfcpbhdggonfaaGreatDoorMjAV
import Derived.Test.YtmfcpbhdggonfaaGreatDoorMjAA
import Derived.Test.YtmfcpbhdggonfaaGreatDoorMjAY
namespace Go.Proofs.YtmfcpbhdggonfaaGreatDoor
open Go.RowKit RR
def vwL (x:Vw):List Value:=[.string x.text,.string x.enabled,.bool x.race,.bool x.dead]
def VwP (r:Vw) (w:World) (e:Ending) (w':World):Prop:=e = .returned (.agg (vwL r).toArray)∧Below w.heap.size w w'
theorem Tryz.sizeView:(Tryz.prog.info? 42).map (·.size) = some 4:=by kernel_rfl
theorem Tryz.zeroView:(Tryz.prog.info? 42).bind (·.zero) = some (.agg (vwL zVw).toArray):=by kernel_rfl
theorem Tryz.buildView:Tryz.prog.built 42 [] = some (vwL zVw).toArray:=by kernel_rfl
theorem one_vw (a:Vw):(vwL a).all (·.oneCell') = true:=rfl
set_option maxRecDepth 100000 in
set_option maxHeartbeats 8000000 in
theorem py_viewOf (p:Plan) (v:PV) (c:Cfg) (w:World) (hp:PIn w p v) (hit:PIt p w) :
    Calls Tryz.prog 72 #[.agg (plL p v).toArray,.agg (cfgL c).toArray] w fun e w'=>VwP (viewF p c) w e w':=by
 have HP:=hide hp
 have HI:=hide hit
 clear hp hit
 obtain ⟨hP,hC,hR,hbW,hsz⟩:=bigs3 w (.cells (plL p v).toArray 123) (.cells (cfgL c).toArray 140) (.cells (vwL zVw).toArray 42)
 go_enter Tryz.func72,Tryz.ntmps72
 go_upto_region 2 with (first | (refine wpl_box rfl 123 _ rfl (plL p v) rfl ?_) | (refine wpl_box rfl 140 _ rfl (cfgL c) rfl ?_) | (refine wpl_alloc rfl 42 rfl (vwL zVw) Tryz.zeroView ?_))
 try simp only [sz_alloc]
 generalize ((w.alloc (.cells (plL p v).toArray 123)).alloc (.cells (cfgL c).toArray 140)).alloc (.cells (vwL zVw).toArray 42) = W0 at *
 have hV:(W0.alloc (.cells (vwL zVw).toArray 42)).heap[w.heap.size + 3]? = some (.cells (vwL zVw).toArray 42 (0,0)):=heap_new hsz.symm
 have hb0:Below W0.heap.size W0 (W0.alloc (.cells (vwL zVw).toArray 42)):=(Below.refl _ _).alloc (Nat.le_refl _) _
 have hP:=(hb0.block _ (by omega)).trans hP
 have hC:=(hb0.block _ (by omega)).trans hC
 have hR:=(hb0.block _ (by omega)).trans hR
 have HB:=hide (hbW.trans (hb0.mono (by omega)))
 have hz:w.heap.size + 4 ≤ (W0.alloc (.cells (vwL zVw).toArray 42)).heap.size:=by simp [hsz]
 clear hb0 hbW hsz
 generalize W0.alloc (.cells (vwL zVw).toArray 42) = X0 at *
 have hrP:X0.rangeAt w.heap.size 0 (plL p v):=range_whole hP
 have hrC:X0.rangeAt (w.heap.size + 1) 0 (cfgL c):=range_whole hC
 go_wp2_with (first | (refine wpList_load_mid rfl 123 _ rfl _ _ rfl (plL p v) _ hrP Tryz.underlying123 rfl Tryz.sizeProgram ?_) | (refine wpList_load_mid rfl 140 _ rfl _ _ rfl (cfgL c) _ hrC Tryz.underlying140 rfl Tryz.sizeConfig ?_))
 refine (py_Text p v c _ (HP.out.below HB.out) (HI.out.below HB.out)).mono ?_
 rintro e Y1 ⟨rfl,hb⟩
 have hP:=(hb.block _ (by omega)).trans hP
 have hC:=(hb.block _ (by omega)).trans hC
 have hR:=(hb.block _ (by omega)).trans hR
 have hV:=(hb.block _ (by omega)).trans hV
 have hz:w.heap.size + 4 ≤ Y1.heap.size:=Nat.le_trans hz hb.size
 have HB:=hide (HB.out.trans (hb.mono (by omega)))
 clear hrP hrC hb
 have cv:Y1.cell? ⟨w.heap.size + 3,0,none⟩ = some (.string ⟨#[]⟩):=cell_blk hV 0 rfl
 have fz:Y1.frozen? ⟨w.heap.size + 3,0,none⟩ = false:=by simp [World.frozen?,hV]
 have hP:=(Below.heap_setCell Y1 ⟨w.heap.size + 3,0,none⟩ (.string (textF p c)) w.heap.size (by simp)).trans hP
 have hC:=(Below.heap_setCell Y1 ⟨w.heap.size + 3,0,none⟩ (.string (textF p c)) (w.heap.size + 1) (by simp)).trans hC
 have hR:=(Below.heap_setCell Y1 ⟨w.heap.size + 3,0,none⟩ (.string (textF p c)) (w.heap.size + 2) (by simp)).trans hR
 have hV:(Y1.setCell ⟨w.heap.size + 3,0,none⟩ (.string (textF p c))).heap[w.heap.size + 3]? = some (.cells ([.string (textF p c),.string ⟨#[]⟩,.bool false,.bool false]:List Value).toArray 42 (0,0)):=(setOne_heap hV 0 (.string (textF p c))).trans rfl
 have hz:w.heap.size + 4 ≤ (Y1.setCell ⟨w.heap.size + 3,0,none⟩ (.string (textF p c))).heap.size:=by simpa using hz
 have HB:Hid (Below w.heap.size w (Y1.setCell ⟨w.heap.size + 3,0,none⟩ (.string (textF p c)))):=HB.out.setCell (p:=⟨w.heap.size + 3,0,none⟩) (by simp) _
 go_upto_region 3 with fail
 clear cv fz
 generalize (Y1.setCell ⟨w.heap.size + 3,0,none⟩ (.string (textF p c))) = X1 at *
 have hrP:X1.rangeAt w.heap.size 0 (plL p v):=range_whole hP
 have hrC:X1.rangeAt (w.heap.size + 1) 0 (cfgL c):=range_whole hC
 go_wp2_with (first | (refine wpList_load_mid rfl 123 _ rfl _ _ rfl (plL p v) _ hrP Tryz.underlying123 rfl Tryz.sizeProgram ?_) | (refine wpList_load_mid rfl 140 _ rfl _ _ rfl (cfgL c) _ hrC Tryz.underlying140 rfl Tryz.sizeConfig ?_))
 refine (py_Enabled p v c _ (HP.out.below HB.out)).mono ?_
 rintro e Y2 ⟨rfl,hb⟩
 have hP:=(hb.block _ (by omega)).trans hP
 have hC:=(hb.block _ (by omega)).trans hC
 have hR:=(hb.block _ (by omega)).trans hR
 have hV:=(hb.block _ (by omega)).trans hV
 have hz:w.heap.size + 4 ≤ Y2.heap.size:=Nat.le_trans hz hb.size
 have HB:=hide (HB.out.trans (hb.mono (by omega)))
 clear hrP hrC hb
 have cv:Y2.cell? ⟨w.heap.size + 3,1,none⟩ = some (.string ⟨#[]⟩):=cell_blk hV 1 rfl
 have fz:Y2.frozen? ⟨w.heap.size + 3,1,none⟩ = false:=by simp [World.frozen?,hV]
 have hP:=(Below.heap_setCell Y2 ⟨w.heap.size + 3,1,none⟩ (.string (enabledF p c)) w.heap.size (by simp)).trans hP
 have hC:=(Below.heap_setCell Y2 ⟨w.heap.size + 3,1,none⟩ (.string (enabledF p c)) (w.heap.size + 1) (by simp)).trans hC
 have hR:=(Below.heap_setCell Y2 ⟨w.heap.size + 3,1,none⟩ (.string (enabledF p c)) (w.heap.size + 2) (by simp)).trans hR
 have hV:(Y2.setCell ⟨w.heap.size + 3,1,none⟩ (.string (enabledF p c))).heap[w.heap.size + 3]? = some (.cells ([.string (textF p c),.string (enabledF p c),.bool false,.bool false]:List Value).toArray 42 (0,0)):=(setOne_heap hV 1 (.string (enabledF p c))).trans rfl
 have hz:w.heap.size + 4 ≤ (Y2.setCell ⟨w.heap.size + 3,1,none⟩ (.string (enabledF p c))).heap.size:=by simpa using hz
 have HB:Hid (Below w.heap.size w (Y2.setCell ⟨w.heap.size + 3,1,none⟩ (.string (enabledF p c)))):=HB.out.setCell (p:=⟨w.heap.size + 3,1,none⟩) (by simp) _
 go_upto_region 4 with fail
 clear cv fz
 generalize (Y2.setCell ⟨w.heap.size + 3,1,none⟩ (.string (enabledF p c))) = X2 at *
 have hrP:X2.rangeAt w.heap.size 0 (plL p v):=range_whole hP
 have hrC:X2.rangeAt (w.heap.size + 1) 0 (cfgL c):=range_whole hC
 go_wp2_with (first | (refine wpList_load_mid rfl 123 _ rfl _ _ rfl (plL p v) _ hrP Tryz.underlying123 rfl Tryz.sizeProgram ?_) | (refine wpList_load_mid rfl 140 _ rfl _ _ rfl (cfgL c) _ hrC Tryz.underlying140 rfl Tryz.sizeConfig ?_))
 refine (py_Race p v c _ (HP.out.below HB.out)).mono ?_
 rintro e Y3 ⟨rfl,hb⟩
 have hP:=(hb.block _ (by omega)).trans hP
 have hC:=(hb.block _ (by omega)).trans hC
 have hR:=(hb.block _ (by omega)).trans hR
 have hV:=(hb.block _ (by omega)).trans hV
 have hz:w.heap.size + 4 ≤ Y3.heap.size:=Nat.le_trans hz hb.size
 have HB:=hide (HB.out.trans (hb.mono (by omega)))
 clear hrP hrC hb
 have cv:Y3.cell? ⟨w.heap.size + 3,2,none⟩ = some (.bool false):=cell_blk hV 2 rfl
 have fz:Y3.frozen? ⟨w.heap.size + 3,2,none⟩ = false:=by simp [World.frozen?,hV]
 have hP:=(Below.heap_setCell Y3 ⟨w.heap.size + 3,2,none⟩ (.bool (raceF p c)) w.heap.size (by simp)).trans hP
 have hC:=(Below.heap_setCell Y3 ⟨w.heap.size + 3,2,none⟩ (.bool (raceF p c)) (w.heap.size + 1) (by simp)).trans hC
 have hR:=(Below.heap_setCell Y3 ⟨w.heap.size + 3,2,none⟩ (.bool (raceF p c)) (w.heap.size + 2) (by simp)).trans hR
 have hV:(Y3.setCell ⟨w.heap.size + 3,2,none⟩ (.bool (raceF p c))).heap[w.heap.size + 3]? = some (.cells ([.string (textF p c),.string (enabledF p c),.bool (raceF p c),.bool false]:List Value).toArray 42 (0,0)):=(setOne_heap hV 2 (.bool (raceF p c))).trans rfl
 have hz:w.heap.size + 4 ≤ (Y3.setCell ⟨w.heap.size + 3,2,none⟩ (.bool (raceF p c))).heap.size:=by simpa using hz
 have HB:Hid (Below w.heap.size w (Y3.setCell ⟨w.heap.size + 3,2,none⟩ (.bool (raceF p c)))):=HB.out.setCell (p:=⟨w.heap.size + 3,2,none⟩) (by simp) _
 go_upto_region 5 with fail
 clear cv fz
 generalize (Y3.setCell ⟨w.heap.size + 3,2,none⟩ (.bool (raceF p c))) = X3 at *
 have hrP:X3.rangeAt w.heap.size 0 (plL p v):=range_whole hP
 have hrC:X3.rangeAt (w.heap.size + 1) 0 (cfgL c):=range_whole hC
 go_wp2_with (first | (refine wpList_load_mid rfl 123 _ rfl _ _ rfl (plL p v) _ hrP Tryz.underlying123 rfl Tryz.sizeProgram ?_) | (refine wpList_load_mid rfl 140 _ rfl _ _ rfl (cfgL c) _ hrC Tryz.underlying140 rfl Tryz.sizeConfig ?_))
 refine (py_Dead p v c _ (HP.out.below HB.out)).mono ?_
 rintro e Y4 ⟨rfl,hb⟩
 have hP:=(hb.block _ (by omega)).trans hP
 have hC:=(hb.block _ (by omega)).trans hC
 have hR:=(hb.block _ (by omega)).trans hR
 have hV:=(hb.block _ (by omega)).trans hV
 have hz:w.heap.size + 4 ≤ Y4.heap.size:=Nat.le_trans hz hb.size
 have HB:=hide (HB.out.trans (hb.mono (by omega)))
 clear hrP hrC hb
 have cv:Y4.cell? ⟨w.heap.size + 3,3,none⟩ = some (.bool false):=cell_blk hV 3 rfl
 have fz:Y4.frozen? ⟨w.heap.size + 3,3,none⟩ = false:=by simp [World.frozen?,hV]
 have hP:=(Below.heap_setCell Y4 ⟨w.heap.size + 3,3,none⟩ (.bool (deadF p c)) w.heap.size (by simp)).trans hP
 have hC:=(Below.heap_setCell Y4 ⟨w.heap.size + 3,3,none⟩ (.bool (deadF p c)) (w.heap.size + 1) (by simp)).trans hC
 have hR:=(Below.heap_setCell Y4 ⟨w.heap.size + 3,3,none⟩ (.bool (deadF p c)) (w.heap.size + 2) (by simp)).trans hR
 have hV:(Y4.setCell ⟨w.heap.size + 3,3,none⟩ (.bool (deadF p c))).heap[w.heap.size + 3]? = some (.cells ([.string (textF p c),.string (enabledF p c),.bool (raceF p c),.bool (deadF p c)]:List Value).toArray 42 (0,0)):=(setOne_heap hV 3 (.bool (deadF p c))).trans rfl
 have hz:w.heap.size + 4 ≤ (Y4.setCell ⟨w.heap.size + 3,3,none⟩ (.bool (deadF p c))).heap.size:=by simpa using hz
 have HB:Hid (Below w.heap.size w (Y4.setCell ⟨w.heap.size + 3,3,none⟩ (.bool (deadF p c)))):=HB.out.setCell (p:=⟨w.heap.size + 3,3,none⟩) (by simp) _
 go_upto_region 6 with fail
 clear cv fz
 generalize (Y4.setCell ⟨w.heap.size + 3,3,none⟩ (.bool (deadF p c))) = X4 at *
 have hrV:X4.rangeAt (w.heap.size + 3) 0 (vwL (viewF p c)):=range_whole hV
 go_wp2_with (first | (refine wpList_load_mid rfl 42 _ rfl _ _ rfl (vwL (viewF p c)) _ hrV Tryz.underlying42 rfl Tryz.sizeView ?_) | (refine wpl_store_box rfl 42 _ _ rfl (w.heap.size + 2) _ (vwL (viewF p c)) _ rfl rfl hR Tryz.sizeView rfl (one_vw _) ?_))
 refine bodyPost_ret (v:=.agg (vwL (viewF p c)).toArray) ?_ rfl ⟨rfl,setRow_below HB.out (by omega)⟩
 exact res_cell Tryz.results72 rfl (range_whole (setRow_heap hR)) Tryz.underlying42 rfl Tryz.sizeView
end Go.Proofs.YtmfcpbhdggonfaaGreatDoor
namespace Go.Proofs.YtmfcpbhdggonfaaGreatDoor
open Go.RowKit RR
theorem cfg_tb (c:Cfg) (k:Nat) (hk:k < 3):∃ pre post,cfgL c = pre ++ thrL (c.t k) ++ post∧pre.length = 7 + k * 17∧∀ t,cfgL (c.setT t k) = pre ++ thrL t ++ post:=by
 rcases k with _ | _ | _ | k
 ·exact ⟨[.bool c.s0,.bool c.s1,.bool c.s2,.bool c.s3,.int .i64 c.h0,.int .i64 c.h1,.int .i64 c.h2],thrL c.t1 ++ thrL c.t2,by unfold cfgL; simp [Cfg.t],rfl,fun t=>by unfold cfgL; simp [Cfg.setT]⟩
 ·exact ⟨[.bool c.s0,.bool c.s1,.bool c.s2,.bool c.s3,.int .i64 c.h0,.int .i64 c.h1,.int .i64 c.h2] ++ thrL c.t0,thrL c.t2,by unfold cfgL; simp [Cfg.t],rfl,fun t=>by unfold cfgL; simp [Cfg.setT]⟩
 ·exact ⟨[.bool c.s0,.bool c.s1,.bool c.s2,.bool c.s3,.int .i64 c.h0,.int .i64 c.h1,.int .i64 c.h2] ++ thrL c.t0 ++ thrL c.t1,[],by unfold cfgL; simp [Cfg.t],rfl,fun t=>by unfold cfgL; simp [Cfg.setT]⟩
 ·omega
def start2 (p:Plan) (n:Int) (i:Nat) (c:Cfg):Cfg:=if i < 3 then c.setT ((pushF (c.t i) ⟨(procAt p n).entry,false,false,false⟩).getD (c.t i)) i else c
theorem startF_cons (p:Plan) (n:Int) (l:List Int) (i:Nat) (c:Cfg):startF p (n :: l) i c = startF p l (i + 1) (start2 p n i c):=rfl
theorem startF_drop (p:Plan) (l:List Int) (i:Nat) (c:Cfg) (h:i < l.length):startF p (l.drop i) i c = startF p (l.drop (i + 1)) (i + 1) (start2 p l[i] i c):=by
 rw [List.drop_eq_getElem_cons h,startF_cons]
set_option maxRecDepth 100000 in
set_option maxHeartbeats 8000000 in
theorem py_Start (p:Plan) (v:PV) (w:World) (hp:PIn w p v) :
    Calls Tryz.prog 103 #[.agg (plL p v).toArray] w fun e w'=>e = .returned (.agg (cfgL (start1 p)).toArray)∧Below w.heap.size w w':=by
 have HP:=hide hp
 have bT:=hp.bT
 have hTh:=hp.at_.1
 clear hp
 obtain ⟨hP,hR,hC,hbW,hsz⟩:=bigs3 w (.cells (plL p v).toArray 123) (.cells (cfgL zCfg).toArray 140) (.cells (cfgL zCfg).toArray 140)
 go_enter Tryz.func103,Tryz.ntmps103
 go_upto_region 2 with (first | (refine wpl_box rfl 123 _ rfl (plL p v) rfl ?_) | (refine wpl_alloc rfl 140 rfl (cfgL zCfg) Tryz.zeroConfig ?_))
 have HPW:=hide (HP.out.below hbW)
 generalize ((w.alloc (.cells (plL p v).toArray 123)).alloc (.cells (cfgL zCfg).toArray 140)).alloc (.cells (cfgL zCfg).toArray 140) = W at *
 have HBW:=hide hbW
 have n2:W.cell? ⟨w.heap.size,2,none⟩ = some (.slice v.aT p.threads.length v.cT):=cell_blk hP 2 rfl
 have HTh:=hide hTh
 clear hbW hTh
 go_wp2_with fail
 clear n2
 go_loopw [10] (fun u wr=>∃ (i:Nat) (c:Cfg),u = .int .i64 i∧i ≤ p.threads.length∧startF p (p.threads.drop i) i c = start1 p∧wr.heap[w.heap.size + 2]? = some (.cells (cfgL c).toArray 140 (0,0))∧Fr1 (w.heap.size + 2) W wr) (fun u _=>p.threads.length - (intOf u).toNat)
 case atStart=>exact ⟨0,zCfg,rfl,by omega,rfl,hC,Fr1.refl _ _⟩
 case round =>
  obtain ⟨i,c,rfl,hi,he,hC1,hf1⟩:=hrel
  have HE:=hide he
  have HF1:=hide hf1
  have HC1:=hide hC1
  have HB1:=hide (HBW.out.trans (hf1.bel.mono (by omega)))
  have hP1:=(hf1.blk _ (by omega) (by omega)).trans hP
  have hz1:w.heap.size + 3 ≤ wr.heap.size:=by have:=hf1.bel.size; omega
  clear he hf1 hC1 hC
  by_cases hlt:i < p.threads.length
  ·obtain ⟨b,o,hb,hao,hr⟩:=(HTh.out.below HB1.out).get (f:=thP) (n:=1) (fun _=>rfl) (by decide) i hlt
   have HE2:Hid (startF p (p.threads.drop (i + 1)) (i + 1) (start2 p p.threads[i] i c) = start1 p):=(startF_drop p p.threads i c hlt).symm.trans HE.out
   generalize hN:p.threads[i] = n at *
   have c0:wr.cell? ⟨b,o + i * 1,none⟩ = some (.int .i64 n):=hr 0 _ rfl
   rw [Nat.mul_one] at c0
   have hrP:wr.rangeAt w.heap.size 0 (plL p v):=range_whole hP1
   clear hN hr hP1 hP hR HE
   rw [hao]
   go_wp2_with (first | (refine wpList_load_mid rfl 123 _ rfl _ _ rfl (plL p v) _ (by (repeat (first | assumption | exact rg_new (by simp) | refine rg_alloc ?_))) Tryz.underlying123 rfl Tryz.sizeProgram ?_))
   refine (pn_Proc p v n _ (HP.out.below HB1.out)).mono ?_
   rintro e w1 ⟨rfl,hb1⟩
   have hz2:w.heap.size + 3 ≤ w1.heap.size:=by have:=hb1.size; omega
   have HC2:=hide ((hb1.block _ (by omega)).trans HC1.out)
   have HF2:Hid (Fr1 (w.heap.size + 2) W w1):=HF1.out.trans (Fr1.of_below hb1 (by omega))
   clear hb1 hrP c0 HC1 HF1 HB1
   go_upto_region 6 with fail
   have c1:(w1.alloc (.cells #[.int .i64 (procAt p n).params,.int .i64 (procAt p n).entry] 237)).cell? ⟨w1.heap.size,1,none⟩ = some (.int .i64 (procAt p n).entry):=by simp
   have HC3:Hid ((w1.alloc (.cells #[.int .i64 (procAt p n).params,.int .i64 (procAt p n).entry] 237)).heap[w.heap.size + 2]? = some (.cells (cfgL c).toArray 140 (0,0))):=(Below.heap_alloc _ _ _ (by omega)).trans HC2.out
   have HF3:=hide (HF2.out.alloc (by omega) (.cells #[.int .i64 (procAt p n).params,.int .i64 (procAt p n).entry] 237))
   have hz3:w1.heap.size < (w1.alloc (.cells #[.int .i64 (procAt p n).params,.int .i64 (procAt p n).entry] 237)).heap.size:=by simp
   clear HC2 HF2
   generalize w1.alloc (.cells #[.int .i64 (procAt p n).params,.int .i64 (procAt p n).entry] 237) = w2 at *
   generalize hF0:w1.heap.size = F at *
   by_cases h3:i < 3
   ·have HE3:Hid (start2 p n i c = c.setT ((pushF (c.t i) ⟨(procAt p n).entry,false,false,false⟩).getD (c.t i)) i):=by show _ = _; unfold start2; rw [if_pos h3]
    obtain ⟨pre,post,e1,e2,e3⟩:=cfg_tb c i h3
    have HTB:Hid (TB (w.heap.size + 2) pre post 140 (c.t i) w2):=by
     have h:=HC3.out
     rw [e1] at h
     exact h
    have HE4:=hide e3
    have HE5:=hide e2
    clear e1 e2 e3
    go_wp2_with fail
    refine wp_region_held_drew (S:=fun w'=>w'.cell? ⟨F,1,none⟩ = some (.int .i64 (procAt p n).entry)) (by kernel_rfl) c1 (fun hHeld=>?_)
    refine wpAnyH_take (i:=0) (v:=?_) rfl (by kernel_rfl) (by kernel_rfl) (by kernel_rfl) (fun _ _ _ h=>h) (Or.inl ⟨by rfl,?_⟩) (by assumption) ?_; rotate_left; focus (intro w' hSw; go_simp; (first | done | with_reducible rfl)); (try simp only [put_laws])
    refine wpAnyH_take (i:=1) (v:=?_) rfl (by kernel_rfl) (by kernel_rfl) (by kernel_rfl) (fun _ _ _ h=>h) (Or.inl ⟨by rfl,?_⟩) (by assumption) ?_; rotate_left; focus (intro w' hSw; go_simp; (first | done | with_reducible rfl)); (try simp only [put_laws])
    refine wpAnyH_take (i:=2) (v:=?_) rfl (by kernel_rfl) (by kernel_rfl) (by kernel_rfl) (fun _ _ _ h=>h) (Or.inl ⟨by rfl,?_⟩) (by assumption) ?_; rotate_left; focus (intro w' hSw; go_simp; (first | done | with_reducible rfl)); (try simp only [put_laws])
    refine wpAnyH_take (i:=3) (v:=?_) rfl (by kernel_rfl) (by kernel_rfl) (by kernel_rfl) (fun _ _ _ h=>h) (Or.inl ⟨by rfl,?_⟩) (by assumption) ?_; rotate_left; focus (intro w' hSw; go_simp; (first | done | with_reducible rfl)); (try simp only [put_laws])
    refine wpAnyH_take (i:=4) (v:=?_) rfl (by kernel_rfl) (by kernel_rfl) (by kernel_rfl) (fun _ _ _ h=>h) (Or.inl ⟨by rfl,?_⟩) (by assumption) ?_; rotate_left; focus (intro w' hSw; go_simp; (first | done | with_reducible rfl)); (try simp only [put_laws])
    refine wpAnyH_take (i:=5) (v:=?_) rfl (by kernel_rfl) (by kernel_rfl) (by kernel_rfl) (fun _ _ _ h=>h) (Or.inl ⟨by rfl,?_⟩) (by assumption) ?_; rotate_left; focus (intro w' hSw; go_simp; (first | done | with_reducible rfl)); (try simp only [put_laws])
    refine wpAnyH_ready (rs:=[6]) (by kernel_rfl) (by simp) ?_; refine AllReadyH.cons rfl (fun K hK=>?_) AllReadyH.nil
    go_simp
    refine (py_push (w.heap.size + 2) (7 + i * 17) pre post 140 (c.t i) ⟨(procAt p n).entry,false,false,false⟩ w2.drew HE5.out.symm HTB.out).mono ?_
    rintro e w3 ⟨rfl,hT3,hf3⟩
    have HT3:=hide hT3
    have HF4:=hide (HF3.out.drew.trans hf3)
    refine hK.out _ _ (by rw [← c1]; simp only [World.cell?]; rw [hf3.blk F hz3 (by omega)]; rfl) (fun hHeld=>?_)
    clear hK K hT3 hf3 hHeld
    try simp only [put_laws]
    refine wpAnyH_done (by kernel_rfl) ?_ _
    clear c1
    go_wp2_with fail
    go_roundw
    case rel=>exact ⟨i + 1,start2 p n i c,by go_num,by omega,HE2.out,by rw [HE3.out,HE4.out]; exact HT3.out,HF4.out⟩
    case measure=>simp [intOf]; omega
   ·have HE3:Hid (start2 p n i c = c):=by show _ = _; unfold start2; rw [if_neg h3]
    clear c1
    go_wp2_with fail
    go_roundw
    case rel=>exact ⟨i + 1,start2 p n i c,by go_num,by omega,HE2.out,by rw [HE3.out]; exact HC3.out,HF3.out⟩
    case measure=>simp [intOf]; omega
  ·have hil:i = p.threads.length:=by omega
   subst hil
   have hE:c = start1 p:=by
    have:=HE.out
    rw [List.drop_length] at this
    exact this
   have hrC:wr.rangeAt (w.heap.size + 2) 0 (cfgL c):=range_whole HC1.out
   have hR1:=(HF1.out.blk _ (by omega) (by omega)).trans hR
   clear hP1 hP hR
   go_wp2_with (first | (refine wpList_load_mid rfl 140 _ rfl _ _ rfl (cfgL c) _ (by (repeat (first | assumption | exact rg_new (by simp) | refine rg_alloc ?_))) Tryz.underlying140 rfl Tryz.sizeConfig ?_) | (refine wpl_store_box rfl 140 _ _ rfl (w.heap.size + 1) _ (cfgL c) _ rfl rfl hR1 Tryz.sizeConfig rfl (one_cfg _) ?_))
   refine bodyPost_ret (v:=.agg (cfgL c).toArray) ?_ rfl ⟨by rw [hE],setRow_below HB1.out (by omega)⟩
   exact res_cell Tryz.results103 rfl (range_whole (setRow_heap hR1)) Tryz.underlying140 rfl Tryz.sizeConfig
end Go.Proofs.YtmfcpbhdggonfaaGreatDoor
namespace Go.Proofs.YtmfcpbhdggonfaaGreatDoor
open Go.RowKit
def thr (c:UInt8):Int:=if 97 ≤ c.toNat∧c.toNat ≤ 99 then (c.toNat:Int) - 97 else if 65 ≤ c.toNat∧c.toNat ≤ 67 then (c.toNat:Int) - 65 else -1
def capB (c:UInt8):Bool:=decide (65 ≤ c.toNat) && decide (c.toNat ≤ 67)
theorem ret_three {a b:Int} {x y u v:Bool} (h:a = b) (k:x = y) (m:u = v):Ending.returned (.tuple #[.int .i64 a,.bool x,.bool u]) = .returned (.tuple #[.int .i64 b,.bool y,.bool v]):=by rw [h,k,m]
set_option maxRecDepth 100000 in
set_option maxHeartbeats 2000000 in
theorem st_Read (c:UInt8) (w:World) :
    Calls Tryz.prog 95 #[.int .u8 c.toNat] w fun e w'=>e = .returned (.tuple #[.int .i64 (if 0 ≤ thr c then thr c else 0),.bool (capB c),.bool (decide (0 ≤ thr c))])∧w' = w:=by
 have hlt:=c.toNat_lt
 go_enter Tryz.func95,Tryz.ntmps95
 go_wp2
 all_goals
  go_ret3
  refine ⟨ret_three ?_ ?_ ?_,rfl⟩
 all_goals first
  | (unfold thr at *; split at * <;> first | omega | (split at * <;> omega))
  | (unfold capB; rw [Bool.eq_iff_iff]; simp; omega)
  | rfl
end Go.Proofs.YtmfcpbhdggonfaaGreatDoor
namespace Go.Proofs.YtmfcpbhdggonfaaGreatDoor
open Go.RowKit RR
theorem res_cell_tmp2 {fn:Func} {p u x:Tmp} {ty:TypeId} {tmps:Array Value} {P:Program} {w:World} {b o:Nat} {cs:List Value} {d:TypeDesc} {y z:Value} (h:fn.results = #[.cell p ty,.tmp u,.tmp x]) (ht:tmps.getD p undef = .pointer (some ⟨b,o,none⟩)) (hy:tmps.getD u undef = y) (hz:tmps.getD x undef = z) (hc:w.rangeAt b o cs) (hu:P.underlying ty = some d) (hd:d.isRow = true) (hi:(P.info? ty).map (·.size) = some cs.length) :
    (results fn tmps).run P w = .ok (.tuple #[.agg cs.toArray,y,z]) w:=by
 have h1:(asAddr (tmps[p]?.getD undef)).run P w = .ok ⟨b,o,none⟩ w:=by
  rw [Array.getD_eq_getD_getElem?] at ht
  rw [ht]; simp [asAddr]
 rw [Array.getD_eq_getD_getElem?] at hy hz
 simp only [results,h]
 simp only [Sem.run_bind,Result.andThen,List.mapM_toArray,Array.getD_eq_getD_getElem?]
 simp [Sem.run_bind,Result.andThen,h1,run_loadVar_mid w b o ty cs d hc hu hd hi,hy,hz]
theorem readB_none {c:UInt8} (h:¬ 0 ≤ thr c):readB c = none:=by
 unfold thr at h
 unfold readB
 split at h
 ·omega
 ·split at h
  ·omega
  ·rename_i h1 h2
   rw [if_neg h1,if_neg h2]
theorem readB_some {c:UInt8} (h:0 ≤ thr c):readB c = some (thr c,capB c):=by
 unfold thr at h ⊢
 unfold readB capB
 split
 ·rename_i h1
  rw [decide_eq_false (show ¬ c.toNat ≤ 67 by omega),Bool.and_false]
 ·rename_i h1
  rw [if_neg h1] at h
  split
  ·rename_i h2
   rw [decide_eq_true h2.1,decide_eq_true h2.2]; rfl
  ·rename_i h2
   rw [if_neg h2] at h
   omega
theorem byteB_in {s:ByteArray} {k:Nat} (h:k < s.size):byteB s k = s[k]:=by unfold byteB; rw [dif_pos h]
def foV:Except Nat Cfg→Value
 | .error k=>.tuple #[.agg (cfgL zCfg).toArray,.int .i64 k,.bool false]
 | .ok c=>.tuple #[.agg (cfgL c).toArray,.int .i64 0,.bool true]
def FoP (r:Except Nat Cfg) (w:World) (e:Ending) (w':World):Prop:=e = .returned (foV r)∧Below w.heap.size w w'
set_option maxRecDepth 100000 in
set_option maxHeartbeats 8000000 in
theorem py_follow (p:Plan) (v:PV) (s:ByteArray) (w:World) (hp:PIn w p v) (hs:s.size ≤ 200) :
    Calls Tryz.prog 71 #[.agg (plL p v).toArray,.string s] w fun e w'=>FoP (followF p s s.size 0 (start1 p)) w e w':=by
 have HP:=hide hp
 clear hp
 obtain ⟨hP,hR,hbW,hsz⟩:=bigs2 w (.cells (plL p v).toArray 123) (.cells (cfgL zCfg).toArray 140)
 go_enter Tryz.func71,Tryz.ntmps71
 go_upto_region 1 with (first | (refine wpl_box rfl 123 _ rfl (plL p v) rfl ?_) | (refine wpl_alloc rfl 140 rfl (cfgL zCfg) Tryz.zeroConfig ?_))
 generalize (w.alloc (.cells (plL p v).toArray 123)).alloc (.cells (cfgL zCfg).toArray 140) = W at *
 have HBW:=hide hbW
 have hrP:W.rangeAt w.heap.size 0 (plL p v):=range_whole hP
 clear hbW
 go_wp2_with (first | (refine wpList_load_mid rfl 123 _ rfl _ _ rfl (plL p v) _ (by (repeat (first | assumption | exact rg_new (by simp) | refine rg_alloc ?_))) Tryz.underlying123 rfl Tryz.sizeProgram ?_))
 refine (py_Start p v _ (HP.out.below HBW.out)).mono ?_
 rintro e w1 ⟨rfl,hb1⟩
 have HB1:=hide (HBW.out.trans (hb1.mono (by omega)))
 have hP1:=(hb1.block _ (by omega)).trans hP
 have hR1:=(hb1.block _ (by omega)).trans hR
 have hz1:w.heap.size + 2 ≤ w1.heap.size:=by have:=hb1.size; omega
 clear hb1 hP hR hrP HBW
 go_upto_region 2 with (first | (refine wpl_alloc rfl 140 rfl (cfgL zCfg) Tryz.zeroConfig ?_) | (refine wpl_store_new rfl 140 _ _ rfl _ _ (cfgL (start1 p)) _ rfl rfl (by simp) Tryz.sizeConfig rfl (one_cfg _) ?_))
 have HC2:Hid ((w1.alloc (.cells (cfgL (start1 p)).toArray 140)).heap[w1.heap.size]? = some (.cells (cfgL (start1 p)).toArray 140 (0,0))):=heap_alloc_new _ _
 have HB2:Hid (Below w1.heap.size w1 (w1.alloc (.cells (cfgL (start1 p)).toArray 140))):=(Below.refl _ _).alloc (Nat.le_refl _) _
 have hz2:w1.heap.size < (w1.alloc (.cells (cfgL (start1 p)).toArray 140)).heap.size:=by simp
 generalize w1.alloc (.cells (cfgL (start1 p)).toArray 140) = w2 at *
 generalize hC0:w1.heap.size = C at *
 go_wp2_with fail
 go_loopw [8] (fun u wr=>∃ (k:Nat) (c:Cfg),u = .int .i64 k∧k ≤ s.size∧followF p s (s.size - k) k c = followF p s s.size 0 (start1 p)∧wr.heap[C]? = some (.cells (cfgL c).toArray 140 (0,0))∧Below C w1 wr) (fun u _=>s.size - (intOf u).toNat)
 case atStart=>exact ⟨0,start1 p,rfl,by omega,rfl,HC2.out,HB2.out⟩
 case round =>
  obtain ⟨k,c,rfl,hk,he,hC,hbr⟩:=hrel
  have HE:=hide he
  have HC:=hide hC
  have HBr:=hide hbr
  have HBw:=hide (HB1.out.trans (hbr.mono (by omega)))
  have hPr:=(hbr.block _ (by omega)).trans hP1
  have hRr:=(hbr.block _ (by omega)).trans hR1
  have hzr:C < wr.heap.size:=(Array.getElem?_eq_some_iff.1 hC).1
  clear he hC hbr hP1 hR1
  by_cases hlt:k < s.size
  ·have hlt':(k:Int) < s.size:=by omega
   have hd:s.size - k = (s.size - (k + 1)) + 1:=by omega
   by_cases h0:0 ≤ thr s[k]
   ·have hr:∀ w,Calls Tryz.prog 95 #[.int .u8 s[k].toNat] w fun e w'=>e = .returned (.tuple #[.int .i64 (thr s[k]),.bool (capB s[k]),.bool true])∧w' = w:=fun w=>by
      have:=st_Read s[k] w
      rw [if_pos h0,decide_eq_true h0] at this
      exact this
    have HQ:=hide (show readB (byteB s k) = some (thr s[k],capB s[k]) from by rw [byteB_in hlt]; exact readB_some h0)
    have hrP:wr.rangeAt w.heap.size 0 (plL p v):=range_whole hPr
    have hrC:wr.rangeAt C 0 (cfgL c):=range_whole HC.out
    clear h0
    go_wp2_with (first | (go_at_call 95; refine (hr _).mono ?_; rintro e w' ⟨rfl,rfl⟩) | (refine wpList_load_mid rfl 123 _ rfl _ _ rfl (plL p v) _ hrP Tryz.underlying123 rfl Tryz.sizeProgram ?_) | (refine wpList_load_mid rfl 140 _ rfl _ _ rfl (cfgL c) _ hrC Tryz.underlying140 rfl Tryz.sizeConfig ?_))
    refine (py_Step p v c (thr s[k]) (capB s[k]) _ (HP.out.below HBw.out)).mono ?_
    rintro e w3 ⟨rfl,hb3⟩
    have HBw3:=hide (HBw.out.trans (hb3.mono (by omega)))
    have HBr3:=hide (HBr.out.trans (hb3.mono (by omega)))
    have hC3:=(hb3.block _ hzr).trans HC.out
    have hR3:=(hb3.block _ (by omega)).trans hRr
    have hz3:C < w3.heap.size:=Nat.lt_of_lt_of_le hzr hb3.size
    clear hb3 hrP hrC HC HBr HBw hPr hRr
    cases hst:stepF p c (thr s[k]) (capB s[k]) with
    | none =>
     have HQ2:Hid (followF p s s.size 0 (start1 p) = .error k):=by
      show _ = _
      rw [← HE.out,hd,followF,HQ.out]
      show (match stepF p c (thr s[k]) (capB s[k]) with | none=>Except.error k | some c1=>_) = _
      rw [hst]
     clear hst hd
     go_upto_region 9 with (first | (refine wpl_alloc rfl 140 rfl (cfgL zCfg) Tryz.zeroConfig ?_) | (refine wpl_store_new rfl 140 _ _ rfl _ _ (cfgL zCfg) _ rfl rfl (by simp) Tryz.sizeConfig rfl (one_cfg _) ?_))
     have hb4:Below w3.heap.size w3 (w3.alloc (.cells (cfgL zCfg).toArray 140)):=(Below.refl _ _).alloc (Nat.le_refl _) _
     have HBw4:=hide (HBw3.out.trans (hb4.mono (by omega)))
     have hR4:=(hb4.block _ (by omega)).trans hR3
     clear hb4 hR3 hC3
     generalize w3.alloc (.cells (cfgL zCfg).toArray 140) = w4 at *
     go_wp2_with (first | (refine wpl_zero rfl 140 rfl (cfgL zCfg) Tryz.buildConfig ?_) | (refine wpl_store_box rfl 140 _ _ rfl (w.heap.size + 1) _ (cfgL zCfg) _ rfl rfl hR4 Tryz.sizeConfig rfl (one_cfg _) ?_))
     refine bodyPost_ret (v:=.tuple #[.agg (cfgL zCfg).toArray,.int .i64 k,.bool false]) ?_ rfl ⟨by rw [HQ2.out]; rfl,setRow_below HBw4.out (by omega)⟩
     exact res_cell_tmp2 Tryz.results71 rfl rfl rfl (range_whole (setRow_heap hR4)) Tryz.underlying140 rfl Tryz.sizeConfig
    | some c1 =>
     have HQ2:Hid (followF p s (s.size - (k + 1)) (k + 1) c1 = followF p s s.size 0 (start1 p)):=by
      show _ = _
      rw [← HE.out,hd,followF,HQ.out]
      show _ = (match stepF p c (thr s[k]) (capB s[k]) with | none=>Except.error k | some c1=>_)
      rw [hst]
     clear hst hd
     go_upto_region 9 with (first | (refine wpl_alloc rfl 140 rfl (cfgL zCfg) Tryz.zeroConfig ?_) | (refine wpl_store_new rfl 140 _ _ rfl _ _ (cfgL c1) _ rfl rfl (by simp) Tryz.sizeConfig rfl (one_cfg _) ?_))
     have hb4:Below w3.heap.size w3 (w3.alloc (.cells (cfgL c1).toArray 140)):=(Below.refl _ _).alloc (Nat.le_refl _) _
     have HBr4:=hide (HBr3.out.trans (hb4.mono (by omega)))
     have hC4:=(hb4.block _ (by omega)).trans hC3
     have hrD:(w3.alloc (.cells (cfgL c1).toArray 140)).rangeAt w3.heap.size 0 (cfgL c1):=rg_new rfl
     clear hb4 hR3 hC3
     generalize w3.alloc (.cells (cfgL c1).toArray 140) = w4 at *
     go_wp2_with (first | (refine wpList_load_mid rfl 140 _ rfl _ _ rfl (cfgL c1) _ hrD Tryz.underlying140 rfl Tryz.sizeConfig ?_) | (refine wpl_store_box rfl 140 _ _ rfl C _ (cfgL c1) _ rfl rfl hC4 Tryz.sizeConfig rfl (one_cfg _) ?_))
     go_roundw
     case rel=>exact ⟨k + 1,c1,by go_num,by omega,HQ2.out,setRow_heap hC4,setRow_below HBr4.out (Nat.le_refl _)⟩
     case measure=>simp [intOf]; omega
   ·have hr:∀ w,Calls Tryz.prog 95 #[.int .u8 s[k].toNat] w fun e w'=>e = .returned (.tuple #[.int .i64 0,.bool (capB s[k]),.bool false])∧w' = w:=fun w=>by
      have:=st_Read s[k] w
      rw [if_neg h0,decide_eq_false h0] at this
      exact this
    have HQ:Hid (followF p s s.size 0 (start1 p) = .error k):=by
     show _ = _
     rw [← HE.out,hd,followF,byteB_in hlt,readB_none h0]
    clear h0 hd
    go_wp2_with (first | (go_at_call 95; refine (hr _).mono ?_; rintro e w' ⟨rfl,rfl⟩) | (refine wpl_zero rfl 140 rfl (cfgL zCfg) Tryz.buildConfig ?_) | (refine wpl_store_box rfl 140 _ _ rfl (w.heap.size + 1) _ (cfgL zCfg) _ rfl rfl hRr Tryz.sizeConfig rfl (one_cfg _) ?_))
    refine bodyPost_ret (v:=.tuple #[.agg (cfgL zCfg).toArray,.int .i64 k,.bool false]) ?_ rfl ⟨by rw [HQ.out]; rfl,setRow_below HBw.out (by omega)⟩
    exact res_cell_tmp2 Tryz.results71 rfl rfl rfl (range_whole (setRow_heap hRr)) Tryz.underlying140 rfl Tryz.sizeConfig
  ·have hks:k = s.size:=by omega
   subst hks
   have HQ:Hid (followF p s s.size 0 (start1 p) = .ok c):=by
    show _ = _
    rw [← HE.out,Nat.sub_self]; rfl
   have hrC:wr.rangeAt C 0 (cfgL c):=range_whole HC.out
   go_wp2_with (first | (refine wpList_load_mid rfl 140 _ rfl _ _ rfl (cfgL c) _ hrC Tryz.underlying140 rfl Tryz.sizeConfig ?_) | (refine wpl_store_box rfl 140 _ _ rfl (w.heap.size + 1) _ (cfgL c) _ rfl rfl hRr Tryz.sizeConfig rfl (one_cfg _) ?_))
   refine bodyPost_ret (v:=.tuple #[.agg (cfgL c).toArray,.int .i64 0,.bool true]) ?_ rfl ⟨by rw [HQ.out]; rfl,setRow_below HBw.out (by omega)⟩
   exact res_cell_tmp2 Tryz.results71 rfl rfl rfl (range_whole (setRow_heap hRr)) Tryz.underlying140 rfl Tryz.sizeConfig
end Go.Proofs.YtmfcpbhdggonfaaGreatDoor
