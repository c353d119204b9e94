/- Contracts of the program's package play: who waits for a lock, what a step touches. -/
import Derived.Test.YtmfcpbhdggonfaaGreatDoorMjAV
import Derived.Test.YtmfcpbhdggonfaaGreatDoorMjAY
namespace Go.Proofs.YtmfcpbhdggonfaaGreatDoor
open Go.RowKit RR
theorem beq_cast (a b:Nat):((a:Int) == (b:Int)) = (a == b):=by
 by_cases h:a = b
 ·subst h; simp
 ·rw [beq_eq_false_iff_ne.2 h,beq_eq_false_iff_ne.2 (by omega)]
set_option maxRecDepth 100000 in
set_option maxHeartbeats 4000000 in
theorem py_atAcquire (p:Plan) (v:PV) (t:Thr) (w:World) (hp:PIn w p v) :
    Calls Tryz.prog 162 #[.agg (plL p v).toArray,.agg (thrL t).toArray] w fun e w'=>e = .returned (.bool (atAcqF p t))∧Below w.heap.size w w':=by
 have HP:=hide hp
 clear hp
 go_enter Tryz.func162,Tryz.ntmps162
 go_wp2_with (first | (refine wpl_box rfl 123 _ rfl (plL p v) rfl ?_) | (refine wpl_box rfl 137 _ rfl (thrL t) rfl ?_) | (refine wpList_load_mid rfl 137 _ rfl _ _ rfl (thrL t) _ (by (repeat (first | assumption | exact rg_new (by simp) | refine rg_alloc ?_))) Tryz.underlying137 rfl Tryz.sizeThr ?_))
 refine (py_frame t 0 _).mono ?_
 rintro e w1 ⟨rfl,hb1⟩
 have hb:Below w.heap.size w w1:=(((Below.refl _ _).alloc (Nat.le_refl _) _).alloc (by simp) _).trans (hb1.mono (by simp; omega))
 have HP1:=hide (HP.out.below hb)
 have hr1:w1.rangeAt w.heap.size 0 (plL p v):=rg_below (rg_alloc (rg_new rfl)) hb1
 have HB1:=hide hb
 have hz1:w.heap.size < w1.heap.size:=by have:=hb1.size; simp at this; omega
 clear hb hb1
 cases hf:frameF t 0 with
 | none =>
  have HE:Hid (atAcqF p t = false):=by show _ = _; unfold atAcqF; rw [hf]
  clear hf
  unfold frmV
  go_wp2_with (first | (refine wpList_load_mid rfl 123 _ rfl _ _ rfl (plL p v) _ (by (repeat (first | assumption | exact rg_new (by simp) | refine rg_alloc ?_))) Tryz.underlying123 rfl Tryz.sizeProgram ?_))
  refine (pn_Line p v 0 _ (HP1.out.below ((Below.refl _ _).alloc (Nat.le_refl _) _))).mono ?_
  rintro e w2 ⟨sa,sc,rfl,hfl,hb2⟩
  have HB2:=hide ((HB1.out.alloc (Nat.le_of_lt hz1) _).trans (hb2.mono (by simp; omega)))
  have hz2:w.heap.size < w2.heap.size:=by have:=hb2.size; simp at this; omega
  clear hfl hb2 hr1
  go_wp2_with (first | (refine wpl_alloc rfl 204 rfl (lnL zLine (.slice none 0 0)) Tryz.zeroLine ?_) | (refine wpl_store_new rfl 204 _ _ rfl _ _ (lnL (lineAt p 0) (.slice sa (lineAt p 0).vals.length sc)) _ rfl rfl (by simp) Tryz.sizeLine rfl rfl ?_))
  go_ret
  exact ⟨ret_bool (by rw [HE.out]),HB2.out.alloc (Nat.le_of_lt hz2) _⟩
 | some f =>
  have HE:Hid (atAcqF p t = ((lineAt p f.line).kind == 5)):=by show _ = _; unfold atAcqF; rw [hf]
  clear hf
  unfold frmV
  go_wp2_with (first | (refine wpList_load_mid rfl 123 _ rfl _ _ rfl (plL p v) _ (by (repeat (first | assumption | exact rg_new (by simp) | refine rg_alloc ?_))) Tryz.underlying123 rfl Tryz.sizeProgram ?_))
  refine (pn_Line p v f.line _ (HP1.out.below ((Below.refl _ _).alloc (Nat.le_refl _) _))).mono ?_
  rintro e w2 ⟨sa,sc,rfl,hfl,hb2⟩
  have HB2:=hide ((HB1.out.alloc (Nat.le_of_lt hz1) _).trans (hb2.mono (by simp; omega)))
  have hz2:w.heap.size < w2.heap.size:=by have:=hb2.size; simp at this; omega
  clear hfl hb2 hr1
  have k0:∀ x,(lnL (lineAt p f.line) x)[0]? = some (.int .i64 (lineAt p f.line).kind):=fun _=>rfl
  go_wp2_with (first | (refine wpl_alloc rfl 204 rfl (lnL zLine (.slice none 0 0)) Tryz.zeroLine ?_) | (refine wpl_store_new rfl 204 _ _ rfl _ _ (lnL (lineAt p f.line) (.slice sa (lineAt p f.line).vals.length sc)) _ rfl rfl (by simp) Tryz.sizeLine rfl rfl ?_))
  go_ret
  exact ⟨ret_bool (by rw [HE.out]; exact beq_cast _ _),HB2.out.alloc (Nat.le_of_lt hz2) _⟩
end Go.Proofs.YtmfcpbhdggonfaaGreatDoor
namespace Go.Proofs.YtmfcpbhdggonfaaGreatDoor
open Go.RowKit RR
set_option maxRecDepth 100000 in
set_option maxHeartbeats 8000000 in
theorem py_letterIfMade (p:Plan) (v:PV) (c:Cfg) (i:Int) (ch:Bool) (w:World) (hp:PIn w p v) :
    Calls Tryz.prog 159 #[.agg (plL p v).toArray,.agg (cfgL c).toArray,.int .i64 i,.bool ch] w fun e w'=>e = .returned (.string (letterIfF p c i ch))∧Below w.heap.size w w':=by
 have HP:=hide hp
 clear hp
 obtain ⟨hP,hC,hbW,hsz⟩:=bigs2 w (.cells (plL p v).toArray 123) (.cells (cfgL c).toArray 140)
 go_enter Tryz.func159,Tryz.ntmps159
 go_upto_region 1 with (first | (refine wpl_box rfl 123 _ rfl (plL p v) rfl ?_) | (refine wpl_box rfl 140 _ rfl (cfgL c) rfl ?_))
 have HPW:=hide (HP.out.below hbW)
 generalize (w.alloc (.cells (plL p v).toArray 123)).alloc (.cells (cfgL c).toArray 140) = W at *
 have HBW:=hide hbW
 have hrP:W.rangeAt w.heap.size 0 (plL p v):=range_whole hP
 have hrC:W.rangeAt (w.heap.size + 1) 0 (cfgL c):=range_whole hC
 clear hbW hP hC
 go_wp2_with (first | (refine wpList_load_mid rfl 123 _ rfl _ _ rfl (plL p v) _ (by (repeat (first | assumption | exact rg_new (by simp) | refine rg_alloc ?_))) Tryz.underlying123 rfl Tryz.sizeProgram ?_) | (refine wpList_load_mid rfl 140 _ rfl _ _ rfl (cfgL c) _ (by (repeat (first | assumption | exact rg_new (by simp) | refine rg_alloc ?_))) Tryz.underlying140 rfl Tryz.sizeConfig ?_))
 refine (py_Step p v c i ch _ HPW.out).mono ?_
 rintro e w1 ⟨rfl,hb1⟩
 have HB1:=hide (HBW.out.trans (hb1.mono (by omega)))
 have hz1:w.heap.size + 2 ≤ w1.heap.size:=by have:=hb1.size; omega
 clear hb1 hrP hrC
 cases hs:stepF p c i ch with
 | none =>
  have HE:Hid (letterIfF p c i ch = ⟨#[]⟩):=by show _ = _; unfold letterIfF; rw [hs]; rfl
  clear hs
  go_wp2_with (first | (refine wpl_alloc rfl 140 rfl (cfgL zCfg) Tryz.zeroConfig ?_) | (refine wpl_store_new rfl 140 _ _ rfl _ _ (cfgL zCfg) _ rfl rfl (by simp) Tryz.sizeConfig rfl (one_cfg _) ?_))
  go_ret
  exact ⟨ret_str HE.out.symm,HB1.out.alloc (by omega) _⟩
 | some c1 =>
  have HE:Hid (letterIfF p c i ch = letterF i ch):=by show _ = _; unfold letterIfF; rw [hs]; rfl
  clear hs
  go_wp2_with (first | (refine wpl_alloc rfl 140 rfl (cfgL zCfg) Tryz.zeroConfig ?_) | (refine wpl_store_new rfl 140 _ _ rfl _ _ (cfgL c1) _ rfl rfl (by simp) Tryz.sizeConfig rfl (one_cfg _) ?_) | (go_at_call 197; refine (st_Letter _ _ _).mono ?_; rintro e w2 ⟨rfl,rfl⟩))
  go_ret
  exact ⟨ret_str HE.out.symm,HB1.out.alloc (by omega) _⟩
def enabG (p:Plan) (c:Cfg):Nat→ByteArray
 | 0=>⟨#[]⟩
 | i + 1=>(enabG p c i ++ letterIfF p c i false) ++ letterIfF p c i true
theorem letterF_size (i:Int) (ch:Bool):(letterF i ch).size ≤ 1:=by
 unfold letterF
 cases ch
 all_goals
  split
  ·decide
  ·split
   ·decide
   ·split
    ·decide
    ·decide
theorem letterIf_size (p:Plan) (c:Cfg) (i:Int) (ch:Bool):(letterIfF p c i ch).size ≤ 1:=by
 unfold letterIfF
 split
 ·exact letterF_size i ch
 ·decide
theorem enabG_size (p:Plan) (c:Cfg):∀ i,(enabG p c i).size ≤ 2 * i
 | 0=>by simp [enabG,ByteArray.size]
 | i + 1=>by
  have h1:=enabG_size p c i
  have h2:=letterIf_size p c i false
  have h3:=letterIf_size p c i true
  simp only [enabG,ByteArray.size_append]
  omega
theorem enabG_all (p:Plan) (c:Cfg):enabG p c 3 = enabledF p c:=rfl
set_option maxRecDepth 100000 in
set_option maxHeartbeats 8000000 in
theorem py_Enabled (p:Plan) (v:PV) (c:Cfg) (w:World) (hp:PIn w p v) :
    Calls Tryz.prog 111 #[.agg (plL p v).toArray,.agg (cfgL c).toArray] w fun e w'=>e = .returned (.string (enabledF p c))∧Below w.heap.size w w':=by
 have HP:=hide hp
 clear hp
 obtain ⟨hP,hC,hbW,hsz⟩:=bigs2 w (.cells (plL p v).toArray 123) (.cells (cfgL c).toArray 140)
 go_enter Tryz.func111,Tryz.ntmps111
 go_upto_region 1 with (first | (refine wpl_box rfl 123 _ rfl (plL p v) rfl ?_) | (refine wpl_box rfl 140 _ rfl (cfgL c) rfl ?_))
 have HPW:=hide (HP.out.below hbW)
 generalize (w.alloc (.cells (plL p v).toArray 123)).alloc (.cells (cfgL c).toArray 140) = W at *
 have HBW:=hide hbW
 have hrP:W.rangeAt w.heap.size 0 (plL p v):=range_whole hP
 have hrC:W.rangeAt (w.heap.size + 1) 0 (cfgL c):=range_whole hC
 clear hbW hP hC
 go_wp2_with fail
 go_loopw [5,6] (fun s u wr=>∃ i:Nat,s = .string (enabG p c i)∧u = .int .i64 i∧i ≤ 3∧Below W.heap.size W wr) (fun _ u _=>3 - (intOf u).toNat)
 case atStart=>exact ⟨0,rfl,rfl,by omega,Below.refl _ _⟩
 case round =>
  obtain ⟨i,rfl,rfl,hi,hbr⟩:=hrel
  have HBr:=hide hbr
  have hrP1:wr.rangeAt w.heap.size 0 (plL p v):=rg_below hrP hbr
  have hrC1:wr.rangeAt (w.heap.size + 1) 0 (cfgL c):=rg_below hrC hbr
  clear hbr hrP hrC
  by_cases h3:i < 3
  ·have z1:=enabG_size p c i
   have z2:=letterIf_size p c i false
   have z3:=letterIf_size p c i true
   have z4:(enabG p c i ++ letterIfF p c i false).size ≤ 2 * i + 1:=by rw [ByteArray.size_append]; omega
   go_wp2_with (first | (refine wpList_load_mid rfl 123 _ rfl _ _ rfl (plL p v) _ (by (repeat (first | assumption | exact rg_new (by simp) | refine rg_alloc ?_))) Tryz.underlying123 rfl Tryz.sizeProgram ?_) | (refine wpList_load_mid rfl 140 _ rfl _ _ rfl (cfgL c) _ (by (repeat (first | assumption | exact rg_new (by simp) | refine rg_alloc ?_))) Tryz.underlying140 rfl Tryz.sizeConfig ?_))
   refine (py_letterIfMade p v c i false _ (HPW.out.below HBr.out)).mono ?_
   rintro e w1 ⟨rfl,hb1⟩
   have HB1:=hide (HBr.out.trans (hb1.mono HBr.out.size))
   have hrP2:w1.rangeAt w.heap.size 0 (plL p v):=rg_below hrP1 hb1
   have hrC2:w1.rangeAt (w.heap.size + 1) 0 (cfgL c):=rg_below hrC1 hb1
   clear hb1 hrP1 hrC1
   go_wp2_with (first | (refine wpList_load_mid rfl 123 _ rfl _ _ rfl (plL p v) _ (by (repeat (first | assumption | exact rg_new (by simp) | refine rg_alloc ?_))) Tryz.underlying123 rfl Tryz.sizeProgram ?_) | (refine wpList_load_mid rfl 140 _ rfl _ _ rfl (cfgL c) _ (by (repeat (first | assumption | exact rg_new (by simp) | refine rg_alloc ?_))) Tryz.underlying140 rfl Tryz.sizeConfig ?_))
   refine (py_letterIfMade p v c i true _ (HPW.out.below HB1.out)).mono ?_
   rintro e w2 ⟨rfl,hb2⟩
   have HB2:=hide (HB1.out.trans (hb2.mono HB1.out.size))
   clear hb2 hrP2 hrC2
   go_wp2_with fail
   go_roundw
   case rel=>exact ⟨i + 1,rfl,by go_num,by omega,HB2.out⟩
   case measure=>simp [intOf]; omega
  ·have hi3:i = 3:=by omega
   subst hi3
   go_wp2_with fail
   go_ret
   exact ⟨ret_str (enabG_all p c),HBW.out.trans (HBr.out.mono (by omega))⟩
end Go.Proofs.YtmfcpbhdggonfaaGreatDoor
namespace Go.Proofs.YtmfcpbhdggonfaaGreatDoor
open Go.RowKit RR
def tchL (a:Tch):List Value:=[.bool a.r0,.bool a.r1,.bool a.r2,.bool a.r3,.bool a.w0,.bool a.w1,.bool a.w2,.bool a.w3]
def hitF (a b:Tch) (i:Nat):Bool:=a.w i && (b.w i || b.r i)
theorem spoils_hit (a b:Tch):spoilsF a b = (hitF a b 0 || hitF a b 1 || hitF a b 2 || hitF a b 3):=rfl
set_option maxRecDepth 100000 in
set_option maxHeartbeats 8000000 in
theorem py_spoils (a b:Tch) (w:World) :
    Calls Tryz.prog 161 #[.agg (tchL a).toArray,.agg (tchL b).toArray] w fun e w'=>e = .returned (.bool (spoilsF a b))∧Below w.heap.size w w':=by
 obtain ⟨hA,hB,hbW,hsz⟩:=bigs2 w (.cells (tchL a).toArray 265) (.cells (tchL b).toArray 265)
 go_enter Tryz.func161,Tryz.ntmps161
 go_upto_region 1 with (first | (refine wpl_box rfl 265 _ rfl (tchL a) rfl ?_) | (refine wpl_box rfl 265 _ rfl (tchL b) rfl ?_))
 generalize (w.alloc (.cells (tchL a).toArray 265)).alloc (.cells (tchL b).toArray 265) = W at *
 have HBW:=hide hbW
 clear hbW hsz
 go_wp2_with fail
 go_loopw [5] (fun u wr=>∃ i:Nat,u = .int .i64 i∧i ≤ 4∧(∀ j,j < i→hitF a b j = false)∧wr = W) (fun u _=>4 - (intOf u).toNat)
 case atStart=>exact ⟨0,rfl,by omega,fun j hj=>by omega,rfl⟩
 case round =>
  obtain ⟨i,rfl,hi,hn,hw⟩:=hrel
  have HN:=hide hn
  have HW:=hide hw
  have aw0:wr.cell? ⟨w.heap.size,4,none⟩ = some (.bool a.w0):=by rw [hw]; exact cell_blk hA 4 rfl
  have bw0:wr.cell? ⟨w.heap.size + 1,4,none⟩ = some (.bool b.w0):=by rw [hw]; exact cell_blk hB 4 rfl
  have br0:wr.cell? ⟨w.heap.size + 1,0,none⟩ = some (.bool b.r0):=by rw [hw]; exact cell_blk hB 0 rfl
  have aw1:wr.cell? ⟨w.heap.size,5,none⟩ = some (.bool a.w1):=by rw [hw]; exact cell_blk hA 5 rfl
  have bw1:wr.cell? ⟨w.heap.size + 1,5,none⟩ = some (.bool b.w1):=by rw [hw]; exact cell_blk hB 5 rfl
  have br1:wr.cell? ⟨w.heap.size + 1,1,none⟩ = some (.bool b.r1):=by rw [hw]; exact cell_blk hB 1 rfl
  have aw2:wr.cell? ⟨w.heap.size,6,none⟩ = some (.bool a.w2):=by rw [hw]; exact cell_blk hA 6 rfl
  have bw2:wr.cell? ⟨w.heap.size + 1,6,none⟩ = some (.bool b.w2):=by rw [hw]; exact cell_blk hB 6 rfl
  have br2:wr.cell? ⟨w.heap.size + 1,2,none⟩ = some (.bool b.r2):=by rw [hw]; exact cell_blk hB 2 rfl
  have aw3:wr.cell? ⟨w.heap.size,7,none⟩ = some (.bool a.w3):=by rw [hw]; exact cell_blk hA 7 rfl
  have bw3:wr.cell? ⟨w.heap.size + 1,7,none⟩ = some (.bool b.w3):=by rw [hw]; exact cell_blk hB 7 rfl
  have br3:wr.cell? ⟨w.heap.size + 1,3,none⟩ = some (.bool b.r3):=by rw [hw]; exact cell_blk hB 3 rfl
  have HBW:=hide (show Below w.heap.size w wr from by rw [hw]; exact HBW.out)
  clear hn hw hA hB
  have h5:i = 0 ∨ i = 1 ∨ i = 2 ∨ i = 3 ∨ i = 4:=by omega
  rcases h5 with rfl | rfl | rfl | rfl | rfl
  ·cases ha:a.w0 with
   | false =>
    have HH:Hid (hitF a b 0 = false):=by show _ = _; show (a.w0 && (b.w0 || b.r0)) = false; rw [ha]; rfl
    rw [ha] at aw0
    clear ha
    go_wp2_with fail
    go_roundw
    case rel=>exact ⟨1,by go_num,by omega,fun j hj=>by (rcases Nat.lt_or_eq_of_le (Nat.le_of_lt_succ hj) with h | h; exact HN.out j h; rw [h]; exact HH.out),HW.out⟩
    case measure=>simp [intOf]
   | true =>
    cases hb:b.w0 with
    | true =>
     have HH:Hid (hitF a b 0 = true):=by show _ = _; show (a.w0 && (b.w0 || b.r0)) = true; rw [ha,hb]; rfl
     rw [ha] at aw0
     rw [hb] at bw0
     clear ha hb
     go_wp2_with fail
     go_ret
     exact ⟨ret_bool (by rw [spoils_hit,HH.out]; simp),HBW.out⟩
    | false =>
     cases hc:b.r0 with
     | true =>
      have HH:Hid (hitF a b 0 = true):=by show _ = _; show (a.w0 && (b.w0 || b.r0)) = true; rw [ha,hb,hc]; rfl
      rw [ha] at aw0
      rw [hb] at bw0
      rw [hc] at br0
      clear ha hb hc
      go_wp2_with fail
      go_ret
      exact ⟨ret_bool (by rw [spoils_hit,HH.out]; simp),HBW.out⟩
     | false =>
      have HH:Hid (hitF a b 0 = false):=by show _ = _; show (a.w0 && (b.w0 || b.r0)) = false; rw [ha,hb,hc]; rfl
      rw [ha] at aw0
      rw [hb] at bw0
      rw [hc] at br0
      clear ha hb hc
      go_wp2_with fail
      go_roundw
      case rel=>exact ⟨1,by go_num,by omega,fun j hj=>by (rcases Nat.lt_or_eq_of_le (Nat.le_of_lt_succ hj) with h | h; exact HN.out j h; rw [h]; exact HH.out),HW.out⟩
      case measure=>simp [intOf]
  ·cases ha:a.w1 with
   | false =>
    have HH:Hid (hitF a b 1 = false):=by show _ = _; show (a.w1 && (b.w1 || b.r1)) = false; rw [ha]; rfl
    rw [ha] at aw1
    clear ha
    go_wp2_with fail
    go_roundw
    case rel=>exact ⟨2,by go_num,by omega,fun j hj=>by (rcases Nat.lt_or_eq_of_le (Nat.le_of_lt_succ hj) with h | h; exact HN.out j h; rw [h]; exact HH.out),HW.out⟩
    case measure=>simp [intOf]
   | true =>
    cases hb:b.w1 with
    | true =>
     have HH:Hid (hitF a b 1 = true):=by show _ = _; show (a.w1 && (b.w1 || b.r1)) = true; rw [ha,hb]; rfl
     rw [ha] at aw1
     rw [hb] at bw1
     clear ha hb
     go_wp2_with fail
     go_ret
     exact ⟨ret_bool (by rw [spoils_hit,HH.out]; simp),HBW.out⟩
    | false =>
     cases hc:b.r1 with
     | true =>
      have HH:Hid (hitF a b 1 = true):=by show _ = _; show (a.w1 && (b.w1 || b.r1)) = true; rw [ha,hb,hc]; rfl
      rw [ha] at aw1
      rw [hb] at bw1
      rw [hc] at br1
      clear ha hb hc
      go_wp2_with fail
      go_ret
      exact ⟨ret_bool (by rw [spoils_hit,HH.out]; simp),HBW.out⟩
     | false =>
      have HH:Hid (hitF a b 1 = false):=by show _ = _; show (a.w1 && (b.w1 || b.r1)) = false; rw [ha,hb,hc]; rfl
      rw [ha] at aw1
      rw [hb] at bw1
      rw [hc] at br1
      clear ha hb hc
      go_wp2_with fail
      go_roundw
      case rel=>exact ⟨2,by go_num,by omega,fun j hj=>by (rcases Nat.lt_or_eq_of_le (Nat.le_of_lt_succ hj) with h | h; exact HN.out j h; rw [h]; exact HH.out),HW.out⟩
      case measure=>simp [intOf]
  ·cases ha:a.w2 with
   | false =>
    have HH:Hid (hitF a b 2 = false):=by show _ = _; show (a.w2 && (b.w2 || b.r2)) = false; rw [ha]; rfl
    rw [ha] at aw2
    clear ha
    go_wp2_with fail
    go_roundw
    case rel=>exact ⟨3,by go_num,by omega,fun j hj=>by (rcases Nat.lt_or_eq_of_le (Nat.le_of_lt_succ hj) with h | h; exact HN.out j h; rw [h]; exact HH.out),HW.out⟩
    case measure=>simp [intOf]
   | true =>
    cases hb:b.w2 with
    | true =>
     have HH:Hid (hitF a b 2 = true):=by show _ = _; show (a.w2 && (b.w2 || b.r2)) = true; rw [ha,hb]; rfl
     rw [ha] at aw2
     rw [hb] at bw2
     clear ha hb
     go_wp2_with fail
     go_ret
     exact ⟨ret_bool (by rw [spoils_hit,HH.out]; simp),HBW.out⟩
    | false =>
     cases hc:b.r2 with
     | true =>
      have HH:Hid (hitF a b 2 = true):=by show _ = _; show (a.w2 && (b.w2 || b.r2)) = true; rw [ha,hb,hc]; rfl
      rw [ha] at aw2
      rw [hb] at bw2
      rw [hc] at br2
      clear ha hb hc
      go_wp2_with fail
      go_ret
      exact ⟨ret_bool (by rw [spoils_hit,HH.out]; simp),HBW.out⟩
     | false =>
      have HH:Hid (hitF a b 2 = false):=by show _ = _; show (a.w2 && (b.w2 || b.r2)) = false; rw [ha,hb,hc]; rfl
      rw [ha] at aw2
      rw [hb] at bw2
      rw [hc] at br2
      clear ha hb hc
      go_wp2_with fail
      go_roundw
      case rel=>exact ⟨3,by go_num,by omega,fun j hj=>by (rcases Nat.lt_or_eq_of_le (Nat.le_of_lt_succ hj) with h | h; exact HN.out j h; rw [h]; exact HH.out),HW.out⟩
      case measure=>simp [intOf]
  ·cases ha:a.w3 with
   | false =>
    have HH:Hid (hitF a b 3 = false):=by show _ = _; show (a.w3 && (b.w3 || b.r3)) = false; rw [ha]; rfl
    rw [ha] at aw3
    clear ha
    go_wp2_with fail
    go_roundw
    case rel=>exact ⟨4,by go_num,by omega,fun j hj=>by (rcases Nat.lt_or_eq_of_le (Nat.le_of_lt_succ hj) with h | h; exact HN.out j h; rw [h]; exact HH.out),HW.out⟩
    case measure=>simp [intOf]
   | true =>
    cases hb:b.w3 with
    | true =>
     have HH:Hid (hitF a b 3 = true):=by show _ = _; show (a.w3 && (b.w3 || b.r3)) = true; rw [ha,hb]; rfl
     rw [ha] at aw3
     rw [hb] at bw3
     clear ha hb
     go_wp2_with fail
     go_ret
     exact ⟨ret_bool (by rw [spoils_hit,HH.out]; simp),HBW.out⟩
    | false =>
     cases hc:b.r3 with
     | true =>
      have HH:Hid (hitF a b 3 = true):=by show _ = _; show (a.w3 && (b.w3 || b.r3)) = true; rw [ha,hb,hc]; rfl
      rw [ha] at aw3
      rw [hb] at bw3
      rw [hc] at br3
      clear ha hb hc
      go_wp2_with fail
      go_ret
      exact ⟨ret_bool (by rw [spoils_hit,HH.out]; simp),HBW.out⟩
     | false =>
      have HH:Hid (hitF a b 3 = false):=by show _ = _; show (a.w3 && (b.w3 || b.r3)) = false; rw [ha,hb,hc]; rfl
      rw [ha] at aw3
      rw [hb] at bw3
      rw [hc] at br3
      clear ha hb hc
      go_wp2_with fail
      go_roundw
      case rel=>exact ⟨4,by go_num,by omega,fun j hj=>by (rcases Nat.lt_or_eq_of_le (Nat.le_of_lt_succ hj) with h | h; exact HN.out j h; rw [h]; exact HH.out),HW.out⟩
      case measure=>simp [intOf]
  ·have HS:Hid (spoilsF a b = false):=by show _ = _; rw [spoils_hit,HN.out 0 (by omega),HN.out 1 (by omega),HN.out 2 (by omega),HN.out 3 (by omega)]; rfl
   go_wp2_with fail
   go_ret
   exact ⟨ret_bool (by rw [HS.out]),HBW.out⟩
end Go.Proofs.YtmfcpbhdggonfaaGreatDoor
namespace Go.Proofs.YtmfcpbhdggonfaaGreatDoor
open Go.RowKit RR
def WrP (r:Tru) (w:World) (e:Ending) (w':World):Prop:=e = .returned (.agg #[.int .i64 r.own,.int .i64 r.num])∧Below w.heap.size w w'
set_option maxRecDepth 100000 in
set_option maxHeartbeats 8000000 in
theorem py_writtenBy_assign (p:Plan) (v:PV) (t:Thr) (a:PLine) (x:Value) (w:World) (hp:PIn w p v) (hk:a.kind = 0) :
    Calls Tryz.prog 199 #[.agg (plL p v).toArray,.agg (thrL t).toArray,.agg (lnL a x).toArray] w fun e w'=>WrP (writtenF p t a) w e w':=by
 have HE:Hid (writtenF p t a = a.target):=by show _ = _; unfold writtenF; rw [if_pos hk]
 have HP:=hide hp
 clear hp
 obtain ⟨hP,hT,hL,hbW,hsz⟩:=bigs3 w (.cells (plL p v).toArray 123) (.cells (thrL t).toArray 137) (.cells (lnL a x).toArray 204)
 go_enter Tryz.func199,Tryz.ntmps199
 go_upto_region 1 with (first | (refine wpl_box rfl 123 _ rfl (plL p v) rfl ?_) | (refine wpl_box rfl 137 _ rfl (thrL t) rfl ?_) | (refine wpl_box rfl 204 _ rfl (lnL a x) rfl ?_))
 have HPW:=hide (HP.out.below hbW)
 generalize ((w.alloc (.cells (plL p v).toArray 123)).alloc (.cells (thrL t).toArray 137)).alloc (.cells (lnL a x).toArray 204) = W0 at *
 have hR:(W0.alloc (.cells #[.int .i64 0,.int .i64 0] 193)).heap[w.heap.size + 3]? = some (.cells #[.int .i64 0,.int .i64 0] 193 (0,0)):=heap_new hsz.symm
 have hb0:Below W0.heap.size W0 (W0.alloc (.cells #[.int .i64 0,.int .i64 0] 193)):=(Below.refl _ _).alloc (Nat.le_refl _) _
 have hP:=(hb0.block _ (by omega)).trans hP
 have hT:=(hb0.block _ (by omega)).trans hT
 have hL:=(hb0.block _ (by omega)).trans hL
 have HBW:=hide (hbW.trans (hb0.mono (by omega)))
 have HPW:=hide (HPW.out.below hb0)
 have hsz:(W0.alloc (.cells #[.int .i64 0,.int .i64 0] 193)).heap.size = w.heap.size + 4:=by simp [hsz]
 clear hb0 hbW
 generalize W0.alloc (.cells #[.int .i64 0,.int .i64 0] 193) = W at *
 have l0:W.cell? ⟨w.heap.size + 2,0,none⟩ = some (.int .i64 0):=(cell_blk hL 0 rfl).trans (by rw [hk]; rfl)
 have l6:W.cell? ⟨w.heap.size + 2,6,none⟩ = some (.int .i64 a.target.own):=cell_blk hL 6 rfl
 have l7:W.cell? ⟨w.heap.size + 2,7,none⟩ = some (.int .i64 a.target.num):=cell_blk hL 7 rfl
 have z0:W.cell? ⟨w.heap.size + 3,0,none⟩ = some (.int .i64 0):=by simp [World.cell?,hR]
 have z1:W.cell? ⟨w.heap.size + 3,1,none⟩ = some (.int .i64 0):=by simp [World.cell?,hR]
 have fz0:W.frozen? ⟨w.heap.size + 3,0,none⟩ = false:=by simp [World.frozen?,hR]
 have fz1:W.frozen? ⟨w.heap.size + 3,1,none⟩ = false:=by simp [World.frozen?,hR]
 clear hP hT hL hk
 go_wp2_with fail
 refine bodyPost_ret (v:=.agg #[.int .i64 a.target.own,.int .i64 a.target.num]) ?_ rfl ⟨by rw [HE.out],(HBW.out.setCell (p:=⟨w.heap.size + 3,0,none⟩) (by simp) _).setCell (p:=⟨w.heap.size + 3,1,none⟩) (by simp) _⟩
 simp [results,Tryz.results199,go_sem,z0,z1]
set_option maxRecDepth 100000 in
set_option maxHeartbeats 8000000 in
theorem py_writtenBy_none (p:Plan) (v:PV) (t:Thr) (a:PLine) (x:Value) (w:World) (hp:PIn w p v) (hk:¬ a.kind = 0) (hf:frameF t 1 = none) :
    Calls Tryz.prog 199 #[.agg (plL p v).toArray,.agg (thrL t).toArray,.agg (lnL a x).toArray] w fun e w'=>WrP (writtenF p t a) w e w':=by
 have HE:Hid (writtenF p t a = ⟨0,0⟩):=by show _ = _; unfold writtenF; rw [if_neg hk,hf]
 have HP:=hide hp
 clear hp
 obtain ⟨hP,hT,hL,hbW,hsz⟩:=bigs3 w (.cells (plL p v).toArray 123) (.cells (thrL t).toArray 137) (.cells (lnL a x).toArray 204)
 go_enter Tryz.func199,Tryz.ntmps199
 go_upto_region 1 with (first | (refine wpl_box rfl 123 _ rfl (plL p v) rfl ?_) | (refine wpl_box rfl 137 _ rfl (thrL t) rfl ?_) | (refine wpl_box rfl 204 _ rfl (lnL a x) rfl ?_))
 have HPW:=hide (HP.out.below hbW)
 generalize ((w.alloc (.cells (plL p v).toArray 123)).alloc (.cells (thrL t).toArray 137)).alloc (.cells (lnL a x).toArray 204) = W0 at *
 have hR:(W0.alloc (.cells #[.int .i64 0,.int .i64 0] 193)).heap[w.heap.size + 3]? = some (.cells #[.int .i64 0,.int .i64 0] 193 (0,0)):=heap_new hsz.symm
 have hb0:Below W0.heap.size W0 (W0.alloc (.cells #[.int .i64 0,.int .i64 0] 193)):=(Below.refl _ _).alloc (Nat.le_refl _) _
 have hP:=(hb0.block _ (by omega)).trans hP
 have hT:=(hb0.block _ (by omega)).trans hT
 have hL:=(hb0.block _ (by omega)).trans hL
 have HBW:=hide (hbW.trans (hb0.mono (by omega)))
 have HPW:=hide (HPW.out.below hb0)
 have hsz:(W0.alloc (.cells #[.int .i64 0,.int .i64 0] 193)).heap.size = w.heap.size + 4:=by simp [hsz]
 clear hb0 hbW
 generalize W0.alloc (.cells #[.int .i64 0,.int .i64 0] 193) = W at *
 have l0:W.cell? ⟨w.heap.size + 2,0,none⟩ = some (.int .i64 a.kind):=cell_blk hL 0 rfl
 have p0:((a.kind:Int) == 0) = false:=beq_eq_false_iff_ne.2 (by omega)
 have hrT:W.rangeAt (w.heap.size + 1) 0 (thrL t):=range_whole hT
 go_wp2_with (first | (refine wpList_load_mid rfl 137 _ rfl _ _ rfl (thrL t) _ (by (repeat (first | assumption | exact rg_new (by simp) | refine rg_alloc ?_))) Tryz.underlying137 rfl Tryz.sizeThr ?_))
 refine (py_frame t 1 _).mono ?_
 rintro e w1 ⟨rfl,hb1⟩
 have HB1:=hide (HBW.out.trans (hb1.mono (by omega)))
 have hz1:w.heap.size + 4 ≤ w1.heap.size:=by have:=hb1.size; omega
 have HP1:=hide (HPW.out.below hb1)
 have hP1:=(hb1.block _ (by omega)).trans hP
 have hL1:=(hb1.block _ (by omega)).trans hL
 have hR1:=(hb1.block _ (by omega)).trans hR
 clear hb1 hP hT hL hR HPW hrT l0
 rw [hf]
 clear hf
 unfold frmV
 have hb2:Below w1.heap.size w1 (w1.alloc (.cells #[.int .i64 0,.bool false,.bool false,.bool false] 134)):=(Below.refl _ _).alloc (Nat.le_refl _) _
 have HB2:=hide (HB1.out.trans (hb2.mono (by omega)))
 have hR2:=(hb2.block _ (by omega)).trans hR1
 have hL2:=(hb2.block _ (by omega)).trans hL1
 go_upto_region 4 with fail
 clear hL1 hR1 hP1 HP1 HB1 hb2
 generalize w1.alloc (.cells #[.int .i64 0,.bool false,.bool false,.bool false] 134) = w2 at *
 have z0:w2.cell? ⟨w.heap.size + 3,0,none⟩ = some (.int .i64 0):=by simp [World.cell?,hR2]
 have z1:w2.cell? ⟨w.heap.size + 3,1,none⟩ = some (.int .i64 0):=by simp [World.cell?,hR2]
 have fz0:w2.frozen? ⟨w.heap.size + 3,0,none⟩ = false:=by simp [World.frozen?,hR2]
 have fz1:w2.frozen? ⟨w.heap.size + 3,1,none⟩ = false:=by simp [World.frozen?,hR2]
 clear hL2
 go_wp2_with fail
 refine bodyPost_ret (v:=.agg #[.int .i64 0,.int .i64 0]) ?_ rfl ⟨by rw [HE.out]; rfl,(HB2.out.setCell (p:=⟨w.heap.size + 3,0,none⟩) (by simp) _).setCell (p:=⟨w.heap.size + 3,1,none⟩) (by simp) _⟩
 simp [results,Tryz.results199,go_sem,z0,z1]
set_option maxRecDepth 100000 in
set_option maxHeartbeats 8000000 in
theorem py_writtenBy_other (p:Plan) (v:PV) (t:Thr) (a:PLine) (x:Value) (f:Frm) (w:World) (hp:PIn w p v) (hk:¬ a.kind = 0) (hf:frameF t 1 = some f) (k7:¬ a.kind = 7) (k9:¬ a.kind = 9) :
    Calls Tryz.prog 199 #[.agg (plL p v).toArray,.agg (thrL t).toArray,.agg (lnL a x).toArray] w fun e w'=>WrP (writtenF p t a) w e w':=by
 have HE:Hid (writtenF p t a = ⟨0,0⟩):=by show _ = _; unfold writtenF; rw [if_neg hk,hf]; exact if_neg (by omega)
 have HP:=hide hp
 clear hp
 obtain ⟨hP,hT,hL,hbW,hsz⟩:=bigs3 w (.cells (plL p v).toArray 123) (.cells (thrL t).toArray 137) (.cells (lnL a x).toArray 204)
 go_enter Tryz.func199,Tryz.ntmps199
 go_upto_region 1 with (first | (refine wpl_box rfl 123 _ rfl (plL p v) rfl ?_) | (refine wpl_box rfl 137 _ rfl (thrL t) rfl ?_) | (refine wpl_box rfl 204 _ rfl (lnL a x) rfl ?_))
 have HPW:=hide (HP.out.below hbW)
 generalize ((w.alloc (.cells (plL p v).toArray 123)).alloc (.cells (thrL t).toArray 137)).alloc (.cells (lnL a x).toArray 204) = W0 at *
 have hR:(W0.alloc (.cells #[.int .i64 0,.int .i64 0] 193)).heap[w.heap.size + 3]? = some (.cells #[.int .i64 0,.int .i64 0] 193 (0,0)):=heap_new hsz.symm
 have hb0:Below W0.heap.size W0 (W0.alloc (.cells #[.int .i64 0,.int .i64 0] 193)):=(Below.refl _ _).alloc (Nat.le_refl _) _
 have hP:=(hb0.block _ (by omega)).trans hP
 have hT:=(hb0.block _ (by omega)).trans hT
 have hL:=(hb0.block _ (by omega)).trans hL
 have HBW:=hide (hbW.trans (hb0.mono (by omega)))
 have HPW:=hide (HPW.out.below hb0)
 have hsz:(W0.alloc (.cells #[.int .i64 0,.int .i64 0] 193)).heap.size = w.heap.size + 4:=by simp [hsz]
 clear hb0 hbW
 generalize W0.alloc (.cells #[.int .i64 0,.int .i64 0] 193) = W at *
 have l0:W.cell? ⟨w.heap.size + 2,0,none⟩ = some (.int .i64 a.kind):=cell_blk hL 0 rfl
 have p0:((a.kind:Int) == 0) = false:=beq_eq_false_iff_ne.2 (by omega)
 have hrT:W.rangeAt (w.heap.size + 1) 0 (thrL t):=range_whole hT
 go_wp2_with (first | (refine wpList_load_mid rfl 137 _ rfl _ _ rfl (thrL t) _ (by (repeat (first | assumption | exact rg_new (by simp) | refine rg_alloc ?_))) Tryz.underlying137 rfl Tryz.sizeThr ?_))
 refine (py_frame t 1 _).mono ?_
 rintro e w1 ⟨rfl,hb1⟩
 have HB1:=hide (HBW.out.trans (hb1.mono (by omega)))
 have hz1:w.heap.size + 4 ≤ w1.heap.size:=by have:=hb1.size; omega
 have HP1:=hide (HPW.out.below hb1)
 have hP1:=(hb1.block _ (by omega)).trans hP
 have hL1:=(hb1.block _ (by omega)).trans hL
 have hR1:=(hb1.block _ (by omega)).trans hR
 clear hb1 hP hT hL hR HPW hrT l0
 rw [hf]
 clear hf
 unfold frmV
 have hb2:Below w1.heap.size w1 (w1.alloc (.cells #[.int .i64 f.line,.bool f.p0,.bool f.p1,.bool f.p2] 134)):=(Below.refl _ _).alloc (Nat.le_refl _) _
 have HB2:=hide (HB1.out.trans (hb2.mono (by omega)))
 have hR2:=(hb2.block _ (by omega)).trans hR1
 have hL2:=(hb2.block _ (by omega)).trans hL1
 have p7:((a.kind:Int) == 7) = false:=beq_eq_false_iff_ne.2 (by omega)
 have p9:((a.kind:Int) == 9) = false:=beq_eq_false_iff_ne.2 (by omega)
 go_upto_region 4 with fail
 clear hL1 hR1 hP1 HP1 HB1 hb2
 generalize w1.alloc (.cells #[.int .i64 f.line,.bool f.p0,.bool f.p1,.bool f.p2] 134) = w2 at *
 have z0:w2.cell? ⟨w.heap.size + 3,0,none⟩ = some (.int .i64 0):=by simp [World.cell?,hR2]
 have z1:w2.cell? ⟨w.heap.size + 3,1,none⟩ = some (.int .i64 0):=by simp [World.cell?,hR2]
 have fz0:w2.frozen? ⟨w.heap.size + 3,0,none⟩ = false:=by simp [World.frozen?,hR2]
 have fz1:w2.frozen? ⟨w.heap.size + 3,1,none⟩ = false:=by simp [World.frozen?,hR2]
 have l0:w2.cell? ⟨w.heap.size + 2,0,none⟩ = some (.int .i64 a.kind):=cell_blk hL2 0 rfl
 clear hL2
 go_wp2_with fail
 refine bodyPost_ret (v:=.agg #[.int .i64 0,.int .i64 0]) ?_ rfl ⟨by rw [HE.out]; rfl,(HB2.out.setCell (p:=⟨w.heap.size + 3,0,none⟩) (by simp) _).setCell (p:=⟨w.heap.size + 3,1,none⟩) (by simp) _⟩
 simp [results,Tryz.results199,go_sem,z0,z1]
set_option maxRecDepth 100000 in
set_option maxHeartbeats 8000000 in
theorem py_writtenBy_back7 (p:Plan) (v:PV) (t:Thr) (a:PLine) (x:Value) (f:Frm) (w:World) (hp:PIn w p v) (hkd:a.kind = 7) (hf:frameF t 1 = some f) :
    Calls Tryz.prog 199 #[.agg (plL p v).toArray,.agg (thrL t).toArray,.agg (lnL a x).toArray] w fun e w'=>WrP (writtenF p t a) w e w':=by
 have HE:Hid (writtenF p t a = (lineAt p f.line).target):=by show _ = _; unfold writtenF; rw [if_neg (by omega),hf]; exact if_pos (by omega)
 have HP:=hide hp
 clear hp
 obtain ⟨hP,hT,hL,hbW,hsz⟩:=bigs3 w (.cells (plL p v).toArray 123) (.cells (thrL t).toArray 137) (.cells (lnL a x).toArray 204)
 go_enter Tryz.func199,Tryz.ntmps199
 go_upto_region 1 with (first | (refine wpl_box rfl 123 _ rfl (plL p v) rfl ?_) | (refine wpl_box rfl 137 _ rfl (thrL t) rfl ?_) | (refine wpl_box rfl 204 _ rfl (lnL a x) rfl ?_))
 have HPW:=hide (HP.out.below hbW)
 generalize ((w.alloc (.cells (plL p v).toArray 123)).alloc (.cells (thrL t).toArray 137)).alloc (.cells (lnL a x).toArray 204) = W0 at *
 have hR:(W0.alloc (.cells #[.int .i64 0,.int .i64 0] 193)).heap[w.heap.size + 3]? = some (.cells #[.int .i64 0,.int .i64 0] 193 (0,0)):=heap_new hsz.symm
 have hb0:Below W0.heap.size W0 (W0.alloc (.cells #[.int .i64 0,.int .i64 0] 193)):=(Below.refl _ _).alloc (Nat.le_refl _) _
 have hP:=(hb0.block _ (by omega)).trans hP
 have hT:=(hb0.block _ (by omega)).trans hT
 have hL:=(hb0.block _ (by omega)).trans hL
 have HBW:=hide (hbW.trans (hb0.mono (by omega)))
 have HPW:=hide (HPW.out.below hb0)
 have hsz:(W0.alloc (.cells #[.int .i64 0,.int .i64 0] 193)).heap.size = w.heap.size + 4:=by simp [hsz]
 clear hb0 hbW
 generalize W0.alloc (.cells #[.int .i64 0,.int .i64 0] 193) = W at *
 have l0:W.cell? ⟨w.heap.size + 2,0,none⟩ = some (.int .i64 a.kind):=cell_blk hL 0 rfl
 have p0:((a.kind:Int) == 0) = false:=beq_eq_false_iff_ne.2 (by omega)
 have hrT:W.rangeAt (w.heap.size + 1) 0 (thrL t):=range_whole hT
 go_wp2_with (first | (refine wpList_load_mid rfl 137 _ rfl _ _ rfl (thrL t) _ (by (repeat (first | assumption | exact rg_new (by simp) | refine rg_alloc ?_))) Tryz.underlying137 rfl Tryz.sizeThr ?_))
 refine (py_frame t 1 _).mono ?_
 rintro e w1 ⟨rfl,hb1⟩
 have HB1:=hide (HBW.out.trans (hb1.mono (by omega)))
 have hz1:w.heap.size + 4 ≤ w1.heap.size:=by have:=hb1.size; omega
 have HP1:=hide (HPW.out.below hb1)
 have hP1:=(hb1.block _ (by omega)).trans hP
 have hL1:=(hb1.block _ (by omega)).trans hL
 have hR1:=(hb1.block _ (by omega)).trans hR
 clear hb1 hP hT hL hR HPW hrT l0
 rw [hf]
 clear hf
 unfold frmV
 have hb2:Below w1.heap.size w1 (w1.alloc (.cells #[.int .i64 f.line,.bool f.p0,.bool f.p1,.bool f.p2] 134)):=(Below.refl _ _).alloc (Nat.le_refl _) _
 have HB2:=hide (HB1.out.trans (hb2.mono (by omega)))
 have hR2:=(hb2.block _ (by omega)).trans hR1
 have hL2:=(hb2.block _ (by omega)).trans hL1
 have HP2:=hide (HP1.out.below hb2)
 have hP2:=(hb2.block _ (by omega)).trans hP1
 have f0:(w1.alloc (.cells #[.int .i64 f.line,.bool f.p0,.bool f.p1,.bool f.p2] 134)).cell? ⟨w1.heap.size,0,none⟩ = some (.int .i64 f.line):=by simp
 have hz2:w1.heap.size + 1 = (w1.alloc (.cells #[.int .i64 f.line,.bool f.p0,.bool f.p1,.bool f.p2] 134)).heap.size:=by simp
 go_upto_region 4 with fail
 clear hL1 hR1 hP1 HP1 HB1 hb2
 generalize w1.alloc (.cells #[.int .i64 f.line,.bool f.p0,.bool f.p1,.bool f.p2] 134) = w2 at *
 generalize w1.heap.size = F at *
 have l0:w2.cell? ⟨w.heap.size + 2,0,none⟩ = some (.int .i64 7):=(cell_blk hL2 0 rfl).trans (by rw [hkd]; rfl)
 have hrP:w2.rangeAt w.heap.size 0 (plL p v):=range_whole hP2
 clear hL2 hkd
 go_wp2_with (first | (refine wpList_load_mid rfl 123 _ rfl _ _ rfl (plL p v) _ (by (repeat (first | assumption | exact rg_new (by simp) | refine rg_alloc ?_))) Tryz.underlying123 rfl Tryz.sizeProgram ?_))
 refine (pn_Line p v f.line _ HP2.out).mono ?_
 rintro e w3 ⟨sa,sc,rfl,hfl,hb3⟩
 have HB3:=hide (HB2.out.trans (hb3.mono (by omega)))
 have hR3:=(hb3.block _ (by omega)).trans hR2
 have hz3:w.heap.size + 4 ≤ w3.heap.size:=by have:=hb3.size; omega
 clear hfl hb3 hrP hP2 HP2 hR2 HB2 f0 l0
 go_upto_region 6 with (first | (refine wpl_alloc rfl 204 rfl (lnL zLine (.slice none 0 0)) Tryz.zeroLine ?_) | (refine wpl_store_new rfl 204 _ _ rfl _ _ (lnL (lineAt p f.line) (.slice sa (lineAt p f.line).vals.length sc)) _ rfl rfl (by simp) Tryz.sizeLine rfl rfl ?_))
 have hb4:Below w3.heap.size w3 (w3.alloc (.cells (lnL (lineAt p f.line) (.slice sa (lineAt p f.line).vals.length sc)).toArray 204)):=(Below.refl _ _).alloc (Nat.le_refl _) _
 have HB2:=hide (HB3.out.trans (hb4.mono (by omega)))
 have hR2:=(hb4.block _ (by omega)).trans hR3
 have hL4:(w3.alloc (.cells (lnL (lineAt p f.line) (.slice sa (lineAt p f.line).vals.length sc)).toArray 204)).heap[w3.heap.size]? = some (.cells (lnL (lineAt p f.line) (.slice sa (lineAt p f.line).vals.length sc)).toArray 204 (0,0)):=heap_alloc_new _ _
 clear hb4 hR3 HB3
 generalize w3.alloc (.cells (lnL (lineAt p f.line) (.slice sa (lineAt p f.line).vals.length sc)).toArray 204) = w2 at *
 have l6:w2.cell? ⟨w3.heap.size,6,none⟩ = some (.int .i64 (lineAt p f.line).target.own):=cell_blk hL4 6 rfl
 have l7:w2.cell? ⟨w3.heap.size,7,none⟩ = some (.int .i64 (lineAt p f.line).target.num):=cell_blk hL4 7 rfl
 have z0:w2.cell? ⟨w.heap.size + 3,0,none⟩ = some (.int .i64 0):=by simp [World.cell?,hR2]
 have z1:w2.cell? ⟨w.heap.size + 3,1,none⟩ = some (.int .i64 0):=by simp [World.cell?,hR2]
 have fz0:w2.frozen? ⟨w.heap.size + 3,0,none⟩ = false:=by simp [World.frozen?,hR2]
 have fz1:w2.frozen? ⟨w.heap.size + 3,1,none⟩ = false:=by simp [World.frozen?,hR2]
 clear hL4
 go_wp2_with fail
 refine bodyPost_ret (v:=.agg #[.int .i64 (lineAt p f.line).target.own,.int .i64 (lineAt p f.line).target.num]) ?_ rfl ⟨by rw [HE.out],(HB2.out.setCell (p:=⟨w.heap.size + 3,0,none⟩) (by simp) _).setCell (p:=⟨w.heap.size + 3,1,none⟩) (by simp) _⟩
 simp [results,Tryz.results199,go_sem,z0,z1]
set_option maxRecDepth 100000 in
set_option maxHeartbeats 8000000 in
theorem py_writtenBy_back9 (p:Plan) (v:PV) (t:Thr) (a:PLine) (x:Value) (f:Frm) (w:World) (hp:PIn w p v) (hkd:a.kind = 9) (hf:frameF t 1 = some f) :
    Calls Tryz.prog 199 #[.agg (plL p v).toArray,.agg (thrL t).toArray,.agg (lnL a x).toArray] w fun e w'=>WrP (writtenF p t a) w e w':=by
 have HE:Hid (writtenF p t a = (lineAt p f.line).target):=by show _ = _; unfold writtenF; rw [if_neg (by omega),hf]; exact if_pos (by omega)
 have HP:=hide hp
 clear hp
 obtain ⟨hP,hT,hL,hbW,hsz⟩:=bigs3 w (.cells (plL p v).toArray 123) (.cells (thrL t).toArray 137) (.cells (lnL a x).toArray 204)
 go_enter Tryz.func199,Tryz.ntmps199
 go_upto_region 1 with (first | (refine wpl_box rfl 123 _ rfl (plL p v) rfl ?_) | (refine wpl_box rfl 137 _ rfl (thrL t) rfl ?_) | (refine wpl_box rfl 204 _ rfl (lnL a x) rfl ?_))
 have HPW:=hide (HP.out.below hbW)
 generalize ((w.alloc (.cells (plL p v).toArray 123)).alloc (.cells (thrL t).toArray 137)).alloc (.cells (lnL a x).toArray 204) = W0 at *
 have hR:(W0.alloc (.cells #[.int .i64 0,.int .i64 0] 193)).heap[w.heap.size + 3]? = some (.cells #[.int .i64 0,.int .i64 0] 193 (0,0)):=heap_new hsz.symm
 have hb0:Below W0.heap.size W0 (W0.alloc (.cells #[.int .i64 0,.int .i64 0] 193)):=(Below.refl _ _).alloc (Nat.le_refl _) _
 have hP:=(hb0.block _ (by omega)).trans hP
 have hT:=(hb0.block _ (by omega)).trans hT
 have hL:=(hb0.block _ (by omega)).trans hL
 have HBW:=hide (hbW.trans (hb0.mono (by omega)))
 have HPW:=hide (HPW.out.below hb0)
 have hsz:(W0.alloc (.cells #[.int .i64 0,.int .i64 0] 193)).heap.size = w.heap.size + 4:=by simp [hsz]
 clear hb0 hbW
 generalize W0.alloc (.cells #[.int .i64 0,.int .i64 0] 193) = W at *
 have l0:W.cell? ⟨w.heap.size + 2,0,none⟩ = some (.int .i64 a.kind):=cell_blk hL 0 rfl
 have p0:((a.kind:Int) == 0) = false:=beq_eq_false_iff_ne.2 (by omega)
 have hrT:W.rangeAt (w.heap.size + 1) 0 (thrL t):=range_whole hT
 go_wp2_with (first | (refine wpList_load_mid rfl 137 _ rfl _ _ rfl (thrL t) _ (by (repeat (first | assumption | exact rg_new (by simp) | refine rg_alloc ?_))) Tryz.underlying137 rfl Tryz.sizeThr ?_))
 refine (py_frame t 1 _).mono ?_
 rintro e w1 ⟨rfl,hb1⟩
 have HB1:=hide (HBW.out.trans (hb1.mono (by omega)))
 have hz1:w.heap.size + 4 ≤ w1.heap.size:=by have:=hb1.size; omega
 have HP1:=hide (HPW.out.below hb1)
 have hP1:=(hb1.block _ (by omega)).trans hP
 have hL1:=(hb1.block _ (by omega)).trans hL
 have hR1:=(hb1.block _ (by omega)).trans hR
 clear hb1 hP hT hL hR HPW hrT l0
 rw [hf]
 clear hf
 unfold frmV
 have hb2:Below w1.heap.size w1 (w1.alloc (.cells #[.int .i64 f.line,.bool f.p0,.bool f.p1,.bool f.p2] 134)):=(Below.refl _ _).alloc (Nat.le_refl _) _
 have HB2:=hide (HB1.out.trans (hb2.mono (by omega)))
 have hR2:=(hb2.block _ (by omega)).trans hR1
 have hL2:=(hb2.block _ (by omega)).trans hL1
 have HP2:=hide (HP1.out.below hb2)
 have hP2:=(hb2.block _ (by omega)).trans hP1
 have f0:(w1.alloc (.cells #[.int .i64 f.line,.bool f.p0,.bool f.p1,.bool f.p2] 134)).cell? ⟨w1.heap.size,0,none⟩ = some (.int .i64 f.line):=by simp
 have hz2:w1.heap.size + 1 = (w1.alloc (.cells #[.int .i64 f.line,.bool f.p0,.bool f.p1,.bool f.p2] 134)).heap.size:=by simp
 go_upto_region 4 with fail
 clear hL1 hR1 hP1 HP1 HB1 hb2
 generalize w1.alloc (.cells #[.int .i64 f.line,.bool f.p0,.bool f.p1,.bool f.p2] 134) = w2 at *
 generalize w1.heap.size = F at *
 have l0:w2.cell? ⟨w.heap.size + 2,0,none⟩ = some (.int .i64 9):=(cell_blk hL2 0 rfl).trans (by rw [hkd]; rfl)
 have hrP:w2.rangeAt w.heap.size 0 (plL p v):=range_whole hP2
 clear hL2 hkd
 go_wp2_with (first | (refine wpList_load_mid rfl 123 _ rfl _ _ rfl (plL p v) _ (by (repeat (first | assumption | exact rg_new (by simp) | refine rg_alloc ?_))) Tryz.underlying123 rfl Tryz.sizeProgram ?_))
 refine (pn_Line p v f.line _ HP2.out).mono ?_
 rintro e w3 ⟨sa,sc,rfl,hfl,hb3⟩
 have HB3:=hide (HB2.out.trans (hb3.mono (by omega)))
 have hR3:=(hb3.block _ (by omega)).trans hR2
 have hz3:w.heap.size + 4 ≤ w3.heap.size:=by have:=hb3.size; omega
 clear hfl hb3 hrP hP2 HP2 hR2 HB2 f0 l0
 go_upto_region 6 with (first | (refine wpl_alloc rfl 204 rfl (lnL zLine (.slice none 0 0)) Tryz.zeroLine ?_) | (refine wpl_store_new rfl 204 _ _ rfl _ _ (lnL (lineAt p f.line) (.slice sa (lineAt p f.line).vals.length sc)) _ rfl rfl (by simp) Tryz.sizeLine rfl rfl ?_))
 have hb4:Below w3.heap.size w3 (w3.alloc (.cells (lnL (lineAt p f.line) (.slice sa (lineAt p f.line).vals.length sc)).toArray 204)):=(Below.refl _ _).alloc (Nat.le_refl _) _
 have HB2:=hide (HB3.out.trans (hb4.mono (by omega)))
 have hR2:=(hb4.block _ (by omega)).trans hR3
 have hL4:(w3.alloc (.cells (lnL (lineAt p f.line) (.slice sa (lineAt p f.line).vals.length sc)).toArray 204)).heap[w3.heap.size]? = some (.cells (lnL (lineAt p f.line) (.slice sa (lineAt p f.line).vals.length sc)).toArray 204 (0,0)):=heap_alloc_new _ _
 clear hb4 hR3 HB3
 generalize w3.alloc (.cells (lnL (lineAt p f.line) (.slice sa (lineAt p f.line).vals.length sc)).toArray 204) = w2 at *
 have l6:w2.cell? ⟨w3.heap.size,6,none⟩ = some (.int .i64 (lineAt p f.line).target.own):=cell_blk hL4 6 rfl
 have l7:w2.cell? ⟨w3.heap.size,7,none⟩ = some (.int .i64 (lineAt p f.line).target.num):=cell_blk hL4 7 rfl
 have z0:w2.cell? ⟨w.heap.size + 3,0,none⟩ = some (.int .i64 0):=by simp [World.cell?,hR2]
 have z1:w2.cell? ⟨w.heap.size + 3,1,none⟩ = some (.int .i64 0):=by simp [World.cell?,hR2]
 have fz0:w2.frozen? ⟨w.heap.size + 3,0,none⟩ = false:=by simp [World.frozen?,hR2]
 have fz1:w2.frozen? ⟨w.heap.size + 3,1,none⟩ = false:=by simp [World.frozen?,hR2]
 clear hL4
 go_wp2_with fail
 refine bodyPost_ret (v:=.agg #[.int .i64 (lineAt p f.line).target.own,.int .i64 (lineAt p f.line).target.num]) ?_ rfl ⟨by rw [HE.out],(HB2.out.setCell (p:=⟨w.heap.size + 3,0,none⟩) (by simp) _).setCell (p:=⟨w.heap.size + 3,1,none⟩) (by simp) _⟩
 simp [results,Tryz.results199,go_sem,z0,z1]
theorem py_writtenBy (p:Plan) (v:PV) (t:Thr) (a:PLine) (x:Value) (w:World) (hp:PIn w p v) :
    Calls Tryz.prog 199 #[.agg (plL p v).toArray,.agg (thrL t).toArray,.agg (lnL a x).toArray] w fun e w'=>WrP (writtenF p t a) w e w':=by
 by_cases k0:a.kind = 0
 ·exact py_writtenBy_assign p v t a x w hp k0
 cases hf:frameF t 1 with
 | none=>exact py_writtenBy_none p v t a x w hp k0 hf
 | some f =>
  by_cases k7:a.kind = 7
  ·exact py_writtenBy_back7 p v t a x f w hp k7 hf
  by_cases k9:a.kind = 9
  ·exact py_writtenBy_back9 p v t a x f w hp k9 hf
  ·exact py_writtenBy_other p v t a x f w hp k0 hf k7 k9
end Go.Proofs.YtmfcpbhdggonfaaGreatDoor
