/- Contracts of the program's package play: texts. -/
import Derived.Test.YtmfcpbhdggonfaaGreatDoorMjBA
import Derived.Test.YtmfcpbhdggonfaaGreatDoorMjBB
namespace Go.Proofs.YtmfcpbhdggonfaaGreatDoor
open Go.RowKit RR
def ItOk (w:World) (i:Nat):Prop:=∀ w',Below w.heap.size w w'→Calls Tryz.prog 29 #[.int .i64 i] w' fun e w''=>e = .returned (.string (itoaF i))∧Below w'.heap.size w' w''
theorem ItOk.below {w w':World} {i:Nat} (h:ItOk w i) (hb:Below w.heap.size w w'):ItOk w' i:=fun w'' hb2=>h w'' (hb.trans (hb2.mono hb.size))
theorem ItOk.small (w:World) (i:Nat) (hi:i < 100):ItOk w i:=fun w' _=>(Tryz.strconv_Itoa_small i hi w').mono (by rintro e w'' ⟨rfl,rfl⟩; exact ⟨rfl,Below.refl _ _⟩)
def PIt (p:Plan) (w:World):Prop:=∀ n,ItOk w (lineAt p n).at_∧(itoaF (lineAt p n).at_).size ≤ 1000
theorem PIt.below {p:Plan} {w w':World} (h:PIt p w) (hb:Below w.heap.size w w'):PIt p w':=fun n=>⟨(h n).1.below hb,(h n).2⟩
theorem bit_size (b:Bool):(bitF b).size = 1:=by cases b <;> rfl
theorem bitsF_out {g:Nat→Bool} {n:Int} {m i:Nat} (h:¬ ((i:Int) < n∧i < m)) (d:Nat) (s:ByteArray):bitsF g n m d i s = s:=by
 cases d with
 | zero=>rfl
 | succ d=>rw [bitsF,if_neg h]
theorem bitsF_step {g:Nat→Bool} {n:Int} {m i:Nat} (h:(i:Int) < n∧i < m) (d:Nat) (s:ByteArray):bitsF g n m (d + 1) i s = bitsF g n m d (i + 1) (s ++ bitF (g i)):=by
 rw [bitsF,if_pos h]
set_option maxRecDepth 100000 in
set_option maxHeartbeats 8000000 in
theorem py_frameText (p:Plan) (v:PV) (f:Frm) (w:World) (hp:PIn w p v) (hit:PIt p w) :
    Calls Tryz.prog 198 #[.agg (plL p v).toArray,.agg #[.int .i64 f.line,.bool f.p0,.bool f.p1,.bool f.p2]] w fun e w'=>(e = .returned (.string (frameTextF p f))∧(frameTextF p f).size ≤ 1010)∧Below w.heap.size w w':=by
 have HP:=hide hp
 have HI:=hide hit
 clear hp hit
 obtain ⟨hP,hF,hbW,hsz⟩:=bigs2 w (.cells (plL p v).toArray 123) (.cells #[.int .i64 f.line,.bool f.p0,.bool f.p1,.bool f.p2] 134)
 go_enter Tryz.func198,Tryz.ntmps198
 go_upto_region 1 with (first | (refine wpl_box rfl 123 _ rfl (plL p v) rfl ?_))
 have HPW:=hide (HP.out.below hbW)
 generalize (w.alloc (.cells (plL p v).toArray 123)).alloc (.cells #[.int .i64 f.line,.bool f.p0,.bool f.p1,.bool f.p2] 134) = W at *
 have HBW:=hide hbW
 have hrP:W.rangeAt w.heap.size 0 (plL p v):=range_whole hP
 have f0:W.cell? ⟨w.heap.size + 1,0,none⟩ = some (.int .i64 f.line):=by simp [World.cell?,hF]
 clear hbW hP
 go_wp2_with (first | (refine wpList_load_mid rfl 123 _ rfl _ _ rfl (plL p v) _ (by (repeat (first | assumption | exact rg_new (by simp) | refine rg_alloc ?_))) Tryz.underlying123 rfl Tryz.sizeProgram ?_))
 refine (pn_Line p v f.line _ HPW.out).mono ?_
 rintro e w1 ⟨sa,sc,rfl,hfl,hb1⟩
 have HB1:=hide (HBW.out.trans (hb1.mono (by omega)))
 have hF1:=(hb1.block _ (by omega)).trans hF
 have hz1:w.heap.size + 2 ≤ w1.heap.size:=by have:=hb1.size; omega
 clear hb1 hfl hrP f0 hF HPW HBW
 go_upto_region 2 with (first | (refine wpl_alloc rfl 204 rfl (lnL zLine (.slice none 0 0)) Tryz.zeroLine ?_) | (refine wpl_store_new rfl 204 _ _ rfl _ _ (lnL (lineAt p f.line) (.slice sa (lineAt p f.line).vals.length sc)) _ rfl rfl (by simp) Tryz.sizeLine rfl rfl ?_))
 have hb2:Below w1.heap.size w1 (w1.alloc (.cells (lnL (lineAt p f.line) (.slice sa (lineAt p f.line).vals.length sc)).toArray 204)):=(Below.refl _ _).alloc (Nat.le_refl _) _
 have hL:(w1.alloc (.cells (lnL (lineAt p f.line) (.slice sa (lineAt p f.line).vals.length sc)).toArray 204)).heap[w1.heap.size]? = some (.cells (lnL (lineAt p f.line) (.slice sa (lineAt p f.line).vals.length sc)).toArray 204 (0,0)):=heap_alloc_new _ _
 have HB2:=hide (HB1.out.trans (hb2.mono (by omega)))
 have hF2:=(hb2.block _ (by omega)).trans hF1
 have hz2:w1.heap.size < (w1.alloc (.cells (lnL (lineAt p f.line) (.slice sa (lineAt p f.line).vals.length sc)).toArray 204)).heap.size:=by simp
 clear hb2 hF1 HB1
 generalize w1.alloc (.cells (lnL (lineAt p f.line) (.slice sa (lineAt p f.line).vals.length sc)).toArray 204) = w2 at *
 generalize hL0:w1.heap.size = L at *
 have l1:w2.cell? ⟨L,1,none⟩ = some (.int .i64 (lineAt p f.line).at_):=cell_blk hL 1 rfl
 have HI2:=hide (HI.out.below HB2.out f.line)
 have hsI:=HI2.out.2
 go_wp2_with fail
 refine (HI2.out.1 _ (Below.refl _ _)).mono ?_
 rintro e w3 ⟨rfl,hb3⟩
 have HB3:=hide (HB2.out.trans (hb3.mono (by omega)))
 have hF3:=(hb3.block _ (by omega)).trans hF2
 have hL3:=(hb3.block _ hz2).trans hL
 clear hb3 hF2 hL l1 HI2
 have hz3:(itoaF (lineAt p f.line).at_ ++ (⟨#[58]⟩:ByteArray)).size ≤ 1001:=by rw [ByteArray.size_append]; show _ + 1 ≤ _; omega
 go_wp2_with fail
 go_loopw [6,7] (fun s u wr=>∃ (i:Nat) (txt:ByteArray),s = .string txt∧u = .int .i64 i∧i ≤ 3∧bitsF f.p (lineAt p f.line).params 3 (4 - i) i txt = frameTextF p f∧txt.size ≤ 1001 + i∧wr = w3) (fun _ u _=>4 - (intOf u).toNat)
 case atStart=>exact ⟨0,_,rfl,rfl,by omega,rfl,hz3,rfl⟩
 case round =>
  obtain ⟨i,txt,rfl,rfl,hi,he,hzt,rfl⟩:=hrel
  have HE2:=hide he
  have q0:wr.cell? ⟨L,2,none⟩ = some (.int .i64 (lineAt p f.line).params):=cell_blk hL3 2 rfl
  clear he hz3
  by_cases hn:(i:Int) < (lineAt p f.line).params∧i < 3
  ·have HN:=hide hn
   have hn1:=hn.1
   have hn2:=hn.2
   clear hn
   have h3:i = 0 ∨ i = 1 ∨ i = 2:=by omega
   rcases h3 with rfl | rfl | rfl
   ·have c1:wr.cell? ⟨w.heap.size + 1,1,none⟩ = some (.bool f.p0):=by simp [World.cell?,hF3]
    have zb:(bitF f.p0).size = 1:=bit_size _
    have zt:(txt ++ bitF f.p0).size ≤ 1001 + 1:=by rw [ByteArray.size_append]; omega
    go_wp2_with (go_at_call 155; refine (py_bit _ _).mono ?_; rintro e w5 ⟨rfl,rfl⟩)
    go_roundw
    case rel=>exact ⟨1,txt ++ bitF f.p0,rfl,by go_num,by omega,by rw [← HE2.out]; exact (bitsF_step HN.out 3 txt).symm,zt,trivial⟩
    case measure=>simp [intOf]
   ·have c1:wr.cell? ⟨w.heap.size + 1,2,none⟩ = some (.bool f.p1):=by simp [World.cell?,hF3]
    have zb:(bitF f.p1).size = 1:=bit_size _
    have zt:(txt ++ bitF f.p1).size ≤ 1001 + 2:=by rw [ByteArray.size_append]; omega
    go_wp2_with (go_at_call 155; refine (py_bit _ _).mono ?_; rintro e w5 ⟨rfl,rfl⟩)
    go_roundw
    case rel=>exact ⟨2,txt ++ bitF f.p1,rfl,by go_num,by omega,by rw [← HE2.out]; exact (bitsF_step HN.out 2 txt).symm,zt,trivial⟩
    case measure=>simp [intOf]
   ·have c1:wr.cell? ⟨w.heap.size + 1,3,none⟩ = some (.bool f.p2):=by simp [World.cell?,hF3]
    have zb:(bitF f.p2).size = 1:=bit_size _
    have zt:(txt ++ bitF f.p2).size ≤ 1001 + 3:=by rw [ByteArray.size_append]; omega
    go_wp2_with (go_at_call 155; refine (py_bit _ _).mono ?_; rintro e w5 ⟨rfl,rfl⟩)
    go_roundw
    case rel=>exact ⟨3,txt ++ bitF f.p2,rfl,by go_num,by omega,by rw [← HE2.out]; exact (bitsF_step HN.out 1 txt).symm,zt,trivial⟩
    case measure=>simp [intOf]
  ·have HE3:Hid (txt = frameTextF p f):=(bitsF_out hn (4 - i) txt).symm.trans HE2.out
   have hcase:¬ (i:Int) < (lineAt p f.line).params ∨ ((i:Int) < (lineAt p f.line).params∧i = 3):=by omega
   have HZ:Hid (txt.size ≤ 1010):=by show _ ≤ _; omega
   clear hn
   rcases hcase with hq | ⟨hq,rfl⟩
   all_goals
    go_wp2_with fail
    go_ret
    exact ⟨⟨ret_str HE3.out,by rw [← HE3.out]; exact HZ.out⟩,HB3.out⟩
end Go.Proofs.YtmfcpbhdggonfaaGreatDoor
