/- Contracts of the program's package play: the text of a thread. -/
import Derived.Test.YtmfcpbhdggonfaaGreatDoorMjBC
namespace Go.Proofs.YtmfcpbhdggonfaaGreatDoor
open Go.RowKit RR
theorem framesG_out {p:Plan} {t:Thr} {i:Nat} (h:¬ ((i:Int) < t.count∧i < 4)) (d:Nat) (s:ByteArray):framesG p t d i s = s:=by
 cases d with
 | zero=>rfl
 | succ d=>rw [framesG,if_neg h]
theorem framesG_step {p:Plan} {t:Thr} {i:Nat} (h:(i:Int) < t.count∧i < 4) (d:Nat) (s:ByteArray):framesG p t (d + 1) i s = framesG p t d (i + 1) ((if 0 < i then s ++ ⟨#[44]⟩ else s) ++ frameTextF p (t.f i)):=by
 rw [framesG,if_pos h]
set_option maxRecDepth 100000 in
set_option maxHeartbeats 8000000 in
theorem py_framesText (p:Plan) (v:PV) (t:Thr) (w:World) (hp:PIn w p v) (hit:PIt p w) :
    Calls Tryz.prog 157 #[.agg (plL p v).toArray,.agg (thrL t).toArray] w fun e w'=>(e = .returned (.string (framesTextF p t))∧(framesTextF p t).size ≤ 5000)∧Below w.heap.size w w':=by
 have HP:=hide hp
 have HI:=hide hit
 clear hp hit
 obtain ⟨hP,hT,hbW,hsz⟩:=bigs2 w (.cells (plL p v).toArray 123) (.cells (thrL t).toArray 137)
 go_enter Tryz.func157,Tryz.ntmps157
 go_upto_region 1 with (first | (refine wpl_box rfl 123 _ rfl (plL p v) rfl ?_) | (refine wpl_box rfl 137 _ rfl (thrL t) rfl ?_))
 have HPW:=hide (HP.out.below hbW)
 have HIW:=hide (HI.out.below hbW)
 generalize (w.alloc (.cells (plL p v).toArray 123)).alloc (.cells (thrL t).toArray 137) = W at *
 have HBW:=hide hbW
 have hrP:W.rangeAt w.heap.size 0 (plL p v):=range_whole hP
 clear hbW hP
 go_wp2_with fail
 go_loopw [5,6] (fun s u wr=>∃ (i:Nat) (txt:ByteArray),s = .string txt∧u = .int .i64 i∧i ≤ 4∧framesG p t (5 - i) i txt = framesTextF p t∧txt.size ≤ i * 1012∧Below W.heap.size W wr) (fun _ u _=>5 - (intOf u).toNat)
 case atStart=>exact ⟨0,⟨#[]⟩,rfl,rfl,by omega,rfl,by simp [ByteArray.size],Below.refl _ _⟩
 case round =>
  obtain ⟨i,txt,rfl,rfl,hi,he,hzt,hbr⟩:=hrel
  have HE2:=hide he
  have HBr:=hide hbr
  have hrP1:=rg_below hrP hbr
  have hT1:=(hbr.block _ (by omega)).trans hT
  have q0:wr.cell? ⟨w.heap.size + 1,0,none⟩ = some (.int .i64 t.count):=cell_blk hT1 0 rfl
  clear he hbr hrP hT
  by_cases hn:(i:Int) < t.count∧i < 4
  ·have HN:=hide hn
   have hn1:=hn.1
   have hn2:=hn.2
   clear hn
   have h3:i = 0 ∨ i = 1 ∨ i = 2 ∨ i = 3:=by omega
   rcases h3 with rfl | rfl | rfl | rfl
   ·have c0:wr.cell? ⟨w.heap.size + 1,1,none⟩ = some (.int .i64 t.f0.line):=cell_blk hT1 1 rfl
    have c1:wr.cell? ⟨w.heap.size + 1,2,none⟩ = some (.bool t.f0.p0):=cell_blk hT1 2 rfl
    have c2:wr.cell? ⟨w.heap.size + 1,3,none⟩ = some (.bool t.f0.p1):=cell_blk hT1 3 rfl
    have c3:wr.cell? ⟨w.heap.size + 1,4,none⟩ = some (.bool t.f0.p2):=cell_blk hT1 4 rfl
    have d0:∀ w',Below wr.heap.size wr w'→w'.cell? ⟨w.heap.size + 1,1,none⟩ = some (.int .i64 t.f0.line):=fun w' h=>cell_below c0 h
    have d1:∀ w',Below wr.heap.size wr w'→w'.cell? ⟨w.heap.size + 1,2,none⟩ = some (.bool t.f0.p0):=fun w' h=>cell_below c1 h
    have d2:∀ w',Below wr.heap.size wr w'→w'.cell? ⟨w.heap.size + 1,3,none⟩ = some (.bool t.f0.p1):=fun w' h=>cell_below c2 h
    have d3:∀ w',Below wr.heap.size wr w'→w'.cell? ⟨w.heap.size + 1,4,none⟩ = some (.bool t.f0.p2):=fun w' h=>cell_below c3 h
    go_wp2_with fail
    refine wp_region_held_drew (S:=fun w'=>Below wr.heap.size wr w') (by kernel_rfl) (Below.refl _ _).drew (fun hHeld=>?_)
    refine wpAnyH_take (i:=0) (v:=?_) rfl (by kernel_rfl) (by kernel_rfl) (by kernel_rfl) (fun _ _ _ h=>h) (Or.inl ⟨by rfl,?_⟩) (by assumption) ?_; rotate_left; focus (intro w' hSw; go_simp; (first | done | with_reducible rfl)); (try simp only [put_laws])
    refine wpAnyH_take (i:=1) rfl (by kernel_rfl) (by kernel_rfl) (by kernel_rfl) (fun _ _ _ h=>h) (yieldsIf_load_mid (by rfl) _ _ rfl w.heap.size 0 rfl (plL p v) _ (fun _ h=>rg_below hrP1 h) Tryz.underlying123 rfl Tryz.sizeProgram) (by assumption) ?_
    try simp only [put_laws]
    refine wpAnyH_take (i:=2) (v:=?_) rfl (by kernel_rfl) (by kernel_rfl) (by kernel_rfl) (fun _ _ _ h=>h) (Or.inl ⟨by rfl,?_⟩) (by assumption) ?_; rotate_left; focus (intro w' hSw; go_simp; (first | done | with_reducible rfl)); (try simp only [put_laws])
    refine wpAnyH_take (i:=3) (v:=?_) rfl (by kernel_rfl) (by kernel_rfl) (by kernel_rfl) (fun _ _ _ h=>h) (Or.inl ⟨by rfl,?_⟩) (by assumption) ?_; rotate_left; focus (intro w' hSw; go_simp; (first | done | with_reducible rfl)); (try simp only [put_laws])
    refine wpAnyH_take (i:=4) (v:=?_) rfl (by kernel_rfl) (by kernel_rfl) (by kernel_rfl) (fun _ _ _ h=>h) (Or.inl ⟨by rfl,?_⟩) (by assumption) ?_; rotate_left; focus (intro w' hSw; go_simp; (first | done | with_reducible rfl)); (try simp only [put_laws])
    refine wpAnyH_take (i:=5) (v:=?_) rfl (by kernel_rfl) (by kernel_rfl) (by kernel_rfl) (fun _ _ _ h=>h) (Or.inl ⟨by rfl,?_⟩) (by assumption) ?_; rotate_left; focus (intro w' hSw; go_simp; (first | done | with_reducible rfl)); (try simp only [put_laws])
    clear d0 d1 d2 d3 c0 c1 c2 c3
    refine wpAnyH_ready (rs:=[6]) (by kernel_rfl) (by simp) ?_; refine AllReadyH.cons rfl (fun K hK=>?_) AllReadyH.nil
    go_simp
    refine (py_frameText p v t.f0 _ (HPW.out.below HBr.out.drew) (HIW.out.below HBr.out.drew)).mono ?_
    rintro e w1 ⟨⟨rfl,hzf⟩,hb1⟩
    have hx1:Below wr.heap.size wr w1:=(Below.refl _ _).drew.trans hb1
    clear hb1
    refine hK.out _ _ hx1 (fun hHeld=>?_)
    clear hK K
    try simp only [put_laws]
    have zn:(txt ++ frameTextF p t.f0).size ≤ 1 * 1012:=by rw [ByteArray.size_append]; omega
    refine wpAnyH_ready (rs:=[7]) (by kernel_rfl) (by simp) ?_; refine AllReadyH.cons rfl (fun K hK=>?_) AllReadyH.nil
    go_simp
    go_wp2_with fail
    refine hK.out _ _ hx1 (fun hHeld=>?_)
    clear hK K
    refine wpAnyH_take (i:=8) (v:=?_) rfl (by kernel_rfl) (by kernel_rfl) (by kernel_rfl) (fun _ _ _ h=>h) (Or.inl ⟨by rfl,?_⟩) (by assumption) ?_; rotate_left; focus (intro w' hSw; go_simp; (first | done | with_reducible rfl)); (try simp only [put_laws])
    refine wpAnyH_done (by kernel_rfl) ?_ _
    have HB2:=hide (HBr.out.trans (hx1.mono HBr.out.size))
    clear hx1 hHeld hrP1 q0
    go_wp2_with fail
    go_roundw
    case rel=>exact ⟨1,txt ++ frameTextF p t.f0,rfl,by go_num,by omega,by rw [← HE2.out]; exact (framesG_step HN.out 4 txt).symm,by omega,HB2.out⟩
    case measure=>simp [intOf]
   ·have c0:wr.cell? ⟨w.heap.size + 1,5,none⟩ = some (.int .i64 t.f1.line):=cell_blk hT1 5 rfl
    have c1:wr.cell? ⟨w.heap.size + 1,6,none⟩ = some (.bool t.f1.p0):=cell_blk hT1 6 rfl
    have c2:wr.cell? ⟨w.heap.size + 1,7,none⟩ = some (.bool t.f1.p1):=cell_blk hT1 7 rfl
    have c3:wr.cell? ⟨w.heap.size + 1,8,none⟩ = some (.bool t.f1.p2):=cell_blk hT1 8 rfl
    have zc:(txt ++ (⟨#[44]⟩:ByteArray)).size ≤ 1 * 1012 + 1:=by rw [ByteArray.size_append]; show _ + 1 ≤ _; omega
    have d0:∀ w',Below wr.heap.size wr w'→w'.cell? ⟨w.heap.size + 1,5,none⟩ = some (.int .i64 t.f1.line):=fun w' h=>cell_below c0 h
    have d1:∀ w',Below wr.heap.size wr w'→w'.cell? ⟨w.heap.size + 1,6,none⟩ = some (.bool t.f1.p0):=fun w' h=>cell_below c1 h
    have d2:∀ w',Below wr.heap.size wr w'→w'.cell? ⟨w.heap.size + 1,7,none⟩ = some (.bool t.f1.p1):=fun w' h=>cell_below c2 h
    have d3:∀ w',Below wr.heap.size wr w'→w'.cell? ⟨w.heap.size + 1,8,none⟩ = some (.bool t.f1.p2):=fun w' h=>cell_below c3 h
    go_wp2_with fail
    refine wp_region_held_drew (S:=fun w'=>Below wr.heap.size wr w') (by kernel_rfl) (Below.refl _ _).drew (fun hHeld=>?_)
    refine wpAnyH_take (i:=0) (v:=?_) rfl (by kernel_rfl) (by kernel_rfl) (by kernel_rfl) (fun _ _ _ h=>h) (Or.inl ⟨by rfl,?_⟩) (by assumption) ?_; rotate_left; focus (intro w' hSw; go_simp; (first | done | with_reducible rfl)); (try simp only [put_laws])
    refine wpAnyH_take (i:=1) rfl (by kernel_rfl) (by kernel_rfl) (by kernel_rfl) (fun _ _ _ h=>h) (yieldsIf_load_mid (by rfl) _ _ rfl w.heap.size 0 rfl (plL p v) _ (fun _ h=>rg_below hrP1 h) Tryz.underlying123 rfl Tryz.sizeProgram) (by assumption) ?_
    try simp only [put_laws]
    refine wpAnyH_take (i:=2) (v:=?_) rfl (by kernel_rfl) (by kernel_rfl) (by kernel_rfl) (fun _ _ _ h=>h) (Or.inl ⟨by rfl,?_⟩) (by assumption) ?_; rotate_left; focus (intro w' hSw; go_simp; (first | done | with_reducible rfl)); (try simp only [put_laws])
    refine wpAnyH_take (i:=3) (v:=?_) rfl (by kernel_rfl) (by kernel_rfl) (by kernel_rfl) (fun _ _ _ h=>h) (Or.inl ⟨by rfl,?_⟩) (by assumption) ?_; rotate_left; focus (intro w' hSw; go_simp; (first | done | with_reducible rfl)); (try simp only [put_laws])
    refine wpAnyH_take (i:=4) (v:=?_) rfl (by kernel_rfl) (by kernel_rfl) (by kernel_rfl) (fun _ _ _ h=>h) (Or.inl ⟨by rfl,?_⟩) (by assumption) ?_; rotate_left; focus (intro w' hSw; go_simp; (first | done | with_reducible rfl)); (try simp only [put_laws])
    refine wpAnyH_take (i:=5) (v:=?_) rfl (by kernel_rfl) (by kernel_rfl) (by kernel_rfl) (fun _ _ _ h=>h) (Or.inl ⟨by rfl,?_⟩) (by assumption) ?_; rotate_left; focus (intro w' hSw; go_simp; (first | done | with_reducible rfl)); (try simp only [put_laws])
    clear d0 d1 d2 d3 c0 c1 c2 c3
    refine wpAnyH_ready (rs:=[6]) (by kernel_rfl) (by simp) ?_; refine AllReadyH.cons rfl (fun K hK=>?_) AllReadyH.nil
    go_simp
    refine (py_frameText p v t.f1 _ (HPW.out.below HBr.out.drew) (HIW.out.below HBr.out.drew)).mono ?_
    rintro e w1 ⟨⟨rfl,hzf⟩,hb1⟩
    have hx1:Below wr.heap.size wr w1:=(Below.refl _ _).drew.trans hb1
    clear hb1
    refine hK.out _ _ hx1 (fun hHeld=>?_)
    clear hK K
    try simp only [put_laws]
    have zn:((txt ++ (⟨#[44]⟩:ByteArray)) ++ frameTextF p t.f1).size ≤ 2 * 1012:=by rw [ByteArray.size_append]; omega
    refine wpAnyH_ready (rs:=[7]) (by kernel_rfl) (by simp) ?_; refine AllReadyH.cons rfl (fun K hK=>?_) AllReadyH.nil
    go_simp
    go_wp2_with fail
    refine hK.out _ _ hx1 (fun hHeld=>?_)
    clear hK K
    refine wpAnyH_take (i:=8) (v:=?_) rfl (by kernel_rfl) (by kernel_rfl) (by kernel_rfl) (fun _ _ _ h=>h) (Or.inl ⟨by rfl,?_⟩) (by assumption) ?_; rotate_left; focus (intro w' hSw; go_simp; (first | done | with_reducible rfl)); (try simp only [put_laws])
    refine wpAnyH_done (by kernel_rfl) ?_ _
    have HB2:=hide (HBr.out.trans (hx1.mono HBr.out.size))
    clear hx1 hHeld hrP1 q0
    go_wp2_with fail
    go_roundw
    case rel=>exact ⟨2,(txt ++ (⟨#[44]⟩:ByteArray)) ++ frameTextF p t.f1,rfl,by go_num,by omega,by rw [← HE2.out]; exact (framesG_step HN.out 3 txt).symm,by omega,HB2.out⟩
    case measure=>simp [intOf]
   ·have c0:wr.cell? ⟨w.heap.size + 1,9,none⟩ = some (.int .i64 t.f2.line):=cell_blk hT1 9 rfl
    have c1:wr.cell? ⟨w.heap.size + 1,10,none⟩ = some (.bool t.f2.p0):=cell_blk hT1 10 rfl
    have c2:wr.cell? ⟨w.heap.size + 1,11,none⟩ = some (.bool t.f2.p1):=cell_blk hT1 11 rfl
    have c3:wr.cell? ⟨w.heap.size + 1,12,none⟩ = some (.bool t.f2.p2):=cell_blk hT1 12 rfl
    have zc:(txt ++ (⟨#[44]⟩:ByteArray)).size ≤ 2 * 1012 + 1:=by rw [ByteArray.size_append]; show _ + 1 ≤ _; omega
    have d0:∀ w',Below wr.heap.size wr w'→w'.cell? ⟨w.heap.size + 1,9,none⟩ = some (.int .i64 t.f2.line):=fun w' h=>cell_below c0 h
    have d1:∀ w',Below wr.heap.size wr w'→w'.cell? ⟨w.heap.size + 1,10,none⟩ = some (.bool t.f2.p0):=fun w' h=>cell_below c1 h
    have d2:∀ w',Below wr.heap.size wr w'→w'.cell? ⟨w.heap.size + 1,11,none⟩ = some (.bool t.f2.p1):=fun w' h=>cell_below c2 h
    have d3:∀ w',Below wr.heap.size wr w'→w'.cell? ⟨w.heap.size + 1,12,none⟩ = some (.bool t.f2.p2):=fun w' h=>cell_below c3 h
    go_wp2_with fail
    refine wp_region_held_drew (S:=fun w'=>Below wr.heap.size wr w') (by kernel_rfl) (Below.refl _ _).drew (fun hHeld=>?_)
    refine wpAnyH_take (i:=0) (v:=?_) rfl (by kernel_rfl) (by kernel_rfl) (by kernel_rfl) (fun _ _ _ h=>h) (Or.inl ⟨by rfl,?_⟩) (by assumption) ?_; rotate_left; focus (intro w' hSw; go_simp; (first | done | with_reducible rfl)); (try simp only [put_laws])
    refine wpAnyH_take (i:=1) rfl (by kernel_rfl) (by kernel_rfl) (by kernel_rfl) (fun _ _ _ h=>h) (yieldsIf_load_mid (by rfl) _ _ rfl w.heap.size 0 rfl (plL p v) _ (fun _ h=>rg_below hrP1 h) Tryz.underlying123 rfl Tryz.sizeProgram) (by assumption) ?_
    try simp only [put_laws]
    refine wpAnyH_take (i:=2) (v:=?_) rfl (by kernel_rfl) (by kernel_rfl) (by kernel_rfl) (fun _ _ _ h=>h) (Or.inl ⟨by rfl,?_⟩) (by assumption) ?_; rotate_left; focus (intro w' hSw; go_simp; (first | done | with_reducible rfl)); (try simp only [put_laws])
    refine wpAnyH_take (i:=3) (v:=?_) rfl (by kernel_rfl) (by kernel_rfl) (by kernel_rfl) (fun _ _ _ h=>h) (Or.inl ⟨by rfl,?_⟩) (by assumption) ?_; rotate_left; focus (intro w' hSw; go_simp; (first | done | with_reducible rfl)); (try simp only [put_laws])
    refine wpAnyH_take (i:=4) (v:=?_) rfl (by kernel_rfl) (by kernel_rfl) (by kernel_rfl) (fun _ _ _ h=>h) (Or.inl ⟨by rfl,?_⟩) (by assumption) ?_; rotate_left; focus (intro w' hSw; go_simp; (first | done | with_reducible rfl)); (try simp only [put_laws])
    refine wpAnyH_take (i:=5) (v:=?_) rfl (by kernel_rfl) (by kernel_rfl) (by kernel_rfl) (fun _ _ _ h=>h) (Or.inl ⟨by rfl,?_⟩) (by assumption) ?_; rotate_left; focus (intro w' hSw; go_simp; (first | done | with_reducible rfl)); (try simp only [put_laws])
    clear d0 d1 d2 d3 c0 c1 c2 c3
    refine wpAnyH_ready (rs:=[6]) (by kernel_rfl) (by simp) ?_; refine AllReadyH.cons rfl (fun K hK=>?_) AllReadyH.nil
    go_simp
    refine (py_frameText p v t.f2 _ (HPW.out.below HBr.out.drew) (HIW.out.below HBr.out.drew)).mono ?_
    rintro e w1 ⟨⟨rfl,hzf⟩,hb1⟩
    have hx1:Below wr.heap.size wr w1:=(Below.refl _ _).drew.trans hb1
    clear hb1
    refine hK.out _ _ hx1 (fun hHeld=>?_)
    clear hK K
    try simp only [put_laws]
    have zn:((txt ++ (⟨#[44]⟩:ByteArray)) ++ frameTextF p t.f2).size ≤ 3 * 1012:=by rw [ByteArray.size_append]; omega
    refine wpAnyH_ready (rs:=[7]) (by kernel_rfl) (by simp) ?_; refine AllReadyH.cons rfl (fun K hK=>?_) AllReadyH.nil
    go_simp
    go_wp2_with fail
    refine hK.out _ _ hx1 (fun hHeld=>?_)
    clear hK K
    refine wpAnyH_take (i:=8) (v:=?_) rfl (by kernel_rfl) (by kernel_rfl) (by kernel_rfl) (fun _ _ _ h=>h) (Or.inl ⟨by rfl,?_⟩) (by assumption) ?_; rotate_left; focus (intro w' hSw; go_simp; (first | done | with_reducible rfl)); (try simp only [put_laws])
    refine wpAnyH_done (by kernel_rfl) ?_ _
    have HB2:=hide (HBr.out.trans (hx1.mono HBr.out.size))
    clear hx1 hHeld hrP1 q0
    go_wp2_with fail
    go_roundw
    case rel=>exact ⟨3,(txt ++ (⟨#[44]⟩:ByteArray)) ++ frameTextF p t.f2,rfl,by go_num,by omega,by rw [← HE2.out]; exact (framesG_step HN.out 2 txt).symm,by omega,HB2.out⟩
    case measure=>simp [intOf]
   ·have c0:wr.cell? ⟨w.heap.size + 1,13,none⟩ = some (.int .i64 t.f3.line):=cell_blk hT1 13 rfl
    have c1:wr.cell? ⟨w.heap.size + 1,14,none⟩ = some (.bool t.f3.p0):=cell_blk hT1 14 rfl
    have c2:wr.cell? ⟨w.heap.size + 1,15,none⟩ = some (.bool t.f3.p1):=cell_blk hT1 15 rfl
    have c3:wr.cell? ⟨w.heap.size + 1,16,none⟩ = some (.bool t.f3.p2):=cell_blk hT1 16 rfl
    have zc:(txt ++ (⟨#[44]⟩:ByteArray)).size ≤ 3 * 1012 + 1:=by rw [ByteArray.size_append]; show _ + 1 ≤ _; omega
    have d0:∀ w',Below wr.heap.size wr w'→w'.cell? ⟨w.heap.size + 1,13,none⟩ = some (.int .i64 t.f3.line):=fun w' h=>cell_below c0 h
    have d1:∀ w',Below wr.heap.size wr w'→w'.cell? ⟨w.heap.size + 1,14,none⟩ = some (.bool t.f3.p0):=fun w' h=>cell_below c1 h
    have d2:∀ w',Below wr.heap.size wr w'→w'.cell? ⟨w.heap.size + 1,15,none⟩ = some (.bool t.f3.p1):=fun w' h=>cell_below c2 h
    have d3:∀ w',Below wr.heap.size wr w'→w'.cell? ⟨w.heap.size + 1,16,none⟩ = some (.bool t.f3.p2):=fun w' h=>cell_below c3 h
    go_wp2_with fail
    refine wp_region_held_drew (S:=fun w'=>Below wr.heap.size wr w') (by kernel_rfl) (Below.refl _ _).drew (fun hHeld=>?_)
    refine wpAnyH_take (i:=0) (v:=?_) rfl (by kernel_rfl) (by kernel_rfl) (by kernel_rfl) (fun _ _ _ h=>h) (Or.inl ⟨by rfl,?_⟩) (by assumption) ?_; rotate_left; focus (intro w' hSw; go_simp; (first | done | with_reducible rfl)); (try simp only [put_laws])
    refine wpAnyH_take (i:=1) rfl (by kernel_rfl) (by kernel_rfl) (by kernel_rfl) (fun _ _ _ h=>h) (yieldsIf_load_mid (by rfl) _ _ rfl w.heap.size 0 rfl (plL p v) _ (fun _ h=>rg_below hrP1 h) Tryz.underlying123 rfl Tryz.sizeProgram) (by assumption) ?_
    try simp only [put_laws]
    refine wpAnyH_take (i:=2) (v:=?_) rfl (by kernel_rfl) (by kernel_rfl) (by kernel_rfl) (fun _ _ _ h=>h) (Or.inl ⟨by rfl,?_⟩) (by assumption) ?_; rotate_left; focus (intro w' hSw; go_simp; (first | done | with_reducible rfl)); (try simp only [put_laws])
    refine wpAnyH_take (i:=3) (v:=?_) rfl (by kernel_rfl) (by kernel_rfl) (by kernel_rfl) (fun _ _ _ h=>h) (Or.inl ⟨by rfl,?_⟩) (by assumption) ?_; rotate_left; focus (intro w' hSw; go_simp; (first | done | with_reducible rfl)); (try simp only [put_laws])
    refine wpAnyH_take (i:=4) (v:=?_) rfl (by kernel_rfl) (by kernel_rfl) (by kernel_rfl) (fun _ _ _ h=>h) (Or.inl ⟨by rfl,?_⟩) (by assumption) ?_; rotate_left; focus (intro w' hSw; go_simp; (first | done | with_reducible rfl)); (try simp only [put_laws])
    refine wpAnyH_take (i:=5) (v:=?_) rfl (by kernel_rfl) (by kernel_rfl) (by kernel_rfl) (fun _ _ _ h=>h) (Or.inl ⟨by rfl,?_⟩) (by assumption) ?_; rotate_left; focus (intro w' hSw; go_simp; (first | done | with_reducible rfl)); (try simp only [put_laws])
    clear d0 d1 d2 d3 c0 c1 c2 c3
    refine wpAnyH_ready (rs:=[6]) (by kernel_rfl) (by simp) ?_; refine AllReadyH.cons rfl (fun K hK=>?_) AllReadyH.nil
    go_simp
    refine (py_frameText p v t.f3 _ (HPW.out.below HBr.out.drew) (HIW.out.below HBr.out.drew)).mono ?_
    rintro e w1 ⟨⟨rfl,hzf⟩,hb1⟩
    have hx1:Below wr.heap.size wr w1:=(Below.refl _ _).drew.trans hb1
    clear hb1
    refine hK.out _ _ hx1 (fun hHeld=>?_)
    clear hK K
    try simp only [put_laws]
    have zn:((txt ++ (⟨#[44]⟩:ByteArray)) ++ frameTextF p t.f3).size ≤ 4 * 1012:=by rw [ByteArray.size_append]; omega
    refine wpAnyH_ready (rs:=[7]) (by kernel_rfl) (by simp) ?_; refine AllReadyH.cons rfl (fun K hK=>?_) AllReadyH.nil
    go_simp
    go_wp2_with fail
    refine hK.out _ _ hx1 (fun hHeld=>?_)
    clear hK K
    refine wpAnyH_take (i:=8) (v:=?_) rfl (by kernel_rfl) (by kernel_rfl) (by kernel_rfl) (fun _ _ _ h=>h) (Or.inl ⟨by rfl,?_⟩) (by assumption) ?_; rotate_left; focus (intro w' hSw; go_simp; (first | done | with_reducible rfl)); (try simp only [put_laws])
    refine wpAnyH_done (by kernel_rfl) ?_ _
    have HB2:=hide (HBr.out.trans (hx1.mono HBr.out.size))
    clear hx1 hHeld hrP1 q0
    go_wp2_with fail
    go_roundw
    case rel=>exact ⟨4,(txt ++ (⟨#[44]⟩:ByteArray)) ++ frameTextF p t.f3,rfl,by go_num,by omega,by rw [← HE2.out]; exact (framesG_step HN.out 1 txt).symm,by omega,HB2.out⟩
    case measure=>simp [intOf]
  ·have HE3:Hid (txt = framesTextF p t):=(framesG_out hn (5 - i) txt).symm.trans HE2.out
   have hcase:¬ (i:Int) < t.count ∨ ((i:Int) < t.count∧i = 4):=by omega
   have HZ:Hid (txt.size ≤ 5000):=by show _ ≤ _; omega
   have HB3:=hide (HBW.out.trans (HBr.out.mono (by omega)))
   clear hn hrP1 hT1
   rcases hcase with hq | ⟨hq,rfl⟩
   all_goals
    go_wp2_with fail
    go_ret
    exact ⟨⟨ret_str HE3.out,by rw [← HE3.out]; exact HZ.out⟩,HB3.out⟩
end Go.Proofs.YtmfcpbhdggonfaaGreatDoor
