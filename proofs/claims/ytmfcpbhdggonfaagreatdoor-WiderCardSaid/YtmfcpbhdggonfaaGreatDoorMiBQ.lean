/- Contracts of the program's package search: a point is taken in. -/
import Derived.Test.YtmfcpbhdggonfaaGreatDoorMiBP
namespace Go.Proofs.YtmfcpbhdggonfaaGreatDoor
open Go.RowKit RR
def SeeOut (base B:Nat) (p:Plan) (v:PV) (most:Int) (vS vF:Value) (s':Sr) (w w':World):Prop:=∃ vS' vF',SrAt B base p v most vS' vF' s' w'∧SeK base B vS vF w vS' vF' w'
def raceR (p:Plan) (x:Pt) (b:ByteArray) (r1:Rp):Rp:=if !r1.race && raceF p x.cfg then { r1 with race:=true,raceBy:=b } else r1
def deadR (p:Plan) (x:Pt) (b:ByteArray) (r2:Rp):Rp:=if !r2.dead && deadF p x.cfg then { r2 with dead:=true,deadBy:=b } else r2
theorem seeP_eq (p:Plan) (s:Sr) (x:Pt) (b:ByteArray):seeP p s x b = ⟨s.seen ++ [x],s.fresh ++ [⟨x,b⟩],deadR p x b (raceR p x b { s.rep with points:=s.seen.length + 1 })⟩:=rfl
set_option maxRecDepth 100000 in
set_option maxHeartbeats 16000000 in
theorem se_see (base B:Nat) (p:Plan) (v:PV) (most:Int) (vS vF:Value) (s:Sr) (x:Pt) (by_:ByteArray) (w:World) (hBb:base ≤ B) (h:SrAt B base p v most vS vF s w) (hp:PInB base w p v) (hl:s.seen.length ≤ 5000) (hl2:s.fresh.length ≤ 5000) :
    Calls Tryz.prog 102 #[.pointer (some ⟨B,0,none⟩),.agg (ptL x).toArray,.string by_] w fun e w'=>e = .returned (.tuple #[])∧SeeOut base B p v most vS vF (seeP p s x by_) w w':=by
 rw [seeP_eq]
 have HP:=hide hp
 have hz:=h.lt
 have hbA:Below w.heap.size w (w.alloc (.cells (ptL x).toArray 183)):=(Below.refl _ _).alloc (Nat.le_refl _) _
 have HAT:=hide (h.below hbA)
 have HK:=hide (SeK.of_below (base:=base) (B:=B) (vS:=vS) (vF:=vF) hbA (Nat.le_trans hBb (Nat.le_of_lt hz)))
 have HFar:=hide (h.far (k:=w.heap.size) (Nat.le_refl _) (show w.heap.size < (w.alloc (.cells (ptL x).toArray 183)).heap.size by simp))
 have hXb:(w.alloc (.cells (ptL x).toArray 183)).heap[w.heap.size]? = some (.cells (ptL x).toArray 183 (0,0)):=heap_alloc_new _ _
 clear h hp hbA
 go_enter Tryz.func102,Tryz.ntmps102
 go_upto_region 1 with (first | (refine wpl_box rfl 183 _ rfl (ptL x) rfl ?_))
 have hX:(w.alloc (.cells (ptL x).toArray 183)).rangeAt w.heap.size 0 (ptL x):=rg_new rfl
 have hzW:base ≤ (w.alloc (.cells (ptL x).toArray 183)).heap.size:=by simp; omega
 generalize w.alloc (.cells (ptL x).toArray 183) = W at *
 have c7W:W.cell? ⟨B,7,none⟩ = some vS:=cell_blk HAT.out.box 7 rfl
 try simp only [put_laws]
 go_cut [] (fun wx=>SeeA base B 7 183 60 vS s.seen.length (s.seen.flatMap ptL) (ptL x) W wx)
 case first =>
  refine wp_region_held_drew (S:=fun _=>True) (by kernel_rfl) trivial (fun hHeld=>?_)
  refine wpAnyH_take (i:=0) (v:=?_) rfl (by kernel_rfl) (by kernel_rfl) (by kernel_rfl) (fun _ _ _ h=>h) (Or.inl ⟨by rfl,?_⟩) (by assumption) ?_; rotate_left; focus (intro w' hSw; go_simp; (first | done | with_reducible rfl)); (try simp only [put_laws])
  refine wpAnyH_take (i:=1) (v:=?_) rfl (by kernel_rfl) (by kernel_rfl) (by kernel_rfl) (fun _ _ _ h=>h) (Or.inl ⟨by rfl,?_⟩) (by assumption) ?_; rotate_left; focus (intro w' hSw; go_simp; (first | done | with_reducible rfl)); (try simp only [put_laws])
  refine wpAnyH_take (i:=2) (v:=?_) rfl (by kernel_rfl) (by kernel_rfl) (by kernel_rfl) (fun _ _ _ h=>h) (Or.inl ⟨by rfl,?_⟩) (by assumption) ?_; rotate_left; focus (intro w' hSw; go_simp; (first | done | with_reducible rfl)); (try simp only [put_laws])
  refine wpAnyH_take (i:=3) (v:=?_) rfl (by kernel_rfl) (by kernel_rfl) (by kernel_rfl) (fun _ _ _ h=>h) (Or.inl ⟨by rfl,?_⟩) (by assumption) ?_; rotate_left; focus (intro w' hSw; go_simp; (first | done | with_reducible rfl)); (try simp only [put_laws])
  refine wpAnyH_ready (rs:=[4,5]) (by kernel_rfl) (by simp) ?_; refine AllReadyH.cons rfl (fun K hK=>?_) (AllReadyH.cons rfl (fun K hK=>?_) AllReadyH.nil)
  ·go_simp
   refine hK.out _ _ trivial (fun hHeld=>?_)
   clear hK K
   try simp only [put_laws]
   refine wpAnyH_ready (rs:=[5]) (by kernel_rfl) (by simp) ?_; refine AllReadyH.cons rfl (fun K hK=>?_) AllReadyH.nil
   rw [if_pos (by rfl)]
   refine wp_load_mid 183 _ rfl w.heap.size 0 rfl (ptL x) _ (rg_drew hX) Tryz.underlying183 rfl Tryz.sizePoint ?_
   refine hK.out _ _ trivial (fun hHeld=>?_)
   clear hK K
   try simp only [put_laws]
   refine wpAnyH_ready (rs:=[6]) (by kernel_rfl) (by simp) ?_; refine AllReadyH.cons rfl (fun K hK=>?_) AllReadyH.nil
   rw [if_pos (by rfl)]
   refine wpo_slice1 124 183 _ rfl (ptL x) rfl 60 _ Tryz.underlying124 Tryz.sizeOf183 Tryz.zeroPoint (by decide) (by decide) (Tryz.fillPoint x) ?_
   refine hK.out _ _ trivial (fun hHeld=>?_)
   clear hK K
   try simp only [put_laws]
   refine wpAnyH_ready (rs:=[7]) (by kernel_rfl) (by simp) ?_; refine AllReadyH.cons rfl (fun K hK=>?_) AllReadyH.nil
   rw [if_pos (by rfl)]
   refine app_row_o info_point rfl (by decide) Tryz.underlying124 (w0:=W.drew) HAT.out.seen (by omega) (by decide) hzW rfl (by simpa using one_pt x) _ _ rfl rfl rfl rfl ?_
   intro g cap' w3 ha
   refine hK.out _ _ trivial (fun hHeld=>?_)
   clear hK K
   have hB3:=(ha.blk B HAT.out.lt HAT.out.neS).trans HAT.out.box
   have cx:w3.cell? ⟨B,7,none⟩ = some vS:=cell_blk hB3 7 rfl
   have fx:=heap_frz hB3 7
   clear hB3
   try simp only [put_laws]
   refine wpAnyH_take (i:=8) (v:=?_) rfl (by kernel_rfl) (by kernel_rfl) (by kernel_rfl) (fun _ _ _ h=>h) (Or.inl ⟨by rfl,?_⟩) (by assumption) ?_; rotate_left; focus (intro w' hSw; go_simp; (first | done | with_reducible rfl)); (try simp only [put_laws])
   refine wpAnyH_take (i:=9) (v:=?_) rfl (by kernel_rfl) (by kernel_rfl) (by kernel_rfl) (fun _ _ _ h=>h) (Or.inl ⟨by rfl,?_⟩) (by assumption) ?_; rotate_left; focus (intro w' hSw; go_simp; (first | done | with_reducible rfl)); (try simp only [put_laws])
   refine wpAnyH_ready (rs:=[10]) (by kernel_rfl) (by simp) ?_; refine AllReadyH.cons rfl (fun K hK=>?_) AllReadyH.nil
   rw [if_pos (by rfl)]
   go_simp
   refine hK.out _ _ trivial (fun hHeld=>?_)
   clear hK K cx fx
   refine wpAnyH_done (by kernel_rfl) ?_ _
   go_step
   go_step
   go_meet
   case rel=>exact ⟨g,cap',w3,ha.undrew,rfl⟩
  ·try rw [if_pos (by rfl)]
   refine wp_load_mid 183 _ rfl w.heap.size 0 rfl (ptL x) _ (rg_drew hX) Tryz.underlying183 rfl Tryz.sizePoint ?_
   refine hK.out _ _ trivial (fun hHeld=>?_)
   clear hK K
   try simp only [put_laws]
   refine wpAnyH_ready (rs:=[4,6]) (by kernel_rfl) (by simp) ?_; refine AllReadyH.cons rfl (fun K hK=>?_) (AllReadyH.cons rfl (fun K hK=>?_) AllReadyH.nil)
   ·go_simp
    refine hK.out _ _ trivial (fun hHeld=>?_)
    clear hK K
    try simp only [put_laws]
    refine wpAnyH_ready (rs:=[6]) (by kernel_rfl) (by simp) ?_; refine AllReadyH.cons rfl (fun K hK=>?_) AllReadyH.nil
    rw [if_pos (by rfl)]
    refine wpo_slice1 124 183 _ rfl (ptL x) rfl 60 _ Tryz.underlying124 Tryz.sizeOf183 Tryz.zeroPoint (by decide) (by decide) (Tryz.fillPoint x) ?_
    refine hK.out _ _ trivial (fun hHeld=>?_)
    clear hK K
    try simp only [put_laws]
    refine wpAnyH_ready (rs:=[7]) (by kernel_rfl) (by simp) ?_; refine AllReadyH.cons rfl (fun K hK=>?_) AllReadyH.nil
    rw [if_pos (by rfl)]
    refine app_row_o info_point rfl (by decide) Tryz.underlying124 (w0:=W.drew) HAT.out.seen (by omega) (by decide) hzW rfl (by simpa using one_pt x) _ _ rfl rfl rfl rfl ?_
    intro g cap' w3 ha
    refine hK.out _ _ trivial (fun hHeld=>?_)
    clear hK K
    have hB3:=(ha.blk B HAT.out.lt HAT.out.neS).trans HAT.out.box
    have cx:w3.cell? ⟨B,7,none⟩ = some vS:=cell_blk hB3 7 rfl
    have fx:=heap_frz hB3 7
    clear hB3
    try simp only [put_laws]
    refine wpAnyH_take (i:=8) (v:=?_) rfl (by kernel_rfl) (by kernel_rfl) (by kernel_rfl) (fun _ _ _ h=>h) (Or.inl ⟨by rfl,?_⟩) (by assumption) ?_; rotate_left; focus (intro w' hSw; go_simp; (first | done | with_reducible rfl)); (try simp only [put_laws])
    refine wpAnyH_take (i:=9) (v:=?_) rfl (by kernel_rfl) (by kernel_rfl) (by kernel_rfl) (fun _ _ _ h=>h) (Or.inl ⟨by rfl,?_⟩) (by assumption) ?_; rotate_left; focus (intro w' hSw; go_simp; (first | done | with_reducible rfl)); (try simp only [put_laws])
    refine wpAnyH_ready (rs:=[10]) (by kernel_rfl) (by simp) ?_; refine AllReadyH.cons rfl (fun K hK=>?_) AllReadyH.nil
    rw [if_pos (by rfl)]
    go_simp
    refine hK.out _ _ trivial (fun hHeld=>?_)
    clear hK K cx fx
    refine wpAnyH_done (by kernel_rfl) ?_ _
    go_step
    go_step
    go_meet
    case rel=>exact ⟨g,cap',w3,ha.undrew,rfl⟩
   ·try rw [if_pos (by rfl)]
    refine wpo_slice1 124 183 _ rfl (ptL x) rfl 60 _ Tryz.underlying124 Tryz.sizeOf183 Tryz.zeroPoint (by decide) (by decide) (Tryz.fillPoint x) ?_
    refine hK.out _ _ trivial (fun hHeld=>?_)
    clear hK K
    try simp only [put_laws]
    have cy:=cellAl c7W (ob:=.cells (ptL x).toArray 183)
    refine wpAnyH_ready (rs:=[4]) (by kernel_rfl) (by simp) ?_; refine AllReadyH.cons rfl (fun K hK=>?_) AllReadyH.nil
    rw [if_pos (by rfl)]
    go_simp
    refine hK.out _ _ trivial (fun hHeld=>?_)
    clear hK K
    try simp only [put_laws]
    clear cy
    refine wpAnyH_ready (rs:=[7]) (by kernel_rfl) (by simp) ?_; refine AllReadyH.cons rfl (fun K hK=>?_) AllReadyH.nil
    rw [if_pos (by rfl)]
    refine app_row_o info_point rfl (by decide) Tryz.underlying124 (w0:=W.drew) HAT.out.seen (by omega) (by decide) hzW rfl (by simpa using one_pt x) _ _ rfl rfl rfl rfl ?_
    intro g cap' w3 ha
    refine hK.out _ _ trivial (fun hHeld=>?_)
    clear hK K
    have hB3:=(ha.blk B HAT.out.lt HAT.out.neS).trans HAT.out.box
    have cx:w3.cell? ⟨B,7,none⟩ = some vS:=cell_blk hB3 7 rfl
    have fx:=heap_frz hB3 7
    clear hB3
    try simp only [put_laws]
    refine wpAnyH_take (i:=8) (v:=?_) rfl (by kernel_rfl) (by kernel_rfl) (by kernel_rfl) (fun _ _ _ h=>h) (Or.inl ⟨by rfl,?_⟩) (by assumption) ?_; rotate_left; focus (intro w' hSw; go_simp; (first | done | with_reducible rfl)); (try simp only [put_laws])
    refine wpAnyH_take (i:=9) (v:=?_) rfl (by kernel_rfl) (by kernel_rfl) (by kernel_rfl) (fun _ _ _ h=>h) (Or.inl ⟨by rfl,?_⟩) (by assumption) ?_; rotate_left; focus (intro w' hSw; go_simp; (first | done | with_reducible rfl)); (try simp only [put_laws])
    refine wpAnyH_ready (rs:=[10]) (by kernel_rfl) (by simp) ?_; refine AllReadyH.cons rfl (fun K hK=>?_) AllReadyH.nil
    rw [if_pos (by rfl)]
    go_simp
    refine hK.out _ _ trivial (fun hHeld=>?_)
    clear hK K cx fx
    refine wpAnyH_done (by kernel_rfl) ?_ _
    go_step
    go_step
    go_meet
    case rel=>exact ⟨g,cap',w3,ha.undrew,rfl⟩
 case rest =>
  obtain ⟨vS1,hA1,hK1⟩:=seeA_out hBb HAT.out hcut
  clear hcut HAT hX c7W
  have HAT:=hide hA1
  have HKb:=hide (HK.out.trans hK1)
  have hXc:=(hK1.same HFar.out).trans hXb
  have HFb:=hide (hK1.far HFar.out)
  have hX:=range_whole hXc
  have hzW:base ≤ wc.heap.size:=by have:=hA1.lt; omega
  have hl3:({ s with seen:=s.seen ++ [x] }:Sr).fresh.length ≤ 5000:=hl2
  have hq1:({ s with seen:=s.seen ++ [x] }:Sr).fresh = s.fresh:=rfl
  have hq2:({ s with seen:=s.seen ++ [x] }:Sr).rep = s.rep:=rfl
  have hq3:({ s with seen:=s.seen ++ [x] }:Sr).seen = s.seen ++ [x]:=rfl
  have HQ:=hide (And.intro hq1 (And.intro hq2 hq3))
  clear hA1 hK1 hXb HFar HK hq1 hq2 hq3
  generalize ({ s with seen:=s.seen ++ [x] }:Sr) = s1 at *
  have c8W:wc.cell? ⟨B,8,none⟩ = some vF:=cell_blk HAT.out.box 8 rfl
  go_upto_region 2 with fail
  try simp only [put_laws]
  go_cut [] (fun wx=>SeeA base B 8 235 61 vF s1.fresh.length (s1.fresh.flatMap sgL) (sgL ⟨x,by_⟩) wc wx)
  case first =>
   refine wp_region_held_drew (S:=fun _=>True) (by kernel_rfl) trivial (fun hHeld=>?_)
   refine wpAnyH_take (i:=0) (v:=?_) rfl (by kernel_rfl) (by kernel_rfl) (by kernel_rfl) (fun _ _ _ h=>h) (Or.inl ⟨by rfl,?_⟩) (by assumption) ?_; rotate_left; focus (intro w' hSw; go_simp; (first | done | with_reducible rfl)); (try simp only [put_laws])
   refine wpAnyH_take (i:=1) (v:=?_) rfl (by kernel_rfl) (by kernel_rfl) (by kernel_rfl) (fun _ _ _ h=>h) (Or.inl ⟨by rfl,?_⟩) (by assumption) ?_; rotate_left; focus (intro w' hSw; go_simp; (first | done | with_reducible rfl)); (try simp only [put_laws])
   refine wpAnyH_take (i:=2) (v:=?_) rfl (by kernel_rfl) (by kernel_rfl) (by kernel_rfl) (fun _ _ _ h=>h) (Or.inl ⟨by rfl,?_⟩) (by assumption) ?_; rotate_left; focus (intro w' hSw; go_simp; (first | done | with_reducible rfl)); (try simp only [put_laws])
   refine wpAnyH_take (i:=3) (v:=?_) rfl (by kernel_rfl) (by kernel_rfl) (by kernel_rfl) (fun _ _ _ h=>h) (Or.inl ⟨by rfl,?_⟩) (by assumption) ?_; rotate_left; focus (intro w' hSw; go_simp; (first | done | with_reducible rfl)); (try simp only [put_laws])
   refine wpAnyH_take (i:=6) (v:=?_) rfl (by kernel_rfl) (by kernel_rfl) (by kernel_rfl) (fun _ _ _ h=>h) (Or.inl ⟨by rfl,?_⟩) (by assumption) ?_; rotate_left; focus (intro w' hSw; go_simp; (first | done | with_reducible rfl)); (try simp only [put_laws])
   refine wpAnyH_ready (rs:=[4,5]) (by kernel_rfl) (by simp) ?_; refine AllReadyH.cons rfl (fun K hK=>?_) (AllReadyH.cons rfl (fun K hK=>?_) AllReadyH.nil)
   ·go_simp
    refine hK.out _ _ trivial (fun hHeld=>?_)
    clear hK K
    try simp only [put_laws]
    refine wpAnyH_ready (rs:=[5]) (by kernel_rfl) (by simp) ?_; refine AllReadyH.cons rfl (fun K hK=>?_) AllReadyH.nil
    rw [if_pos (by rfl)]
    refine wp_load_mid 183 _ rfl w.heap.size 0 rfl (ptL x) _ (rg_drew hX) Tryz.underlying183 rfl Tryz.sizePoint ?_
    refine hK.out _ _ trivial (fun hHeld=>?_)
    clear hK K
    try simp only [put_laws]
    refine wpAnyH_take (i:=7) rfl (by kernel_rfl) (by kernel_rfl) (by kernel_rfl) (fun _ _ _ h=>h) (yieldsIf_build2 (by rfl) _ _ rfl [(0,.agg (ptL x).toArray),(1,.string by_)] (by go_simp) (sgL ⟨x,by_⟩) (Tryz.buildSight x by_)) (by assumption) ?_
    try simp only [put_laws]
    refine wpAnyH_ready (rs:=[8]) (by kernel_rfl) (by simp) ?_; refine AllReadyH.cons rfl (fun K hK=>?_) AllReadyH.nil
    rw [if_pos (by rfl)]
    refine wpo_slice1 125 235 _ rfl (sgL ⟨x,by_⟩) rfl 61 _ Tryz.underlying125 Tryz.sizeOf235 Tryz.zeroSight (by decide) (by decide) (Tryz.fillSight ⟨x,by_⟩) ?_
    refine hK.out _ _ trivial (fun hHeld=>?_)
    clear hK K
    try simp only [put_laws]
    refine wpAnyH_ready (rs:=[9]) (by kernel_rfl) (by simp) ?_; refine AllReadyH.cons rfl (fun K hK=>?_) AllReadyH.nil
    rw [if_pos (by rfl)]
    refine app_row_o info_sight rfl (by decide) Tryz.underlying125 (w0:=wc.drew) HAT.out.fresh (by omega) (by decide) hzW rfl (by simpa using one_sg ⟨x,by_⟩) _ _ rfl rfl rfl rfl ?_
    intro g cap' w3 ha
    refine hK.out _ _ trivial (fun hHeld=>?_)
    clear hK K
    have hB3:=(ha.blk B HAT.out.lt HAT.out.neF).trans HAT.out.box
    have cx:w3.cell? ⟨B,8,none⟩ = some vF:=cell_blk hB3 8 rfl
    have fx:=heap_frz hB3 8
    clear hB3
    try simp only [put_laws]
    refine wpAnyH_take (i:=10) (v:=?_) rfl (by kernel_rfl) (by kernel_rfl) (by kernel_rfl) (fun _ _ _ h=>h) (Or.inl ⟨by rfl,?_⟩) (by assumption) ?_; rotate_left; focus (intro w' hSw; go_simp; (first | done | with_reducible rfl)); (try simp only [put_laws])
    refine wpAnyH_take (i:=11) (v:=?_) rfl (by kernel_rfl) (by kernel_rfl) (by kernel_rfl) (fun _ _ _ h=>h) (Or.inl ⟨by rfl,?_⟩) (by assumption) ?_; rotate_left; focus (intro w' hSw; go_simp; (first | done | with_reducible rfl)); (try simp only [put_laws])
    refine wpAnyH_ready (rs:=[12]) (by kernel_rfl) (by simp) ?_; refine AllReadyH.cons rfl (fun K hK=>?_) AllReadyH.nil
    rw [if_pos (by rfl)]
    go_simp
    refine hK.out _ _ trivial (fun hHeld=>?_)
    clear hK K cx fx
    refine wpAnyH_done (by kernel_rfl) ?_ _
    go_step
    go_step
    go_meet
    case rel=>exact ⟨g,cap',w3,ha.undrew,rfl⟩
   ·try rw [if_pos (by rfl)]
    refine wp_load_mid 183 _ rfl w.heap.size 0 rfl (ptL x) _ (rg_drew hX) Tryz.underlying183 rfl Tryz.sizePoint ?_
    refine hK.out _ _ trivial (fun hHeld=>?_)
    clear hK K
    try simp only [put_laws]
    refine wpAnyH_take (i:=7) rfl (by kernel_rfl) (by kernel_rfl) (by kernel_rfl) (fun _ _ _ h=>h) (yieldsIf_build2 (by rfl) _ _ rfl [(0,.agg (ptL x).toArray),(1,.string by_)] (by go_simp) (sgL ⟨x,by_⟩) (Tryz.buildSight x by_)) (by assumption) ?_
    try simp only [put_laws]
    refine wpAnyH_ready (rs:=[4,8]) (by kernel_rfl) (by simp) ?_; refine AllReadyH.cons rfl (fun K hK=>?_) (AllReadyH.cons rfl (fun K hK=>?_) AllReadyH.nil)
    ·go_simp
     refine hK.out _ _ trivial (fun hHeld=>?_)
     clear hK K
     try simp only [put_laws]
     refine wpAnyH_ready (rs:=[8]) (by kernel_rfl) (by simp) ?_; refine AllReadyH.cons rfl (fun K hK=>?_) AllReadyH.nil
     rw [if_pos (by rfl)]
     refine wpo_slice1 125 235 _ rfl (sgL ⟨x,by_⟩) rfl 61 _ Tryz.underlying125 Tryz.sizeOf235 Tryz.zeroSight (by decide) (by decide) (Tryz.fillSight ⟨x,by_⟩) ?_
     refine hK.out _ _ trivial (fun hHeld=>?_)
     clear hK K
     try simp only [put_laws]
     refine wpAnyH_ready (rs:=[9]) (by kernel_rfl) (by simp) ?_; refine AllReadyH.cons rfl (fun K hK=>?_) AllReadyH.nil
     rw [if_pos (by rfl)]
     refine app_row_o info_sight rfl (by decide) Tryz.underlying125 (w0:=wc.drew) HAT.out.fresh (by omega) (by decide) hzW rfl (by simpa using one_sg ⟨x,by_⟩) _ _ rfl rfl rfl rfl ?_
     intro g cap' w3 ha
     refine hK.out _ _ trivial (fun hHeld=>?_)
     clear hK K
     have hB3:=(ha.blk B HAT.out.lt HAT.out.neF).trans HAT.out.box
     have cx:w3.cell? ⟨B,8,none⟩ = some vF:=cell_blk hB3 8 rfl
     have fx:=heap_frz hB3 8
     clear hB3
     try simp only [put_laws]
     refine wpAnyH_take (i:=10) (v:=?_) rfl (by kernel_rfl) (by kernel_rfl) (by kernel_rfl) (fun _ _ _ h=>h) (Or.inl ⟨by rfl,?_⟩) (by assumption) ?_; rotate_left; focus (intro w' hSw; go_simp; (first | done | with_reducible rfl)); (try simp only [put_laws])
     refine wpAnyH_take (i:=11) (v:=?_) rfl (by kernel_rfl) (by kernel_rfl) (by kernel_rfl) (fun _ _ _ h=>h) (Or.inl ⟨by rfl,?_⟩) (by assumption) ?_; rotate_left; focus (intro w' hSw; go_simp; (first | done | with_reducible rfl)); (try simp only [put_laws])
     refine wpAnyH_ready (rs:=[12]) (by kernel_rfl) (by simp) ?_; refine AllReadyH.cons rfl (fun K hK=>?_) AllReadyH.nil
     rw [if_pos (by rfl)]
     go_simp
     refine hK.out _ _ trivial (fun hHeld=>?_)
     clear hK K cx fx
     refine wpAnyH_done (by kernel_rfl) ?_ _
     go_step
     go_step
     go_meet
     case rel=>exact ⟨g,cap',w3,ha.undrew,rfl⟩
    ·try rw [if_pos (by rfl)]
     refine wpo_slice1 125 235 _ rfl (sgL ⟨x,by_⟩) rfl 61 _ Tryz.underlying125 Tryz.sizeOf235 Tryz.zeroSight (by decide) (by decide) (Tryz.fillSight ⟨x,by_⟩) ?_
     refine hK.out _ _ trivial (fun hHeld=>?_)
     clear hK K
     try simp only [put_laws]
     have cy:=cellAl c8W (ob:=.cells (sgL ⟨x,by_⟩).toArray 235)
     refine wpAnyH_ready (rs:=[4]) (by kernel_rfl) (by simp) ?_; refine AllReadyH.cons rfl (fun K hK=>?_) AllReadyH.nil
     rw [if_pos (by rfl)]
     go_simp
     refine hK.out _ _ trivial (fun hHeld=>?_)
     clear hK K
     try simp only [put_laws]
     clear cy
     refine wpAnyH_ready (rs:=[9]) (by kernel_rfl) (by simp) ?_; refine AllReadyH.cons rfl (fun K hK=>?_) AllReadyH.nil
     rw [if_pos (by rfl)]
     refine app_row_o info_sight rfl (by decide) Tryz.underlying125 (w0:=wc.drew) HAT.out.fresh (by omega) (by decide) hzW rfl (by simpa using one_sg ⟨x,by_⟩) _ _ rfl rfl rfl rfl ?_
     intro g cap' w3 ha
     refine hK.out _ _ trivial (fun hHeld=>?_)
     clear hK K
     have hB3:=(ha.blk B HAT.out.lt HAT.out.neF).trans HAT.out.box
     have cx:w3.cell? ⟨B,8,none⟩ = some vF:=cell_blk hB3 8 rfl
     have fx:=heap_frz hB3 8
     clear hB3
     try simp only [put_laws]
     refine wpAnyH_take (i:=10) (v:=?_) rfl (by kernel_rfl) (by kernel_rfl) (by kernel_rfl) (fun _ _ _ h=>h) (Or.inl ⟨by rfl,?_⟩) (by assumption) ?_; rotate_left; focus (intro w' hSw; go_simp; (first | done | with_reducible rfl)); (try simp only [put_laws])
     refine wpAnyH_take (i:=11) (v:=?_) rfl (by kernel_rfl) (by kernel_rfl) (by kernel_rfl) (fun _ _ _ h=>h) (Or.inl ⟨by rfl,?_⟩) (by assumption) ?_; rotate_left; focus (intro w' hSw; go_simp; (first | done | with_reducible rfl)); (try simp only [put_laws])
     refine wpAnyH_ready (rs:=[12]) (by kernel_rfl) (by simp) ?_; refine AllReadyH.cons rfl (fun K hK=>?_) AllReadyH.nil
     rw [if_pos (by rfl)]
     go_simp
     refine hK.out _ _ trivial (fun hHeld=>?_)
     clear hK K cx fx
     refine wpAnyH_done (by kernel_rfl) ?_ _
     go_step
     go_step
     go_meet
     case rel=>exact ⟨g,cap',w3,ha.undrew,rfl⟩
  case rest =>
   obtain ⟨vF2,hA2,hK2⟩:=seeB_out hBb HAT.out hcut
   have hq1:({ s1 with fresh:=s1.fresh ++ [⟨x,by_⟩] }:Sr) = ⟨s.seen ++ [x],s.fresh ++ [⟨x,by_⟩],s.rep⟩:=by
    obtain ⟨a,b,c⟩:=HQ.out
    rw [← a,← b,← c]
   rw [hq1] at hA2
   have HAT2:=hide hA2
   have HK2:=hide (HKb.out.trans hK2)
   have hX2:=(hK2.same HFb.out).trans hXc
   have HF2:=hide (hK2.far HFb.out)
   obtain ⟨a7,cap7,hv1⟩:∃ a cap,vS1 = .slice a (s.seen.length + 1) cap:=by simpa using owns_slice hA2.seen
   clear hcut HAT hX c8W hq1 hA2 hK2 HQ HKb HFb hXc hl3
   subst hv1
   generalize hN:s.seen.length + 1 = N at *
   have hN2:N ≤ 5001:=by omega
   have c7:wc.cell? ⟨B,7,none⟩ = some (.slice a7 N cap7):=cell_blk HAT2.out.box 7 rfl
   have c14:wc.cell? ⟨B,14,none⟩ = some (.int .i64 s.rep.points):=cell_blk HAT2.out.box 14 rfl
   have f14:=heap_frz HAT2.out.box 14
   go_upto_region 4 with fail
   have HAT3:=hide (sr_rep (o:=14) HAT2.out (.int .i64 N) { s.rep with points:=N } rfl)
   have HK3:=hide (HK2.out.trans (seek_set (o:=14) hBb (.int .i64 N)))
   have hX3:=(setCell_heap_ne wc B 14 (.int .i64 N) _ HF2.out.ne).trans hX2
   have HF3:=hide ((seek_set (o:=14) hBb (.int .i64 N)).far HF2.out)
   clear c7 c14 f14 HAT2 HK2 hX2 HF2
   generalize wc.setCell ⟨B,14,none⟩ (.int .i64 N) = w3 at *
   generalize hr1:({ s.rep with points:=N }:Rp) = r1 at *
   have HR1:=hide hr1
   have HN:=hide hN
   clear hr1 hN
   have HAT3:Hid (SrAt B base p v most (.slice a7 N cap7) vF2 ⟨s.seen ++ [x],s.fresh ++ [⟨x,by_⟩],r1⟩ w3):=HAT3
   have HPI:=hide (HP.out.below HK3.out.bel)
   have rgP:=sr_plan HAT3.out
   have rgC:=pt_cfg hX3
   have c9:∀ w',Below w3.heap.size w3 w'→w'.cell? ⟨B,9,none⟩ = some (.bool r1.race):=fun w' hb=>cell_below (cell_blk HAT3.out.box 9 rfl) hb
   generalize hrr:r1.race = rr at c9
   try simp only [put_laws]
   go_cut [51] (fun u wx=>u = .bool (!rr && raceF p x.cfg)∧Below w3.heap.size w3 wx)
   case first =>
    cases rr
    ·refine wp_region_held_drew (S:=fun w'=>Below w3.heap.size w3 w') (by kernel_rfl) (Below.refl _ _).drew (fun hHeld=>?_)
     refine wpAnyH_take (i:=0) (v:=?_) rfl (by kernel_rfl) (by kernel_rfl) (by kernel_rfl) (fun _ _ _ h=>h) (Or.inl ⟨by rfl,?_⟩) (by assumption) ?_; rotate_left; focus (intro w' hSw; go_simp; (first | done | with_reducible rfl)); (try simp only [put_laws])
     refine wpAnyH_take (i:=1) (v:=?_) rfl (by kernel_rfl) (by kernel_rfl) (by kernel_rfl) (fun _ _ _ h=>h) (Or.inl ⟨by rfl,?_⟩) (by assumption) ?_; rotate_left; focus (intro w' hSw; go_simp; (first | done | with_reducible rfl)); (try simp only [put_laws])
     refine wpAnyH_take (i:=2) (v:=?_) rfl (by kernel_rfl) (by kernel_rfl) (by kernel_rfl) (fun _ _ _ h=>h) (Or.inl ⟨by rfl,?_⟩) (by assumption) ?_; rotate_left; focus (intro w' hSw; go_simp; (first | done | with_reducible rfl)); (try simp only [put_laws])
     refine wpAnyH_take (i:=3) (v:=?_) rfl (by kernel_rfl) (by kernel_rfl) (by kernel_rfl) (fun _ _ _ h=>h) (Or.inl ⟨by rfl,?_⟩) (by assumption) ?_; rotate_left; focus (intro w' hSw; go_simp; (first | done | with_reducible rfl)); (try simp only [put_laws])
     refine wpAnyH_take (i:=4) (v:=?_) rfl (by kernel_rfl) (by kernel_rfl) (by kernel_rfl) (fun _ _ _ h=>h) (Or.inl ⟨by rfl,?_⟩) (by assumption) ?_; rotate_left; focus (intro w' hSw; go_simp; (first | done | with_reducible rfl)); (try simp only [put_laws])
     refine wpAnyH_take (i:=5) (v:=?_) rfl (by kernel_rfl) (by kernel_rfl) (by kernel_rfl) (fun _ _ _ h=>h) (Or.inl ⟨by rfl,?_⟩) (by assumption) ?_; rotate_left; focus (intro w' hSw; go_simp; (first | done | with_reducible rfl)); (try simp only [put_laws])
     refine wpAnyH_take (i:=6) (v:=?_) rfl (by kernel_rfl) (by kernel_rfl) (by kernel_rfl) (fun _ _ _ h=>h) (Or.inl ⟨by rfl,?_⟩) (by assumption) ?_; rotate_left; focus (intro w' hSw; go_simp; (first | done | with_reducible rfl)); (try simp only [put_laws])
     refine wpAnyH_take (i:=7) (v:=?_) rfl (by kernel_rfl) (by kernel_rfl) (by kernel_rfl) (fun _ _ _ h=>h) (Or.inl ⟨by kernel_rfl,?_⟩) (by assumption) ?_; rotate_left; focus (intro w' hSw; go_simp; (first | done | with_reducible rfl)); (try simp only [put_laws])
     refine wpAnyH_take (i:=8) (v:=?_) rfl (by kernel_rfl) (by kernel_rfl) (by kernel_rfl) (fun _ _ _ h=>h) (Or.inl ⟨by kernel_rfl,?_⟩) (by assumption) ?_; rotate_left; focus (intro w' hSw; go_simp; (first | done | with_reducible rfl)); (try simp only [put_laws])
     refine wpAnyH_take (i:=9) (v:=?_) rfl (by kernel_rfl) (by kernel_rfl) (by kernel_rfl) (fun _ _ _ h=>h) (Or.inl ⟨by kernel_rfl,?_⟩) (by assumption) ?_; rotate_left; focus (intro w' hSw; go_simp; (first | done | with_reducible rfl)); (try simp only [put_laws])
     refine wpAnyH_take (i:=10) rfl (by kernel_rfl) (by kernel_rfl) (by kernel_rfl) (fun _ _ _ h=>h) (yieldsIf_load_mid (by kernel_rfl) _ _ rfl B 0 (by kernel_rfl) (plL p v) _ (fun _ h=>rg_below rgP h) Tryz.underlying123 rfl Tryz.sizeProgram) (by assumption) ?_
     try simp only [put_laws]
     refine wpAnyH_take (i:=11) (v:=?_) rfl (by kernel_rfl) (by kernel_rfl) (by kernel_rfl) (fun _ _ _ h=>h) (Or.inl ⟨by kernel_rfl,?_⟩) (by assumption) ?_; rotate_left; focus (intro w' hSw; go_simp; (first | done | with_reducible rfl)); (try simp only [put_laws])
     refine wpAnyH_take (i:=12) rfl (by kernel_rfl) (by kernel_rfl) (by kernel_rfl) (fun _ _ _ h=>h) (yieldsIf_load_mid (by kernel_rfl) _ _ rfl w.heap.size 2 (by kernel_rfl) (cfgL x.cfg) _ (fun _ h=>rg_below rgC h) Tryz.underlying140 rfl Tryz.sizeConfig) (by assumption) ?_
     try simp only [put_laws]
     refine wpAnyH_ready (rs:=[13]) (by kernel_rfl) (by simp) ?_; refine AllReadyH.cons rfl (fun K hK=>?_) AllReadyH.nil
     rw [if_pos (by kernel_rfl)]
     go_simp
     refine (py_Race p v x.cfg _ (HPI.out.in_.below (Below.refl _ _).drew)).mono ?_
     rintro e wq ⟨rfl,hbq⟩
     refine hK.out _ _ (hHeld.trans (hbq.mono (Nat.le_refl _))) (fun hHeld=>?_)
     clear hK K hbq
     try simp only [put_laws]
     refine wpAnyH_take (i:=14) (v:=?_) rfl (by kernel_rfl) (by kernel_rfl) (by kernel_rfl) (fun _ _ _ h=>h) (Or.inl ⟨by rfl,?_⟩) (by assumption) ?_; rotate_left; focus (intro w' hSw; go_simp; (first | done | with_reducible rfl)); (try simp only [put_laws])
     refine wpAnyH_done (by kernel_rfl) ?_ _
     go_step
     go_step
     go_meet
     case rel=>exact ⟨rfl,hHeld⟩
    ·refine wp_region_held_drew (S:=fun w'=>Below w3.heap.size w3 w') (by kernel_rfl) (Below.refl _ _).drew (fun hHeld=>?_)
     refine wpAnyH_take (i:=0) (v:=?_) rfl (by kernel_rfl) (by kernel_rfl) (by kernel_rfl) (fun _ _ _ h=>h) (Or.inl ⟨by rfl,?_⟩) (by assumption) ?_; rotate_left; focus (intro w' hSw; go_simp; (first | done | with_reducible rfl)); (try simp only [put_laws])
     refine wpAnyH_take (i:=1) (v:=?_) rfl (by kernel_rfl) (by kernel_rfl) (by kernel_rfl) (fun _ _ _ h=>h) (Or.inl ⟨by rfl,?_⟩) (by assumption) ?_; rotate_left; focus (intro w' hSw; go_simp; (first | done | with_reducible rfl)); (try simp only [put_laws])
     refine wpAnyH_take (i:=2) (v:=?_) rfl (by kernel_rfl) (by kernel_rfl) (by kernel_rfl) (fun _ _ _ h=>h) (Or.inl ⟨by rfl,?_⟩) (by assumption) ?_; rotate_left; focus (intro w' hSw; go_simp; (first | done | with_reducible rfl)); (try simp only [put_laws])
     refine wpAnyH_take (i:=3) (v:=?_) rfl (by kernel_rfl) (by kernel_rfl) (by kernel_rfl) (fun _ _ _ h=>h) (Or.inl ⟨by rfl,?_⟩) (by assumption) ?_; rotate_left; focus (intro w' hSw; go_simp; (first | done | with_reducible rfl)); (try simp only [put_laws])
     refine wpAnyH_take (i:=4) (v:=?_) rfl (by kernel_rfl) (by kernel_rfl) (by kernel_rfl) (fun _ _ _ h=>h) (Or.inl ⟨by rfl,?_⟩) (by assumption) ?_; rotate_left; focus (intro w' hSw; go_simp; (first | done | with_reducible rfl)); (try simp only [put_laws])
     refine wpAnyH_take (i:=5) (v:=?_) rfl (by kernel_rfl) (by kernel_rfl) (by kernel_rfl) (fun _ _ _ h=>h) (Or.inl ⟨by rfl,?_⟩) (by assumption) ?_; rotate_left; focus (intro w' hSw; go_simp; (first | done | with_reducible rfl)); (try simp only [put_laws])
     refine wpAnyH_take (i:=6) (v:=?_) rfl (by kernel_rfl) (by kernel_rfl) (by kernel_rfl) (fun _ _ _ h=>h) (Or.inl ⟨by rfl,?_⟩) (by assumption) ?_; rotate_left; focus (intro w' hSw; go_simp; (first | done | with_reducible rfl)); (try simp only [put_laws])
     refine wpAnyH_take (i:=7) (v:=undef) rfl (by kernel_rfl) (by kernel_rfl) (by kernel_rfl) (fun _ _ _ h=>h) (Or.inr ⟨by kernel_rfl,rfl⟩) (by assumption) ?_; (try simp only [put_laws])
     refine wpAnyH_take (i:=8) (v:=undef) rfl (by kernel_rfl) (by kernel_rfl) (by kernel_rfl) (fun _ _ _ h=>h) (Or.inr ⟨by kernel_rfl,rfl⟩) (by assumption) ?_; (try simp only [put_laws])
     refine wpAnyH_take (i:=9) (v:=undef) rfl (by kernel_rfl) (by kernel_rfl) (by kernel_rfl) (fun _ _ _ h=>h) (Or.inr ⟨by kernel_rfl,rfl⟩) (by assumption) ?_; (try simp only [put_laws])
     refine wpAnyH_take (i:=10) (v:=undef) rfl (by kernel_rfl) (by kernel_rfl) (by kernel_rfl) (fun _ _ _ h=>h) (Or.inr ⟨by kernel_rfl,rfl⟩) (by assumption) ?_; (try simp only [put_laws])
     refine wpAnyH_take (i:=11) (v:=undef) rfl (by kernel_rfl) (by kernel_rfl) (by kernel_rfl) (fun _ _ _ h=>h) (Or.inr ⟨by kernel_rfl,rfl⟩) (by assumption) ?_; (try simp only [put_laws])
     refine wpAnyH_take (i:=12) (v:=undef) rfl (by kernel_rfl) (by kernel_rfl) (by kernel_rfl) (fun _ _ _ h=>h) (Or.inr ⟨by kernel_rfl,rfl⟩) (by assumption) ?_; (try simp only [put_laws])
     refine wpAnyH_take (i:=13) (v:=undef) rfl (by kernel_rfl) (by kernel_rfl) (by kernel_rfl) (fun _ _ _ h=>h) (Or.inr ⟨by kernel_rfl,rfl⟩) (by assumption) ?_; (try simp only [put_laws])
     refine wpAnyH_take (i:=14) (v:=?_) rfl (by kernel_rfl) (by kernel_rfl) (by kernel_rfl) (fun _ _ _ h=>h) (Or.inl ⟨by rfl,?_⟩) (by assumption) ?_; rotate_left; focus (intro w' hSw; go_simp; (first | done | with_reducible rfl)); (try simp only [put_laws])
     refine wpAnyH_done (by kernel_rfl) ?_ _
     go_step
     go_step
     go_meet
     case rel=>exact ⟨rfl,hHeld⟩
   case rest =>
    obtain ⟨rfl,hb4⟩:=hcut
    have hRR:raceR p x by_ r1 = if (!rr && raceF p x.cfg) = true then { r1 with race:=true,raceBy:=by_ } else r1:=by unfold raceR; rw [hrr]
    have HAT4:=hide (HAT3.out.below hb4)
    have hk4:=SeK.of_below (base:=base) (B:=B) (vS:=.slice a7 N cap7) (vF:=vF2) hb4 (Nat.le_trans hBb (Nat.le_of_lt HAT3.out.lt))
    have HK4:=hide (HK3.out.trans hk4)
    have hX4:=(hk4.same HF3.out).trans hX3
    have HF4:=hide (hk4.far HF3.out)
    clear rgP rgC c9 HAT3 hk4 HK3 hX3 HF3 HPI hb4 hrr
    generalize (!rr && raceF p x.cfg) = b4 at *
    go_upto_if 51 with fail
    go_cut [] (fun wx=>SrAt B base p v most (.slice a7 N cap7) vF2 ⟨s.seen ++ [x],s.fresh ++ [⟨x,by_⟩],raceR p x by_ r1⟩ wx∧SeK base B (.slice a7 N cap7) vF2 wc (.slice a7 N cap7) vF2 wx)
    case first =>
     cases b4
     ·have hE:raceR p x by_ r1 = r1:=by rw [hRR]; rfl
      have HE:=hide hE
      clear hE hRR
      go_wp2_with fail
      go_meet
      case rel=>exact ⟨by rw [HE.out]; exact HAT4.out,SeK.of_below (Below.refl _ _) (Nat.le_trans hBb (Nat.le_of_lt HAT4.out.lt))⟩
     ·have hE:raceR p x by_ r1 = { r1 with race:=true,raceBy:=by_ }:=by rw [hRR]; rfl
      have HE:=hide hE
      clear hE hRR
      have c9:wc.cell? ⟨B,9,none⟩ = some (.bool r1.race):=cell_blk HAT4.out.box 9 rfl
      have f9:=heap_frz HAT4.out.box 9
      have HA5:=hide (sr_rep (o:=9) HAT4.out (.bool true) { r1 with race:=true } rfl)
      have c11:(wc.setCell ⟨B,9,none⟩ (.bool true)).cell? ⟨B,11,none⟩ = some (.string r1.raceBy):=cell_blk HA5.out.box 11 rfl
      have f11:(wc.setCell ⟨B,9,none⟩ (.bool true)).frozen? ⟨B,11,none⟩ = false:=heap_frz HA5.out.box 11
      go_wp2_with fail
      go_meet
      case rel=>exact ⟨by rw [HE.out]; exact sr_rep (o:=11) HA5.out (.string by_) { r1 with race:=true,raceBy:=by_ } rfl,(seek_set hBb _).trans (seek_set hBb _)⟩
    case rest =>
     obtain ⟨hA5,hk5⟩:=hcut
     have HAT3:=hide hA5
     have HK3:=hide (HK4.out.trans hk5)
     have hX3:=(hk5.same HF4.out).trans hX4
     have HF3:=hide (hk5.far HF4.out)
     clear hA5 hk5 HAT4 HK4 hX4 HF4 hRR
     generalize hr2:raceR p x by_ r1 = r2 at *
     have HR2:=hide hr2
     clear hr2
     have HPI:=hide (HP.out.below HK3.out.bel)
     have rgP:=sr_plan HAT3.out
     have rgC:=pt_cfg hX3
     have c10:∀ w',Below wc.heap.size wc w'→w'.cell? ⟨B,10,none⟩ = some (.bool r2.dead):=fun w' hb=>cell_below (cell_blk HAT3.out.box 10 rfl) hb
     generalize hrr:r2.dead = rr at c10
     go_upto_region 7 with fail
     try simp only [put_laws]
     go_cut [75] (fun u wx=>u = .bool (!rr && deadF p x.cfg)∧Below wc.heap.size wc wx)
     case first =>
      cases rr
      ·refine wp_region_held_drew (S:=fun w'=>Below wc.heap.size wc w') (by kernel_rfl) (Below.refl _ _).drew (fun hHeld=>?_)
       refine wpAnyH_take (i:=0) (v:=?_) rfl (by kernel_rfl) (by kernel_rfl) (by kernel_rfl) (fun _ _ _ h=>h) (Or.inl ⟨by rfl,?_⟩) (by assumption) ?_; rotate_left; focus (intro w' hSw; go_simp; (first | done | with_reducible rfl)); (try simp only [put_laws])
       refine wpAnyH_take (i:=1) (v:=?_) rfl (by kernel_rfl) (by kernel_rfl) (by kernel_rfl) (fun _ _ _ h=>h) (Or.inl ⟨by rfl,?_⟩) (by assumption) ?_; rotate_left; focus (intro w' hSw; go_simp; (first | done | with_reducible rfl)); (try simp only [put_laws])
       refine wpAnyH_take (i:=2) (v:=?_) rfl (by kernel_rfl) (by kernel_rfl) (by kernel_rfl) (fun _ _ _ h=>h) (Or.inl ⟨by rfl,?_⟩) (by assumption) ?_; rotate_left; focus (intro w' hSw; go_simp; (first | done | with_reducible rfl)); (try simp only [put_laws])
       refine wpAnyH_take (i:=3) (v:=?_) rfl (by kernel_rfl) (by kernel_rfl) (by kernel_rfl) (fun _ _ _ h=>h) (Or.inl ⟨by rfl,?_⟩) (by assumption) ?_; rotate_left; focus (intro w' hSw; go_simp; (first | done | with_reducible rfl)); (try simp only [put_laws])
       refine wpAnyH_take (i:=4) (v:=?_) rfl (by kernel_rfl) (by kernel_rfl) (by kernel_rfl) (fun _ _ _ h=>h) (Or.inl ⟨by rfl,?_⟩) (by assumption) ?_; rotate_left; focus (intro w' hSw; go_simp; (first | done | with_reducible rfl)); (try simp only [put_laws])
       refine wpAnyH_take (i:=5) (v:=?_) rfl (by kernel_rfl) (by kernel_rfl) (by kernel_rfl) (fun _ _ _ h=>h) (Or.inl ⟨by rfl,?_⟩) (by assumption) ?_; rotate_left; focus (intro w' hSw; go_simp; (first | done | with_reducible rfl)); (try simp only [put_laws])
       refine wpAnyH_take (i:=6) (v:=?_) rfl (by kernel_rfl) (by kernel_rfl) (by kernel_rfl) (fun _ _ _ h=>h) (Or.inl ⟨by rfl,?_⟩) (by assumption) ?_; rotate_left; focus (intro w' hSw; go_simp; (first | done | with_reducible rfl)); (try simp only [put_laws])
       refine wpAnyH_take (i:=7) (v:=?_) rfl (by kernel_rfl) (by kernel_rfl) (by kernel_rfl) (fun _ _ _ h=>h) (Or.inl ⟨by kernel_rfl,?_⟩) (by assumption) ?_; rotate_left; focus (intro w' hSw; go_simp; (first | done | with_reducible rfl)); (try simp only [put_laws])
       refine wpAnyH_take (i:=8) (v:=?_) rfl (by kernel_rfl) (by kernel_rfl) (by kernel_rfl) (fun _ _ _ h=>h) (Or.inl ⟨by kernel_rfl,?_⟩) (by assumption) ?_; rotate_left; focus (intro w' hSw; go_simp; (first | done | with_reducible rfl)); (try simp only [put_laws])
       refine wpAnyH_take (i:=9) (v:=?_) rfl (by kernel_rfl) (by kernel_rfl) (by kernel_rfl) (fun _ _ _ h=>h) (Or.inl ⟨by kernel_rfl,?_⟩) (by assumption) ?_; rotate_left; focus (intro w' hSw; go_simp; (first | done | with_reducible rfl)); (try simp only [put_laws])
       refine wpAnyH_take (i:=10) rfl (by kernel_rfl) (by kernel_rfl) (by kernel_rfl) (fun _ _ _ h=>h) (yieldsIf_load_mid (by kernel_rfl) _ _ rfl B 0 (by kernel_rfl) (plL p v) _ (fun _ h=>rg_below rgP h) Tryz.underlying123 rfl Tryz.sizeProgram) (by assumption) ?_
       try simp only [put_laws]
       refine wpAnyH_take (i:=11) (v:=?_) rfl (by kernel_rfl) (by kernel_rfl) (by kernel_rfl) (fun _ _ _ h=>h) (Or.inl ⟨by kernel_rfl,?_⟩) (by assumption) ?_; rotate_left; focus (intro w' hSw; go_simp; (first | done | with_reducible rfl)); (try simp only [put_laws])
       refine wpAnyH_take (i:=12) rfl (by kernel_rfl) (by kernel_rfl) (by kernel_rfl) (fun _ _ _ h=>h) (yieldsIf_load_mid (by kernel_rfl) _ _ rfl w.heap.size 2 (by kernel_rfl) (cfgL x.cfg) _ (fun _ h=>rg_below rgC h) Tryz.underlying140 rfl Tryz.sizeConfig) (by assumption) ?_
       try simp only [put_laws]
       refine wpAnyH_ready (rs:=[13]) (by kernel_rfl) (by simp) ?_; refine AllReadyH.cons rfl (fun K hK=>?_) AllReadyH.nil
       rw [if_pos (by kernel_rfl)]
       go_simp
       refine (py_Dead p v x.cfg _ (HPI.out.in_.below (Below.refl _ _).drew)).mono ?_
       rintro e wq ⟨rfl,hbq⟩
       refine hK.out _ _ (hHeld.trans (hbq.mono (Nat.le_refl _))) (fun hHeld=>?_)
       clear hK K hbq
       try simp only [put_laws]
       refine wpAnyH_take (i:=14) (v:=?_) rfl (by kernel_rfl) (by kernel_rfl) (by kernel_rfl) (fun _ _ _ h=>h) (Or.inl ⟨by rfl,?_⟩) (by assumption) ?_; rotate_left; focus (intro w' hSw; go_simp; (first | done | with_reducible rfl)); (try simp only [put_laws])
       refine wpAnyH_done (by kernel_rfl) ?_ _
       go_step
       go_step
       go_meet
       case rel=>exact ⟨rfl,hHeld⟩
      ·refine wp_region_held_drew (S:=fun w'=>Below wc.heap.size wc w') (by kernel_rfl) (Below.refl _ _).drew (fun hHeld=>?_)
       refine wpAnyH_take (i:=0) (v:=?_) rfl (by kernel_rfl) (by kernel_rfl) (by kernel_rfl) (fun _ _ _ h=>h) (Or.inl ⟨by rfl,?_⟩) (by assumption) ?_; rotate_left; focus (intro w' hSw; go_simp; (first | done | with_reducible rfl)); (try simp only [put_laws])
       refine wpAnyH_take (i:=1) (v:=?_) rfl (by kernel_rfl) (by kernel_rfl) (by kernel_rfl) (fun _ _ _ h=>h) (Or.inl ⟨by rfl,?_⟩) (by assumption) ?_; rotate_left; focus (intro w' hSw; go_simp; (first | done | with_reducible rfl)); (try simp only [put_laws])
       refine wpAnyH_take (i:=2) (v:=?_) rfl (by kernel_rfl) (by kernel_rfl) (by kernel_rfl) (fun _ _ _ h=>h) (Or.inl ⟨by rfl,?_⟩) (by assumption) ?_; rotate_left; focus (intro w' hSw; go_simp; (first | done | with_reducible rfl)); (try simp only [put_laws])
       refine wpAnyH_take (i:=3) (v:=?_) rfl (by kernel_rfl) (by kernel_rfl) (by kernel_rfl) (fun _ _ _ h=>h) (Or.inl ⟨by rfl,?_⟩) (by assumption) ?_; rotate_left; focus (intro w' hSw; go_simp; (first | done | with_reducible rfl)); (try simp only [put_laws])
       refine wpAnyH_take (i:=4) (v:=?_) rfl (by kernel_rfl) (by kernel_rfl) (by kernel_rfl) (fun _ _ _ h=>h) (Or.inl ⟨by rfl,?_⟩) (by assumption) ?_; rotate_left; focus (intro w' hSw; go_simp; (first | done | with_reducible rfl)); (try simp only [put_laws])
       refine wpAnyH_take (i:=5) (v:=?_) rfl (by kernel_rfl) (by kernel_rfl) (by kernel_rfl) (fun _ _ _ h=>h) (Or.inl ⟨by rfl,?_⟩) (by assumption) ?_; rotate_left; focus (intro w' hSw; go_simp; (first | done | with_reducible rfl)); (try simp only [put_laws])
       refine wpAnyH_take (i:=6) (v:=?_) rfl (by kernel_rfl) (by kernel_rfl) (by kernel_rfl) (fun _ _ _ h=>h) (Or.inl ⟨by rfl,?_⟩) (by assumption) ?_; rotate_left; focus (intro w' hSw; go_simp; (first | done | with_reducible rfl)); (try simp only [put_laws])
       refine wpAnyH_take (i:=7) (v:=undef) rfl (by kernel_rfl) (by kernel_rfl) (by kernel_rfl) (fun _ _ _ h=>h) (Or.inr ⟨by kernel_rfl,rfl⟩) (by assumption) ?_; (try simp only [put_laws])
       refine wpAnyH_take (i:=8) (v:=undef) rfl (by kernel_rfl) (by kernel_rfl) (by kernel_rfl) (fun _ _ _ h=>h) (Or.inr ⟨by kernel_rfl,rfl⟩) (by assumption) ?_; (try simp only [put_laws])
       refine wpAnyH_take (i:=9) (v:=undef) rfl (by kernel_rfl) (by kernel_rfl) (by kernel_rfl) (fun _ _ _ h=>h) (Or.inr ⟨by kernel_rfl,rfl⟩) (by assumption) ?_; (try simp only [put_laws])
       refine wpAnyH_take (i:=10) (v:=undef) rfl (by kernel_rfl) (by kernel_rfl) (by kernel_rfl) (fun _ _ _ h=>h) (Or.inr ⟨by kernel_rfl,rfl⟩) (by assumption) ?_; (try simp only [put_laws])
       refine wpAnyH_take (i:=11) (v:=undef) rfl (by kernel_rfl) (by kernel_rfl) (by kernel_rfl) (fun _ _ _ h=>h) (Or.inr ⟨by kernel_rfl,rfl⟩) (by assumption) ?_; (try simp only [put_laws])
       refine wpAnyH_take (i:=12) (v:=undef) rfl (by kernel_rfl) (by kernel_rfl) (by kernel_rfl) (fun _ _ _ h=>h) (Or.inr ⟨by kernel_rfl,rfl⟩) (by assumption) ?_; (try simp only [put_laws])
       refine wpAnyH_take (i:=13) (v:=undef) rfl (by kernel_rfl) (by kernel_rfl) (by kernel_rfl) (fun _ _ _ h=>h) (Or.inr ⟨by kernel_rfl,rfl⟩) (by assumption) ?_; (try simp only [put_laws])
       refine wpAnyH_take (i:=14) (v:=?_) rfl (by kernel_rfl) (by kernel_rfl) (by kernel_rfl) (fun _ _ _ h=>h) (Or.inl ⟨by rfl,?_⟩) (by assumption) ?_; rotate_left; focus (intro w' hSw; go_simp; (first | done | with_reducible rfl)); (try simp only [put_laws])
       refine wpAnyH_done (by kernel_rfl) ?_ _
       go_step
       go_step
       go_meet
       case rel=>exact ⟨rfl,hHeld⟩
     case rest =>
      obtain ⟨rfl,hb4⟩:=hcut
      have hRR:deadR p x by_ r2 = if (!rr && deadF p x.cfg) = true then { r2 with dead:=true,deadBy:=by_ } else r2:=by unfold deadR; rw [hrr]
      have HAT4:=hide (HAT3.out.below hb4)
      have HK4:=hide (HK3.out.trans (SeK.of_below (base:=base) (B:=B) (vS:=.slice a7 N cap7) (vF:=vF2) hb4 (Nat.le_trans hBb (Nat.le_of_lt HAT3.out.lt))))
      clear rgP rgC c10 HAT3 HK3 hX3 HF3 HPI hb4 hrr
      generalize (!rr && deadF p x.cfg) = b4 at *
      cases b4
      ·have hE:deadR p x by_ r2 = r2:=by rw [hRR]; rfl
       have HE:=hide hE
       clear hE hRR
       go_wp2_with fail
       refine bodyPost_end (v:=.tuple #[]) ?_ rfl ⟨rfl,_,_,?_,HK4.out⟩
       ·simp [results,Tryz.results102,go_sem]
       ·rw [HN.out,HR1.out,HR2.out,HE.out]; exact HAT4.out
      ·have hE:deadR p x by_ r2 = { r2 with dead:=true,deadBy:=by_ }:=by rw [hRR]; rfl
       have HE:=hide hE
       clear hE hRR
       have c10:wc.cell? ⟨B,10,none⟩ = some (.bool r2.dead):=cell_blk HAT4.out.box 10 rfl
       have f10:=heap_frz HAT4.out.box 10
       have HA5:=hide (sr_rep (o:=10) HAT4.out (.bool true) { r2 with dead:=true } rfl)
       have c12:(wc.setCell ⟨B,10,none⟩ (.bool true)).cell? ⟨B,12,none⟩ = some (.string r2.deadBy):=cell_blk HA5.out.box 12 rfl
       have f12:(wc.setCell ⟨B,10,none⟩ (.bool true)).frozen? ⟨B,12,none⟩ = false:=heap_frz HA5.out.box 12
       go_wp2_with fail
       refine bodyPost_end (v:=.tuple #[]) ?_ rfl ⟨rfl,_,_,?_,HK4.out.trans ((seek_set hBb _).trans (seek_set hBb _))⟩
       ·simp [results,Tryz.results102,go_sem]
       ·rw [HN.out,HR1.out,HR2.out,HE.out]; exact sr_rep (o:=12) HA5.out (.string by_) { r2 with dead:=true,deadBy:=by_ } rfl
end Go.Proofs.YtmfcpbhdggonfaaGreatDoor
