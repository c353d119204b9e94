/- Contracts of the program's package search: one step is tried. -/
import Derived.Test.YtmfcpbhdggonfaaGreatDoorMiBQ
namespace Go.Proofs.YtmfcpbhdggonfaaGreatDoor
open Go.RowKit RR
theorem wpo_buildG {P:Program} {o:Oper} {a:Act} {w:World} {K:Act→World→Prop} {Q:Exit→Act→World→Prop} (t:TypeId) (parts:Array (Nat × Operand)) (ho:o.op = .build t parts) (l:List (Nat × Value)) (hl:(parts.map fun (i,x)=>(i,a.eval x)).toList = l) (cs:List Value) (hb:P.built t l = some cs.toArray)
    (h:K (a.put o.dst (.agg cs.toArray)) w):o.wp P a w K Q:=by
 have hy:=yieldsIf_build2 (P:=P) (ops:=#[{ o with guard:=none }]) (S:=fun _=>True) (op:={ o with guard:=none }) (a:=a) rfl t parts ho l hl cs hb
 rcases hy with ⟨_,h2⟩ | ⟨h1,_⟩
 ·have:=h2 w trivial
  unfold Oper.wp
  rw [show (execOp a.eval o).run P w = _ from this]
  exact h
 ·exact absurd h1 (by simp [Region.wanted])
theorem wpl_build {P:Program} {ops:Array Oper} {rest:List Oper} {o:Oper} {a:Act} {w:World} {Q:Exit→Act→World→Prop} (hg:o.guard = none) (t:TypeId) (parts:Array (Nat × Operand)) (ho:o.op = .build t parts) (l:List (Nat × Value)) (hl:(parts.map fun (i,x)=>(i,a.eval x)).toList = l) (cs:List Value) (hb:P.built t l = some cs.toArray)
    (h:wpList P ops Q rest (a.put o.dst (.agg cs.toArray)) w):wpList P ops Q (o :: rest) a w:=wpList_plain hg fun _ hK=>wpo_buildG t parts ho l hl cs hb (hK _ _ h)
theorem wpl_load_want {P:Program} {ops:Array Oper} {rest:List Oper} {op:Oper} {a:Act} {w:World} {Q:Exit→Act→World→Prop} (hw:Region.wanted op (yielded ops a.tmps) = true) (ty:TypeId) (x:Operand) (ho:op.op = .load ty x)
    (b o:Nat) (hx:a.eval x = .pointer (some ⟨b,o,none⟩)) (cs:List Value) (d:TypeDesc) (hc:w.rangeAt b o cs) (hu:P.underlying ty = some d) (hd:d.isRow = true) (hi:(P.info? ty).map (·.size) = some cs.length)
    (h:wpList P ops Q rest (a.put op.dst (.agg cs.toArray)) w):wpList P ops Q (op :: rest) a w:=wpList_step fun K hK=>by rw [if_pos hw]; exact wp_load_mid ty x ho b o hx cs d hc hu hd hi (hK _ _ h)
theorem Tryz.buildPoint (n i:Int) (c:Cfg):Tryz.prog.built 183 [(0,.int .i64 n),(1,.int .i64 i),(2,.agg (cfgL c).toArray)] = some (ptL ⟨n,i,c⟩).toArray:=by kernel_rfl
theorem Tryz.zeroPointB:(Tryz.prog.info? 183).bind (·.zero) = some (.agg (ptL ⟨0,0,zCfg⟩).toArray):=by kernel_rfl
theorem Far.drew {k B:Nat} {vS vF:Value} {w:World} (h:Far k B vS vF w):Far k B vS vF w.drew:=⟨h.lt,h.ne,h.nS,h.nF⟩
theorem SeK.drewL {base B:Nat} {vS vF vS' vF':Value} {w w':World} (h:SeK base B vS vF w.drew vS' vF' w'):SeK base B vS vF w vS' vF' w':=⟨⟨h.bel.os,h.bel.tape,h.bel.output,h.bel.size,h.bel.block⟩,h.blk,h.oS,h.oF⟩
theorem letter_size (i:Int) (ch:Bool):(letterF i ch).size ≤ 1:=by
 unfold letterF
 split <;> (try split) <;> (try split) <;> (try split) <;> decide
def tryN (f:Sg) (i:Int):Int:=if i ≠ f.pt.last then f.pt.ctx + 1 else f.pt.ctx
theorem try_most {p:Plan} {most:Int} {s:Sr} {f:Sg} {i:Int} {ch:Bool} (h:most < tryN f i):tryF p most s f i ch = s:=by unfold tryF; exact if_pos h
theorem try_none {p:Plan} {most:Int} {s:Sr} {f:Sg} {i:Int} {ch:Bool} (h:¬ most < tryN f i) (hn:stepF p f.pt.cfg i ch = none):tryF p most s f i ch = s:=by unfold tryF; rw [hn]; exact if_neg h
theorem try_some {p:Plan} {most:Int} {s:Sr} {f:Sg} {i:Int} {ch:Bool} {c:Cfg} (h:¬ most < tryN f i) (hn:stepF p f.pt.cfg i ch = some c):tryF p most s f i ch = if s.seen.any (ptEq · ⟨tryN f i,i,c⟩) then s else seeP p s ⟨tryN f i,i,c⟩ (f.by_ ++ letterF i ch):=by unfold tryF; rw [hn]; exact if_neg h
def Rel5 (W:World) (r:Option Cfg) (u v:Value) (wx:World):Prop:=∃ G,u = .pointer (some ⟨G,0,none⟩)∧v = .bool r.isSome∧wx.heap[G]? = some (.cells (cfgL (r.getD zCfg)).toArray 140 (0,0))∧W.heap.size ≤ G∧Below W.heap.size W wx
set_option maxRecDepth 100000 in
set_option maxHeartbeats 16000000 in
theorem se_tryStep (base B:Nat) (p:Plan) (v:PV) (most:Int) (vS vF:Value) (s:Sr) (f:Sg) (i:Int) (ch:Bool) (w:World) (hBb:base ≤ B) (h:SrAt B base p v most vS vF s w) (hp:PInB base w p v) (hl:s.seen.length ≤ 5000) (hl2:s.fresh.length ≤ 5000) (hc:-1000 ≤ f.pt.ctx∧f.pt.ctx ≤ 1000) (hby:f.by_.size ≤ 1000) :
    Calls Tryz.prog 189 #[.pointer (some ⟨B,0,none⟩),.agg (sgL f).toArray,.int .i64 i,.bool ch] w fun e w'=>e = .returned (.tuple #[])∧SeeOut base B p v most vS vF (tryF p most s f i ch) w w':=by
 have HP:=hide hp
 have hz:=h.lt
 have hls:=letter_size i ch
 have hbA:Below w.heap.size w (w.alloc (.cells (sgL f).toArray 235)):=(Below.refl _ _).alloc (Nat.le_refl _) _
 have HAT:=hide (h.below hbA)
 have HK:=hide (SeK.of_below (base:=base) (B:=B) (vS:=vS) (vF:=vF) hbA (Nat.le_trans hBb (Nat.le_of_lt hz)))
 have HF1:=hide (h.far (k:=w.heap.size) (Nat.le_refl _) (show w.heap.size < (w.alloc (.cells (sgL f).toArray 235)).heap.size by simp))
 have hX1:(w.alloc (.cells (sgL f).toArray 235)).heap[w.heap.size]? = some (.cells (sgL f).toArray 235 (0,0)):=heap_alloc_new _ _
 clear h hp hbA
 go_enter Tryz.func189,Tryz.ntmps189
 go_upto_region 1 with (first | (refine wpl_box rfl 235 _ rfl (sgL f) rfl ?_))
 generalize w.alloc (.cells (sgL f).toArray 235) = W at *
 have HPI:=hide (HP.out.below HK.out.bel)
 have c0:W.cell? ⟨w.heap.size,0,none⟩ = some (.int .i64 f.pt.ctx):=cell_blk hX1 0 rfl
 have c1:W.cell? ⟨w.heap.size,1,none⟩ = some (.int .i64 f.pt.last):=cell_blk hX1 1 rfl
 have c6:W.cell? ⟨B,6,none⟩ = some (.int .i64 most):=cell_blk HAT.out.box 6 rfl
 have hn:tryN f i = if i ≠ f.pt.last then f.pt.ctx + 1 else f.pt.ctx:=rfl
 go_upto_if 19 with fail
 go_cut [8] (fun u wx=>u = .int .i64 (tryN f i)∧W = wx)
 case first =>
  by_cases hi:i = f.pt.last
  ·have hb:(i != f.pt.last) = false:=by simp [hi]
   have HN:Hid (tryN f i = f.pt.ctx):=by show _ = _; rw [hn,if_neg (by simp [hi])]
   clear hn hi
   go_wp2_with fail
   go_meet
   case rel=>exact ⟨by rw [HN.out],rfl⟩
  ·have hb:(i != f.pt.last) = true:=by simpa using hi
   have HN:Hid (tryN f i = f.pt.ctx + 1):=by show _ = _; rw [hn,if_pos hi]
   clear hn hi
   go_wp2_with fail
   go_meet
   case rel=>exact ⟨by rw [HN.out],rfl⟩
 case rest =>
  obtain ⟨rfl,hW⟩:=hcut
  subst hW
  clear hn c0 c1
  have hnb:-1001 ≤ tryN f i∧tryN f i ≤ 1001:=by unfold tryN; split <;> omega
  by_cases hm:most < tryN f i
  ·have HT:=hide (try_most (p:=p) (s:=s) (ch:=ch) hm)
   generalize tryN f i = n at *
   go_wp2_with fail
   refine bodyPost_ret (results_none Tryz.results189 _ _ _) rfl ⟨rfl,_,_,?_,HK.out⟩
   rw [HT.out]; exact HAT.out
  ·have hm2:tryN f i ≤ most:=by omega
   have HM:=hide hm
   clear hm
   go_upto_region 5 with fail
   have rgP:=sr_plan HAT.out
   have rgC:W.rangeAt w.heap.size 2 (cfgL f.pt.cfg):=range_of_block hX1 fun j y hy=>by
    unfold sgL ptL
    rw [List.append_assoc,List.getElem?_append_right (by simp),List.getElem?_append_left (by have:=(List.getElem?_eq_some_iff.1 hy).1; simpa using this)]
    simpa using hy
   have HR:Hid (∃ r,stepF p f.pt.cfg i ch = r):=⟨_,rfl⟩
   obtain ⟨r,hr⟩:=HR.out
   clear HR
   try simp only [put_laws]
   go_cut [9,10] (fun u v wx=>Rel5 W r u v wx)
   case first =>
    subst hr
    refine wp_region_held_drew (S:=fun w'=>Below W.heap.size W w') (by kernel_rfl) (Below.refl _ _).drew (fun hHeld=>?_)
    refine wpAnyH_take (i:=0) (v:=?_) rfl (by kernel_rfl) (by kernel_rfl) (by kernel_rfl) (fun _ _ _ h=>h) (Or.inl ⟨by rfl,?_⟩) (by assumption) ?_; rotate_left; focus (intro w' hSw; go_simp; (first | done | with_reducible rfl)); (try simp only [put_laws])
    refine wpAnyH_take (i:=1) (v:=?_) rfl (by kernel_rfl) (by kernel_rfl) (by kernel_rfl) (fun _ _ _ h=>h) (Or.inl ⟨by rfl,?_⟩) (by assumption) ?_; rotate_left; focus (intro w' hSw; go_simp; (first | done | with_reducible rfl)); (try simp only [put_laws])
    refine wpAnyH_take (i:=2) (v:=?_) rfl (by kernel_rfl) (by kernel_rfl) (by kernel_rfl) (fun _ _ _ h=>h) (Or.inl ⟨by rfl,?_⟩) (by assumption) ?_; rotate_left; focus (intro w' hSw; go_simp; (first | done | with_reducible rfl)); (try simp only [put_laws])
    refine wpAnyH_take (i:=3) rfl (by kernel_rfl) (by kernel_rfl) (by kernel_rfl) (fun _ _ _ h=>h) (yieldsIf_load_mid (by rfl) _ _ rfl B 0 (by kernel_rfl) (plL p v) _ (fun _ h=>rg_below rgP h) Tryz.underlying123 rfl Tryz.sizeProgram) (by assumption) ?_
    try simp only [put_laws]
    refine wpAnyH_take (i:=4) (v:=?_) rfl (by kernel_rfl) (by kernel_rfl) (by kernel_rfl) (fun _ _ _ h=>h) (Or.inl ⟨by rfl,?_⟩) (by assumption) ?_; rotate_left; focus (intro w' hSw; go_simp; (first | done | with_reducible rfl)); (try simp only [put_laws])
    refine wpAnyH_take (i:=5) (v:=?_) rfl (by kernel_rfl) (by kernel_rfl) (by kernel_rfl) (fun _ _ _ h=>h) (Or.inl ⟨by rfl,?_⟩) (by assumption) ?_; rotate_left; focus (intro w' hSw; go_simp; (first | done | with_reducible rfl)); (try simp only [put_laws])
    refine wpAnyH_take (i:=6) rfl (by kernel_rfl) (by kernel_rfl) (by kernel_rfl) (fun _ _ _ h=>h) (yieldsIf_load_mid (by rfl) _ _ rfl w.heap.size 2 (by kernel_rfl) (cfgL f.pt.cfg) _ (fun _ h=>rg_below rgC h) Tryz.underlying140 rfl Tryz.sizeConfig) (by assumption) ?_
    try simp only [put_laws]
    refine wpAnyH_take (i:=7) (v:=?_) rfl (by kernel_rfl) (by kernel_rfl) (by kernel_rfl) (fun _ _ _ h=>h) (Or.inl ⟨by rfl,?_⟩) (by assumption) ?_; rotate_left; focus (intro w' hSw; go_simp; (first | done | with_reducible rfl)); (try simp only [put_laws])
    refine wpAnyH_take (i:=8) (v:=?_) rfl (by kernel_rfl) (by kernel_rfl) (by kernel_rfl) (fun _ _ _ h=>h) (Or.inl ⟨by rfl,?_⟩) (by assumption) ?_; rotate_left; focus (intro w' hSw; go_simp; (first | done | with_reducible rfl)); (try simp only [put_laws])
    refine wpAnyH_ready (rs:=[9,13]) (by kernel_rfl) (by simp) ?_; refine AllReadyH.cons rfl (fun K hK=>?_) (AllReadyH.cons rfl (fun K hK=>?_) AllReadyH.nil)
    ·go_simp
     refine (py_Step p v f.pt.cfg i ch _ (HPI.out.in_.below (Below.refl _ _).drew)).mono ?_
     rintro e w3 ⟨rfl,hb3⟩
     have hb3':Below W.heap.size W w3:=(Below.refl _ _).drew.trans hb3
     clear hb3
     refine hK.out _ _ hb3' (fun hHeld=>?_)
     clear hK K
     try simp only [put_laws]
     refine wpAnyH_take (i:=10) (v:=?_) rfl (by kernel_rfl) (by kernel_rfl) (by kernel_rfl) (fun _ _ _ h=>h) (Or.inl ⟨by rfl,?_⟩) (by assumption) ?_; rotate_left; focus (intro w' hSw; go_simp; (first | done | with_reducible rfl)); (try simp only [put_laws])
     refine wpAnyH_take (i:=11) (v:=?_) rfl (by kernel_rfl) (by kernel_rfl) (by kernel_rfl) (fun _ _ _ h=>h) (Or.inl ⟨by rfl,?_⟩) (by assumption) ?_; rotate_left; focus (intro w' hSw; go_simp; (first | done | with_reducible rfl)); (try simp only [put_laws])
     refine wpAnyH_take (i:=12) (v:=?_) rfl (by kernel_rfl) (by kernel_rfl) (by kernel_rfl) (fun _ _ _ h=>h) (Or.inl ⟨by rfl,?_⟩) (by assumption) ?_; rotate_left; focus (intro w' hSw; go_simp; (first | done | with_reducible rfl)); (try simp only [put_laws])
     refine wpAnyH_ready (rs:=[13]) (by kernel_rfl) (by simp) ?_; refine AllReadyH.cons rfl (fun K hK=>?_) AllReadyH.nil
     rw [if_pos (by rfl)]
     refine wpo_alloc 140 rfl (cfgL zCfg) Tryz.zeroConfig ?_
     refine hK.out _ _ (hb3'.alloc hb3'.size _) (fun hHeld=>?_)
     clear hK K
     try simp only [put_laws]
     refine wpAnyH_ready (rs:=[14]) (by kernel_rfl) (by simp) ?_; refine AllReadyH.cons rfl (fun K hK=>?_) AllReadyH.nil
     rw [if_pos (by rfl)]
     refine wpo_store_new 140 _ _ rfl _ _ (cfgL ((stepF p f.pt.cfg i ch).getD zCfg)) _ (by kernel_rfl) (by kernel_rfl) rfl Tryz.sizeConfig rfl (one_cfg _) ?_
     refine hK.out _ _ (hb3'.alloc hb3'.size _) (fun hHeld=>?_)
     clear hK K
     try simp only [put_laws]
     refine wpAnyH_take (i:=15) (v:=?_) rfl (by kernel_rfl) (by kernel_rfl) (by kernel_rfl) (fun _ _ _ h=>h) (Or.inl ⟨by rfl,?_⟩) (by assumption) ?_; rotate_left; focus (intro w' hSw; go_simp; (first | done | with_reducible rfl)); (try simp only [put_laws])
     refine wpAnyH_done (by kernel_rfl) ?_ _
     go_step
     go_step
     go_meet
     case rel=>exact ⟨w3.heap.size,rfl,rfl,heap_alloc_new _ _,hb3'.size,hHeld⟩
    ·rw [if_pos (by rfl)]
     refine wpo_alloc 140 rfl (cfgL zCfg) Tryz.zeroConfig ?_
     have hb2:Below W.heap.size W (W.drew.alloc (.cells (cfgL zCfg).toArray 140)):=(Below.refl _ _).drew.alloc (Nat.le_refl _) _
     refine hK.out _ _ hb2 (fun hHeld=>?_)
     clear hK K
     try simp only [put_laws]
     refine wpAnyH_ready (rs:=[9]) (by kernel_rfl) (by simp) ?_; refine AllReadyH.cons rfl (fun K hK=>?_) AllReadyH.nil
     go_simp
     refine (py_Step p v f.pt.cfg i ch _ (HPI.out.in_.below hb2)).mono ?_
     rintro e w3 ⟨rfl,hb3⟩
     have hb3':Below W.heap.size W w3:=hb2.trans (hb3.mono hb2.size)
     have hL0:w3.heap[W.heap.size]? = some (.cells (cfgL zCfg).toArray 140 (0,0)):=(hb3.block _ (by simp)).trans (heap_alloc_new W.drew _)
     clear hb3
     refine hK.out _ _ hb3' (fun hHeld=>?_)
     clear hK K
     try simp only [put_laws]
     refine wpAnyH_take (i:=10) (v:=?_) rfl (by kernel_rfl) (by kernel_rfl) (by kernel_rfl) (fun _ _ _ h=>h) (Or.inl ⟨by rfl,?_⟩) (by assumption) ?_; rotate_left; focus (intro w' hSw; go_simp; (first | done | with_reducible rfl)); (try simp only [put_laws])
     refine wpAnyH_take (i:=11) (v:=?_) rfl (by kernel_rfl) (by kernel_rfl) (by kernel_rfl) (fun _ _ _ h=>h) (Or.inl ⟨by rfl,?_⟩) (by assumption) ?_; rotate_left; focus (intro w' hSw; go_simp; (first | done | with_reducible rfl)); (try simp only [put_laws])
     refine wpAnyH_take (i:=12) (v:=?_) rfl (by kernel_rfl) (by kernel_rfl) (by kernel_rfl) (fun _ _ _ h=>h) (Or.inl ⟨by rfl,?_⟩) (by assumption) ?_; rotate_left; focus (intro w' hSw; go_simp; (first | done | with_reducible rfl)); (try simp only [put_laws])
     refine wpAnyH_ready (rs:=[14]) (by kernel_rfl) (by simp) ?_; refine AllReadyH.cons rfl (fun K hK=>?_) AllReadyH.nil
     rw [if_pos (by rfl)]
     refine wpo_store_box 140 _ _ rfl W.heap.size _ (cfgL ((stepF p f.pt.cfg i ch).getD zCfg)) _ (by kernel_rfl) (by kernel_rfl) hL0 Tryz.sizeConfig rfl (one_cfg _) ?_
     refine hK.out _ _ (setRow_below hb3' (Nat.le_refl _)) (fun hHeld=>?_)
     clear hK K
     try simp only [put_laws]
     refine wpAnyH_take (i:=15) (v:=?_) rfl (by kernel_rfl) (by kernel_rfl) (by kernel_rfl) (fun _ _ _ h=>h) (Or.inl ⟨by rfl,?_⟩) (by assumption) ?_; rotate_left; focus (intro w' hSw; go_simp; (first | done | with_reducible rfl)); (try simp only [put_laws])
     refine wpAnyH_done (by kernel_rfl) ?_ _
     go_step
     go_step
     go_meet
     case rel=>exact ⟨W.heap.size,rfl,rfl,setRow_heap hL0,Nat.le_refl _,hHeld⟩
   case rest =>
    obtain ⟨G,rfl,rfl,hG,hGW,hbG⟩:=hcut
    have HAT2:=hide (HAT.out.below hbG)
    have hk2:=SeK.of_below (base:=base) (B:=B) (vS:=vS) (vF:=vF) hbG (Nat.le_trans hBb (Nat.le_of_lt HAT.out.lt))
    have HK2:=hide (HK.out.trans hk2)
    have hX12:=(hk2.same HF1.out).trans hX1
    have HF12:=hide (hk2.far HF1.out)
    have HTN:=hide (fun hq:r = none=>try_none (p:=p) (s:=s) HM.out (hr.trans hq))
    have HTS:=hide (fun (c:Cfg) (hq:r = some c)=>try_some (p:=p) (s:=s) HM.out (hr.trans hq))
    clear hr hbG hk2 HAT HK HF1 hX1 rgP rgC HPI c6 hm2 HM
    generalize tryN f i = n at *
    have hcc:∃ c,r.getD zCfg = c:=⟨_,rfl⟩
    obtain ⟨c,hcc⟩:=hcc
    rw [hcc] at hG
    have HCC:=hide hcc
    clear hcc
    go_upto_region 7 with (first | (refine wpList_load_mid rfl 140 _ rfl G 0 rfl (cfgL c) _ (range_whole hG) Tryz.underlying140 rfl Tryz.sizeConfig ?_) | (refine wpl_build rfl 183 _ rfl [(0,.int .i64 n),(1,.int .i64 i),(2,.agg (cfgL c).toArray)] (by go_simp) (ptL ⟨n,i,c⟩) (Tryz.buildPoint n i c) ?_) | (refine wpl_alloc rfl 183 rfl (ptL ⟨0,0,zCfg⟩) Tryz.zeroPointB ?_) | (refine wpl_store_new rfl 183 _ _ rfl _ _ (ptL ⟨n,i,c⟩) _ rfl rfl (by simp) Tryz.sizePoint rfl (one_pt _) ?_))
    have hb3:Below wc.heap.size wc (wc.alloc (.cells (ptL ⟨n,i,c⟩).toArray 183)):=(Below.refl _ _).alloc (Nat.le_refl _) _
    have hXP:(wc.alloc (.cells (ptL ⟨n,i,c⟩).toArray 183)).heap[wc.heap.size]? = some (.cells (ptL ⟨n,i,c⟩).toArray 183 (0,0)):=heap_alloc_new _ _
    have HFP:=hide (HAT2.out.far (k:=wc.heap.size) (Nat.le_refl _) (show wc.heap.size < (wc.alloc (.cells (ptL ⟨n,i,c⟩).toArray 183)).heap.size by simp))
    have HAT:=hide (HAT2.out.below hb3)
    have hk3:=SeK.of_below (base:=base) (B:=B) (vS:=vS) (vF:=vF) hb3 (Nat.le_trans hBb (Nat.le_of_lt HAT2.out.lt))
    have HK:=hide (HK2.out.trans hk3)
    have hX1:=(hk3.same HF12.out).trans hX12
    have HF1:=hide (hk3.far HF12.out)
    clear hb3 hk3 HAT2 HK2 hX12 HF12 hG hGW
    generalize wc.alloc (.cells (ptL ⟨n,i,c⟩).toArray 183) = W3 at *
    generalize wc.heap.size = XP at *
    cases r with
    | none =>
     have HT:=hide (HTN.out rfl)
     clear HTN HTS
     go_wp2_with fail
     refine bodyPost_ret (results_none Tryz.results189 _ _ _) rfl ⟨rfl,_,_,?_,HK.out⟩
     rw [HT.out]; exact HAT.out
    | some c2 =>
     have hq:c2 = c:=HCC.out
     subst hq
     have HT:=hide (HTS.out _ rfl)
     clear HTN HTS HCC
     generalize hy:(⟨n,i,c2⟩:Pt) = y at *
     obtain ⟨ao,cap,hv,hfl⟩:=flat_of_owns HAT.out.seen
     have HFL:=hide hfl
     have c7:W3.cell? ⟨B,7,none⟩ = some (.slice ao s.seen.length cap):=by rw [← hv]; exact cell_blk HAT.out.box 7 rfl
     clear hfl hv hy
     have rgY:=range_whole hXP
     go_wp2_with (first | (refine wpl_load_want (by kernel_rfl) 183 _ rfl XP 0 rfl (ptL y) _ rgY Tryz.underlying183 rfl Tryz.sizePoint ?_))
     refine (se_hasSeen B y s.seen ao cap W3 c7 (by omega) HFL.out).mono ?_
     rintro e W4 ⟨rfl,hb4⟩
     have HAT4:=hide (HAT.out.below hb4)
     have hk4:=SeK.of_below (base:=base) (B:=B) (vS:=vS) (vF:=vF) hb4 (Nat.le_trans hBb (Nat.le_of_lt HAT.out.lt))
     have HK4:=hide (HK.out.trans hk4)
     have hX14:=(hk4.same HF1.out).trans hX1
     have HF14:=hide (hk4.far HF1.out)
     have hXP4:=(hk4.same HFP.out).trans hXP
     have HFP4:=hide (hk4.far HFP.out)
     have HPI:=hide (HP.out.below HK4.out.bel)
     clear c7 HFL rgY HAT HK hX1 HF1 hXP HFP hk4 hb4
     generalize s.seen.any (fun q=>ptEq q y) = b at *
     cases b
     ·have HT2:Hid (tryF p most s f i ch = seeP p s y (f.by_ ++ letterF i ch)):=HT.out
      clear HT
      go_upto_region 8 with fail
      try simp only [put_laws]
      refine wp_region_held_drew (S:=fun w'=>w'.heap[XP]? = some (.cells (ptL y).toArray 183 (0,0))∧w'.heap[w.heap.size]? = some (.cells (sgL f).toArray 235 (0,0))) (by kernel_rfl) ⟨hXP4,hX14⟩ (fun hHeld=>?_)
      refine wpAnyH_take (i:=0) (v:=?_) rfl (by kernel_rfl) (by kernel_rfl) (by kernel_rfl) (fun _ _ _ h=>h) (Or.inl ⟨by rfl,?_⟩) (by assumption) ?_; rotate_left; focus (intro w' hSw; go_simp; (first | done | with_reducible rfl)); (try simp only [put_laws])
      refine wpAnyH_take (i:=1) rfl (by kernel_rfl) (by kernel_rfl) (by kernel_rfl) (fun _ _ _ h=>h) (yieldsIf_load_mid (by rfl) _ _ rfl XP 0 (by kernel_rfl) (ptL y) _ (fun _ h=>range_whole h.1) Tryz.underlying183 rfl Tryz.sizePoint) (by assumption) ?_
      try simp only [put_laws]
      refine wpAnyH_take (i:=2) (v:=?_) rfl (by kernel_rfl) (by kernel_rfl) (by kernel_rfl) (fun _ _ _ h=>h) (Or.inl ⟨by rfl,?_⟩) (by assumption) ?_; rotate_left; focus (intro w' hSw; go_simp; (first | done | with_reducible rfl)); (try simp only [put_laws])
      refine wpAnyH_take (i:=3) (v:=.string f.by_) rfl (by kernel_rfl) (by kernel_rfl) (by kernel_rfl) (fun _ _ _ h=>h) (Or.inl ⟨by rfl,?_⟩) (by assumption) ?_
      ·intro w' hSw
       have hc:w'.cell? ⟨w.heap.size,60,none⟩ = some (.string f.by_):=cell_blk hSw.2 60 rfl
       clear hSw
       go_simp
      try simp only [put_laws]
      refine wpAnyH_take (i:=4) (v:=?_) rfl (by kernel_rfl) (by kernel_rfl) (by kernel_rfl) (fun _ _ _ h=>h) (Or.inl ⟨by rfl,?_⟩) (by assumption) ?_; rotate_left; focus (intro w' hSw; go_simp; (first | done | with_reducible rfl)); (try simp only [put_laws])
      refine wpAnyH_take (i:=5) (v:=?_) rfl (by kernel_rfl) (by kernel_rfl) (by kernel_rfl) (fun _ _ _ h=>h) (Or.inl ⟨by rfl,?_⟩) (by assumption) ?_; rotate_left; focus (intro w' hSw; go_simp; (first | done | with_reducible rfl)); (try simp only [put_laws])
      refine wpAnyH_ready (rs:=[6]) (by kernel_rfl) (by simp) ?_; refine AllReadyH.cons rfl (fun K hK=>?_) AllReadyH.nil
      go_simp
      refine (st_Letter i ch _).mono ?_
      rintro e w' ⟨rfl,rfl⟩
      refine hK.out _ _ hHeld (fun hHeld=>?_)
      clear hK K
      try simp only [put_laws]
      have hsum:¬ 9223372036854775807 < f.by_.size + (letterF i ch).size:=by omega
      refine wpAnyH_take (i:=7) (v:=?_) rfl (by kernel_rfl) (by kernel_rfl) (by kernel_rfl) (fun _ _ _ h=>h) (Or.inl ⟨by rfl,?_⟩) (by assumption) ?_; rotate_left; focus (intro w' hSw; go_simp; (first | done | with_reducible rfl)); (try simp only [put_laws])
      refine wpAnyH_ready (rs:=[8]) (by kernel_rfl) (by simp) ?_; refine AllReadyH.cons rfl (fun K hK=>?_) AllReadyH.nil
      go_simp
      refine (se_see base B p v most vS vF s y (f.by_ ++ letterF i ch) _ hBb (HAT4.out.below (Below.refl _ _).drew) (HPI.out.below (Below.refl _ _).drew) (by omega) (by omega)).mono ?_
      rintro e w9 ⟨rfl,vS',vF',hA9,hK9⟩
      refine hK.out _ _ ⟨(hK9.same HFP4.out.drew).trans hXP4,(hK9.same HF14.out.drew).trans hX14⟩ (fun hHeld=>?_)
      clear hK K
      refine wpAnyH_done (by kernel_rfl) ?_ _
      clear hHeld
      have HA9:=hide hA9
      have HK9:=hide (HK4.out.trans (SeK.drewL hK9))
      clear hA9 hK9
      go_wp2_with fail
      go_end0
      exact ⟨rfl,_,_,by rw [HT2.out]; exact HA9.out,HK9.out⟩
     ·have HT2:Hid (tryF p most s f i ch = s):=HT.out
      clear HT
      go_wp2_with fail
      refine bodyPost_ret (results_none Tryz.results189 _ _ _) rfl ⟨rfl,_,_,?_,HK4.out⟩
      rw [HT2.out]; exact HAT4.out
end Go.Proofs.YtmfcpbhdggonfaaGreatDoor
