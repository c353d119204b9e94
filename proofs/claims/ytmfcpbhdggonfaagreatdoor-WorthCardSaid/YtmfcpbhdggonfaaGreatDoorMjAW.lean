/- Contracts of the program's package play: a call. -/
import Derived.Test.YtmfcpbhdggonfaaGreatDoorMjAV
namespace Go.Proofs.YtmfcpbhdggonfaaGreatDoor
open Go.RowKit RR
theorem parsF_step {vs:List Bool} {n:Int} {i:Nat} (h:(i:Int) < n∧i < 3) (d:Nat) (f:Frm):parsF vs n (d + 1) i f = parsF vs n d (i + 1) (f.setP (valAt vs i) i):=by
 rw [parsF,if_pos h]
theorem parsF_out {vs:List Bool} {n:Int} {i:Nat} (h:¬ ((i:Int) < n∧i < 3)) (d:Nat) (f:Frm):parsF vs n d i f = f:=by
 cases d with
 | zero=>rfl
 | succ d=>rw [parsF,if_neg h]
theorem Fr1.of_ge {B G:Nat} {w w':World} (h:Below G w w') (hB:B < G) (hG:w.heap.size ≤ G):Fr1 B w w':=⟨h.mono (Nat.le_of_lt hB),fun k hk _=>h.block k (Nat.lt_of_lt_of_le hk hG)⟩
theorem WK.below_ge {B G:Nat} {p:Plan} {v:PV} {k:Wlk} {w w':World} (h:WK B p v k w) (hb:Below G w w') (hB:B < G):WK B p v k w':=(hb.block B hB).trans h
theorem WbP.of_push {B:Nat} {p:Plan} {v:PV} {k:Wlk} {a:PLine} {vs:List Bool} {fr:Frm} {w w':World} (hfr:fr = parsF vs (procAt p a.proc).params 4 0 ⟨(procAt p a.proc).entry,false,false,false⟩) (hT:TB B (plL p v ++ cfgL k.c) [.int .i64 k.holder] 259 ((pushF k.f fr).getD k.f) w') (hF:Fr1 B w w'):WbP B p v (callF p k a vs) w (.returned (.bool (pushF k.f fr).isSome)) w':=by
 have e:callF p k a vs = (pushF k.f fr).map fun t=>{ k with f:=t }:=by unfold callF; rw [← hfr]
 rw [e]
 refine ⟨by cases pushF k.f fr <;> rfl,fun k' hk=>?_,hF⟩
 cases hq:pushF k.f fr with
 | none=>rw [hq] at hk; cases hk
 | some t =>
  rw [hq] at hk hT
  cases hk
  exact hT
set_option maxRecDepth 100000 in
set_option maxHeartbeats 8000000 in
theorem py_call (B:Nat) (p:Plan) (v:PV) (k:Wlk) (a:PLine) (x:Value) (vs:List Bool) (ao:Option Addr) (cap:Nat) (w0 w:World) (h:WK B p v k w) (hp:PIn w0 p v) (hv:Flat w0 ao (vs.flatMap boL)) (hB:w0.heap.size ≤ B) (hb:Below w0.heap.size w0 w) :
    Calls Tryz.prog 192 #[.pointer (some ⟨B,0,none⟩),.agg (lnL a x).toArray,.slice ao vs.length cap] w fun e w'=>WbP B p v (callF p k a vs) w e w':=by
 have hz:=h.lt
 have HT:=hide h
 have HP:=hide hp
 have HB:=hide hb
 have HV:=hide hv
 clear h hp hb hv
 go_enter Tryz.func192,Tryz.ntmps192
 go_wp2_with (first | (refine wpl_box rfl 204 _ rfl (lnL a x) rfl ?_))
 have HTW:=hide (HT.out.alloc (.cells (lnL a x).toArray 204))
 have HFW:=hide ((Fr1.refl B w).alloc (Nat.le_of_lt hz) (.cells (lnL a x).toArray 204))
 have HPW:Hid (PIn (w.alloc (.cells (lnL a x).toArray 204)) p v):=HP.out.below (HFW.out.below hB HB.out)
 have hcF:(w.alloc (.cells (lnL a x).toArray 204)).cell? ⟨w.heap.size,9,none⟩ = some (.int .i64 a.proc):=cell_blk (heap_alloc_new _ _) 9 rfl
 have hzW:B < (w.alloc (.cells (lnL a x).toArray 204)).heap.size:=by simp; omega
 generalize w.alloc (.cells (lnL a x).toArray 204) = W at *
 generalize w.heap.size = L0 at *
 have hrP:W.rangeAt B 0 (plL p v):=by
  obtain ⟨c0,c1,c2,c3,c4,c5⟩:=HTW.out.plan
  exact rg_six c0 c1 c2 c3 c4 c5
 refine wp_region_held_drew (S:=fun w'=>Below W.heap.size W w') (by kernel_rfl) (Below.refl _ _).drew (fun hHeld=>?_)
 refine wpAnyH_take (i:=0) (v:=?_) rfl (by kernel_rfl) (by kernel_rfl) (by kernel_rfl) (fun _ _ _ h=>h) (Or.inl ⟨by rfl,?_⟩) (by assumption) ?_; rotate_left; focus (intro w' hSw; go_simp; (first | done | with_reducible rfl)); (try simp only [put_laws])
 refine wpAnyH_take (i:=1) (v:=?_) rfl (by kernel_rfl) (by kernel_rfl) (by kernel_rfl) (fun _ _ _ h=>h) (Or.inl ⟨by rfl,?_⟩) (by assumption) ?_; rotate_left; focus (intro w' hSw; go_simp; (first | done | with_reducible rfl)); (try simp only [put_laws])
 refine wpAnyH_take (i:=2) (v:=?_) rfl (by kernel_rfl) (by kernel_rfl) (by kernel_rfl) (fun _ _ _ h=>h) (Or.inl ⟨by rfl,?_⟩) (by assumption) ?_; rotate_left; focus (intro w' hSw; go_simp; (first | done | with_reducible rfl)); (try simp only [put_laws])
 refine wpAnyH_take (i:=3) rfl (by kernel_rfl) (by kernel_rfl) (by kernel_rfl) (fun _ _ _ h=>h) (yieldsIf_load_mid (by rfl) _ _ rfl B 0 rfl (plL p v) _ (fun _ h=>rg_below hrP h) Tryz.underlying123 rfl Tryz.sizeProgram) (by assumption) ?_
 try simp only [put_laws]
 refine wpAnyH_take (i:=4) (v:=?_) rfl (by kernel_rfl) (by kernel_rfl) (by kernel_rfl) (fun _ _ _ h=>h) (Or.inl ⟨by rfl,?_⟩) (by assumption) ?_; rotate_left; focus (intro w' hSw; go_simp; (first | done | with_reducible rfl)); (try simp only [put_laws])
 have hcF':∀ w',Below W.heap.size W w'→w'.cell? ⟨L0,9,none⟩ = some (.int .i64 a.proc):=fun w' h=>cell_below hcF h
 refine wpAnyH_take (i:=5) (v:=?_) rfl (by kernel_rfl) (by kernel_rfl) (by kernel_rfl) (fun _ _ _ h=>h) (Or.inl ⟨by rfl,?_⟩) (by assumption) ?_; rotate_left; focus (intro w' hSw; go_simp; (first | done | with_reducible rfl)); (try simp only [put_laws])
 clear hcF'
 refine wpAnyH_ready (rs:=[6,7]) (by kernel_rfl) (by simp) ?_; refine AllReadyH.cons rfl (fun K hK=>?_) (AllReadyH.cons rfl (fun K hK=>?_) AllReadyH.nil)
 ·go_simp
  refine (pn_Proc p v a.proc _ (HPW.out.below (Below.refl _ _).drew)).mono ?_
  rintro e w3 ⟨rfl,hb3⟩
  have hb3':Below W.heap.size W w3:=(Below.refl _ _).drew.trans hb3
  clear hb3
  refine hK.out _ _ hb3' (fun hHeld=>?_)
  clear hK K
  refine wpAnyH_ready (rs:=[7]) (by kernel_rfl) (by simp) ?_; refine AllReadyH.cons rfl (fun K hK=>?_) AllReadyH.nil
  rw [if_pos (by rfl)]
  refine wpo_alloc 237 rfl [.int .i64 0,.int .i64 0] (by kernel_rfl) ?_
  refine hK.out _ _ (hb3'.alloc hb3'.size _) (fun hHeld=>?_)
  clear hK K
  try simp only [put_laws]
  refine wpAnyH_ready (rs:=[8]) (by kernel_rfl) (by simp) ?_; refine AllReadyH.cons rfl (fun K hK=>?_) AllReadyH.nil
  rw [if_pos (by rfl)]
  refine wpo_store_new 237 _ _ rfl _ _ [.int .i64 (procAt p a.proc).params,.int .i64 (procAt p a.proc).entry] _ rfl rfl rfl (by kernel_rfl) rfl rfl ?_
  refine hK.out _ _ (hb3'.alloc hb3'.size _) (fun hHeld=>?_)
  clear hK K
  try simp only [put_laws]
  refine wpAnyH_done (by kernel_rfl) ?_ _
  have hL:(w3.alloc (.cells ([.int .i64 (procAt p a.proc).params,.int .i64 (procAt p a.proc).entry]:List Value).toArray 237)).heap[w3.heap.size]? = some (.cells ([.int .i64 (procAt p a.proc).params,.int .i64 (procAt p a.proc).entry]:List Value).toArray 237 (0,0)):=heap_alloc_new _ _
  have hb4:=hHeld
  have hFW:W.heap.size ≤ w3.heap.size:=hb3'.size
  clear hHeld hb3'
  generalize w3.alloc (.cells ([.int .i64 (procAt p a.proc).params,.int .i64 (procAt p a.proc).entry]:List Value).toArray 237) = w4 at *
  generalize w3.heap.size = F at *
  have HT4:=hide (HTW.out.below hb4)
  have HF4:=hide (HFW.out.trans (Fr1.of_below hb4 (Nat.le_of_lt hzW)))
  have k0:w4.cell? ⟨F,0,none⟩ = some (.int .i64 (procAt p a.proc).params):=cell_blk hL 0 rfl
  have k1:w4.cell? ⟨F,1,none⟩ = some (.int .i64 (procAt p a.proc).entry):=cell_blk hL 1 rfl
  have hF4:F < w4.heap.size:=(Array.getElem?_eq_some_iff.1 hL).1
  have HL:=hide hL
  have HB4:=hide hb4
  clear hL hb4 hrP hcF
  go_wp2_with fail
  generalize hG0:w4.heap.size = G at *
  have hGB:B < G:=by omega
  go_loopw [9] (fun u wr=>∃ (i:Nat) (fr:Frm),u = .int .i64 i∧i ≤ 3∧parsF vs (procAt p a.proc).params (4 - i) i fr = parsF vs (procAt p a.proc).params 4 0 ⟨(procAt p a.proc).entry,false,false,false⟩∧wr.heap[G]? = some (.cells [.int .i64 fr.line,.bool fr.p0,.bool fr.p1,.bool fr.p2].toArray 134 (0,0))∧Below G w4 wr) (fun u _=>4 - (intOf u).toNat)
  case atStart=>exact ⟨0,⟨(procAt p a.proc).entry,false,false,false⟩,rfl,by omega,rfl,by rw [← hG0]; exact heap_alloc_new _ _,(Below.refl _ _).alloc (by omega) _⟩
  case round =>
   obtain ⟨i,fr,rfl,hi,HE2',hG,hbr⟩:=hrel
   have HE2:=hide HE2'
   clear HE2'
   have q0:wr.cell? ⟨F,0,none⟩ = some (.int .i64 (procAt p a.proc).params):=by rw [← k0]; simp only [World.cell?,hbr.block F hF4]
   by_cases hn:(i:Int) < (procAt p a.proc).params∧i < 3
   ·have HN:=hide hn
    have hn1:=hn.1
    have hn2:=hn.2
    clear hn
    have h3:i = 0 ∨ i = 1 ∨ i = 2:=by omega
    rcases h3 with rfl | rfl | rfl
    ·have c1:wr.cell? ⟨G,1,none⟩ = some (.bool fr.p0):=cell_blk hG 1 rfl
     have fz:wr.frozen? ⟨G,1,none⟩ = false:=by simp [World.frozen?,hG]
     have hv1:=HV.out.below (HB.out.trans ((HF4.out.bel.mono hB).trans (hbr.mono (by omega))))
     have HG:=hide hG
     have HBr:=hide hbr
     clear hG hbr
     go_wp2_with (go_at_call 191; refine (py_valueAt ao cap vs _ _ hv1).mono ?_; rintro e w5 ⟨rfl,rfl⟩)
     go_roundw
     case rel=>exact ⟨1,{ fr with p0:=valAt vs 0 },by go_num,by omega,by rw [← HE2.out]; exact (parsF_step HN.out 3 fr).symm,by first | exact (setOne_heap HG.out 1 _).trans rfl,HBr.out.setCell (p:=⟨G,1,none⟩) (Nat.le_refl _) _⟩
     case measure=>simp [intOf]
    ·have c1:wr.cell? ⟨G,2,none⟩ = some (.bool fr.p1):=cell_blk hG 2 rfl
     have fz:wr.frozen? ⟨G,2,none⟩ = false:=by simp [World.frozen?,hG]
     have hv1:=HV.out.below (HB.out.trans ((HF4.out.bel.mono hB).trans (hbr.mono (by omega))))
     have HG:=hide hG
     have HBr:=hide hbr
     clear hG hbr
     go_wp2_with (go_at_call 191; refine (py_valueAt ao cap vs _ _ hv1).mono ?_; rintro e w5 ⟨rfl,rfl⟩)
     go_roundw
     case rel=>exact ⟨2,{ fr with p1:=valAt vs 1 },by go_num,by omega,by rw [← HE2.out]; exact (parsF_step HN.out 2 fr).symm,by first | exact (setOne_heap HG.out 2 _).trans rfl,HBr.out.setCell (p:=⟨G,2,none⟩) (Nat.le_refl _) _⟩
     case measure=>simp [intOf]
    ·have c1:wr.cell? ⟨G,3,none⟩ = some (.bool fr.p2):=cell_blk hG 3 rfl
     have fz:wr.frozen? ⟨G,3,none⟩ = false:=by simp [World.frozen?,hG]
     have hv1:=HV.out.below (HB.out.trans ((HF4.out.bel.mono hB).trans (hbr.mono (by omega))))
     have HG:=hide hG
     have HBr:=hide hbr
     clear hG hbr
     go_wp2_with (go_at_call 191; refine (py_valueAt ao cap vs _ _ hv1).mono ?_; rintro e w5 ⟨rfl,rfl⟩)
     go_roundw
     case rel=>exact ⟨3,{ fr with p2:=valAt vs 2 },by go_num,by omega,by rw [← HE2.out]; exact (parsF_step HN.out 1 fr).symm,by first | exact (setOne_heap HG.out 3 _).trans rfl,HBr.out.setCell (p:=⟨G,3,none⟩) (Nat.le_refl _) _⟩
     case measure=>simp [intOf]
   ·have HE3:Hid (fr = parsF vs (procAt p a.proc).params 4 0 ⟨(procAt p a.proc).entry,false,false,false⟩):=(parsF_out hn (4 - i) fr).symm.trans HE2.out
    have hcase:¬ (i:Int) < (procAt p a.proc).params ∨ ((i:Int) < (procAt p a.proc).params∧i = 3):=by omega
    have HTr:=hide (WK.below_ge HT4.out hbr hGB)
    have HFr:=hide (HF4.out.trans (Fr1.of_ge hbr hGB (by omega)))
    have HGr:=hide hG
    have hzr:B < wr.heap.size:=HTr.out.lt
    have hne:G ≠ B:=by omega
    clear hbr hG k0 k1 HE2 hn
    rcases hcase with hq | ⟨hq,rfl⟩
    all_goals
     go_wp2_with fail
     refine wp_region_held_drew (S:=fun w'=>w'.heap[G]? = some (.cells [.int .i64 fr.line,.bool fr.p0,.bool fr.p1,.bool fr.p2].toArray 134 (0,0))) (by kernel_rfl) HGr.out (fun hHeld=>?_)
     refine wpAnyH_take (i:=0) (v:=?_) rfl (by kernel_rfl) (by kernel_rfl) (by kernel_rfl) (fun _ _ _ h=>h) (Or.inl ⟨by rfl,?_⟩) (by assumption) ?_; rotate_left; focus (intro w' hSw; go_simp; (first | done | with_reducible rfl)); (try simp only [put_laws])
     refine wpAnyH_take (i:=1) (v:=?_) rfl (by kernel_rfl) (by kernel_rfl) (by kernel_rfl) (fun _ _ _ h=>h) (Or.inl ⟨by rfl,?_⟩) (by assumption) ?_; rotate_left; focus (intro w' hSw; go_simp; (first | done | with_reducible rfl)); (try simp only [put_laws])
     refine wpAnyH_take (i:=2) (v:=?_) rfl (by kernel_rfl) (by kernel_rfl) (by kernel_rfl) (fun _ _ _ h=>h) (Or.inl ⟨by rfl,?_⟩) (by assumption) ?_; rotate_left; focus (intro w' hSw; go_simp; (first | done | with_reducible rfl)); (try simp only [put_laws])
     refine wpAnyH_take (i:=3) rfl (by kernel_rfl) (by kernel_rfl) (by kernel_rfl) (fun _ _ _ h=>h) (yieldsIf_load_mid (by rfl) _ _ rfl G 0 rfl [.int .i64 fr.line,.bool fr.p0,.bool fr.p1,.bool fr.p2] _ (fun _ h=>range_whole h) Tryz.underlying134 rfl (by kernel_rfl)) (by assumption) ?_
     try simp only [put_laws]
     refine wpAnyH_ready (rs:=[4]) (by kernel_rfl) (by simp) ?_; refine AllReadyH.cons rfl (fun K hK=>?_) AllReadyH.nil
     go_simp
     refine (py_push B 64 (plL p v ++ cfgL k.c) [.int .i64 k.holder] 259 k.f fr _ rfl (WK.drew HTr.out)).mono ?_
     rintro e w6 ⟨rfl,hT6,hF6⟩
     have HT6:=hide hT6
     have HF6:=hide ((HFr.out.drew).trans hF6)
     refine hK.out _ _ ((hF6.blk G (Array.getElem?_eq_some_iff.1 HGr.out).1 hne).trans HGr.out) (fun hHeld=>?_)
     clear hK K hT6 hF6
     refine wpAnyH_take (i:=5) (v:=?_) rfl (by kernel_rfl) (by kernel_rfl) (by kernel_rfl) (fun _ _ _ h=>h) (Or.inl ⟨by rfl,?_⟩) (by assumption) ?_; rotate_left; focus (intro w' hSw; go_simp; (first | done | with_reducible rfl)); (try simp only [put_laws])
     refine wpAnyH_done (by kernel_rfl) ?_ _
     clear hHeld
     go_wp2_with fail
     go_ret
     exact WbP.of_push HE3.out HT6.out HF6.out
 ·rw [if_pos (by rfl)]
  refine wpo_alloc 237 rfl [.int .i64 0,.int .i64 0] (by kernel_rfl) ?_
  have hb2:Below W.heap.size W (W.drew.alloc (.cells ([.int .i64 0,.int .i64 0]:List Value).toArray 237)):=(Below.refl _ _).drew.alloc (Nat.le_refl _) _
  refine hK.out _ _ hb2 (fun hHeld=>?_)
  clear hK K
  try simp only [put_laws]
  refine wpAnyH_ready (rs:=[6]) (by kernel_rfl) (by simp) ?_; refine AllReadyH.cons rfl (fun K hK=>?_) AllReadyH.nil
  go_simp
  refine (pn_Proc p v a.proc _ (HPW.out.below hb2)).mono ?_
  rintro e w3 ⟨rfl,hb3⟩
  have hb3':Below W.heap.size W w3:=hb2.trans (hb3.mono hb2.size)
  have hL0:w3.heap[W.heap.size]? = some (.cells ([.int .i64 0,.int .i64 0]:List Value).toArray 237 (0,0)):=(hb3.block _ (by simp)).trans (heap_alloc_new W.drew _)
  clear hb3
  refine hK.out _ _ hb3' (fun hHeld=>?_)
  clear hK K
  refine wpAnyH_ready (rs:=[8]) (by kernel_rfl) (by simp) ?_; refine AllReadyH.cons rfl (fun K hK=>?_) AllReadyH.nil
  rw [if_pos (by rfl)]
  refine wpo_store_box 237 _ _ rfl W.heap.size _ [.int .i64 (procAt p a.proc).params,.int .i64 (procAt p a.proc).entry] _ rfl rfl hL0 (by kernel_rfl) rfl rfl ?_
  refine hK.out _ _ (setRow_below hb3' (Nat.le_refl _)) (fun hHeld=>?_)
  clear hK K
  try simp only [put_laws]
  refine wpAnyH_done (by kernel_rfl) ?_ _
  have hL:(w3.setRow W.heap.size ([.int .i64 (procAt p a.proc).params,.int .i64 (procAt p a.proc).entry]:List Value).toArray).heap[W.heap.size]? = some (.cells ([.int .i64 (procAt p a.proc).params,.int .i64 (procAt p a.proc).entry]:List Value).toArray 237 (0,0)):=setRow_heap hL0
  have hb4:=hHeld
  have hFW:W.heap.size ≤ W.heap.size:=Nat.le_refl _
  clear hHeld hb3' hL0 hb2
  generalize w3.setRow W.heap.size ([.int .i64 (procAt p a.proc).params,.int .i64 (procAt p a.proc).entry]:List Value).toArray = w4 at *
  generalize hF:W.heap.size = F at hL hFW ⊢
  have hFW:W.heap.size ≤ F:=by omega
  have HT4:=hide (HTW.out.below hb4)
  have HF4:=hide (HFW.out.trans (Fr1.of_below hb4 (Nat.le_of_lt hzW)))
  have k0:w4.cell? ⟨F,0,none⟩ = some (.int .i64 (procAt p a.proc).params):=cell_blk hL 0 rfl
  have k1:w4.cell? ⟨F,1,none⟩ = some (.int .i64 (procAt p a.proc).entry):=cell_blk hL 1 rfl
  have hF4:F < w4.heap.size:=(Array.getElem?_eq_some_iff.1 hL).1
  have HL:=hide hL
  have HB4:=hide hb4
  clear hL hb4 hrP hcF
  go_wp2_with fail
  generalize hG0:w4.heap.size = G at *
  have hGB:B < G:=by omega
  go_loopw [9] (fun u wr=>∃ (i:Nat) (fr:Frm),u = .int .i64 i∧i ≤ 3∧parsF vs (procAt p a.proc).params (4 - i) i fr = parsF vs (procAt p a.proc).params 4 0 ⟨(procAt p a.proc).entry,false,false,false⟩∧wr.heap[G]? = some (.cells [.int .i64 fr.line,.bool fr.p0,.bool fr.p1,.bool fr.p2].toArray 134 (0,0))∧Below G w4 wr) (fun u _=>4 - (intOf u).toNat)
  case atStart=>exact ⟨0,⟨(procAt p a.proc).entry,false,false,false⟩,rfl,by omega,rfl,by rw [← hG0]; exact heap_alloc_new _ _,(Below.refl _ _).alloc (by omega) _⟩
  case round =>
   obtain ⟨i,fr,rfl,hi,HE2',hG,hbr⟩:=hrel
   have HE2:=hide HE2'
   clear HE2'
   have q0:wr.cell? ⟨F,0,none⟩ = some (.int .i64 (procAt p a.proc).params):=by rw [← k0]; simp only [World.cell?,hbr.block F hF4]
   by_cases hn:(i:Int) < (procAt p a.proc).params∧i < 3
   ·have HN:=hide hn
    have hn1:=hn.1
    have hn2:=hn.2
    clear hn
    have h3:i = 0 ∨ i = 1 ∨ i = 2:=by omega
    rcases h3 with rfl | rfl | rfl
    ·have c1:wr.cell? ⟨G,1,none⟩ = some (.bool fr.p0):=cell_blk hG 1 rfl
     have fz:wr.frozen? ⟨G,1,none⟩ = false:=by simp [World.frozen?,hG]
     have hv1:=HV.out.below (HB.out.trans ((HF4.out.bel.mono hB).trans (hbr.mono (by omega))))
     have HG:=hide hG
     have HBr:=hide hbr
     clear hG hbr
     go_wp2_with (go_at_call 191; refine (py_valueAt ao cap vs _ _ hv1).mono ?_; rintro e w5 ⟨rfl,rfl⟩)
     go_roundw
     case rel=>exact ⟨1,{ fr with p0:=valAt vs 0 },by go_num,by omega,by rw [← HE2.out]; exact (parsF_step HN.out 3 fr).symm,by first | exact (setOne_heap HG.out 1 _).trans rfl,HBr.out.setCell (p:=⟨G,1,none⟩) (Nat.le_refl _) _⟩
     case measure=>simp [intOf]
    ·have c1:wr.cell? ⟨G,2,none⟩ = some (.bool fr.p1):=cell_blk hG 2 rfl
     have fz:wr.frozen? ⟨G,2,none⟩ = false:=by simp [World.frozen?,hG]
     have hv1:=HV.out.below (HB.out.trans ((HF4.out.bel.mono hB).trans (hbr.mono (by omega))))
     have HG:=hide hG
     have HBr:=hide hbr
     clear hG hbr
     go_wp2_with (go_at_call 191; refine (py_valueAt ao cap vs _ _ hv1).mono ?_; rintro e w5 ⟨rfl,rfl⟩)
     go_roundw
     case rel=>exact ⟨2,{ fr with p1:=valAt vs 1 },by go_num,by omega,by rw [← HE2.out]; exact (parsF_step HN.out 2 fr).symm,by first | exact (setOne_heap HG.out 2 _).trans rfl,HBr.out.setCell (p:=⟨G,2,none⟩) (Nat.le_refl _) _⟩
     case measure=>simp [intOf]
    ·have c1:wr.cell? ⟨G,3,none⟩ = some (.bool fr.p2):=cell_blk hG 3 rfl
     have fz:wr.frozen? ⟨G,3,none⟩ = false:=by simp [World.frozen?,hG]
     have hv1:=HV.out.below (HB.out.trans ((HF4.out.bel.mono hB).trans (hbr.mono (by omega))))
     have HG:=hide hG
     have HBr:=hide hbr
     clear hG hbr
     go_wp2_with (go_at_call 191; refine (py_valueAt ao cap vs _ _ hv1).mono ?_; rintro e w5 ⟨rfl,rfl⟩)
     go_roundw
     case rel=>exact ⟨3,{ fr with p2:=valAt vs 2 },by go_num,by omega,by rw [← HE2.out]; exact (parsF_step HN.out 1 fr).symm,by first | exact (setOne_heap HG.out 3 _).trans rfl,HBr.out.setCell (p:=⟨G,3,none⟩) (Nat.le_refl _) _⟩
     case measure=>simp [intOf]
   ·have HE3:Hid (fr = parsF vs (procAt p a.proc).params 4 0 ⟨(procAt p a.proc).entry,false,false,false⟩):=(parsF_out hn (4 - i) fr).symm.trans HE2.out
    have hcase:¬ (i:Int) < (procAt p a.proc).params ∨ ((i:Int) < (procAt p a.proc).params∧i = 3):=by omega
    have HTr:=hide (WK.below_ge HT4.out hbr hGB)
    have HFr:=hide (HF4.out.trans (Fr1.of_ge hbr hGB (by omega)))
    have HGr:=hide hG
    have hzr:B < wr.heap.size:=HTr.out.lt
    have hne:G ≠ B:=by omega
    clear hbr hG k0 k1 HE2 hn
    rcases hcase with hq | ⟨hq,rfl⟩
    all_goals
     go_wp2_with fail
     refine wp_region_held_drew (S:=fun w'=>w'.heap[G]? = some (.cells [.int .i64 fr.line,.bool fr.p0,.bool fr.p1,.bool fr.p2].toArray 134 (0,0))) (by kernel_rfl) HGr.out (fun hHeld=>?_)
     refine wpAnyH_take (i:=0) (v:=?_) rfl (by kernel_rfl) (by kernel_rfl) (by kernel_rfl) (fun _ _ _ h=>h) (Or.inl ⟨by rfl,?_⟩) (by assumption) ?_; rotate_left; focus (intro w' hSw; go_simp; (first | done | with_reducible rfl)); (try simp only [put_laws])
     refine wpAnyH_take (i:=1) (v:=?_) rfl (by kernel_rfl) (by kernel_rfl) (by kernel_rfl) (fun _ _ _ h=>h) (Or.inl ⟨by rfl,?_⟩) (by assumption) ?_; rotate_left; focus (intro w' hSw; go_simp; (first | done | with_reducible rfl)); (try simp only [put_laws])
     refine wpAnyH_take (i:=2) (v:=?_) rfl (by kernel_rfl) (by kernel_rfl) (by kernel_rfl) (fun _ _ _ h=>h) (Or.inl ⟨by rfl,?_⟩) (by assumption) ?_; rotate_left; focus (intro w' hSw; go_simp; (first | done | with_reducible rfl)); (try simp only [put_laws])
     refine wpAnyH_take (i:=3) rfl (by kernel_rfl) (by kernel_rfl) (by kernel_rfl) (fun _ _ _ h=>h) (yieldsIf_load_mid (by rfl) _ _ rfl G 0 rfl [.int .i64 fr.line,.bool fr.p0,.bool fr.p1,.bool fr.p2] _ (fun _ h=>range_whole h) Tryz.underlying134 rfl (by kernel_rfl)) (by assumption) ?_
     try simp only [put_laws]
     refine wpAnyH_ready (rs:=[4]) (by kernel_rfl) (by simp) ?_; refine AllReadyH.cons rfl (fun K hK=>?_) AllReadyH.nil
     go_simp
     refine (py_push B 64 (plL p v ++ cfgL k.c) [.int .i64 k.holder] 259 k.f fr _ rfl (WK.drew HTr.out)).mono ?_
     rintro e w6 ⟨rfl,hT6,hF6⟩
     have HT6:=hide hT6
     have HF6:=hide ((HFr.out.drew).trans hF6)
     refine hK.out _ _ ((hF6.blk G (Array.getElem?_eq_some_iff.1 HGr.out).1 hne).trans HGr.out) (fun hHeld=>?_)
     clear hK K hT6 hF6
     refine wpAnyH_take (i:=5) (v:=?_) rfl (by kernel_rfl) (by kernel_rfl) (by kernel_rfl) (fun _ _ _ h=>h) (Or.inl ⟨by rfl,?_⟩) (by assumption) ?_; rotate_left; focus (intro w' hSw; go_simp; (first | done | with_reducible rfl)); (try simp only [put_laws])
     refine wpAnyH_done (by kernel_rfl) ?_ _
     clear hHeld
     go_wp2_with fail
     go_ret
     exact WbP.of_push HE3.out HT6.out HF6.out
end Go.Proofs.YtmfcpbhdggonfaaGreatDoor
