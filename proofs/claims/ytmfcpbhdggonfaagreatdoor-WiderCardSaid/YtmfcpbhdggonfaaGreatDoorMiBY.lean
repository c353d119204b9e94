/- Proved: for all texts and numbers Wider answers true and leaves what it was given as it was, by the tied card. No condition. -/
import Derived.Test.YtmfcpbhdggonfaaGreatDoorMiBW
import Derived.Test.YtmfcpbhdggonfaaGreatDoorMiBX
import Derived.LaidSub
namespace Go.Proofs.YtmfcpbhdggonfaaGreatDoor
open Go.ChangeShapes Go.WideShapes Go.ChangeAt Go.RowKit Go.Deep
theorem seatOwn:ownKnob Tryz.prog.godebug = none:=by kernel_rfl
theorem seatLaidOut:laidOutB Tryz.prog = true:=by kernel_rfl
theorem door_met (os:Os) (args:Array Value):laidMetH Tryz.prog Rows.widerRow.laid ((World.doorLaid Tryz.prog 400 os).forCall (fun _ _=>0) ⟨#[],args,[]⟩).memory :=
 laidMetH_of_parts3 (fuel:=8) (laidMet_of_run' 8 (by kernel_rfl) (by kernel_rfl)) (by kernel_rfl) (by kernel_rfl)
theorem tab_of {W:World} (h:laidMetH Tryz.prog Rows.widerRow.laid W):TabOk W:=by
 have h2:=(laidMetH_iff.1 (h.filter (fun x=>x.1 == "internal/strconv.uint64pow10"))).1
 have e:((Rows.widerRow.laid.filter fun x=>x.1 == "internal/strconv.uint64pow10").filter fun x=>x.2.handleName?.isNone) = [("internal/strconv.uint64pow10",Lib.tabData .u64 Lib.pow10Tab)]:=by kernel_rfl
 rw [e] at h2
 exact Lib.tabIs_of_head (g:=0) (t:=270) (e:=213) (n:=20) (by kernel_rfl) (by kernel_rfl) (by kernel_rfl) (by kernel_rfl) (by kernel_rfl) (by kernel_rfl) h2
set_option maxRecDepth 100000 in
theorem wider_lifted (os:Os) (started:os.Started) (H:Type) (enc:TypeId × Value→H) :
    ReturnsInHanded {} Tryz.checked os 12 .any (fun w args=>(Rows.widerSpec.pre enc Tryz.prog Tryz.f12 [] false w args∧laidMetH Tryz.prog Rows.widerRow.laid w)∧sizedMet enc Tryz.prog Tryz.f12 (OpenSpec.ofChange Rows.widerSpec) false w args)
     (Rows.widerSpec.post enc Tryz.prog Tryz.f12 false true false false):=by
 refine returnsInHanded_of_change_and (C:=Tryz.checked) (X:=fun w _=>laidMetH Tryz.prog Rows.widerRow.laid w) (fun _ _ _ hh h=>h.of_heap hh) seatOwn started (by kernel_rfl) Tryz.func12
  (ChangeSpec.witness_shaped (enc:=enc) (C:=Tryz.checked) (os:=os) (X:=fun w _=>laidMetH Tryz.prog Rows.widerRow.laid w) false (World.doorLaid Tryz.prog 400 os) #[.string ⟨#[]⟩,.int .i64 0,.int .i64 0] 8 rfl (World.shaped_of_RefB (by kernel_rfl) (by kernel_rfl)) (by kernel_rfl) (by kernel_rfl) (by kernel_rfl) (door_met os _)) ?_
 intro W base args ds gs before hval0 hW _ _ hlaid _
 have hval:∀ (j:Nat) t v,Tryz.f12.params[j]? = some t→args[j]? = some v→Value.okWide Tryz.prog W .any base t v:=hval0
 have hW':=hW
 obtain ⟨p,q,hA0,hV,rfl,hfz,hnd⟩:=hW
 have hA:DataW.TrodAll enc Tryz.prog W 0 (fun _=>true) true Tryz.f12.params.toList args.toList ds p:=hA0
 rw [Tryz.params12] at hA hval
 obtain ⟨v0,v1,v2,d0,d1,d2,p0,p1,p2,rfl,rfl,rfl,h0,h1,h2⟩:=trodAll_three hA
 obtain ⟨rfl,rfl⟩:=trodVars_none hV
 clear hA0 hval0
 simp only [List.append_nil] at hW'
 have hlt:∀ x ∈ p0 ++ p1 ++ p2,x.block < W.heap.size:=fun x hx=>by simpa using hW'.lt x (by simpa using hx)
 have hargs:∀ (W':World),Below W.heap.size W W'→DataW.Trod enc Tryz.prog W' 0 (fun b=>decide (b < W.heap.size)) true 9 v0 d0 p0∧DataW.Trod enc Tryz.prog W' 0 (fun b=>decide (b < W.heap.size)) true 3 v1 d1 p1∧DataW.Trod enc Tryz.prog W' 0 (fun b=>decide (b < W.heap.size)) true 3 v2 d2 p2 :=
  fun W' hn=>⟨Below.trod seatLaidOut (by kernel_rfl) (of_decide_eq_true (by kernel_rfl)) h0 hn (fun x hx=>hlt x (by simp [hx])),Below.trod seatLaidOut (by kernel_rfl) (of_decide_eq_true (by kernel_rfl)) h1 hn (fun x hx=>hlt x (by simp [hx])),Below.trod seatLaidOut (by kernel_rfl) (of_decide_eq_true (by kernel_rfl)) h2 hn (fun x hx=>hlt x (by simp [hx]))⟩
 obtain ⟨s0,rfl,rfl,rfl,hw0⟩:=Go.ChangeMaps.open_string Tryz.underlying9 (hval 0 9 v0 rfl rfl) h0
 obtain ⟨s1,rfl,rfl,rfl,hw1⟩:=open_int Tryz.underlying3 (hval 1 3 v1 rfl rfl) h1
 obtain ⟨s2,rfl,rfl,rfl,hw2⟩:=open_int Tryz.underlying3 (hval 2 3 v2 rfl rfl) h2
 have e1:IntKind.i64.min = -9223372036854775808:=by kernel_rfl
 have e2:IntKind.i64.max = 9223372036854775807:=by kernel_rfl
 have hz0:s0.size ≤ 9223372036854775807:=by unfold maxLen at hw0; exact hw0
 have hz1:-9223372036854775808 ≤ s1∧s1 ≤ 9223372036854775807:=by
  have h2:=hw1
  simp [Lit.wf] at h2
  omega
 have hz2:-9223372036854775808 ≤ s2∧s2 ≤ 9223372036854775807:=by
  have h2:=hw2
  simp [Lit.wf] at h2
  omega
 refine (k_Wider_all s0 s1 s2 hz0 hz1 hz2 W (tab_of hlaid)).mono fun e W' ⟨he,hb⟩=>?_
 subst he
 refine ⟨_,rfl,_,_,_,[],[] ++ [] ++ [],[],hW',?_,?_,rfl,hb.frame _,fun h=>by cases h⟩
 ·exact trodAll_mk1 (shut_bool Tryz.underlying4 _)
 ·exact trodAll_mk3 (hargs _ hb).1 (hargs _ hb).2.1 (hargs _ hb).2.2
theorem wider_row:Rows.WiderSaid :=
 OpenClaim.holds_of_wide 12 Tryz.f12 rfl rfl rfl rfl rfl rfl rfl ⟨rfl,rfl,rfl,rfl,rfl⟩ rfl rfl rfl rfl rfl (by as_aux_lemma=>kernel_rfl) Tryz.func12 wider_facts
  (of_decide_eq_true (by kernel_rfl)) (by unfold Func.isWrapper; first | (rw [if_pos (by decide +kernel)]; kernel_rfl) | (rw [if_neg (by decide +kernel)]; exact ⟨rfl,rfl⟩))
  (fun os started H enc _=>wider_lifted os started H enc)
theorem wider_card:Rows.WiderCardSaid :=
 Claim7.holds_tied_plain_at .later [] [.data,.data,.data] true Rows.widerCard.stood.harness false
  wider_row (fun _ h=>by cases h) (by kernel_rfl) (fun _ h=>by cases h) wider_row_tie rfl ⟨rfl,rfl⟩ (by kernel_rfl) rfl
  (fun f fn hf hfn=>by
   obtain rfl:f = 12:=Option.some.inj ((show Tryz.prog.funcNamed "races/raceskeep.Wider" = some 12 by kernel_rfl).symm.trans hf) |>.symm
   obtain rfl:fn = Tryz.f12:=(Option.some.inj (Tryz.func12.symm.trans hfn)).symm
   exact ⟨by kernel_rfl,fun j t ht=>by
    rw [Tryz.params12] at ht
    have hm:t ∈ [9,3,3]:=by simpa using Array.mem_of_getElem? ht
    have hall:(([9,3,3]:List TypeId).all fun u=>!Tryz.prog.wantsStandIn u) = true:=by kernel_rfl
    exact (show Tryz.prog.wantsStandIn t = false by simpa using List.all_eq_true.1 hall t hm)⟩)
  (by kernel_rfl)
end Go.Proofs.YtmfcpbhdggonfaaGreatDoor
