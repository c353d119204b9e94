/- Contracts of the program's package search: all steps behind a point. -/
import Derived.Test.YtmfcpbhdggonfaaGreatDoorMgBI
namespace Go.Proofs.YtmfcpbhdggonfaaGreatDoor
open Go.RowKit RR

theorem seeP_len (p : Plan) (s : Sr) (x : Pt) (b : ByteArray) : (seeP p s x b).seen.length = s.seen.length + 1 ∧ (seeP p s x b).fresh.length = s.fresh.length + 1 := by
  rw [seeP_eq]; simp
theorem tryF_len (p : Plan) (most : Int) (s : Sr) (f : Sg) (i : Int) (ch : Bool) : (tryF p most s f i ch).seen.length ≤ s.seen.length + 1 ∧ (tryF p most s f i ch).fresh.length ≤ s.fresh.length + 1 := by
  by_cases h : most < tryN f i
  · rw [try_most h]; omega
  · cases hn : stepF p f.pt.cfg i ch with
    | none => rw [try_none h hn]; omega
    | some c =>
      rw [try_some h hn]
      split
      · omega
      · have := seeP_len p s ⟨tryN f i, i, c⟩ (f.by_ ++ letterF i ch)
        omega
theorem tryF_same (p : Plan) (most : Int) (s : Sr) (f : Sg) (i : Int) (ch : Bool) : (tryF p most s f i ch).seen.length + s.fresh.length = (tryF p most s f i ch).fresh.length + s.seen.length := by
  by_cases h : most < tryN f i
  · rw [try_most h]; omega
  · cases hn : stepF p f.pt.cfg i ch with
    | none => rw [try_none h hn]; omega
    | some c =>
      rw [try_some h hn]
      split
      · omega
      · have := seeP_len p s ⟨tryN f i, i, c⟩ (f.by_ ++ letterF i ch)
        omega
/-- The sightings are small. -/
def OkS (m : Nat) (l : List Sg) : Prop := ∀ f ∈ l, (0 ≤ f.pt.ctx ∧ f.pt.ctx ≤ 100) ∧ f.by_.size ≤ m
theorem OkS.tryF {p : Plan} {most : Int} {s : Sr} {f : Sg} {i : Int} {ch : Bool} {m : Nat} (h : OkS (m + 1) s.fresh) (hm : most ≤ 100) (hf : (0 ≤ f.pt.ctx ∧ f.pt.ctx ≤ 100) ∧ f.by_.size ≤ m) : OkS (m + 1) (tryF p most s f i ch).fresh := by
  by_cases h1 : most < tryN f i
  · rw [try_most h1]; exact h
  · cases hn : stepF p f.pt.cfg i ch with
    | none => rw [try_none h1 hn]; exact h
    | some c =>
      rw [try_some h1 hn]
      split
      · exact h
      · rw [seeP_eq]
        intro g hg
        rcases List.mem_append.1 hg with hg | hg
        · exact h g hg
        · rw [List.mem_singleton] at hg
          subst hg
          refine ⟨⟨?_, Int.le_trans (Int.not_lt.1 h1) hm⟩, ?_⟩
          · show 0 ≤ tryN f i
            unfold tryN; split <;> omega
          · show (f.by_ ++ letterF i ch).size ≤ m + 1
            rw [ByteArray.size_append]
            have := letter_size i ch
            omega
/-- Behind so many threads. -/
def behK (p : Plan) (most : Int) (s : Sr) (f : Sg) : Nat → Sr
  | 0 => s
  | k + 1 => tryF p most (tryF p most (behK p most s f k) f k false) f k true
theorem behK_three (p : Plan) (most : Int) (s : Sr) (f : Sg) : behK p most s f 3 = behindP p most s f := rfl
theorem behK_len (p : Plan) (most : Int) (s : Sr) (f : Sg) : ∀ k, (behK p most s f k).seen.length ≤ s.seen.length + 2 * k ∧ (behK p most s f k).fresh.length ≤ s.fresh.length + 2 * k
  | 0 => by simp [behK]
  | k + 1 => by
    have h1 := behK_len p most s f k
    have h2 := tryF_len p most (behK p most s f k) f k false
    have h3 := tryF_len p most (tryF p most (behK p most s f k) f k false) f k true
    unfold behK
    omega

theorem beh_same (p : Plan) (most : Int) (s : Sr) (f : Sg) : (behindP p most s f).seen.length + s.fresh.length = (behindP p most s f).fresh.length + s.seen.length := by
  have key : ∀ k, (behK p most s f k).seen.length + s.fresh.length = (behK p most s f k).fresh.length + s.seen.length := by
    intro k
    induction k with
    | zero => simp [behK]; omega
    | succ k ih =>
      have h2 := tryF_same p most (behK p most s f k) f k false
      have h3 := tryF_same p most (tryF p most (behK p most s f k) f k false) f k true
      unfold behK
      omega
  rw [← behK_three]; exact key 3
theorem OkS.beh {p : Plan} {most : Int} {s : Sr} {f : Sg} {m : Nat} (h : OkS (m + 1) s.fresh) (hm : most ≤ 100) (hf : (0 ≤ f.pt.ctx ∧ f.pt.ctx ≤ 100) ∧ f.by_.size ≤ m) : OkS (m + 1) (behindP p most s f).fresh := by
  have key : ∀ k, OkS (m + 1) (behK p most s f k).fresh := by
    intro k
    induction k with
    | zero => exact h
    | succ k ih => exact OkS.tryF (OkS.tryF ih hm hf) hm hf
  rw [← behK_three]; exact key 3
theorem OkS.round {p : Plan} {most : Int} {m : Nat} (hm : most ≤ 100) : ∀ (l : List Sg) (s s' : Sr), OkS m l → OkS (m + 1) s.fresh → roundG p most l s = some s' → OkS (m + 1) s'.fresh
  | [], s, s', _, h, hr => by
    have hr : some { s with rep := { s.rep with whole := s.fresh.isEmpty } } = some s' := hr
    cases hr
    exact h
  | f :: r, s, s', hl, h, hr => by
    have hr : (if 600 < (behindP p most s f).seen.length then none else roundG p most r (behindP p most s f)) = some s' := hr
    split at hr
    · cases hr
    · exact OkS.round hm r _ s' (fun g hg => hl g (List.mem_cons_of_mem _ hg)) (OkS.beh h hm (hl f (List.mem_cons_self ..))) hr
theorem round_len {p : Plan} {most : Int} : ∀ (l : List Sg) (s s' : Sr), s.fresh.length ≤ s.seen.length → s.seen.length ≤ 600 → roundG p most l s = some s' → s'.fresh.length ≤ s'.seen.length ∧ s'.seen.length ≤ 600
  | [], s, s', h1, h2, hr => by
    have hr : some { s with rep := { s.rep with whole := s.fresh.isEmpty } } = some s' := hr
    cases hr
    exact ⟨h1, h2⟩
  | f :: r, s, s', h1, _, hr => by
    have hr : (if 600 < (behindP p most s f).seen.length then none else roundG p most r (behindP p most s f)) = some s' := hr
    split at hr
    · cases hr
    · exact round_len r _ s' (by have := beh_same p most s f; omega) (by omega) hr

set_option maxRecDepth 100000 in
set_option maxHeartbeats 8000000 in
theorem se_lookBehind (base B : Nat) (p : Plan) (v : PV) (most : Int) (vS vF : Value) (s : Sr) (f : Sg) (w : World) (hBb : base ≤ B) (h : SrAt B base p v most vS vF s w) (hp : PInB base w p v) (hl : s.seen.length ≤ 4000) (hl2 : s.fresh.length ≤ 4000) (hc : -1000 ≤ f.pt.ctx ∧ f.pt.ctx ≤ 1000) (hby : f.by_.size ≤ 1000) :
    Calls Tryz.prog 150 #[.pointer (some ⟨B, 0, none⟩), .agg (sgL f).toArray] w fun e w' => e = .returned (.tuple #[]) ∧ SeeOut base B p v most vS vF (behindP p most s f) w w' := by
  have HP := hide hp
  have hz := h.lt
  have hbA : Below w.heap.size w (w.alloc (.cells (sgL f).toArray 235)) := (Below.refl _ _).alloc (Nat.le_refl _) _
  have HAT := hide (h.below hbA)
  have HK := hide (SeK.of_below (base := base) (B := B) (vS := vS) (vF := vF) hbA (Nat.le_trans hBb (Nat.le_of_lt hz)))
  have HF1 := hide (h.far (k := w.heap.size) (Nat.le_refl _) (show w.heap.size < (w.alloc (.cells (sgL f).toArray 235)).heap.size by simp))
  have hX1 : (w.alloc (.cells (sgL f).toArray 235)).heap[w.heap.size]? = some (.cells (sgL f).toArray 235 (0, 0)) := heap_alloc_new _ _
  clear h hp hbA
  go_enter Tryz.func150, Tryz.ntmps150
  go_upto_region 1 with (first | (refine wpl_box rfl 235 _ rfl (sgL f) rfl ?_))
  generalize w.alloc (.cells (sgL f).toArray 235) = W at *
  go_wp2_with fail
  go_loopw [4] (fun u wr => ∃ (k : Nat) (vS' vF' : Value), u = .int .i64 k ∧ k ≤ 3 ∧ SrAt B base p v most vS' vF' (behK p most s f k) wr ∧ SeK base B vS vF W vS' vF' wr) (fun u _ => 3 - (intOf u).toNat)
  case atStart => exact ⟨0, vS, vF, rfl, by decide, HAT.out, SeK.of_below (Below.refl _ _) (Nat.le_trans hBb (Nat.le_of_lt HAT.out.lt))⟩
  case round =>
    obtain ⟨k, vS1, vF1, rfl, hk, hA1, hK1⟩ := hrel
    have HA1 := hide hA1
    have HK1 := hide hK1
    clear hA1 hK1
    by_cases hlt : k < 3
    · have hlt' : (k : Int) < 3 := by omega
      have hXr := (HK1.out.same HF1.out).trans hX1
      have HFr := hide (HK1.out.far HF1.out)
      have rgX := range_whole hXr
      have hl1 := behK_len p most s f k
      have HPr := hide (HP.out.below (HK.out.trans HK1.out).bel)
      go_wp2_with (first | (refine wpList_load_mid rfl 235 _ rfl w.heap.size 0 rfl (sgL f) _ rgX Tryz.underlying235 rfl Tryz.sizeSighting ?_))
      refine (se_tryStep base B p v most vS1 vF1 (behK p most s f k) f k false _ hBb HA1.out HPr.out (by omega) (by omega) hc hby).mono ?_
      rintro e w2 ⟨rfl, vS2, vF2, hA2, hK2⟩
      have HA2 := hide hA2
      have HK2 := hide (HK1.out.trans hK2)
      have hX2 := (hK2.same HFr.out).trans hXr
      have rgX2 := range_whole hX2
      have hl3 := tryF_len p most (behK p most s f k) f k false
      have HP2 := hide (HPr.out.below hK2.bel)
      clear hA2 hK2 rgX hXr
      go_wp2_with (first | (refine wpList_load_mid rfl 235 _ rfl w.heap.size 0 rfl (sgL f) _ rgX2 Tryz.underlying235 rfl Tryz.sizeSighting ?_))
      refine (se_tryStep base B p v most vS2 vF2 (tryF p most (behK p most s f k) f k false) f k true _ hBb HA2.out HP2.out (by omega) (by omega) hc hby).mono ?_
      rintro e w3 ⟨rfl, vS3, vF3, hA3, hK3⟩
      have HA3 := hide hA3
      have HK3 := hide (HK2.out.trans hK3)
      clear hA3 hK3 rgX2 hX2
      go_wp2_with fail
      go_roundw
      case rel => exact ⟨k + 1, vS3, vF3, by go_num, by omega, HA3.out, HK3.out⟩
      case measure => simp [intOf]; omega
    · have hk3 : k = 3 := by omega
      subst hk3
      go_wp2_with fail
      go_end0
      exact ⟨rfl, _, _, by rw [← behK_three]; exact HA1.out, HK.out.trans HK1.out⟩

end Go.Proofs.YtmfcpbhdggonfaaGreatDoor
