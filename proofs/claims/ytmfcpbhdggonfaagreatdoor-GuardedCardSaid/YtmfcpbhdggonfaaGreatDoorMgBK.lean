/- Contracts of the program's package search: a round. -/
import Derived.Test.YtmfcpbhdggonfaaGreatDoorMgBJ
namespace Go.Proofs.YtmfcpbhdggonfaaGreatDoor
open Go.RowKit RR

def nilV : Value := .slice none 0 0
theorem owns_nil (w : World) (base : Nat) (e : TypeId) (size : Nat) : w.ownsRow base e size (.slice none 0 0) 0 [] := ⟨by simp, .inl ⟨rfl, rfl⟩⟩
theorem sr_nil {base B : Nat} {p : Plan} {v : PV} {most : Int} {vS vF : Value} {s : Sr} {w : World} (h : SrAt B base p v most vS vF s w) : SrAt B base p v most vS (.slice none 0 0) { s with fresh := [] } (w.setCell ⟨B, 8, none⟩ (.slice none 0 0)) where
  box := setOne_heap h.box 8 _
  seen := owns_set h.seen h.neS
  fresh := owns_nil _ _ _ _
theorem seek_nil {base B : Nat} {vS vF : Value} {w : World} (hB : base ≤ B) : SeK base B vS vF w vS (.slice none 0 0) (w.setCell ⟨B, 8, none⟩ (.slice none 0 0)) := ⟨(Below.refl _ _).setCell (p := ⟨B, 8, none⟩) hB _, fun _ _ hB _ _ => setCell_heap_ne _ _ _ _ _ hB, .inl rfl, .inr fun g hg => by simp [Value.ownBlock] at hg⟩
/-- The row that a round goes along stands. -/
theorem ahead_keep {base B : Nat} {p : Plan} {v : PV} {most : Int} {vS vF vS' vF' : Value} {s : Sr} {w wr : World} (h : SrAt B base p v most vS vF s w) (hk : SeK base B vS (.slice none 0 0) (w.setCell ⟨B, 8, none⟩ (.slice none 0 0)) vS' vF' wr) : wr.ownsRow base 235 61 vF s.fresh.length (s.fresh.flatMap sgL) :=
  owns_keep h.fresh fun k c f hc hv => by
    have hne : k ≠ B := fun e => h.neF (by rw [← e]; exact hv)
    have hlt : k < (w.setCell ⟨B, 8, none⟩ (.slice none 0 0)).heap.size := by simpa using (Array.getElem?_eq_some_iff.1 hc).1
    refine (hk.blk k hlt hne (fun e => ?_) (fun e => by simp [Value.ownBlock] at e)).trans ((setCell_heap_ne _ _ _ _ _ hne).trans hc)
    obtain ⟨c2, f2, h2⟩ := owns_type h.seen e
    rw [h2] at hc
    simp at hc
def RoundOut (base B : Nat) (p : Plan) (v : PV) (most : Int) (vS vF : Value) (r : Option Sr) (w : World) (e : Ending) (w' : World) : Prop := match r with
  | some s' => e = .returned (.bool true) ∧ SeeOut base B p v most vS vF s' w w'
  | none => e = .returned (.bool false) ∧ Below base w w'
theorem roundG_cons (p : Plan) (most : Int) (l : List Sg) (s : Sr) (j : Nat) (hj : j < l.length) : roundG p most (l.drop j) s = if 600 < (behindP p most s l[j]).seen.length then none else roundG p most (l.drop (j + 1)) (behindP p most s l[j]) := by
  rw [List.drop_eq_getElem_cons hj]; rfl
theorem beh_len (p : Plan) (most : Int) (s : Sr) (f : Sg) : (behindP p most s f).seen.length ≤ s.seen.length + 6 ∧ (behindP p most s f).fresh.length ≤ s.fresh.length + 6 := by
  rw [← behK_three]; exact behK_len p most s f 3
theorem Tryz.zeroSightB : (Tryz.prog.info? 235).bind (·.zero) = some (.agg (sgL ⟨⟨0, 0, zCfg⟩, ⟨#[]⟩⟩).toArray) := by kernel_rfl

set_option maxRecDepth 100000 in
set_option maxHeartbeats 8000000 in
theorem se_makeRound (base B : Nat) (p : Plan) (v : PV) (most : Int) (vS vF : Value) (s : Sr) (w : World) (hBb : base ≤ B) (h : SrAt B base p v most vS vF s w) (hp : PInB base w p v) (hl : s.seen.length ≤ 600) (hl2 : s.fresh.length ≤ 3000) (hok : ∀ f ∈ s.fresh, (-1000 ≤ f.pt.ctx ∧ f.pt.ctx ≤ 1000) ∧ f.by_.size ≤ 1000) :
    Calls Tryz.prog 108 #[.pointer (some ⟨B, 0, none⟩)] w fun e w' => RoundOut base B p v most vS vF (roundF p most s) w e w' := by
  have HOK := hide hok
  have hz := h.lt
  obtain ⟨ao, cap, hvF⟩ := owns_slice h.fresh
  subst hvF
  have HA0 := hide h
  have HAT := hide (sr_nil h)
  have HK := hide (seek_nil (vS := vS) (vF := .slice ao s.fresh.length cap) (w := w) hBb)
  have HP := hide (hp.below HK.out.bel)
  have c8 : w.cell? ⟨B, 8, none⟩ = some (.slice ao s.fresh.length cap) := cell_blk h.box 8 rfl
  have f8 := heap_frz h.box 8
  have HRF : Hid (roundF p most s = roundG p most s.fresh { s with fresh := [] }) := rfl
  clear h hp hok
  go_enter Tryz.func108, Tryz.ntmps108
  go_upto_region 3 with fail
  have HAK := hide (fun (vS' vF' : Value) (wr : World) (hk : SeK base B vS (.slice none 0 0) (w.setCell ⟨B, 8, none⟩ (.slice none 0 0)) vS' vF' wr) => ahead_keep HA0.out hk)
  clear c8 f8 HA0
  generalize w.setCell ⟨B, 8, none⟩ (.slice none 0 0) = W at *
  generalize hl0 : s.fresh = l at *
  generalize hs0 : ({ s with fresh := [] } : Sr) = s0 at *
  have hl3 : s0.seen.length ≤ 600 := by rw [← hs0]; exact hl
  have hl4 : s0.fresh.length ≤ s0.seen.length := by rw [← hs0]; exact Nat.zero_le _
  have HL0 := hide hl0
  clear hl0 hs0
  go_wp2_with fail
  go_loopw [15] (fun u wr => ∃ (j : Nat) (s' : Sr) (vS' vF' : Value), u = .int .i64 j ∧ j ≤ l.length ∧ roundG p most (l.drop j) s' = roundG p most l s0 ∧ SrAt B base p v most vS' vF' s' wr ∧ SeK base B vS (.slice none 0 0) W vS' vF' wr ∧ s'.seen.length ≤ 600 ∧ s'.fresh.length ≤ s'.seen.length) (fun u _ => l.length - (intOf u).toNat)
  case atStart => exact ⟨0, s0, vS, _, rfl, Nat.zero_le _, rfl, HAT.out, SeK.of_below (Below.refl _ _) (Nat.le_trans hBb (Nat.le_of_lt HAT.out.lt)), hl3, hl4⟩
  case round =>
    obtain ⟨j, s', vS1, vF1, rfl, hj, hrg, hA1, hK1, hls, hlf⟩ := hrel
    have HRG := hide hrg
    have HA1 := hide hA1
    have HK1 := hide hK1
    clear hrg hA1 hK1
    by_cases hlt : j < l.length
    · have hlt' : (j : Int) < l.length := by omega
      have HRC := hide (roundG_cons p most l s' j hlt)
      have hokj := HOK.out l[j] (List.getElem_mem hlt)
      obtain ⟨ao', cap', hv', hfl⟩ := flat_of_owns (HAK.out _ _ _ HK1.out)
      have hae : ao = ao' := by injection hv'
      obtain ⟨b, o, hb, hao, rgJ⟩ := hfl.get (f := sgL) (n := 61) (fun _ => rfl) (by decide) j hlt
      rw [← hae] at hao
      clear hfl hae hv'
      generalize l[j] = f at *
      subst hao
      go_upto_region 7 with (first | (refine wpList_load_mid rfl 235 _ rfl b (o + j * 61) rfl (sgL f) _ rgJ Tryz.underlying235 rfl Tryz.sizeSighting ?_) | (refine wpl_alloc rfl 235 rfl (sgL ⟨⟨0, 0, zCfg⟩, ⟨#[]⟩⟩) Tryz.zeroSightB ?_) | (refine wpl_store_new rfl 235 _ _ rfl _ _ (sgL f) _ rfl rfl (by simp) Tryz.sizeSighting rfl (one_sg _) ?_) | (refine wpList_load_mid rfl 235 _ rfl _ 0 rfl (sgL f) _ (rg_new rfl) Tryz.underlying235 rfl Tryz.sizeSighting ?_))
      have hbX : Below wr.heap.size wr (wr.alloc (.cells (sgL f).toArray 235)) := (Below.refl _ _).alloc (Nat.le_refl _) _
      have hkX := SeK.of_below (base := base) (B := B) (vS := vS1) (vF := vF1) hbX (Nat.le_trans hBb (Nat.le_of_lt HA1.out.lt))
      refine (se_lookBehind base B p v most vS1 vF1 s' f _ hBb (HA1.out.below hbX) (HP.out.below (HK1.out.trans hkX).bel) (by omega) (by omega) hokj.1 hokj.2).mono ?_
      rintro e w2 ⟨rfl, vS2, vF2, hA2, hK2⟩
      have hsm := beh_same p most s' f
      have HA2 := hide hA2
      have HK2 := hide (HK1.out.trans (hkX.trans hK2))
      have hbl := beh_len p most s' f
      obtain ⟨a7, cap7, hv7⟩ := owns_slice hA2.seen
      have c7 : w2.cell? ⟨B, 7, none⟩ = some (.slice a7 (behindP p most s' f).seen.length cap7) := by rw [← hv7]; exact cell_blk hA2.box 7 rfl
      clear hA2 hK2 hkX hbX rgJ hv7 HA1 HK1
      by_cases h6 : 600 < (behindP p most s' f).seen.length
      · have HE : Hid (roundF p most s = none) := by show _ = _; rw [HRF.out, ← HRG.out, HRC.out, if_pos h6]
        clear HRC HRG HRF
        generalize (behindP p most s' f).seen.length = N at *
        have h6' : (600 : Int) < N := by omega
        go_wp2_with fail
        go_ret
        show RoundOut _ _ _ _ _ _ _ _ _ _ _
        rw [HE.out]
        exact ⟨rfl, (HK.out.trans HK2.out).bel⟩
      · have HE : Hid (roundG p most (l.drop (j + 1)) (behindP p most s' f) = roundG p most l s0) := by show _ = _; rw [← HRG.out, HRC.out, if_neg h6]
        clear HRC HRG
        have h7 : (behindP p most s' f).seen.length ≤ 600 := by omega
        have h8 : (behindP p most s' f).fresh.length ≤ (behindP p most s' f).seen.length := by omega
        have H78 := hide (And.intro h7 h8)
        have h6' : ((behindP p most s' f).seen.length : Int) ≤ 600 := by omega
        clear h7 h8 hbl hsm h6
        go_wp2_with fail
        go_roundw
        case rel => exact ⟨j + 1, _, _, _, by go_num, by omega, HE.out, HA2.out, HK2.out, H78.out.1, H78.out.2⟩
        case measure => simp [intOf]; omega
    · have hjl : j = l.length := by omega
      subst hjl
      have hE : roundF p most s = some { s' with rep := { s'.rep with whole := s'.fresh.isEmpty } } := by
        rw [HRF.out, ← HRG.out, List.drop_length]; rfl
      have HE := hide hE
      clear hE HRG HRF
      obtain ⟨a8, cap8, hv8⟩ := owns_slice HA1.out.fresh
      have c8 : wr.cell? ⟨B, 8, none⟩ = some (.slice a8 s'.fresh.length cap8) := by rw [← hv8]; exact cell_blk HA1.out.box 8 rfl
      have c13 : wr.cell? ⟨B, 13, none⟩ = some (.bool s'.rep.whole) := cell_blk HA1.out.box 13 rfl
      have f13 := heap_frz HA1.out.box 13
      have HAW := hide (fun b : Bool => sr_rep (o := 13) HA1.out (.bool b) { s'.rep with whole := b } rfl)
      have hKW := HK.out.trans HK1.out
      have HKW := hide hKW
      clear hKW hv8
      by_cases hF : s'.fresh = []
      · have h0 : s'.fresh.length = 0 := by rw [hF]; rfl
        have HW : Hid (s'.fresh.isEmpty = true) := by show _ = _; rw [hF]; rfl
        rw [h0] at c8
        clear hF h0
        go_wp2_with fail
        go_ret
        show RoundOut _ _ _ _ _ _ _ _ _ _ _
        rw [HE.out, HW.out]
        exact ⟨rfl, _, _, HAW.out true, by rw [HL0.out]; exact HKW.out.trans (seek_set hBb _)⟩
      · have h0 : ((s'.fresh.length : Int) == 0) = false := beq_eq_false_iff_ne.2 (by have := List.length_pos_iff.2 hF; omega)
        have HW : Hid (s'.fresh.isEmpty = false) := by show _ = _; simpa using hF
        clear hF
        go_wp2_with fail
        go_ret
        show RoundOut _ _ _ _ _ _ _ _ _ _ _
        rw [HE.out, HW.out]
        exact ⟨rfl, _, _, HAW.out false, by rw [HL0.out]; exact HKW.out.trans (seek_set hBb _)⟩

end Go.Proofs.YtmfcpbhdggonfaaGreatDoor
