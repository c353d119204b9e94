/- Contracts of the program's parser: statements. -/
import Derived.Test.YtlpmkpjhdahfhaaGreatDoorParF
import Derived.Test.YtlpmkpjhdahfhaaGreatDoorParse
namespace Go.Proofs.YtlpmkpjhdahfhaaGreatDoor
open Go.RowKit RR

theorem seesCall_name {L : List Tk} {σ : PSt} (h : σ.seesCall L = true) : isNameB (σ.ahead L 0).t = true := by
  unfold PSt.seesCall at h; rw [Bool.and_eq_true] at h; exact h.1

set_option maxRecDepth 100000 in
set_option maxHeartbeats 1000000 in
theorem s_assigned {B : Nat} {ao : Option Addr} {cap : Nat} {L : List Tk} (hL : L.length ≤ 500) (f : Nat) (σ σ' : PSt) (vN vC : Value) (w : World) (h : PS B ao cap L σ vN vC w) (hrun : assignedP L f σ = some σ') :
    Calls Tryz.prog 133 #[.pointer (some ⟨B, 0, none⟩)] w fun e w' => e = .returned (.tuple #[]) ∧ ∃ vN' vC', PS B ao cap L σ' vN' vC' w' ∧ Kp B w w' := by
  have ih := hide ((s_exprs (B := B) (ao := ao) (cap := cap) hL f).1 f (Nat.le_refl _))
  unfold assignedP at hrun
  cases hs : σ.seesCall L
  · rw [hs] at hrun
    have HR : Hid (exprP L f σ = some σ') := hrun
    clear hrun
    go_enter Tryz.func133, Tryz.ntmps133
    go_wp2_with fail
    refine (s_seesCall _ hL h).mono ?_
    rintro e w1 ⟨rfl, hb1⟩
    rw [hs]
    have h1 := h.below hb1
    have k1 := Kp.of_below hb1 (Nat.le_of_lt h.lt)
    go_wp2_with fail
    refine (ih.out σ σ' _ _ _ h1 HR.out).mono ?_
    rintro e w2 ⟨rfl, vN2, vC2, hp2, k2⟩
    go_wp2_with fail
    go_end0
    exact ⟨rfl, vN2, vC2, hp2, k1.trans k2⟩
  · rw [hs] at hrun
    have HR : Hid (callP L f σ = some σ') := hrun
    have hN := hide (seesCall_name hs)
    clear hrun
    go_enter Tryz.func133, Tryz.ntmps133
    go_wp2_with fail
    refine (s_seesCall _ hL h).mono ?_
    rintro e w1 ⟨rfl, hb1⟩
    rw [hs]
    have h1 := h.below hb1
    have k1 := Kp.of_below hb1 (Nat.le_of_lt h.lt)
    go_wp2_with fail
    refine (s_call hL f σ σ' _ _ _ h1 hN.out HR.out).mono ?_
    rintro e w2 ⟨rfl, vN2, vC2, hp2, k2⟩
    go_wp2_with fail
    go_end0
    exact ⟨rfl, vN2, vC2, hp2, k1.trans k2⟩

set_option maxRecDepth 100000 in
set_option maxHeartbeats 1000000 in
theorem s_assignOrCall {B : Nat} {ao : Option Addr} {cap : Nat} {L : List Tk} (hL : L.length ≤ 500) (f : Nat) (σ σ' : PSt) (vN vC : Value) (w : World) (h : PS B ao cap L σ vN vC w) (hrun : assignOrCallP L f σ = some σ') :
    Calls Tryz.prog 127 #[.pointer (some ⟨B, 0, none⟩)] w fun e w' => e = .returned (.tuple #[]) ∧ ∃ vN' vC', PS B ao cap L σ' vN' vC' w' ∧ Kp B w w' := by
  unfold assignOrCallP at hrun
  obtain ⟨τ, h1, h2⟩ := Option.map_eq_some_iff.1 hrun
  have HT := hide h2
  clear hrun h2
  cases hs : σ.seesCall L
  · rw [hs] at h1
    have HR : Hid (assignedP L f ((σ.takeName L 4).take L ⟨#[61]⟩) = some τ) := h1
    clear h1
    go_enter Tryz.func127, Tryz.ntmps127
    go_wp2_with fail
    refine (s_seesCall _ hL h).mono ?_
    rintro e w1 ⟨rfl, hb1⟩
    rw [hs]
    have h1 := h.below hb1
    have k1 := Kp.of_below hb1 (Nat.le_of_lt h.lt)
    clear hb1
    go_wp2_with fail
    refine (s_takeName 4 _ hL h1).mono ?_
    rintro e w2 ⟨rfl, vN2, hp2, k2⟩
    go_wp2_with fail
    refine (s_take ⟨#[61]⟩ _ hL (by decide) hp2).mono ?_
    rintro e w3 ⟨rfl, hp3, k3⟩
    go_wp2_with fail
    refine (s_assigned hL f _ τ _ _ _ hp3 HR.out).mono ?_
    rintro e w4 ⟨rfl, vN4, vC4, hp4, k4⟩
    go_wp2_with fail
    refine (s_take ⟨#[59]⟩ _ hL (by decide) hp4).mono ?_
    rintro e w5 ⟨rfl, hp5, k5⟩
    go_wp2_with fail
    go_end0
    exact ⟨rfl, vN4, vC4, by rw [← HT.out]; exact hp5, (((k1.trans k2).trans k3).trans k4).trans k5⟩
  · rw [hs] at h1
    have HR : Hid (callP L f σ = some τ) := h1
    have hN := hide (seesCall_name hs)
    clear h1
    go_enter Tryz.func127, Tryz.ntmps127
    go_wp2_with fail
    refine (s_seesCall _ hL h).mono ?_
    rintro e w1 ⟨rfl, hb1⟩
    rw [hs]
    have h1 := h.below hb1
    have k1 := Kp.of_below hb1 (Nat.le_of_lt h.lt)
    clear hb1
    go_wp2_with fail
    refine (s_call hL f σ τ _ _ _ h1 hN.out HR.out).mono ?_
    rintro e w4 ⟨rfl, vN4, vC4, hp4, k4⟩
    go_wp2_with fail
    refine (s_take ⟨#[59]⟩ _ hL (by decide) hp4).mono ?_
    rintro e w5 ⟨rfl, hp5, k5⟩
    go_wp2_with fail
    go_end0
    exact ⟨rfl, vN4, vC4, by rw [← HT.out]; exact hp5, (k1.trans k4).trans k5⟩

set_option maxRecDepth 100000 in
set_option maxHeartbeats 1000000 in
theorem s_giveBack {B : Nat} {ao : Option Addr} {cap : Nat} {L : List Tk} (hL : L.length ≤ 500) (f : Nat) (σ σ' : PSt) (vN vC : Value) (w : World) (h : PS B ao cap L σ vN vC w) (hrun : giveBackP L f σ = some σ') :
    Calls Tryz.prog 126 #[.pointer (some ⟨B, 0, none⟩)] w fun e w' => e = .returned (.tuple #[]) ∧ ∃ vN' vC', PS B ao cap L σ' vN' vC' w' ∧ Kp B w w' := by
  have ih := hide ((s_exprs (B := B) (ao := ao) (cap := cap) hL f).1 f (Nat.le_refl _))
  unfold giveBackP at hrun
  obtain ⟨τ, h1, h2⟩ := Option.map_eq_some_iff.1 hrun
  have HT := hide h2
  clear hrun h2
  go_enter Tryz.func126, Tryz.ntmps126
  go_wp2_with fail
  refine (s_take ⟨#[114, 101, 116, 117, 114, 110]⟩ _ hL (by decide) h).mono ?_
  rintro e w1 ⟨rfl, hp1, k1⟩
  generalize σ.take L ⟨#[114, 101, 116, 117, 114, 110]⟩ = σ1 at *
  cases hs : σ1.sees L ⟨#[59]⟩
  · rw [hs] at h1
    have HR : Hid (exprP L f σ1 = some τ) := h1
    clear h1
    go_wp2_with fail
    refine (s_sees ⟨#[59]⟩ _ hL hp1).mono ?_
    rintro e w2 ⟨rfl, hb2⟩
    rw [hs]
    have hp2 := hp1.below hb2
    have k2 := k1.trans (Kp.of_below hb2 (Nat.le_of_lt hp1.lt))
    clear hb2
    go_wp2_with fail
    refine (ih.out σ1 τ _ _ _ hp2 HR.out).mono ?_
    rintro e w4 ⟨rfl, vN4, vC4, hp4, k4⟩
    go_wp2_with fail
    refine (s_take ⟨#[59]⟩ _ hL (by decide) hp4).mono ?_
    rintro e w5 ⟨rfl, hp5, k5⟩
    go_wp2_with fail
    go_end0
    exact ⟨rfl, vN4, vC4, by rw [← HT.out]; exact hp5, (k2.trans k4).trans k5⟩
  · rw [hs] at h1
    have HR : Hid (σ1 = τ) := Option.some.inj h1
    clear h1
    go_wp2_with fail
    refine (s_sees ⟨#[59]⟩ _ hL hp1).mono ?_
    rintro e w2 ⟨rfl, hb2⟩
    rw [hs]
    have hp2 := hp1.below hb2
    have k2 := k1.trans (Kp.of_below hb2 (Nat.le_of_lt hp1.lt))
    clear hb2
    go_wp2_with fail
    refine (s_take ⟨#[59]⟩ _ hL (by decide) hp2).mono ?_
    rintro e w5 ⟨rfl, hp5, k5⟩
    go_wp2_with fail
    go_end0
    exact ⟨rfl, vN, vC, by rw [← HT.out, ← HR.out]; exact hp5, k2.trans k5⟩

end Go.Proofs.YtlpmkpjhdahfhaaGreatDoor
