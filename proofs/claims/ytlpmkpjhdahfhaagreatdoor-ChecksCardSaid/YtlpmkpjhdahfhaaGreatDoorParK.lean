/- Contracts of the program: check.Program, races.Check. -/
import Derived.Test.YtlpmkpjhdahfhaaGreatDoorParJ
namespace Go.Proofs.YtlpmkpjhdahfhaaGreatDoor
open Go.RowKit RR

set_option maxRecDepth 100000 in
set_option maxHeartbeats 1000000 in
theorem m_long (s : ByteArray) (w : World) (hs : 500 < s.size) (hs2 : s.size ≤ maxLen) :
    Calls Tryz.prog 14 #[.string s] w fun e w' => e = .returned (.tuple #[.int .i64 1, .int .i64 0]) ∧ w' = w := by
  unfold maxLen at hs2
  go_enter Tryz.func14, Tryz.ntmps14
  go_wp2
  go_ret2
  exact ⟨rfl, rfl⟩

set_option maxRecDepth 100000 in
set_option maxHeartbeats 1000000 in
theorem m_token (s : ByteArray) (w : World) (hs : s.size ≤ 500) (p : Nat) (hl : (lexF s 0).2 = some p) :
    Calls Tryz.prog 14 #[.string s] w fun e w' => e = .returned (.tuple #[.int .i64 2, .int .i64 p]) ∧ Below w.heap.size w w' := by
  go_enter Tryz.func14, Tryz.ntmps14
  go_wp2_with fail
  refine (t_cut s _ hs).mono ?_
  rintro e w1 (⟨h1, _⟩ | ⟨q, h1, rfl, hb1⟩)
  · rw [hl] at h1; cases h1
  · have : q = p := Option.some.inj (h1.symm.trans hl)
    subst this
    clear h1 hl
    go_wp2
    go_ret2
    exact ⟨rfl, hb1⟩

/-- The error and its place, of a parse that has come to its end. -/
def endP (L : List Tk) (len : Nat) (σ : PSt) : Int × Int := if σ.failed then (3, placeP L len σ) else outCheck σ.names σ.calls

set_option maxRecDepth 100000 in
set_option maxHeartbeats 2000000 in
theorem m_parse (s : ByteArray) (w : World) (hs : s.size ≤ 500) (L : List Tk) (hl : lexF s 0 = (L, none)) (hL : L.length ≤ 500) (f : Nat) (σ : PSt) (hrun : programP L f start0 = some σ) :
    Calls Tryz.prog 14 #[.string s] w fun e w' => e = .returned (.tuple #[.int .i64 (endP L s.size σ).1, .int .i64 (endP L s.size σ).2]) ∧ Below w.heap.size w w' := by
  have HR := hide hrun
  clear hrun
  go_enter Tryz.func14, Tryz.ntmps14
  go_wp2_with fail
  refine (t_cut s _ hs).mono ?_
  rintro e w1 (⟨h1, v, rfl, hown, hb1⟩ | ⟨q, h1, _, _⟩)
  rotate_left
  · rw [hl] at h1; cases h1
  rw [hl] at hown
  simp only at hown
  have hT : ∃ ao cap, v = .slice ao L.length cap ∧ ∀ B, w1.heap.size ≤ B → Tok3 w1 B ao L := by
    obtain ⟨ao, cap, hv, h3⟩ := tok3_of_owns hown (Nat.le_refl _)
    exact ⟨ao, cap, hv, fun B hB i hi => by
      obtain ⟨b, o, q1, q2⟩ := h3 i hi
      exact ⟨b, o, Nat.lt_of_lt_of_le q1 hB, q2⟩⟩
  obtain ⟨ao, cap, hv, hT⟩ := hT
  subst hv
  clear h1 hl hown
  go_wp2_with fail
  refine (s_read L s.size ao cap f σ _ hL hs hT HR.out).mono ?_
  rintro e w2 ⟨hb2, ⟨hfl, a1, d1, a2, d2, rfl, hn, hc, hinv, hle⟩ | ⟨hfl, rfl⟩⟩
  · have hsm := hinv.small
    have HE : Hid (endP L s.size σ = outCheck σ.names σ.calls) := by show _ = _; unfold endP; rw [hfl]; rfl
    have hbel := hb1.trans (hb2.mono hb1.size)
    have hn2 := fun ob => hn.below ((Below.refl _ _).alloc (Nat.le_refl _) ob)
    have hc2 := fun ob => hc.below ((Below.refl _ _).alloc (Nat.le_refl _) ob)
    clear hinv
    go_wp2_with fail
    refine (c_checkOutline _ _ _ _ σ.names σ.calls _ (by omega) (by omega) (hn2 _) (hc2 _)).mono ?_
    rintro e w3 ⟨rfl, hb3⟩
    go_wp2_with fail
    go_ret2
    exact ⟨by rw [HE.out]; rfl, (hbel.alloc hbel.size _).trans (hb3.mono (Nat.le_trans hbel.size (by simp)))⟩
  · have HE : Hid (endP L s.size σ = (3, (placeP L s.size σ : Int))) := by show _ = _; unfold endP; rw [hfl]; rfl
    have hbel := hb1.trans (hb2.mono hb1.size)
    go_wp2_with fail
    go_ret2
    exact ⟨by rw [HE.out]; rfl, hbel.alloc hbel.size _⟩

/-- races.Check hands on what check.Program answers. -/
theorem m_check (s : ByteArray) (w : World) (E P : Int) (h : Hid (∀ w, Calls Tryz.prog 14 #[.string s] w fun e w' => e = .returned (.tuple #[.int .i64 E, .int .i64 P]) ∧ Below w.heap.size w w')) :
    Calls Tryz.prog 6 #[.string s] w fun e w' => e = .returned (.tuple #[.int .i64 E, .int .i64 P]) ∧ Below w.heap.size w w' := by
  go_enter Tryz.func6, Tryz.ntmps6
  go_wp2_with fail
  refine (h.out _).mono ?_
  rintro e w1 ⟨rfl, hb1⟩
  go_wp2_with fail
  go_ret2
  exact ⟨rfl, hb1⟩

end Go.Proofs.YtlpmkpjhdahfhaaGreatDoor
