/- The parser against the machine: names, brackets. Plain functions. No Go here. -/
import Derived.Test.YtlpmkpjhdahfhaaGreatDoorSimA
namespace RR
open Go Go.RowKit

/-- If it has not failed behind it, at least s tokens were taken, and the depth has turned by k. -/
def Adv (L : List Tk) (s : Nat) (k : Int) (σ σ' : PSt) : Prop := σ'.failed = false → σ.failed = false ∧ σ.next + s ≤ σ'.next ∧ σ'.next ≤ L.length ∧ σ'.depth = σ.depth + k

theorem Adv.trans {L : List Tk} {s s' : Nat} {k k' : Int} {a b c : PSt} (h : Adv L s k a b) (h' : Adv L s' k' b c) : Adv L (s + s') (k + k') a c := fun hc => by
  obtain ⟨h1, h2, h3, h4⟩ := h' hc
  obtain ⟨g1, g2, g3, g4⟩ := h h1
  exact ⟨g1, by omega, h3, by omega⟩
theorem Adv.refl {L : List Tk} {a : PSt} (h : Fine L a) : Adv L 0 0 a a := fun hc => ⟨hc, Nat.le_refl _, (h hc).1, by omega⟩
theorem Adv.fine {L : List Tk} {s : Nat} {a b : PSt} (h : Adv L s 0 a b) (ha : Fine L a) : Fine L b := fun hb => by
  obtain ⟨g1, g2, g3, g4⟩ := h hb
  have := ha g1
  exact ⟨g3, by omega, by omega⟩
theorem Adv.weak {L : List Tk} {s s' : Nat} {k k' : Int} {a b : PSt} (h : Adv L s k a b) (hs : s' ≤ s) (hk : k = k') : Adv L s' k' a b := fun hb => by
  obtain ⟨g1, g2, g3, g4⟩ := h hb
  exact ⟨g1, by omega, g3, by omega⟩

theorem adv_take {L : List Tk} {t : ByteArray} {a : PSt} (h0 : ¬ t = ⟨#[]⟩) : Adv L 1 0 a (a.take L t) := fun h => by
  unfold PSt.take at h ⊢
  cases hs : a.sees L t
  · rw [hs] at h; cases h
  · have := sees_lt h0 hs
    exact ⟨this.2, Nat.le_refl _, this.1, by show a.depth = _; omega⟩

/-- No token has the text of a symbol for names. -/
def NoNm (L : List Tk) : Prop := ∀ i, ¬ tAt L i = ⟨#[78, 65, 77, 69]⟩

theorem adv_name {L : List Tk} {r : Nat} {a : PSt} : Adv L 1 0 a (a.takeName L r) := fun h => by
  unfold PSt.takeName at h ⊢
  cases hs : isNameB (a.ahead L 0).t
  · rw [hs] at h; cases h
  · have := name_lt hs
    exact ⟨this.2, Nat.le_refl _, this.1, by show a.depth = _; omega⟩

theorem sign_name {c : UInt8} (h : isLetterB c = false) : isNameB ⟨#[c]⟩ = false := by
  unfold isNameB
  rw [bl]
  show (isLetterB c && _) = false
  rw [h]; rfl
theorem name_delta {t : ByteArray} (h : isNameB t = true) : delta t = 0 := by
  rcases delta5 t with ⟨rfl, _⟩ | ⟨rfl, _⟩ | ⟨rfl, _⟩ | ⟨rfl, _⟩ | ⟨_, _, _, _, h⟩
  · exact absurd (h.symm.trans (sign_name (by decide))) (by decide)
  · exact absurd (h.symm.trans (sign_name (by decide))) (by decide)
  · exact absurd (h.symm.trans (sign_name (by decide))) (by decide)
  · exact absurd (h.symm.trans (sign_name (by decide))) (by decide)
  · exact h

theorem sim_name {L : List Tk} {len K r : Nat} {a : PSt} (hL : L.length ≤ 500) (hN : NoNm L) (ha : Fine L a) (hK : a.failed = false → K < 5000) : Sim L len K [⟨#[78, 65, 77, 69]⟩] a (a.takeName L r) := by
  have hx : ntOf (⟨#[78, 65, 77, 69]⟩ : ByteArray) = none := by decide
  have h0 : ¬ (⟨#[78, 65, 77, 69]⟩ : ByteArray) = ⟨#[]⟩ := by decide
  cases hf : a.failed
  · have hF := ha hf
    have hK := hK hf
    cases e : isNameB (tAt L a.next)
    · have e2 : a.takeName L r = a.fail := by unfold PSt.takeName; rw [tAt_ahead hf, e]; rfl
      rw [e2]
      intro R r hR hr
      unfold Run at hr ⊢
      rw [if_pos (by rfl)] at hr
      rw [if_neg (by rw [hf]; simp), hr]
      show Ends L len (_ :: R) a.depth a.next _
      exact ends_no (room_mk (by omega) (by omega) hF.2.1 hF.2.2 h0) hx (.inl (fits_no2 (fun h => hN a.next h.symm) e))
    · have e2 : a.takeName L r = { a with next := a.next + 1, names := a.names ++ [⟨(a.ahead L 0).t, (a.ahead L 0).p, r, a.proc⟩] } := by unfold PSt.takeName; rw [tAt_ahead hf, e]; rfl
      rw [e2]
      intro R r hR hr
      unfold Run at hr ⊢
      rw [if_neg (by show ¬ a.failed = true; rw [hf]; simp)] at hr
      rw [if_neg (by rw [hf]; simp)]
      show Ends L len (_ :: R) a.depth a.next r
      refine ends_tok (room_mk (by omega) (by omega) hF.2.1 hF.2.2 h0) hx (fits_name rfl e) (by rw [name_delta e]; omega) ?_
      rw [name_delta e, Int.add_zero]
      exact hr
  · have e2 : a.takeName L r = a.fail := by
      unfold PSt.takeName
      rw [ahead_failed hf, isName_empty rfl]; rfl
    rw [e2]
    exact sim_stuck hf ⟨rfl, rfl⟩

theorem wrap_small {z : Int} (h : -100 ≤ z) (h2 : z ≤ 100) : wrap64 z = z := by
  unfold wrap64
  omega

/-- A bracket is opened. -/
theorem sim_enter {L : List Tk} {len K : Nat} {t : ByteArray} {a : PSt} (hL : L.length ≤ 500) (ha : Fine L a) (hx : ntOf t = none) (h0 : ¬ t = ⟨#[]⟩) (hN : ¬ t = ⟨#[78, 65, 77, 69]⟩) (hd : delta t = 1) (hK : a.failed = false → K < 5000) :
    Sim L len K [t] a (enterP L a t) ∧ Fine L (enterP L a t) ∧ Adv L 1 1 a (enterP L a t) := by
  cases hf : a.failed
  · have hF := ha hf
    have hK := hK hf
    have hs : a.sees L t = decide (tAt L a.next = t) := by unfold PSt.sees; rw [tAt_ahead hf]
    by_cases e6 : 6 ≤ a.depth
    · have e2 : enterP L a t = a.fail := by unfold enterP; rw [if_pos e6]
      rw [e2]
      refine ⟨fun R r hR hr => ?_, fun h => (by cases h), fun h => (by cases h)⟩
      unfold Run at hr ⊢
      rw [if_pos (by rfl)] at hr
      rw [if_neg (by rw [hf]; simp), hr]
      show Ends L len (t :: R) a.depth a.next _
      refine ends_no (room_mk (by omega) (by omega) hF.2.1 hF.2.2 h0) hx ?_
      by_cases e : tAt L a.next = t
      · right; rw [e, hd]; omega
      · left; exact fits_no1 (fun h => e h.symm) hN
    · by_cases e : tAt L a.next = t
      · have e2 : enterP L a t = { a.step with depth := wrap64 (a.depth + 1) } := by unfold enterP PSt.take; rw [if_neg e6, hs, decide_eq_true e]; rfl
        have ew : wrap64 (a.depth + 1) = a.depth + 1 := wrap_small (by omega) (by omega)
        rw [e2, ew]
        refine ⟨fun R r hR hr => ?_, fun _ => ⟨tAt_lt h0 e, by show 0 ≤ a.depth + 1; omega, by show a.depth + 1 ≤ 6; omega⟩, fun _ => ⟨hf, Nat.le_refl _, tAt_lt h0 e, rfl⟩⟩
        unfold Run at hr ⊢
        rw [if_neg (by show ¬ a.failed = true; rw [hf]; simp)] at hr
        rw [if_neg (by rw [hf]; simp)]
        show Ends L len (t :: R) a.depth a.next r
        refine ends_tok (room_mk (by omega) (by omega) hF.2.1 hF.2.2 h0) hx (fits_eq e.symm) (by rw [e, hd]; omega) ?_
        rw [e, hd]
        exact hr
      · have e2 : (enterP L a t).failed = true ∧ (enterP L a t).next = a.next := by
          have : enterP L a t = { a.fail with depth := wrap64 (a.depth + 1) } := by unfold enterP PSt.take; rw [if_neg e6, hs, decide_eq_false e]; rfl
          rw [this]; exact ⟨rfl, rfl⟩
        refine ⟨fun R r hR hr => ?_, fun h => (by rw [e2.1] at h; cases h), fun h => (by rw [e2.1] at h; cases h)⟩
        unfold Run at hr ⊢
        rw [if_pos e2.1, e2.2] at hr
        rw [if_neg (by rw [hf]; simp), hr]
        show Ends L len (t :: R) a.depth a.next _
        exact ends_no (room_mk (by omega) (by omega) hF.2.1 hF.2.2 h0) hx (.inl (fits_no1 (fun h => e h.symm) hN))
  · have e2 : (enterP L a t).failed = true ∧ (enterP L a t).next = a.next := by
      unfold enterP
      split
      · exact ⟨rfl, rfl⟩
      · have : a.take L t = a.fail := by
          unfold PSt.take PSt.sees
          rw [ahead_failed hf, decide_eq_false (fun h => h0 h.symm)]; rfl
        rw [this]; exact ⟨rfl, rfl⟩
    exact ⟨sim_stuck hf e2, fun h => (by rw [e2.1] at h; cases h), fun h => (by rw [e2.1] at h; cases h)⟩

/-- A bracket is shut. -/
theorem sim_leave {L : List Tk} {len K : Nat} {t : ByteArray} {a : PSt} (hL : L.length ≤ 500) (ha : Fine L a) (hx : ntOf t = none) (h0 : ¬ t = ⟨#[]⟩) (hN : ¬ t = ⟨#[78, 65, 77, 69]⟩) (hd : delta t = -1) (hK : a.failed = false → K < 5000) :
    Sim L len K [t] a (leaveP L a t) ∧ Adv L 1 (-1) a (leaveP L a t) := by
  cases hf : a.failed
  · have hF := ha hf
    have hK := hK hf
    have hs : a.sees L t = decide (tAt L a.next = t) := by unfold PSt.sees; rw [tAt_ahead hf]
    by_cases e : tAt L a.next = t
    · have e2 : leaveP L a t = { a.step with depth := wrap64 (a.depth - 1) } := by unfold leaveP PSt.take; rw [hs, decide_eq_true e]; rfl
      have ew : wrap64 (a.depth - 1) = a.depth + -1 := (wrap_small (by omega) (by omega)).trans (by omega)
      rw [e2, ew]
      refine ⟨fun R r hR hr => ?_, fun _ => ⟨hf, Nat.le_refl _, tAt_lt h0 e, rfl⟩⟩
      unfold Run at hr ⊢
      rw [if_neg (by show ¬ a.failed = true; rw [hf]; simp)] at hr
      rw [if_neg (by rw [hf]; simp)]
      show Ends L len (t :: R) a.depth a.next r
      refine ends_tok (room_mk (by omega) (by omega) hF.2.1 hF.2.2 h0) hx (fits_eq e.symm) (by rw [e, hd]; omega) ?_
      rw [e, hd]
      exact hr
    · have e2 : (leaveP L a t).failed = true ∧ (leaveP L a t).next = a.next := by
        have : leaveP L a t = { a.fail with depth := wrap64 (a.depth - 1) } := by unfold leaveP PSt.take; rw [hs, decide_eq_false e]; rfl
        rw [this]; exact ⟨rfl, rfl⟩
      refine ⟨fun R r hR hr => ?_, fun h => (by rw [e2.1] at h; cases h)⟩
      unfold Run at hr ⊢
      rw [if_pos e2.1, e2.2] at hr
      rw [if_neg (by rw [hf]; simp), hr]
      show Ends L len (t :: R) a.depth a.next _
      exact ends_no (room_mk (by omega) (by omega) hF.2.1 hF.2.2 h0) hx (.inl (fits_no1 (fun h => e h.symm) hN))
  · have e2 : (leaveP L a t).failed = true ∧ (leaveP L a t).next = a.next := by
      unfold leaveP
      have : a.take L t = a.fail := by
        unfold PSt.take PSt.sees
        rw [ahead_failed hf, decide_eq_false (fun h => h0 h.symm)]; rfl
      rw [this]; exact ⟨rfl, rfl⟩
    exact ⟨sim_stuck hf e2, fun h => (by rw [e2.1] at h; cases h)⟩

end RR
