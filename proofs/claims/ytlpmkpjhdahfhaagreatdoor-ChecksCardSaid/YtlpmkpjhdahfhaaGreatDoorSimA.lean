/- The parser against the machine: running on, step by step. Plain functions. No Go here. -/
import Derived.Test.YtlpmkpjhdahfhaaGreatDoorParse4
import Derived.Test.YtlpmkpjhdahfhaaGreatDoorMachine
namespace RR
open Go Go.RowKit

/-- The machine comes to r from here. -/
def Ends (L : List Tk) (len : Nat) (W : List ByteArray) (op : Int) (i : Nat) (r : Res) : Prop := ∃ n, runM L len n W op i = some r

theorem room_mk {x : ByteArray} {R : List ByteArray} {op : Int} {i : Nat} (h1 : R.length < 5000) (h2 : i ≤ 600) (h3 : 0 ≤ op) (h4 : op ≤ 6) (h5 : ¬ x = ⟨#[]⟩) : roomB (x :: R) op i = true := by
  unfold roomB
  simp only [Bool.and_eq_true, decide_eq_true_iff, Bool.not_eq_true', decide_eq_false_iff_not, List.length_cons]
  exact ⟨⟨⟨⟨by omega, h2⟩, by omega⟩, h4⟩, h5⟩

theorem ends_nt {L : List Tk} {len : Nat} {x : ByteArray} {R : List ByteArray} {op : Int} {i : Nat} {n : NT} {r : Res} (hr : roomB (x :: R) op i = true) (hx : ntOf x = some n) (h : Ends L len (becB n (tAt L i) ++ R) op i r) : Ends L len (x :: R) op i r := by
  obtain ⟨g, h⟩ := h
  refine ⟨g + 1, ?_⟩
  rw [runM, if_pos hr]
  simp only [hx]
  exact h
theorem ends_tok {L : List Tk} {len : Nat} {x : ByteArray} {R : List ByteArray} {op : Int} {i : Nat} {r : Res} (hr : roomB (x :: R) op i = true) (hx : ntOf x = none) (hf : fits x (tAt L i) = true) (hd : op + delta (tAt L i) ≤ 6) (h : Ends L len R (op + delta (tAt L i)) (i + 1) r) : Ends L len (x :: R) op i r := by
  obtain ⟨g, h⟩ := h
  refine ⟨g + 1, ?_⟩
  rw [runM, if_pos hr]
  simp only [hx]
  rw [if_pos hf, if_pos hd]
  exact h
theorem ends_no {L : List Tk} {len : Nat} {x : ByteArray} {R : List ByteArray} {op : Int} {i : Nat} (hr : roomB (x :: R) op i = true) (hx : ntOf x = none) (hf : fits x (tAt L i) = false ∨ 6 < op + delta (tAt L i)) : Ends L len (x :: R) op i (.err (pAt L len i)) := by
  refine ⟨1, ?_⟩
  rw [runM, if_pos hr]
  simp only [hx]
  rcases hf with hf | hf
  · rw [hf]; rfl
  · split
    · rw [if_neg (by omega)]
    · rfl

/-- The parser's state σ with the symbols W to come leads to r. -/
def Run (L : List Tk) (len : Nat) (σ : PSt) (W : List ByteArray) (r : Res) : Prop := if σ.failed = true then r = .err (pAt L len σ.next) else Ends L len W σ.depth σ.next r

/-- From σ to σ' the symbols S are read. -/
def Sim (L : List Tk) (len K : Nat) (S : List ByteArray) (σ σ' : PSt) : Prop := ∀ R r, R.length ≤ K → Run L len σ' R r → Run L len σ (S ++ R) r

theorem Sim.comp {L : List Tk} {len K : Nat} {S1 S2 : List ByteArray} {a b c : PSt} (h1 : Sim L len (K + S2.length) S1 a b) (h2 : Sim L len K S2 b c) : Sim L len K (S1 ++ S2) a c := fun R r hR h => by
  rw [List.append_assoc]
  exact h1 (S2 ++ R) r (by rw [List.length_append]; omega) (h2 R r hR h)
theorem Sim.nil {L : List Tk} {len K : Nat} (a : PSt) : Sim L len K [] a a := fun _ _ _ h => h
theorem Sim.mono {L : List Tk} {len K K' : Nat} {S : List ByteArray} {a b : PSt} (h : Sim L len K S a b) (hK : K' ≤ K) : Sim L len K' S a b := fun R r hR hr => h R r (by omega) hr

/-- What is asked of a state that has not failed. -/
def Fine (L : List Tk) (σ : PSt) : Prop := σ.failed = false → σ.next ≤ L.length ∧ 0 ≤ σ.depth ∧ σ.depth ≤ 6

/-- A symbol that is no token becomes others. -/
theorem sim_nt {L : List Tk} {len K : Nat} {x : ByteArray} {S : List ByteArray} {n : NT} {a b : PSt} (hL : L.length ≤ 500) (ha : Fine L a) (hx : ntOf x = some n) (hK : a.failed = false → K < 5000) (hS : a.failed = false → becB n (tAt L a.next) = S) (h : Sim L len K S a b) : Sim L len K [x] a b := fun R r hR hr => by
  have := h R r hR hr
  unfold Run at this ⊢
  cases hf : a.failed
  · rw [hf] at this
    have hF := ha hf
    have hK := hK hf
    show Ends L len (x :: R) a.depth a.next r
    refine ends_nt (room_mk (by omega) (by omega) hF.2.1 hF.2.2 ?_) hx ?_
    · intro e
      have e0 : ntOf (⟨#[]⟩ : ByteArray) = none := by decide
      rw [e, e0] at hx
      cases hx
    · rw [hS hf]; exact this
  · rw [hf] at this; exact this

theorem tAt_ahead {L : List Tk} {σ : PSt} (h : σ.failed = false) : (σ.ahead L 0).t = tAt L σ.next := by
  by_cases h2 : σ.next < L.length
  · rw [ahead_in h (n := 0) h2, tAt_in h2]; rfl
  · rw [ahead_out (n := 0) h2, tAt_out h2]

theorem tAt_lt {L : List Tk} {i : Nat} {t : ByteArray} (ht : ¬ t = ⟨#[]⟩) (h : tAt L i = t) : i < L.length := by
  by_cases h2 : i < L.length
  · exact h2
  · rw [tAt_out h2] at h; exact absurd h.symm ht

/-- A failed state goes on as it is. -/
def Stuck (σ σ' : PSt) : Prop := σ.failed = true → σ'.failed = true ∧ σ'.next = σ.next
theorem sim_stuck {L : List Tk} {len K : Nat} {S : List ByteArray} {a b : PSt} (hs : a.failed = true) (h : b.failed = true ∧ b.next = a.next) : Sim L len K S a b := fun R r _ hr => by
  unfold Run at hr ⊢
  rw [if_pos h.1, h.2] at hr
  rw [if_pos hs]
  exact hr

/-- A token is taken that is no bracket. -/
theorem sim_take {L : List Tk} {len K : Nat} {t : ByteArray} {a : PSt} (hL : L.length ≤ 500) (ha : Fine L a) (hx : ntOf t = none) (h0 : ¬ t = ⟨#[]⟩) (hN : ¬ t = ⟨#[78, 65, 77, 69]⟩) (hd : delta t = 0) (hK : a.failed = false → K < 5000) : Sim L len K [t] a (a.take L t) ∧ Fine L (a.take L t) := by
  cases hf : a.failed
  · have hF := ha hf
    have hK := hK hf
    have hs : a.sees L t = decide (tAt L a.next = t) := by unfold PSt.sees; rw [tAt_ahead hf]
    by_cases e : tAt L a.next = t
    · have e2 : a.take L t = a.step := by unfold PSt.take; rw [hs, decide_eq_true e]; rfl
      rw [e2]
      refine ⟨fun R r hR hr => ?_, fun _ => ⟨tAt_lt h0 e, hF.2⟩⟩
      unfold Run at hr ⊢
      rw [if_neg (by show ¬ a.failed = true; rw [hf]; simp)] at hr
      rw [if_neg (by rw [hf]; simp)]
      show Ends L len (t :: R) a.depth a.next r
      refine ends_tok (room_mk (by omega) (by omega) hF.2.1 hF.2.2 h0) hx (fits_eq e.symm) (by rw [e, hd]; omega) ?_
      rw [e, hd, Int.add_zero]
      exact hr
    · have e2 : a.take L t = a.fail := by unfold PSt.take; rw [hs, decide_eq_false e]; rfl
      rw [e2]
      refine ⟨fun R r hR hr => ?_, fun h => by cases h⟩
      unfold Run at hr ⊢
      rw [if_pos (by rfl)] at hr
      rw [if_neg (by rw [hf]; simp), hr]
      show Ends L len (t :: R) a.depth a.next _
      exact ends_no (room_mk (by omega) (by omega) hF.2.1 hF.2.2 h0) hx (.inl (fits_no1 (fun h => e h.symm) hN))
  · have e2 : a.take L t = a.fail := by
      unfold PSt.take PSt.sees
      rw [ahead_failed hf, decide_eq_false (fun h => h0 h.symm)]; rfl
    rw [e2]
    exact ⟨sim_stuck hf ⟨rfl, rfl⟩, fun h => by cases h⟩

end RR
