/- The parser against the machine: running on, step by step. Plain functions. No Go here. -/
import Derived.Test.YtmfcpbhdggonfaaGreatDoorParse
import Derived.Test.YtmfcpbhdggonfaaGreatDoorMachine
import Derived.Test.YtmfcpbhdggonfaaGreatDoorLex
namespace RR
open Go Go.RowKit

/-- The machine comes to r from here. -/
def Ends (L : List Tk) (len : Nat) (W : List ByteArray) (op : Int) (i : Nat) (r : Res) : Prop := ∃ n, runM L len n W op i = some r

theorem room_mk {x : ByteArray} {R : List ByteArray} {op : Int} {i : Nat} (h1 : R.length < 5000) (h2 : i ≤ 600) (h3 : 0 ≤ op) (h4 : op ≤ 6) (h5 : ¬ x = ⟨#[]⟩) : roomB (x :: R) op i = true := by
  unfold roomB
  simp only [Bool.and_eq_true, decide_eq_true_iff, Bool.not_eq_true', decide_eq_false_iff_not, List.length_cons]
  exact ⟨⟨⟨⟨by omega, h2⟩, by omega⟩, h4⟩, h5⟩

theorem ends_nt {L : List Tk} {len : Nat} {x : ByteArray} {R : List ByteArray} {op : Int} {i : Nat} {n : NT} {r : Res} (hr : roomB (x :: R) op i = true) (hx : ntOf x = some n) (h : Ends L len (becB n (tAt L i) ++ R) op i r) : Ends L len (x :: R) op i r := by
  obtain ⟨g, h⟩ := h
  refine ⟨g + 1, ?_⟩
  rw [runM, if_pos hr]
  simp only [hx]
  exact h
theorem ends_tok {L : List Tk} {len : Nat} {x : ByteArray} {R : List ByteArray} {op : Int} {i : Nat} {r : Res} (hr : roomB (x :: R) op i = true) (hx : ntOf x = none) (hf : fits x (tAt L i) = true) (hd : op + delta (tAt L i) ≤ 6) (h : Ends L len R (op + delta (tAt L i)) (i + 1) r) : Ends L len (x :: R) op i r := by
  obtain ⟨g, h⟩ := h
  refine ⟨g + 1, ?_⟩
  rw [runM, if_pos hr]
  simp only [hx]
  rw [if_pos hf, if_pos hd]
  exact h
theorem ends_no {L : List Tk} {len : Nat} {x : ByteArray} {R : List ByteArray} {op : Int} {i : Nat} (hr : roomB (x :: R) op i = true) (hx : ntOf x = none) (hf : fits x (tAt L i) = false ∨ 6 < op + delta (tAt L i)) : Ends L len (x :: R) op i (.err (pAt L len i)) := by
  refine ⟨1, ?_⟩
  rw [runM, if_pos hr]
  simp only [hx]
  rcases hf with hf | hf
  · rw [hf]; rfl
  · split
    · rw [if_neg (by omega)]
    · rfl

/-- The parser's state σ with the symbols W to come leads to r. -/
def Run (L : List Tk) (len : Nat) (σ : PSt) (W : List ByteArray) (r : Res) : Prop := if σ.failed = true then r = .err (pAt L len σ.next) else Ends L len W σ.depth σ.next r

/-- From σ to σ' the symbols S are read. -/
def Sim (L : List Tk) (len K : Nat) (S : List ByteArray) (σ σ' : PSt) : Prop := ∀ R r, R.length ≤ K → Run L len σ' R r → Run L len σ (S ++ R) r

theorem Sim.comp {L : List Tk} {len K : Nat} {S1 S2 : List ByteArray} {a b c : PSt} (h1 : Sim L len (K + S2.length) S1 a b) (h2 : Sim L len K S2 b c) : Sim L len K (S1 ++ S2) a c := fun R r hR h => by
  rw [List.append_assoc]
  exact h1 (S2 ++ R) r (by rw [List.length_append]; omega) (h2 R r hR h)
theorem Sim.nil {L : List Tk} {len K : Nat} (a : PSt) : Sim L len K [] a a := fun _ _ _ h => h
theorem Sim.mono {L : List Tk} {len K K' : Nat} {S : List ByteArray} {a b : PSt} (h : Sim L len K S a b) (hK : K' ≤ K) : Sim L len K' S a b := fun R r hR hr => h R r (by omega) hr

/-- What is asked of a state that has not failed. -/
def Fine (L : List Tk) (σ : PSt) : Prop := σ.failed = false → σ.next ≤ L.length ∧ 0 ≤ σ.depth ∧ σ.depth ≤ 6

/-- A symbol that is no token becomes others. -/
theorem sim_nt {L : List Tk} {len K : Nat} {x : ByteArray} {S : List ByteArray} {n : NT} {a b : PSt} (hL : L.length ≤ 500) (ha : Fine L a) (hx : ntOf x = some n) (hK : a.failed = false → K < 5000) (hS : a.failed = false → becB n (tAt L a.next) = S) (h : Sim L len K S a b) : Sim L len K [x] a b := fun R r hR hr => by
  have := h R r hR hr
  unfold Run at this ⊢
  cases hf : a.failed
  · rw [hf] at this
    have hF := ha hf
    have hK := hK hf
    show Ends L len (x :: R) a.depth a.next r
    refine ends_nt (room_mk (by omega) (by omega) hF.2.1 hF.2.2 ?_) hx ?_
    · intro e
      have e0 : ntOf (⟨#[]⟩ : ByteArray) = none := by decide
      rw [e, e0] at hx
      cases hx
    · rw [hS hf]; exact this
  · rw [hf] at this; exact this

theorem tAt_ahead {L : List Tk} {σ : PSt} (h : σ.failed = false) : (σ.ahead L 0).t = tAt L σ.next := by
  by_cases h2 : σ.next < L.length
  · rw [ahead_in h (n := 0) h2, tAt_in h2]; rfl
  · rw [ahead_out (n := 0) h2, tAt_out h2]

theorem tAt_lt {L : List Tk} {i : Nat} {t : ByteArray} (ht : ¬ t = ⟨#[]⟩) (h : tAt L i = t) : i < L.length := by
  by_cases h2 : i < L.length
  · exact h2
  · rw [tAt_out h2] at h; exact absurd h.symm ht

/-- A failed state goes on as it is. -/
def Stuck (σ σ' : PSt) : Prop := σ.failed = true → σ'.failed = true ∧ σ'.next = σ.next
theorem sim_stuck {L : List Tk} {len K : Nat} {S : List ByteArray} {a b : PSt} (hs : a.failed = true) (h : b.failed = true ∧ b.next = a.next) : Sim L len K S a b := fun R r _ hr => by
  unfold Run at hr ⊢
  rw [if_pos h.1, h.2] at hr
  rw [if_pos hs]
  exact hr

/-- A token is taken that is no bracket. -/
theorem sim_take {L : List Tk} {len K : Nat} {t : ByteArray} {a : PSt} (hL : L.length ≤ 500) (ha : Fine L a) (hx : ntOf t = none) (h0 : ¬ t = ⟨#[]⟩) (hN : ¬ t = ⟨#[78, 65, 77, 69]⟩) (hd : delta t = 0) (hK : a.failed = false → K < 5000) : Sim L len K [t] a (a.take L t) ∧ Fine L (a.take L t) := by
  cases hf : a.failed
  · have hF := ha hf
    have hK := hK hf
    have hs : a.sees L t = decide (tAt L a.next = t) := by unfold PSt.sees; rw [tAt_ahead hf]
    by_cases e : tAt L a.next = t
    · have e2 : a.take L t = a.step := by unfold PSt.take; rw [hs, decide_eq_true e]; rfl
      rw [e2]
      refine ⟨fun R r hR hr => ?_, fun _ => ⟨tAt_lt h0 e, hF.2⟩⟩
      unfold Run at hr ⊢
      rw [if_neg (by show ¬ a.failed = true; rw [hf]; simp)] at hr
      rw [if_neg (by rw [hf]; simp)]
      show Ends L len (t :: R) a.depth a.next r
      refine ends_tok (room_mk (by omega) (by omega) hF.2.1 hF.2.2 h0) hx (fits_eq e.symm) (by rw [e, hd]; omega) ?_
      rw [e, hd, Int.add_zero]
      exact hr
    · have e2 : a.take L t = a.fail := by unfold PSt.take; rw [hs, decide_eq_false e]; rfl
      rw [e2]
      refine ⟨fun R r hR hr => ?_, fun h => by cases h⟩
      unfold Run at hr ⊢
      rw [if_pos (by rfl)] at hr
      rw [if_neg (by rw [hf]; simp), hr]
      show Ends L len (t :: R) a.depth a.next _
      exact ends_no (room_mk (by omega) (by omega) hF.2.1 hF.2.2 h0) hx (.inl (fits_no1 (fun h => e h.symm) hN))
  · have e2 : a.take L t = a.fail := by
      unfold PSt.take PSt.sees
      rw [ahead_failed hf, decide_eq_false (fun h => h0 h.symm)]; rfl
    rw [e2]
    exact ⟨sim_stuck hf ⟨rfl, rfl⟩, fun h => by cases h⟩

end RR

/- The parser against the machine: names, brackets. Plain functions. No Go here. -/
namespace RR
open Go Go.RowKit

/-- If it has not failed behind it, at least s tokens were taken, and the depth has turned by k. -/
def Adv (L : List Tk) (s : Nat) (k : Int) (σ σ' : PSt) : Prop := σ'.failed = false → σ.failed = false ∧ σ.next + s ≤ σ'.next ∧ σ'.next ≤ L.length ∧ σ'.depth = σ.depth + k

theorem Adv.trans {L : List Tk} {s s' : Nat} {k k' : Int} {a b c : PSt} (h : Adv L s k a b) (h' : Adv L s' k' b c) : Adv L (s + s') (k + k') a c := fun hc => by
  obtain ⟨h1, h2, h3, h4⟩ := h' hc
  obtain ⟨g1, g2, g3, g4⟩ := h h1
  exact ⟨g1, by omega, h3, by omega⟩
theorem Adv.refl {L : List Tk} {a : PSt} (h : Fine L a) : Adv L 0 0 a a := fun hc => ⟨hc, Nat.le_refl _, (h hc).1, by omega⟩
theorem Adv.fine {L : List Tk} {s : Nat} {a b : PSt} (h : Adv L s 0 a b) (ha : Fine L a) : Fine L b := fun hb => by
  obtain ⟨g1, g2, g3, g4⟩ := h hb
  have := ha g1
  exact ⟨g3, by omega, by omega⟩
theorem Adv.weak {L : List Tk} {s s' : Nat} {k k' : Int} {a b : PSt} (h : Adv L s k a b) (hs : s' ≤ s) (hk : k = k') : Adv L s' k' a b := fun hb => by
  obtain ⟨g1, g2, g3, g4⟩ := h hb
  exact ⟨g1, by omega, g3, by omega⟩

theorem adv_take {L : List Tk} {t : ByteArray} {a : PSt} (h0 : ¬ t = ⟨#[]⟩) : Adv L 1 0 a (a.take L t) := fun h => by
  unfold PSt.take at h ⊢
  cases hs : a.sees L t
  · rw [hs] at h; cases h
  · have := sees_lt h0 hs
    exact ⟨this.2, Nat.le_refl _, this.1, by show a.depth = _; omega⟩

/-- No token has the text of a symbol for names. -/
def NoNm (L : List Tk) : Prop := ∀ i, ¬ tAt L i = ⟨#[78, 65, 77, 69]⟩

theorem adv_name {L : List Tk} {r : Nat} {a : PSt} : Adv L 1 0 a (a.takeName L r) := fun h => by
  unfold PSt.takeName at h ⊢
  cases hs : isNameB (a.ahead L 0).t
  · rw [hs] at h; cases h
  · have := name_lt hs
    exact ⟨this.2, Nat.le_refl _, this.1, by show a.depth = _; omega⟩

theorem sign_name {c : UInt8} (h : isLetterB c = false) : isNameB ⟨#[c]⟩ = false := by
  unfold isNameB
  rw [bl]
  show (isLetterB c && _) = false
  rw [h]; rfl
theorem name_delta {t : ByteArray} (h : isNameB t = true) : delta t = 0 := by
  rcases delta5 t with ⟨rfl, _⟩ | ⟨rfl, _⟩ | ⟨rfl, _⟩ | ⟨rfl, _⟩ | ⟨_, _, _, _, h⟩
  · exact absurd (h.symm.trans (sign_name (by decide))) (by decide)
  · exact absurd (h.symm.trans (sign_name (by decide))) (by decide)
  · exact absurd (h.symm.trans (sign_name (by decide))) (by decide)
  · exact absurd (h.symm.trans (sign_name (by decide))) (by decide)
  · exact h

theorem sim_name {L : List Tk} {len K r : Nat} {a : PSt} (hL : L.length ≤ 500) (hN : NoNm L) (ha : Fine L a) (hK : a.failed = false → K < 5000) : Sim L len K [⟨#[78, 65, 77, 69]⟩] a (a.takeName L r) := by
  have hx : ntOf (⟨#[78, 65, 77, 69]⟩ : ByteArray) = none := by decide
  have h0 : ¬ (⟨#[78, 65, 77, 69]⟩ : ByteArray) = ⟨#[]⟩ := by decide
  cases hf : a.failed
  · have hF := ha hf
    have hK := hK hf
    cases e : isNameB (tAt L a.next)
    · have e2 : a.takeName L r = a.fail := by unfold PSt.takeName; rw [tAt_ahead hf, e]; rfl
      rw [e2]
      intro R r hR hr
      unfold Run at hr ⊢
      rw [if_pos (by rfl)] at hr
      rw [if_neg (by rw [hf]; simp), hr]
      show Ends L len (_ :: R) a.depth a.next _
      exact ends_no (room_mk (by omega) (by omega) hF.2.1 hF.2.2 h0) hx (.inl (fits_no2 (fun h => hN a.next h.symm) e))
    · have e2 : a.takeName L r = { a with next := a.next + 1, names := a.names ++ [⟨(a.ahead L 0).t, (a.ahead L 0).p, r, a.proc⟩] } := by unfold PSt.takeName; rw [tAt_ahead hf, e]; rfl
      rw [e2]
      intro R r hR hr
      unfold Run at hr ⊢
      rw [if_neg (by show ¬ a.failed = true; rw [hf]; simp)] at hr
      rw [if_neg (by rw [hf]; simp)]
      show Ends L len (_ :: R) a.depth a.next r
      refine ends_tok (room_mk (by omega) (by omega) hF.2.1 hF.2.2 h0) hx (fits_name rfl e) (by rw [name_delta e]; omega) ?_
      rw [name_delta e, Int.add_zero]
      exact hr
  · have e2 : a.takeName L r = a.fail := by
      unfold PSt.takeName
      rw [ahead_failed hf, isName_empty rfl]; rfl
    rw [e2]
    exact sim_stuck hf ⟨rfl, rfl⟩

theorem wrap_small {z : Int} (h : -100 ≤ z) (h2 : z ≤ 100) : wrap64 z = z := by
  unfold wrap64
  omega

/-- A bracket is opened. -/
theorem sim_enter {L : List Tk} {len K : Nat} {t : ByteArray} {a : PSt} (hL : L.length ≤ 500) (ha : Fine L a) (hx : ntOf t = none) (h0 : ¬ t = ⟨#[]⟩) (hN : ¬ t = ⟨#[78, 65, 77, 69]⟩) (hd : delta t = 1) (hK : a.failed = false → K < 5000) :
    Sim L len K [t] a (enterP L a t) ∧ Fine L (enterP L a t) ∧ Adv L 1 1 a (enterP L a t) := by
  cases hf : a.failed
  · have hF := ha hf
    have hK := hK hf
    have hs : a.sees L t = decide (tAt L a.next = t) := by unfold PSt.sees; rw [tAt_ahead hf]
    by_cases e6 : 6 ≤ a.depth
    · have e2 : enterP L a t = a.fail := by unfold enterP; rw [if_pos e6]
      rw [e2]
      refine ⟨fun R r hR hr => ?_, fun h => (by cases h), fun h => (by cases h)⟩
      unfold Run at hr ⊢
      rw [if_pos (by rfl)] at hr
      rw [if_neg (by rw [hf]; simp), hr]
      show Ends L len (t :: R) a.depth a.next _
      refine ends_no (room_mk (by omega) (by omega) hF.2.1 hF.2.2 h0) hx ?_
      by_cases e : tAt L a.next = t
      · right; rw [e, hd]; omega
      · left; exact fits_no1 (fun h => e h.symm) hN
    · by_cases e : tAt L a.next = t
      · have e2 : enterP L a t = { a.step with depth := wrap64 (a.depth + 1) } := by unfold enterP PSt.take; rw [if_neg e6, hs, decide_eq_true e]; rfl
        have ew : wrap64 (a.depth + 1) = a.depth + 1 := wrap_small (by omega) (by omega)
        rw [e2, ew]
        refine ⟨fun R r hR hr => ?_, fun _ => ⟨tAt_lt h0 e, by show 0 ≤ a.depth + 1; omega, by show a.depth + 1 ≤ 6; omega⟩, fun _ => ⟨hf, Nat.le_refl _, tAt_lt h0 e, rfl⟩⟩
        unfold Run at hr ⊢
        rw [if_neg (by show ¬ a.failed = true; rw [hf]; simp)] at hr
        rw [if_neg (by rw [hf]; simp)]
        show Ends L len (t :: R) a.depth a.next r
        refine ends_tok (room_mk (by omega) (by omega) hF.2.1 hF.2.2 h0) hx (fits_eq e.symm) (by rw [e, hd]; omega) ?_
        rw [e, hd]
        exact hr
      · have e2 : (enterP L a t).failed = true ∧ (enterP L a t).next = a.next := by
          have : enterP L a t = { a.fail with depth := wrap64 (a.depth + 1) } := by unfold enterP PSt.take; rw [if_neg e6, hs, decide_eq_false e]; rfl
          rw [this]; exact ⟨rfl, rfl⟩
        refine ⟨fun R r hR hr => ?_, fun h => (by rw [e2.1] at h; cases h), fun h => (by rw [e2.1] at h; cases h)⟩
        unfold Run at hr ⊢
        rw [if_pos e2.1, e2.2] at hr
        rw [if_neg (by rw [hf]; simp), hr]
        show Ends L len (t :: R) a.depth a.next _
        exact ends_no (room_mk (by omega) (by omega) hF.2.1 hF.2.2 h0) hx (.inl (fits_no1 (fun h => e h.symm) hN))
  · have e2 : (enterP L a t).failed = true ∧ (enterP L a t).next = a.next := by
      unfold enterP
      split
      · exact ⟨rfl, rfl⟩
      · have : a.take L t = a.fail := by
          unfold PSt.take PSt.sees
          rw [ahead_failed hf, decide_eq_false (fun h => h0 h.symm)]; rfl
        rw [this]; exact ⟨rfl, rfl⟩
    exact ⟨sim_stuck hf e2, fun h => (by rw [e2.1] at h; cases h), fun h => (by rw [e2.1] at h; cases h)⟩

/-- A bracket is shut. -/
theorem sim_leave {L : List Tk} {len K : Nat} {t : ByteArray} {a : PSt} (hL : L.length ≤ 500) (ha : Fine L a) (hx : ntOf t = none) (h0 : ¬ t = ⟨#[]⟩) (hN : ¬ t = ⟨#[78, 65, 77, 69]⟩) (hd : delta t = -1) (hK : a.failed = false → K < 5000) :
    Sim L len K [t] a (leaveP L a t) ∧ Adv L 1 (-1) a (leaveP L a t) := by
  cases hf : a.failed
  · have hF := ha hf
    have hK := hK hf
    have hs : a.sees L t = decide (tAt L a.next = t) := by unfold PSt.sees; rw [tAt_ahead hf]
    by_cases e : tAt L a.next = t
    · have e2 : leaveP L a t = { a.step with depth := wrap64 (a.depth - 1) } := by unfold leaveP PSt.take; rw [hs, decide_eq_true e]; rfl
      have ew : wrap64 (a.depth - 1) = a.depth + -1 := (wrap_small (by omega) (by omega)).trans (by omega)
      rw [e2, ew]
      refine ⟨fun R r hR hr => ?_, fun _ => ⟨hf, Nat.le_refl _, tAt_lt h0 e, rfl⟩⟩
      unfold Run at hr ⊢
      rw [if_neg (by show ¬ a.failed = true; rw [hf]; simp)] at hr
      rw [if_neg (by rw [hf]; simp)]
      show Ends L len (t :: R) a.depth a.next r
      refine ends_tok (room_mk (by omega) (by omega) hF.2.1 hF.2.2 h0) hx (fits_eq e.symm) (by rw [e, hd]; omega) ?_
      rw [e, hd]
      exact hr
    · have e2 : (leaveP L a t).failed = true ∧ (leaveP L a t).next = a.next := by
        have : leaveP L a t = { a.fail with depth := wrap64 (a.depth - 1) } := by unfold leaveP PSt.take; rw [hs, decide_eq_false e]; rfl
        rw [this]; exact ⟨rfl, rfl⟩
      refine ⟨fun R r hR hr => ?_, fun h => (by rw [e2.1] at h; cases h)⟩
      unfold Run at hr ⊢
      rw [if_pos e2.1, e2.2] at hr
      rw [if_neg (by rw [hf]; simp), hr]
      show Ends L len (t :: R) a.depth a.next _
      exact ends_no (room_mk (by omega) (by omega) hF.2.1 hF.2.2 h0) hx (.inl (fits_no1 (fun h => e h.symm) hN))
  · have e2 : (leaveP L a t).failed = true ∧ (leaveP L a t).next = a.next := by
      unfold leaveP
      have : a.take L t = a.fail := by
        unfold PSt.take PSt.sees
        rw [ahead_failed hf, decide_eq_false (fun h => h0 h.symm)]; rfl
      rw [this]; exact ⟨rfl, rfl⟩
    exact ⟨sim_stuck hf e2, fun h => (by rw [e2.1] at h; cases h)⟩

end RR

/- The parser against the machine: expressions. Plain functions. No Go here. -/
namespace RR
open Go Go.RowKit

def meas (L : List Tk) (σ : PSt) : Nat := if σ.failed = true then 0 else L.length - σ.next + 1
def Room (c K : Nat) (σ : PSt) : Prop := σ.failed = false → (K : Int) + 40 * (8 - σ.depth) ≤ c

/-- With enough fuel there is an end, and the machine goes with it. -/
def TT (L : List Tk) (len : Nat) (P : Nat → PSt → Option PSt) (c : Nat) (S : List ByteArray) (s rm m : Nat) : Prop :=
  ∀ σ f K, Fine L σ → meas L σ ≤ m → 5 * m + c ≤ f → Room rm K σ → ∃ σ', P f σ = some σ' ∧ Sim L len K S σ σ' ∧ Adv L s 0 σ σ'

theorem meas_failed {L : List Tk} {σ : PSt} (h : σ.failed = true) : meas L σ = 0 := by unfold meas; rw [if_pos h]
theorem meas_ok {L : List Tk} {σ : PSt} (h : σ.failed = false) : meas L σ = L.length - σ.next + 1 := by unfold meas; rw [if_neg (by rw [h]; simp)]
theorem meas_adv {L : List Tk} {s : Nat} {k : Int} {a b : PSt} (h : Adv L s k a b) : meas L b ≤ meas L a := by
  cases hb : b.failed
  · obtain ⟨g1, g2, g3, g4⟩ := h hb
    rw [meas_ok hb, meas_ok g1]; omega
  · rw [meas_failed hb]; exact Nat.zero_le _
theorem meas_lt {L : List Tk} {k : Int} {a b : PSt} (h : Adv L 1 k a b) (ha : 1 ≤ meas L a) : meas L b + 1 ≤ meas L a := by
  cases hb : b.failed
  · obtain ⟨g1, g2, g3, g4⟩ := h hb
    rw [meas_ok hb, meas_ok g1]; omega
  · rw [meas_failed hb]; omega
theorem Room.adv {L : List Tk} {c K s : Nat} {a b : PSt} (h : Room c K a) (hA : Adv L s 0 a b) : Room c K b := fun hb => by
  obtain ⟨g1, g2, g3, g4⟩ := hA hb
  have := h g1
  omega
theorem Room.more {c c' K K' : Nat} {a : PSt} (h : Room c K a) (hc : K' + c ≤ K + c') : Room c' K' a := fun ha => by have := h ha; omega
theorem Room.up {L : List Tk} {c K c' K' s : Nat} {a b : PSt} (h : Room c K a) (hA : Adv L s 1 a b) (hc : K' + c ≤ K + c' + 40) : Room c' K' b := fun hb => by
  obtain ⟨g1, g2, g3, g4⟩ := hA hb
  have := h g1
  omega
theorem Room.lt {L : List Tk} {c K : Nat} {a : PSt} (h : Room c K a) (hF : Fine L a) (hc : c ≤ 4900) : a.failed = false → K + 20 < 5000 := fun ha => by
  have := h ha
  have := hF ha
  omega

theorem Sim.congr {L : List Tk} {len K : Nat} {S : List ByteArray} {a b c : PSt} (h : Sim L len K S a b) (h1 : c.failed = b.failed) (h2 : c.next = b.next) (h3 : c.depth = b.depth) : Sim L len K S a c := fun R r hR hr => by
  refine h R r hR ?_
  unfold Run at hr ⊢
  rw [h1, h2, h3] at hr
  exact hr

/-- As many ! as there are. -/
theorem nots_tt {L : List Tk} {len : Nat} (hL : L.length ≤ 500) : ∀ (f : Nat) (σ : PSt), Fine L σ → meas L σ < f → ∃ σ1, notsP L f σ = some σ1 ∧ Adv L 0 0 σ σ1 ∧ (σ1.sees L ⟨#[33]⟩ = false) ∧ ∀ K b, (σ.failed = false → K + 1 < 5000) → Sim L len K [NT.nFactor.enc] σ1 b → Sim L len K [NT.nFactor.enc] σ b := by
  intro f
  induction f with
  | zero => intro σ _ h; omega
  | succ f ih =>
    intro σ hF hm
    rw [notsP]
    cases hs : σ.sees L ⟨#[33]⟩
    · exact ⟨σ, rfl, Adv.refl hF, hs, fun K b _ h => h⟩
    · have hlt := sees_lt (by decide) hs
      have hA : Adv L 1 0 σ (σ.take L ⟨#[33]⟩) := adv_take (by decide)
      have hm1 := meas_lt hA (by rw [meas_ok hlt.2]; omega)
      obtain ⟨σ1, h1, h2, h3, h4⟩ := ih (σ.take L ⟨#[33]⟩) (hA.fine hF) (by omega)
      refine ⟨σ1, h1, (hA.trans h2).weak (Nat.zero_le _) rfl, h3, fun K b hK h => ?_⟩
      have e : tAt L σ.next = ⟨#[33]⟩ := by unfold PSt.sees at hs; rw [tAt_ahead hlt.2] at hs; exact of_decide_eq_true hs
      refine sim_nt hL hF (n := .nFactor) (S := [⟨#[33]⟩] ++ [NT.nFactor.enc]) (by decide) (fun h => by have := hK h; omega) (fun _ => by rw [e]; rfl) ?_
      exact Sim.comp (sim_take hL hF (by decide) (by decide) (by decide) (by decide) (fun h => hK h)).1 (h4 K b (fun h => hK (hA h).1) h)

theorem bracketed_tt {L : List Tk} {len m : Nat} (hL : L.length ≤ 500) (he : TT L len (exprP L) 5 [NT.nExpr.enc] 1 4000 m) (σ : PSt) (f K : Nat) (hF : Fine L σ) (hm : ∀ k, Adv L 1 1 σ k → meas L k ≤ m) (hf : 5 * m + 6 ≤ f) (hR : Room 4020 K σ) :
    ∃ σ', bracketedP L f σ = some σ' ∧ Sim L len K [⟨#[40]⟩, NT.nExpr.enc, ⟨#[41]⟩] σ σ' ∧ Adv L 2 0 σ σ' := by
  obtain ⟨f, rfl⟩ : ∃ g, f = g + 1 := ⟨f - 1, by omega⟩
  have hK := hR.lt hF (by omega)
  obtain ⟨s1, f1, a1⟩ := sim_enter (len := len) (K := K + 2) (t := ⟨#[40]⟩) hL hF (by decide) (by decide) (by decide) (by decide) (fun h => by have := hK h; omega)
  obtain ⟨b, h1, h2, h3⟩ := he (enterP L σ ⟨#[40]⟩) f (K + 1) f1 (hm _ a1) (by omega) (hR.up a1 (by omega))
  obtain ⟨s3, a3⟩ := sim_leave (len := len) (K := K) (t := ⟨#[41]⟩) hL (h3.fine f1) (by decide) (by decide) (by decide) (by decide) (fun h => by have := hK (a1 (h3 h).1).1; omega)
  refine ⟨leaveP L b ⟨#[41]⟩, by rw [bracketedP_succ, h1]; rfl, ?_, ((a1.trans h3).trans a3).weak (by omega) (by omega)⟩
  exact Sim.comp (S1 := [⟨#[40]⟩]) s1 (Sim.comp (S1 := [NT.nExpr.enc]) h2 s3)

theorem nt_name {t : ByteArray} (h : isNameB t = true) : ntOf t = none := by
  unfold ntOf
  rw [List.find?_eq_none]
  intro n _ hn
  have e := of_decide_eq_true hn
  rw [← e] at h
  have e2 : isNameB n.enc = false := by unfold NT.enc; split <;> (unfold isNameB; rw [bl]; rfl)
  rw [e2] at h
  cases h

theorem kw_true : isNameB ⟨#[116, 114, 117, 101]⟩ = false := by unfold isNameB; rw [bl]; decide
theorem kw_false : isNameB ⟨#[102, 97, 108, 115, 101]⟩ = false := by unfold isNameB; rw [bl]; decide

theorem bec_factor (t : ByteArray) : becB .nFactor t = if t = ⟨#[33]⟩ then [⟨#[33]⟩, NT.nFactor.enc] else if t = ⟨#[40]⟩ then [⟨#[40]⟩, NT.nExpr.enc, ⟨#[41]⟩] else if isNameB t = true then [t] else if t = ⟨#[116, 114, 117, 101]⟩ then [⟨#[116, 114, 117, 101]⟩] else if t = ⟨#[102, 97, 108, 115, 101]⟩ then [⟨#[102, 97, 108, 115, 101]⟩] else if t = ⟨#[63]⟩ then [⟨#[63]⟩] else [⟨#[78, 65, 77, 69]⟩] := rfl
theorem factor_tt {L : List Tk} {len m : Nat} (hL : L.length ≤ 500) (hN : NoNm L) (ih : ∀ k, k < m → TT L len (exprP L) 5 [NT.nExpr.enc] 1 4000 k) : TT L len (factorP L) 3 [NT.nFactor.enc] 1 4010 m := by
  intro σ f K hF hm hf hR
  obtain ⟨f, rfl⟩ : ∃ g, f = g + 1 := ⟨f - 1, by omega⟩
  rw [factorP_succ]
  have hK := hR.lt hF (by omega)
  obtain ⟨σ1, h1, hA, hs, hnot⟩ := nots_tt (len := len) hL f σ hF (by omega)
  rw [h1]
  show ∃ σ', (if (σ1.ahead L 0).t = ⟨#[40]⟩ then bracketedP L f σ1
      else if (σ1.ahead L 0).t = ⟨#[116, 114, 117, 101]⟩ ∨ (σ1.ahead L 0).t = ⟨#[102, 97, 108, 115, 101]⟩ ∨ (σ1.ahead L 0).t = ⟨#[63]⟩ then some (σ1.take L (σ1.ahead L 0).t)
      else some (σ1.takeName L 4)) = some σ' ∧ _ ∧ _
  have hF1 := hA.fine hF
  have hR1 := hR.adv hA
  have hm1 := meas_adv hA
  have hK1 := hR1.lt hF1 (by omega)
  have fin : ∀ b, Sim L len K [NT.nFactor.enc] σ1 b → Adv L 1 0 σ1 b → Sim L len K [NT.nFactor.enc] σ b ∧ Adv L 1 0 σ b := fun b hb hab => ⟨hnot K b (fun h => by have := hK h; omega) hb, (hA.trans hab).weak (by omega) (by omega)⟩
  cases hfa : σ1.failed
  · rw [tAt_ahead hfa]
    have ns : ¬ tAt L σ1.next = ⟨#[33]⟩ := by
      unfold PSt.sees at hs; rw [tAt_ahead hfa] at hs; exact of_decide_eq_false hs
    by_cases e1 : tAt L σ1.next = ⟨#[40]⟩
    · rw [if_pos e1]
      have hpos : 1 ≤ meas L σ1 := by rw [meas_ok hfa]; omega
      obtain ⟨b, g1, g2, g3⟩ := bracketed_tt (m := m - 1) hL (ih (m - 1) (by omega)) σ1 f K hF1 (fun k hk => by have := meas_lt hk hpos; omega) (by omega) (hR1.more (by omega))
      have := fin b (sim_nt hL hF1 (n := .nFactor) (by decide) (fun h => by have := hK1 h; omega) (fun _ => by rw [e1]; rfl) g2) (g3.weak (by omega) rfl)
      exact ⟨b, g1, this.1, this.2⟩
    · rw [if_neg e1]
      by_cases e2 : tAt L σ1.next = ⟨#[116, 114, 117, 101]⟩ ∨ tAt L σ1.next = ⟨#[102, 97, 108, 115, 101]⟩ ∨ tAt L σ1.next = ⟨#[63]⟩
      · rw [if_pos e2]
        have key : ∀ t, tAt L σ1.next = t → ntOf t = none → ¬ t = ⟨#[]⟩ → ¬ t = ⟨#[78, 65, 77, 69]⟩ → delta t = 0 → becB .nFactor t = [t] → ∃ σ', some (σ1.take L (tAt L σ1.next)) = some σ' ∧ Sim L len K [NT.nFactor.enc] σ σ' ∧ Adv L 1 0 σ σ' := fun t et q1 q2 q3 q4 q5 => by
          rw [et]
          have := fin (σ1.take L t) (sim_nt hL hF1 (n := .nFactor) (by decide) (fun h => by have := hK1 h; omega) (fun _ => by rw [et]; exact q5) (sim_take hL hF1 q1 q2 q3 q4 (fun h => by have := hK1 h; omega)).1) (adv_take q2)
          exact ⟨_, rfl, this.1, this.2⟩
        rcases e2 with e2 | e2 | e2
        · exact key _ e2 (by decide) (by decide) (by decide) (by decide) (by rw [bec_factor, kw_true]; decide)
        · exact key _ e2 (by decide) (by decide) (by decide) (by decide) (by rw [bec_factor, kw_false]; decide)
        · exact key _ e2 (by decide) (by decide) (by decide) (by decide) (by rw [bec_factor, sign_name (by decide)]; decide)
      · rw [if_neg e2]
        have n1 : ¬ tAt L σ1.next = ⟨#[116, 114, 117, 101]⟩ := fun h => e2 (.inl h)
        have n2 : ¬ tAt L σ1.next = ⟨#[102, 97, 108, 115, 101]⟩ := fun h => e2 (.inr (.inl h))
        have n3 : ¬ tAt L σ1.next = ⟨#[63]⟩ := fun h => e2 (.inr (.inr h))
        cases en : isNameB (tAt L σ1.next)
        · have := fin (σ1.takeName L 4) (sim_nt hL hF1 (n := .nFactor) (by decide) (fun h => by have := hK1 h; omega) (fun _ => by
            rw [bec_factor, if_neg ns, if_neg e1, en, if_neg (by decide), if_neg n1, if_neg n2, if_neg n3]) (sim_name hL hN hF1 (fun h => by have := hK1 h; omega))) adv_name
          exact ⟨_, rfl, this.1, this.2⟩
        · have h0 : ¬ tAt L σ1.next = ⟨#[]⟩ := fun h => by rw [h, isName_empty rfl] at en; cases en
          have st := (sim_take (len := len) (K := K) hL hF1 (nt_name en) h0 (hN _) (name_delta en) (fun h => by have := hK1 h; omega)).1
          have e3 : σ1.take L (tAt L σ1.next) = σ1.step := by unfold PSt.take PSt.sees; rw [tAt_ahead hfa, decide_eq_true rfl]; rfl
          rw [e3] at st
          have e4 : σ1.takeName L 4 = { σ1 with next := σ1.next + 1, names := σ1.names ++ [⟨(σ1.ahead L 0).t, (σ1.ahead L 0).p, 4, σ1.proc⟩] } := by unfold PSt.takeName; rw [tAt_ahead hfa, en]; rfl
          have := fin (σ1.takeName L 4) (sim_nt hL hF1 (n := .nFactor) (by decide) (fun h => by have := hK1 h; omega) (fun _ => by
            rw [bec_factor, if_neg ns, if_neg e1, if_pos en]) (st.congr (by rw [e4]; rfl) (by rw [e4]; rfl) (by rw [e4]; rfl))) adv_name
          exact ⟨_, rfl, this.1, this.2⟩
  · rw [ahead_failed hfa, if_neg (by decide), if_neg (by decide)]
    have e2 : σ1.takeName L 4 = σ1.fail := by
      unfold PSt.takeName
      rw [ahead_failed hfa, isName_empty rfl]; rfl
    have := fin (σ1.takeName L 4) (by rw [e2]; exact sim_stuck hfa ⟨rfl, rfl⟩) adv_name
    exact ⟨_, rfl, this.1, this.2⟩

/-- Members with a sign between them. -/
theorem loop_tt {L : List Tk} {len m c c' rm : Nat} {P Q : Nat → PSt → Option PSt} {x S t : ByteArray} {n : NT} (hL : L.length ≤ 500) (hrm : rm ≤ 4890) (hx : ntOf x = some n) (ht : ntOf t = none) (h0 : ¬ t = ⟨#[]⟩) (hNm : ¬ t = ⟨#[78, 65, 77, 69]⟩) (hd : delta t = 0)
    (hb : ∀ u, becB n u = if u = t then [t, S, x] else [])
    (hQ : ∀ f σ, Q (f + 1) σ = if σ.sees L t then (P f σ.step).bind (Q f) else some σ) (hc : c ≤ 5) (hc' : c' ≤ 5) (hc1 : 1 ≤ c')
    (ihP : ∀ k, k < m → TT L len P c [S] 1 (rm + 5) k) (ihQ : ∀ k, k < m → TT L len Q c' [x] 0 rm k) : TT L len Q c' [x] 0 rm m := by
  intro σ f K hF hm hf hR
  obtain ⟨f, rfl⟩ : ∃ g, f = g + 1 := ⟨f - 1, by omega⟩
  rw [hQ]
  have hK := hR.lt hF (by omega)
  cases hs : σ.sees L t
  · refine ⟨σ, rfl, ?_, Adv.refl hF⟩
    cases hfa : σ.failed
    · refine sim_nt (S := []) hL hF hx (fun h => by have := hK h; omega) (fun _ => ?_) (Sim.nil σ)
      rw [hb, if_neg]
      unfold PSt.sees at hs; rw [tAt_ahead hfa] at hs; exact of_decide_eq_false hs
    · exact sim_stuck hfa ⟨hfa, rfl⟩
  · have hlt := sees_lt h0 hs
    have e : tAt L σ.next = t := by unfold PSt.sees at hs; rw [tAt_ahead hlt.2] at hs; exact of_decide_eq_true hs
    have et : σ.take L t = σ.step := by unfold PSt.take; rw [hs]; rfl
    have hA : Adv L 1 0 σ σ.step := et ▸ adv_take (L := L) (a := σ) h0
    have hpos : 1 ≤ meas L σ := by rw [meas_ok hlt.2]; omega
    have hm1 := meas_lt hA hpos
    obtain ⟨a, g1, g2, g3⟩ := ihP (m - 1) (by omega) σ.step f (K + 1) (hA.fine hF) (by omega) (by omega) ((hR.adv hA).more (by omega))
    obtain ⟨b, k1, k2, k3⟩ := ihQ (m - 1) (by omega) a f K (g3.fine (hA.fine hF)) (by have := meas_adv g3; omega) (by omega) ((hR.adv hA).adv g3)
    refine ⟨b, by rw [if_pos rfl, g1]; exact k1, ?_, ((hA.trans g3).trans k3).weak (Nat.zero_le _) (by omega)⟩
    refine sim_nt (S := [t] ++ ([S] ++ [x])) hL hF hx (fun h => by have := hK h; omega) (fun _ => by rw [hb, if_pos e]; rfl) ?_
    exact Sim.comp (et ▸ (sim_take hL hF ht h0 hNm hd (fun h => by have := hK h; show K + 2 < 5000; omega)).1) (Sim.comp g2 k2)

/-- One member, and what comes behind it. -/
theorem pair_tt {L : List Tk} {len m d rm : Nat} {P Q E : Nat → PSt → Option PSt} {x S y : ByteArray} {n : NT} (hL : L.length ≤ 500) (hrm : rm ≤ 4890) (hy : ntOf y = some n) (hb : ∀ u, becB n u = [S, x])
    (hE : ∀ f σ, E (f + 1) σ = (P f σ).bind (Q f)) (hc : d ≤ 4)
    (hP : TT L len P d [S] 1 (rm + 5) m) (hQ : TT L len Q 1 [x] 0 rm m) (hd : 1 ≤ d) : TT L len E (d + 1) [y] 1 rm m := by
  intro σ f K hF hm hf hR
  obtain ⟨f, rfl⟩ : ∃ g, f = g + 1 := ⟨f - 1, by omega⟩
  rw [hE]
  have hK := hR.lt hF (by omega)
  obtain ⟨a, g1, g2, g3⟩ := hP σ f (K + 1) hF hm (by omega) (hR.more (by omega))
  obtain ⟨b, k1, k2, k3⟩ := hQ a f K (g3.fine hF) (by have := meas_adv g3; omega) (by omega) (hR.adv g3)
  refine ⟨b, by rw [g1]; exact k1, ?_, (g3.trans k3).weak (by omega) (by omega)⟩
  exact sim_nt (S := [S] ++ [x]) hL hF hy (fun h => by have := hK h; omega) (fun _ => hb _) (Sim.comp g2 k2)

theorem exprs_tt {L : List Tk} {len : Nat} (hL : L.length ≤ 500) (hN : NoNm L) (m : Nat) : TT L len (exprP L) 5 [NT.nExpr.enc] 1 4000 m ∧ TT L len (orP L) 1 [NT.nOr.enc] 0 4000 m ∧ TT L len (termP L) 4 [NT.nTerm.enc] 1 4005 m ∧ TT L len (andP L) 1 [NT.nAnd.enc] 0 4005 m ∧ TT L len (factorP L) 3 [NT.nFactor.enc] 1 4010 m := by
  induction m using Nat.strongRecOn with
  | ind m ih =>
    have hfac := factor_tt hL hN (fun k hk => (ih k hk).1)
    have hand : TT L len (andP L) 1 [NT.nAnd.enc] 0 4005 m := loop_tt (P := factorP L) (c := 3) (S := NT.nFactor.enc) (t := ⟨#[38]⟩) (n := .nAnd) hL (by omega) (by decide) (by decide) (by decide) (by decide) (by decide) (fun u => rfl) (fun f σ => by rw [andP_succ]) (by omega) (by omega) (by omega) (fun k hk => (ih k hk).2.2.2.2) (fun k hk => (ih k hk).2.2.2.1)
    have hterm : TT L len (termP L) 4 [NT.nTerm.enc] 1 4005 m := pair_tt (d := 3) (n := .nTerm) hL (by omega) (by decide) (fun u => rfl) (fun f σ => by rw [termP_succ]) (by omega) hfac hand (by omega)
    have hor : TT L len (orP L) 1 [NT.nOr.enc] 0 4000 m := loop_tt (P := termP L) (c := 4) (S := NT.nTerm.enc) (t := ⟨#[124]⟩) (n := .nOr) hL (by omega) (by decide) (by decide) (by decide) (by decide) (by decide) (fun u => rfl) (fun f σ => by rw [orP_succ]) (by omega) (by omega) (by omega) (fun k hk => (ih k hk).2.2.1) (fun k hk => (ih k hk).2.1)
    exact ⟨pair_tt (d := 4) (n := .nExpr) hL (by omega) (by decide) (fun u => rfl) (fun f σ => by rw [exprP_succ]) (by omega) hterm hor (by omega), hor, hterm, hand, hfac⟩

end RR

/- The parser against the machine: lists of names, values, calls, what stands behind a sign of assignment. Plain functions. No Go here. -/
namespace RR
open Go Go.RowKit

theorem Sim.head {L : List Tk} {len K : Nat} {S S' : List ByteArray} {a b : PSt} (h : Sim L len K S a b) (hc : a.failed = false → ∀ R r, R.length ≤ K → Ends L len (S ++ R) a.depth a.next r → Ends L len (S' ++ R) a.depth a.next r) : Sim L len K S' a b := fun R r hR hr => by
  have := h R r hR hr
  unfold Run at this ⊢
  cases hf : a.failed
  · rw [hf] at this; exact hc hf R r hR this
  · rw [hf] at this; exact this

theorem names_one {L : List Tk} {len role : Nat} (hL : L.length ≤ 500) (hN : NoNm L) (m : Nat) : TT L len (fun _ σ => some (σ.takeName L role)) 0 [⟨#[78, 65, 77, 69]⟩] 1 4805 m := fun σ f K hF hm hf hR =>
  ⟨_, rfl, sim_name hL hN hF (fun h => by have := hR.lt hF (by omega) h; omega), adv_name⟩

/-- More names, with commas ahead of them. -/
theorem more_tt {L : List Tk} {len role : Nat} (hL : L.length ≤ 500) (hN : NoNm L) (m : Nat) : TT L len (moreP L role) 1 [NT.nMore.enc] 0 4800 m := by
  induction m using Nat.strongRecOn with
  | ind m ih =>
    exact loop_tt (P := fun _ σ => some (σ.takeName L role)) (c := 0) (S := ⟨#[78, 65, 77, 69]⟩) (t := ⟨#[44]⟩) (n := .nMore) hL (by omega) (by decide) (by decide) (by decide) (by decide) (by decide) (fun u => rfl) (fun f σ => by rw [moreP]; rfl) (by omega) (by omega) (by omega) (fun k _ => names_one hL hN k) ih

/-- Names. -/
theorem names_tt {L : List Tk} {len role : Nat} (hL : L.length ≤ 500) (hN : NoNm L) (m : Nat) : TT L len (fun f σ => moreP L role f (σ.takeName L role)) 1 [NT.nNames.enc] 1 4795 m := by
  intro σ f K hF hm hf hR
  have hK := hR.lt hF (by omega)
  have hA : Adv L 1 0 σ (σ.takeName L role) := adv_name
  obtain ⟨b, k1, k2, k3⟩ := more_tt (len := len) (role := role) hL hN m (σ.takeName L role) f K (hA.fine hF) (by have := meas_adv hA; omega) hf ((hR.adv hA).more (by omega))
  refine ⟨b, k1, ?_, (hA.trans k3).weak (by omega) (by omega)⟩
  refine sim_nt (S := [⟨#[78, 65, 77, 69]⟩] ++ [NT.nMore.enc]) (n := .nNames) hL hF (by decide) (fun h => by have := hK h; omega) (fun _ => rfl) ?_
  exact Sim.comp (sim_name hL hN hF (fun h => by have := hK h; show K + 1 < 5000; omega)) k2

/-- More values, with commas ahead of them. -/
theorem values_tt {L : List Tk} {len : Nat} (hL : L.length ≤ 500) (hN : NoNm L) (m : Nat) : ∀ n, ∀ σ f K, Fine L σ → meas L σ ≤ m → 5 * m + 5 ≤ f → Room 3995 K σ → ∃ r, valuesP L f σ n = some r ∧ Sim L len K [NT.nValue.enc] σ r.1 ∧ Adv L 0 0 σ r.1 := by
  induction m using Nat.strongRecOn with
  | ind m ih =>
    intro n σ f K hF hm hf hR
    obtain ⟨f, rfl⟩ : ∃ g, f = g + 1 := ⟨f - 1, by omega⟩
    rw [valuesP]
    have hK := hR.lt hF (by omega)
    cases hs : σ.sees L ⟨#[44]⟩
    · refine ⟨(σ, n), rfl, ?_, Adv.refl hF⟩
      cases hfa : σ.failed
      · refine sim_nt (n := .nValue) (S := []) hL hF (by decide) (fun h => by have := hK h; omega) (fun _ => ?_) (Sim.nil σ)
        show (if _ then _ else _) = _
        rw [if_neg]
        unfold PSt.sees at hs; rw [tAt_ahead hfa] at hs; exact of_decide_eq_false hs
      · exact sim_stuck hfa ⟨hfa, rfl⟩
    · have hlt := sees_lt (by decide) hs
      have e : tAt L σ.next = ⟨#[44]⟩ := by unfold PSt.sees at hs; rw [tAt_ahead hlt.2] at hs; exact of_decide_eq_true hs
      have et : σ.take L ⟨#[44]⟩ = σ.step := by unfold PSt.take; rw [hs]; rfl
      have hA : Adv L 1 0 σ σ.step := et ▸ adv_take (L := L) (a := σ) (by decide)
      have hpos : 1 ≤ meas L σ := by rw [meas_ok hlt.2]; omega
      have hm1 := meas_lt hA hpos
      obtain ⟨a, g1, g2, g3⟩ := (exprs_tt (len := len) hL hN (m - 1)).1 σ.step f (K + 1) (hA.fine hF) (by omega) (by omega) ((hR.adv hA).more (by omega))
      obtain ⟨b, k1, k2, k3⟩ := ih (m - 1) (by omega) (n + 1) a f K (g3.fine (hA.fine hF)) (by have := meas_adv g3; omega) (by omega) ((hR.adv hA).adv g3)
      refine ⟨b, by rw [if_pos rfl, g1]; exact k1, ?_, ((hA.trans g3).trans k3).weak (Nat.zero_le _) (by omega)⟩
      refine sim_nt (n := .nValue) (S := [⟨#[44]⟩] ++ ([NT.nExpr.enc] ++ [NT.nValue.enc])) hL hF (by decide) (fun h => by have := hK h; omega) (fun _ => by show (if _ then _ else _) = _; rw [if_pos e]; rfl) ?_
      exact Sim.comp (et ▸ (sim_take hL hF (by decide) (by decide) (by decide) (by decide) (fun h => by have := hK h; show K + 2 < 5000; omega)).1) (Sim.comp g2 k2)

/-- What a call is behind its name. -/
theorem call_tt {L : List Tk} {len : Nat} (hL : L.length ≤ 500) (hN : NoNm L) (m : Nat) : TT L len (callP L) 10 [⟨#[78, 65, 77, 69]⟩, ⟨#[40]⟩, NT.nValues.enc, ⟨#[41]⟩] 3 4020 m := by
  intro σ f K hF hm hf hR
  have hK := hR.lt hF (by omega)
  have hA : Adv L 1 0 σ (σ.takeName L 6) := adv_name
  have s0 := sim_name (len := len) (K := K + 3) (r := 6) hL hN hF (fun h => by have := hK h; omega)
  have hK1 := (hR.adv hA).lt (hA.fine hF) (by omega)
  obtain ⟨s1, f1, a1⟩ := sim_enter (len := len) (K := K + 2) (t := ⟨#[40]⟩) hL (hA.fine hF) (by decide) (by decide) (by decide) (by decide) (fun h => by have := hK1 h; omega)
  have hR2 : Room 3990 (K + 1) (enterP L (σ.takeName L 6) ⟨#[40]⟩) := (hR.adv hA).up a1 (by omega)
  have hK2 := hR2.lt f1 (by omega)
  have hm2 := Nat.le_trans (meas_adv a1) (meas_adv hA)
  -- the values
  have hv : ∃ r, (if (enterP L (σ.takeName L 6) ⟨#[40]⟩).sees L ⟨#[41]⟩ then some (enterP L (σ.takeName L 6) ⟨#[40]⟩, 0)
   else (exprP L f (enterP L (σ.takeName L 6) ⟨#[40]⟩)).bind fun τ => valuesP L f τ 1) = some r ∧ Sim L len (K + 1) [NT.nValues.enc] (enterP L (σ.takeName L 6) ⟨#[40]⟩) r.1 ∧ Adv L 0 0 (enterP L (σ.takeName L 6) ⟨#[40]⟩) r.1 := by
    generalize enterP L (σ.takeName L 6) ⟨#[40]⟩ = e at f1 hR2 hK2 hm2
    cases hs : e.sees L ⟨#[41]⟩
    · obtain ⟨a, g1, g2, g3⟩ := (exprs_tt (len := len) hL hN m).1 e f (K + 2) f1 (by omega) (by omega) (hR2.more (by omega))
      obtain ⟨b, k1, k2, k3⟩ := values_tt (len := len) hL hN m 1 a f (K + 1) (g3.fine f1) (by have := meas_adv g3; omega) (by omega) ((hR2.adv g3).more (by omega))
      refine ⟨b, by rw [if_neg (by decide), g1]; exact k1, ?_, (g3.trans k3).weak (by omega) (by omega)⟩
      cases hfa : e.failed
      · refine sim_nt (n := .nValues) (S := [NT.nExpr.enc] ++ [NT.nValue.enc]) hL f1 (by decide) (fun h => by have := hK2 h; omega) (fun _ => ?_) (Sim.comp g2 k2)
        show (if _ then _ else _) = _
        rw [if_neg]; · rfl
        unfold PSt.sees at hs; rw [tAt_ahead hfa] at hs; exact of_decide_eq_false hs
      · exact (Sim.comp g2 k2).head (fun h => by rw [hfa] at h; cases h)
    · have hlt := sees_lt (by decide) hs
      have e4 : tAt L e.next = ⟨#[41]⟩ := by unfold PSt.sees at hs; rw [tAt_ahead hlt.2] at hs; exact of_decide_eq_true hs
      refine ⟨(e, 0), rfl, ?_, Adv.refl f1⟩
      exact sim_nt (n := .nValues) (S := []) hL f1 (by decide) (fun h => by have := hK2 h; omega) (fun _ => by show (if _ then _ else _) = _; rw [if_pos e4]) (Sim.nil e)
  obtain ⟨r, h1, h2, h3⟩ := hv
  obtain ⟨s3, a3⟩ := sim_leave (len := len) (K := K) (t := ⟨#[41]⟩) hL (h3.fine f1) (by decide) (by decide) (by decide) (by decide) (fun h => by have := hK2 (h3 h).1; omega)
  refine ⟨{ leaveP L r.1 ⟨#[41]⟩ with calls := (leaveP L r.1 ⟨#[41]⟩).calls ++ [⟨(σ.ahead L 0).t, (σ.ahead L 0).p, r.2⟩] }, by unfold callP; rw [h1]; rfl, ?_, ?_⟩
  · exact (Sim.comp (S1 := [⟨#[78, 65, 77, 69]⟩]) s0 (Sim.comp (S1 := [⟨#[40]⟩]) s1 (Sim.comp (S1 := [NT.nValues.enc]) h2 s3))).congr rfl rfl rfl
  · have := ((hA.trans a1).trans h3).trans a3
    exact fun hb => (this.weak (by omega) (by omega) : Adv L 3 0 σ (leaveP L r.1 ⟨#[41]⟩)) hb

end RR

/- The parser against the machine: assignments, returns. Plain functions. No Go here. -/
namespace RR
open Go Go.RowKit

theorem ends_nt_inv {L : List Tk} {len : Nat} {x : ByteArray} {R : List ByteArray} {op : Int} {i : Nat} {n : NT} {r : Res} (h : Ends L len (x :: R) op i r) (hx : ntOf x = some n) : Ends L len (becB n (tAt L i) ++ R) op i r := by
  obtain ⟨g, h⟩ := h
  cases g with
  | zero => rw [runM] at h; cases h
  | succ g => exact ⟨g, runM_nt h hx⟩
theorem ends_tok_inv {L : List Tk} {len : Nat} {x : ByteArray} {R : List ByteArray} {op : Int} {i : Nat} {r : Res} (h : Ends L len (x :: R) op i r) (hx : ntOf x = none) (hf : fits x (tAt L i) = true) (hd : op + delta (tAt L i) ≤ 6) : Ends L len R (op + delta (tAt L i)) (i + 1) r := by
  obtain ⟨g, h⟩ := h
  cases g with
  | zero => rw [runM] at h; cases h
  | succ g =>
    have := runM_tok h hx
    rw [if_pos hf, if_pos hd] at this
    exact ⟨g, this⟩

def kName : ByteArray := ⟨#[78, 65, 77, 69]⟩

/-- A name that no bracket follows begins an EXPR: the same behind the sign of assignment. -/
theorem ends_right {L : List Tk} {len : Nat} {R : List ByteArray} {op : Int} {i : Nat} {r : Res} (hR : R.length < 4900) (hi : i < 500) (h0 : 0 ≤ op) (h6 : op ≤ 6) (hn : isNameB (tAt L i) = true) (hb : ¬ tAt L (i + 1) = ⟨#[40]⟩)
    (h : Ends L len (NT.nExpr.enc :: R) op i r) : Ends L len (NT.nRight.enc :: R) op i r := by
  have h1 := ends_nt_inv h (n := .nExpr) (by decide)
  have h2 : Ends L len (NT.nFactor.enc :: NT.nAnd.enc :: NT.nOr.enc :: R) op i r := ends_nt_inv h1 (n := .nTerm) (by decide)
  have h3 := ends_nt_inv h2 (n := .nFactor) (by decide)
  have n1 : ¬ tAt L i = ⟨#[33]⟩ := fun e => by rw [e, sign_name (by decide)] at hn; cases hn
  have n2 : ¬ tAt L i = ⟨#[40]⟩ := fun e => by rw [e, sign_name (by decide)] at hn; cases hn
  rw [bec_factor, if_neg n1, if_neg n2, if_pos hn] at h3
  have h4 : Ends L len (NT.nAnd.enc :: NT.nOr.enc :: R) (op + delta (tAt L i)) (i + 1) r := ends_tok_inv h3 (nt_name hn) (fits_eq rfl) (by rw [name_delta hn]; omega)
  refine ends_nt (room_mk (by omega) (by omega) h0 h6 (by decide)) (n := .nRight) (by decide) ?_
  rw [show becB .nRight (tAt L i) = [⟨#[78, 65, 77, 69]⟩, NT.nLater.enc] from if_pos hn]
  refine ends_tok (R := NT.nLater.enc :: R) (room_mk (by rw [List.length_cons]; omega) (by omega) h0 h6 (by decide)) (by decide) (fits_name rfl hn) (by rw [name_delta hn]; omega) ?_
  have hd := name_delta hn
  refine ends_nt (room_mk (by omega) (by omega) (by omega) (by omega) (by decide)) (n := .nLater) (by decide) ?_
  rw [show becB .nLater (tAt L (i + 1)) = [NT.nAnd.enc, NT.nOr.enc] from if_neg hb]
  exact h4

/-- A call behind the sign of assignment. -/
theorem ends_later {L : List Tk} {len : Nat} {R : List ByteArray} {op : Int} {i : Nat} {r : Res} (hR : R.length < 4900) (hi : i < 500) (h0 : 0 ≤ op) (h6 : op ≤ 6) (hn : isNameB (tAt L i) = true) (hb : tAt L (i + 1) = ⟨#[40]⟩)
    (h : Ends L len ([⟨#[78, 65, 77, 69]⟩, ⟨#[40]⟩, NT.nValues.enc, ⟨#[41]⟩] ++ R) op i r) : Ends L len (NT.nRight.enc :: R) op i r := by
  have hd := name_delta hn
  have h4 := ends_tok_inv h (by decide) (fits_name rfl hn) (by rw [hd]; omega)
  refine ends_nt (room_mk (by omega) (by omega) h0 h6 (by decide)) (n := .nRight) (by decide) ?_
  rw [show becB .nRight (tAt L i) = [⟨#[78, 65, 77, 69]⟩, NT.nLater.enc] from if_pos hn]
  refine ends_tok (R := NT.nLater.enc :: R) (room_mk (by rw [List.length_cons]; omega) (by omega) h0 h6 (by decide)) (by decide) (fits_name rfl hn) (by rw [hd]; omega) ?_
  refine ends_nt (room_mk (by omega) (by omega) (by omega) (by omega) (by decide)) (n := .nLater) (by decide) ?_
  rw [show becB .nLater (tAt L (i + 1)) = [⟨#[40]⟩, NT.nValues.enc, ⟨#[41]⟩] from if_pos hb]
  exact h4

theorem tAt_ahead1 {L : List Tk} {σ : PSt} (h : σ.failed = false) : (σ.ahead L 1).t = tAt L (σ.next + 1) := by
  by_cases h2 : σ.next + 1 < L.length
  · rw [ahead_in h h2, tAt_in h2]
  · rw [ahead_out h2, tAt_out h2]

theorem call_false {L : List Tk} {σ : PSt} (h : σ.failed = false) (hn : isNameB (tAt L σ.next) = true) (hs : σ.seesCall L = false) : ¬ tAt L (σ.next + 1) = ⟨#[40]⟩ := fun e => by
  unfold PSt.seesCall at hs
  rw [tAt_ahead h, tAt_ahead1 h, hn, e] at hs
  exact absurd hs (by decide)
theorem call_true {L : List Tk} {σ : PSt} (hs : σ.seesCall L = true) : σ.failed = false ∧ σ.next < L.length ∧ isNameB (tAt L σ.next) = true ∧ tAt L (σ.next + 1) = ⟨#[40]⟩ := by
  unfold PSt.seesCall at hs
  rw [Bool.and_eq_true] at hs
  have := name_lt hs.1
  refine ⟨this.2, this.1, by rw [← tAt_ahead this.2]; exact hs.1, by rw [← tAt_ahead1 this.2]; exact of_decide_eq_true hs.2⟩
theorem name_next {L : List Tk} {i : Nat} (h : isNameB (tAt L i) = true) : i < L.length := by
  by_cases h2 : i < L.length
  · exact h2
  · rw [tAt_out h2, isName_empty rfl] at h; cases h

theorem assigned_tt {L : List Tk} {len : Nat} (hL : L.length ≤ 500) (hN : NoNm L) (m : Nat) : TT L len (assignedP L) 10 [NT.nRight.enc] 1 4000 m := by
  intro σ f K hF hm hf hR
  have hK := hR.lt hF (by omega)
  unfold assignedP
  cases hs : σ.seesCall L
  · obtain ⟨b, g1, g2, g3⟩ := (exprs_tt (len := len) hL hN m).1 σ f K hF hm (by omega) hR
    refine ⟨b, by rw [if_neg (by decide)]; exact g1, ?_, g3⟩
    refine g2.head (fun hfa R r hRl h => ?_)
    have hFa := hF hfa
    have hKa := hR hfa
    show Ends L len (NT.nRight.enc :: R) σ.depth σ.next r
    cases hn : isNameB (tAt L σ.next)
    · refine ends_nt (room_mk (by omega) (by omega) hFa.2.1 hFa.2.2 (by decide)) (n := .nRight) (by decide) ?_
      rw [show becB .nRight (tAt L σ.next) = [NT.nExpr.enc] from if_neg (by rw [hn]; decide)]
      exact h
    · exact ends_right (by omega) (by have := name_next hn; omega) hFa.2.1 hFa.2.2 hn (call_false hfa hn hs) h
  · obtain ⟨q1, q2, q3, q4⟩ := call_true hs
    obtain ⟨b, g1, g2, g3⟩ := call_tt (len := len) hL hN m σ f K hF hm (by omega) (hR.more (by omega))
    refine ⟨b, by rw [if_pos rfl]; exact g1, ?_, g3.weak (by omega) rfl⟩
    refine g2.head (fun hfa R r hRl h => ?_)
    have hFa := hF hfa
    have hKa := hR hfa
    show Ends L len (NT.nRight.enc :: R) σ.depth σ.next r
    exact ends_later (by omega) (by omega) hFa.2.1 hFa.2.2 q3 q4 h

theorem ends_no_inv {L : List Tk} {len : Nat} {x : ByteArray} {R : List ByteArray} {op : Int} {i : Nat} {r : Res} (h : Ends L len (x :: R) op i r) (hx : ntOf x = none) (hf : fits x (tAt L i) = false) : r = .err (pAt L len i) := by
  obtain ⟨g, h⟩ := h
  cases g with
  | zero => rw [runM] at h; cases h
  | succ g =>
    have := runM_tok h hx
    rw [hf] at this
    exact (Option.some.inj this).symm

theorem aoc_tt {L : List Tk} {len : Nat} (hL : L.length ≤ 500) (hN : NoNm L) (m : Nat) (σ : PSt) (f K : Nat) (hF : Fine L σ) (hm : meas L σ ≤ m) (hf : 5 * m + 10 ≤ f) (hR : Room 3990 K σ)
    (hno : σ.failed = false → isNameB (tAt L σ.next) = false → becB .nStmt (tAt L σ.next) = [⟨#[115, 107, 105, 112]⟩, ⟨#[59]⟩] ∧ ¬ tAt L σ.next = ⟨#[115, 107, 105, 112]⟩) :
    ∃ σ', assignOrCallP L f σ = some σ' ∧ Sim L len K [NT.nStmt.enc] σ σ' ∧ Adv L 1 0 σ σ' := by
  have hK := hR.lt hF (by omega)
  unfold assignOrCallP
  cases hs : σ.seesCall L
  · have a1 : Adv L 1 0 σ (σ.takeName L 4) := adv_name
    have s1 := sim_name (len := len) (K := K + 3) (r := 4) hL hN hF (fun h => by have := hK h; omega)
    have f1 := a1.fine hF
    have a2 : Adv L 1 0 (σ.takeName L 4) ((σ.takeName L 4).take L ⟨#[61]⟩) := adv_take (by decide)
    have s2 := (sim_take (len := len) (K := K + 2) (t := ⟨#[61]⟩) hL f1 (by decide) (by decide) (by decide) (by decide) (fun h => by have := hK (a1 h).1; omega)).1
    have f2 := a2.fine f1
    obtain ⟨b, g1, g2, g3⟩ := assigned_tt (len := len) hL hN m ((σ.takeName L 4).take L ⟨#[61]⟩) f (K + 1) f2 (by have := meas_adv a1; have := meas_adv a2; omega) hf (((hR.adv a1).adv a2).more (by omega))
    have f3 := g3.fine f2
    have s4 := (sim_take (len := len) (K := K) (t := ⟨#[59]⟩) hL f3 (by decide) (by decide) (by decide) (by decide) (fun h => by have := hK (a1 (a2 (g3 h).1).1).1; omega)).1
    refine ⟨b.take L ⟨#[59]⟩, by rw [if_neg (by decide), g1]; rfl, ?_, (((a1.trans a2).trans g3).trans (adv_take (by decide))).weak (by omega) (by omega)⟩
    refine (Sim.comp (S1 := [⟨#[78, 65, 77, 69]⟩]) s1 (Sim.comp (S1 := [⟨#[61]⟩]) s2 (Sim.comp (S1 := [NT.nRight.enc]) g2 s4))).head (fun hfa R r hRl h => ?_)
    have hFa := hF hfa
    have hKa := hR hfa
    show Ends L len (NT.nStmt.enc :: R) σ.depth σ.next r
    have h' : Ends L len (⟨#[78, 65, 77, 69]⟩ :: ([⟨#[61]⟩, NT.nRight.enc, ⟨#[59]⟩] ++ R)) σ.depth σ.next r := h
    refine ends_nt (room_mk (by omega) (by omega) hFa.2.1 hFa.2.2 (by decide)) (n := .nStmt) (by decide) ?_
    cases hn : isNameB (tAt L σ.next)
    · have := hno hfa hn
      rw [this.1]
      have er := ends_no_inv h' (by decide) (fits_no2 (fun e => hN _ e.symm) hn)
      rw [er]
      exact ends_no (R := ⟨#[59]⟩ :: R) (room_mk (by rw [List.length_cons]; omega) (by omega) hFa.2.1 hFa.2.2 (by decide)) (by decide) (.inl (fits_no1 (fun e => this.2 e.symm) (by decide)))
    · have hd := name_delta hn
      have hlt := name_next hn
      have h4 := ends_tok_inv h' (by decide) (fits_name rfl hn) (by rw [hd]; omega)
      rw [show becB .nStmt (tAt L σ.next) = [⟨#[78, 65, 77, 69]⟩, NT.nBehind.enc] from if_pos hn]
      refine ends_tok (R := NT.nBehind.enc :: R) (room_mk (by rw [List.length_cons]; omega) (by omega) hFa.2.1 hFa.2.2 (by decide)) (by decide) (fits_name rfl hn) (by rw [hd]; omega) ?_
      refine ends_nt (room_mk (by omega) (by omega) (by omega) (by omega) (by decide)) (n := .nBehind) (by decide) ?_
      rw [show becB .nBehind (tAt L (σ.next + 1)) = [⟨#[61]⟩, NT.nRight.enc, ⟨#[59]⟩] from if_neg (call_false hfa hn hs)]
      exact h4
  · obtain ⟨q1, q2, q3, q4⟩ := call_true hs
    obtain ⟨b, g1, g2, g3⟩ := call_tt (len := len) hL hN m σ f (K + 1) hF hm (by omega) (hR.more (by omega))
    have s4 := (sim_take (len := len) (K := K) (t := ⟨#[59]⟩) hL (g3.fine hF) (by decide) (by decide) (by decide) (by decide) (fun h => by have := hK (g3 h).1; omega)).1
    refine ⟨b.take L ⟨#[59]⟩, by rw [if_pos rfl, g1]; rfl, ?_, (g3.trans (adv_take (by decide))).weak (by omega) (by omega)⟩
    refine (Sim.comp g2 s4).head (fun hfa R r hRl h => ?_)
    have hFa := hF hfa
    have hKa := hR hfa
    show Ends L len (NT.nStmt.enc :: R) σ.depth σ.next r
    have h' : Ends L len (⟨#[78, 65, 77, 69]⟩ :: ([⟨#[40]⟩, NT.nValues.enc, ⟨#[41]⟩, ⟨#[59]⟩] ++ R)) σ.depth σ.next r := h
    have hd := name_delta q3
    have h4 := ends_tok_inv h' (by decide) (fits_name rfl q3) (by rw [hd]; omega)
    refine ends_nt (room_mk (by omega) (by omega) hFa.2.1 hFa.2.2 (by decide)) (n := .nStmt) (by decide) ?_
    rw [show becB .nStmt (tAt L σ.next) = [⟨#[78, 65, 77, 69]⟩, NT.nBehind.enc] from if_pos q3]
    refine ends_tok (R := NT.nBehind.enc :: R) (room_mk (by rw [List.length_cons]; omega) (by omega) hFa.2.1 hFa.2.2 (by decide)) (by decide) (fits_name rfl q3) (by rw [hd]; omega) ?_
    refine ends_nt (room_mk (by omega) (by omega) (by omega) (by omega) (by decide)) (n := .nBehind) (by decide) ?_
    rw [show becB .nBehind (tAt L (σ.next + 1)) = [⟨#[40]⟩, NT.nValues.enc, ⟨#[41]⟩, ⟨#[59]⟩] from if_pos q4]
    exact h4

theorem give_tt {L : List Tk} {len : Nat} (hL : L.length ≤ 500) (hN : NoNm L) (m : Nat) : TT L len (giveBackP L) 10 [⟨#[114, 101, 116, 117, 114, 110]⟩, NT.nResult.enc, ⟨#[59]⟩] 1 3990 m := by
  intro σ f K hF hm hf hR
  have hK := hR.lt hF (by omega)
  unfold giveBackP
  have a1 : Adv L 1 0 σ (σ.take L ⟨#[114, 101, 116, 117, 114, 110]⟩) := adv_take (by decide)
  have s1 := (sim_take (len := len) (K := K + 2) (t := ⟨#[114, 101, 116, 117, 114, 110]⟩) hL hF (by decide) (by decide) (by decide) (by decide) (fun h => by have := hK h; omega)).1
  have f1 := a1.fine hF
  have hR1 := hR.adv a1
  have hm1 := meas_adv a1
  have hK1 := hR1.lt f1 (by omega)
  generalize σ.take L ⟨#[114, 101, 116, 117, 114, 110]⟩ = e at a1 s1 f1 hR1 hm1 hK1
  have hv : ∃ τ, (if e.sees L ⟨#[59]⟩ then some e else exprP L f e) = some τ ∧ Sim L len (K + 1) [NT.nResult.enc] e τ ∧ Adv L 0 0 e τ := by
    cases hs : e.sees L ⟨#[59]⟩
    · obtain ⟨a, g1, g2, g3⟩ := (exprs_tt (len := len) hL hN m).1 e f (K + 1) f1 (by omega) (by omega) (hR1.more (by omega))
      refine ⟨a, by rw [if_neg (by decide)]; exact g1, ?_, g3.weak (by omega) rfl⟩
      cases hfa : e.failed
      · refine sim_nt (n := .nResult) (S := [NT.nExpr.enc]) hL f1 (by decide) (fun h => by have := hK1 h; omega) (fun _ => ?_) g2
        show (if _ then _ else _) = _
        rw [if_neg]; · rfl
        unfold PSt.sees at hs; rw [tAt_ahead hfa] at hs; exact of_decide_eq_false hs
      · exact g2.head (fun h => by rw [hfa] at h; cases h)
    · have hlt := sees_lt (by decide) hs
      have e4 : tAt L e.next = ⟨#[59]⟩ := by unfold PSt.sees at hs; rw [tAt_ahead hlt.2] at hs; exact of_decide_eq_true hs
      refine ⟨e, rfl, ?_, Adv.refl f1⟩
      exact sim_nt (n := .nResult) (S := []) hL f1 (by decide) (fun h => by have := hK1 h; omega) (fun _ => by show (if _ then _ else _) = _; rw [if_pos e4]) (Sim.nil e)
  obtain ⟨τ, h1, h2, h3⟩ := hv
  have s3 := (sim_take (len := len) (K := K) (t := ⟨#[59]⟩) hL (h3.fine f1) (by decide) (by decide) (by decide) (by decide) (fun h => by have := hK1 (h3 h).1; omega)).1
  exact ⟨τ.take L ⟨#[59]⟩, by rw [h1]; rfl, Sim.comp (S1 := [⟨#[114, 101, 116, 117, 114, 110]⟩]) s1 (Sim.comp (S1 := [NT.nResult.enc]) h2 s3), ((a1.trans h3).trans (adv_take (by decide))).weak (by omega) (by omega)⟩

end RR

/- The parser against the machine: statements, blocks. Plain functions. No Go here. -/
namespace RR
open Go Go.RowKit

/-- As TT, with more fuel. -/
def TU (L : List Tk) (len : Nat) (P : Nat → PSt → Option PSt) (c : Nat) (S : List ByteArray) (s rm m : Nat) : Prop :=
  ∀ σ f K, Fine L σ → meas L σ ≤ m → 10 * m + c ≤ f → Room rm K σ → ∃ σ', P f σ = some σ' ∧ Sim L len K S σ σ' ∧ Adv L s 0 σ σ'

theorem kw_if : isNameB ⟨#[105, 102]⟩ = false := by unfold isNameB; rw [bl]; decide
theorem kw_while : isNameB ⟨#[119, 104, 105, 108, 101]⟩ = false := by unfold isNameB; rw [bl]; decide
theorem kw_assume : isNameB ⟨#[97, 115, 115, 117, 109, 101]⟩ = false := by unfold isNameB; rw [bl]; decide
theorem kw_acquire : isNameB ⟨#[97, 99, 113, 117, 105, 114, 101]⟩ = false := by unfold isNameB; rw [bl]; decide
theorem kw_release : isNameB ⟨#[114, 101, 108, 101, 97, 115, 101]⟩ = false := by unfold isNameB; rw [bl]; decide
theorem kw_return : isNameB ⟨#[114, 101, 116, 117, 114, 110]⟩ = false := by unfold isNameB; rw [bl]; decide
theorem kw_skip : isNameB ⟨#[115, 107, 105, 112]⟩ = false := by unfold isNameB; rw [bl]; decide

theorem bec_stmt (t : ByteArray) : becB .nStmt t = if isNameB t = true then [⟨#[78, 65, 77, 69]⟩, NT.nBehind.enc] else if t = ⟨#[105, 102]⟩ then [⟨#[105, 102]⟩, ⟨#[40]⟩, NT.nExpr.enc, ⟨#[41]⟩, NT.nBlock.enc, NT.nElse.enc] else if t = ⟨#[119, 104, 105, 108, 101]⟩ then [⟨#[119, 104, 105, 108, 101]⟩, ⟨#[40]⟩, NT.nExpr.enc, ⟨#[41]⟩, NT.nBlock.enc]
    else if t = ⟨#[97, 115, 115, 117, 109, 101]⟩ then [⟨#[97, 115, 115, 117, 109, 101]⟩, NT.nExpr.enc, ⟨#[59]⟩] else if t = ⟨#[97, 99, 113, 117, 105, 114, 101]⟩ then [⟨#[97, 99, 113, 117, 105, 114, 101]⟩, ⟨#[78, 65, 77, 69]⟩, ⟨#[59]⟩] else if t = ⟨#[114, 101, 108, 101, 97, 115, 101]⟩ then [⟨#[114, 101, 108, 101, 97, 115, 101]⟩, ⟨#[78, 65, 77, 69]⟩, ⟨#[59]⟩]
    else if t = ⟨#[114, 101, 116, 117, 114, 110]⟩ then [⟨#[114, 101, 116, 117, 114, 110]⟩, NT.nResult.enc, ⟨#[59]⟩] else [⟨#[115, 107, 105, 112]⟩, ⟨#[59]⟩] := rfl

/-- An if. -/
theorem branch_tt {L : List Tk} {len m : Nat} (hL : L.length ≤ 500) (hN : NoNm L) (ih : TU L len (blockP L) 14 [NT.nBlock.enc] 1 4000 m) (σ : PSt) (f K : Nat) (hF : Fine L σ) (hm : meas L σ ≤ m + 1) (hf : 10 * m + 20 ≤ f) (hR : Room 3990 K σ) :
    ∃ σ', branchP L f σ = some σ' ∧ Sim L len K [⟨#[105, 102]⟩, ⟨#[40]⟩, NT.nExpr.enc, ⟨#[41]⟩, NT.nBlock.enc, NT.nElse.enc] σ σ' ∧ Adv L 1 0 σ σ' := by
  obtain ⟨f, rfl⟩ : ∃ g, f = g + 1 := ⟨f - 1, by omega⟩
  have hK := hR.lt hF (by omega)
  have a1 : Adv L 1 0 σ (σ.take L ⟨#[105, 102]⟩) := adv_take (by decide)
  have s1 := (sim_take (len := len) (K := K + 5) (t := ⟨#[105, 102]⟩) hL hF (by decide) (by decide) (by decide) (by decide) (fun h => by have := hK h; omega)).1
  have f1 := a1.fine hF
  have hm1 : meas L (σ.take L ⟨#[105, 102]⟩) ≤ m := by
    cases h : σ.failed
    · have := meas_lt a1 (by rw [meas_ok h]; omega); omega
    · have := meas_adv a1; rw [meas_failed h] at this; omega
  obtain ⟨a, g1, g2, g3⟩ := bracketed_tt (len := len) hL (exprs_tt hL hN m).1 (σ.take L ⟨#[105, 102]⟩) f (K + 2) f1 (fun k hk => by have := meas_adv hk; omega) (by omega) ((hR.adv a1).more (by omega))
  have f2 := g3.fine f1
  obtain ⟨b, k1, k2, k3⟩ := ih a f (K + 1) f2 (by have := meas_adv g3; omega) (by omega) (((hR.adv a1).adv g3).more (by omega))
  have f3 := k3.fine f2
  have hR3 := ((hR.adv a1).adv g3).adv k3
  have hK3 := hR3.lt f3 (by omega)
  have hm3 : meas L b ≤ m := by have := meas_adv g3; have := meas_adv k3; omega
  have hv : ∃ c, (if b.sees L ⟨#[101, 108, 115, 101]⟩ then blockP L f b.step else some b) = some c ∧ Sim L len K [NT.nElse.enc] b c ∧ Adv L 0 0 b c := by
    cases hs : b.sees L ⟨#[101, 108, 115, 101]⟩
    · refine ⟨b, rfl, ?_, Adv.refl f3⟩
      cases hfa : b.failed
      · refine sim_nt (n := .nElse) (S := []) hL f3 (by decide) (fun h => by have := hK3 h; omega) (fun _ => ?_) (Sim.nil b)
        show (if _ then _ else _) = _
        rw [if_neg]
        unfold PSt.sees at hs; rw [tAt_ahead hfa] at hs; exact of_decide_eq_false hs
      · exact sim_stuck hfa ⟨hfa, rfl⟩
    · have hlt := sees_lt (by decide) hs
      have e4 : tAt L b.next = ⟨#[101, 108, 115, 101]⟩ := by unfold PSt.sees at hs; rw [tAt_ahead hlt.2] at hs; exact of_decide_eq_true hs
      have et : b.take L ⟨#[101, 108, 115, 101]⟩ = b.step := by unfold PSt.take; rw [hs]; rfl
      have hA : Adv L 1 0 b b.step := et ▸ adv_take (L := L) (a := b) (by decide)
      obtain ⟨c, q1, q2, q3⟩ := ih b.step f K (hA.fine f3) (by have := meas_adv hA; omega) (by omega) ((hR3.adv hA).more (by omega))
      refine ⟨c, by rw [if_pos rfl]; exact q1, ?_, (hA.trans q3).weak (by omega) (by omega)⟩
      refine sim_nt (n := .nElse) (S := [⟨#[101, 108, 115, 101]⟩] ++ [NT.nBlock.enc]) hL f3 (by decide) (fun h => by have := hK3 h; omega) (fun _ => by show (if _ then _ else _) = _; rw [if_pos e4]; rfl) ?_
      exact Sim.comp (et ▸ (sim_take hL f3 (by decide) (by decide) (by decide) (by decide) (fun h => by have := hK3 h; show K + 1 < 5000; omega)).1) q2
  obtain ⟨c, q1, q2, q3⟩ := hv
  refine ⟨c, ?_, ?_, (((a1.trans g3).trans k3).trans q3).weak (by omega) (by omega)⟩
  · rw [branchP_succ, g1]
    show (blockP L f a).bind _ = _
    rw [k1]
    exact q1
  · exact Sim.comp (S1 := [⟨#[105, 102]⟩]) s1 (Sim.comp (S1 := [⟨#[40]⟩, NT.nExpr.enc, ⟨#[41]⟩]) g2 (Sim.comp (S1 := [NT.nBlock.enc]) k2 q2))

/-- A statement, where nothing has failed. -/
theorem stmt_tt {L : List Tk} {len m : Nat} (hL : L.length ≤ 500) (hN : NoNm L) (ih : TU L len (blockP L) 14 [NT.nBlock.enc] 1 4000 m) (σ : PSt) (f K : Nat) (hfa : σ.failed = false) (hF : Fine L σ) (hm : meas L σ ≤ m + 1) (hf : 10 * m + 22 ≤ f) (hR : Room 3990 K σ) :
    ∃ σ', statementP L f σ = some σ' ∧ Sim L len K [NT.nStmt.enc] σ σ' ∧ Adv L 1 0 σ σ' := by
  obtain ⟨f, rfl⟩ : ∃ g, f = g + 1 := ⟨f - 1, by omega⟩
  have hK := hR.lt hF (by omega) hfa
  have nt : ∀ {S b}, becB .nStmt (tAt L σ.next) = S → Sim L len K S σ b → Sim L len K [NT.nStmt.enc] σ b := fun hS h => sim_nt (n := .nStmt) hL hF (by decide) (fun _ => by omega) (fun _ => hS) h
  have tk : ∀ (t : ByteArray) (j : Nat), j ≤ 10 → ntOf t = none → ¬ t = ⟨#[]⟩ → ¬ t = ⟨#[78, 65, 77, 69]⟩ → delta t = 0 → Sim L len (K + j) [t] σ (σ.take L t) := fun t j hj q1 q2 q3 q4 => (sim_take hL hF q1 q2 q3 q4 (fun _ => by omega)).1
  have mt : ∀ t : ByteArray, ¬ t = ⟨#[]⟩ → meas L (σ.take L t) ≤ m := fun t ht => by
    have := meas_lt (adv_take (L := L) (a := σ) ht) (by rw [meas_ok hfa]; omega); omega
  rw [statementP_succ]
  rw [tAt_ahead hfa]
  by_cases e1 : tAt L σ.next = ⟨#[105, 102]⟩
  · rw [if_pos e1]
    obtain ⟨b, g1, g2, g3⟩ := branch_tt hL hN ih σ f K hF hm (by omega) hR
    exact ⟨b, g1, nt (by rw [bec_stmt, e1, kw_if]; rfl) g2, g3⟩
  rw [if_neg e1]
  by_cases e2 : tAt L σ.next = ⟨#[119, 104, 105, 108, 101]⟩
  · rw [if_pos e2]
    have a1 : Adv L 1 0 σ (σ.take L ⟨#[119, 104, 105, 108, 101]⟩) := adv_take (by decide)
    have f1 := a1.fine hF
    have hm1 := mt ⟨#[119, 104, 105, 108, 101]⟩ (by decide)
    obtain ⟨a, g1, g2, g3⟩ := bracketed_tt (len := len) hL (exprs_tt hL hN m).1 (σ.take L ⟨#[119, 104, 105, 108, 101]⟩) f (K + 1) f1 (fun k hk => by have := meas_adv hk; omega) (by omega) ((hR.adv a1).more (by omega))
    obtain ⟨b, k1, k2, k3⟩ := ih a f K (g3.fine f1) (by have := meas_adv g3; omega) (by omega) (((hR.adv a1).adv g3).more (by omega))
    refine ⟨b, by rw [g1]; exact k1, nt (S := [⟨#[119, 104, 105, 108, 101]⟩] ++ ([⟨#[40]⟩, NT.nExpr.enc, ⟨#[41]⟩] ++ [NT.nBlock.enc])) (by rw [bec_stmt, e2, kw_while]; rfl) ?_, ((a1.trans g3).trans k3).weak (by omega) (by omega)⟩
    exact Sim.comp (tk _ 4 (by omega) (by decide) (by decide) (by decide) (by decide)) (Sim.comp g2 k2)
  rw [if_neg e2]
  by_cases e3 : tAt L σ.next = ⟨#[97, 115, 115, 117, 109, 101]⟩
  · rw [if_pos e3]
    have a1 : Adv L 1 0 σ (σ.take L ⟨#[97, 115, 115, 117, 109, 101]⟩) := adv_take (by decide)
    have f1 := a1.fine hF
    have hm1 := mt ⟨#[97, 115, 115, 117, 109, 101]⟩ (by decide)
    obtain ⟨b, g1, g2, g3⟩ := (exprs_tt (len := len) hL hN m).1 (σ.take L ⟨#[97, 115, 115, 117, 109, 101]⟩) f (K + 1) f1 hm1 (by omega) ((hR.adv a1).more (by omega))
    refine ⟨b.take L ⟨#[59]⟩, by rw [g1]; rfl, nt (S := [⟨#[97, 115, 115, 117, 109, 101]⟩] ++ ([NT.nExpr.enc] ++ [⟨#[59]⟩])) (by rw [bec_stmt, e3, kw_assume]; rfl) ?_, ((a1.trans g3).trans (adv_take (by decide))).weak (by omega) (by omega)⟩
    exact Sim.comp (tk _ 2 (by omega) (by decide) (by decide) (by decide) (by decide)) (Sim.comp g2 (sim_take hL (g3.fine f1) (by decide) (by decide) (by decide) (by decide) (fun _ => by omega)).1)
  rw [if_neg e3]
  by_cases e4 : tAt L σ.next = ⟨#[97, 99, 113, 117, 105, 114, 101]⟩ ∨ tAt L σ.next = ⟨#[114, 101, 108, 101, 97, 115, 101]⟩
  · rw [if_pos e4]
    have key : ∀ t, tAt L σ.next = t → ntOf t = none → ¬ t = ⟨#[]⟩ → ¬ t = ⟨#[78, 65, 77, 69]⟩ → delta t = 0 → becB .nStmt t = [t, ⟨#[78, 65, 77, 69]⟩, ⟨#[59]⟩] → ∃ σ', some (((σ.take L (tAt L σ.next)).takeName L 5).take L ⟨#[59]⟩) = some σ' ∧ Sim L len K [NT.nStmt.enc] σ σ' ∧ Adv L 1 0 σ σ' := fun t et q1 q2 q3 q4 q5 => by
      rw [et]
      have a1 : Adv L 1 0 σ (σ.take L t) := adv_take q2
      have f1 := a1.fine hF
      have a2 : Adv L 1 0 (σ.take L t) ((σ.take L t).takeName L 5) := adv_name
      refine ⟨_, rfl, nt (S := [t] ++ ([⟨#[78, 65, 77, 69]⟩] ++ [⟨#[59]⟩])) (by rw [et, q5]; rfl) ?_, ((a1.trans a2).trans (adv_take (by decide))).weak (by omega) (by omega)⟩
      exact Sim.comp (tk t 2 (by omega) q1 q2 q3 q4) (Sim.comp (sim_name hL hN f1 (fun _ => by show K + 1 < 5000; omega)) (sim_take hL (a2.fine f1) (by decide) (by decide) (by decide) (by decide) (fun _ => by omega)).1)
    rcases e4 with e4 | e4
    · exact key _ e4 (by decide) (by decide) (by decide) (by decide) (by rw [bec_stmt, kw_acquire]; rfl)
    · exact key _ e4 (by decide) (by decide) (by decide) (by decide) (by rw [bec_stmt, kw_release]; rfl)
  rw [if_neg e4]
  by_cases e5 : tAt L σ.next = ⟨#[114, 101, 116, 117, 114, 110]⟩
  · rw [if_pos e5]
    obtain ⟨b, g1, g2, g3⟩ := give_tt (len := len) hL hN (m + 1) σ f K hF hm (by omega) hR
    exact ⟨b, g1, nt (by rw [bec_stmt, e5, kw_return]; rfl) g2, g3⟩
  rw [if_neg e5]
  by_cases e6 : tAt L σ.next = ⟨#[115, 107, 105, 112]⟩
  · rw [if_pos e6]
    have a1 : Adv L 1 0 σ (σ.take L ⟨#[115, 107, 105, 112]⟩) := adv_take (by decide)
    refine ⟨_, rfl, nt (S := [⟨#[115, 107, 105, 112]⟩] ++ [⟨#[59]⟩]) (by rw [bec_stmt, e6, kw_skip]; rfl) ?_, (a1.trans (adv_take (by decide))).weak (by omega) (by omega)⟩
    exact Sim.comp (tk _ 1 (by omega) (by decide) (by decide) (by decide) (by decide)) (sim_take hL (a1.fine hF) (by decide) (by decide) (by decide) (by decide) (fun _ => by omega)).1
  rw [if_neg e6]
  refine aoc_tt hL hN (m + 1) σ f K hF hm (by omega) hR (fun _ hn => ⟨?_, e6⟩)
  rw [bec_stmt, hn, if_neg (by decide), if_neg e1, if_neg e2, if_neg e3, if_neg (fun h => e4 (.inl h)), if_neg (fun h => e4 (.inr h)), if_neg e5]

end RR

/- The parser against the machine: blocks, procedures, the program. Plain functions. No Go here. -/
namespace RR
open Go Go.RowKit

theorem blocks_tt {L : List Tk} {len : Nat} (hL : L.length ≤ 500) (hN : NoNm L) (m : Nat) : TU L len (blockP L) 14 [NT.nBlock.enc] 1 4000 m ∧ TU L len (stmtsP L) 13 [NT.nStmts.enc] 0 3985 m := by
  induction m using Nat.strongRecOn with
  | ind m ih =>
    have hst : TU L len (stmtsP L) 13 [NT.nStmts.enc] 0 3985 m := by
      intro σ f K hF hm hf hR
      obtain ⟨f, rfl⟩ : ∃ g, f = g + 1 := ⟨f - 1, by omega⟩
      have hK := hR.lt hF (by omega)
      rw [stmtsP_succ]
      cases hfa : σ.failed
      · cases hs : σ.sees L ⟨#[125]⟩
        · have hpos : 1 ≤ meas L σ := by rw [meas_ok hfa]; omega
          obtain ⟨a, g1, g2, g3⟩ := stmt_tt (m := m - 1) hL hN (ih (m - 1) (by omega)).1 σ f (K + 1) hfa hF (by omega) (by omega) (hR.more (by omega))
          obtain ⟨b, k1, k2, k3⟩ := (ih (m - 1) (by omega)).2 a f K (g3.fine hF) (by have := meas_lt g3 hpos; omega) (by omega) (hR.adv g3)
          refine ⟨b, by rw [if_pos ⟨rfl, rfl⟩, g1]; exact k1, ?_, (g3.trans k3).weak (by omega) (by omega)⟩
          refine sim_nt (n := .nStmts) (S := [NT.nStmt.enc] ++ [NT.nStmts.enc]) hL hF (by decide) (fun h => by have := hK h; omega) (fun _ => ?_) (Sim.comp g2 k2)
          show (if _ then _ else _) = _
          rw [if_neg]; · rfl
          unfold PSt.sees at hs; rw [tAt_ahead hfa] at hs; exact of_decide_eq_false hs
        · have e4 : tAt L σ.next = ⟨#[125]⟩ := by unfold PSt.sees at hs; rw [tAt_ahead hfa] at hs; exact of_decide_eq_true hs
          refine ⟨σ, by rw [if_neg (fun h => by cases h.2)], ?_, Adv.refl hF⟩
          exact sim_nt (n := .nStmts) (S := []) hL hF (by decide) (fun h => by have := hK h; omega) (fun _ => by show (if _ then _ else _) = _; rw [if_pos e4]) (Sim.nil σ)
      · exact ⟨σ, by rw [if_neg (fun h => by cases h.1)], sim_stuck hfa ⟨hfa, rfl⟩, Adv.refl hF⟩
    refine ⟨?_, hst⟩
    have hst' : TU L len (stmtsP L) 13 [NT.nStmts.enc] 0 3985 (m - 1) := by
      by_cases h0 : m = 0
      · subst h0; exact hst
      · exact (ih (m - 1) (by omega)).2
    intro σ f K hF hm hf hR
    obtain ⟨f, rfl⟩ : ∃ g, f = g + 1 := ⟨f - 1, by omega⟩
    have hK := hR.lt hF (by omega)
    obtain ⟨s1, f1, a1⟩ := sim_enter (len := len) (K := K + 2) (t := ⟨#[123]⟩) hL hF (by decide) (by decide) (by decide) (by decide) (fun h => by have := hK h; omega)
    have hm1 : meas L (enterP L σ ⟨#[123]⟩) ≤ m - 1 := by
      cases h : σ.failed
      · have := meas_lt a1 (by rw [meas_ok h]; omega); omega
      · have := meas_adv a1; rw [meas_failed h] at this; omega
    obtain ⟨b, h1, h2, h3⟩ := hst' (enterP L σ ⟨#[123]⟩) f (K + 1) f1 hm1 (by omega) (hR.up a1 (by omega))
    obtain ⟨s3, a3⟩ := sim_leave (len := len) (K := K) (t := ⟨#[125]⟩) hL (h3.fine f1) (by decide) (by decide) (by decide) (by decide) (fun h => by have := hK (a1 (h3 h).1).1; omega)
    refine ⟨leaveP L b ⟨#[125]⟩, by rw [blockP_succ, h1]; rfl, ?_, ((a1.trans h3).trans a3).weak (by omega) (by omega)⟩
    refine sim_nt (n := .nBlock) (S := [⟨#[123]⟩, NT.nStmts.enc, ⟨#[125]⟩]) hL hF (by decide) (fun h => by have := hK h; omega) (fun _ => rfl) ?_
    exact Sim.comp (S1 := [⟨#[123]⟩]) (S2 := [NT.nStmts.enc, ⟨#[125]⟩]) s1 (Sim.comp (S1 := [NT.nStmts.enc]) (S2 := [⟨#[125]⟩]) h2 s3)

/-- A procedure. -/
theorem procedure_tt {L : List Tk} {len : Nat} (hL : L.length ≤ 500) (hN : NoNm L) (m : Nat) : TU L len (procedureP L) 14 [NT.nProc.enc] 1 3990 m := by
  intro σ f K hF hm hf hR
  have hK := hR.lt hF (by omega)
  have a1 : Adv L 1 0 σ (σ.take L ⟨#[112, 114, 111, 99]⟩) := adv_take (by decide)
  have s1 := (sim_take (len := len) (K := K + 5) (t := ⟨#[112, 114, 111, 99]⟩) hL hF (by decide) (by decide) (by decide) (by decide) (fun h => by have := hK h; omega)).1
  obtain ⟨a, ha⟩ : ∃ a, a = ({ σ.take L ⟨#[112, 114, 111, 99]⟩ with proc := wrap64 ((σ.take L ⟨#[112, 114, 111, 99]⟩).proc + 1) } : PSt) := ⟨_, rfl⟩
  have a1' : Adv L 1 0 σ a := by rw [ha]; exact fun h => a1 h
  have s1' : Sim L len (K + 5) [⟨#[112, 114, 111, 99]⟩] σ a := s1.congr (by rw [ha]) (by rw [ha]) (by rw [ha])
  have f1 := a1'.fine hF
  have hK1 := (hR.adv a1').lt f1 (by omega)
  have a2 : Adv L 1 0 a (a.takeName L 2) := adv_name
  have s2 := sim_name (len := len) (K := K + 4) (r := 2) hL hN f1 (fun h => by have := hK1 h; omega)
  have f2 := a2.fine f1
  have hR2 := (hR.adv a1').adv a2
  have hK2 := hR2.lt f2 (by omega)
  obtain ⟨s3, f3, a3⟩ := sim_enter (len := len) (K := K + 3) (t := ⟨#[40]⟩) hL f2 (by decide) (by decide) (by decide) (by decide) (fun h => by have := hK2 h; omega)
  have hR3 : Room 3960 (K + 2) (enterP L (a.takeName L 2) ⟨#[40]⟩) := hR2.up a3 (by omega)
  have hm3 : meas L (enterP L (a.takeName L 2) ⟨#[40]⟩) ≤ m := by have := meas_adv a1'; have := meas_adv a2; have := meas_adv a3; omega
  obtain ⟨d, hd⟩ : ∃ d, d = enterP L (a.takeName L 2) ⟨#[40]⟩ := ⟨_, rfl⟩
  rw [← hd] at s3 f3 a3 hR3 hm3
  have hK3 := hR3.lt f3 (by omega)
  have hv : ∃ e, (if d.sees L ⟨#[41]⟩ then some d else moreP L 3 f (d.takeName L 3)) = some e ∧ Sim L len (K + 2) [NT.nParams.enc] d e ∧ Adv L 0 0 d e := by
    cases hs : d.sees L ⟨#[41]⟩
    · obtain ⟨e, g1, g2, g3⟩ := names_tt (len := len) (role := 3) hL hN m d f (K + 2) f3 hm3 (by omega) (hR3.more (by omega))
      refine ⟨e, by rw [if_neg (by decide)]; exact g1, ?_, g3.weak (by omega) rfl⟩
      cases hfa : d.failed
      · refine sim_nt (n := .nParams) (S := [NT.nNames.enc]) hL f3 (by decide) (fun h => by have := hK3 h; omega) (fun _ => ?_) g2
        show (if _ then _ else _) = _
        rw [if_neg]; · rfl
        unfold PSt.sees at hs; rw [tAt_ahead hfa] at hs; exact of_decide_eq_false hs
      · exact g2.head (fun h => by rw [hfa] at h; cases h)
    · have hlt := sees_lt (by decide) hs
      have e4 : tAt L d.next = ⟨#[41]⟩ := by unfold PSt.sees at hs; rw [tAt_ahead hlt.2] at hs; exact of_decide_eq_true hs
      refine ⟨d, rfl, ?_, Adv.refl f3⟩
      exact sim_nt (n := .nParams) (S := []) hL f3 (by decide) (fun h => by have := hK3 h; omega) (fun _ => by show (if _ then _ else _) = _; rw [if_pos e4]) (Sim.nil d)
  obtain ⟨e, h1, h2, h3⟩ := hv
  have f4 := h3.fine f3
  obtain ⟨s5, a5⟩ := sim_leave (len := len) (K := K + 1) (t := ⟨#[41]⟩) hL f4 (by decide) (by decide) (by decide) (by decide) (fun h => by have := hK3 (h3 h).1; omega)
  have a6 : Adv L 4 0 σ (leaveP L e ⟨#[41]⟩) := ((((a1'.trans a2).trans a3).trans h3).trans a5).weak (by omega) (by omega)
  obtain ⟨b, k1, k2, k3⟩ := (blocks_tt (len := len) hL hN m).1 (leaveP L e ⟨#[41]⟩) f K (a6.fine hF) (by have := meas_adv a6; omega) hf ((hR.adv a6).more (by omega))
  refine ⟨b, ?_, ?_, (a6.trans k3).weak (by omega) (by omega)⟩
  · have hp : procedureP L f σ = (if d.sees L ⟨#[41]⟩ then some d else moreP L 3 f (d.takeName L 3)).bind fun e => blockP L f (leaveP L e ⟨#[41]⟩) := by rw [hd, ha]; rfl
    rw [hp, h1]
    exact k1
  · refine sim_nt (n := .nProc) (S := [⟨#[112, 114, 111, 99]⟩, ⟨#[78, 65, 77, 69]⟩, ⟨#[40]⟩, NT.nParams.enc, ⟨#[41]⟩, NT.nBlock.enc]) hL hF (by decide) (fun h => by have := hK h; omega) (fun _ => rfl) ?_
    exact Sim.comp (S1 := [⟨#[112, 114, 111, 99]⟩]) (S2 := [⟨#[78, 65, 77, 69]⟩, ⟨#[40]⟩, NT.nParams.enc, ⟨#[41]⟩, NT.nBlock.enc]) s1' (Sim.comp (S1 := [⟨#[78, 65, 77, 69]⟩]) (S2 := [⟨#[40]⟩, NT.nParams.enc, ⟨#[41]⟩, NT.nBlock.enc]) s2
      (Sim.comp (S1 := [⟨#[40]⟩]) (S2 := [NT.nParams.enc, ⟨#[41]⟩, NT.nBlock.enc]) s3 (Sim.comp (S1 := [NT.nParams.enc]) (S2 := [⟨#[41]⟩, NT.nBlock.enc]) h2 (Sim.comp (S1 := [⟨#[41]⟩]) (S2 := [NT.nBlock.enc]) s5 k2))))

end RR

/- The parser against the machine: the program whole. Plain functions. No Go here. -/
namespace RR
open Go Go.RowKit

theorem procs_tt {L : List Tk} {len : Nat} (hL : L.length ≤ 500) (hN : NoNm L) (m : Nat) : TU L len (procsP L) 15 [NT.nProcs.enc] 0 3985 m := by
  induction m using Nat.strongRecOn with
  | ind m ih =>
    intro σ f K hF hm hf hR
    obtain ⟨f, rfl⟩ : ∃ g, f = g + 1 := ⟨f - 1, by omega⟩
    have hK := hR.lt hF (by omega)
    rw [procsP]
    cases hs : σ.sees L ⟨#[112, 114, 111, 99]⟩
    · refine ⟨σ, rfl, ?_, Adv.refl hF⟩
      cases hfa : σ.failed
      · refine sim_nt (n := .nProcs) (S := []) hL hF (by decide) (fun h => by have := hK h; omega) (fun _ => ?_) (Sim.nil σ)
        show (if _ then _ else _) = _
        rw [if_neg]
        unfold PSt.sees at hs; rw [tAt_ahead hfa] at hs; exact of_decide_eq_false hs
      · exact sim_stuck hfa ⟨hfa, rfl⟩
    · have hlt := sees_lt (by decide) hs
      have e : tAt L σ.next = ⟨#[112, 114, 111, 99]⟩ := by unfold PSt.sees at hs; rw [tAt_ahead hlt.2] at hs; exact of_decide_eq_true hs
      have hpos : 1 ≤ meas L σ := by rw [meas_ok hlt.2]; omega
      obtain ⟨a, g1, g2, g3⟩ := procedure_tt (len := len) hL hN m σ f (K + 1) hF hm (by omega) (hR.more (by omega))
      obtain ⟨b, k1, k2, k3⟩ := ih (m - 1) (by omega) a f K (g3.fine hF) (by have := meas_lt g3 hpos; omega) (by omega) (hR.adv g3)
      refine ⟨b, by rw [if_pos rfl, g1]; exact k1, ?_, (g3.trans k3).weak (by omega) (by omega)⟩
      exact sim_nt (n := .nProcs) (S := [NT.nProc.enc] ++ [NT.nProcs.enc]) hL hF (by decide) (fun h => by have := hK h; omega) (fun _ => by show (if _ then _ else _) = _; rw [if_pos e]; rfl) (Sim.comp g2 k2)

theorem list_tt {L : List Tk} {len : Nat} (hL : L.length ≤ 500) (hN : NoNm L) (m role : Nat) {t : ByteArray} {n : NT} (hn : ntOf n.enc = some n) (ht : ntOf t = none) (h0 : ¬ t = ⟨#[]⟩) (hNm : ¬ t = ⟨#[78, 65, 77, 69]⟩) (hd : delta t = 0)
    (hb : ∀ u, becB n u = if u = t then [t, NT.nNames.enc, ⟨#[59]⟩] else []) : TU L len (fun f σ => listP L f t role σ) 1 [n.enc] 0 3985 m := by
  intro σ f K hF hm hf hR
  have hK := hR.lt hF (by omega)
  show ∃ σ', listP L f t role σ = some σ' ∧ _
  unfold listP
  cases hs : σ.sees L t
  · refine ⟨σ, rfl, ?_, Adv.refl hF⟩
    cases hfa : σ.failed
    · refine sim_nt (n := n) (S := []) hL hF hn (fun h => by have := hK h; omega) (fun _ => ?_) (Sim.nil σ)
      rw [hb, if_neg]
      unfold PSt.sees at hs; rw [tAt_ahead hfa] at hs; exact of_decide_eq_false hs
    · exact sim_stuck hfa ⟨hfa, rfl⟩
  · have hlt := sees_lt h0 hs
    have e : tAt L σ.next = t := by unfold PSt.sees at hs; rw [tAt_ahead hlt.2] at hs; exact of_decide_eq_true hs
    have et : σ.take L t = σ.step := by unfold PSt.take; rw [hs]; rfl
    have hA : Adv L 1 0 σ σ.step := et ▸ adv_take (L := L) (a := σ) h0
    have f1 := hA.fine hF
    obtain ⟨a, g1, g2, g3⟩ := names_tt (len := len) (role := role) hL hN m σ.step f (K + 1) f1 (by have := meas_adv hA; omega) (by omega) ((hR.adv hA).more (by omega))
    refine ⟨a.take L ⟨#[59]⟩, ?_, ?_, ((hA.trans g3).trans (adv_take (by decide))).weak (by omega) (by omega)⟩
    · rw [if_pos rfl]
      have g1' : moreP L role f (σ.step.takeName L role) = some a := g1
      rw [g1']; rfl
    · refine sim_nt (n := n) (S := [t, NT.nNames.enc, ⟨#[59]⟩]) hL hF hn (fun h => by have := hK h; omega) (fun _ => by rw [hb, if_pos e]) ?_
      exact Sim.comp (S1 := [t]) (S2 := [NT.nNames.enc, ⟨#[59]⟩]) (et ▸ (sim_take hL hF ht h0 hNm hd (fun h => by have := hK h; show K + 2 < 5000; omega)).1) (Sim.comp (S1 := [NT.nNames.enc]) (S2 := [⟨#[59]⟩]) g2 (sim_take hL (g3.fine f1) (by decide) (by decide) (by decide) (by decide) (fun h => by have := hK (hA (g3 h).1).1; omega)).1)

/-- The program whole: the parser comes to an end, and the machine to the same. -/
theorem program_tt {L : List Tk} {len : Nat} (hL : L.length ≤ 500) (hN : NoNm L) (σ : PSt) (h1 : σ.next = 0) (h2 : σ.depth = 0) (h3 : σ.failed = false) :
    ∃ f σ', programP L f σ = some σ' ∧ (if σ'.failed = true then Ends L len startW 0 0 (.err (pAt L len σ'.next)) else Ends L len startW 0 0 .ok ∧ σ'.next = L.length) := by
  have hF : Fine L σ := fun _ => ⟨by omega, by omega, by omega⟩
  obtain ⟨m, hm⟩ : ∃ m, meas L σ ≤ m := ⟨_, Nat.le_refl _⟩
  have hR : Room 3980 100 σ := fun _ => by omega
  have hK := hR.lt hF (by omega)
  refine ⟨10 * m + 20, ?_⟩
  generalize hf : 10 * m + 20 = f
  obtain ⟨a, p1, s1, a1⟩ := list_tt (len := len) hL hN m 0 (t := ⟨#[115, 104, 97, 114, 101, 100]⟩) (n := .nShared) (by decide) (by decide) (by decide) (by decide) (by decide) (fun u => rfl) σ f 6 hF hm (by omega) (hR.more (by omega))
  have f1 := a1.fine hF
  obtain ⟨b, p2, s2, a2⟩ := list_tt (len := len) hL hN m 1 (t := ⟨#[108, 111, 99, 107, 115]⟩) (n := .nLocks) (by decide) (by decide) (by decide) (by decide) (by decide) (fun u => rfl) a f 5 f1 (by have := meas_adv a1; omega) (by omega) ((hR.adv a1).more (by omega))
  have f2 := a2.fine f1
  have b2 := a1.trans a2
  obtain ⟨c, p3, s3, a3⟩ := procedure_tt (len := len) hL hN m b f 4 f2 (by have := meas_adv b2; omega) (by omega) (((hR.adv a1).adv a2).more (by omega))
  have f3 := a3.fine f2
  have b3 := b2.trans a3
  obtain ⟨d, p4, s4, a4⟩ := procs_tt (len := len) hL hN m c f 3 f3 (by have := meas_adv b3; omega) (by omega) ((((hR.adv a1).adv a2).adv a3).more (by omega))
  have f4 := a4.fine f3
  have hR4 := (((hR.adv a1).adv a2).adv a3).adv a4
  have b4 := b3.trans a4
  have a5 : Adv L 1 0 d (d.take L ⟨#[116, 104, 114, 101, 97, 100, 115]⟩) := adv_take (by decide)
  have s5 := (sim_take (len := len) (K := 2) (t := ⟨#[116, 104, 114, 101, 97, 100, 115]⟩) hL f4 (by decide) (by decide) (by decide) (by decide) (fun _ => by omega)).1
  have f5 := a5.fine f4
  obtain ⟨e, p6, s6, a6⟩ := names_tt (len := len) (role := 7) hL hN m (d.take L ⟨#[116, 104, 114, 101, 97, 100, 115]⟩) f 1 f5 (by have := meas_adv (b4.trans a5); omega) (by omega) ((hR4.adv a5).more (by omega))
  have f6 := a6.fine f5
  have a7 : Adv L 1 0 e (e.take L ⟨#[59]⟩) := adv_take (by decide)
  have s7 := (sim_take (len := len) (K := 0) (t := ⟨#[59]⟩) hL f6 (by decide) (by decide) (by decide) (by decide) (fun _ => by omega)).1
  have f7 := a7.fine f6
  obtain ⟨g, hg⟩ : ∃ g, g = e.take L ⟨#[59]⟩ := ⟨_, rfl⟩
  rw [← hg] at s7 f7
  have hp : programP L f σ = some (takeEndP L g) := by
    have p1' : listP L f ⟨#[115, 104, 97, 114, 101, 100]⟩ 0 σ = some a := p1
    have p2' : listP L f ⟨#[108, 111, 99, 107, 115]⟩ 1 a = some b := p2
    have p6' : moreP L 7 f ((d.take L ⟨#[116, 104, 114, 101, 97, 100, 115]⟩).takeName L 7) = some e := p6
    unfold programP
    rw [p1', Option.bind_some, p2', Option.bind_some, p3, Option.bind_some, p4, Option.bind_some, p6', Option.map_some, hg]
  have all : Sim L len 0 startW σ g := Sim.comp (S1 := [NT.nShared.enc]) (S2 := [NT.nLocks.enc, NT.nProc.enc, NT.nProcs.enc, ⟨#[116, 104, 114, 101, 97, 100, 115]⟩, NT.nNames.enc, ⟨#[59]⟩]) s1
    (Sim.comp (S1 := [NT.nLocks.enc]) (S2 := [NT.nProc.enc, NT.nProcs.enc, ⟨#[116, 104, 114, 101, 97, 100, 115]⟩, NT.nNames.enc, ⟨#[59]⟩]) s2
    (Sim.comp (S1 := [NT.nProc.enc]) (S2 := [NT.nProcs.enc, ⟨#[116, 104, 114, 101, 97, 100, 115]⟩, NT.nNames.enc, ⟨#[59]⟩]) s3
    (Sim.comp (S1 := [NT.nProcs.enc]) (S2 := [⟨#[116, 104, 114, 101, 97, 100, 115]⟩, NT.nNames.enc, ⟨#[59]⟩]) s4
    (Sim.comp (S1 := [⟨#[116, 104, 114, 101, 97, 100, 115]⟩]) (S2 := [NT.nNames.enc, ⟨#[59]⟩]) s5 (Sim.comp (S1 := [NT.nNames.enc]) (S2 := [⟨#[59]⟩]) s6 s7)))))
  refine ⟨takeEndP L g, hp, ?_⟩
  have fin : ∀ r, Run L len g [] r → Ends L len startW 0 0 r := fun r hr => by
    have := all [] r (Nat.le_refl _) hr
    unfold Run at this
    rw [h3, h1, h2, if_neg (by decide), List.append_nil] at this
    exact this
  cases hfa : g.failed
  · have hFg := f7 hfa
    have he : Ends L len [] g.depth g.next (if g.next < L.length then .err (pAt L len g.next) else .ok) := by
      refine ⟨1, ?_⟩
      rw [runM, if_pos]
      unfold roomB
      simp
      omega
    have hr : Run L len g [] (if g.next < L.length then .err (pAt L len g.next) else .ok) := by
      unfold Run; rw [if_neg (by rw [hfa]; decide)]; exact he
    have := fin _ hr
    by_cases hlt : g.next < L.length
    · rw [if_pos hlt] at this
      have e1 : takeEndP L g = g.fail := by unfold takeEndP; rw [if_pos hlt]
      rw [e1, if_pos (by rfl)]
      exact this
    · rw [if_neg hlt] at this
      have e1 : takeEndP L g = g := by unfold takeEndP; rw [if_neg hlt]
      rw [e1, if_neg (by rw [hfa]; decide)]
      exact ⟨this, by omega⟩
  · have e1 : (takeEndP L g).failed = true ∧ (takeEndP L g).next = g.next := by
      unfold takeEndP; split
      · exact ⟨rfl, rfl⟩
      · exact ⟨hfa, rfl⟩
    rw [if_pos e1.1, e1.2]
    refine fin _ ?_
    unfold Run; rw [if_pos hfa]

end RR

/- Of a text that was cut into tokens: no token is a symbol for names. Plain functions. No Go here. -/
namespace RR
open Go Go.RowKit

/-- A token begins with a small letter or is a sign. -/
def TokOk (t : ByteArray) : Prop := (∃ h : 0 < t.size, isLetterB t[0] = true) ∨ memB signs t = true

theorem lexF_tok (s : ByteArray) (i : Nat) : ∀ k ∈ (lexF s i).1, TokOk k.t := by
  induction hn : s.size - i using Nat.strongRecOn generalizing i with
  | ind n ih =>
    by_cases h : i < s.size
    · cases hb : blankB s[i]
      · cases ho : okAt s i h
        · rw [lexF_bad h hb ho]; intro k hk; cases hk
        · rw [lexF_ok h hb ho]
          have hg := endAt_gt s i h
          intro k hk
          rcases List.mem_cons.1 hk with rfl | hk
          · unfold okAt at ho
            rw [Bool.or_eq_true] at ho
            rcases ho with ho | ho
            · rw [Bool.and_eq_true] at ho
              left
              have hz : 0 < (s.extract i (endAt s i h)).size := by rw [ext_size s i _ (by omega) hg.2]; omega
              exact ⟨hz, by rw [ext_first s i _ hg.1 hg.2 hz]; exact ho.1⟩
            · exact .inr ho
          · exact ih (s.size - endAt s i h) (by omega) (endAt s i h) rfl k hk
      · rw [lexF_blank h hb]
        exact ih (s.size - (i + 1)) (by omega) (i + 1) rfl
    · rw [lexF_out h]; intro k hk; cases hk

theorem noNm_of {L : List Tk} (h : ∀ k ∈ L, TokOk k.t) : NoNm L := fun i e => by
  by_cases hi : i < L.length
  · rw [tAt_in hi] at e
    rcases h L[i] (List.getElem_mem hi) with ⟨h0, h1⟩ | h1
    · have : ∀ (t : ByteArray), t = ⟨#[78, 65, 77, 69]⟩ → (h0 : 0 < t.size) → isLetterB t[0] = true → False := fun t et h0 h1 => by
        subst et
        have h2 : isLetterB 78 = true := h1
        exact absurd h2 (by decide)
      exact this _ e h0 h1
    · rw [e] at h1
      exact absurd h1 (by decide)
  · rw [tAt_out hi] at e
    exact absurd e (by decide)

theorem noNm_lex (s : ByteArray) : NoNm (lexF s 0).1 := noNm_of (lexF_tok s 0)

end RR
