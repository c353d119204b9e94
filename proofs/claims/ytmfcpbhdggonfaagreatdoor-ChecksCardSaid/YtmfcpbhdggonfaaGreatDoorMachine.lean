/- The reference's reading by a list of symbols: plain functions. No Go here. -/
import Derived.Test.YtmfcpbhdggonfaaGreatDoorGram
namespace RR

def tAt (L : List Tk) (i : Nat) : ByteArray := if h : i < L.length then L[i].t else ⟨#[]⟩
def pAt (L : List Tk) (len : Nat) (i : Nat) : Nat := if h : i < L.length then L[i].p else len
theorem tAt_in {L : List Tk} {i : Nat} (h : i < L.length) : tAt L i = L[i].t := by unfold tAt; rw [dif_pos h]
theorem tAt_out {L : List Tk} {i : Nat} (h : ¬ i < L.length) : tAt L i = ⟨#[]⟩ := by unfold tAt; rw [dif_neg h]
theorem pAt_in {L : List Tk} {len i : Nat} (h : i < L.length) : pAt L len i = L[i].p := by unfold pAt; rw [dif_pos h]
theorem pAt_out {L : List Tk} {len i : Nat} (h : ¬ i < L.length) : pAt L len i = len := by unfold pAt; rw [dif_neg h]

/-- How a reading ends: rightly, or at a place. -/
abbrev Res := Option Nat
abbrev Res.ok : Res := none
abbrev Res.err (p : Nat) : Res := some p

def delta (t : ByteArray) : Int := if t = ⟨#[40]⟩ ∨ t = ⟨#[123]⟩ then 1 else if t = ⟨#[41]⟩ ∨ t = ⟨#[125]⟩ then -1 else 0

def kNAME : ByteArray := ⟨#[78, 65, 77, 69]⟩

/-- Does the symbol x, no NT, stand for the text t? -/
def fits (x t : ByteArray) : Bool := decide (x = t) || (decide (x = ⟨#[78, 65, 77, 69]⟩) && isNameB t)

def roomB (W : List ByteArray) (op : Int) (i : Nat) : Bool := decide (W.length ≤ 5000) && decide (i ≤ 600) && decide (-600 ≤ op) && decide (op ≤ 6) && !(match W with | [] => false | x :: _ => decide (x = ⟨#[]⟩))

/-- The machine, for at most so many rounds. -/
def runM (L : List Tk) (len : Nat) : Nat → List ByteArray → Int → Nat → Option Res
  | 0, _, _, _ => none
  | g + 1, W, op, i =>
    if roomB W op i then
      match W with
      | [] => some (if i < L.length then .err (pAt L len i) else .ok)
      | x :: R =>
        match ntOf x with
        | some n => runM L len g (becB n (tAt L i) ++ R) op i
        | none =>
          if fits x (tAt L i) then
            if op + delta (tAt L i) ≤ 6 then runM L len g R (op + delta (tAt L i)) (i + 1) else some (.err (pAt L len i))
          else some (.err (pAt L len i))
    else none

theorem room_of {L : List Tk} {len g : Nat} {W : List ByteArray} {op : Int} {i : Nat} {r : Res} (h : runM L len (g + 1) W op i = some r) : W.length ≤ 5000 ∧ i ≤ 600 ∧ -600 ≤ op ∧ op ≤ 6 := by
  rw [runM.eq_def] at h
  simp only at h
  by_cases hr : roomB W op i
  · unfold roomB at hr
    simp only [Bool.and_eq_true, decide_eq_true_iff] at hr
    omega
  · rw [if_neg hr] at h; cases h

theorem head_of {L : List Tk} {len g : Nat} {x : ByteArray} {R : List ByteArray} {op : Int} {i : Nat} {r : Res} (h : runM L len (g + 1) (x :: R) op i = some r) : ¬ x = ⟨#[]⟩ := by
  rw [runM.eq_def] at h
  simp only at h
  by_cases hr : roomB (x :: R) op i
  · unfold roomB at hr
    rw [Bool.and_eq_true] at hr
    simpa using hr.2
  · rw [if_neg hr] at h; cases h

theorem runM_nil {L : List Tk} {len g : Nat} {op : Int} {i : Nat} {r : Res} (h : runM L len (g + 1) [] op i = some r) : r = if i < L.length then .err (pAt L len i) else .ok := by
  have hr := room_of h
  rw [runM, if_pos (by unfold roomB; simp; omega)] at h
  exact (Option.some.inj h).symm
theorem runM_nt {L : List Tk} {len g : Nat} {x : ByteArray} {R : List ByteArray} {op : Int} {i : Nat} {n : NT} {r : Res} (h : runM L len (g + 1) (x :: R) op i = some r) (hx : ntOf x = some n) : runM L len g (becB n (tAt L i) ++ R) op i = some r := by
  rw [runM] at h
  by_cases hr : roomB (x :: R) op i
  · rw [if_pos hr] at h
    simp only [hx] at h
    exact h
  · rw [if_neg hr] at h; cases h
theorem runM_tok {L : List Tk} {len g : Nat} {x : ByteArray} {R : List ByteArray} {op : Int} {i : Nat} {r : Res} (h : runM L len (g + 1) (x :: R) op i = some r) (hx : ntOf x = none) :
    (if fits x (tAt L i) then
            if op + delta (tAt L i) ≤ 6 then runM L len g R (op + delta (tAt L i)) (i + 1) else some (.err (pAt L len i))
          else some (.err (pAt L len i))) = some r := by
  rw [runM] at h
  by_cases hr : roomB (x :: R) op i
  · rw [if_pos hr] at h
    simp only [hx] at h
    exact h
  · rw [if_neg hr] at h; cases h

theorem delta5 (t : ByteArray) : (t = ⟨#[40]⟩ ∧ delta t = 1) ∨ (t = ⟨#[123]⟩ ∧ delta t = 1) ∨ (t = ⟨#[41]⟩ ∧ delta t = -1) ∨ (t = ⟨#[125]⟩ ∧ delta t = -1) ∨ (¬ t = ⟨#[40]⟩ ∧ ¬ t = ⟨#[123]⟩ ∧ ¬ t = ⟨#[41]⟩ ∧ ¬ t = ⟨#[125]⟩ ∧ delta t = 0) := by
  by_cases a1 : t = ⟨#[40]⟩
  · subst a1; exact .inl ⟨rfl, by decide⟩
  by_cases a2 : t = ⟨#[123]⟩
  · subst a2; exact .inr (.inl ⟨rfl, by decide⟩)
  by_cases a3 : t = ⟨#[41]⟩
  · subst a3; exact .inr (.inr (.inl ⟨rfl, by decide⟩))
  by_cases a4 : t = ⟨#[125]⟩
  · subst a4; exact .inr (.inr (.inr (.inl ⟨rfl, by decide⟩)))
  refine .inr (.inr (.inr (.inr ⟨a1, a2, a3, a4, ?_⟩)))
  unfold delta
  rw [if_neg (fun h => h.elim a1 a2), if_neg (fun h => h.elim a3 a4)]

theorem fits_eq {x t : ByteArray} (h : x = t) : fits x t = true := by unfold fits; rw [decide_eq_true h]; rfl
theorem fits_name {x t : ByteArray} (h : x = ⟨#[78, 65, 77, 69]⟩) (hn : isNameB t = true) : fits x t = true := by unfold fits; rw [decide_eq_true h, hn, Bool.true_and, Bool.or_true]
theorem fits_no1 {x t : ByteArray} (h : ¬ x = t) (h2 : ¬ x = ⟨#[78, 65, 77, 69]⟩) : fits x t = false := by unfold fits; rw [decide_eq_false h, decide_eq_false h2]; rfl
theorem fits_no2 {x t : ByteArray} (h : ¬ x = t) (hn : isNameB t = false) : fits x t = false := by unfold fits; rw [decide_eq_false h, hn, Bool.and_false]; rfl

/-- The first symbols. -/
def startW : List ByteArray := [⟨#[83, 72, 65, 82, 69, 68]⟩, ⟨#[76, 79, 67, 75, 83]⟩, ⟨#[80, 82, 79, 67]⟩, ⟨#[80, 82, 79, 67, 83]⟩, ⟨#[116, 104, 114, 101, 97, 100, 115]⟩, ⟨#[78, 65, 77, 69, 83]⟩, ⟨#[59]⟩]

end RR
