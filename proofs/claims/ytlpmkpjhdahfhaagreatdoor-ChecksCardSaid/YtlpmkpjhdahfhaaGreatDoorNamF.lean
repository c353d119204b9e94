/- The checks on names, both ways: least places; too many names. Plain functions. No Go here. -/
import Derived.Test.YtlpmkpjhdahfhaaGreatDoorNamE
namespace RR
open Go Go.RowKit

def pl (L : List Tk) (i : Nat) : Nat := (tk L i).p
/-- Tokens stand in the order of their places. -/
def Mono (L : List Tk) : Prop := ∀ i j, i < j → j < L.length → pl L i < pl L j

/-- x is the place of the first token of which P holds, less than 0 if there is none. -/
def Lst (L : List Tk) (x : Int) (P : Nat → Prop) : Prop := (x < 0 ∧ ∀ i, ¬ P i) ∨ ∃ i, P i ∧ i < L.length ∧ x = pl L i ∧ ∀ j, P j → i ≤ j
def LO (L : List Tk) (o : Option Nat) (P : Nat → Prop) : Prop := (o = none ∧ ∀ i, ¬ P i) ∨ ∃ i, P i ∧ o = some (pl L i) ∧ ∀ j, P j → i ≤ j

theorem lst_lo {L : List Tk} {x : Int} {o : Option Nat} {P : Nat → Prop} (h : Lst L x P) (k : LO L o P) : (o = none ∧ x < 0) ∨ ∃ p : Nat, o = some p ∧ x = p := by
  rcases h with ⟨h1, h2⟩ | ⟨i, h1, h2, h3, h4⟩
  · rcases k with ⟨k1, k2⟩ | ⟨j, k1, k2, k3⟩
    · exact .inl ⟨k1, h1⟩
    · exact absurd k1 (h2 j)
  · rcases k with ⟨k1, k2⟩ | ⟨j, k1, k2, k3⟩
    · exact absurd h1 (k2 i)
    · have := h4 j k1; have := k3 i h1
      have e : i = j := by omega
      subst e
      exact .inr ⟨_, k2, h3⟩
theorem lo_lo {L : List Tk} {o o' : Option Nat} {P : Nat → Prop} (h : LO L o P) (k : LO L o' P) : o = o' := by
  rcases h with ⟨h1, h2⟩ | ⟨i, h1, h3, h4⟩
  · rcases k with ⟨k1, k2⟩ | ⟨j, k1, k2, k3⟩
    · rw [h1, k1]
    · exact absurd k1 (h2 j)
  · rcases k with ⟨k1, k2⟩ | ⟨j, k1, k2, k3⟩
    · exact absurd h1 (k2 i)
    · have := h4 j k1; have := k3 i h1
      have e : i = j := by omega
      rw [h3, k2, e]
theorem Lst.congr {L : List Tk} {x : Int} {P R : Nat → Prop} (h : Lst L x P) (e : ∀ i, P i ↔ R i) : Lst L x R := by
  have : P = R := funext fun i => propext (e i)
  rw [← this]; exact h
theorem LO.congr {L : List Tk} {x : Option Nat} {P R : Nat → Prop} (h : LO L x P) (e : ∀ i, P i ↔ R i) : LO L x R := by
  have : P = R := funext fun i => propext (e i)
  rw [← this]; exact h

theorem lst_least {L : List Tk} (hM : Mono L) {x y : Int} {P R : Nat → Prop} (h : Lst L x P) (k : Lst L y R) : Lst L (leastB x y) (fun i => P i ∨ R i) := by
  unfold leastB
  rcases h with ⟨h1, h2⟩ | ⟨i, h1, h2, h3, h4⟩
  · rw [if_pos (.inl h1)]
    exact k.congr (fun i => ⟨.inr, fun h => h.resolve_left (h2 i)⟩)
  · rcases k with ⟨k1, k2⟩ | ⟨j, k1, k2, k3, k4⟩
    · rw [if_neg (by omega)]
      exact .inr ⟨i, .inl h1, h2, h3, fun q hq => hq.elim (h4 q) (fun h => absurd h (k2 q))⟩
    · by_cases c : y < x
      · rw [if_pos (.inr ⟨by omega, c⟩)]
        refine .inr ⟨j, .inr k1, k2, k3, fun q hq => hq.elim (fun h => ?_) (k4 q)⟩
        have := h4 q h
        by_cases e : i < j
        · have := hM i j e k2; omega
        · omega
      · rw [if_neg (by omega)]
        refine .inr ⟨i, .inl h1, h2, h3, fun q hq => hq.elim (h4 q) (fun h => ?_)⟩
        have := k4 q h
        by_cases e : j < i
        · have := hM j i e h2; omega
        · omega
theorem lst_one {L : List Tk} {i : Nat} (h : i < L.length) : Lst L ((tk L i).p : Int) (fun j => j = i) := .inr ⟨i, rfl, h, rfl, fun j e => by omega⟩
theorem lst_none (L : List Tk) : Lst L (-1) (fun _ => False) := .inl ⟨by decide, fun _ h => h⟩

theorem lst_past {L : List Tk} {l : List Nat} {most : Nat} (hl : ∀ i ∈ l, i < L.length) : Lst L (pastB L l most) (fun i => most < l.length ∧ i = nth l most) := by
  unfold pastB
  by_cases h : most < l.length
  · rw [if_pos h]
    exact (lst_one (i := nth l most) (by rw [nth_eq h]; exact hl _ (List.getElem_mem _))).congr (fun i => ⟨fun e => ⟨h, e⟩, fun e => e.2⟩)
  · rw [if_neg h]
    exact (lst_none L).congr (fun i => ⟨False.elim, fun e => h e.1⟩)

theorem lo_or {L : List Tk} {o o' : Option Nat} {P R : Nat → Prop} (h : LO L o P) (k : o = none → LO L o' R) (ho : ∀ i j, P i → R j → i ≤ j) : LO L (o.or o') (fun i => P i ∨ R i) := by
  rcases h with ⟨h1, h2⟩ | ⟨i, h1, h2, h3⟩
  · rw [h1]
    exact (k h1).congr (fun i => ⟨.inr, fun h => h.resolve_left (h2 i)⟩)
  · rw [h2]
    exact .inr ⟨i, .inl h1, rfl, fun j hj => hj.elim (h3 j) (fun h => ho i j h1 h)⟩

/-! Too many names. -/

theorem many_app (A B : List Nm) : ∀ c, manyF2 (A ++ B) c = (manyF2 A c).or (manyF2 B (A.foldl (fun c n => c.add n.role) c)) := by
  induction A with
  | nil => intro c; rfl
  | cons n A ih =>
    intro c
    show manyF2 (n :: (A ++ B)) c = _
    rw [manyF2, manyF2, List.foldl_cons]
    split
    · rfl
    · exact ih _

def addN (c : Cts) (r : Nat) : Nat → Cts
  | 0 => c
  | k + 1 => (addN c r k).add r

theorem fold_uni {L : List Tk} {r : Nat} {p : Int} {c : Cts} : ∀ (l : List Nat) (j : Nat), ((l.map fun i => (⟨i, r, p⟩ : Ml)).map (mk L)).foldl (fun c n => c.add n.role) (addN c r j) = addN c r (j + l.length)
  | [], j => rfl
  | i :: l, j => by
    rw [List.map_cons, List.map_cons, List.foldl_cons]
    have := fold_uni (L := L) (r := r) (p := p) (c := c) l (j + 1)
    rw [List.length_cons, show j + (l.length + 1) = j + 1 + l.length by omega, ← this]; rfl

theorem many_uni {L : List Tk} {r mx : Nat} {p : Int} {c : Cts} (h : ∀ k, (addN c r k).too = decide (mx < k)) : ∀ (l : List Nat) (j : Nat), j ≤ mx → manyF2 ((l.map fun i => (⟨i, r, p⟩ : Ml)).map (mk L)) (addN c r j) = if mx < j + l.length then some (pl L (nth l (mx - j))) else none
  | [], j, hj => by rw [if_neg (by simp only [List.length_nil]; omega)]; rfl
  | i :: l, j, hj => by
    rw [List.map_cons, List.map_cons, manyF2]
    have e : ((addN c r j).add (mk L ⟨i, r, p⟩).role) = addN c r (j + 1) := rfl
    rw [e, h (j + 1)]
    by_cases c1 : mx < j + 1
    · have : mx - j = 0 := by omega
      rw [if_pos (by simpa using c1), if_pos (by simp only [List.length_cons]; omega), this]; rfl
    · rw [if_neg (by simpa using c1), many_uni h l (j + 1) (by omega)]
      obtain ⟨k, hk⟩ : ∃ k, mx - j = k + 1 := ⟨mx - j - 1, by omega⟩
      rw [hk, show mx - (j + 1) = k by omega, List.length_cons, show j + 1 + l.length = j + (l.length + 1) by omega]; rfl

theorem lo_uni {L : List Tk} {r mx : Nat} {p : Int} {c : Cts} (h : ∀ k, (addN c r k).too = decide (mx < k)) (l : List Nat) : LO L (manyF2 ((l.map fun i => (⟨i, r, p⟩ : Ml)).map (mk L)) c) (fun i => mx < l.length ∧ i = nth l mx) := by
  have := many_uni (L := L) (p := p) h l 0 (Nat.zero_le _)
  rw [show addN c r 0 = c by rfl] at this
  rw [this]
  by_cases hm : mx < l.length
  · rw [if_pos (by omega)]
    exact .inr ⟨nth l mx, ⟨hm, rfl⟩, rfl, fun j e => by omega⟩
  · rw [if_neg (by omega)]
    exact .inl ⟨rfl, fun i e => hm e.1⟩

theorem many_body {L : List Tk} : ∀ (B : List Ml) (c : Cts), c.too = false → (∀ x ∈ B, x.r = 4 ∨ x.r = 5 ∨ x.r = 6) → manyF2 (B.map (mk L)) c = none ∧ (B.map (mk L)).foldl (fun c n => c.add n.role) c = c
  | [], c, _, _ => ⟨rfl, rfl⟩
  | x :: B, c, hc, h => by
    have e : c.add (mk L x).role = c := by
      show c.add x.r = c
      unfold Cts.add
      rcases h x List.mem_cons_self with e | e | e <;> rw [e] <;> rfl
    rw [List.map_cons, manyF2, List.foldl_cons, e, hc]
    exact many_body B c hc (fun y hy => h y (List.mem_cons_of_mem _ hy))

end RR
