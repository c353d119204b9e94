/- The checks on names, both ways: names that are given twice. Plain functions. No Go here. -/
import Derived.Test.YtlpmkpjhdahfhaaGreatDoorNamG
namespace RR
open Go Go.RowKit

def Sorted (M : List Ml) : Prop := M.Pairwise fun x y => x.i < y.i

theorem idx_lt {M : List Ml} (h : Sorted M) {a b : Nat} (ha : a < M.length) (hb : b < M.length) : a < b ↔ M[a].i < M[b].i := by
  have h' := List.pairwise_iff_getElem.1 h
  constructor
  · intro hab; exact h' a b ha hb hab
  · intro hlt
    by_cases e : a < b
    · exact e
    · by_cases e2 : a = b
      · subst e2; omega
      · have := h' b a hb ha (by omega); omega
theorem uniq {M : List Ml} (h : Sorted M) {x y : Ml} (hx : x ∈ M) (hy : y ∈ M) (e : x.i = y.i) : x = y := by
  obtain ⟨a, ha, rfl⟩ := List.getElem_of_mem hx
  obtain ⟨b, hb, rfl⟩ := List.getElem_of_mem hy
  have h1 := idx_lt h ha hb
  have h2 := idx_lt h hb ha
  have : a = b := by omega
  subst this; rfl

theorem lo_first {L : List Tk} {M : List Ml} (hs : Sorted M) (p : Nat → Nm → Bool) : ∀ n k, n = M.length - k → LO L (firstF p (M.map (mk L)) k) (fun i => ∃ j, k ≤ j ∧ ∃ h : j < M.length, M[j].i = i ∧ p j (mk L M[j]) = true) := by
  intro n
  induction n with
  | zero =>
    intro k hn
    rw [firstF_out (by simp; omega)]
    exact .inl ⟨rfl, fun i ⟨j, h1, h2, _⟩ => by omega⟩
  | succ n ih =>
    intro k hn
    have hk : k < M.length := by omega
    have hk' : k < (M.map (mk L)).length := by simpa using hk
    have e : (M.map (mk L))[k] = mk L M[k] := by simp
    cases hp : p k (M.map (mk L))[k]
    · rw [firstF_no hk' hp]
      refine (ih (k + 1) (by omega)).congr (fun i => ?_)
      constructor
      · rintro ⟨j, h1, h2, h3⟩; exact ⟨j, by omega, h2, h3⟩
      · rintro ⟨j, h1, h2, h3, h4⟩
        refine ⟨j, ?_, h2, h3, h4⟩
        by_cases ej : j = k
        · subst ej; rw [e] at hp; rw [hp] at h4; cases h4
        · omega
    · rw [firstF_yes hk' hp, e]
      rw [e] at hp
      refine .inr ⟨M[k].i, ⟨k, Nat.le_refl _, hk, rfl, hp⟩, rfl, ?_⟩
      rintro i ⟨j, h1, h2, rfl, _⟩
      by_cases ej : k = j
      · subst ej; exact Nat.le_refl _
      · exact Nat.le_of_lt ((idx_lt hs hk h2).1 (by omega))

theorem clashF_iff {ns : List Nm} {i : Nat} {n : Nm} : ∀ m j, m = ns.length - j → (clashF ns i n j = true ↔ ∃ k, j ≤ k ∧ ∃ h : k < ns.length, clashB i n k ns[k] = true) := by
  intro m
  induction m with
  | zero =>
    intro j hm
    rw [clashF_out (by omega)]
    exact ⟨fun h => (by cases h), fun ⟨k, h1, h2, _⟩ => by omega⟩
  | succ m ih =>
    intro j hm
    have hj : j < ns.length := by omega
    cases hc : clashB i n j ns[j]
    · rw [clashF_no hj hc, ih (j + 1) (by omega)]
      constructor
      · rintro ⟨k, h1, h2, h3⟩; exact ⟨k, by omega, h2, h3⟩
      · rintro ⟨k, h1, h2, h3⟩
        refine ⟨k, ?_, h2, h3⟩
        by_cases ej : k = j
        · subst ej; rw [hc] at h3; cases h3
        · omega
    · rw [clashF_yes hj hc]
      exact ⟨fun _ => ⟨j, Nat.le_refl _, hj, hc⟩, fun _ => rfl⟩

/-- The name x clashes with the name y. -/
def CL (L : List Tk) (x y : Ml) : Prop := tAt L y.i = tAt L x.i ∧ ((x.r ≤ 2 ∧ y.r ≤ 2 ∧ y.i < x.i) ∨ (x.r = 3 ∧ y.r ≤ 2) ∨ (x.r = 3 ∧ y.r = 3 ∧ y.pr = x.pr ∧ y.i < x.i))
theorem whole_iff (r : Nat) : isWholeB r = true ↔ r ≤ 2 := by
  unfold isWholeB
  simp only [Bool.or_eq_true, decide_eq_true_iff]; omega

theorem twice_lo {L : List Tk} {M : List Ml} (hs : Sorted M) : LO L (twiceP (M.map (mk L))) (fun i => ∃ x ∈ M, x.i = i ∧ ∃ y ∈ M, CL L x y) := by
  unfold twiceP
  refine (lo_first hs _ M.length 0 rfl).congr (fun i => ?_)
  have key : ∀ j, (h : j < M.length) → (clashF (M.map (mk L)) j (mk L M[j]) 0 = true ↔ ∃ y ∈ M, CL L M[j] y) := fun j h => by
    rw [clashF_iff _ 0 rfl]
    have cb : ∀ k, (hk : k < M.length) → (clashB j (mk L M[j]) k (mk L M[k]) = true ↔ CL L M[j] M[k]) := fun k hk => by
      unfold clashB CL
      have e1 : (mk L M[j]).role = M[j].r := rfl
      have e2 : (mk L M[k]).role = M[k].r := rfl
      have e3 : (mk L M[j]).proc = M[j].pr := rfl
      have e4 : (mk L M[k]).proc = M[k].pr := rfl
      have e5 : (mk L M[j]).word = tAt L M[j].i := rfl
      have e6 : (mk L M[k]).word = tAt L M[k].i := rfl
      simp only [e1, e2, e3, e4, e5, e6, Bool.and_eq_true, Bool.or_eq_true, decide_eq_true_iff, whole_iff, idx_lt hs hk h, and_assoc, or_assoc]
    constructor
    · rintro ⟨k, _, hk, h3⟩
      have hk' : k < M.length := by simpa using hk
      refine ⟨M[k], List.getElem_mem _, (cb k hk').1 ?_⟩
      simpa using h3
    · rintro ⟨y, hy, hc⟩
      obtain ⟨k, hk, rfl⟩ := List.getElem_of_mem hy
      exact ⟨k, Nat.zero_le _, by simpa using hk, by simpa using (cb k hk).2 hc⟩
  constructor
  · rintro ⟨j, _, h, h1, h2⟩
    exact ⟨M[j], List.getElem_mem _, h1, (key j h).1 h2⟩
  · rintro ⟨x, hx, h1, h2⟩
    obtain ⟨j, hj, rfl⟩ := List.getElem_of_mem hx
    exact ⟨j, Nat.zero_le _, hj, h1, (key j hj).2 h2⟩

/-! The reference. -/

theorem index_iff {L : List Tk} {l : List Nat} {t : ByteArray} : 0 ≤ indexB L l t ↔ ∃ j ∈ l, (tk L j).t = t := by
  unfold indexB
  cases h : l.findIdx? fun j => decide ((tk L j).t = t) with
  | none =>
    have := List.findIdx?_eq_none_iff.1 h
    constructor
    · intro h; exact absurd h (by decide)
    · rintro ⟨j, hj, e⟩
      have := this j hj
      rw [decide_eq_false_iff_not] at this
      exact absurd e this
  | some k =>
    obtain ⟨h1, h2, _⟩ := List.findIdx?_eq_some_iff_getElem.1 h
    constructor
    · intro _; exact ⟨l[k], List.getElem_mem _, by simpa using h2⟩
    · intro _; exact Int.natCast_nonneg _

theorem tw1_lst {L : List Tk} (hM : Mono L) {l : List Nat} (hl : ∀ i ∈ l, i < L.length) : ∀ n k {x : Int} {P : Nat → Prop}, n = l.length - k → Lst L x P → Lst L (tw1 L l k x) (fun i => P i ∨ ∃ j, k ≤ j ∧ j < l.length ∧ i = nth l j ∧ 0 ≤ indexB L (l.take j) (tk L (nth l j)).t) := by
  intro n
  induction n with
  | zero =>
    intro k x P hn h
    rw [tw1, if_neg (by omega)]
    exact h.congr (fun i => ⟨.inl, fun h => h.elim id (fun ⟨j, h1, h2, _⟩ => by omega)⟩)
  | succ n ih =>
    intro k x P hn h
    have hk : k < l.length := by omega
    rw [tw1, if_pos hk]
    by_cases hc : 0 ≤ indexB L (l.take k) (tk L (nth l k)).t
    · rw [if_pos hc]
      refine (ih (k + 1) (by omega) (lst_least hM h (lst_one (hl _ (nth_mem hk))))).congr (fun i => ?_)
      constructor
      · rintro ((h | h) | ⟨j, h1, h2⟩)
        · exact .inl h
        · exact .inr ⟨k, Nat.le_refl _, hk, h, hc⟩
        · exact .inr ⟨j, by omega, h2⟩
      · rintro (h | ⟨j, h1, h2, h3, h4⟩)
        · exact .inl (.inl h)
        · by_cases e : j = k
          · subst e; exact .inl (.inr h3)
          · exact .inr ⟨j, by omega, h2, h3, h4⟩
    · rw [if_neg hc]
      refine (ih (k + 1) (by omega) h).congr (fun i => ?_)
      constructor
      · rintro (h | ⟨j, h1, h2⟩)
        · exact .inl h
        · exact .inr ⟨j, by omega, h2⟩
      · rintro (h | ⟨j, h1, h2, h3, h4⟩)
        · exact .inl h
        · by_cases e : j = k
          · subst e; exact absurd h4 hc
          · exact .inr ⟨j, by omega, h2, h3, h4⟩

theorem tw2_lst {L : List Tk} (hM : Mono L) {l m : List Nat} (hl : ∀ i ∈ m, i < L.length) : ∀ n k {x : Int} {P : Nat → Prop}, n = m.length - k → Lst L x P → Lst L (tw2 L l m k x) (fun i => P i ∨ ∃ j, k ≤ j ∧ j < m.length ∧ i = nth m j ∧ (0 ≤ indexB L (m.take j) (tk L (nth m j)).t ∨ 0 ≤ indexB L l (tk L (nth m j)).t)) := by
  intro n
  induction n with
  | zero =>
    intro k x P hn h
    rw [tw2, if_neg (by omega)]
    exact h.congr (fun i => ⟨.inl, fun h => h.elim id (fun ⟨j, h1, h2, _⟩ => by omega)⟩)
  | succ n ih =>
    intro k x P hn h
    have hk : k < m.length := by omega
    rw [tw2, if_pos hk]
    by_cases hc : 0 ≤ indexB L (m.take k) (tk L (nth m k)).t ∨ 0 ≤ indexB L l (tk L (nth m k)).t
    · rw [if_pos hc]
      refine (ih (k + 1) (by omega) (lst_least hM h (lst_one (hl _ (nth_mem hk))))).congr (fun i => ?_)
      constructor
      · rintro ((h | h) | ⟨j, h1, h2⟩)
        · exact .inl h
        · exact .inr ⟨k, Nat.le_refl _, hk, h, hc⟩
        · exact .inr ⟨j, by omega, h2⟩
      · rintro (h | ⟨j, h1, h2, h3, h4⟩)
        · exact .inl (.inl h)
        · by_cases e : j = k
          · subst e; exact .inl (.inr h3)
          · exact .inr ⟨j, by omega, h2, h3, h4⟩
    · rw [if_neg hc]
      refine (ih (k + 1) (by omega) h).congr (fun i => ?_)
      constructor
      · rintro (h | ⟨j, h1, h2⟩)
        · exact .inl h
        · exact .inr ⟨j, by omega, h2⟩
      · rintro (h | ⟨j, h1, h2, h3, h4⟩)
        · exact .inl h
        · by_cases e : j = k
          · subst e; exact absurd h4 hc
          · exact .inr ⟨j, by omega, h2, h3, h4⟩

theorem tw3_lst {L : List Tk} (hM : Mono L) {l : List Nat} : ∀ (ps : List Nat) {x : Int} {P : Nat → Prop}, Lst L x P → Lst L (tw3 L l ps x) (fun i => P i ∨ ∃ m ∈ ps, ∃ j, j < (paramsB L m).length ∧ i = nth (paramsB L m) j ∧ (0 ≤ indexB L ((paramsB L m).take j) (tk L (nth (paramsB L m) j)).t ∨ 0 ≤ indexB L l (tk L (nth (paramsB L m) j)).t))
  | [], x, P, h => h.congr (fun i => ⟨.inl, fun h => h.elim id (fun ⟨m, hm, _⟩ => by cases hm)⟩)
  | m :: ps, x, P, h => by
    rw [tw3]
    refine (tw3_lst hM ps (tw2_lst hM (fun i hi => (namesF_lt L _ i hi).2) (paramsB L m).length 0 rfl h)).congr (fun i => ?_)
    constructor
    · rintro ((h | ⟨j, _, h⟩) | ⟨n, hn, h⟩)
      · exact .inl h
      · exact .inr ⟨m, List.mem_cons_self, j, h⟩
      · exact .inr ⟨n, List.mem_cons_of_mem _ hn, h⟩
    · rintro (h | ⟨n, hn, j, h⟩)
      · exact .inl (.inl h)
      · rcases List.mem_cons.1 hn with rfl | hn
        · exact .inl (.inr ⟨j, Nat.zero_le _, h⟩)
        · exact .inr ⟨n, hn, j, h⟩

/-- In a list of tokens that are in order, those ahead of the j-th one are the smaller ones. -/
theorem take_iff {l : List Nat} (h : l.Pairwise (· < ·)) {j : Nat} (hj : j < l.length) (y : Nat) : y ∈ l.take j ↔ y ∈ l ∧ y < nth l j := by
  have h' := List.pairwise_iff_getElem.1 h
  rw [nth_eq hj]
  constructor
  · intro hy
    obtain ⟨k, hk, rfl⟩ := List.getElem_of_mem hy
    have hk2 : k < j := by rw [List.length_take] at hk; omega
    rw [List.getElem_take]
    exact ⟨List.getElem_mem _, h' k j (by omega) hj hk2⟩
  · rintro ⟨hy, hlt⟩
    obtain ⟨k, hk, rfl⟩ := List.getElem_of_mem hy
    have hkj : k < j := by
      by_cases e : k < j
      · exact e
      · by_cases e2 : k = j
        · subst e2; omega
        · have := h' j k hj hk (by omega); omega
    have hkt : k < (l.take j).length := by rw [List.length_take]; omega
    have : (l.take j)[k] = l[k] := List.getElem_take
    rw [← this]; exact List.getElem_mem _

theorem names_sorted (L : List Tk) (k : Nat) : (namesF L k).Pairwise (· < ·) := by
  induction h : L.length - k using Nat.strongRecOn generalizing k with
  | ind n ih =>
    by_cases hk : k < L.length
    · cases hn : isNameB (tAt L k)
      · rw [namesF_none hn]; exact List.Pairwise.nil
      · rw [namesF_some hk hn]
        split
        · refine List.pairwise_cons.2 ⟨fun y hy => ?_, ih (L.length - (k + 2)) (by omega) (k + 2) rfl⟩
          have := (namesF_lt L (k + 2) y hy).1; omega
        · exact List.pairwise_singleton _ _
    · rw [namesF, if_neg hk]; exact List.Pairwise.nil

section
variable {L : List Tk} {S K T : List Nat} {Q : List PQ} {p : Int} {M : List Ml} {C : List Ca}

theorem Dec.mem (d : Dec L S K T Q p M C) (x : Ml) : x ∈ M ↔ (x.r = 0 ∧ x.pr = -1 ∧ x.i ∈ S) ∨ (x.r = 1 ∧ x.pr = -1 ∧ x.i ∈ K) ∨ (∃ q ∈ Q, (x.r = 2 ∧ x.pr = q.pr ∧ x.i = q.m + 1) ∨ (x.r = 3 ∧ x.pr = q.pr ∧ x.i ∈ paramsB L (q.m + 1)) ∨ x ∈ q.B) ∨ (x.r = 7 ∧ x.pr = p ∧ x.i ∈ T) := by
  rw [d.eM]
  simp only [List.mem_append, List.mem_map, List.mem_flatMap, PQ.ms, List.mem_cons]
  obtain ⟨i, r, pr⟩ := x
  constructor
  · rintro (⟨a, ha, e⟩ | ⟨a, ha, e⟩ | ⟨q, hq, h | ⟨a, ha, e⟩ | h⟩ | ⟨a, ha, e⟩)
    · cases e; exact .inl ⟨rfl, rfl, ha⟩
    · cases e; exact .inr (.inl ⟨rfl, rfl, ha⟩)
    · cases h; exact .inr (.inr (.inl ⟨q, hq, .inl ⟨rfl, rfl, rfl⟩⟩))
    · cases e; exact .inr (.inr (.inl ⟨q, hq, .inr (.inl ⟨rfl, rfl, ha⟩)⟩))
    · exact .inr (.inr (.inl ⟨q, hq, .inr (.inr h)⟩))
    · cases e; exact .inr (.inr (.inr ⟨rfl, rfl, ha⟩))
  · rintro (⟨e1, e2, h⟩ | ⟨e1, e2, h⟩ | ⟨q, hq, ⟨e1, e2, e3⟩ | ⟨e1, e2, h⟩ | h⟩ | ⟨e1, e2, h⟩)
    · cases e1; cases e2; exact .inl ⟨i, h, rfl⟩
    · cases e1; cases e2; exact .inr (.inl ⟨i, h, rfl⟩)
    · cases e1; cases e2; cases e3; exact .inr (.inr (.inl ⟨q, hq, .inl rfl⟩))
    · cases e1; cases e2; exact .inr (.inr (.inl ⟨q, hq, .inr (.inl ⟨i, h, rfl⟩)⟩))
    · exact .inr (.inr (.inl ⟨q, hq, .inr (.inr h)⟩))
    · cases e1; cases e2; exact .inr (.inr (.inr ⟨i, h, rfl⟩))

theorem Dec.owner (d : Dec L S K T Q p M C) (i : Nat) : i ∈ ownersB L ↔ ∃ x ∈ M, x.r ≤ 2 ∧ x.i = i := by
  unfold ownersB kShared kLocks
  rw [d.wS, d.wK, d.wP]
  simp only [List.mem_append, List.mem_map]
  constructor
  · rintro ((h | h) | ⟨q, hq, rfl⟩)
    · exact ⟨⟨i, 0, -1⟩, (d.mem _).2 (.inl ⟨rfl, rfl, h⟩), by show 0 ≤ 2; omega, rfl⟩
    · exact ⟨⟨i, 1, -1⟩, (d.mem _).2 (.inr (.inl ⟨rfl, rfl, h⟩)), by show 1 ≤ 2; omega, rfl⟩
    · exact ⟨⟨q.m + 1, 2, q.pr⟩, (d.mem _).2 (.inr (.inr (.inl ⟨q, hq, .inl ⟨rfl, rfl, rfl⟩⟩))), Nat.le_refl _, rfl⟩
  · rintro ⟨x, hx, hr, rfl⟩
    rcases (d.mem x).1 hx with ⟨_, _, h⟩ | ⟨_, _, h⟩ | ⟨q, hq, ⟨_, _, h⟩ | ⟨e, _, _⟩ | h⟩ | ⟨e, _, _⟩
    · exact .inl (.inl h)
    · exact .inl (.inr h)
    · exact .inr ⟨q, hq, h.symm⟩
    · omega
    · have := br_roles (d.qs q hq x h).1; omega
    · omega

theorem filt_own (hB : ∀ q ∈ Q, ∀ x ∈ q.B, BR L x) : ((Q.flatMap (PQ.ms L)).filter (fun x => decide (x.r ≤ 2))).map (fun x => x.i) = Q.map (fun q => q.m + 1) := by
  induction Q with
  | nil => rfl
  | cons q Q ih =>
    rw [List.flatMap_cons, List.filter_append, List.map_append, ih (fun r hr => hB r (List.mem_cons_of_mem _ hr)), List.map_cons]
    have : (PQ.ms L q).filter (fun x => decide (x.r ≤ 2)) = [⟨q.m + 1, 2, q.pr⟩] := by
      unfold PQ.ms
      rw [List.filter_cons_of_pos (by simp), List.filter_append]
      have e1 : ((paramsB L (q.m + 1)).map (fun i => (⟨i, 3, q.pr⟩ : Ml))).filter (fun x => decide (x.r ≤ 2)) = [] := by
        rw [List.filter_eq_nil_iff]
        intro x hx
        obtain ⟨i, _, rfl⟩ := List.mem_map.1 hx
        simp
      have e2 : q.B.filter (fun x => decide (x.r ≤ 2)) = [] := by
        rw [List.filter_eq_nil_iff]
        intro x hx
        have := br_roles (hB q List.mem_cons_self x hx)
        simp only [decide_eq_true_iff]; omega
      rw [e1, e2]; rfl
    rw [this]; rfl

theorem Dec.owners_sorted (d : Dec L S K T Q p M C) : (ownersB L).Pairwise (· < ·) := by
  have e : (M.filter (fun x => decide (x.r ≤ 2))).map (fun x => x.i) = ownersB L := by
    unfold ownersB kShared kLocks
    rw [d.wS, d.wK, d.wP, d.eM, List.filter_append, List.filter_append, List.filter_append, List.map_append, List.map_append, List.map_append, filt_own (fun q hq x hx => (d.qs q hq x hx).1)]
    have e1 : (S.map (fun i => (⟨i, 0, -1⟩ : Ml))).filter (fun x => decide (x.r ≤ 2)) = S.map (fun i => (⟨i, 0, -1⟩ : Ml)) := by
      rw [List.filter_eq_self]; intro x hx; obtain ⟨i, _, rfl⟩ := List.mem_map.1 hx; simp
    have e2 : (K.map (fun i => (⟨i, 1, -1⟩ : Ml))).filter (fun x => decide (x.r ≤ 2)) = K.map (fun i => (⟨i, 1, -1⟩ : Ml)) := by
      rw [List.filter_eq_self]; intro x hx; obtain ⟨i, _, rfl⟩ := List.mem_map.1 hx; simp
    have e3 : (T.map (fun i => (⟨i, 7, p⟩ : Ml))).filter (fun x => decide (x.r ≤ 2)) = [] := by
      rw [List.filter_eq_nil_iff]; intro x hx; obtain ⟨i, _, rfl⟩ := List.mem_map.1 hx; simp
    rw [e1, e2, e3]
    simp [List.map_map, Function.comp_def]
  rw [← e, List.pairwise_map]
  exact List.Pairwise.sublist List.filter_sublist d.seg.sor

theorem Dec.lt (d : Dec L S K T Q p M C) {x : Ml} (hx : x ∈ M) : x.i < L.length := (d.seg.inn x hx).2.1
theorem tk_t {i : Nat} (h : i < L.length) : (tk L i).t = tAt L i := by rw [tk_eq h, tAt_in h]

theorem Dec.same (d : Dec L S K T Q p M C) {q r : PQ} (hq : q ∈ Q) (hr : r ∈ Q) (e : q.pr = r.pr) : q = r := by
  obtain ⟨a, ha, rfl⟩ := List.getElem_of_mem hq
  obtain ⟨b, hb, rfl⟩ := List.getElem_of_mem hr
  have h' := List.pairwise_iff_getElem.1 d.prs
  have : a = b := by
    by_cases c : a < b
    · have := h' a b ha hb c; omega
    · by_cases c2 : b < a
      · have := h' b a hb ha c2; omega
      · omega
  subst this; rfl

theorem twice_lst (hM : Mono L) (d : Dec L S K T Q p M C) (hp : ProcOk L) : Lst L (twiceB L) (fun i => ∃ x ∈ M, x.i = i ∧ ∃ y ∈ M, CL L x y) := by
  unfold twiceB
  refine (tw3_lst hM _ (tw1_lst hM (fun i hi => ownersB_lt hp i hi) _ 0 rfl (lst_none L))).congr (fun i => ?_)
  have olt : ∀ {y}, y ∈ ownersB L → y < L.length := fun hy => ownersB_lt hp _ hy
  have plt : ∀ {y m}, y ∈ paramsB L m → y < L.length := fun hy => (namesF_lt L _ _ hy).2
  constructor
  · rintro ((h | ⟨j, _, hj, rfl, h⟩) | ⟨m, hm, j, hj, rfl, h⟩)
    · exact h.elim
    · obtain ⟨y, hy, e⟩ := index_iff.1 h
      obtain ⟨hy1, hy2⟩ := (take_iff d.owners_sorted hj y).1 hy
      obtain ⟨x, hx, hr, hxi⟩ := (d.owner _).1 (nth_mem hj)
      obtain ⟨z, hz, hr2, hzi⟩ := (d.owner _).1 hy1
      refine ⟨x, hx, hxi, z, hz, ?_, .inl ⟨hr, hr2, by omega⟩⟩
      rw [hzi, hxi, ← tk_t (olt hy1), ← tk_t (olt (nth_mem hj))]; exact e
    · rw [d.wP] at hm
      obtain ⟨q, hq, rfl⟩ := List.mem_map.1 hm
      have hx := (d.mem ⟨nth (paramsB L (q.m + 1)) j, 3, q.pr⟩).2 (.inr (.inr (.inl ⟨q, hq, .inr (.inl ⟨rfl, rfl, nth_mem hj⟩)⟩)))
      refine ⟨_, hx, rfl, ?_⟩
      rcases h with h | h
      · obtain ⟨y, hy, e⟩ := index_iff.1 h
        obtain ⟨hy1, hy2⟩ := (take_iff (names_sorted L _) hj y).1 hy
        refine ⟨⟨y, 3, q.pr⟩, (d.mem _).2 (.inr (.inr (.inl ⟨q, hq, .inr (.inl ⟨rfl, rfl, hy1⟩)⟩))), ?_, .inr (.inr ⟨rfl, rfl, rfl, hy2⟩)⟩
        show tAt L y = tAt L (nth (paramsB L (q.m + 1)) j)
        rw [← tk_t (plt hy1), ← tk_t (plt (nth_mem hj))]; exact e
      · obtain ⟨y, hy, e⟩ := index_iff.1 h
        obtain ⟨z, hz, hr2, hzi⟩ := (d.owner _).1 hy
        refine ⟨z, hz, ?_, .inr (.inl ⟨rfl, hr2⟩)⟩
        show tAt L z.i = tAt L (nth (paramsB L (q.m + 1)) j)
        rw [hzi, ← tk_t (olt hy), ← tk_t (plt (nth_mem hj))]; exact e
  · rintro ⟨x, hx, rfl, y, hy, e, h⟩
    have ex := tk_t (d.lt hx)
    have ey := tk_t (d.lt hy)
    have idx : ∀ {l : List Nat} {a : Nat}, a ∈ l → ∃ j, j < l.length ∧ a = nth l j := fun {l a} ha => by
      obtain ⟨j, hj, rfl⟩ := List.getElem_of_mem ha
      exact ⟨j, hj, (nth_eq hj).symm⟩
    rcases h with ⟨h1, h2, h3⟩ | ⟨h1, h2⟩ | ⟨h1, h2, h3, h4⟩
    · left; right
      obtain ⟨j, hj, ej⟩ := idx ((d.owner x.i).2 ⟨x, hx, h1, rfl⟩)
      refine ⟨j, Nat.zero_le _, hj, ej, index_iff.2 ⟨y.i, (take_iff d.owners_sorted hj _).2 ⟨(d.owner y.i).2 ⟨y, hy, h2, rfl⟩, by omega⟩, ?_⟩⟩
      rw [← ej, ex, ey]; exact e
    · right
      rcases (d.mem x).1 hx with ⟨e1, _⟩ | ⟨e1, _⟩ | ⟨q, hq, ⟨e1, _⟩ | ⟨_, e2, e3⟩ | hb⟩ | ⟨e1, _⟩
      · omega
      · omega
      · omega
      · obtain ⟨j, hj, ej⟩ := idx e3
        refine ⟨q.m + 1, by rw [d.wP]; exact List.mem_map.2 ⟨q, hq, rfl⟩, j, hj, ej, .inr (index_iff.2 ⟨y.i, (d.owner y.i).2 ⟨y, hy, h2, rfl⟩, ?_⟩)⟩
        rw [← ej, ex, ey]; exact e
      · have := br_roles (d.qs q hq x hb).1; omega
      · omega
    · right
      rcases (d.mem x).1 hx with ⟨e1, _⟩ | ⟨e1, _⟩ | ⟨q, hq, ⟨e1, _⟩ | ⟨_, e2, e3⟩ | hb⟩ | ⟨e1, _⟩
      · omega
      · omega
      · omega
      · rcases (d.mem y).1 hy with ⟨f1, _⟩ | ⟨f1, _⟩ | ⟨r, hr, ⟨f1, _⟩ | ⟨_, f2, f3⟩ | hb⟩ | ⟨f1, _⟩
        · omega
        · omega
        · omega
        · have : r = q := d.same hr hq (by rw [← f2, h3, e2])
          subst this
          obtain ⟨j, hj, ej⟩ := idx e3
          refine ⟨r.m + 1, by rw [d.wP]; exact List.mem_map.2 ⟨r, hr, rfl⟩, j, hj, ej, .inl (index_iff.2 ⟨y.i, (take_iff (names_sorted L _) hj _).2 ⟨f3, by show y.i < nth (paramsB L (r.m + 1)) j; omega⟩, ?_⟩)⟩
          rw [← ej, ex, ey]; exact e
        · have := br_roles (d.qs r hr y hb).1; omega
        · omega
      · have := br_roles (d.qs q hq x hb).1; omega
      · omega

end
end RR
