/- The checks on names, both ways: names that are used wrongly, calls; all together. Plain functions. No Go here. -/
import Derived.Test.YtlpmkpjhdahfhaaGreatDoorNamH
namespace RR
open Go Go.RowKit

theorem misF_lo (L : List Tk) : ∀ n k, n = L.length - k → LO L (misF L k) (fun i => k ≤ i ∧ ∃ h : i < L.length, (isNameB L[i].t && !givenB L i && !rightB L i) = true) := by
  intro n
  induction n with
  | zero =>
    intro k hn
    rw [misF_out (by omega)]
    exact .inl ⟨rfl, fun i ⟨h1, h2, _⟩ => by omega⟩
  | succ n ih =>
    intro k hn
    have hk : k < L.length := by omega
    cases hp : (isNameB L[k].t && !givenB L k && !rightB L k)
    · rw [misF_no hk hp]
      refine (ih (k + 1) (by omega)).congr (fun i => ?_)
      constructor
      · rintro ⟨h1, h2⟩; exact ⟨by omega, h2⟩
      · rintro ⟨h1, h2, h3⟩
        refine ⟨?_, h2, h3⟩
        by_cases ej : i = k
        · subst ej; rw [hp] at h3; cases h3
        · omega
    · rw [misF_yes hk hp]
      exact .inr ⟨k, ⟨Nat.le_refl _, hk, hp⟩, by unfold pl; rw [tk_eq hk], fun j h => h.1⟩
theorem ariF_lo (L : List Tk) : ∀ n k, n = L.length - k → LO L (ariF L k) (fun i => k ≤ i ∧ ∃ h : i < L.length, (isNameB L[i].t && !givenB L i && isB L ((i : Int) + 1) ⟨#[40]⟩ && decide (valuesB L (i + 1) ≠ (paramsB L (procOf L i)).length)) = true) := by
  intro n
  induction n with
  | zero =>
    intro k hn
    rw [ariF_out (by omega)]
    exact .inl ⟨rfl, fun i ⟨h1, h2, _⟩ => by omega⟩
  | succ n ih =>
    intro k hn
    have hk : k < L.length := by omega
    cases hp : (isNameB L[k].t && !givenB L k && isB L ((k : Int) + 1) ⟨#[40]⟩ && decide (valuesB L (k + 1) ≠ (paramsB L (procOf L k)).length))
    · rw [ariF_no hk hp]
      refine (ih (k + 1) (by omega)).congr (fun i => ?_)
      constructor
      · rintro ⟨h1, h2⟩; exact ⟨by omega, h2⟩
      · rintro ⟨h1, h2, h3⟩
        refine ⟨?_, h2, h3⟩
        by_cases ej : i = k
        · subst ej; rw [hp] at h3; cases h3
        · omega
    · rw [ariF_yes hk hp]
      exact .inr ⟨k, ⟨Nat.le_refl _, hk, hp⟩, by unfold pl; rw [tk_eq hk], fun j h => h.1⟩
theorem wrongP_lo {L : List Tk} {ns : List Nm} : ∀ (C : List Ca), C.Pairwise (fun x y => x.i < y.i) → LO L (wrongP ns (C.map (mkc L))) (fun i => ∃ c ∈ C, c.i = i ∧ c.v ≠ paramsP ns (tAt L c.i))
  | [], _ => .inl ⟨rfl, fun i ⟨c, h, _⟩ => by cases h⟩
  | c :: C, hs => by
    obtain ⟨h1, h2⟩ := List.pairwise_cons.1 hs
    rw [List.map_cons, wrongP]
    by_cases hc : c.v ≠ paramsP ns (tAt L c.i)
    · have hc' : (mkc L c).values ≠ paramsP ns (mkc L c).word := hc
      rw [if_pos hc']
      refine .inr ⟨c.i, ⟨c, List.mem_cons_self, rfl, hc⟩, rfl, ?_⟩
      rintro j ⟨e, he, rfl, _⟩
      rcases List.mem_cons.1 he with rfl | he
      · exact Nat.le_refl _
      · exact Nat.le_of_lt (h1 e he)
    · have hc' : ¬ (mkc L c).values ≠ paramsP ns (mkc L c).word := hc
      rw [if_neg hc']
      refine (wrongP_lo C h2).congr (fun i => ?_)
      constructor
      · rintro ⟨e, he, h⟩; exact ⟨e, List.mem_cons_of_mem _ he, h⟩
      · rintro ⟨e, he, h⟩
        rcases List.mem_cons.1 he with rfl | he
        · exact absurd h.2 hc
        · exact ⟨e, he, h⟩

theorem hasB_iff {l : List Nat} {i : Nat} : hasB l i = true ↔ i ∈ l := by
  unfold hasB
  rw [List.any_eq_true]
  constructor
  · rintro ⟨j, hj, e⟩
    have : (j : Int) = i := of_decide_eq_true e
    rw [show i = j by omega]; exact hj
  · intro h; exact ⟨i, h, decide_eq_true rfl⟩
theorem isB_prev {L : List Tk} {i : Nat} {t : ByteArray} (h0 : ¬ t = ⟨#[]⟩) : isB L ((i : Int) - 1) t = true ↔ ∃ j, i = j + 1 ∧ tAt L j = t := by
  cases i with
  | zero =>
    rw [isB_out (by omega)]
    exact ⟨fun h => (by cases h), fun ⟨j, h, _⟩ => by omega⟩
  | succ k =>
    have e : ((k + 1 : Nat) : Int) - 1 = (k : Nat) := by omega
    rw [e, isB_tAt h0, decide_eq_true_iff]
    constructor
    · intro h; exact ⟨k, rfl, h⟩
    · rintro ⟨j, h, e⟩; rw [show k = j by omega]; exact e
theorem isB_next {L : List Tk} {i : Nat} {t : ByteArray} (h0 : ¬ t = ⟨#[]⟩) : isB L ((i : Int) + 1) t = decide (tAt L (i + 1) = t) := by
  rw [show (i : Int) + 1 = ((i + 1 : Nat) : Int) by omega, isB_tAt h0]

theorem given_ns {L : List Tk} {M : List Ml} {w : ByteArray} {r : Nat} : isGivenB (M.map (RR.mk L)) w r = true ↔ ∃ y ∈ M, y.r = r ∧ tAt L y.i = w := by
  unfold isGivenB
  rw [List.any_eq_true]
  constructor
  · rintro ⟨n, hn, h⟩
    obtain ⟨y, hy, rfl⟩ := List.mem_map.1 hn
    rw [Bool.and_eq_true] at h
    exact ⟨y, hy, of_decide_eq_true h.1, of_decide_eq_true h.2⟩
  · rintro ⟨y, hy, h1, h2⟩
    exact ⟨RR.mk L y, List.mem_map.2 ⟨y, hy, rfl⟩, by rw [Bool.and_eq_true]; exact ⟨decide_eq_true h1, decide_eq_true h2⟩⟩
theorem param_ns {L : List Tk} {M : List Ml} {w : ByteArray} {p : Int} : isParamB (M.map (RR.mk L)) w p = true ↔ ∃ y ∈ M, y.r = 3 ∧ y.pr = p ∧ tAt L y.i = w := by
  unfold isParamB
  rw [List.any_eq_true]
  constructor
  · rintro ⟨n, hn, h⟩
    obtain ⟨y, hy, rfl⟩ := List.mem_map.1 hn
    rw [Bool.and_eq_true, Bool.and_eq_true] at h
    exact ⟨y, hy, of_decide_eq_true h.1.1, of_decide_eq_true h.1.2, of_decide_eq_true h.2⟩
  · rintro ⟨y, hy, h1, h2, h3⟩
    exact ⟨RR.mk L y, List.mem_map.2 ⟨y, hy, rfl⟩, by rw [Bool.and_eq_true, Bool.and_eq_true]; exact ⟨⟨decide_eq_true h1, decide_eq_true h2⟩, decide_eq_true h3⟩⟩

section
variable {L : List Tk} {S K T : List Nat} {Q : List PQ} {p : Int} {M : List Ml} {C : List Ca}

theorem Dec.given (d : Dec L S K T Q p M C) {x : Ml} (hx : x ∈ M) : givenB L x.i = true ↔ x.r ≤ 3 := by
  unfold givenB
  rw [Bool.or_eq_true, hasB_iff, List.any_eq_true, d.owner]
  constructor
  · rintro (⟨y, hy, hr, e⟩ | ⟨m, hm, h⟩)
    · rw [← uniq d.seg.sor hy hx e]; omega
    · rw [d.wP] at hm
      obtain ⟨q, hq, rfl⟩ := List.mem_map.1 hm
      have hy := (d.mem ⟨x.i, 3, q.pr⟩).2 (.inr (.inr (.inl ⟨q, hq, .inr (.inl ⟨rfl, rfl, hasB_iff.1 h⟩)⟩)))
      rw [← uniq d.seg.sor hy hx rfl]; exact Nat.le_refl _
  · intro hr
    rcases (d.mem x).1 hx with ⟨e, _⟩ | ⟨e, _⟩ | ⟨q, hq, ⟨e, _⟩ | ⟨_, _, e⟩ | h⟩ | ⟨e, _⟩
    · exact .inl ⟨x, hx, by omega, rfl⟩
    · exact .inl ⟨x, hx, by omega, rfl⟩
    · exact .inl ⟨x, hx, by omega, rfl⟩
    · exact .inr ⟨q.m + 1, by rw [d.wP]; exact List.mem_map.2 ⟨q, hq, rfl⟩, hasB_iff.2 e⟩
    · have := br_roles (d.qs q hq x h).1; omega
    · omega

theorem Dec.role0 (d : Dec L S K T Q p M C) (w : ByteArray) : 0 ≤ indexB L S w ↔ ∃ y ∈ M, y.r = 0 ∧ tAt L y.i = w := by
  rw [index_iff]
  constructor
  · rintro ⟨j, hj, e⟩
    have hy := (d.mem ⟨j, 0, -1⟩).2 (.inl ⟨rfl, rfl, hj⟩)
    exact ⟨_, hy, rfl, (tk_t (d.lt hy)).symm.trans e⟩
  · rintro ⟨y, hy, e, h⟩
    rcases (d.mem y).1 hy with ⟨_, _, f⟩ | ⟨f, _⟩ | ⟨q, hq, ⟨f, _⟩ | ⟨f, _⟩ | f⟩ | ⟨f, _⟩
    · exact ⟨y.i, f, (tk_t (d.lt hy)).trans h⟩
    · omega
    · omega
    · omega
    · have := br_roles (d.qs q hq y f).1; omega
    · omega
theorem Dec.role1 (d : Dec L S K T Q p M C) (w : ByteArray) : 0 ≤ indexB L K w ↔ ∃ y ∈ M, y.r = 1 ∧ tAt L y.i = w := by
  rw [index_iff]
  constructor
  · rintro ⟨j, hj, e⟩
    have hy := (d.mem ⟨j, 1, -1⟩).2 (.inr (.inl ⟨rfl, rfl, hj⟩))
    exact ⟨_, hy, rfl, (tk_t (d.lt hy)).symm.trans e⟩
  · rintro ⟨y, hy, e, h⟩
    rcases (d.mem y).1 hy with ⟨f, _⟩ | ⟨_, _, f⟩ | ⟨q, hq, ⟨f, _⟩ | ⟨f, _⟩ | f⟩ | ⟨f, _⟩
    · omega
    · exact ⟨y.i, f, (tk_t (d.lt hy)).trans h⟩
    · omega
    · omega
    · have := br_roles (d.qs q hq y f).1; omega
    · omega
theorem Dec.role2 (d : Dec L S K T Q p M C) (w : ByteArray) : 0 ≤ indexB L (procsB L) w ↔ ∃ y ∈ M, y.r = 2 ∧ tAt L y.i = w := by
  rw [index_iff, d.wP]
  constructor
  · rintro ⟨j, hj, e⟩
    obtain ⟨q, hq, rfl⟩ := List.mem_map.1 hj
    have hy := (d.mem ⟨q.m + 1, 2, q.pr⟩).2 (.inr (.inr (.inl ⟨q, hq, .inl ⟨rfl, rfl, rfl⟩⟩)))
    exact ⟨_, hy, rfl, (tk_t (d.lt hy)).symm.trans e⟩
  · rintro ⟨y, hy, e, h⟩
    rcases (d.mem y).1 hy with ⟨f, _⟩ | ⟨f, _⟩ | ⟨q, hq, ⟨_, _, f⟩ | ⟨f, _⟩ | f⟩ | ⟨f, _⟩
    · omega
    · omega
    · exact ⟨y.i, List.mem_map.2 ⟨q, hq, f.symm⟩, (tk_t (d.lt hy)).trans h⟩
    · omega
    · have := br_roles (d.qs q hq y f).1; omega
    · omega
theorem Dec.role3 (d : Dec L S K T Q p M C) {q : PQ} (hq : q ∈ Q) (w : ByteArray) : 0 ≤ indexB L (paramsB L (q.m + 1)) w ↔ ∃ y ∈ M, y.r = 3 ∧ y.pr = q.pr ∧ tAt L y.i = w := by
  rw [index_iff]
  constructor
  · rintro ⟨j, hj, e⟩
    have hy := (d.mem ⟨j, 3, q.pr⟩).2 (.inr (.inr (.inl ⟨q, hq, .inr (.inl ⟨rfl, rfl, hj⟩)⟩)))
    exact ⟨_, hy, rfl, rfl, (tk_t (d.lt hy)).symm.trans e⟩
  · rintro ⟨y, hy, e, e2, h⟩
    rcases (d.mem y).1 hy with ⟨f, _⟩ | ⟨f, _⟩ | ⟨r, hr, ⟨f, _⟩ | ⟨_, f2, f3⟩ | f⟩ | ⟨f, _⟩
    · omega
    · omega
    · omega
    · have : r = q := d.same hr hq (by rw [← f2, e2])
      subst this
      exact ⟨y.i, f3, (tk_t (d.lt hy)).trans h⟩
    · have := br_roles (d.qs r hr y f).1; omega
    · omega

theorem nar_false {i : Nat} (h : NAR L i) : (isB L ((i : Int) - 1) ⟨#[97, 99, 113, 117, 105, 114, 101]⟩ || isB L ((i : Int) - 1) ⟨#[114, 101, 108, 101, 97, 115, 101]⟩) = false := by
  rw [Bool.or_eq_false_iff]
  refine ⟨Bool.eq_false_iff.2 fun e => ?_, Bool.eq_false_iff.2 fun e => ?_⟩
  · obtain ⟨j, h1, h2⟩ := (isB_prev (by decide)).1 e
    exact (h j h1).1 h2
  · obtain ⟨j, h1, h2⟩ := (isB_prev (by decide)).1 e
    exact (h j h1).2 h2
theorem ar_true {i : Nat} (h : AR L i) : (isB L ((i : Int) - 1) ⟨#[97, 99, 113, 117, 105, 114, 101]⟩ || isB L ((i : Int) - 1) ⟨#[114, 101, 108, 101, 97, 115, 101]⟩) = true := by
  obtain ⟨j, h1, h2 | h2⟩ := h
  · rw [(isB_prev (by decide)).2 ⟨j, h1, h2⟩]; rfl
  · rw [(isB_prev (t := ⟨#[114, 101, 108, 101, 97, 115, 101]⟩) (by decide)).2 ⟨j, h1, h2⟩]; simp

theorem not_iff_bool {a : Bool} {P : Prop} (h : a = true ↔ P) : (!a) = true ↔ ¬ P := by
  rw [← h]; cases a <;> simp

/-- What becomes of a name that is used. -/
theorem Dec.used (d : Dec L S K T Q p M C) {x : Ml} (hx : x ∈ M) (hr : ¬ x.r ≤ 3) : (∃ q ∈ Q, x ∈ q.B) ∨ (x.r = 7 ∧ x.i ∈ T) := by
  rcases (d.mem x).1 hx with ⟨e, _⟩ | ⟨e, _⟩ | ⟨q, hq, ⟨e, _⟩ | ⟨e, _⟩ | h⟩ | ⟨e, _, h⟩
  · omega
  · omega
  · omega
  · omega
  · exact .inl ⟨q, hq, h⟩
  · exact .inr ⟨e, h⟩

theorem Dec.mis_iff (d : Dec L S K T Q p M C) {x : Ml} (hx : x ∈ M) (hr : ¬ x.r ≤ 3) : misusedB (M.map (RR.mk L)) (RR.mk L x) = !rightB L x.i := by
  have ew : (tk L x.i).t = tAt L x.i := tk_t (d.lt hx)
  have hT : ∀ r, x.r = r → ¬ r = 7 → hasB T (x.i : Int) = false := fun r e h7 => Bool.eq_false_iff.2 fun h => by
    have hy := (d.mem ⟨x.i, 7, p⟩).2 (.inr (.inr (.inr ⟨rfl, rfl, hasB_iff.1 h⟩)))
    have := congrArg Ml.r (uniq d.seg.sor hy hx rfl)
    exact h7 (e.symm.trans this.symm)
  unfold misusedB rightB
  rw [d.wS, d.wK, d.wT, ew]
  have e1 : (RR.mk L x).role = x.r := rfl
  have e2 : (RR.mk L x).word = tAt L x.i := rfl
  have e3 : (RR.mk L x).proc = x.pr := rfl
  rw [e1, e2, e3]
  rcases d.used hx hr with ⟨q, hq, hb⟩ | ⟨h7, hin⟩
  · obtain ⟨br, hpr, hh⟩ := d.qs q hq x hb
    rcases br with ⟨h4, hn, hx1⟩ | ⟨h5, ha, hx1⟩ | ⟨h6, hn, hx1⟩
    · rw [if_pos h4, nar_false hn, hT 4 h4 (by decide), isB_next (by decide), decide_eq_false hx1, hh]
      simp only [Bool.false_or, if_false, Bool.false_eq_true]
      rw [Bool.eq_iff_iff, Bool.and_eq_true, not_iff_bool given_ns, not_iff_bool param_ns, Bool.not_or, Bool.and_eq_true, not_iff_bool decide_eq_true_iff, not_iff_bool decide_eq_true_iff, d.role0, d.role3 hq, hpr]
    · rw [if_neg (by omega), if_pos h5, ar_true ha]
      simp only [if_true]
      rw [Bool.eq_iff_iff, not_iff_bool given_ns, not_iff_bool decide_eq_true_iff, d.role1]
    · rw [if_neg (by omega), if_neg (by omega), if_pos (.inl h6), nar_false hn, isB_next (by decide), decide_eq_true hx1, Bool.or_true]
      simp only [if_true, if_false, Bool.false_eq_true]
      rw [Bool.eq_iff_iff, not_iff_bool given_ns, not_iff_bool decide_eq_true_iff, d.role2]
  · have ht := d.thr x.i hin
    rw [if_neg (by omega), if_neg (by omega), if_pos (.inr h7), nar_false ht.1, hasB_iff.2 hin, Bool.true_or]
    simp only [if_true, if_false, Bool.false_eq_true]
    rw [Bool.eq_iff_iff, not_iff_bool given_ns, not_iff_bool decide_eq_true_iff, d.role2]

theorem mis_eq (d : Dec L S K T Q p M C) : misP (M.map (RR.mk L)) = misF L 0 := by
  refine lo_lo ((lo_first (L := L) d.seg.sor (fun _ n => misusedB (M.map (RR.mk L)) n) M.length 0 rfl).congr (fun i => ?_)) (misF_lo L L.length 0 rfl)
  constructor
  · rintro ⟨j, _, hj, rfl, h⟩
    have hx : M[j] ∈ M := List.getElem_mem _
    have hlt := d.lt hx
    refine ⟨Nat.zero_le _, hlt, ?_⟩
    have hn := (d.seg.inn _ hx).2.2
    rw [tAt_in hlt] at hn
    have hr : ¬ M[j].r ≤ 3 := fun hr => by
      unfold misusedB at h
      have e1 : (RR.mk L M[j]).role = M[j].r := rfl
      rw [e1, if_neg (by omega), if_neg (by omega), if_neg (by omega)] at h
      cases h
    have hg : givenB L M[j].i = false := Bool.eq_false_iff.2 fun e => hr ((d.given hx).1 e)
    rw [d.mis_iff hx hr] at h
    rw [hn, hg, h]; rfl
  · rintro ⟨_, hlt, h⟩
    rw [Bool.and_eq_true, Bool.and_eq_true] at h
    obtain ⟨⟨h1, h2⟩, h3⟩ := h
    rw [← tAt_in hlt] at h1
    obtain ⟨x, hx, rfl⟩ := d.seg.cov i (Nat.zero_le _) hlt h1
    have hr : ¬ x.r ≤ 3 := fun hr => by rw [(d.given hx).2 hr] at h2; cases h2
    obtain ⟨j, hj, rfl⟩ := List.getElem_of_mem hx
    exact ⟨j, Nat.zero_le _, hj, rfl, by rw [d.mis_iff hx hr]; exact h3⟩

/-! Calls. -/

theorem fold_skip {w : ByteArray} {q : Int} : ∀ (N : List Ml) (n : Nat), (∀ x ∈ N, ¬ (x.r = 2 ∧ tAt L x.i = w)) → (∀ x ∈ N, ¬ (x.r = 3 ∧ x.pr = q)) → (N.map (RR.mk L)).foldl (pstep w) (q, n) = (q, n)
  | [], n, _, _ => rfl
  | x :: N, n, h1, h2 => by
    rw [List.map_cons, List.foldl_cons]
    have e : pstep w (q, n) (RR.mk L x) = (q, n) := by
      unfold pstep
      have g1 : ¬ ((RR.mk L x).role = 2 ∧ (RR.mk L x).word = w) := h1 x List.mem_cons_self
      have g2 : ¬ ((RR.mk L x).role = 3 ∧ (RR.mk L x).proc = q) := h2 x List.mem_cons_self
      simp only [if_neg g1, if_neg g2]
    rw [e]
    exact fold_skip N n (fun y hy => h1 y (List.mem_cons_of_mem _ hy)) (fun y hy => h2 y (List.mem_cons_of_mem _ hy))
theorem fold_params {w : ByteArray} {q : Int} : ∀ (l : List Nat) (n : Nat), ((l.map fun i => (⟨i, 3, q⟩ : Ml)).map (RR.mk L)).foldl (pstep w) (q, n) = (q, n + l.length)
  | [], n => rfl
  | i :: l, n => by
    rw [List.map_cons, List.map_cons, List.foldl_cons]
    have e : pstep w (q, n) (RR.mk L ⟨i, 3, q⟩) = (q, n + 1) := by
      unfold pstep
      have g1 : ¬ ((RR.mk L ⟨i, 3, q⟩).role = 2 ∧ (RR.mk L ⟨i, 3, q⟩).word = w) := fun h => absurd (show 3 = 2 from h.1) (by decide)
      have g2 : (RR.mk L ⟨i, 3, q⟩).role = 3 ∧ (RR.mk L ⟨i, 3, q⟩).proc = q := ⟨rfl, rfl⟩
      simp only [if_neg g1, if_pos g2]
    rw [e, fold_params l (n + 1), List.length_cons]
    congr 1
    omega

theorem Dec.params (d : Dec L S K T Q p M C) {q : PQ} (hq : q ∈ Q) {w : ByteArray} (hw : tAt L (q.m + 1) = w) (hu : ∀ r ∈ Q, tAt L (r.m + 1) = w → r = q) : paramsP (M.map (RR.mk L)) w = (paramsB L (q.m + 1)).length := by
  obtain ⟨Q1, Q2, hQ⟩ := List.append_of_mem hq
  have hprs := d.prs
  rw [hQ] at hprs
  obtain ⟨_, hp2, hp3⟩ := List.pairwise_append.1 hprs
  have lt1 : ∀ r ∈ Q1, r.pr < q.pr := fun r hr => hp3 r hr q List.mem_cons_self
  have lt2 : ∀ r ∈ Q2, q.pr < r.pr := fun r hr => (List.pairwise_cons.1 hp2).1 r hr
  have in1 : ∀ r ∈ Q1, r ∈ Q := fun r hr => by rw [hQ]; exact List.mem_append_left _ hr
  have in2 : ∀ r ∈ Q2, r ∈ Q := fun r hr => by rw [hQ]; exact List.mem_append_right _ (List.mem_cons_of_mem _ hr)
  have hms : ∀ r ∈ Q, ∀ x ∈ PQ.ms L r, (x.r = 2 ∧ x.i = r.m + 1 ∧ x.pr = r.pr) ∨ (x.r = 3 ∧ x.pr = r.pr) ∨ (x.r = 4 ∨ x.r = 5 ∨ x.r = 6) := fun r hr x hx => by
    unfold PQ.ms at hx
    rcases List.mem_cons.1 hx with rfl | hx
    · exact .inl ⟨rfl, rfl, rfl⟩
    · rcases List.mem_append.1 hx with hx | hx
      · obtain ⟨i, _, rfl⟩ := List.mem_map.1 hx
        exact .inr (.inl ⟨rfl, rfl⟩)
      · exact .inr (.inr (br_roles (d.qs r hr x hx).1))
  have eM : M = (S.map (fun i => (⟨i, 0, -1⟩ : Ml)) ++ (K.map (fun i => (⟨i, 1, -1⟩ : Ml)) ++ Q1.flatMap (PQ.ms L))) ++ (PQ.ms L q ++ (Q2.flatMap (PQ.ms L) ++ T.map (fun i => (⟨i, 7, p⟩ : Ml)))) := by
    rw [d.eM, hQ, List.flatMap_append, List.flatMap_cons]
    simp only [List.append_assoc]
  unfold paramsP
  rw [eM, List.map_append, List.foldl_append, fold_skip (q := -1) (S.map (fun i => (⟨i, 0, -1⟩ : Ml)) ++ (K.map (fun i => (⟨i, 1, -1⟩ : Ml)) ++ Q1.flatMap (PQ.ms L))) 0, List.map_append, List.foldl_append]
  · have eq : PQ.ms L q = ⟨q.m + 1, 2, q.pr⟩ :: ((paramsB L (q.m + 1)).map (fun i => ⟨i, 3, q.pr⟩) ++ q.B) := rfl
    rw [eq, List.map_cons, List.foldl_cons]
    have e : pstep w (-1, 0) (RR.mk L ⟨q.m + 1, 2, q.pr⟩) = (q.pr, 0) := by
      unfold pstep
      have g1 : (RR.mk L ⟨q.m + 1, 2, q.pr⟩).role = 2 ∧ (RR.mk L ⟨q.m + 1, 2, q.pr⟩).word = w := ⟨rfl, hw⟩
      simp only [if_pos g1]
      rfl
    rw [e, List.map_append, List.foldl_append, fold_params, fold_skip q.B, fold_skip (Q2.flatMap (PQ.ms L) ++ T.map (fun i => (⟨i, 7, p⟩ : Ml)))]
    · simp
    · intro x hx ⟨h2, h3⟩
      rcases List.mem_append.1 hx with hx | hx
      · obtain ⟨r, hr, hx⟩ := List.mem_flatMap.1 hx
        have hlt := lt2 r hr
        rcases hms r (in2 r hr) x hx with ⟨_, e, _⟩ | ⟨e, _⟩ | e
        · rw [e] at h3
          rw [hu r (in2 r hr) h3] at hlt; omega
        · omega
        · omega
      · obtain ⟨i, _, rfl⟩ := List.mem_map.1 hx
        exact absurd (show 7 = 2 from h2) (by decide)
    · intro x hx ⟨h2, h3⟩
      rcases List.mem_append.1 hx with hx | hx
      · obtain ⟨r, hr, hx⟩ := List.mem_flatMap.1 hx
        have hlt := lt2 r hr
        rcases hms r (in2 r hr) x hx with ⟨e, _⟩ | ⟨_, e⟩ | e
        · omega
        · omega
        · omega
      · obtain ⟨i, _, rfl⟩ := List.mem_map.1 hx
        exact absurd (show 7 = 3 from h2) (by decide)
    · intro x hx h
      have := br_roles (d.qs q hq x hx).1; omega
    · intro x hx h
      have := br_roles (d.qs q hq x hx).1; omega
  · intro x hx ⟨h2, h3⟩
    rcases List.mem_append.1 hx with hx | hx
    · obtain ⟨i, _, rfl⟩ := List.mem_map.1 hx
      exact absurd (show 0 = 2 from h2) (by decide)
    · rcases List.mem_append.1 hx with hx | hx
      · obtain ⟨i, _, rfl⟩ := List.mem_map.1 hx
        exact absurd (show 1 = 2 from h2) (by decide)
      · obtain ⟨r, hr, hx⟩ := List.mem_flatMap.1 hx
        have hlt := lt1 r hr
        rcases hms r (in1 r hr) x hx with ⟨_, e, _⟩ | ⟨e, _⟩ | e
        · rw [e] at h3
          rw [hu r (in1 r hr) h3] at hlt; omega
        · omega
        · omega
  · intro x hx ⟨h2, h3⟩
    rcases List.mem_append.1 hx with hx | hx
    · obtain ⟨i, _, rfl⟩ := List.mem_map.1 hx
      exact absurd (show 0 = 3 from h2) (by decide)
    · rcases List.mem_append.1 hx with hx | hx
      · obtain ⟨i, _, rfl⟩ := List.mem_map.1 hx
        exact absurd (show 1 = 3 from h2) (by decide)
      · obtain ⟨r, hr, hx⟩ := List.mem_flatMap.1 hx
        have := d.prp r (in1 r hr)
        rcases hms r (in1 r hr) x hx with ⟨e, _⟩ | ⟨_, e⟩ | e
        · omega
        · omega
        · omega

theorem Dec.arity (d : Dec L S K T Q p M C) (h1 : ∀ i, ¬ ∃ x ∈ M, x.i = i ∧ ∃ y ∈ M, CL L x y) {x : Ml} (hx : x ∈ M) (hy : ∃ y ∈ M, y.r = 2 ∧ tAt L y.i = tAt L x.i) : paramsP (M.map (RR.mk L)) (tAt L x.i) = (paramsB L (procOf L x.i)).length := by
  have hidx := (d.role2 (tAt L x.i)).2 hy
  have huq : ∀ q ∈ Q, ∀ r ∈ Q, tAt L (q.m + 1) = tAt L x.i → tAt L (r.m + 1) = tAt L x.i → r = q := fun q hq r hr e1 e2 => by
    have m1 := (d.mem ⟨q.m + 1, 2, q.pr⟩).2 (.inr (.inr (.inl ⟨q, hq, .inl ⟨rfl, rfl, rfl⟩⟩)))
    have m2 := (d.mem ⟨r.m + 1, 2, r.pr⟩).2 (.inr (.inr (.inl ⟨r, hr, .inl ⟨rfl, rfl, rfl⟩⟩)))
    by_cases c1 : q.m + 1 < r.m + 1
    · exact absurd ⟨_, m2, rfl, _, m1, e1.trans e2.symm, .inl ⟨Nat.le_refl _, Nat.le_refl _, c1⟩⟩ (h1 (r.m + 1))
    · by_cases c2 : r.m + 1 < q.m + 1
      · exact absurd ⟨_, m1, rfl, _, m2, e2.trans e1.symm, .inl ⟨Nat.le_refl _, Nat.le_refl _, c2⟩⟩ (h1 (q.m + 1))
      · have := congrArg Ml.pr (uniq d.seg.sor m2 m1 (by show r.m + 1 = q.m + 1; omega))
        exact d.same hr hq this
  unfold procOf
  rw [tk_t (d.lt hx)]
  unfold indexB at hidx ⊢
  cases h : (procsB L).findIdx? fun j => decide ((tk L j).t = tAt L x.i) with
  | none => rw [h] at hidx; exact absurd hidx (by decide)
  | some k =>
    obtain ⟨hk, he, _⟩ := List.findIdx?_eq_some_iff_getElem.1 h
    show _ = (paramsB L (nth (procsB L) (k : Int).toNat)).length
    rw [Int.toNat_natCast, nth_eq hk]
    have hmem : (procsB L)[k] ∈ Q.map (fun q => q.m + 1) := by rw [← d.wP]; exact List.getElem_mem _
    obtain ⟨q, hq, eq⟩ := List.mem_map.1 hmem
    rw [← eq]
    have hlt := d.lt ((d.mem ⟨q.m + 1, 2, q.pr⟩).2 (.inr (.inr (.inl ⟨q, hq, .inl ⟨rfl, rfl, rfl⟩⟩))))
    have hw : tAt L (q.m + 1) = tAt L x.i := by
      rw [← tk_t hlt]
      have := of_decide_eq_true he
      rw [← eq] at this; exact this
    exact d.params hq hw (fun r hr e => huq q hq r hr hw e)

theorem ari_eq (d : Dec L S K T Q p M C) (h1 : ∀ i, ¬ ∃ x ∈ M, x.i = i ∧ ∃ y ∈ M, CL L x y) (h2 : misP (M.map (RR.mk L)) = none) : wrongP (M.map (RR.mk L)) (C.map (mkc L)) = ariF L 0 := by
  have hm : ∀ x ∈ M, x.r = 6 → ∃ y ∈ M, y.r = 2 ∧ tAt L y.i = tAt L x.i := fun x hx e6 => by
    have hlo := lo_first (L := L) d.seg.sor (fun _ n => misusedB (M.map (RR.mk L)) n) M.length 0 rfl
    unfold misP at h2
    rw [h2] at hlo
    rcases hlo with ⟨_, hn⟩ | ⟨i, _, h, _⟩
    · have : misusedB (M.map (RR.mk L)) (RR.mk L x) = false := Bool.eq_false_iff.2 fun e => by
        obtain ⟨j, hj, rfl⟩ := List.getElem_of_mem hx
        exact hn _ ⟨j, Nat.zero_le _, hj, rfl, e⟩
      unfold misusedB at this
      have e1 : (RR.mk L x).role = x.r := rfl
      rw [e1, if_neg (by omega), if_neg (by omega), if_pos (.inl e6)] at this
      have : isGivenB (M.map (RR.mk L)) (tAt L x.i) 2 = true := by
        have t : (!isGivenB (M.map (RR.mk L)) (tAt L x.i) 2) = false := this
        simpa using t
      exact given_ns.1 this
    · cases h
  refine lo_lo ((wrongP_lo (L := L) C d.cs.sor).congr (fun i => ?_)) (ariF_lo L L.length 0 rfl)
  constructor
  · rintro ⟨c, hc, rfl, hv⟩
    obtain ⟨⟨x, hx, h6, hxi⟩, hval⟩ := d.cs.inn c hc
    rw [← hxi] at hval hv ⊢
    have hlt := d.lt hx
    refine ⟨Nat.zero_le _, hlt, ?_⟩
    have hn := (d.seg.inn _ hx).2.2
    rw [tAt_in hlt] at hn
    have hg : givenB L x.i = false := Bool.eq_false_iff.2 fun e => by have := (d.given hx).1 e; omega
    have h40 : tAt L (x.i + 1) = ⟨#[40]⟩ := by
      rcases d.used hx (by omega) with ⟨q, hq, hb⟩ | ⟨e, _⟩
      · rcases (d.qs q hq x hb).1 with ⟨e, _⟩ | ⟨e, _⟩ | ⟨_, _, e⟩
        · omega
        · omega
        · exact e
      · omega
    rw [d.arity h1 hx (hm x hx h6)] at hv
    rw [hn, hg, isB_next (by decide), decide_eq_true h40, decide_eq_true (by rw [← hval]; omega)]; rfl
  · rintro ⟨_, hlt, h⟩
    rw [Bool.and_eq_true, Bool.and_eq_true, Bool.and_eq_true] at h
    obtain ⟨⟨⟨g1, g2⟩, g3⟩, g4⟩ := h
    rw [← tAt_in hlt] at g1
    obtain ⟨x, hx, rfl⟩ := d.seg.cov i (Nat.zero_le _) hlt g1
    have hr : ¬ x.r ≤ 3 := fun hr => by rw [(d.given hx).2 hr] at g2; cases g2
    rw [isB_next (by decide), decide_eq_true_iff] at g3
    have h6 : x.r = 6 := by
      rcases d.used hx hr with ⟨q, hq, hb⟩ | ⟨e, hin⟩
      · rcases (d.qs q hq x hb).1 with ⟨_, _, e⟩ | ⟨_, _, e⟩ | ⟨e, _⟩
        · exact absurd g3 e
        · exact absurd g3 e
        · exact e
      · exact absurd g3 (d.thr x.i hin).2
    obtain ⟨c, hc, hci⟩ := d.cs.cov x hx h6
    refine ⟨c, hc, hci, ?_⟩
    have hval := (d.cs.inn c hc).2
    rw [hci] at hval ⊢
    rw [d.arity h1 hx (hm x hx h6)]
    have := of_decide_eq_true g4
    rw [← hval] at this
    omega

theorem Dec.procOk (d : Dec L S K T Q p M C) : ProcOk L := fun k h => by
  rw [isB_tAt (by decide), decide_eq_true_iff] at h
  have hk : k < L.length := by
    by_cases hk : k < L.length
    · exact hk
    · rw [tAt_out hk] at h; exact absurd h (by decide)
  have hin : ∀ n a, k = a + n → k + 1 ∈ procsF L a := by
    intro n
    induction n with
    | zero => intro a e; rw [show a = k by omega, procsF_hit h]; exact List.mem_cons_self
    | succ n ih =>
      intro a e
      have := ih (a + 1) (by omega)
      rw [procsF, if_pos (by omega)]
      split
      · exact List.mem_cons_of_mem _ this
      · exact this
  have hmem : k + 1 ∈ Q.map (fun q => q.m + 1) := by rw [← d.wP]; exact hin k 0 (by omega)
  obtain ⟨q, hq, e⟩ := List.mem_map.1 hmem
  have := d.lt ((d.mem ⟨q.m + 1, 2, q.pr⟩).2 (.inr (.inr (.inl ⟨q, hq, .inl ⟨rfl, rfl, rfl⟩⟩))))
  have : q.m + 1 < L.length := this
  omega

theorem Dec.callOk (d : Dec L S K T Q p M C) : CallOk L := fun i h g1 g2 g3 g4 => by
  rw [← tAt_in h] at g1 ⊢
  obtain ⟨x, hx, rfl⟩ := d.seg.cov i (Nat.zero_le _) h g1
  have hr : ¬ x.r ≤ 3 := fun hr => by rw [(d.given hx).2 hr] at g2; cases g2
  rw [isB_next (by decide), decide_eq_true_iff] at g3
  have h6 : x.r = 6 := by
    rcases d.used hx hr with ⟨q, hq, hb⟩ | ⟨e, hin⟩
    · rcases (d.qs q hq x hb).1 with ⟨_, _, e⟩ | ⟨_, _, e⟩ | ⟨e, _⟩
      · exact absurd g3 e
      · exact absurd g3 e
      · exact e
    · exact absurd g3 (d.thr x.i hin).2
  have := d.mis_iff hx hr
  rw [g4] at this
  unfold misusedB at this
  have e1 : (RR.mk L x).role = x.r := rfl
  rw [e1, if_neg (by omega), if_neg (by omega), if_pos (.inl h6)] at this
  have : isGivenB (M.map (RR.mk L)) (tAt L x.i) 2 = true := by
    have t : (!isGivenB (M.map (RR.mk L)) (tAt L x.i) 2) = !true := this
    simpa using t
  exact (d.role2 _).2 (given_ns.1 this)

theorem names_eq (hM : Mono L) (d : Dec L S K T Q p M C) : outCheck (M.map (RR.mk L)) (C.map (mkc L)) = namesCheck L := by
  unfold outCheck namesCheck
  rcases lst_lo (many_lst hM d d.procOk) (many_lo d) with ⟨h1, h2⟩ | ⟨q, h1, h2⟩
  · rw [h1, if_neg (by omega)]
    have tl := twice_lo (L := L) d.seg.sor
    rcases lst_lo (twice_lst hM d d.procOk) tl with ⟨h3, h4⟩ | ⟨q, h3, h4⟩
    · have hno : ∀ i, ¬ ∃ x ∈ M, x.i = i ∧ ∃ y ∈ M, CL L x y := by
        rcases tl with ⟨_, h⟩ | ⟨i, _, h, _⟩
        · exact h
        · rw [h] at h3; cases h3
      rw [h3, if_neg (by omega)]
      show (match misP (M.map (RR.mk L)) with | some p => ((5 : Int), (p : Int)) | none => _) = _
      have hm := mis_eq d
      cases h5 : misP (M.map (RR.mk L)) with
      | some q => rw [← hm, h5]
      | none =>
        rw [← hm, h5]
        show (match wrongP (M.map (RR.mk L)) (C.map (mkc L)) with | some p => ((6 : Int), (p : Int)) | none => (0, 0)) = _
        rw [ari_eq d hno h5]
        rfl
    · rw [h3, if_pos (by omega), h4]
  · rw [h1, if_pos (by omega), h2]

end
end RR
