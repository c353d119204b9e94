/- Which names the parser lists: rows of tokens, expressions. Plain functions. No Go here. -/
import Derived.Test.YtlpmkpjhdahfhaaGreatDoorSimI
import Derived.Test.YtlpmkpjhdahfhaaGreatDoorPure4
namespace RR
open Go Go.RowKit

/-- A name in the list: its token, its role, its procedure's number. -/
structure Ml where
  i : Nat
  r : Nat
  pr : Int
def mk (L : List Tk) (x : Ml) : Nm := ⟨tAt L x.i, (tk L x.i).p, x.r, x.pr⟩

/-- The names among the tokens from a to b are those of M, in their order. -/
structure Seg (L : List Tk) (a b : Nat) (M : List Ml) : Prop where
  le : a ≤ b
  inn : ∀ x ∈ M, a ≤ x.i ∧ x.i < b ∧ isNameB (tAt L x.i) = true
  cov : ∀ i, a ≤ i → i < b → isNameB (tAt L i) = true → ∃ x ∈ M, x.i = i
  sor : M.Pairwise fun x y => x.i < y.i

theorem Seg.nil (L : List Tk) (a : Nat) : Seg L a a [] := ⟨Nat.le_refl _, fun _ h => (by cases h), fun i h1 h2 => absurd h1 (by omega), List.Pairwise.nil⟩
theorem Seg.comp {L : List Tk} {a b c : Nat} {M N : List Ml} (h : Seg L a b M) (k : Seg L b c N) : Seg L a c (M ++ N) := by
  refine ⟨Nat.le_trans h.le k.le, ?_, ?_, ?_⟩
  · intro x hx
    rcases List.mem_append.1 hx with hx | hx
    · have := h.inn x hx; have := k.le; exact ⟨by omega, by omega, (h.inn x hx).2.2⟩
    · have := k.inn x hx; have := h.le; exact ⟨by omega, by omega, (k.inn x hx).2.2⟩
  · intro i h1 h2 h3
    by_cases hb : i < b
    · obtain ⟨x, hx, e⟩ := h.cov i h1 hb h3; exact ⟨x, List.mem_append_left _ hx, e⟩
    · obtain ⟨x, hx, e⟩ := k.cov i (by omega) h2 h3; exact ⟨x, List.mem_append_right _ hx, e⟩
  · refine List.pairwise_append.2 ⟨h.sor, k.sor, fun x hx y hy => ?_⟩
    have := h.inn x hx; have := k.inn y hy; omega
theorem Seg.tok {L : List Tk} {a : Nat} (h : isNameB (tAt L a) = false) : Seg L a (a + 1) [] := by
  refine ⟨Nat.le_succ _, fun _ h => (by cases h), fun i h1 h2 h3 => ?_, List.Pairwise.nil⟩
  have : i = a := by omega
  rw [this, h] at h3; cases h3
theorem Seg.name {L : List Tk} {a : Nat} {x : Ml} (h : isNameB (tAt L a) = true) (e : x.i = a) : Seg L a (a + 1) [x] := by
  refine ⟨Nat.le_succ _, fun y hy => ?_, fun i h1 h2 h3 => ⟨x, List.mem_singleton.2 rfl, by omega⟩, List.pairwise_singleton _ _⟩
  rw [List.mem_singleton.1 hy, e]; exact ⟨by omega, by omega, h⟩

/-- A token is taken. -/
structure Tok (L : List Tk) (t : ByteArray) (a b : PSt) : Prop where
  ok : a.failed = false
  lt : a.next < L.length
  is : tAt L a.next = t
  next : b.next = a.next + 1
  names : b.names = a.names
  calls : b.calls = a.calls
  proc : b.proc = a.proc

theorem sees_is {L : List Tk} {a : PSt} {t : ByteArray} (h0 : ¬ t = ⟨#[]⟩) (h : a.sees L t = true) : a.failed = false ∧ a.next < L.length ∧ tAt L a.next = t := by
  have := sees_lt h0 h
  refine ⟨this.2, this.1, ?_⟩
  unfold PSt.sees at h; rw [tAt_ahead this.2] at h; exact of_decide_eq_true h
theorem sees_not {L : List Tk} {a : PSt} {t : ByteArray} (hf : a.failed = false) (h : a.sees L t = false) : ¬ tAt L a.next = t := by
  unfold PSt.sees at h; rw [tAt_ahead hf] at h; exact of_decide_eq_false h
theorem tok_step {L : List Tk} {a : PSt} {t : ByteArray} (h0 : ¬ t = ⟨#[]⟩) (h : a.sees L t = true) : Tok L t a a.step := by
  obtain ⟨h1, h2, h3⟩ := sees_is h0 h
  exact ⟨h1, h2, h3, rfl, rfl, rfl, rfl⟩
theorem tok_take {L : List Tk} {a : PSt} {t : ByteArray} (h0 : ¬ t = ⟨#[]⟩) (h : (a.take L t).failed = false) : Tok L t a (a.take L t) := by
  unfold PSt.take at h ⊢
  cases hs : a.sees L t
  · rw [hs] at h; cases h
  · exact tok_step h0 hs
theorem tok_enter {L : List Tk} {a : PSt} {t : ByteArray} (h0 : ¬ t = ⟨#[]⟩) (h : (enterP L a t).failed = false) : Tok L t a (enterP L a t) := by
  unfold enterP at h ⊢
  split at h
  · cases h
  · rename_i h6
    rw [if_neg h6]
    have := tok_take (L := L) (a := a) h0 h
    exact ⟨this.ok, this.lt, this.is, this.next, this.names, this.calls, this.proc⟩
theorem tok_leave {L : List Tk} {a : PSt} {t : ByteArray} (h0 : ¬ t = ⟨#[]⟩) (h : (leaveP L a t).failed = false) : Tok L t a (leaveP L a t) := by
  have := tok_take (L := L) (a := a) h0 h
  exact ⟨this.ok, this.lt, this.is, this.next, this.names, this.calls, this.proc⟩

/-- A name is taken. -/
structure Nam (L : List Tk) (r : Nat) (a b : PSt) : Prop where
  ok : a.failed = false
  lt : a.next < L.length
  is : isNameB (tAt L a.next) = true
  next : b.next = a.next + 1
  names : b.names = a.names ++ [mk L ⟨a.next, r, a.proc⟩]
  calls : b.calls = a.calls
  proc : b.proc = a.proc
theorem nam_take {L : List Tk} {a : PSt} {r : Nat} (h : (a.takeName L r).failed = false) : Nam L r a (a.takeName L r) := by
  unfold PSt.takeName at h ⊢
  cases hs : isNameB (a.ahead L 0).t
  · rw [hs] at h; cases h
  · have hl := name_lt hs
    have e := tAt_ahead (L := L) hl.2
    have e2 : (a.ahead L 0).p = (tk L a.next).p := by rw [ahead_in (n := 0) hl.2 hl.1, tk_eq hl.1]; rfl
    refine ⟨hl.2, hl.1, by rw [← e]; exact hs, rfl, ?_, rfl, rfl⟩
    rw [if_pos rfl, e, e2]; rfl

/-- The tokens that stand in expressions. -/
def xsigns : List ByteArray := [⟨#[116, 114, 117, 101]⟩, ⟨#[102, 97, 108, 115, 101]⟩, ⟨#[63]⟩, ⟨#[33]⟩, ⟨#[38]⟩, ⟨#[124]⟩, ⟨#[40]⟩, ⟨#[41]⟩, ⟨#[44]⟩]
def xtok (t : ByteArray) : Prop := isNameB t = true ∨ memB xsigns t = true
theorem xtok_ne {t : ByteArray} (h : xtok t) (u : ByteArray) (hu : isNameB u = false) (hl : memB xsigns u = false) : ¬ t = u := by
  rintro rfl
  rcases h with h | h
  · rw [hu] at h; cases h
  · rw [hl] at h; cases h

theorem mate_step {L : List Tk} {d : Int} {f m : Nat} {k : Int} (hm : m < L.length) : mateF L 1 d (f + 1) m k = if k + delta (tAt L m) = 0 then (m : Int) else mateF L 1 d f (m + 1 : Nat) (k + delta (tAt L m)) := by
  rw [mateF, if_pos ⟨by omega, by omega⟩, Int.toNat_natCast, tk_eq hm, ← tAt_in hm]
  have c12 : ¬ (⟨#[40]⟩ : ByteArray) = ⟨#[41]⟩ ∧ ¬ (⟨#[40]⟩ : ByteArray) = ⟨#[125]⟩ := by decide
  have c34 : ¬ (⟨#[123]⟩ : ByteArray) = ⟨#[41]⟩ ∧ ¬ (⟨#[123]⟩ : ByteArray) = ⟨#[125]⟩ := by decide
  have hd : (if tAt L m = ⟨#[41]⟩ ∨ tAt L m = ⟨#[125]⟩ then (if tAt L m = ⟨#[40]⟩ ∨ tAt L m = ⟨#[123]⟩ then k + 1 else k) - 1 else if tAt L m = ⟨#[40]⟩ ∨ tAt L m = ⟨#[123]⟩ then k + 1 else k) = k + delta (tAt L m) := by
    unfold delta
    by_cases h1 : tAt L m = ⟨#[40]⟩ ∨ tAt L m = ⟨#[123]⟩
    · have h2 : ¬ (tAt L m = ⟨#[41]⟩ ∨ tAt L m = ⟨#[125]⟩) := by
        rcases h1 with h1 | h1
        · rw [h1]; exact not_or.2 c12
        · rw [h1]; exact not_or.2 c34
      rw [if_neg h2, if_pos h1, if_pos h1]
    · rw [if_neg h1, if_neg h1]
      split <;> omega
  simp only [hd]; rfl

def dp (t : ByteArray) : Int := if t = ⟨#[40]⟩ then 1 else if t = ⟨#[41]⟩ then -1 else 0
theorem isB_tAt {L : List Tk} {m : Nat} {t : ByteArray} (h0 : ¬ t = ⟨#[]⟩) : isB L m t = decide (tAt L m = t) := by
  by_cases h : m < L.length
  · rw [isB_in h, seq_comm, tAt_in h]
  · rw [isB_out (by omega), tAt_out h, decide_eq_false (fun e => h0 e.symm)]
theorem vals_step {L : List Tk} {e : Int} {f m : Nat} {op v : Int} (hm : (m : Int) < e) : valuesF L e (f + 1) m op v = valuesF L e f (m + 1) (op + dp (tAt L m)) (if tAt L m = ⟨#[44]⟩ ∧ op = 1 then v + 1 else v) := by
  rw [valuesF, if_pos hm]
  simp only [isB_tAt (L := L) (m := m) (t := ⟨#[40]⟩) (by decide), isB_tAt (L := L) (m := m) (t := ⟨#[41]⟩) (by decide), isB_tAt (L := L) (m := m) (t := ⟨#[44]⟩) (by decide)]
  by_cases h1 : tAt L m = ⟨#[40]⟩
  · rw [h1]; simp [dp]
  · by_cases h2 : tAt L m = ⟨#[41]⟩
    · rw [h2]; simp [dp]
      congr 1
    · by_cases h3 : tAt L m = ⟨#[44]⟩
      · rw [h3]; simp [dp]
      · simp [h1, h2, h3, dp]

/-- A row of tokens as they stand in expressions, with so many commas outside of brackets. -/
structure XR (L : List Tk) (cm m n : Nat) : Prop where
  le : m ≤ n
  tok : ∀ i, m ≤ i → i < n → xtok (tAt L i)
  nocall : ∀ i, m ≤ i → i + 1 < n → isNameB (tAt L i) = true → ¬ tAt L (i + 1) = ⟨#[40]⟩
  mate : ∀ (d : Int) (f : Nat) (k : Int), 1 ≤ k → mateF L 1 d (f + (n - m)) m k = mateF L 1 d f n k
  vals : ∀ (e : Int) (f : Nat) (op v : Int), cm = 0 ∨ op = 1 → (n : Int) ≤ e → valuesF L e (f + (n - m)) m op v = valuesF L e f n op (v + cm)

theorem XR.nil (L : List Tk) (m : Nat) : XR L 0 m m := ⟨Nat.le_refl _, fun i h1 h2 => absurd h1 (by omega), fun i h1 h2 => absurd h1 (by omega), fun d f k _ => by rw [Nat.sub_self]; rfl, fun e f op v _ _ => by rw [Nat.sub_self]; simp⟩
theorem XR.comp {L : List Tk} {c c' m n k : Nat} (h : XR L c m n) (h' : XR L c' n k) (hj : m < n → n < k → isNameB (tAt L (n - 1)) = true → ¬ tAt L n = ⟨#[40]⟩) : XR L (c + c') m k := by
  have l1 := h.le
  have l2 := h'.le
  refine ⟨by omega, ?_, ?_, ?_, ?_⟩
  · intro i h1 h2
    by_cases hn : i < n
    · exact h.tok i h1 hn
    · exact h'.tok i (by omega) h2
  · intro i h1 h2 h3
    by_cases hn : i + 1 < n
    · exact h.nocall i h1 hn h3
    · by_cases hn2 : i + 1 = n
      · have := hj (by omega) (by omega)
        rw [show n - 1 = i by omega] at this
        rw [hn2]; exact this h3
      · exact h'.nocall i (by omega) h2 h3
  · intro d f q hq
    rw [show f + (k - m) = (f + (k - n)) + (n - m) by omega, h.mate d _ q hq, h'.mate d f q hq]
  · intro e f op v ho he
    rw [show f + (k - m) = (f + (k - n)) + (n - m) by omega, h.vals e _ op v (by omega) (by omega), h'.vals e f op _ (by omega) he]
    congr 1
    push_cast; omega

/-- A token that is neither a bracket nor a comma. -/
theorem XR.one {L : List Tk} {m : Nat} (hm : m < L.length) (hx : xtok (tAt L m)) (h1 : ¬ tAt L m = ⟨#[40]⟩) (h2 : ¬ tAt L m = ⟨#[41]⟩) (h3 : ¬ tAt L m = ⟨#[44]⟩) : XR L 0 m (m + 1) := by
  have hd : delta (tAt L m) = 0 := by
    rcases delta5 (tAt L m) with ⟨e, _⟩ | ⟨e, _⟩ | ⟨e, _⟩ | ⟨e, _⟩ | ⟨_, _, _, _, e⟩
    · exact absurd e h1
    · exact absurd e (xtok_ne hx _ (sign_name (by decide)) (by decide))
    · exact absurd e h2
    · exact absurd e (xtok_ne hx _ (sign_name (by decide)) (by decide))
    · exact e
  refine ⟨Nat.le_succ _, fun i a b => ?_, fun i a b => absurd a (by omega), fun d f k hk => ?_, fun e f op v _ he => ?_⟩
  · rw [show i = m by omega]; exact hx
  · rw [show f + (m + 1 - m) = f + 1 by omega, mate_step hm, hd, if_neg (by omega), Int.add_zero]
  · rw [show f + (m + 1 - m) = f + 1 by omega, vals_step (by omega)]
    simp [dp, h1, h2, h3]
theorem XR.comma {L : List Tk} {m : Nat} (hm : m < L.length) (h3 : tAt L m = ⟨#[44]⟩) : XR L 1 m (m + 1) := by
  refine ⟨Nat.le_succ _, fun i a b => ?_, fun i a b => absurd a (by omega), fun d f k hk => ?_, fun e f op v ho he => ?_⟩
  · rw [show i = m by omega, h3]; exact .inr (by decide)
  · have hd : delta (⟨#[44]⟩ : ByteArray) = 0 := by decide
    rw [show f + (m + 1 - m) = f + 1 by omega, mate_step hm, h3, hd, if_neg (by omega), Int.add_zero]
  · have ho : op = 1 := by omega
    have hd : dp (⟨#[44]⟩ : ByteArray) = 0 := by decide
    rw [show f + (m + 1 - m) = f + 1 by omega, vals_step (by omega), h3, hd, if_pos ⟨rfl, ho⟩, Int.add_zero]
    rfl
/-- Brackets around it. -/
theorem XR.brack {L : List Tk} {m n : Nat} (h : XR L 0 (m + 1) n) (hn : n < L.length) (h1 : tAt L m = ⟨#[40]⟩) (h2 : tAt L n = ⟨#[41]⟩) : XR L 0 m (n + 1) := by
  have l := h.le
  have hb : isNameB (⟨#[40]⟩ : ByteArray) = false := sign_name (by decide)
  refine ⟨by omega, ?_, ?_, ?_, ?_⟩
  · intro i a b
    by_cases e : i = m
    · rw [e, h1]; exact .inr (by decide)
    · by_cases e2 : i = n
      · rw [e2, h2]; exact .inr (by decide)
      · exact h.tok i (by omega) (by omega)
  · intro i a b c
    by_cases e : i = m
    · rw [e, h1, hb] at c; cases c
    · by_cases e2 : i + 1 = n
      · rw [e2, h2]; decide
      · exact h.nocall i (by omega) (by omega) c
  · intro d f k hk
    have d1 : delta (⟨#[40]⟩ : ByteArray) = 1 := by decide
    have d2 : delta (⟨#[41]⟩ : ByteArray) = -1 := by decide
    rw [show f + (n + 1 - m) = ((f + 1) + (n - (m + 1))) + 1 by omega, mate_step (by omega), h1, d1, if_neg (by omega), h.mate d (f + 1) (k + 1) (by omega), mate_step hn, h2, d2, if_neg (by omega)]
    congr 1
    omega
  · intro e f op v ho he
    have d1 : dp (⟨#[40]⟩ : ByteArray) = 1 := by decide
    have d2 : dp (⟨#[41]⟩ : ByteArray) = -1 := by decide
    have c1 : ¬ (⟨#[40]⟩ : ByteArray) = ⟨#[44]⟩ := by decide
    have c2 : ¬ (⟨#[41]⟩ : ByteArray) = ⟨#[44]⟩ := by decide
    rw [show f + (n + 1 - m) = ((f + 1) + (n - (m + 1))) + 1 by omega, vals_step (by omega), h1, d1, if_neg (fun h => c1 h.1), h.vals e (f + 1) (op + 1) v (.inl rfl) (by omega), vals_step (by omega), h2, d2, if_neg (fun h => c2 h.1)]
    congr 1
    omega

/-- An expression, or several with commas, is read. -/
structure X (L : List Tk) (cm : Nat) (a b : PSt) (M : List Ml) : Prop where
  ok : a.failed = false
  names : b.names = a.names ++ M.map (mk L)
  calls : b.calls = a.calls
  proc : b.proc = a.proc
  seg : Seg L a.next b.next M
  role : ∀ x ∈ M, x.r = 4 ∧ x.pr = a.proc
  row : XR L cm a.next b.next

theorem X.nil {L : List Tk} {a : PSt} (h : a.failed = false) : X L 0 a a [] := ⟨h, (by simp), rfl, rfl, Seg.nil _ _, fun _ h => (by cases h), XR.nil _ _⟩
theorem X.comp {L : List Tk} {c c' : Nat} {a b d : PSt} {M N : List Ml} (h : X L c a b M) (k : X L c' b d N) (hj : a.next < b.next → b.next < d.next → isNameB (tAt L (b.next - 1)) = true → ¬ tAt L b.next = ⟨#[40]⟩) : X L (c + c') a d (M ++ N) := by
  refine ⟨h.ok, ?_, k.calls.trans h.calls, k.proc.trans h.proc, h.seg.comp k.seg, ?_, h.row.comp k.row hj⟩
  · rw [k.names, h.names, List.map_append, List.append_assoc]
  · intro x hx
    rcases List.mem_append.1 hx with hx | hx
    · exact h.role x hx
    · rw [← h.proc]; exact k.role x hx
theorem X.tok {L : List Tk} {t : ByteArray} {a b : PSt} (h : Tok L t a b) (hn : isNameB t = false) (hx : memB xsigns t = true) (h1 : ¬ t = ⟨#[40]⟩) (h2 : ¬ t = ⟨#[41]⟩) (h3 : ¬ t = ⟨#[44]⟩) : X L 0 a b [] := by
  have e := h.is
  refine ⟨h.ok, by rw [h.names]; simp, h.calls, h.proc, ?_, fun _ h => (by cases h), ?_⟩
  · rw [h.next]; exact Seg.tok (by rw [e]; exact hn)
  · rw [h.next]; exact XR.one h.lt (by rw [e]; exact .inr hx) (by rw [e]; exact h1) (by rw [e]; exact h2) (by rw [e]; exact h3)
theorem X.nam {L : List Tk} {a b : PSt} (h : Nam L 4 a b) : X L 0 a b [⟨a.next, 4, a.proc⟩] := by
  have hi := h.is
  have ne : ∀ u : ByteArray, isNameB u = false → ¬ tAt L a.next = u := fun u hu e => by rw [e, hu] at hi; cases hi
  refine ⟨h.ok, h.names, h.calls, h.proc, ?_, ?_, ?_⟩
  · rw [h.next]; exact Seg.name hi rfl
  · intro x hx; rw [List.mem_singleton.1 hx]; exact ⟨rfl, rfl⟩
  · rw [h.next]; exact XR.one h.lt (.inl hi) (ne _ (sign_name (by decide))) (ne _ (sign_name (by decide))) (ne _ (sign_name (by decide)))
theorem X.brack {L : List Tk} {a b c d : PSt} {M : List Ml} (h1 : Tok L ⟨#[40]⟩ a b) (h : X L 0 b c M) (h2 : Tok L ⟨#[41]⟩ c d) : X L 0 a d M := by
  have hb : isNameB (⟨#[40]⟩ : ByteArray) = false := sign_name (by decide)
  have hb2 : isNameB (⟨#[41]⟩ : ByteArray) = false := sign_name (by decide)
  refine ⟨h1.ok, by rw [h2.names, h.names, h1.names], by rw [h2.calls, h.calls, h1.calls], by rw [h2.proc, h.proc, h1.proc], ?_, ?_, ?_⟩
  · have s1 : Seg L a.next b.next [] := by rw [h1.next]; exact Seg.tok (by rw [h1.is]; exact hb)
    have s2 : Seg L c.next d.next [] := by rw [h2.next]; exact Seg.tok (by rw [h2.is]; exact hb2)
    have := (s1.comp h.seg).comp s2
    simpa using this
  · intro x hx; rw [← h1.proc]; exact h.role x hx
  · have := h.row
    rw [h1.next] at this
    rw [h2.next]; exact this.brack h2.lt h1.is h2.is

end RR
