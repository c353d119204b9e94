/- Parts of plain mathematics, cut out for a claim. -/
import Derived.Test.YtmfcpbhdggonfaaGreatDoorMgAB
import Derived.Test.YtmfcpbhdggonfaaGreatDoorMgAE
import Derived.Test.YtmfcpbhdggonfaaGreatDoorMgAD
import Derived.Test.YtmfcpbhdggonfaaGreatDoorMgAA
namespace RR
open Go Go.RowKit
def Ends (L : List Tk) (len : Nat) (W : List ByteArray) (op : Int) (i : Nat) (r : Res) : Prop := ∃ n, runM L len n W op i = some r

def Run (L : List Tk) (len : Nat) (σ : PSt) (W : List ByteArray) (r : Res) : Prop := if σ.failed = true then r = .err (pAt L len σ.next) else Ends L len W σ.depth σ.next r

def Sim (L : List Tk) (len K : Nat) (S : List ByteArray) (σ σ' : PSt) : Prop := ∀ R r, R.length ≤ K → Run L len σ' R r → Run L len σ (S ++ R) r

theorem Sim.comp {L : List Tk} {len K : Nat} {S1 S2 : List ByteArray} {a b c : PSt} (h1 : Sim L len (K + S2.length) S1 a b) (h2 : Sim L len K S2 b c) : Sim L len K (S1 ++ S2) a c := fun R r hR h => by
  rw [List.append_assoc]
  exact h1 (S2 ++ R) r (by rw [List.length_append]; omega) (h2 R r hR h)
theorem Sim.nil {L : List Tk} {len K : Nat} (a : PSt) : Sim L len K [] a a := fun _ _ _ h => h
def Fine (L : List Tk) (σ : PSt) : Prop := σ.failed = false → σ.next ≤ L.length ∧ 0 ≤ σ.depth ∧ σ.depth ≤ 6

theorem tAt_ahead {L : List Tk} {σ : PSt} (h : σ.failed = false) : (σ.ahead L 0).t = tAt L σ.next := by
  by_cases h2 : σ.next < L.length
  · rw [ahead_in h (n := 0) h2, tAt_in h2]; rfl
  · rw [ahead_out (n := 0) h2, tAt_out h2]

end RR
namespace RR
open Go Go.RowKit
def Adv (L : List Tk) (s : Nat) (k : Int) (σ σ' : PSt) : Prop := σ'.failed = false → σ.failed = false ∧ σ.next + s ≤ σ'.next ∧ σ'.next ≤ L.length ∧ σ'.depth = σ.depth + k

theorem Adv.trans {L : List Tk} {s s' : Nat} {k k' : Int} {a b c : PSt} (h : Adv L s k a b) (h' : Adv L s' k' b c) : Adv L (s + s') (k + k') a c := fun hc => by
  obtain ⟨h1, h2, h3, h4⟩ := h' hc
  obtain ⟨g1, g2, g3, g4⟩ := h h1
  exact ⟨g1, by omega, h3, by omega⟩
theorem sign_name {c : UInt8} (h : isLetterB c = false) : isNameB ⟨#[c]⟩ = false := by
  unfold isNameB
  rw [bl]
  show (isLetterB c && _) = false
  rw [h]; rfl
end RR
namespace RR
open Go Go.RowKit
def Room (c K : Nat) (σ : PSt) : Prop := σ.failed = false → (K : Int) + 40 * (8 - σ.depth) ≤ c

theorem Room.lt {L : List Tk} {c K : Nat} {a : PSt} (h : Room c K a) (hF : Fine L a) (hc : c ≤ 4900) : a.failed = false → K + 20 < 5000 := fun ha => by
  have := h ha
  have := hF ha
  omega

end RR
namespace RR
open Go Go.RowKit
end RR
namespace RR
open Go Go.RowKit
end RR
namespace RR
open Go Go.RowKit
end RR
namespace RR
open Go Go.RowKit
end RR
namespace RR
open Go Go.RowKit
end RR
namespace RR
open Go Go.RowKit
end RR
namespace RR
open Go Go.RowKit
structure Ml where
  i : Nat
  r : Nat
  pr : Int
def mk (L : List Tk) (x : Ml) : Nm := ⟨tAt L x.i, (tk L x.i).p, x.r, x.pr⟩

structure Seg (L : List Tk) (a b : Nat) (M : List Ml) : Prop where
  le : a ≤ b
  inn : ∀ x ∈ M, a ≤ x.i ∧ x.i < b ∧ isNameB (tAt L x.i) = true
  cov : ∀ i, a ≤ i → i < b → isNameB (tAt L i) = true → ∃ x ∈ M, x.i = i
  sor : M.Pairwise fun x y => x.i < y.i

theorem Seg.nil (L : List Tk) (a : Nat) : Seg L a a [] := ⟨Nat.le_refl _, fun _ h => (by cases h), fun i h1 h2 => absurd h1 (by omega), List.Pairwise.nil⟩
theorem Seg.comp {L : List Tk} {a b c : Nat} {M N : List Ml} (h : Seg L a b M) (k : Seg L b c N) : Seg L a c (M ++ N) := by
  refine ⟨Nat.le_trans h.le k.le, ?_, ?_, ?_⟩
  · intro x hx
    rcases List.mem_append.1 hx with hx | hx
    · have := h.inn x hx; have := k.le; exact ⟨by omega, by omega, (h.inn x hx).2.2⟩
    · have := k.inn x hx; have := h.le; exact ⟨by omega, by omega, (k.inn x hx).2.2⟩
  · intro i h1 h2 h3
    by_cases hb : i < b
    · obtain ⟨x, hx, e⟩ := h.cov i h1 hb h3; exact ⟨x, List.mem_append_left _ hx, e⟩
    · obtain ⟨x, hx, e⟩ := k.cov i (by omega) h2 h3; exact ⟨x, List.mem_append_right _ hx, e⟩
  · refine List.pairwise_append.2 ⟨h.sor, k.sor, fun x hx y hy => ?_⟩
    have := h.inn x hx; have := k.inn y hy; omega
theorem Seg.tok {L : List Tk} {a : Nat} (h : isNameB (tAt L a) = false) : Seg L a (a + 1) [] := by
  refine ⟨Nat.le_succ _, fun _ h => (by cases h), fun i h1 h2 h3 => ?_, List.Pairwise.nil⟩
  have : i = a := by omega
  rw [this, h] at h3; cases h3
theorem Seg.name {L : List Tk} {a : Nat} {x : Ml} (h : isNameB (tAt L a) = true) (e : x.i = a) : Seg L a (a + 1) [x] := by
  refine ⟨Nat.le_succ _, fun y hy => ?_, fun i h1 h2 h3 => ⟨x, List.mem_singleton.2 rfl, by omega⟩, List.pairwise_singleton _ _⟩
  rw [List.mem_singleton.1 hy, e]; exact ⟨by omega, by omega, h⟩

structure Tok (L : List Tk) (t : ByteArray) (a b : PSt) : Prop where
  ok : a.failed = false
  lt : a.next < L.length
  is : tAt L a.next = t
  next : b.next = a.next + 1
  names : b.names = a.names
  calls : b.calls = a.calls
  proc : b.proc = a.proc

theorem sees_is {L : List Tk} {a : PSt} {t : ByteArray} (h0 : ¬ t = ⟨#[]⟩) (h : a.sees L t = true) : a.failed = false ∧ a.next < L.length ∧ tAt L a.next = t := by
  have := sees_lt h0 h
  refine ⟨this.2, this.1, ?_⟩
  unfold PSt.sees at h; rw [tAt_ahead this.2] at h; exact of_decide_eq_true h
theorem tok_step {L : List Tk} {a : PSt} {t : ByteArray} (h0 : ¬ t = ⟨#[]⟩) (h : a.sees L t = true) : Tok L t a a.step := by
  obtain ⟨h1, h2, h3⟩ := sees_is h0 h
  exact ⟨h1, h2, h3, rfl, rfl, rfl, rfl⟩
theorem tok_take {L : List Tk} {a : PSt} {t : ByteArray} (h0 : ¬ t = ⟨#[]⟩) (h : (a.take L t).failed = false) : Tok L t a (a.take L t) := by
  unfold PSt.take at h ⊢
  cases hs : a.sees L t
  · rw [hs] at h; cases h
  · exact tok_step h0 hs
theorem tok_enter {L : List Tk} {a : PSt} {t : ByteArray} (h0 : ¬ t = ⟨#[]⟩) (h : (enterP L a t).failed = false) : Tok L t a (enterP L a t) := by
  unfold enterP at h ⊢
  split at h
  · cases h
  · rename_i h6
    rw [if_neg h6]
    have := tok_take (L := L) (a := a) h0 h
    exact ⟨this.ok, this.lt, this.is, this.next, this.names, this.calls, this.proc⟩
theorem tok_leave {L : List Tk} {a : PSt} {t : ByteArray} (h0 : ¬ t = ⟨#[]⟩) (h : (leaveP L a t).failed = false) : Tok L t a (leaveP L a t) := by
  have := tok_take (L := L) (a := a) h0 h
  exact ⟨this.ok, this.lt, this.is, this.next, this.names, this.calls, this.proc⟩

structure Nam (L : List Tk) (r : Nat) (a b : PSt) : Prop where
  ok : a.failed = false
  lt : a.next < L.length
  is : isNameB (tAt L a.next) = true
  next : b.next = a.next + 1
  names : b.names = a.names ++ [mk L ⟨a.next, r, a.proc⟩]
  calls : b.calls = a.calls
  proc : b.proc = a.proc
theorem nam_take {L : List Tk} {a : PSt} {r : Nat} (h : (a.takeName L r).failed = false) : Nam L r a (a.takeName L r) := by
  unfold PSt.takeName at h ⊢
  cases hs : isNameB (a.ahead L 0).t
  · rw [hs] at h; cases h
  · have hl := name_lt hs
    have e := tAt_ahead (L := L) hl.2
    have e2 : (a.ahead L 0).p = (tk L a.next).p := by rw [ahead_in (n := 0) hl.2 hl.1, tk_eq hl.1]; rfl
    refine ⟨hl.2, hl.1, by rw [← e]; exact hs, rfl, ?_, rfl, rfl⟩
    rw [if_pos rfl, e, e2]; rfl

def xsigns : List ByteArray := [⟨#[116, 114, 117, 101]⟩, ⟨#[102, 97, 108, 115, 101]⟩, ⟨#[63]⟩, ⟨#[33]⟩, ⟨#[38]⟩, ⟨#[124]⟩, ⟨#[40]⟩, ⟨#[41]⟩, ⟨#[44]⟩]
def xtok (t : ByteArray) : Prop := isNameB t = true ∨ memB xsigns t = true
theorem xtok_ne {t : ByteArray} (h : xtok t) (u : ByteArray) (hu : isNameB u = false) (hl : memB xsigns u = false) : ¬ t = u := by
  rintro rfl
  rcases h with h | h
  · rw [hu] at h; cases h
  · rw [hl] at h; cases h

theorem mate_step {L : List Tk} {d : Int} {f m : Nat} {k : Int} (hm : m < L.length) : mateF L 1 d (f + 1) m k = if k + delta (tAt L m) = 0 then (m : Int) else mateF L 1 d f (m + 1 : Nat) (k + delta (tAt L m)) := by
  rw [mateF, if_pos ⟨by omega, by omega⟩, Int.toNat_natCast, tk_eq hm, ← tAt_in hm]
  have c12 : ¬ (⟨#[40]⟩ : ByteArray) = ⟨#[41]⟩ ∧ ¬ (⟨#[40]⟩ : ByteArray) = ⟨#[125]⟩ := by decide
  have c34 : ¬ (⟨#[123]⟩ : ByteArray) = ⟨#[41]⟩ ∧ ¬ (⟨#[123]⟩ : ByteArray) = ⟨#[125]⟩ := by decide
  have hd : (if tAt L m = ⟨#[41]⟩ ∨ tAt L m = ⟨#[125]⟩ then (if tAt L m = ⟨#[40]⟩ ∨ tAt L m = ⟨#[123]⟩ then k + 1 else k) - 1 else if tAt L m = ⟨#[40]⟩ ∨ tAt L m = ⟨#[123]⟩ then k + 1 else k) = k + delta (tAt L m) := by
    unfold delta
    by_cases h1 : tAt L m = ⟨#[40]⟩ ∨ tAt L m = ⟨#[123]⟩
    · have h2 : ¬ (tAt L m = ⟨#[41]⟩ ∨ tAt L m = ⟨#[125]⟩) := by
        rcases h1 with h1 | h1
        · rw [h1]; exact not_or.2 c12
        · rw [h1]; exact not_or.2 c34
      rw [if_neg h2, if_pos h1, if_pos h1]
    · rw [if_neg h1, if_neg h1]
      split <;> omega
  simp only [hd]; rfl

def dp (t : ByteArray) : Int := if t = ⟨#[40]⟩ then 1 else if t = ⟨#[41]⟩ then -1 else 0
theorem isB_tAt {L : List Tk} {m : Nat} {t : ByteArray} (h0 : ¬ t = ⟨#[]⟩) : isB L m t = decide (tAt L m = t) := by
  by_cases h : m < L.length
  · rw [isB_in h, seq_comm, tAt_in h]
  · rw [isB_out (by omega), tAt_out h, decide_eq_false (fun e => h0 e.symm)]
theorem vals_step {L : List Tk} {e : Int} {f m : Nat} {op v : Int} (hm : (m : Int) < e) : valuesF L e (f + 1) m op v = valuesF L e f (m + 1) (op + dp (tAt L m)) (if tAt L m = ⟨#[44]⟩ ∧ op = 1 then v + 1 else v) := by
  rw [valuesF, if_pos hm]
  simp only [isB_tAt (L := L) (m := m) (t := ⟨#[40]⟩) (by decide), isB_tAt (L := L) (m := m) (t := ⟨#[41]⟩) (by decide), isB_tAt (L := L) (m := m) (t := ⟨#[44]⟩) (by decide)]
  by_cases h1 : tAt L m = ⟨#[40]⟩
  · rw [h1]; simp [dp]
  · by_cases h2 : tAt L m = ⟨#[41]⟩
    · rw [h2]; simp [dp]
      congr 1
    · by_cases h3 : tAt L m = ⟨#[44]⟩
      · rw [h3]; simp [dp]
      · simp [h1, h2, h3, dp]

structure XR (L : List Tk) (cm m n : Nat) : Prop where
  le : m ≤ n
  tok : ∀ i, m ≤ i → i < n → xtok (tAt L i)
  nocall : ∀ i, m ≤ i → i + 1 < n → isNameB (tAt L i) = true → ¬ tAt L (i + 1) = ⟨#[40]⟩
  mate : ∀ (d : Int) (f : Nat) (k : Int), 1 ≤ k → mateF L 1 d (f + (n - m)) m k = mateF L 1 d f n k
  vals : ∀ (e : Int) (f : Nat) (op v : Int), cm = 0 ∨ op = 1 → (n : Int) ≤ e → valuesF L e (f + (n - m)) m op v = valuesF L e f n op (v + cm)

theorem XR.nil (L : List Tk) (m : Nat) : XR L 0 m m := ⟨Nat.le_refl _, fun i h1 h2 => absurd h1 (by omega), fun i h1 h2 => absurd h1 (by omega), fun d f k _ => by rw [Nat.sub_self]; rfl, fun e f op v _ _ => by rw [Nat.sub_self]; simp⟩
theorem XR.comp {L : List Tk} {c c' m n k : Nat} (h : XR L c m n) (h' : XR L c' n k) (hj : m < n → n < k → isNameB (tAt L (n - 1)) = true → ¬ tAt L n = ⟨#[40]⟩) : XR L (c + c') m k := by
  have l1 := h.le
  have l2 := h'.le
  refine ⟨by omega, ?_, ?_, ?_, ?_⟩
  · intro i h1 h2
    by_cases hn : i < n
    · exact h.tok i h1 hn
    · exact h'.tok i (by omega) h2
  · intro i h1 h2 h3
    by_cases hn : i + 1 < n
    · exact h.nocall i h1 hn h3
    · by_cases hn2 : i + 1 = n
      · have := hj (by omega) (by omega)
        rw [show n - 1 = i by omega] at this
        rw [hn2]; exact this h3
      · exact h'.nocall i (by omega) h2 h3
  · intro d f q hq
    rw [show f + (k - m) = (f + (k - n)) + (n - m) by omega, h.mate d _ q hq, h'.mate d f q hq]
  · intro e f op v ho he
    rw [show f + (k - m) = (f + (k - n)) + (n - m) by omega, h.vals e _ op v (by omega) (by omega), h'.vals e f op _ (by omega) he]
    congr 1
    push_cast; omega

theorem XR.one {L : List Tk} {m : Nat} (hm : m < L.length) (hx : xtok (tAt L m)) (h1 : ¬ tAt L m = ⟨#[40]⟩) (h2 : ¬ tAt L m = ⟨#[41]⟩) (h3 : ¬ tAt L m = ⟨#[44]⟩) : XR L 0 m (m + 1) := by
  have hd : delta (tAt L m) = 0 := by
    rcases delta5 (tAt L m) with ⟨e, _⟩ | ⟨e, _⟩ | ⟨e, _⟩ | ⟨e, _⟩ | ⟨_, _, _, _, e⟩
    · exact absurd e h1
    · exact absurd e (xtok_ne hx _ (sign_name (by decide)) (by decide))
    · exact absurd e h2
    · exact absurd e (xtok_ne hx _ (sign_name (by decide)) (by decide))
    · exact e
  refine ⟨Nat.le_succ _, fun i a b => ?_, fun i a b => absurd a (by omega), fun d f k hk => ?_, fun e f op v _ he => ?_⟩
  · rw [show i = m by omega]; exact hx
  · rw [show f + (m + 1 - m) = f + 1 by omega, mate_step hm, hd, if_neg (by omega), Int.add_zero]
  · rw [show f + (m + 1 - m) = f + 1 by omega, vals_step (by omega)]
    simp [dp, h1, h2, h3]
theorem XR.brack {L : List Tk} {m n : Nat} (h : XR L 0 (m + 1) n) (hn : n < L.length) (h1 : tAt L m = ⟨#[40]⟩) (h2 : tAt L n = ⟨#[41]⟩) : XR L 0 m (n + 1) := by
  have l := h.le
  have hb : isNameB (⟨#[40]⟩ : ByteArray) = false := sign_name (by decide)
  refine ⟨by omega, ?_, ?_, ?_, ?_⟩
  · intro i a b
    by_cases e : i = m
    · rw [e, h1]; exact .inr (by decide)
    · by_cases e2 : i = n
      · rw [e2, h2]; exact .inr (by decide)
      · exact h.tok i (by omega) (by omega)
  · intro i a b c
    by_cases e : i = m
    · rw [e, h1, hb] at c; cases c
    · by_cases e2 : i + 1 = n
      · rw [e2, h2]; decide
      · exact h.nocall i (by omega) (by omega) c
  · intro d f k hk
    have d1 : delta (⟨#[40]⟩ : ByteArray) = 1 := by decide
    have d2 : delta (⟨#[41]⟩ : ByteArray) = -1 := by decide
    rw [show f + (n + 1 - m) = ((f + 1) + (n - (m + 1))) + 1 by omega, mate_step (by omega), h1, d1, if_neg (by omega), h.mate d (f + 1) (k + 1) (by omega), mate_step hn, h2, d2, if_neg (by omega)]
    congr 1
    omega
  · intro e f op v ho he
    have d1 : dp (⟨#[40]⟩ : ByteArray) = 1 := by decide
    have d2 : dp (⟨#[41]⟩ : ByteArray) = -1 := by decide
    have c1 : ¬ (⟨#[40]⟩ : ByteArray) = ⟨#[44]⟩ := by decide
    have c2 : ¬ (⟨#[41]⟩ : ByteArray) = ⟨#[44]⟩ := by decide
    rw [show f + (n + 1 - m) = ((f + 1) + (n - (m + 1))) + 1 by omega, vals_step (by omega), h1, d1, if_neg (fun h => c1 h.1), h.vals e (f + 1) (op + 1) v (.inl rfl) (by omega), vals_step (by omega), h2, d2, if_neg (fun h => c2 h.1)]
    congr 1
    omega

structure X (L : List Tk) (cm : Nat) (a b : PSt) (M : List Ml) : Prop where
  ok : a.failed = false
  names : b.names = a.names ++ M.map (mk L)
  calls : b.calls = a.calls
  proc : b.proc = a.proc
  seg : Seg L a.next b.next M
  role : ∀ x ∈ M, x.r = 4 ∧ x.pr = a.proc
  row : XR L cm a.next b.next

theorem X.nil {L : List Tk} {a : PSt} (h : a.failed = false) : X L 0 a a [] := ⟨h, (by simp), rfl, rfl, Seg.nil _ _, fun _ h => (by cases h), XR.nil _ _⟩
theorem X.comp {L : List Tk} {c c' : Nat} {a b d : PSt} {M N : List Ml} (h : X L c a b M) (k : X L c' b d N) (hj : a.next < b.next → b.next < d.next → isNameB (tAt L (b.next - 1)) = true → ¬ tAt L b.next = ⟨#[40]⟩) : X L (c + c') a d (M ++ N) := by
  refine ⟨h.ok, ?_, k.calls.trans h.calls, k.proc.trans h.proc, h.seg.comp k.seg, ?_, h.row.comp k.row hj⟩
  · rw [k.names, h.names, List.map_append, List.append_assoc]
  · intro x hx
    rcases List.mem_append.1 hx with hx | hx
    · exact h.role x hx
    · rw [← h.proc]; exact k.role x hx
theorem X.tok {L : List Tk} {t : ByteArray} {a b : PSt} (h : Tok L t a b) (hn : isNameB t = false) (hx : memB xsigns t = true) (h1 : ¬ t = ⟨#[40]⟩) (h2 : ¬ t = ⟨#[41]⟩) (h3 : ¬ t = ⟨#[44]⟩) : X L 0 a b [] := by
  have e := h.is
  refine ⟨h.ok, by rw [h.names]; simp, h.calls, h.proc, ?_, fun _ h => (by cases h), ?_⟩
  · rw [h.next]; exact Seg.tok (by rw [e]; exact hn)
  · rw [h.next]; exact XR.one h.lt (by rw [e]; exact .inr hx) (by rw [e]; exact h1) (by rw [e]; exact h2) (by rw [e]; exact h3)
theorem X.nam {L : List Tk} {a b : PSt} (h : Nam L 4 a b) : X L 0 a b [⟨a.next, 4, a.proc⟩] := by
  have hi := h.is
  have ne : ∀ u : ByteArray, isNameB u = false → ¬ tAt L a.next = u := fun u hu e => by rw [e, hu] at hi; cases hi
  refine ⟨h.ok, h.names, h.calls, h.proc, ?_, ?_, ?_⟩
  · rw [h.next]; exact Seg.name hi rfl
  · intro x hx; rw [List.mem_singleton.1 hx]; exact ⟨rfl, rfl⟩
  · rw [h.next]; exact XR.one h.lt (.inl hi) (ne _ (sign_name (by decide))) (ne _ (sign_name (by decide))) (ne _ (sign_name (by decide)))
theorem X.brack {L : List Tk} {a b c d : PSt} {M : List Ml} (h1 : Tok L ⟨#[40]⟩ a b) (h : X L 0 b c M) (h2 : Tok L ⟨#[41]⟩ c d) : X L 0 a d M := by
  have hb : isNameB (⟨#[40]⟩ : ByteArray) = false := sign_name (by decide)
  have hb2 : isNameB (⟨#[41]⟩ : ByteArray) = false := sign_name (by decide)
  refine ⟨h1.ok, by rw [h2.names, h.names, h1.names], by rw [h2.calls, h.calls, h1.calls], by rw [h2.proc, h.proc, h1.proc], ?_, ?_, ?_⟩
  · have s1 : Seg L a.next b.next [] := by rw [h1.next]; exact Seg.tok (by rw [h1.is]; exact hb)
    have s2 : Seg L c.next d.next [] := by rw [h2.next]; exact Seg.tok (by rw [h2.is]; exact hb2)
    have := (s1.comp h.seg).comp s2
    simpa using this
  · intro x hx; rw [← h1.proc]; exact h.role x hx
  · have := h.row
    rw [h1.next] at this
    rw [h2.next]; exact this.brack h2.lt h1.is h2.is

end RR
namespace RR
open Go Go.RowKit
theorem x_nots (L : List Tk) : ∀ (f : Nat) (a b : PSt), notsP L f a = some b → b.failed = false → X L 0 a b [] ∧ (a.next < b.next → isNameB (tAt L (b.next - 1)) = false) := by
  intro f
  induction f with
  | zero => intro a b h; rw [notsP] at h; cases h
  | succ f ih =>
    intro a b h hb
    rw [notsP] at h
    split at h
    · obtain ⟨k1, k2⟩ := ih _ _ h hb
      have t := tok_take (by decide) k1.ok
      have hn : isNameB (⟨#[33]⟩ : ByteArray) = false := sign_name (by decide)
      have x := X.tok t hn (by decide) (by decide) (by decide) (by decide)
      have e : isNameB (tAt L ((a.take L ⟨#[33]⟩).next - 1)) = false := by rw [t.next, Nat.add_sub_cancel, t.is]; exact hn
      refine ⟨x.comp k1 (fun _ _ h => by rw [e] at h; cases h), fun _ => ?_⟩
      by_cases hl : (a.take L ⟨#[33]⟩).next < b.next
      · exact k2 hl
      · have := k1.seg.le
        rw [show b.next = (a.take L ⟨#[33]⟩).next by omega]; exact e
    · rw [← Option.some.inj h] at hb ⊢
      exact ⟨X.nil hb, fun h => absurd h (Nat.lt_irrefl _)⟩

def XE (L : List Tk) (F : Nat → PSt → Option PSt) (f : Nat) : Prop := ∀ a b, F f a = some b → b.failed = false → ∃ M, X L 0 a b M
def XF (L : List Tk) (F : Nat → PSt → Option PSt) (f : Nat) : Prop := ∀ a b, F f a = some b → b.failed = false → ∃ M, X L 0 a b M ∧ (a.next < b.next → ¬ tAt L a.next = ⟨#[40]⟩)

theorem x_more {L : List Tk} {a b c : PSt} {t : ByteArray} {M N : List Ml} (h : Tok L t a a.step) (hn : isNameB t = false) (hx : memB xsigns t = true) (h1 : ¬ t = ⟨#[40]⟩) (h2 : ¬ t = ⟨#[41]⟩) (h3 : ¬ t = ⟨#[44]⟩) (k : X L 0 a.step b M) (l : X L 0 b c N) (hl : b.next < c.next → ¬ tAt L b.next = ⟨#[40]⟩) : X L 0 a c (M ++ N) := by
  have x := X.tok h hn hx h1 h2 h3
  have e : isNameB (tAt L (a.step.next - 1)) = false := by rw [h.next, Nat.add_sub_cancel, h.is]; exact hn
  exact (x.comp k (fun _ _ h => by rw [e] at h; cases h)).comp l (fun _ h _ => hl h)

theorem x_exprs (L : List Tk) : ∀ f : Nat, XE L (exprP L) f ∧ XF L (orP L) f ∧ XE L (termP L) f ∧ XF L (andP L) f ∧ XE L (factorP L) f ∧ XE L (bracketedP L) f := by
  intro f
  induction f with
  | zero =>
    refine ⟨?_, ?_, ?_, ?_, ?_, ?_⟩ <;> intro a b h
    · rw [exprP_zero] at h; cases h
    · rw [orP_zero] at h; cases h
    · rw [termP_zero] at h; cases h
    · rw [andP_zero] at h; cases h
    · rw [factorP_zero] at h; cases h
    · rw [bracketedP_zero] at h; cases h
  | succ f ih =>
    obtain ⟨i1, i2, i3, i4, i5, i6⟩ := ih
    refine ⟨?_, ?_, ?_, ?_, ?_, ?_⟩ <;> intro a b h hb
    · rw [exprP_succ] at h
      obtain ⟨c, h1, h2⟩ := bindS h
      obtain ⟨N, k2, k3⟩ := i2 _ _ h2 hb
      obtain ⟨M, k1⟩ := i3 _ _ h1 k2.ok
      exact ⟨M ++ N, k1.comp k2 (fun _ h _ => k3 h)⟩
    · rw [orP_succ] at h
      split at h
      · rename_i hs
        obtain ⟨c, h1, h2⟩ := bindS h
        obtain ⟨N, k2, k3⟩ := i2 _ _ h2 hb
        obtain ⟨M, k1⟩ := i3 _ _ h1 k2.ok
        have t := tok_step (by decide) hs
        exact ⟨M ++ N, x_more t (sign_name (by decide)) (by decide) (by decide) (by decide) (by decide) k1 k2 k3, fun _ => by rw [t.is]; decide⟩
      · rw [← Option.some.inj h] at hb ⊢
        exact ⟨[], X.nil hb, fun h => absurd h (Nat.lt_irrefl _)⟩
    · rw [termP_succ] at h
      obtain ⟨c, h1, h2⟩ := bindS h
      obtain ⟨N, k2, k3⟩ := i4 _ _ h2 hb
      obtain ⟨M, k1⟩ := i5 _ _ h1 k2.ok
      exact ⟨M ++ N, k1.comp k2 (fun _ h _ => k3 h)⟩
    · rw [andP_succ] at h
      split at h
      · rename_i hs
        obtain ⟨c, h1, h2⟩ := bindS h
        obtain ⟨N, k2, k3⟩ := i4 _ _ h2 hb
        obtain ⟨M, k1⟩ := i5 _ _ h1 k2.ok
        have t := tok_step (by decide) hs
        exact ⟨M ++ N, x_more t (sign_name (by decide)) (by decide) (by decide) (by decide) (by decide) k1 k2 k3, fun _ => by rw [t.is]; decide⟩
      · rw [← Option.some.inj h] at hb ⊢
        exact ⟨[], X.nil hb, fun h => absurd h (Nat.lt_irrefl _)⟩
    · rw [factorP_succ] at h
      obtain ⟨c, h1, h2⟩ := bindS h
      have fin : ∀ {N}, X L 0 c b N → ∃ M, X L 0 a b M := fun {N} k => by
        obtain ⟨k1, k2⟩ := x_nots L f _ _ h1 k.ok
        exact ⟨[] ++ N, k1.comp k (fun h _ e => by rw [k2 h] at e; cases e)⟩
      split at h2
      · obtain ⟨N, k⟩ := i6 _ _ h2 hb
        exact fin k
      · split at h2
        · rename_i hc
          rw [← Option.some.inj h2] at hb
          have e := Option.some.inj h2
          have h0 : ¬ (c.ahead L 0).t = ⟨#[]⟩ := by
            rcases hc with hc | hc | hc <;> rw [hc] <;> decide
          have t := tok_take h0 hb
          have hn : isNameB (c.ahead L 0).t = false := by
            rcases hc with hc | hc | hc <;> rw [hc] <;> (unfold isNameB; rw [bl]; decide)
          have hx : memB xsigns (c.ahead L 0).t = true := by
            rcases hc with hc | hc | hc <;> rw [hc] <;> decide
          refine fin (N := []) (e ▸ X.tok t hn hx ?_ ?_ ?_) <;> (rcases hc with hc | hc | hc <;> rw [hc] <;> decide)
        · rw [← Option.some.inj h2] at hb
          have e := Option.some.inj h2
          exact fin (e ▸ X.nam (nam_take hb))
    · rw [bracketedP_succ] at h
      obtain ⟨c, h1, h2⟩ := Option.map_eq_some_iff.1 h
      rw [← h2] at hb ⊢
      have t2 := tok_leave (by decide) hb
      obtain ⟨M, k⟩ := i1 _ _ h1 t2.ok
      exact ⟨M, X.brack (tok_enter (by decide) k.ok) k t2⟩

theorem x_expr {L : List Tk} {f : Nat} {a b : PSt} (h : exprP L f a = some b) (hb : b.failed = false) : ∃ M, X L 0 a b M := (x_exprs L f).1 a b h hb
def NAR (L : List Tk) (n : Nat) : Prop := ∀ j, n = j + 1 → ¬ tAt L j = ⟨#[97, 99, 113, 117, 105, 114, 101]⟩ ∧ ¬ tAt L j = ⟨#[114, 101, 108, 101, 97, 115, 101]⟩
def AR (L : List Tk) (n : Nat) : Prop := ∃ j, n = j + 1 ∧ (tAt L j = ⟨#[97, 99, 113, 117, 105, 114, 101]⟩ ∨ tAt L j = ⟨#[114, 101, 108, 101, 97, 115, 101]⟩)
def BR (L : List Tk) (x : Ml) : Prop := (x.r = 4 ∧ NAR L x.i ∧ ¬ tAt L (x.i + 1) = ⟨#[40]⟩) ∨ (x.r = 5 ∧ AR L x.i ∧ ¬ tAt L (x.i + 1) = ⟨#[40]⟩) ∨ (x.r = 6 ∧ NAR L x.i ∧ tAt L (x.i + 1) = ⟨#[40]⟩)
def NK (t : ByteArray) : Prop := ¬ t = ⟨#[115, 104, 97, 114, 101, 100]⟩ ∧ ¬ t = ⟨#[108, 111, 99, 107, 115]⟩ ∧ ¬ t = ⟨#[112, 114, 111, 99]⟩ ∧ ¬ t = ⟨#[116, 104, 114, 101, 97, 100, 115]⟩

theorem kw_name {u : ByteArray} (h : memB kws u = true) : isNameB u = false := by unfold isNameB; rw [h]; simp
theorem name_nk {t : ByteArray} (h : isNameB t = true) : NK t := by
  refine ⟨?_, ?_, ?_, ?_⟩ <;> (rintro rfl; rw [kw_name (by decide)] at h; cases h)
structure Ca where
  i : Nat
  v : Nat
def mkc (L : List Tk) (c : Ca) : Cl := ⟨tAt L c.i, (tk L c.i).p, c.v⟩

structure CallsOf (L : List Tk) (M : List Ml) (C : List Ca) : Prop where
  sor : C.Pairwise fun x y => x.i < y.i
  inn : ∀ c ∈ C, (∃ x ∈ M, x.r = 6 ∧ x.i = c.i) ∧ (c.v : Int) = valuesB L (c.i + 1)
  cov : ∀ x ∈ M, x.r = 6 → ∃ c ∈ C, c.i = x.i
theorem CallsOf.none {L : List Tk} {M : List Ml} (h : ∀ x ∈ M, ¬ x.r = 6) : CallsOf L M [] := ⟨List.Pairwise.nil, fun _ h => (by cases h), fun x hx e => absurd e (h x hx)⟩
theorem CallsOf.comp {L : List Tk} {a b c : Nat} {M N : List Ml} {C D : List Ca} (h : CallsOf L M C) (k : CallsOf L N D) (s : Seg L a b M) (t : Seg L b c N) : CallsOf L (M ++ N) (C ++ D) := by
  refine ⟨List.pairwise_append.2 ⟨h.sor, k.sor, fun x hx y hy => ?_⟩, fun c hc => ?_, fun x hx e => ?_⟩
  · obtain ⟨⟨p, hp, _, e⟩, _⟩ := h.inn x hx
    obtain ⟨⟨q, hq, _, e2⟩, _⟩ := k.inn y hy
    have := s.inn p hp; have := t.inn q hq; omega
  · rcases List.mem_append.1 hc with hc | hc
    · obtain ⟨⟨p, hp, e⟩, e2⟩ := h.inn c hc; exact ⟨⟨p, List.mem_append_left _ hp, e⟩, e2⟩
    · obtain ⟨⟨p, hp, e⟩, e2⟩ := k.inn c hc; exact ⟨⟨p, List.mem_append_right _ hp, e⟩, e2⟩
  · rcases List.mem_append.1 hx with hx | hx
    · obtain ⟨c, hc, e⟩ := h.cov x hx e; exact ⟨c, List.mem_append_left _ hc, e⟩
    · obtain ⟨c, hc, e⟩ := k.cov x hx e; exact ⟨c, List.mem_append_right _ hc, e⟩

structure Bd (L : List Tk) (a b : PSt) (M : List Ml) (C : List Ca) : Prop where
  ok : a.failed = false
  names : b.names = a.names ++ M.map (mk L)
  calls : b.calls = a.calls ++ C.map (mkc L)
  proc : b.proc = a.proc
  seg : Seg L a.next b.next M
  role : ∀ x ∈ M, BR L x ∧ x.pr = a.proc
  kw : ∀ i, a.next ≤ i → i < b.next → NK (tAt L i)
  cs : CallsOf L M C

theorem Bd.nil {L : List Tk} {a : PSt} (h : a.failed = false) : Bd L a a [] [] := ⟨h, (by simp), (by simp), rfl, Seg.nil _ _, fun _ h => (by cases h), fun i h1 h2 => absurd h1 (by omega), CallsOf.none (fun _ h => (by cases h))⟩
theorem Bd.comp {L : List Tk} {a b c : PSt} {M N : List Ml} {C D : List Ca} (h : Bd L a b M C) (k : Bd L b c N D) : Bd L a c (M ++ N) (C ++ D) := by
  refine ⟨h.ok, ?_, ?_, k.proc.trans h.proc, h.seg.comp k.seg, ?_, ?_, h.cs.comp k.cs h.seg k.seg⟩
  · rw [k.names, h.names, List.map_append, List.append_assoc]
  · rw [k.calls, h.calls, List.map_append, List.append_assoc]
  · intro x hx
    rcases List.mem_append.1 hx with hx | hx
    · exact h.role x hx
    · rw [← h.proc]; exact k.role x hx
  · intro i h1 h2
    by_cases hb : i < b.next
    · exact h.kw i h1 hb
    · exact k.kw i (by omega) h2
theorem Bd.tok {L : List Tk} {t : ByteArray} {a b : PSt} (h : Tok L t a b) (hn : isNameB t = false) (hk : NK t) : Bd L a b [] [] := by
  refine ⟨h.ok, by rw [h.names]; simp, by rw [h.calls]; simp, h.proc, ?_, fun _ h => (by cases h), ?_, CallsOf.none (fun _ h => (by cases h))⟩
  · rw [h.next]; exact Seg.tok (by rw [h.is]; exact hn)
  · intro i h1 h2; rw [show i = a.next by rw [h.next] at h2; omega, h.is]; exact hk
theorem Bd.nam {L : List Tk} {r : Nat} {a b : PSt} (h : Nam L r a b) (h6 : ¬ r = 6) (hb : BR L ⟨a.next, r, a.proc⟩) : Bd L a b [⟨a.next, r, a.proc⟩] [] := by
  refine ⟨h.ok, h.names, by rw [h.calls]; simp, h.proc, ?_, ?_, ?_, CallsOf.none (fun x hx => by rw [List.mem_singleton.1 hx]; exact h6)⟩
  · rw [h.next]; exact Seg.name h.is rfl
  · intro x hx; rw [List.mem_singleton.1 hx]; exact ⟨hb, rfl⟩
  · intro i h1 h2; rw [show i = a.next by rw [h.next] at h2; omega]; exact name_nk h.is

end RR
namespace RR
open Go Go.RowKit
def SB (L : List Tk) (a b : PSt) : Prop := ∃ M C, Bd L a b M C ∧ NAR L b.next
theorem SB.ok {L : List Tk} {a b : PSt} (h : SB L a b) : a.failed = false := by obtain ⟨M, C, h, _⟩ := h; exact h.ok
theorem SB.comp {L : List Tk} {a b c : PSt} (h : SB L a b) (k : SB L b c) : SB L a c := by
  obtain ⟨M, C, h, _⟩ := h
  obtain ⟨N, D, k, n⟩ := k
  exact ⟨_, _, h.comp k, n⟩
end RR
namespace RR
open Go Go.RowKit
structure PQ where
  m : Nat
  pr : Int
  B : List Ml
  C : List Ca
  z : Nat
def PQ.ms (L : List Tk) (q : PQ) : List Ml := ⟨q.m + 1, 2, q.pr⟩ :: ((paramsB L (q.m + 1)).map (fun i => ⟨i, 3, q.pr⟩) ++ q.B)

end RR
namespace RR
open Go Go.RowKit
structure Dec (L : List Tk) (S K T : List Nat) (Q : List PQ) (pl : Int) (M : List Ml) (C : List Ca) : Prop where
  eM : M = S.map (fun i => ⟨i, 0, -1⟩) ++ (K.map (fun i => ⟨i, 1, -1⟩) ++ (Q.flatMap (PQ.ms L) ++ T.map (fun i => ⟨i, 7, pl⟩)))
  seg : Seg L 0 L.length M
  cs : CallsOf L M C
  wS : wordB L ⟨#[115, 104, 97, 114, 101, 100]⟩ = S
  wK : wordB L ⟨#[108, 111, 99, 107, 115]⟩ = K
  wP : procsB L = Q.map (fun q => q.m + 1)
  wT : wordB L ⟨#[116, 104, 114, 101, 97, 100, 115]⟩ = T
  prs : Q.Pairwise fun a b => a.pr < b.pr
  prp : ∀ q ∈ Q, 0 ≤ q.pr
  qs : ∀ q ∈ Q, ∀ x ∈ q.B, BR L x ∧ x.pr = q.pr ∧ homeB L x.i = q.m + 1
  thr : ∀ i ∈ T, NAR L i ∧ ¬ tAt L (i + 1) = ⟨#[40]⟩
  ne : 0 < L.length

end RR
namespace RR
open Go Go.RowKit
def pl (L : List Tk) (i : Nat) : Nat := (tk L i).p
end RR
namespace RR
open Go Go.RowKit
end RR
namespace RR
open Go Go.RowKit
section
variable {L : List Tk} {S K T : List Nat} {Q : List PQ} {p : Int} {M : List Ml} {C : List Ca}
theorem Dec.lt (d : Dec L S K T Q p M C) {x : Ml} (hx : x ∈ M) : x.i < L.length := (d.seg.inn x hx).2.1
end
end RR
namespace RR
open Go Go.RowKit
section
variable {L : List Tk} {S K T : List Nat} {Q : List PQ} {p : Int} {M : List Ml} {C : List Ca}
end
end RR
namespace RR
open Go Go.RowKit
end RR

namespace RR
open Go Go.RowKit

def Nx (L : List Tk) (a b : PSt) : Prop := a.next ≤ b.next ∧ (a.next ≤ L.length → b.next ≤ L.length)
theorem Nx.refl (L : List Tk) (a : PSt) : Nx L a a := ⟨Nat.le_refl _, id⟩
theorem Nx.trans {L : List Tk} {a b c : PSt} (h : Nx L a b) (k : Nx L b c) : Nx L a c := ⟨Nat.le_trans h.1 k.1, fun x => k.2 (h.2 x)⟩
theorem nx_fail (L : List Tk) (a : PSt) : Nx L a a.fail := ⟨Nat.le_refl _, id⟩
theorem nx_step {L : List Tk} {a : PSt} {t : ByteArray} (h0 : ¬ t = ⟨#[]⟩) (h : a.sees L t = true) : Nx L a a.step := ⟨Nat.le_succ _, fun _ => (sees_lt h0 h).1⟩
theorem nx_take {L : List Tk} {a : PSt} {t : ByteArray} (h0 : ¬ t = ⟨#[]⟩) : Nx L a (a.take L t) := by
  unfold PSt.take
  cases hs : a.sees L t
  · exact nx_fail L a
  · exact nx_step h0 hs
theorem nx_name {L : List Tk} {a : PSt} {r : Nat} : Nx L a (a.takeName L r) := by
  unfold PSt.takeName
  cases hs : isNameB (a.ahead L 0).t
  · exact nx_fail L a
  · exact ⟨Nat.le_succ _, fun _ => (name_lt hs).1⟩
theorem nx_enter {L : List Tk} {a : PSt} {t : ByteArray} (h0 : ¬ t = ⟨#[]⟩) : Nx L a (enterP L a t) := by
  unfold enterP
  split
  · exact nx_fail L a
  · have := nx_take (L := L) (a := a) h0; exact ⟨this.1, this.2⟩
theorem nx_leave {L : List Tk} {a : PSt} {t : ByteArray} (h0 : ¬ t = ⟨#[]⟩) : Nx L a (leaveP L a t) := by
  have := nx_take (L := L) (a := a) h0; exact ⟨this.1, this.2⟩

structure XG (L : List Tk) (c : Nat) (σ τ : QSt) : Prop where
  sts : τ.sts = σ.sts
  nx : Nx L σ.p τ.p
  mono : σ.nds.length ≤ τ.nds.length
  grow : τ.nds.length + 2 * σ.p.next ≤ σ.nds.length + 2 * τ.p.next + c
theorem XG.refl (L : List Tk) (σ : QSt) : XG L 0 σ σ := ⟨rfl, Nx.refl _ _, Nat.le_refl _, by omega⟩
theorem XG.trans {L : List Tk} {c d : Nat} {a b e : QSt} (h : XG L c a b) (k : XG L d b e) : XG L (c + d) a e := ⟨k.sts.trans h.sts, h.nx.trans k.nx, Nat.le_trans h.mono k.mono, by have := h.grow; have := k.grow; omega⟩
theorem XG.weak {L : List Tk} {c d : Nat} {a b : QSt} (h : XG L c a b) (hd : c ≤ d) : XG L d a b := ⟨h.sts, h.nx, h.mono, by have := h.grow; omega⟩
theorem xg_setp {L : List Tk} {σ : QSt} {q : PSt} (h : Nx L σ.p q) : XG L 0 σ (σ.setp q) := ⟨rfl, h, Nat.le_refl _, by show σ.nds.length + _ ≤ _ + 2 * q.next + 0; have := h.1; omega⟩
theorem xg_node {L : List Tk} (σ : QSt) (n : Nd) : XG L 1 σ (σ.node n) := ⟨rfl, Nx.refl _ _, by show _ ≤ (σ.nds ++ [n]).length; simp, by show (σ.nds ++ [n]).length + 2 * σ.p.next ≤ σ.nds.length + 2 * σ.p.next + 1; simp; omega⟩
theorem xg_nots (L : List Tk) : ∀ (f : Nat) (σ : QSt) (n : Nat) (r : QSt × Nat), notsQ L f σ n = some r → n ≤ r.2 ∧ r.1.sts = σ.sts ∧ r.1.nds = σ.nds ∧ Nx L σ.p r.1.p ∧ r.1.p.next = σ.p.next + (r.2 - n) := by
  intro f
  induction f with
  | zero => intro σ n r h; rw [notsQ] at h; cases h
  | succ f ih =>
    intro σ n r h
    rw [notsQ] at h
    split at h
    · rename_i hs
      obtain ⟨h1, h2, h3, h4, h5⟩ := ih _ _ _ h
      have e : (σ.setp σ.p.step).p.next = σ.p.next + 1 := rfl
      exact ⟨by omega, h2, h3, (nx_step (by decide) hs).trans h4, by omega⟩
    · rw [← Option.some.inj h]
      exact ⟨Nat.le_refl _, rfl, rfl, Nx.refl _ _, by simp⟩
theorem xg_addNots : ∀ (n : Nat) (σ : QSt) (w : Int), (addNots n σ w).1.sts = σ.sts ∧ (addNots n σ w).1.p = σ.p ∧ (addNots n σ w).1.nds.length = σ.nds.length + n := by
  intro n
  induction n with
  | zero => intro σ w; exact ⟨rfl, rfl, rfl⟩
  | succ n ih =>
    intro σ w
    obtain ⟨h1, h2, h3⟩ := ih (σ.node ⟨4, -1, 0, w⟩) σ.nds.length
    rw [addNots]
    refine ⟨h1, h2, ?_⟩
    rw [h3]
    show (σ.nds ++ [_]).length + n = _
    simp; omega

theorem xg_plain {L : List Tk} {br : QSt → Option (QSt × Int)} (hbr : ∀ σ r, br σ = some r → XG L 1 σ r.1) {σ : QSt} {r : QSt × Int} (h : plainQ L br σ = some r) : XG L 1 σ r.1 := by
  unfold plainQ at h
  have cst : ∀ (t : ByteArray) (s : Nat), (¬ t = ⟨#[]⟩) → XG L 1 σ (constQ L σ t s).1 := fun t s h0 => ((xg_setp (nx_take h0)).trans (xg_node _ _)).weak (Nat.le_refl _)
  split at h
  · exact hbr σ r h
  split at h
  · rw [← Option.some.inj h]; exact cst _ _ (by decide)
  split at h
  · rw [← Option.some.inj h]; exact cst _ _ (by decide)
  split at h
  · rw [← Option.some.inj h]; exact cst _ _ (by decide)
  · rw [← Option.some.inj h]; exact ((xg_setp nx_name).trans (xg_node _ _)).weak (Nat.le_refl _)

theorem xg_exprs (L : List Tk) : ∀ f : Nat, (∀ σ r, exprQ L f σ = some r → XG L 1 σ r.1) ∧ (∀ σ w r, orQ L f σ w = some r → XG L 0 σ r.1) ∧ (∀ σ r, termQ L f σ = some r → XG L 1 σ r.1) ∧ (∀ σ w r, andQ L f σ w = some r → XG L 0 σ r.1) ∧ (∀ σ r, factorQ L f σ = some r → XG L 1 σ r.1) ∧ (∀ σ r, bracketedQ L f σ = some r → XG L 1 σ r.1) := by
  have loop : ∀ {σ τ υ : QSt} {n : Nd} {t : ByteArray}, (¬ t = ⟨#[]⟩) → σ.p.sees L t = true → XG L 1 (σ.setp σ.p.step) τ → XG L 0 (τ.node n) υ → XG L 0 σ υ := fun {σ τ υ n t} h0 hs h k => by
    have a := (h.trans (xg_node τ n)).trans k
    have e : (σ.setp σ.p.step).p.next = σ.p.next + 1 := rfl
    have e2 : (σ.setp σ.p.step).nds = σ.nds := rfl
    have g := a.grow
    have m := a.mono
    rw [e, e2] at g
    rw [e2] at m
    exact ⟨a.sts, (nx_step h0 hs).trans a.nx, m, by omega⟩
  intro f
  induction f with
  | zero =>
    refine ⟨fun σ r h => ?_, fun σ w r h => ?_, fun σ r h => ?_, fun σ w r h => ?_, fun σ r h => ?_, fun σ r h => ?_⟩
    · rw [exprQ_zero] at h; cases h
    · rw [orQ_zero] at h; cases h
    · rw [termQ_zero] at h; cases h
    · rw [andQ_zero] at h; cases h
    · rw [factorQ_zero] at h; cases h
    · rw [bracketedQ_zero] at h; cases h
  | succ f ih =>
    obtain ⟨i1, i2, i3, i4, i5, i6⟩ := ih
    refine ⟨fun σ r h => ?_, fun σ w r h => ?_, fun σ r h => ?_, fun σ w r h => ?_, fun σ r h => ?_, fun σ r h => ?_⟩
    · rw [exprQ_succ] at h
      obtain ⟨a, h1, h2⟩ := bindS h
      exact (i3 _ _ h1).trans (i2 _ _ _ h2)
    · rw [orQ_succ] at h
      split at h
      · rename_i hs
        obtain ⟨a, h1, h2⟩ := bindS h
        exact loop (by decide) hs (i3 _ _ h1) (i2 _ _ _ h2)
      · rw [← Option.some.inj h]; exact XG.refl _ _
    · rw [termQ_succ] at h
      obtain ⟨a, h1, h2⟩ := bindS h
      exact (i5 _ _ h1).trans (i4 _ _ _ h2)
    · rw [andQ_succ] at h
      split at h
      · rename_i hs
        obtain ⟨a, h1, h2⟩ := bindS h
        exact loop (by decide) hs (i5 _ _ h1) (i4 _ _ _ h2)
      · rw [← Option.some.inj h]; exact XG.refl _ _
    · rw [factorQ_succ] at h
      obtain ⟨a, h1, h2⟩ := bindS h
      obtain ⟨q, h3, h4⟩ := Option.map_eq_some_iff.1 h2
      obtain ⟨n1, n2, n3, n4, n5⟩ := xg_nots L f _ _ _ h1
      have g := xg_plain i6 h3
      obtain ⟨m1, m2, m3⟩ := xg_addNots a.2 q.1 q.2
      rw [← h4]
      refine ⟨m1.trans (g.sts.trans n2), ?_, ?_, ?_⟩
      · rw [m2]; exact n4.trans g.nx
      · have := g.mono; rw [m3]; rw [n3] at this; omega
      · have := g.grow; rw [m3, m2]; rw [n3] at this; omega
    · rw [bracketedQ_succ] at h
      obtain ⟨a, h1, h2⟩ := Option.map_eq_some_iff.1 h
      rw [← h2]
      exact (((xg_setp (nx_enter (by decide))).trans (i1 _ _ h1)).trans (xg_setp (nx_leave (by decide)))).weak (by omega)

theorem xg_value {L : List Tk} {f : Nat} {σ : QSt} {v : List (Int × Int)} {r : QSt × List (Int × Int)} (h : valueQ L f σ v = some r) : XG L 1 σ r.1 := by
  unfold valueQ at h
  obtain ⟨a, h1, rfl⟩ := Option.map_eq_some_iff.1 h
  exact (xg_exprs L f).1 _ _ h1
theorem xg_values (L : List Tk) : ∀ (f : Nat) (σ : QSt) (v : List (Int × Int)) (r : QSt × List (Int × Int)), valuesQ L f σ v = some r → XG L 0 σ r.1 := by
  intro f
  induction f with
  | zero => intro σ v r h; rw [valuesQ] at h; cases h
  | succ f ih =>
    intro σ v r h
    rw [valuesQ] at h
    split at h
    · rename_i hs
      obtain ⟨a, h1, h2⟩ := bindS h
      have a1 := (xg_value h1).trans (ih _ _ _ h2)
      have e : (σ.setp σ.p.step).p.next = σ.p.next + 1 := rfl
      have e2 : (σ.setp σ.p.step).nds = σ.nds := rfl
      have g := a1.grow
      have m := a1.mono
      rw [e, e2] at g
      rw [e2] at m
      exact ⟨a1.sts, (nx_step (by decide) hs).trans a1.nx, m, by omega⟩
    · rw [← Option.some.inj h]; exact XG.refl _ _
theorem xg_cond {L : List Tk} {f : Nat} {σ : QSt} {v : List (Int × Int)} {r : QSt × List (Int × Int)} (h : condQ L f σ v = some r) : XG L 1 σ r.1 := by
  cases f with
  | zero => rw [condQ] at h; cases h
  | succ f =>
    rw [condQ] at h
    obtain ⟨a, h1, h2⟩ := Option.map_eq_some_iff.1 h
    rw [← h2]
    exact (((xg_setp (nx_enter (by decide))).trans (xg_value h1)).trans (xg_setp (nx_leave (by decide)))).weak (by omega)
theorem xg_call {L : List Tk} {f : Nat} {σ : QSt} {s : Stm} {r : QSt × Stm} (h : callQ L f σ s = some r) : XG L 1 σ r.1 := by
  unfold callQ at h
  obtain ⟨a, h1, h2⟩ := Option.map_eq_some_iff.1 h
  rw [← h2]
  have start : XG L 0 σ (σ.setp (enterP L (σ.p.takeName L 6) ⟨#[40]⟩)) := xg_setp (nx_name.trans (nx_enter (by decide)))
  have mid : XG L 1 σ a.1 := by
    split at h1
    · rw [← Option.some.inj h1]; exact start.weak (by omega)
    · obtain ⟨b, h3, h4⟩ := bindS h1
      exact ((start.trans (xg_value h3)).trans (xg_values L f _ _ _ h4)).weak (by omega)
  have l := nx_leave (L := L) (a := a.1.p) (t := ⟨#[41]⟩) (by decide)
  exact (mid.trans (xg_setp (q := { leaveP L a.1.p ⟨#[41]⟩ with calls := (leaveP L a.1.p ⟨#[41]⟩).calls ++ [⟨(σ.p.ahead L 0).t, (σ.p.ahead L 0).p, a.2.length⟩] }) ⟨l.1, l.2⟩)).weak (by omega)
theorem xg_assigned {L : List Tk} {f : Nat} {σ : QSt} {s : Stm} {r : QSt × Stm} (h : assignedQ L f σ s = some r) : XG L 1 σ r.1 := by
  unfold assignedQ at h
  split at h
  · exact xg_call h
  · obtain ⟨a, h1, rfl⟩ := Option.map_eq_some_iff.1 h
    exact xg_value h1

structure SG (L : List Tk) (c d : Nat) (σ τ : QSt) : Prop where
  nx : Nx L σ.p τ.p
  mn : σ.nds.length ≤ τ.nds.length
  ms : σ.sts.length ≤ τ.sts.length
  gn : τ.nds.length + 3 * σ.p.next ≤ σ.nds.length + 3 * τ.p.next + c
  gs : τ.sts.length + σ.p.next ≤ σ.sts.length + τ.p.next + d
theorem SG.trans {L : List Tk} {c d c' d' : Nat} {a b e : QSt} (h : SG L c d a b) (k : SG L c' d' b e) : SG L (c + c') (d + d') a e :=
  ⟨h.nx.trans k.nx, Nat.le_trans h.mn k.mn, Nat.le_trans h.ms k.ms, by have := h.gn; have := k.gn; omega, by have := h.gs; have := k.gs; omega⟩
theorem SG.weak {L : List Tk} {c d c' d' : Nat} {a b : QSt} (h : SG L c d a b) (hc : c ≤ c') (hd : d ≤ d') : SG L c' d' a b := ⟨h.nx, h.mn, h.ms, by have := h.gn; omega, by have := h.gs; omega⟩
theorem XG.sg {L : List Tk} {c : Nat} {a b : QSt} (h : XG L c a b) : SG L c 0 a b := ⟨h.nx, h.mono, by rw [h.sts]; exact Nat.le_refl _, by have := h.grow; have := h.nx.1; omega, by rw [h.sts]; have := h.nx.1; omega⟩
theorem sg_add {L : List Tk} (σ : QSt) (s : Stm) : SG L 0 1 σ (σ.add s) := ⟨Nx.refl _ _, Nat.le_refl _, by show _ ≤ (σ.sts ++ [s]).length; simp, by show σ.nds.length + _ ≤ _ + 3 * σ.p.next + 0; omega, by show (σ.sts ++ [s]).length + σ.p.next ≤ _ + σ.p.next + 1; simp; omega⟩
theorem SG.tok {L : List Tk} {c d : Nat} {a b : QSt} (h : SG L c d a b) (hlt : a.p.next < b.p.next) (hg : b.nds.length + 2 * a.p.next ≤ a.nds.length + 2 * b.p.next + 1) (hs : b.sts.length ≤ a.sts.length + 1) : SG L 0 0 a b := ⟨h.nx, h.mn, h.ms, by omega, by omega⟩

theorem sg_simple {L : List Tk} {a b : QSt} {s : Stm} (h : XG L 1 a b) (hlt : b.p.failed = false → a.p.next < b.p.next) : SG L (if b.p.failed then 1 else 0) (if b.p.failed then 1 else 0) a (b.add s) := by
  have k := h.sg.trans (sg_add b s)
  cases hf : b.p.failed
  · have e : (b.add s).p = b.p := rfl
    exact k.tok (by rw [e]; exact hlt hf) (by show b.nds.length + _ ≤ _ + 2 * b.p.next + 1; exact h.grow) (by show (b.sts ++ [s]).length ≤ _; rw [h.sts]; simp)
  · exact k.weak (by simp) (by simp)

end RR
