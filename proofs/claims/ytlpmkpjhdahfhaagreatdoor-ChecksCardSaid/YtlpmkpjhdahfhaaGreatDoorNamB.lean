/- Which names the parser lists: expressions, calls. Plain functions. No Go here. -/
import Derived.Test.YtlpmkpjhdahfhaaGreatDoorNamA
namespace RR
open Go Go.RowKit

theorem x_nots (L : List Tk) : ∀ (f : Nat) (a b : PSt), notsP L f a = some b → b.failed = false → X L 0 a b [] ∧ (a.next < b.next → isNameB (tAt L (b.next - 1)) = false) := by
  intro f
  induction f with
  | zero => intro a b h; rw [notsP] at h; cases h
  | succ f ih =>
    intro a b h hb
    rw [notsP] at h
    split at h
    · obtain ⟨k1, k2⟩ := ih _ _ h hb
      have t := tok_take (by decide) k1.ok
      have hn : isNameB (⟨#[33]⟩ : ByteArray) = false := sign_name (by decide)
      have x := X.tok t hn (by decide) (by decide) (by decide) (by decide)
      have e : isNameB (tAt L ((a.take L ⟨#[33]⟩).next - 1)) = false := by rw [t.next, Nat.add_sub_cancel, t.is]; exact hn
      refine ⟨x.comp k1 (fun _ _ h => by rw [e] at h; cases h), fun _ => ?_⟩
      by_cases hl : (a.take L ⟨#[33]⟩).next < b.next
      · exact k2 hl
      · have := k1.seg.le
        rw [show b.next = (a.take L ⟨#[33]⟩).next by omega]; exact e
    · rw [← Option.some.inj h] at hb ⊢
      exact ⟨X.nil hb, fun h => absurd h (Nat.lt_irrefl _)⟩

/-- What a piece of an expression reads. -/
def XE (L : List Tk) (F : Nat → PSt → Option PSt) (f : Nat) : Prop := ∀ a b, F f a = some b → b.failed = false → ∃ M, X L 0 a b M
/-- The same, if what it begins with, if with anything, is no bracket. -/
def XF (L : List Tk) (F : Nat → PSt → Option PSt) (f : Nat) : Prop := ∀ a b, F f a = some b → b.failed = false → ∃ M, X L 0 a b M ∧ (a.next < b.next → ¬ tAt L a.next = ⟨#[40]⟩)

theorem x_more {L : List Tk} {a b c : PSt} {t : ByteArray} {M N : List Ml} (h : Tok L t a a.step) (hn : isNameB t = false) (hx : memB xsigns t = true) (h1 : ¬ t = ⟨#[40]⟩) (h2 : ¬ t = ⟨#[41]⟩) (h3 : ¬ t = ⟨#[44]⟩) (k : X L 0 a.step b M) (l : X L 0 b c N) (hl : b.next < c.next → ¬ tAt L b.next = ⟨#[40]⟩) : X L 0 a c (M ++ N) := by
  have x := X.tok h hn hx h1 h2 h3
  have e : isNameB (tAt L (a.step.next - 1)) = false := by rw [h.next, Nat.add_sub_cancel, h.is]; exact hn
  exact (x.comp k (fun _ _ h => by rw [e] at h; cases h)).comp l (fun _ h _ => hl h)

theorem x_exprs (L : List Tk) : ∀ f : Nat, XE L (exprP L) f ∧ XF L (orP L) f ∧ XE L (termP L) f ∧ XF L (andP L) f ∧ XE L (factorP L) f ∧ XE L (bracketedP L) f := by
  intro f
  induction f with
  | zero =>
    refine ⟨?_, ?_, ?_, ?_, ?_, ?_⟩ <;> intro a b h
    · rw [exprP] at h; cases h
    · rw [orP] at h; cases h
    · rw [termP] at h; cases h
    · rw [andP] at h; cases h
    · rw [factorP] at h; cases h
    · rw [bracketedP] at h; cases h
  | succ f ih =>
    obtain ⟨i1, i2, i3, i4, i5, i6⟩ := ih
    refine ⟨?_, ?_, ?_, ?_, ?_, ?_⟩ <;> intro a b h hb
    · rw [exprP] at h
      obtain ⟨c, h1, h2⟩ := bindS h
      obtain ⟨N, k2, k3⟩ := i2 _ _ h2 hb
      obtain ⟨M, k1⟩ := i3 _ _ h1 k2.ok
      exact ⟨M ++ N, k1.comp k2 (fun _ h _ => k3 h)⟩
    · rw [orP] at h
      split at h
      · rename_i hs
        obtain ⟨c, h1, h2⟩ := bindS h
        obtain ⟨N, k2, k3⟩ := i2 _ _ h2 hb
        obtain ⟨M, k1⟩ := i3 _ _ h1 k2.ok
        have t := tok_step (by decide) hs
        exact ⟨M ++ N, x_more t (sign_name (by decide)) (by decide) (by decide) (by decide) (by decide) k1 k2 k3, fun _ => by rw [t.is]; decide⟩
      · rw [← Option.some.inj h] at hb ⊢
        exact ⟨[], X.nil hb, fun h => absurd h (Nat.lt_irrefl _)⟩
    · rw [termP] at h
      obtain ⟨c, h1, h2⟩ := bindS h
      obtain ⟨N, k2, k3⟩ := i4 _ _ h2 hb
      obtain ⟨M, k1⟩ := i5 _ _ h1 k2.ok
      exact ⟨M ++ N, k1.comp k2 (fun _ h _ => k3 h)⟩
    · rw [andP] at h
      split at h
      · rename_i hs
        obtain ⟨c, h1, h2⟩ := bindS h
        obtain ⟨N, k2, k3⟩ := i4 _ _ h2 hb
        obtain ⟨M, k1⟩ := i5 _ _ h1 k2.ok
        have t := tok_step (by decide) hs
        exact ⟨M ++ N, x_more t (sign_name (by decide)) (by decide) (by decide) (by decide) (by decide) k1 k2 k3, fun _ => by rw [t.is]; decide⟩
      · rw [← Option.some.inj h] at hb ⊢
        exact ⟨[], X.nil hb, fun h => absurd h (Nat.lt_irrefl _)⟩
    · rw [factorP] at h
      obtain ⟨c, h1, h2⟩ := bindS h
      have fin : ∀ {N}, X L 0 c b N → ∃ M, X L 0 a b M := fun {N} k => by
        obtain ⟨k1, k2⟩ := x_nots L f _ _ h1 k.ok
        exact ⟨[] ++ N, k1.comp k (fun h _ e => by rw [k2 h] at e; cases e)⟩
      split at h2
      · obtain ⟨N, k⟩ := i6 _ _ h2 hb
        exact fin k
      · split at h2
        · rename_i hc
          rw [← Option.some.inj h2] at hb
          have e := Option.some.inj h2
          have h0 : ¬ (c.ahead L 0).t = ⟨#[]⟩ := by
            rcases hc with hc | hc | hc <;> rw [hc] <;> decide
          have t := tok_take h0 hb
          have hn : isNameB (c.ahead L 0).t = false := by
            rcases hc with hc | hc | hc <;> rw [hc] <;> (unfold isNameB; rw [bl]; decide)
          have hx : memB xsigns (c.ahead L 0).t = true := by
            rcases hc with hc | hc | hc <;> rw [hc] <;> decide
          refine fin (N := []) (e ▸ X.tok t hn hx ?_ ?_ ?_) <;> (rcases hc with hc | hc | hc <;> rw [hc] <;> decide)
        · rw [← Option.some.inj h2] at hb
          have e := Option.some.inj h2
          exact fin (e ▸ X.nam (nam_take hb))
    · rw [bracketedP] at h
      obtain ⟨c, h1, h2⟩ := Option.map_eq_some_iff.1 h
      rw [← h2] at hb ⊢
      have t2 := tok_leave (by decide) hb
      obtain ⟨M, k⟩ := i1 _ _ h1 t2.ok
      exact ⟨M, X.brack (tok_enter (by decide) k.ok) k t2⟩

theorem x_expr {L : List Tk} {f : Nat} {a b : PSt} (h : exprP L f a = some b) (hb : b.failed = false) : ∃ M, X L 0 a b M := (x_exprs L f).1 a b h hb
theorem x_bracketed {L : List Tk} {f : Nat} {a b : PSt} (h : bracketedP L f a = some b) (hb : b.failed = false) : ∃ M, X L 0 a b M := (x_exprs L f).2.2.2.2.2 a b h hb

theorem X.comma {L : List Tk} {a b : PSt} (h : Tok L ⟨#[44]⟩ a b) : X L 1 a b [] := by
  refine ⟨h.ok, by rw [h.names]; simp, h.calls, h.proc, ?_, fun _ h => (by cases h), ?_⟩
  · rw [h.next]; exact Seg.tok (by rw [h.is]; exact sign_name (by decide))
  · rw [h.next]; exact XR.comma h.lt h.is

theorem x_values (L : List Tk) : ∀ (f : Nat) (a : PSt) (n : Nat) (r : PSt × Nat), valuesP L f a n = some r → r.1.failed = false → ∃ M k, X L k a r.1 M ∧ r.2 = n + k ∧ (a.next < r.1.next → ¬ tAt L a.next = ⟨#[40]⟩) := by
  intro f
  induction f with
  | zero => intro a n r h; rw [valuesP] at h; cases h
  | succ f ih =>
    intro a n r h hr
    rw [valuesP] at h
    split at h
    · rename_i hs
      obtain ⟨c, h1, h2⟩ := bindS h
      obtain ⟨N, k, k2, k3, k4⟩ := ih _ _ _ h2 hr
      obtain ⟨M, k1⟩ := x_expr h1 k2.ok
      have t := tok_step (by decide) hs
      have hn : isNameB (⟨#[44]⟩ : ByteArray) = false := sign_name (by decide)
      have e : isNameB (tAt L (a.step.next - 1)) = false := by rw [t.next, Nat.add_sub_cancel, t.is]; exact hn
      refine ⟨([] ++ M) ++ N, (1 + 0) + k, ((X.comma t).comp k1 (fun _ _ h => by rw [e] at h; cases h)).comp k2 (fun _ h _ => k4 h), by omega, fun _ => by rw [t.is]; decide⟩
    · rw [← Option.some.inj h] at hr ⊢
      exact ⟨[], 0, X.nil hr, rfl, fun h => absurd h (Nat.lt_irrefl _)⟩

/-- What stands ahead of the token n is no acquire and no release. -/
def NAR (L : List Tk) (n : Nat) : Prop := ∀ j, n = j + 1 → ¬ tAt L j = ⟨#[97, 99, 113, 117, 105, 114, 101]⟩ ∧ ¬ tAt L j = ⟨#[114, 101, 108, 101, 97, 115, 101]⟩
def AR (L : List Tk) (n : Nat) : Prop := ∃ j, n = j + 1 ∧ (tAt L j = ⟨#[97, 99, 113, 117, 105, 114, 101]⟩ ∨ tAt L j = ⟨#[114, 101, 108, 101, 97, 115, 101]⟩)
/-- Its role is told by what stands around it. -/
def BR (L : List Tk) (x : Ml) : Prop := (x.r = 4 ∧ NAR L x.i ∧ ¬ tAt L (x.i + 1) = ⟨#[40]⟩) ∨ (x.r = 5 ∧ AR L x.i ∧ ¬ tAt L (x.i + 1) = ⟨#[40]⟩) ∨ (x.r = 6 ∧ NAR L x.i ∧ tAt L (x.i + 1) = ⟨#[40]⟩)
def NK (t : ByteArray) : Prop := ¬ t = ⟨#[115, 104, 97, 114, 101, 100]⟩ ∧ ¬ t = ⟨#[108, 111, 99, 107, 115]⟩ ∧ ¬ t = ⟨#[112, 114, 111, 99]⟩ ∧ ¬ t = ⟨#[116, 104, 114, 101, 97, 100, 115]⟩

theorem kw_name {u : ByteArray} (h : memB kws u = true) : isNameB u = false := by unfold isNameB; rw [h]; simp
theorem name_nk {t : ByteArray} (h : isNameB t = true) : NK t := by
  refine ⟨?_, ?_, ?_, ?_⟩ <;> (rintro rfl; rw [kw_name (by decide)] at h; cases h)
theorem xtok_nk {t : ByteArray} (h : xtok t) : NK t := ⟨xtok_ne h _ (kw_name (by decide)) (by decide), xtok_ne h _ (kw_name (by decide)) (by decide), xtok_ne h _ (kw_name (by decide)) (by decide), xtok_ne h _ (kw_name (by decide)) (by decide)⟩
theorem nar_of {L : List Tk} {n : Nat} {t : ByteArray} (h : tAt L n = t) (h1 : ¬ t = ⟨#[97, 99, 113, 117, 105, 114, 101]⟩) (h2 : ¬ t = ⟨#[114, 101, 108, 101, 97, 115, 101]⟩) : NAR L (n + 1) := fun j e => by
  rw [show j = n by omega, h]; exact ⟨h1, h2⟩
theorem nar_x {L : List Tk} {n : Nat} (h : xtok (tAt L n)) : NAR L (n + 1) := nar_of rfl (xtok_ne h _ (kw_name (by decide)) (by decide)) (xtok_ne h _ (kw_name (by decide)) (by decide))

/-- A call: its name's token, how many values. -/
structure Ca where
  i : Nat
  v : Nat
def mkc (L : List Tk) (c : Ca) : Cl := ⟨tAt L c.i, (tk L c.i).p, c.v⟩

/-- The calls of C are those of the names of M. -/
structure CallsOf (L : List Tk) (M : List Ml) (C : List Ca) : Prop where
  sor : C.Pairwise fun x y => x.i < y.i
  inn : ∀ c ∈ C, (∃ x ∈ M, x.r = 6 ∧ x.i = c.i) ∧ (c.v : Int) = valuesB L (c.i + 1)
  cov : ∀ x ∈ M, x.r = 6 → ∃ c ∈ C, c.i = x.i
theorem CallsOf.none {L : List Tk} {M : List Ml} (h : ∀ x ∈ M, ¬ x.r = 6) : CallsOf L M [] := ⟨List.Pairwise.nil, fun _ h => (by cases h), fun x hx e => absurd e (h x hx)⟩
theorem CallsOf.comp {L : List Tk} {a b c : Nat} {M N : List Ml} {C D : List Ca} (h : CallsOf L M C) (k : CallsOf L N D) (s : Seg L a b M) (t : Seg L b c N) : CallsOf L (M ++ N) (C ++ D) := by
  refine ⟨List.pairwise_append.2 ⟨h.sor, k.sor, fun x hx y hy => ?_⟩, fun c hc => ?_, fun x hx e => ?_⟩
  · obtain ⟨⟨p, hp, _, e⟩, _⟩ := h.inn x hx
    obtain ⟨⟨q, hq, _, e2⟩, _⟩ := k.inn y hy
    have := s.inn p hp; have := t.inn q hq; omega
  · rcases List.mem_append.1 hc with hc | hc
    · obtain ⟨⟨p, hp, e⟩, e2⟩ := h.inn c hc; exact ⟨⟨p, List.mem_append_left _ hp, e⟩, e2⟩
    · obtain ⟨⟨p, hp, e⟩, e2⟩ := k.inn c hc; exact ⟨⟨p, List.mem_append_right _ hp, e⟩, e2⟩
  · rcases List.mem_append.1 hx with hx | hx
    · obtain ⟨c, hc, e⟩ := h.cov x hx e; exact ⟨c, List.mem_append_left _ hc, e⟩
    · obtain ⟨c, hc, e⟩ := k.cov x hx e; exact ⟨c, List.mem_append_right _ hc, e⟩

/-- A piece of a procedure's block is read. -/
structure Bd (L : List Tk) (a b : PSt) (M : List Ml) (C : List Ca) : Prop where
  ok : a.failed = false
  names : b.names = a.names ++ M.map (mk L)
  calls : b.calls = a.calls ++ C.map (mkc L)
  proc : b.proc = a.proc
  seg : Seg L a.next b.next M
  role : ∀ x ∈ M, BR L x ∧ x.pr = a.proc
  kw : ∀ i, a.next ≤ i → i < b.next → NK (tAt L i)
  cs : CallsOf L M C

theorem Bd.nil {L : List Tk} {a : PSt} (h : a.failed = false) : Bd L a a [] [] := ⟨h, (by simp), (by simp), rfl, Seg.nil _ _, fun _ h => (by cases h), fun i h1 h2 => absurd h1 (by omega), CallsOf.none (fun _ h => (by cases h))⟩
theorem Bd.comp {L : List Tk} {a b c : PSt} {M N : List Ml} {C D : List Ca} (h : Bd L a b M C) (k : Bd L b c N D) : Bd L a c (M ++ N) (C ++ D) := by
  refine ⟨h.ok, ?_, ?_, k.proc.trans h.proc, h.seg.comp k.seg, ?_, ?_, h.cs.comp k.cs h.seg k.seg⟩
  · rw [k.names, h.names, List.map_append, List.append_assoc]
  · rw [k.calls, h.calls, List.map_append, List.append_assoc]
  · intro x hx
    rcases List.mem_append.1 hx with hx | hx
    · exact h.role x hx
    · rw [← h.proc]; exact k.role x hx
  · intro i h1 h2
    by_cases hb : i < b.next
    · exact h.kw i h1 hb
    · exact k.kw i (by omega) h2
theorem Bd.tok {L : List Tk} {t : ByteArray} {a b : PSt} (h : Tok L t a b) (hn : isNameB t = false) (hk : NK t) : Bd L a b [] [] := by
  refine ⟨h.ok, by rw [h.names]; simp, by rw [h.calls]; simp, h.proc, ?_, fun _ h => (by cases h), ?_, CallsOf.none (fun _ h => (by cases h))⟩
  · rw [h.next]; exact Seg.tok (by rw [h.is]; exact hn)
  · intro i h1 h2; rw [show i = a.next by rw [h.next] at h2; omega, h.is]; exact hk
theorem Bd.nam {L : List Tk} {r : Nat} {a b : PSt} (h : Nam L r a b) (h6 : ¬ r = 6) (hb : BR L ⟨a.next, r, a.proc⟩) : Bd L a b [⟨a.next, r, a.proc⟩] [] := by
  refine ⟨h.ok, h.names, by rw [h.calls]; simp, h.proc, ?_, ?_, ?_, CallsOf.none (fun x hx => by rw [List.mem_singleton.1 hx]; exact h6)⟩
  · rw [h.next]; exact Seg.name h.is rfl
  · intro x hx; rw [List.mem_singleton.1 hx]; exact ⟨hb, rfl⟩
  · intro i h1 h2; rw [show i = a.next by rw [h.next] at h2; omega]; exact name_nk h.is

/-- Each name in an expression is a truth. -/
theorem X.br {L : List Tk} {cm : Nat} {a b : PSt} {M : List Ml} (h : X L cm a b M) (hp : NAR L a.next) (hq : ¬ tAt L b.next = ⟨#[40]⟩) : ∀ x ∈ M, BR L x := fun x hx => by
  have s := h.seg.inn x hx
  refine .inl ⟨(h.role x hx).1, ?_, ?_⟩
  · by_cases e : x.i = a.next
    · rw [e]; exact hp
    · have := nar_x (h.row.tok (x.i - 1) (by omega) (by omega))
      rw [show x.i - 1 + 1 = x.i by omega] at this; exact this
  · by_cases e : x.i + 1 = b.next
    · rw [e]; exact hq
    · exact h.row.nocall x.i s.1 (by omega) s.2.2
theorem X.bd {L : List Tk} {cm : Nat} {a b : PSt} {M : List Ml} (h : X L cm a b M) (hp : NAR L a.next) (hq : ¬ tAt L b.next = ⟨#[40]⟩) : Bd L a b M [] :=
  ⟨h.ok, h.names, by rw [h.calls]; simp, h.proc, h.seg, fun x hx => ⟨h.br hp hq x hx, (h.role x hx).2⟩, fun i h1 h2 => xtok_nk (h.row.tok i h1 h2), CallsOf.none (fun x hx => by rw [(h.role x hx).1]; decide)⟩
theorem X.nar {L : List Tk} {cm : Nat} {a b : PSt} {M : List Ml} (h : X L cm a b M) (hp : NAR L a.next) : NAR L b.next := by
  have := h.row.le
  by_cases e : a.next = b.next
  · rw [← e]; exact hp
  · have := nar_x (h.row.tok (b.next - 1) (by omega) (by omega))
    rw [show b.next - 1 + 1 = b.next by omega] at this; exact this

end RR
