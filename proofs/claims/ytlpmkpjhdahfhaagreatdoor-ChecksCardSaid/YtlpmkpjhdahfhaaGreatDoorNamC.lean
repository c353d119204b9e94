/- Which names and calls the parser lists: statements. Plain functions. No Go here. -/
import Derived.Test.YtlpmkpjhdahfhaaGreatDoorNamB
namespace RR
open Go Go.RowKit

theorem vals_end {L : List Tk} {e : Int} {f m : Nat} {op v : Int} (h : ¬ (m : Int) < e) : valuesF L e f m op v = v := by
  cases f with
  | zero => rfl
  | succ f => rw [valuesF, if_neg h]

theorem mateB_eq {L : List Tk} {cm i j : Nat} (h : XR L cm (i + 2) j) (h1 : tAt L (i + 1) = ⟨#[40]⟩) (hj : j < L.length) (h2 : tAt L j = ⟨#[41]⟩) : mateB L (i + 1) = j := by
  have l := h.le
  have e1 : isB L ((i + 1 : Nat) : Int) ⟨#[41]⟩ = false := by rw [isB_tAt (by decide), h1]; decide
  have e2 : isB L ((i + 1 : Nat) : Int) ⟨#[125]⟩ = false := by rw [isB_tAt (by decide), h1]; decide
  have d1 : delta (⟨#[40]⟩ : ByteArray) = 1 := by decide
  have d2 : delta (⟨#[41]⟩ : ByteArray) = -1 := by decide
  unfold mateB
  rw [e1, e2]
  show mateF L 1 _ (L.length + 1) _ 0 = _
  rw [mate_step (by omega), h1, d1, if_neg (by decide), show L.length = ((L.length - (j - (i + 2)) - 1) + 1) + (j - (i + 2)) by omega, h.mate _ _ _ (by decide), mate_step hj, h2, d2, if_pos (by decide)]

theorem valuesB_eq {L : List Tk} {cm i j : Nat} (h : XR L cm (i + 2) j) (h1 : tAt L (i + 1) = ⟨#[40]⟩) (hj : j < L.length) (h2 : tAt L j = ⟨#[41]⟩) : valuesB L (i + 1) = if j = i + 2 then 0 else 1 + (cm : Int) := by
  have l := h.le
  have d1 : dp (⟨#[40]⟩ : ByteArray) = 1 := by decide
  have c1 : ¬ (⟨#[40]⟩ : ByteArray) = ⟨#[44]⟩ := by decide
  unfold valuesB
  rw [mateB_eq h h1 hj h2]
  by_cases e : j = i + 2
  · rw [if_pos e, if_pos (by omega)]
  · rw [if_neg e, if_neg (by omega), vals_step (by omega), h1, d1, if_neg (fun h => c1 h.1), show L.length = (L.length - (j - (i + 2))) + (j - (i + 2)) by omega, show (0 : Int) + 1 = 1 by rfl, h.vals _ _ 1 1 (.inr rfl) (Int.le_refl _), vals_end (by omega)]

theorem bd_call {L : List Tk} {f : Nat} {a b : PSt} (h : callP L f a = some b) (hb : b.failed = false) (hp : NAR L a.next) : ∃ M C, Bd L a b M C ∧ NAR L b.next := by
  unfold callP at h
  obtain ⟨r, h1, h2⟩ := Option.map_eq_some_iff.1 h
  have hb' : (leaveP L r.1 ⟨#[41]⟩).failed = false := by rw [← h2] at hb; exact hb
  have t3 := tok_leave (by decide) hb'
  have key : ∃ M cm, X L cm (enterP L (a.takeName L 6) ⟨#[40]⟩) r.1 M ∧ (r.2 : Int) = if r.1.next = (enterP L (a.takeName L 6) ⟨#[40]⟩).next then 0 else 1 + (cm : Int) := by
    split at h1
    · rename_i hs
      have e := Option.some.inj h1
      have e1 : r.1 = enterP L (a.takeName L 6) ⟨#[40]⟩ := by rw [← e]
      have e2 : r.2 = 0 := by rw [← e]
      have ok := t3.ok
      rw [e1] at ok ⊢
      exact ⟨[], 0, X.nil ok, by rw [if_pos rfl, e2]; rfl⟩
    · rename_i hs
      obtain ⟨c, k1, k2⟩ := bindS h1
      obtain ⟨N, k, x2, e2, j2⟩ := x_values L f c 1 r k2 t3.ok
      obtain ⟨M, x1⟩ := x_expr k1 x2.ok
      refine ⟨M ++ N, 0 + k, x1.comp x2 (fun _ h _ => j2 h), ?_⟩
      rw [if_neg, e2]
      · push_cast; omega
      · intro e
        have := t3.is
        rw [e] at this
        exact sees_not x1.ok (by simpa using hs) this
  obtain ⟨M, cm, x, hv⟩ := key
  have t2 := tok_enter (by decide) x.ok
  have n1 := nam_take t2.ok
  have en : (enterP L (a.takeName L 6) ⟨#[40]⟩).next = a.next + 2 := by rw [t2.next, n1.next]
  have e40 : tAt L (a.next + 1) = ⟨#[40]⟩ := by rw [← n1.next]; exact t2.is
  have hn41 : ¬ tAt L r.1.next = ⟨#[40]⟩ := by rw [t3.is]; decide
  have np : NAR L (enterP L (a.takeName L 6) ⟨#[40]⟩).next := by rw [t2.next]; exact nar_of t2.is (by decide) (by decide)
  have bx := x.bd np hn41
  have row := x.row
  rw [en] at row hv
  have hval := valuesB_eq row e40 t3.lt t3.is
  have ea : a.failed = false := n1.ok
  have e1 : (a.ahead L 0).t = tAt L a.next := tAt_ahead ea
  have e2 : (a.ahead L 0).p = (tk L a.next).p := by rw [ahead_in (n := 0) ea n1.lt, tk_eq n1.lt]; rfl
  have bnext : b.next = r.1.next + 1 := by rw [← h2]; exact t3.next
  have s1 : Seg L a.next (a.takeName L 6).next [⟨a.next, 6, a.proc⟩] := by rw [n1.next]; exact Seg.name n1.is rfl
  have s2 : Seg L (a.takeName L 6).next (enterP L (a.takeName L 6) ⟨#[40]⟩).next [] := by rw [t2.next]; exact Seg.tok (by rw [t2.is]; exact sign_name (by decide))
  have s3 : Seg L r.1.next b.next [] := by rw [bnext]; exact Seg.tok (by rw [t3.is]; exact sign_name (by decide))
  have sall := ((s1.comp s2).comp x.seg).comp s3
  simp only [List.append_nil] at sall
  refine ⟨[⟨a.next, 6, a.proc⟩] ++ M, [⟨a.next, r.2⟩], ⟨ea, ?_, ?_, ?_, sall, ?_, ?_, ?_⟩, ?_⟩
  · rw [← h2]
    show (leaveP L r.1 ⟨#[41]⟩).names = _
    rw [t3.names, x.names, t2.names, n1.names, List.map_append, List.append_assoc]; rfl
  · rw [← h2]
    show (leaveP L r.1 ⟨#[41]⟩).calls ++ _ = _
    rw [t3.calls, x.calls, t2.calls, n1.calls, e1, e2]; rfl
  · rw [← h2]
    show (leaveP L r.1 ⟨#[41]⟩).proc = _
    rw [t3.proc, x.proc, t2.proc, n1.proc]
  · intro y hy
    rcases List.mem_append.1 hy with hy | hy
    · rw [List.mem_singleton.1 hy]; exact ⟨.inr (.inr ⟨rfl, hp, e40⟩), rfl⟩
    · have := bx.role y hy
      exact ⟨this.1, by rw [this.2, t2.proc, n1.proc]⟩
  · intro i h1 h2
    by_cases c1 : i = a.next
    · rw [c1]; exact name_nk n1.is
    · by_cases c2 : i = a.next + 1
      · rw [c2, e40]; exact ⟨by decide, by decide, by decide, by decide⟩
      · by_cases c3 : i = r.1.next
        · rw [c3, t3.is]; exact ⟨by decide, by decide, by decide, by decide⟩
        · exact bx.kw i (by omega) (by omega)
  · refine ⟨List.pairwise_singleton _ _, fun c hc => ?_, fun y hy e6 => ?_⟩
    · rw [List.mem_singleton.1 hc]
      exact ⟨⟨_, List.mem_append_left _ (List.mem_singleton.2 rfl), rfl, rfl⟩, by rw [hval]; exact hv⟩
    · rcases List.mem_append.1 hy with hy | hy
      · rw [List.mem_singleton.1 hy]; exact ⟨_, List.mem_singleton.2 rfl, rfl⟩
      · have := (x.role y hy).1; omega
  · rw [bnext]; exact nar_of t3.is (by decide) (by decide)

/-- What a statement reads. -/
def SB (L : List Tk) (a b : PSt) : Prop := ∃ M C, Bd L a b M C ∧ NAR L b.next
theorem SB.ok {L : List Tk} {a b : PSt} (h : SB L a b) : a.failed = false := by obtain ⟨M, C, h, _⟩ := h; exact h.ok
theorem SB.comp {L : List Tk} {a b c : PSt} (h : SB L a b) (k : SB L b c) : SB L a c := by
  obtain ⟨M, C, h, _⟩ := h
  obtain ⟨N, D, k, n⟩ := k
  exact ⟨_, _, h.comp k, n⟩
theorem SB.nar {L : List Tk} {a b : PSt} (h : SB L a b) : NAR L b.next := by obtain ⟨M, C, _, h⟩ := h; exact h
theorem sb_tok {L : List Tk} {t : ByteArray} {a b : PSt} (h : Tok L t a b) (hn : isNameB t = false) (hk : NK t) (h1 : ¬ t = ⟨#[97, 99, 113, 117, 105, 114, 101]⟩) (h2 : ¬ t = ⟨#[114, 101, 108, 101, 97, 115, 101]⟩) : SB L a b :=
  ⟨_, _, Bd.tok h hn hk, by rw [h.next]; exact nar_of h.is h1 h2⟩
theorem sb_semi {L : List Tk} {a b : PSt} (h : Tok L ⟨#[59]⟩ a b) : SB L a b := sb_tok h (sign_name (by decide)) ⟨by decide, by decide, by decide, by decide⟩ (by decide) (by decide)
theorem sb_x {L : List Tk} {cm : Nat} {a b : PSt} {M : List Ml} (h : X L cm a b M) (hp : NAR L a.next) (hq : ¬ tAt L b.next = ⟨#[40]⟩) : SB L a b := ⟨_, _, h.bd hp hq, h.nar hp⟩

theorem sb_assigned {L : List Tk} {f : Nat} {a b : PSt} (h : assignedP L f a = some b) (hb : b.failed = false) (hq : ¬ tAt L b.next = ⟨#[40]⟩) (hp : NAR L a.next) : SB L a b := by
  unfold assignedP at h
  split at h
  · exact bd_call h hb hp
  · obtain ⟨M, x⟩ := x_expr h hb
    exact sb_x x hp hq
theorem sb_aoc {L : List Tk} {f : Nat} {a b : PSt} (h : assignOrCallP L f a = some b) (hb : b.failed = false) (hp : NAR L a.next) : SB L a b := by
  unfold assignOrCallP at h
  obtain ⟨c, h1, h2⟩ := Option.map_eq_some_iff.1 h
  rw [← h2] at hb ⊢
  have t := tok_take (by decide) hb
  refine SB.comp ?_ (sb_semi t)
  split at h1
  · exact bd_call h1 t.ok hp
  · have np : NAR L ((a.takeName L 4).take L ⟨#[61]⟩).next → SB L ((a.takeName L 4).take L ⟨#[61]⟩) c := sb_assigned h1 t.ok (by rw [t.is]; decide)
    have ok : ((a.takeName L 4).take L ⟨#[61]⟩).failed = false := by
      unfold assignedP at h1
      split at h1
      · unfold callP at h1
        obtain ⟨r, k1, k2⟩ := Option.map_eq_some_iff.1 h1
        have okr : (leaveP L r.1 ⟨#[41]⟩).failed = false := by have := t.ok; rw [← k2] at this; exact this
        have t3 := tok_leave (by decide) okr
        split at k1
        · have e1 := congrArg Prod.fst (Option.some.inj k1)
          have ok3 := t3.ok
          rw [← e1] at ok3
          exact (nam_take (tok_enter (by decide) ok3).ok).ok
        · obtain ⟨d, l1, l2⟩ := bindS k1
          obtain ⟨N, k, x2, e2, j2⟩ := x_values L f d 1 r l2 t3.ok
          obtain ⟨M, x1⟩ := x_expr l1 x2.ok
          exact (nam_take (tok_enter (by decide) x1.ok).ok).ok
      · obtain ⟨M, x⟩ := x_expr h1 t.ok
        exact x.ok
    have t2 := tok_take (by decide) ok
    have n1 := nam_take t2.ok
    have k := np (by rw [t2.next]; exact nar_of t2.is (by decide) (by decide))
    have b1 : SB L a (a.takeName L 4) := ⟨_, _, Bd.nam n1 (by decide) (.inl ⟨rfl, hp, by show ¬ tAt L (a.next + 1) = _; rw [← n1.next, t2.is]; decide⟩), by
      rw [n1.next]
      have hi := n1.is
      refine nar_of rfl ?_ ?_ <;> (intro e; rw [e, kw_name (by decide)] at hi; cases hi)⟩
    have b2 : SB L (a.takeName L 4) ((a.takeName L 4).take L ⟨#[61]⟩) := sb_tok t2 (sign_name (by decide)) ⟨by decide, by decide, by decide, by decide⟩ (by decide) (by decide)
    exact (b1.comp b2).comp k

theorem sb_giveBack {L : List Tk} {f : Nat} {a b : PSt} (h : giveBackP L f a = some b) (hb : b.failed = false) : SB L a b := by
  unfold giveBackP at h
  obtain ⟨c, h1, h2⟩ := Option.map_eq_some_iff.1 h
  rw [← h2] at hb ⊢
  have t := tok_take (by decide) hb
  refine SB.comp ?_ (sb_semi t)
  have kw : isNameB (⟨#[114, 101, 116, 117, 114, 110]⟩ : ByteArray) = false := kw_name (by decide)
  split at h1
  · have e := Option.some.inj h1
    have ok := t.ok
    rw [← e] at ok ⊢
    exact sb_tok (tok_take (by decide) ok) kw ⟨by decide, by decide, by decide, by decide⟩ (by decide) (by decide)
  · obtain ⟨M, x⟩ := x_expr h1 t.ok
    have t2 := tok_take (by decide) x.ok
    have s2 := sb_tok t2 kw ⟨by decide, by decide, by decide, by decide⟩ (by decide) (by decide)
    exact s2.comp (sb_x x s2.nar (by rw [t.is]; decide))

theorem sb_blocks (L : List Tk) : ∀ f : Nat,
    (∀ a b, blockP L f a = some b → b.failed = false → SB L a b ∧ tAt L a.next = ⟨#[123]⟩) ∧
    (∀ a b, stmtsP L f a = some b → b.failed = false → NAR L a.next → SB L a b) ∧
    (∀ a b, statementP L f a = some b → b.failed = false → NAR L a.next → SB L a b) ∧
    (∀ a b, branchP L f a = some b → b.failed = false → SB L a b) := by
  intro f
  induction f with
  | zero =>
    refine ⟨?_, ?_, ?_, ?_⟩ <;> intro a b h
    · rw [blockP] at h; cases h
    · rw [stmtsP] at h; cases h
    · rw [statementP] at h; cases h
    · rw [branchP] at h; cases h
  | succ f ih =>
    obtain ⟨i1, i2, i3, i4⟩ := ih
    have stok : ∀ a b, stmtsP L f a = some b → b.failed = false → a.failed = false := fun a b h hb => by
      cases f with
      | zero => rw [stmtsP] at h; cases h
      | succ f =>
        rw [stmtsP] at h
        split at h
        · rename_i hs; exact hs.1
        · rw [Option.some.inj h]; exact hb
    refine ⟨?_, ?_, ?_, ?_⟩ <;> intro a b h hb
    · rw [blockP] at h
      obtain ⟨c, h1, h2⟩ := Option.map_eq_some_iff.1 h
      rw [← h2] at hb ⊢
      have t2 := tok_leave (by decide) hb
      have ok := stok _ _ h1 t2.ok
      have t1 := tok_enter (by decide) ok
      have s1 := sb_tok t1 (sign_name (by decide)) ⟨by decide, by decide, by decide, by decide⟩ (by decide) (by decide)
      have s2 := sb_tok t2 (sign_name (by decide)) ⟨by decide, by decide, by decide, by decide⟩ (by decide) (by decide)
      exact ⟨(s1.comp (i2 _ _ h1 t2.ok s1.nar)).comp s2, t1.is⟩
    · intro hp
      rw [stmtsP] at h
      split at h
      · obtain ⟨c, h1, h2⟩ := bindS h
        have okc := stok _ _ h2 hb
        have s1 := i3 _ _ h1 okc hp
        exact s1.comp (i2 _ _ h2 hb s1.nar)
      · rw [← Option.some.inj h] at hb ⊢
        exact ⟨_, _, Bd.nil hb, hp⟩
    · intro hp
      rw [statementP] at h
      split at h
      · exact i4 _ _ h hb
      split at h
      · obtain ⟨c, h1, h2⟩ := bindS h
        obtain ⟨s3, e3⟩ := i1 _ _ h2 hb
        obtain ⟨M, x⟩ := x_bracketed h1 s3.ok
        have t := tok_take (by decide) x.ok
        have s1 := sb_tok t (kw_name (by decide)) ⟨by decide, by decide, by decide, by decide⟩ (by decide) (by decide)
        exact (s1.comp (sb_x x s1.nar (by rw [e3]; decide))).comp s3
      split at h
      · obtain ⟨c, h1, h2⟩ := Option.map_eq_some_iff.1 h
        rw [← h2] at hb ⊢
        have t3 := tok_take (by decide) hb
        obtain ⟨M, x⟩ := x_expr h1 t3.ok
        have t := tok_take (by decide) x.ok
        have s1 := sb_tok t (kw_name (by decide)) ⟨by decide, by decide, by decide, by decide⟩ (by decide) (by decide)
        exact (s1.comp (sb_x x s1.nar (by rw [t3.is]; decide))).comp (sb_semi t3)
      split at h
      · rename_i hc
        rw [← Option.some.inj h] at hb ⊢
        have t3 := tok_take (by decide) hb
        have n2 := nam_take t3.ok
        have h0 : ¬ (a.ahead L 0).t = ⟨#[]⟩ := by rcases hc with hc | hc <;> rw [hc] <;> decide
        have t1 := tok_take h0 n2.ok
        have b1 : Bd L a (a.take L (a.ahead L 0).t) [] [] := Bd.tok t1 (by rcases hc with hc | hc <;> rw [hc] <;> exact kw_name (by decide)) (by rcases hc with hc | hc <;> rw [hc] <;> exact ⟨by decide, by decide, by decide, by decide⟩)
        have b2 := Bd.nam n2 (by decide) (.inr (.inl ⟨rfl, ⟨a.next, t1.next, by show tAt L a.next = _ ∨ tAt L a.next = _; rw [t1.is]; exact hc⟩, by
          show ¬ tAt L ((a.take L (a.ahead L 0).t).next + 1) = _
          rw [← n2.next, t3.is]; decide⟩))
        obtain ⟨M, C, b3, n3⟩ := sb_semi t3
        exact ⟨_, _, (b1.comp b2).comp b3, n3⟩
      split at h
      · exact sb_giveBack h hb
      split at h
      · rw [← Option.some.inj h] at hb ⊢
        have t3 := tok_take (by decide) hb
        have t := tok_take (by decide) t3.ok
        exact (sb_tok t (kw_name (by decide)) ⟨by decide, by decide, by decide, by decide⟩ (by decide) (by decide)).comp (sb_semi t3)
      · exact sb_aoc h hb hp
    · rw [branchP] at h
      obtain ⟨c, h1, h2⟩ := bindS h
      obtain ⟨d, h3, h4⟩ := bindS h2
      have key : SB L d b ∨ d = b := by
        split at h4
        · rename_i hs
          obtain ⟨s5, e5⟩ := i1 _ _ h4 hb
          exact .inl ((sb_tok (tok_step (by decide) hs) (kw_name (by decide)) ⟨by decide, by decide, by decide, by decide⟩ (by decide) (by decide)).comp s5)
        · exact .inr (Option.some.inj h4)
      have okd : d.failed = false := by
        rcases key with k | k
        · exact k.ok
        · rw [k]; exact hb
      obtain ⟨s3, e3⟩ := i1 _ _ h3 okd
      obtain ⟨M, x⟩ := x_bracketed h1 s3.ok
      have t := tok_take (by decide) x.ok
      have s1 := sb_tok t (kw_name (by decide)) ⟨by decide, by decide, by decide, by decide⟩ (by decide) (by decide)
      have all := (s1.comp (sb_x x s1.nar (by rw [e3]; decide))).comp s3
      rcases key with k | k
      · exact all.comp k
      · exact k ▸ all

end RR
