/- Which names and calls the parser lists: lists of names, procedures. Plain functions. No Go here. -/
import Derived.Test.YtlpmkpjhdahfhaaGreatDoorNamC
namespace RR
open Go Go.RowKit

/-- Names, with commas, are read. -/
structure NL (L : List Tk) (r : Nat) (a b : PSt) (l : List Nat) : Prop where
  ok : a.failed = false
  names : b.names = a.names ++ (l.map fun i => (⟨i, r, a.proc⟩ : Ml)).map (mk L)
  calls : b.calls = a.calls
  proc : b.proc = a.proc
  seg : Seg L a.next b.next (l.map fun i => ⟨i, r, a.proc⟩)
  tok : ∀ i, a.next ≤ i → i < b.next → xtok (tAt L i)
  nxt : ∀ i ∈ l, i + 1 = b.next ∨ tAt L (i + 1) = ⟨#[44]⟩

theorem namesF_some {L : List Tk} {k : Nat} (hk : k < L.length) (hn : isNameB (tAt L k) = true) : namesF L k = k :: (if tAt L (k + 1) = ⟨#[44]⟩ then namesF L (k + 2) else []) := by
  rw [namesF, if_pos hk, if_pos (by rw [tk_eq hk, ← tAt_in hk]; exact hn), isB_tAt (by decide)]
  simp only [decide_eq_true_iff]
theorem namesF_none {L : List Tk} {k : Nat} (hn : isNameB (tAt L k) = false) : namesF L k = [] := by
  rw [namesF]
  by_cases hk : k < L.length
  · rw [if_pos hk, tk_eq hk, ← tAt_in hk, hn]; rfl
  · rw [if_neg hk]

theorem nl_more (L : List Tk) (r : Nat) : ∀ (f : Nat) (a b : PSt) (k : Nat), moreP L r f a = some b → b.failed = false → a.next = k + 1 → k < L.length → isNameB (tAt L k) = true → ∃ l, namesF L k = k :: l ∧ NL L r a b l ∧ (k + 1 = b.next ∨ tAt L (k + 1) = ⟨#[44]⟩) := by
  intro f
  induction f with
  | zero => intro a b k h; rw [moreP] at h; cases h
  | succ f ih =>
    intro a b k h hb ek hk hn
    rw [moreP] at h
    split at h
    · rename_i hs
      have t := tok_step (by decide) hs
      have e44 : tAt L (k + 1) = ⟨#[44]⟩ := by rw [← ek]; exact t.is
      have hok : (a.step.takeName L r).failed = false := by
        cases f with
        | zero => rw [moreP] at h; cases h
        | succ f =>
          cases hfa : (a.step.takeName L r).failed
          · rfl
          · exfalso
            rw [moreP] at h
            have : (a.step.takeName L r).sees L ⟨#[44]⟩ = false := by unfold PSt.sees; rw [ahead_failed hfa]; decide
            rw [this] at h
            rw [← Option.some.inj h, hfa] at hb; cases hb
      have n := nam_take hok
      have en : a.step.next = k + 2 := by show a.next + 1 = _; omega
      have hk2 : k + 2 < L.length := by rw [← en]; exact n.lt
      have hn2 : isNameB (tAt L (k + 2)) = true := by rw [← en]; exact n.is
      obtain ⟨l, h1, h2, h3⟩ := ih _ b (k + 2) h hb (by rw [n.next, en]) hk2 hn2
      refine ⟨(k + 2) :: l, by rw [namesF_some hk hn, if_pos e44, h1], ⟨t.ok, ?_, ?_, ?_, ?_, ?_, ?_⟩, .inr e44⟩
      · rw [h2.names, n.names, n.proc, en, t.proc, t.names, List.append_assoc]; rfl
      · rw [h2.calls, n.calls, t.calls]
      · rw [h2.proc, n.proc, t.proc]
      · have s1 : Seg L a.next a.step.next [] := Seg.tok (by rw [t.is]; exact sign_name (by decide))
        have s2 : Seg L a.step.next (a.step.takeName L r).next [⟨k + 2, r, a.proc⟩] := by rw [n.next]; exact Seg.name n.is en.symm
        have s3 := h2.seg
        rw [n.proc, t.proc] at s3
        exact (s1.comp s2).comp s3
      · intro i g1 g2
        by_cases c1 : i = a.next
        · rw [c1, t.is]; exact .inr (by decide)
        · by_cases c2 : i = k + 2
          · rw [c2]; exact .inl hn2
          · exact h2.tok i (by rw [n.next, en]; omega) g2
      · intro i hi
        rcases List.mem_cons.1 hi with rfl | hi
        · exact h3
        · exact h2.nxt i hi
    · rename_i hs
      rw [← Option.some.inj h] at hb ⊢
      have hne : ¬ tAt L (k + 1) = ⟨#[44]⟩ := by rw [← ek]; exact sees_not hb (by simpa using hs)
      exact ⟨[], by rw [namesF_some hk hn, if_neg hne], ⟨hb, by simp, rfl, rfl, Seg.nil _ _, fun i h1 h2 => absurd h1 (by omega), fun _ h => (by cases h)⟩, .inl ek.symm⟩

theorem moreP_ok {L : List Tk} {r f : Nat} {a b : PSt} (h : moreP L r f a = some b) (hb : b.failed = false) : a.failed = false := by
  cases f with
  | zero => rw [moreP] at h; cases h
  | succ f =>
    cases hfa : a.failed
    · rfl
    · rw [moreP] at h
      have : a.sees L ⟨#[44]⟩ = false := by unfold PSt.sees; rw [ahead_failed hfa]; decide
      rw [this] at h
      rw [← Option.some.inj h, hfa] at hb; cases hb

theorem nl_names {L : List Tk} {r f : Nat} {a b : PSt} (h : moreP L r f (a.takeName L r) = some b) (hb : b.failed = false) : NL L r a b (namesF L a.next) := by
  have n := nam_take (moreP_ok h hb)
  obtain ⟨l, h1, h2, h3⟩ := nl_more L r f _ b a.next h hb n.next n.lt n.is
  rw [h1]
  refine ⟨n.ok, ?_, by rw [h2.calls, n.calls], by rw [h2.proc, n.proc], ?_, ?_, ?_⟩
  · rw [h2.names, n.names, n.proc, List.append_assoc]; rfl
  · have s2 : Seg L a.next (a.takeName L r).next [⟨a.next, r, a.proc⟩] := by rw [n.next]; exact Seg.name n.is rfl
    have s3 := h2.seg
    rw [n.proc] at s3
    exact s2.comp s3
  · intro i g1 g2
    by_cases c1 : i = a.next
    · rw [c1]; exact .inl n.is
    · exact h2.tok i (by rw [n.next]; omega) g2
  · intro i hi
    rcases List.mem_cons.1 hi with rfl | hi
    · exact h3
    · exact h2.nxt i hi

/-- A procedure as it stands: its token, its number, its block's names and calls, its end. -/
structure PQ where
  m : Nat
  pr : Int
  B : List Ml
  C : List Ca
  z : Nat
def PQ.ms (L : List Tk) (q : PQ) : List Ml := ⟨q.m + 1, 2, q.pr⟩ :: ((paramsB L (q.m + 1)).map (fun i => ⟨i, 3, q.pr⟩) ++ q.B)

structure PI (L : List Tk) (q : PQ) : Prop where
  proc : tAt L q.m = ⟨#[112, 114, 111, 99]⟩
  seg : Seg L q.m q.z (q.ms L)
  kw : ∀ i, q.m < i → i < q.z → NK (tAt L i)
  cs : CallsOf L (q.ms L) q.C
  body : ∀ x ∈ q.B, BR L x ∧ x.pr = q.pr ∧ q.m < x.i ∧ x.i < q.z

theorem nm_proc {L : List Tk} {f : Nat} {a b : PSt} (h : procedureP L f a = some b) (hb : b.failed = false) : ∃ q : PQ, a.failed = false ∧ q.m = a.next ∧ q.z = b.next ∧ q.pr = wrap64 (a.proc + 1) ∧ b.proc = q.pr ∧ b.names = a.names ++ (q.ms L).map (mk L) ∧ b.calls = a.calls ++ q.C.map (mkc L) ∧ PI L q := by
  unfold procedureP at h
  obtain ⟨e, h1, h2⟩ := bindS h
  obtain ⟨⟨M, C, bd, _⟩, _⟩ := (sb_blocks L f).1 _ _ h2 hb
  have t5 := tok_leave (by decide) bd.ok
  generalize ha1 : ({ a.take L ⟨#[112, 114, 111, 99]⟩ with proc := wrap64 ((a.take L ⟨#[112, 114, 111, 99]⟩).proc + 1) } : PSt) = a1 at h1
  have key : ∃ l, NL L 3 (enterP L (a1.takeName L 2) ⟨#[40]⟩) e l ∧ l = namesF L (enterP L (a1.takeName L 2) ⟨#[40]⟩).next := by
    split at h1
    · rename_i hs
      have e1 := Option.some.inj h1
      have hs' := sees_is (by decide) hs
      rw [← e1]
      refine ⟨[], ⟨hs'.1, by simp, rfl, rfl, Seg.nil _ _, fun i h1 h2 => absurd h1 (by omega), fun _ h => (by cases h)⟩, ?_⟩
      rw [namesF_none]
      rw [hs'.2.2]; exact sign_name (by decide)
    · exact ⟨_, nl_names h1 t5.ok, rfl⟩
  obtain ⟨l, nl, hl⟩ := key
  have t3 := tok_enter (by decide) nl.ok
  have n2 := nam_take t3.ok
  have ok1 : (a.take L ⟨#[112, 114, 111, 99]⟩).failed = false := by have := n2.ok; rw [← ha1] at this; exact this
  have t1 := tok_take (by decide) ok1
  have x1 : a1.next = a.next + 1 := by rw [← ha1]; exact t1.next
  have x1n : a1.names = a.names := by rw [← ha1]; exact t1.names
  have x1c : a1.calls = a.calls := by rw [← ha1]; exact t1.calls
  have x1p : a1.proc = wrap64 (a.proc + 1) := by rw [← ha1]; show wrap64 ((a.take L ⟨#[112, 114, 111, 99]⟩).proc + 1) = _; rw [t1.proc]
  have x3 : (enterP L (a1.takeName L 2) ⟨#[40]⟩).next = a.next + 3 := by rw [t3.next, n2.next, x1]
  have p3 : (enterP L (a1.takeName L 2) ⟨#[40]⟩).proc = wrap64 (a.proc + 1) := by rw [t3.proc, n2.proc, x1p]
  have p5 : (leaveP L e ⟨#[41]⟩).proc = wrap64 (a.proc + 1) := by rw [t5.proc, nl.proc, p3]
  rw [x3] at hl
  have hpar : paramsB L (a.next + 1) = l := hl.symm
  have nexts : a.next + 3 ≤ e.next := by have := nl.seg.le; omega
  have nexts2 : (leaveP L e ⟨#[41]⟩).next = e.next + 1 := t5.next
  have nexts3 := bd.seg.le
  refine ⟨⟨a.next, wrap64 (a.proc + 1), M, C, b.next⟩, t1.ok, rfl, rfl, rfl, ?_, ?_, ?_, ?_⟩
  · show b.proc = wrap64 (a.proc + 1)
    rw [bd.proc, p5]
  · unfold PQ.ms
    show _ = _ ++ List.map (mk L) (⟨a.next + 1, 2, wrap64 (a.proc + 1)⟩ :: ((paramsB L (a.next + 1)).map (fun i => ⟨i, 3, wrap64 (a.proc + 1)⟩) ++ M))
    rw [bd.names, t5.names, nl.names, p3, t3.names, n2.names, x1p, x1, x1n, hpar, List.map_cons, List.map_append]
    simp only [List.append_assoc, List.cons_append, List.nil_append]
  · show b.calls = a.calls ++ C.map (mkc L)
    rw [bd.calls, t5.calls, nl.calls, t3.calls, n2.calls, x1c]
  · have s1 : Seg L a.next a1.next [] := by rw [x1]; exact Seg.tok (by rw [t1.is]; exact kw_name (by decide))
    have s2 : Seg L a1.next (a1.takeName L 2).next [⟨a.next + 1, 2, wrap64 (a.proc + 1)⟩] := by rw [n2.next]; exact Seg.name n2.is x1.symm
    have s3 : Seg L (a1.takeName L 2).next (enterP L (a1.takeName L 2) ⟨#[40]⟩).next [] := by rw [t3.next]; exact Seg.tok (by rw [t3.is]; exact sign_name (by decide))
    have s4 := nl.seg
    rw [p3] at s4
    have s5 : Seg L e.next (leaveP L e ⟨#[41]⟩).next [] := by rw [t5.next]; exact Seg.tok (by rw [t5.is]; exact sign_name (by decide))
    have sall := ((((s1.comp s2).comp s3).comp s4).comp s5).comp bd.seg
    simp only [List.append_nil, List.nil_append, List.cons_append] at sall
    refine ⟨t1.is, ?_, ?_, ?_, ?_⟩
    · unfold PQ.ms
      show Seg L a.next b.next (⟨a.next + 1, 2, wrap64 (a.proc + 1)⟩ :: ((paramsB L (a.next + 1)).map (fun i => ⟨i, 3, wrap64 (a.proc + 1)⟩) ++ M))
      rw [hpar]; exact sall
    · intro i h1 h2
      have h1 : a.next < i := h1
      have h2 : i < b.next := h2
      by_cases c1 : i = a.next + 1
      · rw [c1, ← x1]; exact name_nk n2.is
      by_cases c2 : i = a.next + 2
      · have : (a1.takeName L 2).next = a.next + 2 := by rw [n2.next, x1]
        rw [c2, ← this, t3.is]; exact ⟨by decide, by decide, by decide, by decide⟩
      by_cases c3 : i < e.next
      · exact xtok_nk (nl.tok i (by omega) c3)
      by_cases c4 : i = e.next
      · rw [c4, t5.is]; exact ⟨by decide, by decide, by decide, by decide⟩
      · exact bd.kw i (by omega) h2
    · have c0 : CallsOf L (⟨a.next + 1, 2, wrap64 (a.proc + 1)⟩ :: (l.map fun i => (⟨i, 3, wrap64 (a.proc + 1)⟩ : Ml))) [] := CallsOf.none (fun x hx => by
        rcases List.mem_cons.1 hx with rfl | hx
        · show ¬ 2 = 6
          decide
        · obtain ⟨i, _, rfl⟩ := List.mem_map.1 hx
          show ¬ 3 = 6
          decide)
      have s6 : Seg L a.next (leaveP L e ⟨#[41]⟩).next (⟨a.next + 1, 2, wrap64 (a.proc + 1)⟩ :: (l.map fun i => (⟨i, 3, wrap64 (a.proc + 1)⟩ : Ml))) := by
        have := (((s1.comp s2).comp s3).comp s4).comp s5
        simp only [List.append_nil, List.nil_append, List.cons_append] at this
        exact this
      have := c0.comp bd.cs s6 bd.seg
      unfold PQ.ms
      show CallsOf L (⟨a.next + 1, 2, wrap64 (a.proc + 1)⟩ :: ((paramsB L (a.next + 1)).map (fun i => ⟨i, 3, wrap64 (a.proc + 1)⟩) ++ M)) C
      rw [hpar]; exact this
    · intro x hx
      have r := bd.role x hx
      have i := bd.seg.inn x hx
      exact ⟨r.1, by rw [r.2, p5], by show a.next < x.i; omega, i.2.1⟩

/-- Procedures one behind the other, their numbers too. -/
def Chain (L : List Tk) : List PQ → Nat → Int → Nat → Int → Prop
  | [], s, p, z, p' => s = z ∧ p = p'
  | q :: Q, s, p, z, p' => q.m = s ∧ q.pr = p + 1 ∧ PI L q ∧ Chain L Q q.z q.pr z p'

theorem nm_procs {L : List Tk} (hL : L.length ≤ 500) : ∀ (f : Nat) (a b : PSt), procsP L f a = some b → b.failed = false → -1 ≤ a.proc → a.proc ≤ a.next → ∃ Q, Chain L Q a.next a.proc b.next b.proc ∧ a.failed = false ∧ b.names = a.names ++ (Q.flatMap (PQ.ms L)).map (mk L) ∧ b.calls = a.calls ++ (Q.flatMap PQ.C).map (mkc L) := by
  intro f
  induction f with
  | zero => intro a b h; rw [procsP] at h; cases h
  | succ f ih =>
    intro a b h hb h1 h2
    rw [procsP] at h
    split at h
    · rename_i hs
      obtain ⟨c, k1, k2⟩ := bindS h
      have okc : c.failed = false := by
        cases f with
        | zero => rw [procsP] at k2; cases k2
        | succ f =>
          cases hfa : c.failed
          · rfl
          · rw [procsP] at k2
            have : c.sees L ⟨#[112, 114, 111, 99]⟩ = false := by unfold PSt.sees; rw [ahead_failed hfa]; decide
            rw [this] at k2
            rw [← Option.some.inj k2, hfa] at hb; cases hb
      obtain ⟨q, g1, g2, g3, g4, g5, g6, g7, g8⟩ := nm_proc k1 okc
      have hlt := (sees_lt (by decide) hs).1
      have ew : wrap64 (a.proc + 1) = a.proc + 1 := by unfold wrap64; omega
      have hin := g8.seg.inn ⟨q.m + 1, 2, q.pr⟩ (by unfold PQ.ms; exact List.mem_cons_self)
      obtain ⟨Q, i1, i2, i3, i4⟩ := ih c b k2 hb (by rw [g5, g4, ew]; omega) (by rw [g5, g4, ew, ← g3]; have := hin.2.1; have e : (⟨q.m + 1, 2, q.pr⟩ : Ml).i = q.m + 1 := rfl; omega)
      refine ⟨q :: Q, ⟨g2, by rw [g4, ew], g8, by rw [g3, ← g5]; exact i1⟩, g1, ?_, ?_⟩
      · rw [i3, g6, List.flatMap_cons, List.map_append, List.append_assoc]
      · rw [i4, g7, List.flatMap_cons, List.map_append, List.append_assoc]
    · rw [← Option.some.inj h] at hb ⊢
      exact ⟨[], ⟨rfl, rfl⟩, hb, by simp, by simp⟩

end RR
