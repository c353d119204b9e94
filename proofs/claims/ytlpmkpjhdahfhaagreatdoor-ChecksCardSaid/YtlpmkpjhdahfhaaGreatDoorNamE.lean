/- Which names and calls the parser lists: the program whole. Plain functions. No Go here. -/
import Derived.Test.YtlpmkpjhdahfhaaGreatDoorNamD
namespace RR
open Go Go.RowKit

theorem wordF_skip {L : List Tk} {t : ByteArray} (h0 : ¬ t = ⟨#[]⟩) (b : Nat) : ∀ n a, b = a + n → (∀ i, a ≤ i → i < b → ¬ tAt L i = t) → wordF L t a = wordF L t b := by
  intro n
  induction n with
  | zero => intro a e _; rw [e]; rfl
  | succ n ih =>
    intro a e h
    rw [← ih (a + 1) (by omega) (fun i h1 h2 => h i (by omega) h2), wordF]
    by_cases hk : a < L.length
    · rw [if_pos hk, isB_tAt h0, decide_eq_false (h a (Nat.le_refl _) (by omega))]; rfl
    · rw [if_neg hk, wordF, if_neg (by omega)]
theorem wordF_hit {L : List Tk} {t : ByteArray} {a : Nat} (h0 : ¬ t = ⟨#[]⟩) (h : tAt L a = t) : wordF L t a = namesF L (a + 1) := by
  have hk : a < L.length := by
    by_cases hk : a < L.length
    · exact hk
    · rw [tAt_out hk] at h; exact absurd h.symm h0
  rw [wordF, if_pos hk, isB_tAt h0, decide_eq_true h]; rfl
theorem wordF_end {L : List Tk} {t : ByteArray} {a : Nat} (h : ¬ a < L.length) : wordF L t a = [] := by rw [wordF, if_neg h]
theorem procsF_skip {L : List Tk} (b : Nat) : ∀ n a, b = a + n → (∀ i, a ≤ i → i < b → ¬ tAt L i = ⟨#[112, 114, 111, 99]⟩) → procsF L a = procsF L b := by
  intro n
  induction n with
  | zero => intro a e _; rw [e]; rfl
  | succ n ih =>
    intro a e h
    rw [← ih (a + 1) (by omega) (fun i h1 h2 => h i (by omega) h2), procsF]
    by_cases hk : a < L.length
    · rw [if_pos hk, isB_tAt (by decide), decide_eq_false (h a (Nat.le_refl _) (by omega))]; rfl
    · rw [if_neg hk, procsF, if_neg (by omega)]
theorem procsF_hit {L : List Tk} {a : Nat} (h : tAt L a = ⟨#[112, 114, 111, 99]⟩) : procsF L a = (a + 1) :: procsF L (a + 1) := by
  have hk : a < L.length := by
    by_cases hk : a < L.length
    · exact hk
    · rw [tAt_out hk] at h; exact absurd h (by decide)
  rw [procsF, if_pos hk, isB_tAt (by decide), decide_eq_true h]; rfl
theorem procsF_end {L : List Tk} {a : Nat} (h : ¬ a < L.length) : procsF L a = [] := by rw [procsF, if_neg h]

theorem home_eq {L : List Tk} {m : Nat} (h : tAt L m = ⟨#[112, 114, 111, 99]⟩) : ∀ n i, i = m + 1 + n → (∀ j, m < j → j < i → ¬ tAt L j = ⟨#[112, 114, 111, 99]⟩) → homeB L i = m + 1 := by
  intro n
  induction n with
  | zero => intro i e _; rw [e]; show homeB L (m + 1) = _; rw [homeB, if_pos]; unfold kProc; rw [isB_tAt (by decide)]; exact decide_eq_true h
  | succ n ih =>
    intro i e hj
    obtain ⟨k, rfl⟩ : ∃ k, i = k + 1 := ⟨i - 1, by omega⟩
    rw [homeB, if_neg, ih k (by omega) (fun j h1 h2 => hj j h1 (by omega))]
    unfold kProc
    rw [isB_tAt (by decide), decide_eq_false (hj k (by omega) (by omega))]; decide

theorem nm_list {L : List Tk} {t : ByteArray} {r f : Nat} {a b : PSt} (h0 : ¬ t = ⟨#[]⟩) (hn : isNameB t = false) (h : listP L f t r a = some b) (hb : b.failed = false) : ∃ l, a.failed = false ∧ b.names = a.names ++ (l.map fun i => (⟨i, r, a.proc⟩ : Ml)).map (mk L) ∧ b.calls = a.calls ∧ b.proc = a.proc ∧ Seg L a.next b.next (l.map fun i => ⟨i, r, a.proc⟩) ∧ (∀ i, a.next < i → i < b.next → NK (tAt L i)) ∧ ((tAt L a.next = t ∧ l = namesF L (a.next + 1) ∧ a.next < b.next) ∨ (¬ tAt L a.next = t ∧ l = [] ∧ a.next = b.next)) := by
  unfold listP at h
  split at h
  · rename_i hs
    obtain ⟨c, h1, h2⟩ := Option.map_eq_some_iff.1 h
    rw [← h2] at hb ⊢
    have t3 := tok_take (by decide) hb
    have nl := nl_names h1 t3.ok
    have t1 := tok_step h0 hs
    have e1 : a.step.next = a.next + 1 := rfl
    have l1 := nl.seg.le
    refine ⟨namesF L (a.next + 1), t1.ok, ?_, ?_, ?_, ?_, ?_, .inl ⟨t1.is, rfl, by rw [t3.next]; omega⟩⟩
    · rw [t3.names, nl.names]; rfl
    · rw [t3.calls, nl.calls]; rfl
    · rw [t3.proc, nl.proc]; rfl
    · have s1 : Seg L a.next a.step.next [] := Seg.tok (by rw [t1.is]; exact hn)
      have s3 : Seg L c.next (c.take L ⟨#[59]⟩).next [] := by rw [t3.next]; exact Seg.tok (by rw [t3.is]; exact sign_name (by decide))
      have := (s1.comp nl.seg).comp s3
      simp only [List.nil_append, List.append_nil] at this
      exact this
    · intro i g1 g2
      by_cases c1 : i = c.next
      · rw [c1, t3.is]; exact ⟨by decide, by decide, by decide, by decide⟩
      · exact xtok_nk (nl.tok i (by omega) (by rw [t3.next] at g2; omega))
  · rename_i hs
    rw [← Option.some.inj h] at hb ⊢
    exact ⟨[], hb, by simp, rfl, rfl, Seg.nil _ _, fun i h1 h2 => absurd h1 (by omega), .inr ⟨sees_not hb (by simpa using hs), rfl, rfl⟩⟩

theorem chain_seg {L : List Tk} : ∀ (Q : List PQ) {s z : Nat} {p p' : Int}, Chain L Q s p z p' → Seg L s z (Q.flatMap (PQ.ms L)) ∧ CallsOf L (Q.flatMap (PQ.ms L)) (Q.flatMap PQ.C)
  | [], s, z, p, p', h => by
    obtain ⟨rfl, _⟩ := h
    exact ⟨Seg.nil _ _, CallsOf.none (fun _ h => (by cases h))⟩
  | q :: Q, s, z, p, p', ⟨h1, h2, h3, h4⟩ => by
    have := chain_seg Q h4
    rw [List.flatMap_cons, List.flatMap_cons]
    have hs := h3.seg
    rw [h1] at hs
    exact ⟨hs.comp this.1, h3.cs.comp this.2 hs this.1⟩
theorem chain_procs {L : List Tk} : ∀ (Q : List PQ) {s z : Nat} {p p' : Int}, Chain L Q s p z p' → procsF L s = Q.map (fun q => q.m + 1) ++ procsF L z
  | [], s, z, p, p', h => by
    obtain ⟨rfl, _⟩ := h
    rfl
  | q :: Q, s, z, p, p', ⟨h1, h2, h3, h4⟩ => by
    have := chain_procs Q h4
    have hz := (h3.seg.inn ⟨q.m + 1, 2, q.pr⟩ (by unfold PQ.ms; exact List.mem_cons_self)).2.1
    have hz : q.m + 1 < q.z := hz
    rw [← h1, procsF_hit h3.proc, procsF_skip q.z (q.z - (q.m + 1)) (q.m + 1) (by omega) (fun i h1 h2 => (h3.kw i (by omega) h2).2.2.1), this]
    rfl
theorem chain_toks {L : List Tk} : ∀ (Q : List PQ) {s z : Nat} {p p' : Int}, Chain L Q s p z p' → ∀ i, s ≤ i → i < z → tAt L i = ⟨#[112, 114, 111, 99]⟩ ∨ NK (tAt L i)
  | [], s, z, p, p', h => fun i h1 h2 => by
    obtain ⟨rfl, _⟩ := h
    omega
  | q :: Q, s, z, p, p', ⟨h1, h2, h3, h4⟩ => fun i g1 g2 => by
    by_cases c1 : i = q.m
    · rw [c1]; exact .inl h3.proc
    · by_cases c2 : i < q.z
      · exact .inr (h3.kw i (by omega) c2)
      · exact chain_toks Q h4 i (by omega) g2
theorem chain_mem {L : List Tk} : ∀ (Q : List PQ) {s z : Nat} {p p' : Int}, Chain L Q s p z p' → p ≤ p' ∧ Q.Pairwise (fun a b => a.pr < b.pr) ∧ ∀ q ∈ Q, PI L q ∧ p < q.pr ∧ q.pr ≤ p'
  | [], s, z, p, p', h => by
    obtain ⟨_, rfl⟩ := h
    exact ⟨Int.le_refl _, List.Pairwise.nil, fun _ h => (by cases h)⟩
  | q :: Q, s, z, p, p', ⟨h1, h2, h3, h4⟩ => by
    obtain ⟨i1, i2, i3⟩ := chain_mem Q h4
    refine ⟨by omega, List.pairwise_cons.2 ⟨fun x hx => (i3 x hx).2.1, i2⟩, fun x hx => ?_⟩
    rcases List.mem_cons.1 hx with rfl | hx
    · exact ⟨h3, by omega, i1⟩
    · have := i3 x hx; exact ⟨this.1, by omega, this.2.2⟩

/-- How a program's names stand. -/
structure Dec (L : List Tk) (S K T : List Nat) (Q : List PQ) (pl : Int) (M : List Ml) (C : List Ca) : Prop where
  eM : M = S.map (fun i => ⟨i, 0, -1⟩) ++ (K.map (fun i => ⟨i, 1, -1⟩) ++ (Q.flatMap (PQ.ms L) ++ T.map (fun i => ⟨i, 7, pl⟩)))
  seg : Seg L 0 L.length M
  cs : CallsOf L M C
  wS : wordB L ⟨#[115, 104, 97, 114, 101, 100]⟩ = S
  wK : wordB L ⟨#[108, 111, 99, 107, 115]⟩ = K
  wP : procsB L = Q.map (fun q => q.m + 1)
  wT : wordB L ⟨#[116, 104, 114, 101, 97, 100, 115]⟩ = T
  prs : Q.Pairwise fun a b => a.pr < b.pr
  prp : ∀ q ∈ Q, 0 ≤ q.pr
  qs : ∀ q ∈ Q, ∀ x ∈ q.B, BR L x ∧ x.pr = q.pr ∧ homeB L x.i = q.m + 1
  thr : ∀ i ∈ T, NAR L i ∧ ¬ tAt L (i + 1) = ⟨#[40]⟩
  ne : 0 < L.length

theorem nm_program {L : List Tk} (hL : L.length ≤ 500) {f : Nat} {b : PSt} (h : programP L f ⟨0, 0, -1, false, [], []⟩ = some b) (hb : b.failed = false) (hend : b.next = L.length) : ∃ S K T Q pl M C, Dec L S K T Q pl M C ∧ b.names = M.map (mk L) ∧ b.calls = C.map (mkc L) := by
  unfold programP at h
  obtain ⟨a1, h1, h⟩ := bindS h
  obtain ⟨a2, h2, h⟩ := bindS h
  obtain ⟨a3, h3, h⟩ := bindS h
  obtain ⟨a4, h4, h⟩ := bindS h
  obtain ⟨a6, h6, h7⟩ := Option.map_eq_some_iff.1 h
  have eb : takeEndP L (a6.take L ⟨#[59]⟩) = a6.take L ⟨#[59]⟩ := by
    unfold takeEndP
    by_cases hx : (a6.take L ⟨#[59]⟩).next < L.length
    · exfalso
      unfold takeEndP at h7
      rw [if_pos hx] at h7
      rw [← h7] at hb; cases hb
    · rw [if_neg hx]
  rw [eb] at h7
  rw [← h7] at hb hend ⊢
  have t7 := tok_take (by decide) hb
  have nl := nl_names h6 t7.ok
  have t5 := tok_take (by decide) nl.ok
  -- the chain of procedures: all of them
  have hq : ∃ Q, Chain L Q a2.next a2.proc a4.next a4.proc ∧ a2.failed = false ∧ a4.names = a2.names ++ (Q.flatMap (PQ.ms L)).map (mk L) ∧ a4.calls = a2.calls ++ (Q.flatMap PQ.C).map (mkc L) := by
    have ok3 : a3.failed = false := by
      cases f with
      | zero => rw [procsP] at h4; cases h4
      | succ f =>
        cases hfa : a3.failed
        · rfl
        · rw [procsP] at h4
          have : a3.sees L ⟨#[112, 114, 111, 99]⟩ = false := by unfold PSt.sees; rw [ahead_failed hfa]; decide
          rw [this] at h4
          have := t5.ok
          rw [← Option.some.inj h4, hfa] at this; cases this
    obtain ⟨q, g1, g2, g3, g4, g5, g6, g7, g8⟩ := nm_proc h3 ok3
    obtain ⟨l2, u1, u2, u3, u4, u5, u6, u7⟩ := nm_list (by decide) (kw_name (by decide)) h2 g1
    obtain ⟨l1, v1, v2, v3, v4, v5, v6, v7⟩ := nm_list (by decide) (kw_name (by decide)) h1 u1
    have p2 : a2.proc = -1 := by rw [u4, v4]
    have ew : wrap64 (a2.proc + 1) = 0 := by rw [p2]; unfold wrap64; omega
    obtain ⟨Q, i1, i2, i3, i4⟩ := nm_procs hL f a3 a4 h4 t5.ok (by rw [g5, g4, ew]; decide) (by rw [g5, g4, ew]; omega)
    refine ⟨q :: Q, ⟨g2, by rw [g4, ew, p2]; decide, g8, by rw [g3, ← g5]; exact i1⟩, g1, ?_, ?_⟩
    · rw [i3, g6, List.flatMap_cons, List.map_append, List.append_assoc]
    · rw [i4, g7, List.flatMap_cons, List.map_append, List.append_assoc]
  obtain ⟨Q, q1, q2, q3, q4⟩ := hq
  obtain ⟨K, u1, u2, u3, u4, u5, u6, u7⟩ := nm_list (by decide) (kw_name (by decide)) h2 q2
  obtain ⟨S, v1, v2, v3, v4, v5, v6, v7⟩ := nm_list (by decide) (kw_name (by decide)) h1 u1
  have z : (⟨0, 0, -1, false, [], []⟩ : PSt).next = 0 := rfl
  rw [z] at v5 v6 v7
  obtain ⟨cseg, ccs⟩ := chain_seg Q q1
  have cpr := chain_procs Q q1
  have ctk := chain_toks Q q1
  obtain ⟨_, cpw, cme⟩ := chain_mem Q q1
  have p1 : a1.proc = -1 := v4
  have p5 : (a4.take L ⟨#[116, 104, 114, 101, 97, 100, 115]⟩).proc = a4.proc := t5.proc
  have x5 : (a4.take L ⟨#[116, 104, 114, 101, 97, 100, 115]⟩).next = a4.next + 1 := t5.next
  have x7 : a6.next + 1 = L.length := by rw [← t7.next]; exact hend
  have l56 := nl.seg.le
  have lq := cseg.le
  have l1 := v5.le
  have l2 := u5.le
  have sT : Seg L a4.next L.length ((namesF L (a4.next + 1)).map fun i => ⟨i, 7, a4.proc⟩) := by
    have s1 : Seg L a4.next (a4.take L ⟨#[116, 104, 114, 101, 97, 100, 115]⟩).next [] := by rw [x5]; exact Seg.tok (by rw [t5.is]; exact kw_name (by decide))
    have s2 := nl.seg
    rw [p5, x5] at s2
    have s3 : Seg L a6.next L.length [] := by rw [← x7]; exact Seg.tok (by rw [t7.is]; exact sign_name (by decide))
    rw [x5] at s1
    have := (s1.comp s2).comp s3
    simp only [List.nil_append, List.append_nil] at this
    exact this
  have kT : ∀ i, a4.next < i → i < L.length → NK (tAt L i) := fun i g1 g2 => by
    by_cases c : i = a6.next
    · rw [c, t7.is]; exact ⟨by decide, by decide, by decide, by decide⟩
    · exact xtok_nk (nl.tok i (by omega) (by omega))
  have no : ∀ {t : ByteArray}, (¬ t = ⟨#[116, 104, 114, 101, 97, 100, 115]⟩) → (¬ t = ⟨#[112, 114, 111, 99]⟩) → (∀ u, NK u → ¬ u = t) → ∀ i, a2.next ≤ i → i < L.length → ¬ tAt L i = t := fun {t} e1 e2 e3 i g1 g2 => by
    by_cases c1 : i < a4.next
    · rcases ctk i g1 c1 with c | c
      · rw [c]; exact fun e => e2 e.symm
      · exact e3 _ c
    · by_cases c2 : i = a4.next
      · rw [c2, t5.is]; exact fun e => e1 e.symm
      · exact e3 _ (kT i (by omega) g2)
  have no2 : ∀ {t : ByteArray}, (¬ t = ⟨#[108, 111, 99, 107, 115]⟩) → (∀ u, NK u → ¬ u = t) → ∀ i, a1.next ≤ i → i < a2.next → ¬ tAt L i = t := fun {t} e1 e3 i g1 g2 => by
    by_cases c : i = a1.next
    · rcases u7 with ⟨w, _, _⟩ | ⟨_, _, w⟩
      · rw [c, w]; exact fun e => e1 e.symm
      · omega
    · exact e3 _ (u6 i (by omega) g2)
  have no1 : ∀ {t : ByteArray}, (¬ t = ⟨#[115, 104, 97, 114, 101, 100]⟩) → (∀ u, NK u → ¬ u = t) → ∀ i, 0 ≤ i → i < a1.next → ¬ tAt L i = t := fun {t} e1 e3 i g1 g2 => by
    by_cases c : i = 0
    · rcases v7 with ⟨w, _, _⟩ | ⟨_, _, w⟩
      · rw [c, w]; exact fun e => e1 e.symm
      · omega
    · exact e3 _ (v6 i (by omega) g2)
  refine ⟨S, K, namesF L (a4.next + 1), Q, a4.proc, _, Q.flatMap PQ.C, ⟨rfl, ?_, ?_, ?_, ?_, ?_, ?_, cpw, (fun q hq => by have := (cme q hq).2.1; rw [u4, p1] at this; omega), ?_, ?_, by omega⟩, ?_, ?_⟩
  · rw [p1] at u5
    exact v5.comp (u5.comp (cseg.comp sT))
  · rw [p1] at u5
    have n1 : CallsOf L (S.map fun i => (⟨i, 0, -1⟩ : Ml)) [] := CallsOf.none (fun x hx => by obtain ⟨i, _, rfl⟩ := List.mem_map.1 hx; show ¬ 0 = 6; decide)
    have n2 : CallsOf L (K.map fun i => (⟨i, 1, -1⟩ : Ml)) [] := CallsOf.none (fun x hx => by obtain ⟨i, _, rfl⟩ := List.mem_map.1 hx; show ¬ 1 = 6; decide)
    have n3 : CallsOf L ((namesF L (a4.next + 1)).map fun i => (⟨i, 7, a4.proc⟩ : Ml)) [] := CallsOf.none (fun x hx => by obtain ⟨i, _, rfl⟩ := List.mem_map.1 hx; show ¬ 7 = 6; decide)
    have := n1.comp (n2.comp (ccs.comp n3 cseg sT) u5 (cseg.comp sT)) v5 (u5.comp (cseg.comp sT))
    simp only [List.nil_append, List.append_nil] at this
    exact this
  · unfold wordB
    rcases v7 with ⟨w1, w2, _⟩ | ⟨w1, w2, w3⟩
    · rw [wordF_hit (by decide) w1, w2]
    · rw [wordF_skip (by decide) a1.next a1.next 0 (by omega) (fun i g1 g2 => absurd g2 (by omega)), wordF_skip (by decide) a2.next (a2.next - a1.next) a1.next (by omega) (no2 (by decide) (fun u h => h.1)), wordF_skip (by decide) L.length (L.length - a2.next) a2.next (by omega) (no (by decide) (by decide) (fun u h => h.1)), wordF_end (Nat.lt_irrefl _), w2]
  · unfold wordB
    rw [wordF_skip (by decide) a1.next a1.next 0 (by omega) (no1 (by decide) (fun u h => h.2.1))]
    rcases u7 with ⟨w1, w2, _⟩ | ⟨w1, w2, w3⟩
    · rw [wordF_hit (by decide) w1, w2]
    · rw [w3, wordF_skip (by decide) L.length (L.length - a2.next) a2.next (by omega) (no (by decide) (by decide) (fun u h => h.2.1)), wordF_end (Nat.lt_irrefl _), w2]
  · unfold procsB
    rw [procsF_skip a1.next a1.next 0 (by omega) (no1 (by decide) (fun u h => h.2.2.1)), procsF_skip a2.next (a2.next - a1.next) a1.next (by omega) (no2 (by decide) (fun u h => h.2.2.1)), cpr, procsF_skip L.length (L.length - a4.next) a4.next (by omega) ?_, procsF_end (Nat.lt_irrefl _), List.append_nil]
    intro i g1 g2
    by_cases c2 : i = a4.next
    · rw [c2, t5.is]; decide
    · exact (kT i (by omega) g2).2.2.1
  · unfold wordB
    rw [wordF_skip (by decide) a1.next a1.next 0 (by omega) (no1 (by decide) (fun u h => h.2.2.2)), wordF_skip (by decide) a2.next (a2.next - a1.next) a1.next (by omega) (no2 (by decide) (fun u h => h.2.2.2)), wordF_skip (by decide) a4.next (a4.next - a2.next) a2.next (by omega) ?_, wordF_hit (by decide) t5.is]
    intro i g1 g2
    rcases ctk i g1 g2 with c | c
    · rw [c]; decide
    · exact c.2.2.2
  · intro q hq x hx
    obtain ⟨pi, _, _⟩ := cme q hq
    have := pi.body x hx
    exact ⟨this.1, this.2.1, home_eq pi.proc (x.i - (q.m + 1)) x.i (by omega) (fun j g1 g2 => (pi.kw j g1 (by omega)).2.2.1)⟩
  · intro i hi
    have hin := sT.inn ⟨i, 7, a4.proc⟩ (List.mem_map.2 ⟨i, hi, rfl⟩)
    have g1 : a4.next ≤ i := hin.1
    have hlt := (namesF_lt L (a4.next + 1) i hi).1
    have hin2 : i < L.length := hin.2.1
    refine ⟨?_, ?_⟩
    · by_cases c : i = a4.next + 1
      · rw [c]; exact nar_of t5.is (by decide) (by decide)
      · have hi6 : i < a6.next := by
          by_cases c6 : i = a6.next
          · exfalso
            have hn : isNameB (tAt L i) = true := hin.2.2
            rw [c6, t7.is, sign_name (by decide)] at hn; cases hn
          · omega
        have := nar_x (nl.tok (i - 1) (by omega) (by omega))
        rw [show i - 1 + 1 = i by omega] at this; exact this
    · have hx := nl.nxt i (by rw [x5]; exact hi)
      rcases hx with hx | hx
      · rw [hx, t7.is]; decide
      · rw [hx]; decide
  · rw [t7.names, nl.names, t5.names, q3, u2, v2, p1, p5, x5]
    simp only [List.map_append, List.append_assoc, List.nil_append]
  · rw [t7.calls, nl.calls, t5.calls, q4, u3, v3]
    rfl

end RR
