/- Of a text that was cut into tokens: their places, their sizes; what a reading that did not fail is worth. Plain functions. No Go here. -/
import Derived.Test.YtlpmkpjhdahfhaaGreatDoorNamI
namespace RR
open Go Go.RowKit

theorem lexF_places (s : ByteArray) (i : Nat) : (∀ k ∈ (lexF s i).1, i ≤ k.p ∧ k.t.size ≤ s.size) ∧ (lexF s i).1.Pairwise fun a b => a.p < b.p := by
  induction hn : s.size - i using Nat.strongRecOn generalizing i with
  | ind n ih =>
    by_cases h : i < s.size
    · cases hb : blankB s[i]
      · cases ho : okAt s i h
        · rw [lexF_bad h hb ho]; exact ⟨fun k hk => (by cases hk), List.Pairwise.nil⟩
        · rw [lexF_ok h hb ho]
          have hg := endAt_gt s i h
          obtain ⟨i1, i2⟩ := ih (s.size - endAt s i h) (by omega) (endAt s i h) rfl
          refine ⟨fun k hk => ?_, List.pairwise_cons.2 ⟨fun k hk => ?_, i2⟩⟩
          · rcases List.mem_cons.1 hk with rfl | hk
            · refine ⟨Nat.le_refl _, ?_⟩
              show (s.extract i (endAt s i h)).size ≤ s.size
              rw [ext_size s i _ (by omega) hg.2]; omega
            · have := i1 k hk; exact ⟨by omega, this.2⟩
          · have := (i1 k hk).1
            show i < k.p
            omega
      · rw [lexF_blank h hb]
        obtain ⟨i1, i2⟩ := ih (s.size - (i + 1)) (by omega) (i + 1) rfl
        exact ⟨fun k hk => by have := i1 k hk; exact ⟨by omega, this.2⟩, i2⟩
    · rw [lexF_out h]; exact ⟨fun k hk => (by cases hk), List.Pairwise.nil⟩

theorem mono_lex (s : ByteArray) : Mono (lexF s 0).1 := fun i j hij hj => by
  have := List.pairwise_iff_getElem.1 (lexF_places s 0).2 i j (by omega) hj hij
  unfold pl
  rw [tk_eq hj, tk_eq (by omega)]; exact this

/-- A reading that did not fail: what its names and calls come to; what stands in the tokens. -/
theorem read_ok {L : List Tk} (hM : Mono L) (hL : L.length ≤ 500) {f : Nat} {b : PSt} (h : programP L f ⟨0, 0, -1, false, [], []⟩ = some b) (hb : b.failed = false) (hend : b.next = L.length) : outCheck b.names b.calls = namesCheck L ∧ ProcOk L ∧ CallOk L ∧ L ≠ [] := by
  obtain ⟨S, K, T, Q, p, M, C, d, h1, h2⟩ := nm_program hL h hb hend
  rw [h1, h2]
  refine ⟨names_eq hM d, d.procOk, d.callOk, fun e => ?_⟩
  have := d.ne
  rw [e] at this
  exact absurd this (by decide)

end RR
