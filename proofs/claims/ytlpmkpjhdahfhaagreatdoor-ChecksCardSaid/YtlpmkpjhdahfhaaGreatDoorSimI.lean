/- Of a text that was cut into tokens: no token is a symbol for names. Plain functions. No Go here. -/
import Derived.Test.YtlpmkpjhdahfhaaGreatDoorSimH
import Derived.Test.YtlpmkpjhdahfhaaGreatDoorLex
namespace RR
open Go Go.RowKit

/-- A token begins with a small letter or is a sign. -/
def TokOk (t : ByteArray) : Prop := (∃ h : 0 < t.size, isLetterB t[0] = true) ∨ memB signs t = true

theorem lexF_tok (s : ByteArray) (i : Nat) : ∀ k ∈ (lexF s i).1, TokOk k.t := by
  induction hn : s.size - i using Nat.strongRecOn generalizing i with
  | ind n ih =>
    by_cases h : i < s.size
    · cases hb : blankB s[i]
      · cases ho : okAt s i h
        · rw [lexF_bad h hb ho]; intro k hk; cases hk
        · rw [lexF_ok h hb ho]
          have hg := endAt_gt s i h
          intro k hk
          rcases List.mem_cons.1 hk with rfl | hk
          · unfold okAt at ho
            rw [Bool.or_eq_true] at ho
            rcases ho with ho | ho
            · rw [Bool.and_eq_true] at ho
              left
              have hz : 0 < (s.extract i (endAt s i h)).size := by rw [ext_size s i _ (by omega) hg.2]; omega
              exact ⟨hz, by rw [ext_first s i _ hg.1 hg.2 hz]; exact ho.1⟩
            · exact .inr ho
          · exact ih (s.size - endAt s i h) (by omega) (endAt s i h) rfl k hk
      · rw [lexF_blank h hb]
        exact ih (s.size - (i + 1)) (by omega) (i + 1) rfl
    · rw [lexF_out h]; intro k hk; cases hk

theorem noNm_of {L : List Tk} (h : ∀ k ∈ L, TokOk k.t) : NoNm L := fun i e => by
  by_cases hi : i < L.length
  · rw [tAt_in hi] at e
    rcases h L[i] (List.getElem_mem hi) with ⟨h0, h1⟩ | h1
    · have : ∀ (t : ByteArray), t = ⟨#[78, 65, 77, 69]⟩ → (h0 : 0 < t.size) → isLetterB t[0] = true → False := fun t et h0 h1 => by
        subst et
        have h2 : isLetterB 78 = true := h1
        exact absurd h2 (by decide)
      exact this _ e h0 h1
    · rw [e] at h1
      exact absurd h1 (by decide)
  · rw [tAt_out hi] at e
    exact absurd e (by decide)

theorem noNm_lex (s : ByteArray) : NoNm (lexF s 0).1 := noNm_of (lexF_tok s 0)

end RR
