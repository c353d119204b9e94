/- Both sides answer alike at every text. -/
import Derived.Test.YtlpmkpjhdahfhaaGreatDoorAgrA
import Derived.Test.YtlpmkpjhdahfhaaGreatDoorNam
namespace Go.Proofs.YtlpmkpjhdahfhaaGreatDoor
open Go.RowKit RR

theorem agree_ok (s : ByteArray) (h : s.size ≤ 500) (L : List Tk) (hl : lexF s 0 = (L, none)) (ht : ∀ k, (h : k < L.length) → L[k].t.size ≤ 500) (hL : L.length ≤ 500) (hM : Mono L) (f : Nat) (σ : PSt) (hrun : programP L f start0 = some σ) (hf : σ.failed = false) (hnext : σ.next = L.length) (n : Nat) (hr : runM L s.size n startW 0 0 = some .ok) : Agree s := by
  obtain ⟨h1, h2, h3, h4⟩ := read_ok hM hL hrun hf hnext
  have he : endP L s.size σ = namesCheck L := by unfold endP; rw [if_neg (by rw [hf]; decide)]; exact h1
  refine ⟨(namesCheck L).1, (namesCheck L).2, fun w => m_check s w _ _ (hide fun w => ?_), fun w => ?_⟩
  · have := m_parse s w h L hl hL f σ hrun
    rw [he] at this
    exact this
  · refine (r_check_ok s w h L hl ht hL h4 n hr h2 h3).mono ?_
    rintro e w' ⟨b, o, cap, rfl, _, hb⟩
    exact ⟨some ⟨b, o, none⟩, L.length, cap, rfl, hb⟩

theorem agree (s : ByteArray) (hs : s.size ≤ maxLen) : Agree s := by
  by_cases h : 500 < s.size
  · exact agree_long s h hs
  have h5 : s.size ≤ 500 := by omega
  cases hl2 : (lexF s 0).2 with
  | some p => exact agree_token s h5 p hl2
  | none =>
    obtain ⟨L, hL⟩ : ∃ L, L = (lexF s 0).1 := ⟨_, rfl⟩
    have hl : lexF s 0 = (L, none) := by rw [hL, ← hl2]
    have hlen : L.length ≤ 500 := by have := lexF_len s 0; rw [← hL] at this; omega
    have ht : ∀ k, (h : k < L.length) → L[k].t.size ≤ 500 := fun k hk => by
      have := ((lexF_places s 0).1 L[k] (by rw [← hL]; exact List.getElem_mem _)).2
      omega
    have hN : NoNm L := by rw [hL]; exact noNm_lex s
    have hM : Mono L := by rw [hL]; exact mono_lex s
    obtain ⟨f, σ, hrun, hc⟩ := program_tt (len := s.size) hlen hN start0 rfl rfl rfl
    by_cases hf : σ.failed = true
    · rw [if_pos hf] at hc
      obtain ⟨n, hr⟩ := hc
      exact agree_syntax s h5 L hl ht hlen f σ hrun hf n hr
    · rw [if_neg hf] at hc
      obtain ⟨⟨n, hr⟩, hnext⟩ := hc
      exact agree_ok s h5 L hl ht hlen hM f σ hrun (by simpa using hf) hnext n hr

end Go.Proofs.YtlpmkpjhdahfhaaGreatDoor
