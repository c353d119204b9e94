/- Both sides answer alike at a text that is too long, or cut wrongly, or read wrongly. -/
import Derived.Test.YtlpmkpjhdahfhaaGreatDoorLawB
import Derived.Test.YtlpmkpjhdahfhaaGreatDoorSim
namespace Go.Proofs.YtlpmkpjhdahfhaaGreatDoor
open Go.RowKit RR

theorem agree_long (s : ByteArray) (h : 500 < s.size) (h2 : s.size ≤ maxLen) : Agree s :=
  ⟨1, 0, fun w => m_check s w 1 0 (hide fun w => (m_long s w h h2).mono fun e w' ⟨a, b⟩ => ⟨a, b ▸ Below.refl _ _⟩),
    fun w => (r_check_err s w 1 0 (by decide) (by decide) (hide fun w => (r_read_long s w h h2).mono fun e w' ⟨a, b⟩ => ⟨a, b ▸ Below.refl _ _⟩)).mono fun e w' ⟨a, b⟩ => ⟨none, 0, 0, a, b⟩⟩

theorem agree_token (s : ByteArray) (h : s.size ≤ 500) (p : Nat) (hl : (lexF s 0).2 = some p) : Agree s :=
  ⟨2, p, fun w => m_check s w 2 p (hide fun w => m_token s w h p hl),
    fun w => (r_check_err s w 2 p (by decide) (by decide) (hide fun w => r_read_token s w h p hl)).mono fun e w' ⟨a, b⟩ => ⟨none, 0, 0, a, b⟩⟩

theorem agree_syntax (s : ByteArray) (h : s.size ≤ 500) (L : List Tk) (hl : lexF s 0 = (L, none)) (ht : ∀ k, (h : k < L.length) → L[k].t.size ≤ 500) (hL : L.length ≤ 500) (f : Nat) (σ : PSt) (hrun : programP L f start0 = some σ) (hf : σ.failed = true) (n : Nat) (hr : runM L s.size n startW 0 0 = some (.err (pAt L s.size σ.next))) : Agree s := by
  have he : endP L s.size σ = (3, ((pAt L s.size σ.next : Nat) : Int)) := by unfold endP; rw [if_pos hf]; rfl
  refine ⟨3, ((pAt L s.size σ.next : Nat) : Int), fun w => m_check s w _ _ (hide fun w => ?_), fun w => (r_check_err s w 3 _ (by decide) (by decide) (hide fun w => ?_)).mono fun e w' ⟨a, b⟩ => ⟨none, 0, 0, a, b⟩⟩
  · have := m_parse s w h L hl hL f σ hrun
    rw [he] at this
    exact this
  · refine (r_read s w h L hl ht hL n _ hr).mono ?_
    rintro e w' ⟨ao, cap, rfl, _, hb⟩
    exact ⟨rfl, hb⟩

end Go.Proofs.YtlpmkpjhdahfhaaGreatDoor
