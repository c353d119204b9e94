/- Contracts of the law: step, plays, Checks, out of 'both sides answer alike'. -/
import Derived.Test.YtmfcpbhdggonfaaGreatDoorQst
import Derived.Test.YtmfcpbhdggonfaaGreatDoorRefN
import Derived.Test.YtmfcpbhdggonfaaGreatDoorLawP
import Derived.Test.YtmfcpbhdggonfaaGreatDoorSim
import Derived.Test.YtmfcpbhdggonfaaGreatDoorNam
namespace Go.Proofs.YtmfcpbhdggonfaaGreatDoor
open Go.RowKit RR

/-- Both sides answer alike. -/
def Agree (s : ByteArray) : Prop := ∃ E P : Int, (∀ w, Calls Tryz.prog 30 #[.string s] w fun e w' => e = .returned (.tuple #[.int .i64 E, .int .i64 P]) ∧ Below w.heap.size w w') ∧
  (∀ w, Calls Tryz.prog 31 #[.string s] w fun e w' => ∃ b n c, e = .returned (.tuple #[.agg #[.slice b n c], .int .i64 E, .int .i64 P]) ∧ Below w.heap.size w w')

set_option maxRecDepth 100000 in
set_option maxHeartbeats 1000000 in
theorem l_step (a b : Int) (s t : ByteArray) (w : World) (h : Hid (Agree s)) :
    Calls Tryz.prog 16 #[.agg #[.int .i64 1, .int .i64 a, .int .i64 b, .string s, .string t]] w fun e w' => e = .returned (.bool true) ∧ Below w.heap.size w w' := by
  obtain ⟨E, P, h1, h2⟩ := h.out
  have H1 := hide h1
  have H2 := hide h2
  clear h h1 h2
  have hx0 := Below.refl (w.heap.size + 1) (w.alloc (.cells #[.int .i64 1, .int .i64 a, .int .i64 b, .string s, .string t] 27))
  go_enter Tryz.func16, Tryz.ntmps16
  go_wp2_with fail
  refine (H1.out _).mono ?_
  rintro e w1 ⟨rfl, hb1⟩
  have c3 := (hb1.cell (p := ⟨w.heap.size, 3, none⟩) (by simp))
  simp at c3
  have hbel : Below w.heap.size w w1 := ((Below.refl _ _).alloc (Nat.le_refl _) _).trans (hb1.mono (by simp))
  have hz : w.heap.size < w1.heap.size := by have := hb1.size; simp at this; omega
  clear hb1
  go_wp2_with fail
  refine (H2.out _).mono ?_
  rintro e w2 ⟨q, n, c, rfl, hb2⟩
  have hbel2 := hbel.trans (hb2.mono hbel.size)
  have e1 : (E == E) = true := by simp
  have e2 : (P == P) = true := by simp
  go_wp2_with fail
  go_ret
  exact ⟨rfl, hbel2.alloc hbel2.size _⟩

end Go.Proofs.YtmfcpbhdggonfaaGreatDoor

/- Contract of the law Checks, out of 'both sides answer alike'. -/
namespace Go.Proofs.YtmfcpbhdggonfaaGreatDoor
open Go.RowKit RR

set_option maxRecDepth 100000 in
set_option maxHeartbeats 1000000 in
theorem l_Checks (ao : Option Addr) (cap : Nat) (l : List OpV) (w : World) (hl : l.length ≤ 9223372036854775807) (hi0 : OpSl w ao l) (ha : Hid (∀ k, (h : k < l.length) → Agree l[k].s)) :
    Calls Tryz.prog 3 #[.slice ao l.length cap] w fun e w' => e = .returned (.bool true) ∧ Below w.heap.size w w' := by
  have hs : Hid (∀ k, (h : k < l.length) → (1 : Int) ≤ l[k].kind → l[k].kind ≤ 1 → ∀ w, Calls Tryz.prog 16 #[l[k].val] w fun e w' => e = .returned (.bool true) ∧ Below w.heap.size w w') := hide (fun k h h1 h2 w => by
    have e : l[k].kind = 1 := by omega
    unfold OpV.val
    rw [e]
    exact l_step _ _ _ _ _ (hide (ha.out k h)))
  go_enter Tryz.func3, Tryz.ntmps3
  go_wp2_with (first | (go_at_call 15; refine (l_plays _ _ l _ _ _ hl hi0 hs).mono ?_; rintro e w' ⟨rfl, hb⟩))
  go_ret
  exact ⟨rfl, hb⟩

end Go.Proofs.YtmfcpbhdggonfaaGreatDoor

/- Both sides answer alike at a text that is too long, or cut wrongly, or read wrongly. -/
namespace Go.Proofs.YtmfcpbhdggonfaaGreatDoor
open Go.RowKit RR

theorem agree_long (s : ByteArray) (h : 500 < s.size) (h2 : s.size ≤ maxLen) : Agree s :=
  ⟨1, 0, fun w => m_check s w 1 0 (hide fun w => m_long s w h h2),
    fun w => (r_check_err s w 1 0 (by decide) (by decide) (hide fun w => (r_read_long s w h h2).mono fun e w' ⟨a, b⟩ => ⟨a, b ▸ Below.refl _ _⟩)).mono fun e w' ⟨a, b⟩ => ⟨none, 0, 0, a, b⟩⟩

theorem agree_token (s : ByteArray) (h : s.size ≤ 500) (p : Nat) (hl : (lexF s 0).2 = some p) : Agree s :=
  ⟨2, p, fun w => m_check s w 2 p (hide fun w => m_token s w h p hl),
    fun w => (r_check_err s w 2 p (by decide) (by decide) (hide fun w => r_read_token s w h p hl)).mono fun e w' ⟨a, b⟩ => ⟨none, 0, 0, a, b⟩⟩

theorem agree_syntax (s : ByteArray) (h : s.size ≤ 500) (L : List Tk) (hl : lexF s 0 = (L, none)) (ht : ∀ k, (h : k < L.length) → L[k].t.size ≤ 500) (hL : L.length ≤ 500) (f : Nat) (σ : PSt) (hrun : programP L f start0 = some σ) (hf : σ.failed = true) (n : Nat) (hr : runM L s.size n startW 0 0 = some (.err (pAt L s.size σ.next))) : Agree s := by
  have he : endP L s.size σ = (3, ((pAt L s.size σ.next : Nat) : Int)) := by unfold endP; rw [if_pos hf]; rfl
  refine ⟨3, ((pAt L s.size σ.next : Nat) : Int), fun w => m_check s w _ _ (hide fun w => ?_), fun w => (r_check_err s w 3 _ (by decide) (by decide) (hide fun w => ?_)).mono fun e w' ⟨a, b⟩ => ⟨none, 0, 0, a, b⟩⟩
  · have := m_parse s w h L hl hL f σ hrun
    rw [he] at this
    exact this
  · refine (r_read s w h L hl ht hL n _ hr).mono ?_
    rintro e w' ⟨ao, cap, rfl, _, hb⟩
    exact ⟨rfl, hb⟩

end Go.Proofs.YtmfcpbhdggonfaaGreatDoor

/- Both sides answer alike at every text. -/
namespace Go.Proofs.YtmfcpbhdggonfaaGreatDoor
open Go.RowKit RR

theorem agree_ok (s : ByteArray) (h : s.size ≤ 500) (L : List Tk) (hl : lexF s 0 = (L, none)) (ht : ∀ k, (h : k < L.length) → L[k].t.size ≤ 500) (hL : L.length ≤ 500) (hM : Mono L) (f : Nat) (σ : PSt) (hrun : programP L f start0 = some σ) (hf : σ.failed = false) (hnext : σ.next = L.length) (n : Nat) (hr : runM L s.size n startW 0 0 = some .ok) : Agree s := by
  obtain ⟨h1, h2, h3, h4⟩ := read_ok hM hL hrun hf hnext
  have he : endP L s.size σ = namesCheck L := by unfold endP; rw [if_neg (by rw [hf]; decide)]; exact h1
  refine ⟨(namesCheck L).1, (namesCheck L).2, fun w => m_check s w _ _ (hide fun w => ?_), fun w => ?_⟩
  · have := m_parse s w h L hl hL f σ hrun
    rw [he] at this
    exact this
  · refine (r_check_ok s w h L hl ht hL h4 n hr h2 h3).mono ?_
    rintro e w' ⟨b, o, cap, rfl, _, hb⟩
    exact ⟨some ⟨b, o, none⟩, L.length, cap, rfl, hb⟩

theorem agree (s : ByteArray) (hs : s.size ≤ maxLen) : Agree s := by
  by_cases h : 500 < s.size
  · exact agree_long s h hs
  have h5 : s.size ≤ 500 := by omega
  cases hl2 : (lexF s 0).2 with
  | some p => exact agree_token s h5 p hl2
  | none =>
    obtain ⟨L, hL⟩ : ∃ L, L = (lexF s 0).1 := ⟨_, rfl⟩
    have hl : lexF s 0 = (L, none) := by rw [hL, ← hl2]
    have hlen : L.length ≤ 500 := by have := lexF_len s 0; rw [← hL] at this; omega
    have ht : ∀ k, (h : k < L.length) → L[k].t.size ≤ 500 := fun k hk => by
      have := ((lexF_places s 0).1 L[k] (by rw [← hL]; exact List.getElem_mem _)).2
      omega
    have hN : NoNm L := by rw [hL]; exact noNm_lex s
    have hM : Mono L := by rw [hL]; exact mono_lex s
    obtain ⟨f, σ, hrun, hc⟩ := program_tt (len := s.size) hlen hN start0 rfl rfl rfl
    by_cases hf : σ.failed = true
    · rw [if_pos hf] at hc
      obtain ⟨n, hr⟩ := hc
      exact agree_syntax s h5 L hl ht hlen f σ hrun hf n hr
    · rw [if_neg hf] at hc
      obtain ⟨⟨n, hr⟩, hnext⟩ := hc
      exact agree_ok s h5 L hl ht hlen hM f σ hrun (by simpa using hf) hnext n hr

end Go.Proofs.YtmfcpbhdggonfaaGreatDoor
