/- How many contexts a schedule has: contracts of Contexts, of the reference and of the program. -/
import Derived.Test.YtmfcpbhdggonfaaGreatDoorMgAW
namespace Go.Proofs.YtmfcpbhdggonfaaGreatDoor
open Go.RowKit

def atB (s : ByteArray) (k : Nat) : UInt8 := if h : k < s.size then s[k] else 0
theorem atB_in {s : ByteArray} {k : Nat} (h : k < s.size) : atB s k = s[k] := by unfold atB; rw [dif_pos h]
def lastB (s : ByteArray) : Nat → Int
  | 0 => -1
  | k + 1 => thr (atB s k)
def cntB (s : ByteArray) : Nat → Nat
  | 0 => 0
  | k + 1 => cntB s k + (if thr (atB s k) = lastB s k then 0 else 1)
theorem cntB_le (s : ByteArray) (k : Nat) : cntB s k ≤ k := by
  induction k with
  | zero => exact Nat.le_refl _
  | succ k ih => rw [cntB]; split <;> omega
/-- How many contexts, and the error. -/
def ctxN (s : ByteArray) : Int × Int := if 200 < s.size then (0, 1) else if (∀ j, j < s.size → 0 ≤ thr (atB s j)) then (((cntB s s.size : Nat) : Int), 0) else (0, 7)
theorem ctx_long {s : ByteArray} (h : 200 < s.size) : ctxN s = (0, 1) := by unfold ctxN; rw [if_pos h]
theorem ctx_ok {s : ByteArray} (h : s.size ≤ 200) (k : ∀ j, j < s.size → 0 ≤ thr (atB s j)) : ctxN s = (((cntB s s.size : Nat) : Int), 0) := by unfold ctxN; rw [if_neg (by omega), if_pos k]
theorem ctx_bad {s : ByteArray} (h : s.size ≤ 200) {j : Nat} (hj : j < s.size) (k : ¬ 0 ≤ thr (atB s j)) : ctxN s = (0, 7) := by unfold ctxN; rw [if_neg (by omega), if_neg (fun h => k (h j hj))]

theorem ret_intsC {a b : Int} {p : Int × Int} (h : p = (a, b)) : Ending.returned (.tuple #[.int .i64 a, .int .i64 b]) = .returned (.tuple #[.int .i64 p.1, .int .i64 p.2]) := by rw [h]

theorem cnt_round {s : ByteArray} {k : Nat} {n i : Int} (_h : s.size ≤ 200) (hlt : k < s.size) (hok : ∀ j, j < k → 0 ≤ thr (atB s j)) (h0 : 0 ≤ thr s[k]) (hn : n = ((cntB s k + (if thr (atB s k) = lastB s k then 0 else 1) : Nat) : Int)) (hi : Value.int .i64 i = .int .i64 ((k + 1 : Nat) : Int)) :
    (∃ m : Nat, Value.int .i64 n = .int .i64 (cntB s m) ∧ Value.int .i64 i = .int .i64 m ∧ m ≤ s.size ∧ ∀ j, j < m → 0 ≤ thr (atB s j)) ∧ s.size - (intOf (Value.int .i64 i)).toNat < s.size - (intOf (Value.int .i64 k)).toNat := by
  refine ⟨⟨k + 1, by rw [hn]; rfl, hi, hlt, fun j hj => ?_⟩, ?_⟩
  · by_cases e : j = k
    · subst e; rw [atB_in hlt]; exact h0
    · exact hok j (by omega)
  · rw [hi]; simp [intOf]; omega

theorem cnt_round2 {s : ByteArray} {k : Nat} {n i : Int} (_h : s.size ≤ 200) (hlt : k < s.size) (hok : ∀ j, j < k → 0 ≤ thr (atB s j)) (h0 : 0 ≤ thr s[k]) (hn : n = ((cntB s k + (if thr (atB s k) = lastB s k then 0 else 1) : Nat) : Int)) (hi : Value.int .i64 i = .int .i64 ((k + 1 : Nat) : Int)) :
    (∃ m : Nat, Value.int .i64 n = .int .i64 (cntB s m) ∧ Value.int .i64 (thr s[k]) = .int .i64 (lastB s m) ∧ Value.int .i64 i = .int .i64 m ∧ m ≤ s.size ∧ ∀ j, j < m → 0 ≤ thr (atB s j)) ∧ s.size - (intOf (Value.int .i64 i)).toNat < s.size - (intOf (Value.int .i64 k)).toNat := by
  refine ⟨⟨k + 1, by rw [hn]; rfl, by show _ = Value.int .i64 (thr (atB s k)); rw [atB_in hlt], hi, hlt, fun j hj => ?_⟩, ?_⟩
  · by_cases e : j = k
    · subst e; rw [atB_in hlt]; exact h0
    · exact hok j (by omega)
  · rw [hi]; simp [intOf]; omega

set_option maxRecDepth 100000 in
set_option maxHeartbeats 2000000 in
theorem st_Contexts (s : ByteArray) (w : World) (hm : s.size ≤ maxLen) :
    Calls Tryz.prog 62 #[.string s] w fun e w' => e = .returned (.tuple #[.int .i64 (ctxN s).1, .int .i64 (ctxN s).2]) ∧ w' = w := by
  have hmm : s.size ≤ 9223372036854775807 := by unfold maxLen at hm; omega
  clear hm
  go_enter Tryz.func62, Tryz.ntmps62
  by_cases h : 200 < s.size
  · have HC := hide (ctx_long h)
    go_wp2
    go_ret2
    exact ⟨ret_intsC HC.out, rfl⟩
  · have h2 : s.size ≤ 200 := by omega
    clear h
    go_wp2
    go_loop [4, 5, 6] (fun v l u => ∃ k : Nat, v = .int .i64 (cntB s k) ∧ l = .int .i64 (lastB s k) ∧ u = .int .i64 k ∧ k ≤ s.size ∧ ∀ j, j < k → 0 ≤ thr (atB s j)) (fun _ _ u => s.size - (intOf u).toNat)
    case atStart => exact ⟨0, rfl, rfl, rfl, Nat.zero_le _, fun j hj => absurd hj (Nat.not_lt_zero _)⟩
    case round =>
      obtain ⟨k, rfl, rfl, rfl, hk, hok⟩ := hrel
      have HK := hide hok
      clear hok
      have hcl := cntB_le s k
      by_cases hlt : k < s.size
      · have hlt' : (k : Int) < s.size := by omega
        by_cases h0 : 0 ≤ thr s[k]
        · have hr : ∀ w, Calls Tryz.prog 95 #[.int .u8 s[k].toNat] w fun e w' => e = .returned (.tuple #[.int .i64 (thr s[k]), .bool (capB s[k]), .bool true]) ∧ w' = w := fun w => by
            have := st_Read s[k] w
            rw [if_pos h0, decide_eq_true h0] at this
            exact this
          by_cases h4 : thr s[k] = lastB s k
          · have h5 : (thr s[k] != lastB s k) = false := by rw [h4]; simp
            have HF := hide h4
            clear h4
            go_wp2_with (first | (go_at_call 95; refine (hr _).mono ?_; rintro e w' ⟨rfl, rfl⟩))
            refine cnt_round2 h2 hlt HK.out h0 ?_ (by go_num)
            rw [if_pos (by rw [atB_in hlt]; exact HF.out)]
            simp
          · have h5 : (thr s[k] != lastB s k) = true := by simpa using h4
            have HF := hide h4
            clear h4
            go_wp2_with (first | (go_at_call 95; refine (hr _).mono ?_; rintro e w' ⟨rfl, rfl⟩))
            refine cnt_round2 h2 hlt HK.out h0 ?_ (by go_num)
            rw [if_neg (by rw [atB_in hlt]; exact HF.out)]
            push_cast; rfl
        · have hr : ∀ w, Calls Tryz.prog 95 #[.int .u8 s[k].toNat] w fun e w' => e = .returned (.tuple #[.int .i64 0, .bool (capB s[k]), .bool false]) ∧ w' = w := fun w => by
            have := st_Read s[k] w
            rw [if_neg h0, decide_eq_false h0] at this
            exact this
          have HB := hide (ctx_bad h2 hlt (by rw [atB_in hlt]; exact h0))
          clear h0
          go_wp2_with (first | (go_at_call 95; refine (hr _).mono ?_; rintro e w' ⟨rfl, rfl⟩))
          go_ret2
          exact ⟨ret_intsC HB.out, rfl⟩
      · have hks : k = s.size := by omega
        subst hks
        have HC := hide (ctx_ok h2 HK.out)
        go_wp2
        go_ret2
        exact ⟨ret_intsC HC.out, rfl⟩

set_option maxRecDepth 100000 in
theorem m_Contexts (s : ByteArray) (w : World) (hm : s.size ≤ maxLen) :
    Calls Tryz.prog 34 #[.string s] w fun e w' => e = .returned (.tuple #[.int .i64 (ctxN s).1, .int .i64 (ctxN s).2]) ∧ w' = w := by
  go_enter Tryz.func34, Tryz.ntmps34
  go_wp2_with (first | (go_at_call 62; refine (st_Contexts _ _ hm).mono ?_; rintro e w' ⟨rfl, rfl⟩))
  go_ret2
  exact ⟨rfl, rfl⟩

end Go.Proofs.YtmfcpbhdggonfaaGreatDoor
