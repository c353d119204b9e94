/- Which thread a byte of a schedule lets make a step: contracts of the reference's Thread and of the program's steps.Read. -/
import Derived.Test.YtmfcpbhdggonfaaGreatDoorHide
namespace Go.Proofs.YtmfcpbhdggonfaaGreatDoor
open Go.RowKit

/-- The thread, -1 if it is none's. -/
def thr (c : UInt8) : Int := if 97 ≤ c.toNat ∧ c.toNat ≤ 99 then (c.toNat : Int) - 97 else if 65 ≤ c.toNat ∧ c.toNat ≤ 67 then (c.toNat : Int) - 65 else -1
def capB (c : UInt8) : Bool := decide (65 ≤ c.toNat) && decide (c.toNat ≤ 67)

/-- None of the first k letters. -/
def NotL (c : UInt8) (k : Nat) : Prop := (1 ≤ k → c.toNat ≠ 97) ∧ (2 ≤ k → c.toNat ≠ 98) ∧ (3 ≤ k → c.toNat ≠ 99) ∧ (4 ≤ k → c.toNat ≠ 65) ∧ (5 ≤ k → c.toNat ≠ 66) ∧ (6 ≤ k → c.toNat ≠ 67)

theorem thr_at {c : UInt8} {n : Nat} (h : c.toNat = n) : thr c = (if 97 ≤ n ∧ n ≤ 99 then (n : Int) - 97 else if 65 ≤ n ∧ n ≤ 67 then (n : Int) - 65 else -1) ∧ capB c = (decide (65 ≤ n) && decide (n ≤ 67)) := by
  unfold thr capB; rw [h]; exact ⟨rfl, rfl⟩

theorem ret_two {a b : Int} {x y : Bool} (h : a = b) (k : x = y) : Ending.returned (.tuple #[.int .i64 a, .bool x]) = .returned (.tuple #[.int .i64 b, .bool y]) := by rw [h, k]

set_option maxRecDepth 100000 in
set_option maxHeartbeats 2000000 in
theorem r_Thread (c : UInt8) (w : World) :
    Calls Tryz.prog 63 #[.int .u8 c.toNat] w fun e w' => e = .returned (.tuple #[.int .i64 (thr c), .bool (capB c)]) ∧ w' = w := by
  go_enter Tryz.func63, Tryz.ntmps63
  go_wp2
  go_loop [4] (fun i => ∃ k : Nat, k ≤ 6 ∧ i = .int .i64 k ∧ NotL c k) (fun i => 6 - (intOf i).toNat)
  case atStart => exact ⟨0, Nat.zero_le _, rfl, by unfold NotL; omega⟩
  case round =>
    obtain ⟨k, hk, rfl, hn⟩ := hrel
    have HN := hide hn
    clear hn
    have hc : k = 0 ∨ k = 1 ∨ k = 2 ∨ k = 3 ∨ k = 4 ∨ k = 5 ∨ k = 6 := by omega
    rcases hc with rfl | rfl | rfl | rfl | rfl | rfl | rfl
    · go_wp2
      · rename_i h _
        have h2 : (((97 : Nat) : Int) == (c.toNat : Int)) = true := h
        have h3 : c.toNat = 97 := by have := beq_iff_eq.1 h2; omega
        have HT := hide (thr_at h3)
        go_ret2
        refine ⟨ret_two ?_ ?_, rfl⟩
        · rw [HT.out.1]; rfl
        · rw [HT.out.2]; rfl
      · rename_i h
        have h2 : (((97 : Nat) : Int) == (c.toNat : Int)) = false := h
        have h3 : ¬ c.toNat = 97 := fun e => by rw [e] at h2; simp at h2
        have hn := HN.out
        go_round
        case rel => exact ⟨1, by omega, rfl, by unfold NotL at hn ⊢; omega⟩
        case measure => simp [intOf]
    · go_wp2
      · rename_i h _
        have h2 : (((98 : Nat) : Int) == (c.toNat : Int)) = true := h
        have h3 : c.toNat = 98 := by have := beq_iff_eq.1 h2; omega
        have HT := hide (thr_at h3)
        go_ret2
        refine ⟨ret_two ?_ ?_, rfl⟩
        · rw [HT.out.1]; rfl
        · rw [HT.out.2]; rfl
      · rename_i h
        have h2 : (((98 : Nat) : Int) == (c.toNat : Int)) = false := h
        have h3 : ¬ c.toNat = 98 := fun e => by rw [e] at h2; simp at h2
        have hn := HN.out
        go_round
        case rel => exact ⟨2, by omega, rfl, by unfold NotL at hn ⊢; omega⟩
        case measure => simp [intOf]
    · go_wp2
      · rename_i h _
        have h2 : (((99 : Nat) : Int) == (c.toNat : Int)) = true := h
        have h3 : c.toNat = 99 := by have := beq_iff_eq.1 h2; omega
        have HT := hide (thr_at h3)
        go_ret2
        refine ⟨ret_two ?_ ?_, rfl⟩
        · rw [HT.out.1]; rfl
        · rw [HT.out.2]; rfl
      · rename_i h
        have h2 : (((99 : Nat) : Int) == (c.toNat : Int)) = false := h
        have h3 : ¬ c.toNat = 99 := fun e => by rw [e] at h2; simp at h2
        have hn := HN.out
        go_round
        case rel => exact ⟨3, by omega, rfl, by unfold NotL at hn ⊢; omega⟩
        case measure => simp [intOf]
    · go_wp2
      · rename_i h _
        have h2 : (((65 : Nat) : Int) == (c.toNat : Int)) = true := h
        have h3 : c.toNat = 65 := by have := beq_iff_eq.1 h2; omega
        have HT := hide (thr_at h3)
        go_ret2
        refine ⟨ret_two ?_ ?_, rfl⟩
        · rw [HT.out.1]; rfl
        · rw [HT.out.2]; rfl
      · rename_i h
        have h2 : (((65 : Nat) : Int) == (c.toNat : Int)) = false := h
        have h3 : ¬ c.toNat = 65 := fun e => by rw [e] at h2; simp at h2
        have hn := HN.out
        go_round
        case rel => exact ⟨4, by omega, rfl, by unfold NotL at hn ⊢; omega⟩
        case measure => simp [intOf]
    · go_wp2
      · rename_i h _
        have h2 : (((66 : Nat) : Int) == (c.toNat : Int)) = true := h
        have h3 : c.toNat = 66 := by have := beq_iff_eq.1 h2; omega
        have HT := hide (thr_at h3)
        go_ret2
        refine ⟨ret_two ?_ ?_, rfl⟩
        · rw [HT.out.1]; rfl
        · rw [HT.out.2]; rfl
      · rename_i h
        have h2 : (((66 : Nat) : Int) == (c.toNat : Int)) = false := h
        have h3 : ¬ c.toNat = 66 := fun e => by rw [e] at h2; simp at h2
        have hn := HN.out
        go_round
        case rel => exact ⟨5, by omega, rfl, by unfold NotL at hn ⊢; omega⟩
        case measure => simp [intOf]
    · go_wp2
      · rename_i h _
        have h2 : (((67 : Nat) : Int) == (c.toNat : Int)) = true := h
        have h3 : c.toNat = 67 := by have := beq_iff_eq.1 h2; omega
        have HT := hide (thr_at h3)
        go_ret2
        refine ⟨ret_two ?_ ?_, rfl⟩
        · rw [HT.out.1]; rfl
        · rw [HT.out.2]; rfl
      · rename_i h
        have h2 : (((67 : Nat) : Int) == (c.toNat : Int)) = false := h
        have h3 : ¬ c.toNat = 67 := fun e => by rw [e] at h2; simp at h2
        have hn := HN.out
        go_round
        case rel => exact ⟨6, by omega, rfl, by unfold NotL at hn ⊢; omega⟩
        case measure => simp [intOf]
    · go_wp2
      have hn := HN.out
      go_ret2
      refine ⟨ret_two ?_ ?_, rfl⟩
      · unfold NotL at hn; unfold thr; rw [if_neg (by omega), if_neg (by omega)]
      · unfold NotL at hn; unfold capB
        rw [Bool.eq_iff_iff]; simp; omega

theorem ret_three {a b : Int} {x y u v : Bool} (h : a = b) (k : x = y) (m : u = v) : Ending.returned (.tuple #[.int .i64 a, .bool x, .bool u]) = .returned (.tuple #[.int .i64 b, .bool y, .bool v]) := by rw [h, k, m]

set_option maxRecDepth 100000 in
set_option maxHeartbeats 2000000 in
theorem st_Read (c : UInt8) (w : World) :
    Calls Tryz.prog 95 #[.int .u8 c.toNat] w fun e w' => e = .returned (.tuple #[.int .i64 (if 0 ≤ thr c then thr c else 0), .bool (capB c), .bool (decide (0 ≤ thr c))]) ∧ w' = w := by
  have hlt := c.toNat_lt
  go_enter Tryz.func95, Tryz.ntmps95
  go_wp2
  all_goals
    go_ret3
    refine ⟨ret_three ?_ ?_ ?_, rfl⟩
  all_goals first
    | (unfold thr at *; split at * <;> first | omega | (split at * <;> omega))
    | (unfold capB; rw [Bool.eq_iff_iff]; simp; omega)
    | rfl

end Go.Proofs.YtmfcpbhdggonfaaGreatDoor
