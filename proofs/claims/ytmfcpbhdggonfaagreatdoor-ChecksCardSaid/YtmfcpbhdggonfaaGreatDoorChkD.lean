/- Contracts of the program's package check: too many, calls, the whole. -/
import Derived.Test.YtmfcpbhdggonfaaGreatDoorChkC
import Derived.Test.YtmfcpbhdggonfaaGreatDoorNames
namespace Go.Proofs.YtmfcpbhdggonfaaGreatDoor
open Go.RowKit RR

/-- The counts in memory. -/
def CtsAt (w : World) (B : Nat) (c : Cts) : Prop := w.heap[B]? = some (.cells #[.int .i64 c.sh, .int .i64 c.lo, .int .i64 c.pr, .int .i64 c.pa, .int .i64 c.th] 282 (0, 0))

theorem CtsAt.cells {w : World} {B : Nat} {c : Cts} (h : CtsAt w B c) : w.cell? ⟨B, 0, none⟩ = some (.int .i64 c.sh) ∧ w.cell? ⟨B, 1, none⟩ = some (.int .i64 c.lo) ∧ w.cell? ⟨B, 2, none⟩ = some (.int .i64 c.pr) ∧ w.cell? ⟨B, 3, none⟩ = some (.int .i64 c.pa) ∧ w.cell? ⟨B, 4, none⟩ = some (.int .i64 c.th) ∧ (∀ i, w.frozen? ⟨B, i, none⟩ = false) := by
  unfold CtsAt at h
  refine ⟨?_, ?_, ?_, ?_, ?_, fun i => ?_⟩ <;> simp [World.cell?, World.frozen?, h]

set_option maxRecDepth 100000 in
set_option maxHeartbeats 1000000 in
theorem c_tooMany (w : World) (B : Nat) (c : Cts) (h : CtsAt w B c) :
    Calls Tryz.prog 184 #[.pointer (some ⟨B, 0, none⟩)] w fun e w' => e = .returned (.bool c.too) ∧ w' = w := by
  obtain ⟨c0, c1, c2, c3, c4, _⟩ := h.cells
  by_cases h0 : 4 < c.sh
  · have HE : Hid (c.too = true) := by show _ = _; unfold Cts.too; simp; omega
    have g0 : (4 : Int) < c.sh := by omega
    have d0 : decide ((4 : Int) < c.sh) = true := decide_eq_true (by omega)
    go_enter Tryz.func184, Tryz.ntmps184
    go_wp2_with fail
    go_ret
    exact ⟨ret_bool (by rw [HE.out]), rfl⟩
  by_cases h1 : 3 < c.lo
  · have HE : Hid (c.too = true) := by show _ = _; unfold Cts.too; simp; omega
    have g0 : (c.sh : Int) ≤ 4 := by omega
    have d0 : decide ((4 : Int) < c.sh) = false := decide_eq_false (by omega)
    have g1 : (3 : Int) < c.lo := by omega
    have d1 : decide ((3 : Int) < c.lo) = true := decide_eq_true (by omega)
    go_enter Tryz.func184, Tryz.ntmps184
    go_wp2_with fail
    go_ret
    exact ⟨ret_bool (by rw [HE.out]), rfl⟩
  by_cases h2 : 4 < c.pr
  · have HE : Hid (c.too = true) := by show _ = _; unfold Cts.too; simp; omega
    have g0 : (c.sh : Int) ≤ 4 := by omega
    have d0 : decide ((4 : Int) < c.sh) = false := decide_eq_false (by omega)
    have g1 : (c.lo : Int) ≤ 3 := by omega
    have d1 : decide ((3 : Int) < c.lo) = false := decide_eq_false (by omega)
    have g2 : (4 : Int) < c.pr := by omega
    have d2 : decide ((4 : Int) < c.pr) = true := decide_eq_true (by omega)
    go_enter Tryz.func184, Tryz.ntmps184
    go_wp2_with fail
    go_ret
    exact ⟨ret_bool (by rw [HE.out]), rfl⟩
  by_cases h3 : 3 < c.pa
  · have HE : Hid (c.too = true) := by show _ = _; unfold Cts.too; simp; omega
    have g0 : (c.sh : Int) ≤ 4 := by omega
    have d0 : decide ((4 : Int) < c.sh) = false := decide_eq_false (by omega)
    have g1 : (c.lo : Int) ≤ 3 := by omega
    have d1 : decide ((3 : Int) < c.lo) = false := decide_eq_false (by omega)
    have g2 : (c.pr : Int) ≤ 4 := by omega
    have d2 : decide ((4 : Int) < c.pr) = false := decide_eq_false (by omega)
    have g3 : (3 : Int) < c.pa := by omega
    have d3 : decide ((3 : Int) < c.pa) = true := decide_eq_true (by omega)
    go_enter Tryz.func184, Tryz.ntmps184
    go_wp2_with fail
    go_ret
    exact ⟨ret_bool (by rw [HE.out]), rfl⟩
  by_cases h4 : 3 < c.th
  · have HE : Hid (c.too = true) := by show _ = _; unfold Cts.too; simp; omega
    have g0 : (c.sh : Int) ≤ 4 := by omega
    have d0 : decide ((4 : Int) < c.sh) = false := decide_eq_false (by omega)
    have g1 : (c.lo : Int) ≤ 3 := by omega
    have d1 : decide ((3 : Int) < c.lo) = false := decide_eq_false (by omega)
    have g2 : (c.pr : Int) ≤ 4 := by omega
    have d2 : decide ((4 : Int) < c.pr) = false := decide_eq_false (by omega)
    have g3 : (c.pa : Int) ≤ 3 := by omega
    have d3 : decide ((3 : Int) < c.pa) = false := decide_eq_false (by omega)
    have g4 : (3 : Int) < c.th := by omega
    have d4 : decide ((3 : Int) < c.th) = true := decide_eq_true (by omega)
    go_enter Tryz.func184, Tryz.ntmps184
    go_wp2_with fail
    go_ret
    exact ⟨ret_bool (by rw [HE.out]), rfl⟩
  have g0 : (c.sh : Int) ≤ 4 := by omega
  have d0 : decide ((4 : Int) < c.sh) = false := decide_eq_false (by omega)
  have g1 : (c.lo : Int) ≤ 3 := by omega
  have d1 : decide ((3 : Int) < c.lo) = false := decide_eq_false (by omega)
  have g2 : (c.pr : Int) ≤ 4 := by omega
  have d2 : decide ((4 : Int) < c.pr) = false := decide_eq_false (by omega)
  have g3 : (c.pa : Int) ≤ 3 := by omega
  have d3 : decide ((3 : Int) < c.pa) = false := decide_eq_false (by omega)
  have g4 : (c.th : Int) ≤ 3 := by omega
  have d4 : decide ((3 : Int) < c.th) = false := decide_eq_false (by omega)
  have HE : Hid (c.too = false) := by show _ = _; unfold Cts.too; simp; omega
  go_enter Tryz.func184, Tryz.ntmps184
  go_wp2_with fail
  go_ret
  exact ⟨ret_bool (by rw [HE.out]), rfl⟩

end Go.Proofs.YtmfcpbhdggonfaaGreatDoor
