/- The statement Deep, over what Play answers: the truth is handed on. -/
import Derived.Test.YtmfcpbhdggonfaaGreatDoorMgBC
namespace Go.Proofs.YtmfcpbhdggonfaaGreatDoor
open Go.RowKit RR

set_option maxRecDepth 100000 in
set_option maxHeartbeats 16000000 in
theorem k_Deep_false1 (n : Int) (w : World) (h0 : PlayR ⟨#[115, 104, 97, 114, 101, 100, 32, 120, 59, 32, 112, 114, 111, 99, 32, 112, 40, 118, 41, 32, 123, 32, 105, 102, 32, 40, 63, 41, 32, 123, 32, 120, 32, 61, 32, 112, 40, 118, 41, 59, 32, 114, 101, 116, 117, 114, 110, 32, 33, 120, 59, 32, 125, 32, 114, 101, 116, 117, 114, 110, 32, 116, 114, 117, 101, 59, 32, 125, 32, 116, 104, 114, 101, 97, 100, 115, 32, 112, 59]⟩ ⟨#[65, 97]⟩ ⟨#[48, 47, 47, 51, 49, 58, 48, 44, 50, 50, 58, 48]⟩ ⟨#[97, 65]⟩ false false 0 0) (h1 : PlayR ⟨#[115, 104, 97, 114, 101, 100, 32, 120, 59, 32, 112, 114, 111, 99, 32, 112, 40, 118, 41, 32, 123, 32, 105, 102, 32, 40, 63, 41, 32, 123, 32, 120, 32, 61, 32, 112, 40, 118, 41, 59, 32, 114, 101, 116, 117, 114, 110, 32, 33, 120, 59, 32, 125, 32, 114, 101, 116, 117, 114, 110, 32, 116, 114, 117, 101, 59, 32, 125, 32, 116, 104, 114, 101, 97, 100, 115, 32, 112, 59]⟩ ⟨#[65, 97, 97, 97]⟩ ⟨#[49, 47, 47, 52, 49, 58, 48]⟩ ⟨#[97]⟩ false false 0 0) (h2 : PlayR ⟨#[115, 104, 97, 114, 101, 100, 32, 120, 59, 32, 112, 114, 111, 99, 32, 112, 40, 118, 41, 32, 123, 32, 105, 102, 32, 40, 63, 41, 32, 123, 32, 120, 32, 61, 32, 112, 40, 118, 41, 59, 32, 114, 101, 116, 117, 114, 110, 32, 33, 120, 59, 32, 125, 32, 114, 101, 116, 117, 114, 110, 32, 116, 114, 117, 101, 59, 32, 125, 32, 116, 104, 114, 101, 97, 100, 115, 32, 112, 59]⟩ ⟨#[65, 97, 97, 97, 97]⟩ ⟨#[49, 47, 47]⟩ ⟨#[]⟩ false false 0 0) (h3 : PlayR ⟨#[115, 104, 97, 114, 101, 100, 32, 120, 59, 32, 112, 114, 111, 99, 32, 112, 40, 118, 41, 32, 123, 32, 105, 102, 32, 40, 63, 41, 32, 123, 32, 120, 32, 61, 32, 112, 40, 118, 41, 59, 32, 114, 101, 116, 117, 114, 110, 32, 33, 120, 59, 32, 125, 32, 114, 101, 116, 117, 114, 110, 32, 116, 114, 117, 101, 59, 32, 125, 32, 116, 104, 114, 101, 97, 100, 115, 32, 112, 59]⟩ ⟨#[65, 97, 65, 97, 65, 97, 65, 97]⟩ ⟨#[]⟩ ⟨#[]⟩ false false 8 7) (h4 : PlayR ⟨#[115, 104, 97, 114, 101, 100, 32, 120, 59, 32, 112, 114, 111, 99, 32, 112, 40, 118, 41, 32, 123, 32, 105, 102, 32, 40, 63, 41, 32, 123, 32, 120, 32, 61, 32, 112, 40, 118, 41, 59, 32, 114, 101, 116, 117, 114, 110, 32, 33, 120, 59, 32, 125, 32, 114, 101, 116, 117, 114, 110, 32, 116, 114, 117, 101, 59, 32, 125, 32, 116, 104, 114, 101, 97, 100, 115, 32, 112, 59]⟩ ⟨#[65, 97, 65, 97, 65, 97, 65]⟩ ⟨#[48, 47, 47, 51, 49, 58, 48, 44, 51, 49, 58, 48, 44, 51, 49, 58, 48, 44, 51, 49, 58, 48]⟩ ⟨#[]⟩ false false 0 0)
    (hpk : ∀ w, Calls Tryz.prog 18 #[.int .i64 n, .int .i64 3] w fun e w' => e = .returned (.int .i64 0) ∧ w' = w) :
    Calls Tryz.prog 14 #[.int .i64 n, .bool false] w fun e w' => e = .returned (.bool true) ∧ Below w.heap.size w w' := by
  have i22 := itoa_const 22 (by decide) ⟨#[50, 50]⟩ (by kernel_rfl)
  have i31 := itoa_const 31 (by decide) ⟨#[51, 49]⟩ (by kernel_rfl)
  have hcat := cat_lit
  have hlst := list_lit
  have hsiz := size_lit
  go_enter Tryz.func14, Tryz.ntmps14
  go_upto_region 6 with (go_at_call 18; refine (hpk _).mono ?_; rintro e w0 ⟨rfl, hw0⟩; subst hw0)
  generalize (⟨#[115, 104, 97, 114, 101, 100, 32, 120, 59, 32, 112, 114, 111, 99, 32, 112, 40, 118, 41, 32, 123, 32, 105, 102, 32, 40, 63, 41, 32, 123, 32, 120, 32, 61, 32, 112, 40, 118, 41, 59, 32, 114, 101, 116, 117, 114, 110, 32, 33, 120, 59, 32, 125, 32, 114, 101, 116, 117, 114, 110, 32, 116, 114, 117, 101, 59, 32, 125, 32, 116, 104, 114, 101, 97, 100, 115, 32, 112, 59]⟩ : ByteArray) = tx at *
  generalize (⟨#[115, 104, 97, 114, 101, 100, 32, 120, 59, 32, 112, 114, 111, 99, 32, 112, 40, 118, 41, 32, 123, 32, 105, 102, 32, 40, 63, 41, 32, 123, 32, 120, 32, 61, 32, 112, 40, 118, 41, 59]⟩ : ByteArray) = tx8
  go_wp2_with (first | (refine wp_loop_rounds 2 ?_) | (refine rounds_step2 ?_; intro _ _))
  refine (h0 _).mono ?_
  rintro e w1 ⟨rfl, hb1⟩
  have HB1 := hide hb1
  clear hb1
  go_wp2_with fail
  refine (i22 _).mono ?_
  rintro e w' ⟨rfl, rfl⟩
  go_wp2_with fail
  refine (i31 _).mono ?_
  rintro e w' ⟨rfl, rfl⟩
  go_wp2_with (first | (refine wp_loop_rounds 2 ?_) | (refine rounds_step2 ?_; intro _ _))
  refine (h1 _).mono ?_
  rintro e w2 ⟨rfl, hb2⟩
  have HB2 := hide (nextB HB1.out hb2)
  clear hb2
  go_wp2_with fail
  go_quiet (first | (go_at_call 28; refine Calls.quiet_of_same (k_digit1 _)) | (go_at_call 28; refine Calls.quiet_of_same (k_digit0 _)) | (go_at_call 25; refine Calls.quiet_of_same (k_begins _ _ _ (by decide) (by kernel_rfl))))
  go_wp2_with (first | (refine wp_loop_rounds 2 ?_) | (refine rounds_step2 ?_; intro _ _))
  refine (h2 _).mono ?_
  rintro e w3 ⟨rfl, hb3⟩
  have HB3 := hide (nextBd HB2.out hb3)
  clear hb3
  go_wp2_with fail
  refine (h3 _).mono ?_
  rintro e w4 ⟨rfl, hb4⟩
  have HB4 := hide (nextB HB3.out hb4)
  have a0 : w4.cell? ⟨w3.heap.size, 0, none⟩ = some (.string ⟨#[49, 47, 47]⟩) := cell_below (by simp) hb4
  have a1 : w4.cell? ⟨w3.heap.size, 1, none⟩ = some (.string ⟨#[]⟩) := cell_below (by simp) hb4
  have a3 : w4.cell? ⟨w3.heap.size, 3, none⟩ = some (.bool false) := cell_below (by simp) hb4
  clear hb4
  go_wp2_with fail
  refine (h4 _).mono ?_
  rintro e w5 ⟨rfl, hb5⟩
  have HB5 := hide (nextB HB4.out hb5)
  have hz3 : w4.heap.size < w5.heap.size := by have := hb5.size; simp at this; omega
  have hz2 : w3.heap.size < w5.heap.size := by have := World.block_lt_of_cell? _ _ a0; simp at this; omega
  have b0 : w5.cell? ⟨w3.heap.size, 0, none⟩ = some (.string ⟨#[49, 47, 47]⟩) := cell_below (cell_alloc a0) hb5
  have b1 : w5.cell? ⟨w3.heap.size, 1, none⟩ = some (.string ⟨#[]⟩) := cell_below (cell_alloc a1) hb5
  have b3 : w5.cell? ⟨w3.heap.size, 3, none⟩ = some (.bool false) := cell_below (cell_alloc a3) hb5
  have f0 : w5.cell? ⟨w4.heap.size, 0, none⟩ = some (.string ⟨#[]⟩) := cell_below (by simp) hb5
  clear hb5 a0 a1 a3
  go_wp2_with fail
  have c0 := cell_alloc (ob := (.cells #[.string ⟨#[48, 47, 47, 51, 49, 58, 48, 44, 51, 49, 58, 48, 44, 51, 49, 58, 48, 44, 51, 49, 58, 48]⟩, .string ⟨#[]⟩, .bool false, .bool false] 42)) b0
  have c1 := cell_alloc (ob := (.cells #[.string ⟨#[48, 47, 47, 51, 49, 58, 48, 44, 51, 49, 58, 48, 44, 51, 49, 58, 48, 44, 51, 49, 58, 48]⟩, .string ⟨#[]⟩, .bool false, .bool false] 42)) b1
  have c3 := cell_alloc (ob := (.cells #[.string ⟨#[48, 47, 47, 51, 49, 58, 48, 44, 51, 49, 58, 48, 44, 51, 49, 58, 48, 44, 51, 49, 58, 48]⟩, .string ⟨#[]⟩, .bool false, .bool false] 42)) b3
  clear b0 b1 b3
  go_quiet (first | (go_at_call 28; refine Calls.quiet_of_same (k_digit1 _)) | (go_at_call 28; refine Calls.quiet_of_same (k_digit0 _)) | (go_at_call 25; refine Calls.quiet_of_same (k_begins _ _ _ (by decide) (by kernel_rfl))))
  go_wp2_with fail
  go_ret
  exact ⟨rfl, below_dN (HB5.out.alloc HB5.out.size _)⟩

set_option maxRecDepth 100000 in
set_option maxHeartbeats 16000000 in
theorem k_Deep_false2 (n : Int) (w : World) (h0 : PlayR ⟨#[115, 104, 97, 114, 101, 100, 32, 120, 59, 32, 112, 114, 111, 99, 32, 112, 40, 118, 41, 32, 123, 32, 105, 102, 32, 40, 63, 41, 32, 123, 32, 120, 32, 61, 32, 112, 40, 118, 41, 59, 32, 114, 101, 116, 117, 114, 110, 32, 33, 120, 59, 32, 125, 32, 114, 101, 116, 117, 114, 110, 32, 116, 114, 117, 101, 59, 32, 125, 32, 116, 104, 114, 101, 97, 100, 115, 32, 112, 59]⟩ ⟨#[65, 97, 65, 97]⟩ ⟨#[48, 47, 47, 51, 49, 58, 48, 44, 51, 49, 58, 48, 44, 50, 50, 58, 48]⟩ ⟨#[97, 65]⟩ false false 0 0) (h1 : PlayR ⟨#[115, 104, 97, 114, 101, 100, 32, 120, 59, 32, 112, 114, 111, 99, 32, 112, 40, 118, 41, 32, 123, 32, 105, 102, 32, 40, 63, 41, 32, 123, 32, 120, 32, 61, 32, 112, 40, 118, 41, 59, 32, 114, 101, 116, 117, 114, 110, 32, 33, 120, 59, 32, 125, 32, 114, 101, 116, 117, 114, 110, 32, 116, 114, 117, 101, 59, 32, 125, 32, 116, 104, 114, 101, 97, 100, 115, 32, 112, 59]⟩ ⟨#[65, 97, 65, 97, 97, 97]⟩ ⟨#[49, 47, 47, 51, 49, 58, 48, 44, 52, 49, 58, 48]⟩ ⟨#[97]⟩ false false 0 0) (h2 : PlayR ⟨#[115, 104, 97, 114, 101, 100, 32, 120, 59, 32, 112, 114, 111, 99, 32, 112, 40, 118, 41, 32, 123, 32, 105, 102, 32, 40, 63, 41, 32, 123, 32, 120, 32, 61, 32, 112, 40, 118, 41, 59, 32, 114, 101, 116, 117, 114, 110, 32, 33, 120, 59, 32, 125, 32, 114, 101, 116, 117, 114, 110, 32, 116, 114, 117, 101, 59, 32, 125, 32, 116, 104, 114, 101, 97, 100, 115, 32, 112, 59]⟩ ⟨#[65, 97, 65, 97, 97, 97, 97]⟩ ⟨#[48, 47, 47, 52, 49, 58, 48]⟩ ⟨#[97]⟩ false false 0 0) (h3 : PlayR ⟨#[115, 104, 97, 114, 101, 100, 32, 120, 59, 32, 112, 114, 111, 99, 32, 112, 40, 118, 41, 32, 123, 32, 105, 102, 32, 40, 63, 41, 32, 123, 32, 120, 32, 61, 32, 112, 40, 118, 41, 59, 32, 114, 101, 116, 117, 114, 110, 32, 33, 120, 59, 32, 125, 32, 114, 101, 116, 117, 114, 110, 32, 116, 114, 117, 101, 59, 32, 125, 32, 116, 104, 114, 101, 97, 100, 115, 32, 112, 59]⟩ ⟨#[65, 97, 65, 97, 97, 97, 97, 97]⟩ ⟨#[48, 47, 47]⟩ ⟨#[]⟩ false false 0 0) (h4 : PlayR ⟨#[115, 104, 97, 114, 101, 100, 32, 120, 59, 32, 112, 114, 111, 99, 32, 112, 40, 118, 41, 32, 123, 32, 105, 102, 32, 40, 63, 41, 32, 123, 32, 120, 32, 61, 32, 112, 40, 118, 41, 59, 32, 114, 101, 116, 117, 114, 110, 32, 33, 120, 59, 32, 125, 32, 114, 101, 116, 117, 114, 110, 32, 116, 114, 117, 101, 59, 32, 125, 32, 116, 104, 114, 101, 97, 100, 115, 32, 112, 59]⟩ ⟨#[65, 97, 65, 97, 65, 97, 65, 97]⟩ ⟨#[]⟩ ⟨#[]⟩ false false 8 7) (h5 : PlayR ⟨#[115, 104, 97, 114, 101, 100, 32, 120, 59, 32, 112, 114, 111, 99, 32, 112, 40, 118, 41, 32, 123, 32, 105, 102, 32, 40, 63, 41, 32, 123, 32, 120, 32, 61, 32, 112, 40, 118, 41, 59, 32, 114, 101, 116, 117, 114, 110, 32, 33, 120, 59, 32, 125, 32, 114, 101, 116, 117, 114, 110, 32, 116, 114, 117, 101, 59, 32, 125, 32, 116, 104, 114, 101, 97, 100, 115, 32, 112, 59]⟩ ⟨#[65, 97, 65, 97, 65, 97, 65]⟩ ⟨#[48, 47, 47, 51, 49, 58, 48, 44, 51, 49, 58, 48, 44, 51, 49, 58, 48, 44, 51, 49, 58, 48]⟩ ⟨#[]⟩ false false 0 0)
    (hpk : ∀ w, Calls Tryz.prog 18 #[.int .i64 n, .int .i64 3] w fun e w' => e = .returned (.int .i64 1) ∧ w' = w) :
    Calls Tryz.prog 14 #[.int .i64 n, .bool false] w fun e w' => e = .returned (.bool true) ∧ Below w.heap.size w w' := by
  have i22 := itoa_const 22 (by decide) ⟨#[50, 50]⟩ (by kernel_rfl)
  have i31 := itoa_const 31 (by decide) ⟨#[51, 49]⟩ (by kernel_rfl)
  have hcat := cat_lit
  have hlst := list_lit
  have hsiz := size_lit
  go_enter Tryz.func14, Tryz.ntmps14
  go_upto_region 6 with (go_at_call 18; refine (hpk _).mono ?_; rintro e w0 ⟨rfl, hw0⟩; subst hw0)
  generalize (⟨#[115, 104, 97, 114, 101, 100, 32, 120, 59, 32, 112, 114, 111, 99, 32, 112, 40, 118, 41, 32, 123, 32, 105, 102, 32, 40, 63, 41, 32, 123, 32, 120, 32, 61, 32, 112, 40, 118, 41, 59, 32, 114, 101, 116, 117, 114, 110, 32, 33, 120, 59, 32, 125, 32, 114, 101, 116, 117, 114, 110, 32, 116, 114, 117, 101, 59, 32, 125, 32, 116, 104, 114, 101, 97, 100, 115, 32, 112, 59]⟩ : ByteArray) = tx at *
  generalize (⟨#[115, 104, 97, 114, 101, 100, 32, 120, 59, 32, 112, 114, 111, 99, 32, 112, 40, 118, 41, 32, 123, 32, 105, 102, 32, 40, 63, 41, 32, 123, 32, 120, 32, 61, 32, 112, 40, 118, 41, 59]⟩ : ByteArray) = tx8
  go_wp2_with (first | (refine wp_loop_rounds 3 ?_) | (refine rounds_step2 ?_; intro _ _))
  refine (h0 _).mono ?_
  rintro e w1 ⟨rfl, hb1⟩
  have HB1 := hide hb1
  clear hb1
  go_wp2_with fail
  refine (i22 _).mono ?_
  rintro e w' ⟨rfl, rfl⟩
  go_wp2_with fail
  refine (i31 _).mono ?_
  rintro e w' ⟨rfl, rfl⟩
  go_wp2_with (first | (refine wp_loop_rounds 3 ?_) | (refine rounds_step2 ?_; intro _ _))
  refine (h1 _).mono ?_
  rintro e w2 ⟨rfl, hb2⟩
  have HB2 := hide (nextB HB1.out hb2)
  clear hb2
  go_wp2_with fail
  go_quiet (first | (go_at_call 28; refine Calls.quiet_of_same (k_digit1 _)) | (go_at_call 28; refine Calls.quiet_of_same (k_digit0 _)) | (go_at_call 25; refine Calls.quiet_of_same (k_begins _ _ _ (by decide) (by kernel_rfl))))
  go_wp2_with (first | (refine wp_loop_rounds 3 ?_) | (refine rounds_step2 ?_; intro _ _))
  refine (h2 _).mono ?_
  rintro e w3 ⟨rfl, hb3⟩
  have HB3 := hide (nextBd HB2.out hb3)
  clear hb3
  go_wp2_with fail
  go_quiet (first | (go_at_call 28; refine Calls.quiet_of_same (k_digit1 _)) | (go_at_call 28; refine Calls.quiet_of_same (k_digit0 _)) | (go_at_call 25; refine Calls.quiet_of_same (k_begins _ _ _ (by decide) (by kernel_rfl))))
  go_wp2_with (first | (refine wp_loop_rounds 3 ?_) | (refine rounds_step2 ?_; intro _ _))
  refine (h3 _).mono ?_
  rintro e w4 ⟨rfl, hb4⟩
  have HB4 := hide (nextBd HB3.out hb4)
  clear hb4
  go_wp2_with fail
  refine (h4 _).mono ?_
  rintro e w5 ⟨rfl, hb5⟩
  have HB5 := hide (nextB HB4.out hb5)
  have a0 : w5.cell? ⟨w4.heap.size, 0, none⟩ = some (.string ⟨#[48, 47, 47]⟩) := cell_below (by simp) hb5
  have a1 : w5.cell? ⟨w4.heap.size, 1, none⟩ = some (.string ⟨#[]⟩) := cell_below (by simp) hb5
  have a3 : w5.cell? ⟨w4.heap.size, 3, none⟩ = some (.bool false) := cell_below (by simp) hb5
  clear hb5
  go_wp2_with fail
  refine (h5 _).mono ?_
  rintro e w6 ⟨rfl, hb6⟩
  have HB6 := hide (nextB HB5.out hb6)
  have hz3 : w5.heap.size < w6.heap.size := by have := hb6.size; simp at this; omega
  have hz2 : w4.heap.size < w6.heap.size := by have := World.block_lt_of_cell? _ _ a0; simp at this; omega
  have b0 : w6.cell? ⟨w4.heap.size, 0, none⟩ = some (.string ⟨#[48, 47, 47]⟩) := cell_below (cell_alloc a0) hb6
  have b1 : w6.cell? ⟨w4.heap.size, 1, none⟩ = some (.string ⟨#[]⟩) := cell_below (cell_alloc a1) hb6
  have b3 : w6.cell? ⟨w4.heap.size, 3, none⟩ = some (.bool false) := cell_below (cell_alloc a3) hb6
  have f0 : w6.cell? ⟨w5.heap.size, 0, none⟩ = some (.string ⟨#[]⟩) := cell_below (by simp) hb6
  clear hb6 a0 a1 a3
  go_wp2_with fail
  have c0 := cell_alloc (ob := (.cells #[.string ⟨#[48, 47, 47, 51, 49, 58, 48, 44, 51, 49, 58, 48, 44, 51, 49, 58, 48, 44, 51, 49, 58, 48]⟩, .string ⟨#[]⟩, .bool false, .bool false] 42)) b0
  have c1 := cell_alloc (ob := (.cells #[.string ⟨#[48, 47, 47, 51, 49, 58, 48, 44, 51, 49, 58, 48, 44, 51, 49, 58, 48, 44, 51, 49, 58, 48]⟩, .string ⟨#[]⟩, .bool false, .bool false] 42)) b1
  have c3 := cell_alloc (ob := (.cells #[.string ⟨#[48, 47, 47, 51, 49, 58, 48, 44, 51, 49, 58, 48, 44, 51, 49, 58, 48, 44, 51, 49, 58, 48]⟩, .string ⟨#[]⟩, .bool false, .bool false] 42)) b3
  clear b0 b1 b3
  go_quiet (first | (go_at_call 28; refine Calls.quiet_of_same (k_digit1 _)) | (go_at_call 28; refine Calls.quiet_of_same (k_digit0 _)) | (go_at_call 25; refine Calls.quiet_of_same (k_begins _ _ _ (by decide) (by kernel_rfl))))
  go_wp2_with fail
  go_ret
  exact ⟨rfl, below_dN (HB6.out.alloc HB6.out.size _)⟩

set_option maxRecDepth 100000 in
set_option maxHeartbeats 16000000 in
theorem k_Deep_false3 (n : Int) (w : World) (h0 : PlayR ⟨#[115, 104, 97, 114, 101, 100, 32, 120, 59, 32, 112, 114, 111, 99, 32, 112, 40, 118, 41, 32, 123, 32, 105, 102, 32, 40, 63, 41, 32, 123, 32, 120, 32, 61, 32, 112, 40, 118, 41, 59, 32, 114, 101, 116, 117, 114, 110, 32, 33, 120, 59, 32, 125, 32, 114, 101, 116, 117, 114, 110, 32, 116, 114, 117, 101, 59, 32, 125, 32, 116, 104, 114, 101, 97, 100, 115, 32, 112, 59]⟩ ⟨#[65, 97, 65, 97, 65, 97]⟩ ⟨#[48, 47, 47, 51, 49, 58, 48, 44, 51, 49, 58, 48, 44, 51, 49, 58, 48, 44, 50, 50, 58, 48]⟩ ⟨#[97, 65]⟩ false false 0 0) (h1 : PlayR ⟨#[115, 104, 97, 114, 101, 100, 32, 120, 59, 32, 112, 114, 111, 99, 32, 112, 40, 118, 41, 32, 123, 32, 105, 102, 32, 40, 63, 41, 32, 123, 32, 120, 32, 61, 32, 112, 40, 118, 41, 59, 32, 114, 101, 116, 117, 114, 110, 32, 33, 120, 59, 32, 125, 32, 114, 101, 116, 117, 114, 110, 32, 116, 114, 117, 101, 59, 32, 125, 32, 116, 104, 114, 101, 97, 100, 115, 32, 112, 59]⟩ ⟨#[65, 97, 65, 97, 65, 97, 97, 97]⟩ ⟨#[49, 47, 47, 51, 49, 58, 48, 44, 51, 49, 58, 48, 44, 52, 49, 58, 48]⟩ ⟨#[97]⟩ false false 0 0) (h2 : PlayR ⟨#[115, 104, 97, 114, 101, 100, 32, 120, 59, 32, 112, 114, 111, 99, 32, 112, 40, 118, 41, 32, 123, 32, 105, 102, 32, 40, 63, 41, 32, 123, 32, 120, 32, 61, 32, 112, 40, 118, 41, 59, 32, 114, 101, 116, 117, 114, 110, 32, 33, 120, 59, 32, 125, 32, 114, 101, 116, 117, 114, 110, 32, 116, 114, 117, 101, 59, 32, 125, 32, 116, 104, 114, 101, 97, 100, 115, 32, 112, 59]⟩ ⟨#[65, 97, 65, 97, 65, 97, 97, 97, 97]⟩ ⟨#[48, 47, 47, 51, 49, 58, 48, 44, 52, 49, 58, 48]⟩ ⟨#[97]⟩ false false 0 0) (h3 : PlayR ⟨#[115, 104, 97, 114, 101, 100, 32, 120, 59, 32, 112, 114, 111, 99, 32, 112, 40, 118, 41, 32, 123, 32, 105, 102, 32, 40, 63, 41, 32, 123, 32, 120, 32, 61, 32, 112, 40, 118, 41, 59, 32, 114, 101, 116, 117, 114, 110, 32, 33, 120, 59, 32, 125, 32, 114, 101, 116, 117, 114, 110, 32, 116, 114, 117, 101, 59, 32, 125, 32, 116, 104, 114, 101, 97, 100, 115, 32, 112, 59]⟩ ⟨#[65, 97, 65, 97, 65, 97, 97, 97, 97, 97]⟩ ⟨#[49, 47, 47, 52, 49, 58, 48]⟩ ⟨#[97]⟩ false false 0 0) (h4 : PlayR ⟨#[115, 104, 97, 114, 101, 100, 32, 120, 59, 32, 112, 114, 111, 99, 32, 112, 40, 118, 41, 32, 123, 32, 105, 102, 32, 40, 63, 41, 32, 123, 32, 120, 32, 61, 32, 112, 40, 118, 41, 59, 32, 114, 101, 116, 117, 114, 110, 32, 33, 120, 59, 32, 125, 32, 114, 101, 116, 117, 114, 110, 32, 116, 114, 117, 101, 59, 32, 125, 32, 116, 104, 114, 101, 97, 100, 115, 32, 112, 59]⟩ ⟨#[65, 97, 65, 97, 65, 97, 97, 97, 97, 97, 97]⟩ ⟨#[49, 47, 47]⟩ ⟨#[]⟩ false false 0 0) (h5 : PlayR ⟨#[115, 104, 97, 114, 101, 100, 32, 120, 59, 32, 112, 114, 111, 99, 32, 112, 40, 118, 41, 32, 123, 32, 105, 102, 32, 40, 63, 41, 32, 123, 32, 120, 32, 61, 32, 112, 40, 118, 41, 59, 32, 114, 101, 116, 117, 114, 110, 32, 33, 120, 59, 32, 125, 32, 114, 101, 116, 117, 114, 110, 32, 116, 114, 117, 101, 59, 32, 125, 32, 116, 104, 114, 101, 97, 100, 115, 32, 112, 59]⟩ ⟨#[65, 97, 65, 97, 65, 97, 65, 97]⟩ ⟨#[]⟩ ⟨#[]⟩ false false 8 7) (h6 : PlayR ⟨#[115, 104, 97, 114, 101, 100, 32, 120, 59, 32, 112, 114, 111, 99, 32, 112, 40, 118, 41, 32, 123, 32, 105, 102, 32, 40, 63, 41, 32, 123, 32, 120, 32, 61, 32, 112, 40, 118, 41, 59, 32, 114, 101, 116, 117, 114, 110, 32, 33, 120, 59, 32, 125, 32, 114, 101, 116, 117, 114, 110, 32, 116, 114, 117, 101, 59, 32, 125, 32, 116, 104, 114, 101, 97, 100, 115, 32, 112, 59]⟩ ⟨#[65, 97, 65, 97, 65, 97, 65]⟩ ⟨#[48, 47, 47, 51, 49, 58, 48, 44, 51, 49, 58, 48, 44, 51, 49, 58, 48, 44, 51, 49, 58, 48]⟩ ⟨#[]⟩ false false 0 0)
    (hpk : ∀ w, Calls Tryz.prog 18 #[.int .i64 n, .int .i64 3] w fun e w' => e = .returned (.int .i64 2) ∧ w' = w) :
    Calls Tryz.prog 14 #[.int .i64 n, .bool false] w fun e w' => e = .returned (.bool true) ∧ Below w.heap.size w w' := by
  have i22 := itoa_const 22 (by decide) ⟨#[50, 50]⟩ (by kernel_rfl)
  have i31 := itoa_const 31 (by decide) ⟨#[51, 49]⟩ (by kernel_rfl)
  have hcat := cat_lit
  have hlst := list_lit
  have hsiz := size_lit
  go_enter Tryz.func14, Tryz.ntmps14
  go_upto_region 6 with (go_at_call 18; refine (hpk _).mono ?_; rintro e w0 ⟨rfl, hw0⟩; subst hw0)
  generalize (⟨#[115, 104, 97, 114, 101, 100, 32, 120, 59, 32, 112, 114, 111, 99, 32, 112, 40, 118, 41, 32, 123, 32, 105, 102, 32, 40, 63, 41, 32, 123, 32, 120, 32, 61, 32, 112, 40, 118, 41, 59, 32, 114, 101, 116, 117, 114, 110, 32, 33, 120, 59, 32, 125, 32, 114, 101, 116, 117, 114, 110, 32, 116, 114, 117, 101, 59, 32, 125, 32, 116, 104, 114, 101, 97, 100, 115, 32, 112, 59]⟩ : ByteArray) = tx at *
  generalize (⟨#[115, 104, 97, 114, 101, 100, 32, 120, 59, 32, 112, 114, 111, 99, 32, 112, 40, 118, 41, 32, 123, 32, 105, 102, 32, 40, 63, 41, 32, 123, 32, 120, 32, 61, 32, 112, 40, 118, 41, 59]⟩ : ByteArray) = tx8
  go_wp2_with (first | (refine wp_loop_rounds 4 ?_) | (refine rounds_step2 ?_; intro _ _))
  refine (h0 _).mono ?_
  rintro e w1 ⟨rfl, hb1⟩
  have HB1 := hide hb1
  clear hb1
  go_wp2_with fail
  refine (i22 _).mono ?_
  rintro e w' ⟨rfl, rfl⟩
  go_wp2_with fail
  refine (i31 _).mono ?_
  rintro e w' ⟨rfl, rfl⟩
  go_wp2_with (first | (refine wp_loop_rounds 4 ?_) | (refine rounds_step2 ?_; intro _ _))
  refine (h1 _).mono ?_
  rintro e w2 ⟨rfl, hb2⟩
  have HB2 := hide (nextB HB1.out hb2)
  clear hb2
  go_wp2_with fail
  go_quiet (first | (go_at_call 28; refine Calls.quiet_of_same (k_digit1 _)) | (go_at_call 28; refine Calls.quiet_of_same (k_digit0 _)) | (go_at_call 25; refine Calls.quiet_of_same (k_begins _ _ _ (by decide) (by kernel_rfl))))
  go_wp2_with (first | (refine wp_loop_rounds 4 ?_) | (refine rounds_step2 ?_; intro _ _))
  refine (h2 _).mono ?_
  rintro e w3 ⟨rfl, hb3⟩
  have HB3 := hide (nextBd HB2.out hb3)
  clear hb3
  go_wp2_with fail
  go_quiet (first | (go_at_call 28; refine Calls.quiet_of_same (k_digit1 _)) | (go_at_call 28; refine Calls.quiet_of_same (k_digit0 _)) | (go_at_call 25; refine Calls.quiet_of_same (k_begins _ _ _ (by decide) (by kernel_rfl))))
  go_wp2_with (first | (refine wp_loop_rounds 4 ?_) | (refine rounds_step2 ?_; intro _ _))
  refine (h3 _).mono ?_
  rintro e w4 ⟨rfl, hb4⟩
  have HB4 := hide (nextBd HB3.out hb4)
  clear hb4
  go_wp2_with fail
  go_quiet (first | (go_at_call 28; refine Calls.quiet_of_same (k_digit1 _)) | (go_at_call 28; refine Calls.quiet_of_same (k_digit0 _)) | (go_at_call 25; refine Calls.quiet_of_same (k_begins _ _ _ (by decide) (by kernel_rfl))))
  go_wp2_with (first | (refine wp_loop_rounds 4 ?_) | (refine rounds_step2 ?_; intro _ _))
  refine (h4 _).mono ?_
  rintro e w5 ⟨rfl, hb5⟩
  have HB5 := hide (nextBd HB4.out hb5)
  clear hb5
  go_wp2_with fail
  refine (h5 _).mono ?_
  rintro e w6 ⟨rfl, hb6⟩
  have HB6 := hide (nextB HB5.out hb6)
  have a0 : w6.cell? ⟨w5.heap.size, 0, none⟩ = some (.string ⟨#[49, 47, 47]⟩) := cell_below (by simp) hb6
  have a1 : w6.cell? ⟨w5.heap.size, 1, none⟩ = some (.string ⟨#[]⟩) := cell_below (by simp) hb6
  have a3 : w6.cell? ⟨w5.heap.size, 3, none⟩ = some (.bool false) := cell_below (by simp) hb6
  clear hb6
  go_wp2_with fail
  refine (h6 _).mono ?_
  rintro e w7 ⟨rfl, hb7⟩
  have HB7 := hide (nextB HB6.out hb7)
  have hz3 : w6.heap.size < w7.heap.size := by have := hb7.size; simp at this; omega
  have hz2 : w5.heap.size < w7.heap.size := by have := World.block_lt_of_cell? _ _ a0; simp at this; omega
  have b0 : w7.cell? ⟨w5.heap.size, 0, none⟩ = some (.string ⟨#[49, 47, 47]⟩) := cell_below (cell_alloc a0) hb7
  have b1 : w7.cell? ⟨w5.heap.size, 1, none⟩ = some (.string ⟨#[]⟩) := cell_below (cell_alloc a1) hb7
  have b3 : w7.cell? ⟨w5.heap.size, 3, none⟩ = some (.bool false) := cell_below (cell_alloc a3) hb7
  have f0 : w7.cell? ⟨w6.heap.size, 0, none⟩ = some (.string ⟨#[]⟩) := cell_below (by simp) hb7
  clear hb7 a0 a1 a3
  go_wp2_with fail
  have c0 := cell_alloc (ob := (.cells #[.string ⟨#[48, 47, 47, 51, 49, 58, 48, 44, 51, 49, 58, 48, 44, 51, 49, 58, 48, 44, 51, 49, 58, 48]⟩, .string ⟨#[]⟩, .bool false, .bool false] 42)) b0
  have c1 := cell_alloc (ob := (.cells #[.string ⟨#[48, 47, 47, 51, 49, 58, 48, 44, 51, 49, 58, 48, 44, 51, 49, 58, 48, 44, 51, 49, 58, 48]⟩, .string ⟨#[]⟩, .bool false, .bool false] 42)) b1
  have c3 := cell_alloc (ob := (.cells #[.string ⟨#[48, 47, 47, 51, 49, 58, 48, 44, 51, 49, 58, 48, 44, 51, 49, 58, 48, 44, 51, 49, 58, 48]⟩, .string ⟨#[]⟩, .bool false, .bool false] 42)) b3
  clear b0 b1 b3
  go_quiet (first | (go_at_call 28; refine Calls.quiet_of_same (k_digit1 _)) | (go_at_call 28; refine Calls.quiet_of_same (k_digit0 _)) | (go_at_call 25; refine Calls.quiet_of_same (k_begins _ _ _ (by decide) (by kernel_rfl))))
  go_wp2_with fail
  go_ret
  exact ⟨rfl, below_dN (HB7.out.alloc HB7.out.size _)⟩

end Go.Proofs.YtmfcpbhdggonfaaGreatDoor
