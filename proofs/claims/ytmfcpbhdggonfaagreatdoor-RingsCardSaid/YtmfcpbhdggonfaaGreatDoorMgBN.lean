/- The statement Rings, over what Search and Play answer. -/
import Derived.Test.YtmfcpbhdggonfaaGreatDoorMgBM
import Derived.LoopN
namespace Go.Proofs.YtmfcpbhdggonfaaGreatDoor
open Go.RowKit

theorem rounds_stepR {P : Program} {c : Code} {Q : Exit → Act → World → Prop} {n : Nat} {a : Act} {w : World} (h : ∀ K : Act → World → Prop, (∀ a w, Code.rounds P c Q n a w → K a w) → c.wp P (Exit.then K Q) a w) : Code.rounds P c Q (n + 1) a w := h _ fun _ _ h => h
theorem size_litR (a : List UInt8) : (⟨a.toArray⟩ : ByteArray).size = a.length := by simp [ByteArray.size]
set_option maxRecDepth 100000 in
set_option maxHeartbeats 1000000 in
theorem k_pickM (c m : Int) (hc : -9223372036854775808 ≤ c ∧ c ≤ 9223372036854775807) (hm : 0 < m ∧ m ≤ 1000) :
    ∃ j : Nat, (j : Int) < m ∧ ∀ w, Calls Tryz.prog 18 #[.int .i64 c, .int .i64 m] w fun e w' => e = .returned (.int .i64 j) ∧ w' = w := by
  by_cases h : c < 0
  · have hz : 0 ≤ -(c + 1) := by omega
    have e1 : (-(c + 1)).tmod m = (-(c + 1)) % m := Int.tmod_eq_emod_of_nonneg hz
    have e2 := Int.emod_nonneg (-(c + 1)) (show m ≠ 0 by omega)
    have e3 := Int.emod_lt_of_pos (-(c + 1)) hm.1
    have e4 := Int.neg_tmod (c + 1) m
    obtain ⟨j, hj⟩ : ∃ j : Nat, (-(c + 1)) % m = (j : Int) := ⟨_, (Int.toNat_of_nonneg e2).symm⟩
    have HJ : Hid (-(c + 1).tmod m = (j : Int)) := by show _ = _; rw [← e4, e1, hj]
    refine ⟨j, by rw [← hj]; exact e3, fun w => ?_⟩
    clear e1 e2 e3 e4 hj
    have hm1 := hm.1
    have hmne : ¬ m = 0 := by omega
    go_enter Tryz.func18, Tryz.ntmps18
    go_wp2
    go_ret
    exact ⟨congrArg (fun z => Ending.returned (.int .i64 z)) HJ.out, rfl⟩
  · have hz : 0 ≤ c := by omega
    have e2 := Int.emod_nonneg c (show m ≠ 0 by omega)
    have e3 := Int.emod_lt_of_pos c hm.1
    obtain ⟨j, hj⟩ : ∃ j : Nat, c % m = (j : Int) := ⟨_, (Int.toNat_of_nonneg e2).symm⟩
    have HJ : Hid (c % m = (j : Int)) := hj
    refine ⟨j, by rw [← hj]; exact e3, fun w => ?_⟩
    clear e2 e3 hj
    have hm1 := hm.1
    have hmne : ¬ m = 0 := by omega
    go_enter Tryz.func18, Tryz.ntmps18
    go_wp2
    go_ret
    exact ⟨congrArg (fun z => Ending.returned (.int .i64 z)) HJ.out, rfl⟩

set_option maxRecDepth 100000 in
set_option maxHeartbeats 16000000 in
theorem k_Rings_two_whole (c s : Int) (j1 j2 : Nat) (W : World) (dd wh : Bool) (db : ByteArray) (pts : Int) (hj1 : j1 < 6) (hj2 : j2 < 61)
    (hp1 : ∀ w, Calls Tryz.prog 18 #[.int .i64 c, .int .i64 6] w fun e w' => e = .returned (.int .i64 j1) ∧ w' = w) (hp2 : ∀ w, Calls Tryz.prog 18 #[.int .i64 s, .int .i64 61] w fun e w' => e = .returned (.int .i64 j2) ∧ w' = w)
    (hS : ∀ w, Below W.heap.size W w → Calls Tryz.prog 20 #[.string ⟨#[108, 111, 99, 107, 115, 32, 109, 44, 32, 110, 59, 32, 112, 114, 111, 99, 32, 112, 40, 41, 32, 123, 32, 97, 99, 113, 117, 105, 114, 101, 32, 109, 59, 32, 97, 99, 113, 117, 105, 114, 101, 32, 110, 59, 32, 114, 101, 108, 101, 97, 115, 101, 32, 110, 59, 32, 114, 101, 108, 101, 97, 115, 101, 32, 109, 59, 32, 125, 32, 112, 114, 111, 99, 32, 113, 40, 41, 32, 123, 32, 97, 99, 113, 117, 105, 114, 101, 32, 110, 59, 32, 97, 99, 113, 117, 105, 114, 101, 32, 109, 59, 32, 114, 101, 108, 101, 97, 115, 101, 32, 109, 59, 32, 114, 101, 108, 101, 97, 115, 101, 32, 110, 59, 32, 125, 32, 116, 104, 114, 101, 97, 100, 115, 32, 112, 44, 32, 113, 59]⟩, .int .i64 (1 + j1), .int .i64 (j2 : Int)] w fun e w' => e = .returned (.tuple #[.agg #[.bool false, .bool dd, .string ⟨#[]⟩, .string db, .bool wh, .int .i64 pts], .int .i64 0]) ∧ Below w.heap.size w w')
    (hP : ∀ w, Below W.heap.size W w → Calls Tryz.prog 22 #[.string ⟨#[108, 111, 99, 107, 115, 32, 109, 44, 32, 110, 59, 32, 112, 114, 111, 99, 32, 112, 40, 41, 32, 123, 32, 97, 99, 113, 117, 105, 114, 101, 32, 109, 59, 32, 97, 99, 113, 117, 105, 114, 101, 32, 110, 59, 32, 114, 101, 108, 101, 97, 115, 101, 32, 110, 59, 32, 114, 101, 108, 101, 97, 115, 101, 32, 109, 59, 32, 125, 32, 112, 114, 111, 99, 32, 113, 40, 41, 32, 123, 32, 97, 99, 113, 117, 105, 114, 101, 32, 110, 59, 32, 97, 99, 113, 117, 105, 114, 101, 32, 109, 59, 32, 114, 101, 108, 101, 97, 115, 101, 32, 109, 59, 32, 114, 101, 108, 101, 97, 115, 101, 32, 110, 59, 32, 125, 32, 116, 104, 114, 101, 97, 100, 115, 32, 112, 44, 32, 113, 59]⟩, .string ⟨#[97, 98]⟩] w fun e w' => (∃ T, e = .returned (.tuple #[.agg #[.string T, .string ⟨#[]⟩, .bool false, .bool true], .int .i64 0, .int .i64 0])) ∧ Below w.heap.size w w') (hd : dd = (decide ((2 : Int) ≤ 1 + j1) && decide ((2 : Int) ≤ (j2 : Int)))) (hl : dd = true → db.size = 2) (hsh : ∀ w, Below W.heap.size W w → Calls Tryz.prog 21 #[.string ⟨#[108, 111, 99, 107, 115, 32, 109, 44, 32, 110, 59, 32, 112, 114, 111, 99, 32, 112, 40, 41, 32, 123, 32, 97, 99, 113, 117, 105, 114, 101, 32, 109, 59, 32, 97, 99, 113, 117, 105, 114, 101, 32, 110, 59, 32, 114, 101, 108, 101, 97, 115, 101, 32, 110, 59, 32, 114, 101, 108, 101, 97, 115, 101, 32, 109, 59, 32, 125, 32, 112, 114, 111, 99, 32, 113, 40, 41, 32, 123, 32, 97, 99, 113, 117, 105, 114, 101, 32, 110, 59, 32, 97, 99, 113, 117, 105, 114, 101, 32, 109, 59, 32, 114, 101, 108, 101, 97, 115, 101, 32, 109, 59, 32, 114, 101, 108, 101, 97, 115, 101, 32, 110, 59, 32, 125, 32, 116, 104, 114, 101, 97, 100, 115, 32, 112, 44, 32, 113, 59]⟩, .agg #[.bool false, .bool dd, .string ⟨#[]⟩, .string db, .bool wh, .int .i64 pts], .int .i64 (1 + j1), .int .i64 (j2 : Int)] w fun e w' => e = .returned (.bool true) ∧ Below w.heap.size w w') :
    Calls Tryz.prog 11 #[.bool false, .int .i64 c, .int .i64 s, .bool false] W fun e w' => e = .returned (.bool true) ∧ Below W.heap.size W w' := by
  have HS := hide hS
  have HPL := hide hP
  have HE : Hid ((⟨#[108, 111, 99, 107, 115, 32, 109, 44, 32, 110, 59, 32]⟩ : ByteArray) ++ ⟨#[112, 114, 111, 99, 32]⟩ ++ ⟨#[112]⟩ ++ ⟨#[40, 41, 32, 123, 32, 97, 99, 113, 117, 105, 114, 101, 32]⟩ ++ ⟨#[109]⟩ ++ ⟨#[59, 32, 97, 99, 113, 117, 105, 114, 101, 32]⟩ ++ ⟨#[110]⟩ ++ ⟨#[59, 32, 114, 101, 108, 101, 97, 115, 101, 32]⟩ ++ ⟨#[110]⟩ ++ ⟨#[59, 32, 114, 101, 108, 101, 97, 115, 101, 32]⟩ ++ ⟨#[109]⟩ ++ ⟨#[59, 32, 125, 32]⟩ ++ ⟨#[112, 114, 111, 99, 32]⟩ ++ ⟨#[113]⟩ ++ ⟨#[40, 41, 32, 123, 32, 97, 99, 113, 117, 105, 114, 101, 32]⟩ ++ ⟨#[110]⟩ ++ ⟨#[59, 32, 97, 99, 113, 117, 105, 114, 101, 32]⟩ ++ ⟨#[109]⟩ ++ ⟨#[59, 32, 114, 101, 108, 101, 97, 115, 101, 32]⟩ ++ ⟨#[109]⟩ ++ ⟨#[59, 32, 114, 101, 108, 101, 97, 115, 101, 32]⟩ ++ ⟨#[110]⟩ ++ ⟨#[59, 32, 125, 32]⟩ ++ ⟨#[116, 104, 114, 101, 97, 100, 115, 32, 112, 44, 32, 113, 59]⟩ = ⟨#[108, 111, 99, 107, 115, 32, 109, 44, 32, 110, 59, 32, 112, 114, 111, 99, 32, 112, 40, 41, 32, 123, 32, 97, 99, 113, 117, 105, 114, 101, 32, 109, 59, 32, 97, 99, 113, 117, 105, 114, 101, 32, 110, 59, 32, 114, 101, 108, 101, 97, 115, 101, 32, 110, 59, 32, 114, 101, 108, 101, 97, 115, 101, 32, 109, 59, 32, 125, 32, 112, 114, 111, 99, 32, 113, 40, 41, 32, 123, 32, 97, 99, 113, 117, 105, 114, 101, 32, 110, 59, 32, 97, 99, 113, 117, 105, 114, 101, 32, 109, 59, 32, 114, 101, 108, 101, 97, 115, 101, 32, 109, 59, 32, 114, 101, 108, 101, 97, 115, 101, 32, 110, 59, 32, 125, 32, 116, 104, 114, 101, 97, 100, 115, 32, 112, 44, 32, 113, 59]⟩) := by show _ = _; kernel_rfl
  have hsz := @ByteArray.size_append
  have hsiz := size_litR
  have hj1' : (j1 : Int) < 6 := by omega
  have hj2' : (j2 : Int) < 61 := by omega
  clear hS hP hj1 hj2
  have HD := hide hd
  have HL := hide hl
  have HSH := hide hsh
  clear hd hl hsh
  go_enter Tryz.func11, Tryz.ntmps11
  go_wp2_with fail
  refine (hp1 _).mono ?_
  rintro e W ⟨rfl, rfl⟩
  go_wp2_with fail
  refine (hp2 _).mono ?_
  rintro e W ⟨rfl, rfl⟩
  go_wp2_with (first | (refine wp_loop_rounds 3 ?_) | (refine rounds_stepR ?_; intro _ _))
  rw [HE.out]
  clear HE
  generalize (⟨#[108, 111, 99, 107, 115, 32, 109, 44, 32, 110, 59, 32, 112, 114, 111, 99, 32, 112, 40, 41, 32, 123, 32, 97, 99, 113, 117, 105, 114, 101, 32, 109, 59, 32, 97, 99, 113, 117, 105, 114, 101, 32, 110, 59, 32, 114, 101, 108, 101, 97, 115, 101, 32, 110, 59, 32, 114, 101, 108, 101, 97, 115, 101, 32, 109, 59, 32, 125, 32, 112, 114, 111, 99, 32, 113, 40, 41, 32, 123, 32, 97, 99, 113, 117, 105, 114, 101, 32, 110, 59, 32, 97, 99, 113, 117, 105, 114, 101, 32, 109, 59, 32, 114, 101, 108, 101, 97, 115, 101, 32, 109, 59, 32, 114, 101, 108, 101, 97, 115, 101, 32, 110, 59, 32, 125, 32, 116, 104, 114, 101, 97, 100, 115, 32, 112, 44, 32, 113, 59]⟩ : ByteArray) = tx at *
  refine (HS.out _ (((Below.refl _ _).alloc (Nat.le_refl _) _).alloc (by simp) _)).mono ?_
  rintro e w1 ⟨rfl, hb1⟩
  have HB1 := hide ((((Below.refl W.heap.size W).alloc (Nat.le_refl _) _).alloc (by simp) _).trans (hb1.mono (by simp; omega)))
  clear hb1 HS hsz hsiz
  go_upto_region 24 with fail
  have x0 : (w1.alloc (.cells #[.bool false, .bool dd, .string ⟨#[]⟩, .string db, .bool wh, .int .i64 pts] 35)).cell? ⟨w1.heap.size, 0, none⟩ = some (.bool false) := by simp
  have x1 : (w1.alloc (.cells #[.bool false, .bool dd, .string ⟨#[]⟩, .string db, .bool wh, .int .i64 pts] 35)).cell? ⟨w1.heap.size, 1, none⟩ = some (.bool dd) := by simp
  have x2 : (w1.alloc (.cells #[.bool false, .bool dd, .string ⟨#[]⟩, .string db, .bool wh, .int .i64 pts] 35)).cell? ⟨w1.heap.size, 2, none⟩ = some (.string ⟨#[]⟩) := by simp
  have x3 : (w1.alloc (.cells #[.bool false, .bool dd, .string ⟨#[]⟩, .string db, .bool wh, .int .i64 pts] 35)).cell? ⟨w1.heap.size, 3, none⟩ = some (.string db) := by simp
  have x4 : (w1.alloc (.cells #[.bool false, .bool dd, .string ⟨#[]⟩, .string db, .bool wh, .int .i64 pts] 35)).cell? ⟨w1.heap.size, 4, none⟩ = some (.bool wh) := by simp
  have x5 : (w1.alloc (.cells #[.bool false, .bool dd, .string ⟨#[]⟩, .string db, .bool wh, .int .i64 pts] 35)).cell? ⟨w1.heap.size, 5, none⟩ = some (.int .i64 pts) := by simp
  have HB2 := hide (HB1.out.alloc HB1.out.size (.cells #[.bool false, .bool dd, .string ⟨#[]⟩, .string db, .bool wh, .int .i64 pts] 35))
  clear HB1
  generalize w1.alloc (.cells #[.bool false, .bool dd, .string ⟨#[]⟩, .string db, .bool wh, .int .i64 pts] 35) = w2 at *
  have hxt : (⟨#[97, 98, 99]⟩ : ByteArray).extract 0 2 = ⟨#[97, 98]⟩ := by kernel_rfl
  go_wp2_with fail
  refine (HPL.out _ HB2.out).mono ?_
  rintro e w3 ⟨⟨T, rfl⟩, hb3⟩
  have y0 := cellB x0 hb3
  have y1 := cellB x1 hb3
  have y2 := cellB x2 hb3
  have y3 := cellB x3 hb3
  have y4 := cellB x4 hb3
  have y5 := cellB x5 hb3
  have HB3 := hide (HB2.out.trans (hb3.mono HB2.out.size))
  clear x0 x1 x2 x3 x4 x5 hb3 HB2 HPL hxt
  go_upto_region 28 with fail
  have x0 := cellS (ob := .cells #[.string T, .string ⟨#[]⟩, .bool false, .bool true] 42) y0
  have x1 := cellS (ob := .cells #[.string T, .string ⟨#[]⟩, .bool false, .bool true] 42) y1
  have x2 := cellS (ob := .cells #[.string T, .string ⟨#[]⟩, .bool false, .bool true] 42) y2
  have x3 := cellS (ob := .cells #[.string T, .string ⟨#[]⟩, .bool false, .bool true] 42) y3
  have x4 := cellS (ob := .cells #[.string T, .string ⟨#[]⟩, .bool false, .bool true] 42) y4
  have x5 := cellS (ob := .cells #[.string T, .string ⟨#[]⟩, .bool false, .bool true] 42) y5
  have v1 : (w3.alloc (.cells #[.string T, .string ⟨#[]⟩, .bool false, .bool true] 42)).cell? ⟨w3.heap.size, 1, none⟩ = some (.string ⟨#[]⟩) := by simp
  have v2 : (w3.alloc (.cells #[.string T, .string ⟨#[]⟩, .bool false, .bool true] 42)).cell? ⟨w3.heap.size, 2, none⟩ = some (.bool false) := by simp
  have v3 : (w3.alloc (.cells #[.string T, .string ⟨#[]⟩, .bool false, .bool true] 42)).cell? ⟨w3.heap.size, 3, none⟩ = some (.bool true) := by simp
  have HB4 := hide (HB3.out.alloc HB3.out.size (.cells #[.string T, .string ⟨#[]⟩, .bool false, .bool true] 42))
  clear y0 y1 y2 y3 y4 y5 HB3
  generalize w3.alloc (.cells #[.string T, .string ⟨#[]⟩, .bool false, .bool true] 42) = w4 at *
  by_cases h1 : (2 : Int) ≤ 1 + j1
  · by_cases h2 : (2 : Int) ≤ j2
    · skip
      have hdd : dd = true := by rw [HD.out, decide_eq_true h1, decide_eq_true h2]; rfl
      subst hdd
      have hdl : db.size = 2 := HL.out rfl
      clear HD HL
      go_wp2_with fail
      refine (HSH.out _ HB4.out).mono ?_
      rintro e w5 ⟨rfl, hb5⟩
      have y1 := cellB x1 hb5
      have y3 := cellB x3 hb5
      have HB5 := hide (HB4.out.trans (hb5.mono HB4.out.size))
      clear x0 x1 x2 x3 x4 x5 v1 v2 v3 hb5 HB4 HSH
      go_wp2_with fail
      go_ret
      exact ⟨rfl, HB5.out⟩
    · skip
      have hdd : dd = false := by rw [HD.out, decide_eq_false h2, Bool.and_false]
      subst hdd
      clear HD HL
      go_wp2_with fail
      refine (HSH.out _ HB4.out).mono ?_
      rintro e w5 ⟨rfl, hb5⟩
      have y1 := cellB x1 hb5
      have y3 := cellB x3 hb5
      have HB5 := hide (HB4.out.trans (hb5.mono HB4.out.size))
      clear x0 x1 x2 x3 x4 x5 v1 v2 v3 hb5 HB4 HSH
      go_wp2_with fail
      go_ret
      exact ⟨rfl, HB5.out⟩
  · skip
    have hdd : dd = false := by rw [HD.out, decide_eq_false h1, Bool.false_and]
    subst hdd
    clear HD HL
    go_wp2_with fail
    refine (HSH.out _ HB4.out).mono ?_
    rintro e w5 ⟨rfl, hb5⟩
    have y1 := cellB x1 hb5
    have y3 := cellB x3 hb5
    have HB5 := hide (HB4.out.trans (hb5.mono HB4.out.size))
    clear x0 x1 x2 x3 x4 x5 v1 v2 v3 hb5 HB4 HSH
    go_wp2_with fail
    go_ret
    exact ⟨rfl, HB5.out⟩

set_option maxRecDepth 100000 in
set_option maxHeartbeats 16000000 in
theorem k_Rings_two_broken (c s : Int) (j1 j2 : Nat) (W : World) (dd wh : Bool) (db : ByteArray) (pts : Int) (hj1 : j1 < 6) (hj2 : j2 < 61)
    (hp1 : ∀ w, Calls Tryz.prog 18 #[.int .i64 c, .int .i64 6] w fun e w' => e = .returned (.int .i64 j1) ∧ w' = w) (hp2 : ∀ w, Calls Tryz.prog 18 #[.int .i64 s, .int .i64 61] w fun e w' => e = .returned (.int .i64 j2) ∧ w' = w)
    (hS : ∀ w, Below W.heap.size W w → Calls Tryz.prog 20 #[.string ⟨#[108, 111, 99, 107, 115, 32, 109, 44, 32, 110, 59, 32, 112, 114, 111, 99, 32, 112, 40, 41, 32, 123, 32, 97, 99, 113, 117, 105, 114, 101, 32, 109, 59, 32, 97, 99, 113, 117, 105, 114, 101, 32, 110, 59, 32, 114, 101, 108, 101, 97, 115, 101, 32, 110, 59, 32, 114, 101, 108, 101, 97, 115, 101, 32, 109, 59, 32, 125, 32, 112, 114, 111, 99, 32, 113, 40, 41, 32, 123, 32, 97, 99, 113, 117, 105, 114, 101, 32, 109, 59, 32, 97, 99, 113, 117, 105, 114, 101, 32, 110, 59, 32, 114, 101, 108, 101, 97, 115, 101, 32, 110, 59, 32, 114, 101, 108, 101, 97, 115, 101, 32, 109, 59, 32, 125, 32, 116, 104, 114, 101, 97, 100, 115, 32, 112, 44, 32, 113, 59]⟩, .int .i64 (1 + j1), .int .i64 (j2 : Int)] w fun e w' => e = .returned (.tuple #[.agg #[.bool false, .bool dd, .string ⟨#[]⟩, .string db, .bool wh, .int .i64 pts], .int .i64 0]) ∧ Below w.heap.size w w')
    (hP : ∀ w, Below W.heap.size W w → Calls Tryz.prog 22 #[.string ⟨#[108, 111, 99, 107, 115, 32, 109, 44, 32, 110, 59, 32, 112, 114, 111, 99, 32, 112, 40, 41, 32, 123, 32, 97, 99, 113, 117, 105, 114, 101, 32, 109, 59, 32, 97, 99, 113, 117, 105, 114, 101, 32, 110, 59, 32, 114, 101, 108, 101, 97, 115, 101, 32, 110, 59, 32, 114, 101, 108, 101, 97, 115, 101, 32, 109, 59, 32, 125, 32, 112, 114, 111, 99, 32, 113, 40, 41, 32, 123, 32, 97, 99, 113, 117, 105, 114, 101, 32, 109, 59, 32, 97, 99, 113, 117, 105, 114, 101, 32, 110, 59, 32, 114, 101, 108, 101, 97, 115, 101, 32, 110, 59, 32, 114, 101, 108, 101, 97, 115, 101, 32, 109, 59, 32, 125, 32, 116, 104, 114, 101, 97, 100, 115, 32, 112, 44, 32, 113, 59]⟩, .string ⟨#[97, 98]⟩] w fun e w' => e = .returned (.tuple #[.agg #[.string ⟨#[]⟩, .string ⟨#[]⟩, .bool false, .bool false], .int .i64 8, .int .i64 1]) ∧ Below w.heap.size w w') (hd : dd = false ∧ db = ⟨#[]⟩) :
    Calls Tryz.prog 11 #[.bool false, .int .i64 c, .int .i64 s, .bool true] W fun e w' => e = .returned (.bool true) ∧ Below W.heap.size W w' := by
  have HS := hide hS
  have HPL := hide hP
  have HE : Hid ((⟨#[108, 111, 99, 107, 115, 32, 109, 44, 32, 110, 59, 32]⟩ : ByteArray) ++ ⟨#[112, 114, 111, 99, 32]⟩ ++ ⟨#[112]⟩ ++ ⟨#[40, 41, 32, 123, 32, 97, 99, 113, 117, 105, 114, 101, 32]⟩ ++ ⟨#[109]⟩ ++ ⟨#[59, 32, 97, 99, 113, 117, 105, 114, 101, 32]⟩ ++ ⟨#[110]⟩ ++ ⟨#[59, 32, 114, 101, 108, 101, 97, 115, 101, 32]⟩ ++ ⟨#[110]⟩ ++ ⟨#[59, 32, 114, 101, 108, 101, 97, 115, 101, 32]⟩ ++ ⟨#[109]⟩ ++ ⟨#[59, 32, 125, 32]⟩ ++ ⟨#[112, 114, 111, 99, 32]⟩ ++ ⟨#[113]⟩ ++ ⟨#[40, 41, 32, 123, 32, 97, 99, 113, 117, 105, 114, 101, 32]⟩ ++ ⟨#[109]⟩ ++ ⟨#[59, 32, 97, 99, 113, 117, 105, 114, 101, 32]⟩ ++ ⟨#[110]⟩ ++ ⟨#[59, 32, 114, 101, 108, 101, 97, 115, 101, 32]⟩ ++ ⟨#[110]⟩ ++ ⟨#[59, 32, 114, 101, 108, 101, 97, 115, 101, 32]⟩ ++ ⟨#[109]⟩ ++ ⟨#[59, 32, 125, 32]⟩ ++ ⟨#[116, 104, 114, 101, 97, 100, 115, 32, 112, 44, 32, 113, 59]⟩ = ⟨#[108, 111, 99, 107, 115, 32, 109, 44, 32, 110, 59, 32, 112, 114, 111, 99, 32, 112, 40, 41, 32, 123, 32, 97, 99, 113, 117, 105, 114, 101, 32, 109, 59, 32, 97, 99, 113, 117, 105, 114, 101, 32, 110, 59, 32, 114, 101, 108, 101, 97, 115, 101, 32, 110, 59, 32, 114, 101, 108, 101, 97, 115, 101, 32, 109, 59, 32, 125, 32, 112, 114, 111, 99, 32, 113, 40, 41, 32, 123, 32, 97, 99, 113, 117, 105, 114, 101, 32, 109, 59, 32, 97, 99, 113, 117, 105, 114, 101, 32, 110, 59, 32, 114, 101, 108, 101, 97, 115, 101, 32, 110, 59, 32, 114, 101, 108, 101, 97, 115, 101, 32, 109, 59, 32, 125, 32, 116, 104, 114, 101, 97, 100, 115, 32, 112, 44, 32, 113, 59]⟩) := by show _ = _; kernel_rfl
  have hsz := @ByteArray.size_append
  have hsiz := size_litR
  have hj1' : (j1 : Int) < 6 := by omega
  have hj2' : (j2 : Int) < 61 := by omega
  clear hS hP hj1 hj2
  have HD := hide hd
  clear hd
  go_enter Tryz.func11, Tryz.ntmps11
  go_wp2_with fail
  refine (hp1 _).mono ?_
  rintro e W ⟨rfl, rfl⟩
  go_wp2_with fail
  refine (hp2 _).mono ?_
  rintro e W ⟨rfl, rfl⟩
  go_wp2_with (first | (refine wp_loop_rounds 3 ?_) | (refine rounds_stepR ?_; intro _ _))
  rw [HE.out]
  clear HE
  generalize (⟨#[108, 111, 99, 107, 115, 32, 109, 44, 32, 110, 59, 32, 112, 114, 111, 99, 32, 112, 40, 41, 32, 123, 32, 97, 99, 113, 117, 105, 114, 101, 32, 109, 59, 32, 97, 99, 113, 117, 105, 114, 101, 32, 110, 59, 32, 114, 101, 108, 101, 97, 115, 101, 32, 110, 59, 32, 114, 101, 108, 101, 97, 115, 101, 32, 109, 59, 32, 125, 32, 112, 114, 111, 99, 32, 113, 40, 41, 32, 123, 32, 97, 99, 113, 117, 105, 114, 101, 32, 109, 59, 32, 97, 99, 113, 117, 105, 114, 101, 32, 110, 59, 32, 114, 101, 108, 101, 97, 115, 101, 32, 110, 59, 32, 114, 101, 108, 101, 97, 115, 101, 32, 109, 59, 32, 125, 32, 116, 104, 114, 101, 97, 100, 115, 32, 112, 44, 32, 113, 59]⟩ : ByteArray) = tx at *
  refine (HS.out _ (((Below.refl _ _).alloc (Nat.le_refl _) _).alloc (by simp) _)).mono ?_
  rintro e w1 ⟨rfl, hb1⟩
  have HB1 := hide ((((Below.refl W.heap.size W).alloc (Nat.le_refl _) _).alloc (by simp) _).trans (hb1.mono (by simp; omega)))
  clear hb1 HS hsz hsiz
  go_upto_region 24 with fail
  have x0 : (w1.alloc (.cells #[.bool false, .bool dd, .string ⟨#[]⟩, .string db, .bool wh, .int .i64 pts] 35)).cell? ⟨w1.heap.size, 0, none⟩ = some (.bool false) := by simp
  have x1 : (w1.alloc (.cells #[.bool false, .bool dd, .string ⟨#[]⟩, .string db, .bool wh, .int .i64 pts] 35)).cell? ⟨w1.heap.size, 1, none⟩ = some (.bool dd) := by simp
  have x2 : (w1.alloc (.cells #[.bool false, .bool dd, .string ⟨#[]⟩, .string db, .bool wh, .int .i64 pts] 35)).cell? ⟨w1.heap.size, 2, none⟩ = some (.string ⟨#[]⟩) := by simp
  have x3 : (w1.alloc (.cells #[.bool false, .bool dd, .string ⟨#[]⟩, .string db, .bool wh, .int .i64 pts] 35)).cell? ⟨w1.heap.size, 3, none⟩ = some (.string db) := by simp
  have x4 : (w1.alloc (.cells #[.bool false, .bool dd, .string ⟨#[]⟩, .string db, .bool wh, .int .i64 pts] 35)).cell? ⟨w1.heap.size, 4, none⟩ = some (.bool wh) := by simp
  have x5 : (w1.alloc (.cells #[.bool false, .bool dd, .string ⟨#[]⟩, .string db, .bool wh, .int .i64 pts] 35)).cell? ⟨w1.heap.size, 5, none⟩ = some (.int .i64 pts) := by simp
  have HB2 := hide (HB1.out.alloc HB1.out.size (.cells #[.bool false, .bool dd, .string ⟨#[]⟩, .string db, .bool wh, .int .i64 pts] 35))
  clear HB1
  generalize w1.alloc (.cells #[.bool false, .bool dd, .string ⟨#[]⟩, .string db, .bool wh, .int .i64 pts] 35) = w2 at *
  have hxt : (⟨#[97, 98, 99]⟩ : ByteArray).extract 0 2 = ⟨#[97, 98]⟩ := by kernel_rfl
  go_wp2_with fail
  refine (HPL.out _ HB2.out).mono ?_
  rintro e w3 ⟨rfl, hb3⟩
  have y0 := cellB x0 hb3
  have y1 := cellB x1 hb3
  have y2 := cellB x2 hb3
  have y3 := cellB x3 hb3
  have y4 := cellB x4 hb3
  have y5 := cellB x5 hb3
  have HB3 := hide (HB2.out.trans (hb3.mono HB2.out.size))
  clear x0 x1 x2 x3 x4 x5 hb3 HB2 HPL hxt
  go_upto_region 28 with fail
  have x0 := cellS (ob := .cells #[.string ⟨#[]⟩, .string ⟨#[]⟩, .bool false, .bool false] 42) y0
  have x1 := cellS (ob := .cells #[.string ⟨#[]⟩, .string ⟨#[]⟩, .bool false, .bool false] 42) y1
  have x2 := cellS (ob := .cells #[.string ⟨#[]⟩, .string ⟨#[]⟩, .bool false, .bool false] 42) y2
  have x3 := cellS (ob := .cells #[.string ⟨#[]⟩, .string ⟨#[]⟩, .bool false, .bool false] 42) y3
  have x4 := cellS (ob := .cells #[.string ⟨#[]⟩, .string ⟨#[]⟩, .bool false, .bool false] 42) y4
  have x5 := cellS (ob := .cells #[.string ⟨#[]⟩, .string ⟨#[]⟩, .bool false, .bool false] 42) y5
  have v1 : (w3.alloc (.cells #[.string ⟨#[]⟩, .string ⟨#[]⟩, .bool false, .bool false] 42)).cell? ⟨w3.heap.size, 1, none⟩ = some (.string ⟨#[]⟩) := by simp
  have v2 : (w3.alloc (.cells #[.string ⟨#[]⟩, .string ⟨#[]⟩, .bool false, .bool false] 42)).cell? ⟨w3.heap.size, 2, none⟩ = some (.bool false) := by simp
  have v3 : (w3.alloc (.cells #[.string ⟨#[]⟩, .string ⟨#[]⟩, .bool false, .bool false] 42)).cell? ⟨w3.heap.size, 3, none⟩ = some (.bool false) := by simp
  have HB4 := hide (HB3.out.alloc HB3.out.size (.cells #[.string ⟨#[]⟩, .string ⟨#[]⟩, .bool false, .bool false] 42))
  clear y0 y1 y2 y3 y4 y5 HB3
  generalize w3.alloc (.cells #[.string ⟨#[]⟩, .string ⟨#[]⟩, .bool false, .bool false] 42) = w4 at *
  obtain ⟨rfl, rfl⟩ := HD.out
  clear HD
  go_wp2_with fail
  go_ret
  exact ⟨rfl, HB4.out⟩

set_option maxRecDepth 100000 in
set_option maxHeartbeats 16000000 in
theorem k_Rings_three_whole (c s : Int) (j1 j2 : Nat) (W : World) (dd wh : Bool) (db : ByteArray) (pts : Int) (hj1 : j1 < 6) (hj2 : j2 < 61)
    (hp1 : ∀ w, Calls Tryz.prog 18 #[.int .i64 c, .int .i64 6] w fun e w' => e = .returned (.int .i64 j1) ∧ w' = w) (hp2 : ∀ w, Calls Tryz.prog 18 #[.int .i64 s, .int .i64 61] w fun e w' => e = .returned (.int .i64 j2) ∧ w' = w)
    (hS : ∀ w, Below W.heap.size W w → Calls Tryz.prog 20 #[.string ⟨#[108, 111, 99, 107, 115, 32, 109, 44, 32, 110, 44, 32, 111, 59, 32, 112, 114, 111, 99, 32, 112, 40, 41, 32, 123, 32, 97, 99, 113, 117, 105, 114, 101, 32, 109, 59, 32, 97, 99, 113, 117, 105, 114, 101, 32, 110, 59, 32, 114, 101, 108, 101, 97, 115, 101, 32, 110, 59, 32, 114, 101, 108, 101, 97, 115, 101, 32, 109, 59, 32, 125, 32, 112, 114, 111, 99, 32, 113, 40, 41, 32, 123, 32, 97, 99, 113, 117, 105, 114, 101, 32, 110, 59, 32, 97, 99, 113, 117, 105, 114, 101, 32, 111, 59, 32, 114, 101, 108, 101, 97, 115, 101, 32, 111, 59, 32, 114, 101, 108, 101, 97, 115, 101, 32, 110, 59, 32, 125, 32, 112, 114, 111, 99, 32, 114, 40, 41, 32, 123, 32, 97, 99, 113, 117, 105, 114, 101, 32, 111, 59, 32, 97, 99, 113, 117, 105, 114, 101, 32, 109, 59, 32, 114, 101, 108, 101, 97, 115, 101, 32, 109, 59, 32, 114, 101, 108, 101, 97, 115, 101, 32, 111, 59, 32, 125, 32, 116, 104, 114, 101, 97, 100, 115, 32, 112, 44, 32, 113, 44, 32, 114, 59]⟩, .int .i64 (1 + j1), .int .i64 3] w fun e w' => e = .returned (.tuple #[.agg #[.bool false, .bool dd, .string ⟨#[]⟩, .string db, .bool wh, .int .i64 pts], .int .i64 0]) ∧ Below w.heap.size w w')
    (hP : ∀ w, Below W.heap.size W w → Calls Tryz.prog 22 #[.string ⟨#[108, 111, 99, 107, 115, 32, 109, 44, 32, 110, 44, 32, 111, 59, 32, 112, 114, 111, 99, 32, 112, 40, 41, 32, 123, 32, 97, 99, 113, 117, 105, 114, 101, 32, 109, 59, 32, 97, 99, 113, 117, 105, 114, 101, 32, 110, 59, 32, 114, 101, 108, 101, 97, 115, 101, 32, 110, 59, 32, 114, 101, 108, 101, 97, 115, 101, 32, 109, 59, 32, 125, 32, 112, 114, 111, 99, 32, 113, 40, 41, 32, 123, 32, 97, 99, 113, 117, 105, 114, 101, 32, 110, 59, 32, 97, 99, 113, 117, 105, 114, 101, 32, 111, 59, 32, 114, 101, 108, 101, 97, 115, 101, 32, 111, 59, 32, 114, 101, 108, 101, 97, 115, 101, 32, 110, 59, 32, 125, 32, 112, 114, 111, 99, 32, 114, 40, 41, 32, 123, 32, 97, 99, 113, 117, 105, 114, 101, 32, 111, 59, 32, 97, 99, 113, 117, 105, 114, 101, 32, 109, 59, 32, 114, 101, 108, 101, 97, 115, 101, 32, 109, 59, 32, 114, 101, 108, 101, 97, 115, 101, 32, 111, 59, 32, 125, 32, 116, 104, 114, 101, 97, 100, 115, 32, 112, 44, 32, 113, 44, 32, 114, 59]⟩, .string ⟨#[97, 98, 99]⟩] w fun e w' => (∃ T, e = .returned (.tuple #[.agg #[.string T, .string ⟨#[]⟩, .bool false, .bool true], .int .i64 0, .int .i64 0])) ∧ Below w.heap.size w w') (hd : dd = (decide ((3 : Int) ≤ 1 + j1) && decide ((3 : Int) ≤ 3))) (hl : dd = true → db.size = 3) (hsh : ∀ w, Below W.heap.size W w → Calls Tryz.prog 21 #[.string ⟨#[108, 111, 99, 107, 115, 32, 109, 44, 32, 110, 44, 32, 111, 59, 32, 112, 114, 111, 99, 32, 112, 40, 41, 32, 123, 32, 97, 99, 113, 117, 105, 114, 101, 32, 109, 59, 32, 97, 99, 113, 117, 105, 114, 101, 32, 110, 59, 32, 114, 101, 108, 101, 97, 115, 101, 32, 110, 59, 32, 114, 101, 108, 101, 97, 115, 101, 32, 109, 59, 32, 125, 32, 112, 114, 111, 99, 32, 113, 40, 41, 32, 123, 32, 97, 99, 113, 117, 105, 114, 101, 32, 110, 59, 32, 97, 99, 113, 117, 105, 114, 101, 32, 111, 59, 32, 114, 101, 108, 101, 97, 115, 101, 32, 111, 59, 32, 114, 101, 108, 101, 97, 115, 101, 32, 110, 59, 32, 125, 32, 112, 114, 111, 99, 32, 114, 40, 41, 32, 123, 32, 97, 99, 113, 117, 105, 114, 101, 32, 111, 59, 32, 97, 99, 113, 117, 105, 114, 101, 32, 109, 59, 32, 114, 101, 108, 101, 97, 115, 101, 32, 109, 59, 32, 114, 101, 108, 101, 97, 115, 101, 32, 111, 59, 32, 125, 32, 116, 104, 114, 101, 97, 100, 115, 32, 112, 44, 32, 113, 44, 32, 114, 59]⟩, .agg #[.bool false, .bool dd, .string ⟨#[]⟩, .string db, .bool wh, .int .i64 pts], .int .i64 (1 + j1), .int .i64 3] w fun e w' => e = .returned (.bool true) ∧ Below w.heap.size w w') :
    Calls Tryz.prog 11 #[.bool true, .int .i64 c, .int .i64 s, .bool false] W fun e w' => e = .returned (.bool true) ∧ Below W.heap.size W w' := by
  have HS := hide hS
  have HPL := hide hP
  have HE : Hid ((⟨#[108, 111, 99, 107, 115, 32, 109, 44, 32, 110, 44, 32, 111, 59, 32]⟩ : ByteArray) ++ ⟨#[112, 114, 111, 99, 32]⟩ ++ ⟨#[112]⟩ ++ ⟨#[40, 41, 32, 123, 32, 97, 99, 113, 117, 105, 114, 101, 32]⟩ ++ ⟨#[109]⟩ ++ ⟨#[59, 32, 97, 99, 113, 117, 105, 114, 101, 32]⟩ ++ ⟨#[110]⟩ ++ ⟨#[59, 32, 114, 101, 108, 101, 97, 115, 101, 32]⟩ ++ ⟨#[110]⟩ ++ ⟨#[59, 32, 114, 101, 108, 101, 97, 115, 101, 32]⟩ ++ ⟨#[109]⟩ ++ ⟨#[59, 32, 125, 32]⟩ ++ ⟨#[112, 114, 111, 99, 32]⟩ ++ ⟨#[113]⟩ ++ ⟨#[40, 41, 32, 123, 32, 97, 99, 113, 117, 105, 114, 101, 32]⟩ ++ ⟨#[110]⟩ ++ ⟨#[59, 32, 97, 99, 113, 117, 105, 114, 101, 32]⟩ ++ ⟨#[111]⟩ ++ ⟨#[59, 32, 114, 101, 108, 101, 97, 115, 101, 32]⟩ ++ ⟨#[111]⟩ ++ ⟨#[59, 32, 114, 101, 108, 101, 97, 115, 101, 32]⟩ ++ ⟨#[110]⟩ ++ ⟨#[59, 32, 125, 32]⟩ ++ ⟨#[112, 114, 111, 99, 32]⟩ ++ ⟨#[114]⟩ ++ ⟨#[40, 41, 32, 123, 32, 97, 99, 113, 117, 105, 114, 101, 32]⟩ ++ ⟨#[111]⟩ ++ ⟨#[59, 32, 97, 99, 113, 117, 105, 114, 101, 32]⟩ ++ ⟨#[109]⟩ ++ ⟨#[59, 32, 114, 101, 108, 101, 97, 115, 101, 32]⟩ ++ ⟨#[109]⟩ ++ ⟨#[59, 32, 114, 101, 108, 101, 97, 115, 101, 32]⟩ ++ ⟨#[111]⟩ ++ ⟨#[59, 32, 125, 32]⟩ ++ ⟨#[116, 104, 114, 101, 97, 100, 115, 32, 112, 44, 32, 113, 44, 32, 114, 59]⟩ = ⟨#[108, 111, 99, 107, 115, 32, 109, 44, 32, 110, 44, 32, 111, 59, 32, 112, 114, 111, 99, 32, 112, 40, 41, 32, 123, 32, 97, 99, 113, 117, 105, 114, 101, 32, 109, 59, 32, 97, 99, 113, 117, 105, 114, 101, 32, 110, 59, 32, 114, 101, 108, 101, 97, 115, 101, 32, 110, 59, 32, 114, 101, 108, 101, 97, 115, 101, 32, 109, 59, 32, 125, 32, 112, 114, 111, 99, 32, 113, 40, 41, 32, 123, 32, 97, 99, 113, 117, 105, 114, 101, 32, 110, 59, 32, 97, 99, 113, 117, 105, 114, 101, 32, 111, 59, 32, 114, 101, 108, 101, 97, 115, 101, 32, 111, 59, 32, 114, 101, 108, 101, 97, 115, 101, 32, 110, 59, 32, 125, 32, 112, 114, 111, 99, 32, 114, 40, 41, 32, 123, 32, 97, 99, 113, 117, 105, 114, 101, 32, 111, 59, 32, 97, 99, 113, 117, 105, 114, 101, 32, 109, 59, 32, 114, 101, 108, 101, 97, 115, 101, 32, 109, 59, 32, 114, 101, 108, 101, 97, 115, 101, 32, 111, 59, 32, 125, 32, 116, 104, 114, 101, 97, 100, 115, 32, 112, 44, 32, 113, 44, 32, 114, 59]⟩) := by show _ = _; kernel_rfl
  have hsz := @ByteArray.size_append
  have hsiz := size_litR
  have hj1' : (j1 : Int) < 6 := by omega
  have hj2' : (j2 : Int) < 61 := by omega
  clear hS hP hj1 hj2
  have HD := hide hd
  have HL := hide hl
  have HSH := hide hsh
  clear hd hl hsh
  go_enter Tryz.func11, Tryz.ntmps11
  go_wp2_with fail
  refine (hp1 _).mono ?_
  rintro e W ⟨rfl, rfl⟩
  go_wp2_with fail
  refine (hp2 _).mono ?_
  rintro e W ⟨rfl, rfl⟩
  go_wp2_with (first | (refine wp_loop_rounds 4 ?_) | (refine rounds_stepR ?_; intro _ _))
  rw [HE.out]
  clear HE
  generalize (⟨#[108, 111, 99, 107, 115, 32, 109, 44, 32, 110, 44, 32, 111, 59, 32, 112, 114, 111, 99, 32, 112, 40, 41, 32, 123, 32, 97, 99, 113, 117, 105, 114, 101, 32, 109, 59, 32, 97, 99, 113, 117, 105, 114, 101, 32, 110, 59, 32, 114, 101, 108, 101, 97, 115, 101, 32, 110, 59, 32, 114, 101, 108, 101, 97, 115, 101, 32, 109, 59, 32, 125, 32, 112, 114, 111, 99, 32, 113, 40, 41, 32, 123, 32, 97, 99, 113, 117, 105, 114, 101, 32, 110, 59, 32, 97, 99, 113, 117, 105, 114, 101, 32, 111, 59, 32, 114, 101, 108, 101, 97, 115, 101, 32, 111, 59, 32, 114, 101, 108, 101, 97, 115, 101, 32, 110, 59, 32, 125, 32, 112, 114, 111, 99, 32, 114, 40, 41, 32, 123, 32, 97, 99, 113, 117, 105, 114, 101, 32, 111, 59, 32, 97, 99, 113, 117, 105, 114, 101, 32, 109, 59, 32, 114, 101, 108, 101, 97, 115, 101, 32, 109, 59, 32, 114, 101, 108, 101, 97, 115, 101, 32, 111, 59, 32, 125, 32, 116, 104, 114, 101, 97, 100, 115, 32, 112, 44, 32, 113, 44, 32, 114, 59]⟩ : ByteArray) = tx at *
  refine (HS.out _ (((Below.refl _ _).alloc (Nat.le_refl _) _).alloc (by simp) _)).mono ?_
  rintro e w1 ⟨rfl, hb1⟩
  have HB1 := hide ((((Below.refl W.heap.size W).alloc (Nat.le_refl _) _).alloc (by simp) _).trans (hb1.mono (by simp; omega)))
  clear hb1 HS hsz hsiz
  go_upto_region 24 with fail
  have x0 : (w1.alloc (.cells #[.bool false, .bool dd, .string ⟨#[]⟩, .string db, .bool wh, .int .i64 pts] 35)).cell? ⟨w1.heap.size, 0, none⟩ = some (.bool false) := by simp
  have x1 : (w1.alloc (.cells #[.bool false, .bool dd, .string ⟨#[]⟩, .string db, .bool wh, .int .i64 pts] 35)).cell? ⟨w1.heap.size, 1, none⟩ = some (.bool dd) := by simp
  have x2 : (w1.alloc (.cells #[.bool false, .bool dd, .string ⟨#[]⟩, .string db, .bool wh, .int .i64 pts] 35)).cell? ⟨w1.heap.size, 2, none⟩ = some (.string ⟨#[]⟩) := by simp
  have x3 : (w1.alloc (.cells #[.bool false, .bool dd, .string ⟨#[]⟩, .string db, .bool wh, .int .i64 pts] 35)).cell? ⟨w1.heap.size, 3, none⟩ = some (.string db) := by simp
  have x4 : (w1.alloc (.cells #[.bool false, .bool dd, .string ⟨#[]⟩, .string db, .bool wh, .int .i64 pts] 35)).cell? ⟨w1.heap.size, 4, none⟩ = some (.bool wh) := by simp
  have x5 : (w1.alloc (.cells #[.bool false, .bool dd, .string ⟨#[]⟩, .string db, .bool wh, .int .i64 pts] 35)).cell? ⟨w1.heap.size, 5, none⟩ = some (.int .i64 pts) := by simp
  have HB2 := hide (HB1.out.alloc HB1.out.size (.cells #[.bool false, .bool dd, .string ⟨#[]⟩, .string db, .bool wh, .int .i64 pts] 35))
  clear HB1
  generalize w1.alloc (.cells #[.bool false, .bool dd, .string ⟨#[]⟩, .string db, .bool wh, .int .i64 pts] 35) = w2 at *
  have hxt : (⟨#[97, 98, 99]⟩ : ByteArray).extract 0 3 = ⟨#[97, 98, 99]⟩ := by kernel_rfl
  go_wp2_with fail
  refine (HPL.out _ HB2.out).mono ?_
  rintro e w3 ⟨⟨T, rfl⟩, hb3⟩
  have y0 := cellB x0 hb3
  have y1 := cellB x1 hb3
  have y2 := cellB x2 hb3
  have y3 := cellB x3 hb3
  have y4 := cellB x4 hb3
  have y5 := cellB x5 hb3
  have HB3 := hide (HB2.out.trans (hb3.mono HB2.out.size))
  clear x0 x1 x2 x3 x4 x5 hb3 HB2 HPL hxt
  go_upto_region 28 with fail
  have x0 := cellS (ob := .cells #[.string T, .string ⟨#[]⟩, .bool false, .bool true] 42) y0
  have x1 := cellS (ob := .cells #[.string T, .string ⟨#[]⟩, .bool false, .bool true] 42) y1
  have x2 := cellS (ob := .cells #[.string T, .string ⟨#[]⟩, .bool false, .bool true] 42) y2
  have x3 := cellS (ob := .cells #[.string T, .string ⟨#[]⟩, .bool false, .bool true] 42) y3
  have x4 := cellS (ob := .cells #[.string T, .string ⟨#[]⟩, .bool false, .bool true] 42) y4
  have x5 := cellS (ob := .cells #[.string T, .string ⟨#[]⟩, .bool false, .bool true] 42) y5
  have v1 : (w3.alloc (.cells #[.string T, .string ⟨#[]⟩, .bool false, .bool true] 42)).cell? ⟨w3.heap.size, 1, none⟩ = some (.string ⟨#[]⟩) := by simp
  have v2 : (w3.alloc (.cells #[.string T, .string ⟨#[]⟩, .bool false, .bool true] 42)).cell? ⟨w3.heap.size, 2, none⟩ = some (.bool false) := by simp
  have v3 : (w3.alloc (.cells #[.string T, .string ⟨#[]⟩, .bool false, .bool true] 42)).cell? ⟨w3.heap.size, 3, none⟩ = some (.bool true) := by simp
  have HB4 := hide (HB3.out.alloc HB3.out.size (.cells #[.string T, .string ⟨#[]⟩, .bool false, .bool true] 42))
  clear y0 y1 y2 y3 y4 y5 HB3
  generalize w3.alloc (.cells #[.string T, .string ⟨#[]⟩, .bool false, .bool true] 42) = w4 at *
  by_cases h1 : (3 : Int) ≤ 1 + j1
  · skip
    have hdd : dd = true := by rw [HD.out, decide_eq_true h1]; rfl
    subst hdd
    have hdl : db.size = 3 := HL.out rfl
    clear HD HL
    go_wp2_with fail
    refine (HSH.out _ HB4.out).mono ?_
    rintro e w5 ⟨rfl, hb5⟩
    have y1 := cellB x1 hb5
    have y3 := cellB x3 hb5
    have HB5 := hide (HB4.out.trans (hb5.mono HB4.out.size))
    clear x0 x1 x2 x3 x4 x5 v1 v2 v3 hb5 HB4 HSH
    go_wp2_with fail
    go_ret
    exact ⟨rfl, HB5.out⟩
  · skip
    have hdd : dd = false := by rw [HD.out, decide_eq_false h1, Bool.false_and]
    subst hdd
    clear HD HL
    go_wp2_with fail
    refine (HSH.out _ HB4.out).mono ?_
    rintro e w5 ⟨rfl, hb5⟩
    have y1 := cellB x1 hb5
    have y3 := cellB x3 hb5
    have HB5 := hide (HB4.out.trans (hb5.mono HB4.out.size))
    clear x0 x1 x2 x3 x4 x5 v1 v2 v3 hb5 HB4 HSH
    go_wp2_with fail
    go_ret
    exact ⟨rfl, HB5.out⟩

set_option maxRecDepth 100000 in
set_option maxHeartbeats 16000000 in
theorem k_Rings_three_broken (c s : Int) (j1 j2 : Nat) (W : World) (dd wh : Bool) (db : ByteArray) (pts : Int) (hj1 : j1 < 6) (hj2 : j2 < 61)
    (hp1 : ∀ w, Calls Tryz.prog 18 #[.int .i64 c, .int .i64 6] w fun e w' => e = .returned (.int .i64 j1) ∧ w' = w) (hp2 : ∀ w, Calls Tryz.prog 18 #[.int .i64 s, .int .i64 61] w fun e w' => e = .returned (.int .i64 j2) ∧ w' = w)
    (hS : ∀ w, Below W.heap.size W w → Calls Tryz.prog 20 #[.string ⟨#[108, 111, 99, 107, 115, 32, 109, 44, 32, 110, 44, 32, 111, 59, 32, 112, 114, 111, 99, 32, 112, 40, 41, 32, 123, 32, 97, 99, 113, 117, 105, 114, 101, 32, 109, 59, 32, 97, 99, 113, 117, 105, 114, 101, 32, 110, 59, 32, 114, 101, 108, 101, 97, 115, 101, 32, 110, 59, 32, 114, 101, 108, 101, 97, 115, 101, 32, 109, 59, 32, 125, 32, 112, 114, 111, 99, 32, 113, 40, 41, 32, 123, 32, 97, 99, 113, 117, 105, 114, 101, 32, 110, 59, 32, 97, 99, 113, 117, 105, 114, 101, 32, 111, 59, 32, 114, 101, 108, 101, 97, 115, 101, 32, 111, 59, 32, 114, 101, 108, 101, 97, 115, 101, 32, 110, 59, 32, 125, 32, 112, 114, 111, 99, 32, 114, 40, 41, 32, 123, 32, 97, 99, 113, 117, 105, 114, 101, 32, 109, 59, 32, 97, 99, 113, 117, 105, 114, 101, 32, 111, 59, 32, 114, 101, 108, 101, 97, 115, 101, 32, 111, 59, 32, 114, 101, 108, 101, 97, 115, 101, 32, 109, 59, 32, 125, 32, 116, 104, 114, 101, 97, 100, 115, 32, 112, 44, 32, 113, 44, 32, 114, 59]⟩, .int .i64 (1 + j1), .int .i64 3] w fun e w' => e = .returned (.tuple #[.agg #[.bool false, .bool dd, .string ⟨#[]⟩, .string db, .bool wh, .int .i64 pts], .int .i64 0]) ∧ Below w.heap.size w w')
    (hP : ∀ w, Below W.heap.size W w → Calls Tryz.prog 22 #[.string ⟨#[108, 111, 99, 107, 115, 32, 109, 44, 32, 110, 44, 32, 111, 59, 32, 112, 114, 111, 99, 32, 112, 40, 41, 32, 123, 32, 97, 99, 113, 117, 105, 114, 101, 32, 109, 59, 32, 97, 99, 113, 117, 105, 114, 101, 32, 110, 59, 32, 114, 101, 108, 101, 97, 115, 101, 32, 110, 59, 32, 114, 101, 108, 101, 97, 115, 101, 32, 109, 59, 32, 125, 32, 112, 114, 111, 99, 32, 113, 40, 41, 32, 123, 32, 97, 99, 113, 117, 105, 114, 101, 32, 110, 59, 32, 97, 99, 113, 117, 105, 114, 101, 32, 111, 59, 32, 114, 101, 108, 101, 97, 115, 101, 32, 111, 59, 32, 114, 101, 108, 101, 97, 115, 101, 32, 110, 59, 32, 125, 32, 112, 114, 111, 99, 32, 114, 40, 41, 32, 123, 32, 97, 99, 113, 117, 105, 114, 101, 32, 109, 59, 32, 97, 99, 113, 117, 105, 114, 101, 32, 111, 59, 32, 114, 101, 108, 101, 97, 115, 101, 32, 111, 59, 32, 114, 101, 108, 101, 97, 115, 101, 32, 109, 59, 32, 125, 32, 116, 104, 114, 101, 97, 100, 115, 32, 112, 44, 32, 113, 44, 32, 114, 59]⟩, .string ⟨#[97, 98, 99]⟩] w fun e w' => e = .returned (.tuple #[.agg #[.string ⟨#[]⟩, .string ⟨#[]⟩, .bool false, .bool false], .int .i64 8, .int .i64 2]) ∧ Below w.heap.size w w') (hd : dd = false ∧ db = ⟨#[]⟩) :
    Calls Tryz.prog 11 #[.bool true, .int .i64 c, .int .i64 s, .bool true] W fun e w' => e = .returned (.bool true) ∧ Below W.heap.size W w' := by
  have HS := hide hS
  have HPL := hide hP
  have HE : Hid ((⟨#[108, 111, 99, 107, 115, 32, 109, 44, 32, 110, 44, 32, 111, 59, 32]⟩ : ByteArray) ++ ⟨#[112, 114, 111, 99, 32]⟩ ++ ⟨#[112]⟩ ++ ⟨#[40, 41, 32, 123, 32, 97, 99, 113, 117, 105, 114, 101, 32]⟩ ++ ⟨#[109]⟩ ++ ⟨#[59, 32, 97, 99, 113, 117, 105, 114, 101, 32]⟩ ++ ⟨#[110]⟩ ++ ⟨#[59, 32, 114, 101, 108, 101, 97, 115, 101, 32]⟩ ++ ⟨#[110]⟩ ++ ⟨#[59, 32, 114, 101, 108, 101, 97, 115, 101, 32]⟩ ++ ⟨#[109]⟩ ++ ⟨#[59, 32, 125, 32]⟩ ++ ⟨#[112, 114, 111, 99, 32]⟩ ++ ⟨#[113]⟩ ++ ⟨#[40, 41, 32, 123, 32, 97, 99, 113, 117, 105, 114, 101, 32]⟩ ++ ⟨#[110]⟩ ++ ⟨#[59, 32, 97, 99, 113, 117, 105, 114, 101, 32]⟩ ++ ⟨#[111]⟩ ++ ⟨#[59, 32, 114, 101, 108, 101, 97, 115, 101, 32]⟩ ++ ⟨#[111]⟩ ++ ⟨#[59, 32, 114, 101, 108, 101, 97, 115, 101, 32]⟩ ++ ⟨#[110]⟩ ++ ⟨#[59, 32, 125, 32]⟩ ++ ⟨#[112, 114, 111, 99, 32]⟩ ++ ⟨#[114]⟩ ++ ⟨#[40, 41, 32, 123, 32, 97, 99, 113, 117, 105, 114, 101, 32]⟩ ++ ⟨#[109]⟩ ++ ⟨#[59, 32, 97, 99, 113, 117, 105, 114, 101, 32]⟩ ++ ⟨#[111]⟩ ++ ⟨#[59, 32, 114, 101, 108, 101, 97, 115, 101, 32]⟩ ++ ⟨#[111]⟩ ++ ⟨#[59, 32, 114, 101, 108, 101, 97, 115, 101, 32]⟩ ++ ⟨#[109]⟩ ++ ⟨#[59, 32, 125, 32]⟩ ++ ⟨#[116, 104, 114, 101, 97, 100, 115, 32, 112, 44, 32, 113, 44, 32, 114, 59]⟩ = ⟨#[108, 111, 99, 107, 115, 32, 109, 44, 32, 110, 44, 32, 111, 59, 32, 112, 114, 111, 99, 32, 112, 40, 41, 32, 123, 32, 97, 99, 113, 117, 105, 114, 101, 32, 109, 59, 32, 97, 99, 113, 117, 105, 114, 101, 32, 110, 59, 32, 114, 101, 108, 101, 97, 115, 101, 32, 110, 59, 32, 114, 101, 108, 101, 97, 115, 101, 32, 109, 59, 32, 125, 32, 112, 114, 111, 99, 32, 113, 40, 41, 32, 123, 32, 97, 99, 113, 117, 105, 114, 101, 32, 110, 59, 32, 97, 99, 113, 117, 105, 114, 101, 32, 111, 59, 32, 114, 101, 108, 101, 97, 115, 101, 32, 111, 59, 32, 114, 101, 108, 101, 97, 115, 101, 32, 110, 59, 32, 125, 32, 112, 114, 111, 99, 32, 114, 40, 41, 32, 123, 32, 97, 99, 113, 117, 105, 114, 101, 32, 109, 59, 32, 97, 99, 113, 117, 105, 114, 101, 32, 111, 59, 32, 114, 101, 108, 101, 97, 115, 101, 32, 111, 59, 32, 114, 101, 108, 101, 97, 115, 101, 32, 109, 59, 32, 125, 32, 116, 104, 114, 101, 97, 100, 115, 32, 112, 44, 32, 113, 44, 32, 114, 59]⟩) := by show _ = _; kernel_rfl
  have hsz := @ByteArray.size_append
  have hsiz := size_litR
  have hj1' : (j1 : Int) < 6 := by omega
  have hj2' : (j2 : Int) < 61 := by omega
  clear hS hP hj1 hj2
  have HD := hide hd
  clear hd
  go_enter Tryz.func11, Tryz.ntmps11
  go_wp2_with fail
  refine (hp1 _).mono ?_
  rintro e W ⟨rfl, rfl⟩
  go_wp2_with fail
  refine (hp2 _).mono ?_
  rintro e W ⟨rfl, rfl⟩
  go_wp2_with (first | (refine wp_loop_rounds 4 ?_) | (refine rounds_stepR ?_; intro _ _))
  rw [HE.out]
  clear HE
  generalize (⟨#[108, 111, 99, 107, 115, 32, 109, 44, 32, 110, 44, 32, 111, 59, 32, 112, 114, 111, 99, 32, 112, 40, 41, 32, 123, 32, 97, 99, 113, 117, 105, 114, 101, 32, 109, 59, 32, 97, 99, 113, 117, 105, 114, 101, 32, 110, 59, 32, 114, 101, 108, 101, 97, 115, 101, 32, 110, 59, 32, 114, 101, 108, 101, 97, 115, 101, 32, 109, 59, 32, 125, 32, 112, 114, 111, 99, 32, 113, 40, 41, 32, 123, 32, 97, 99, 113, 117, 105, 114, 101, 32, 110, 59, 32, 97, 99, 113, 117, 105, 114, 101, 32, 111, 59, 32, 114, 101, 108, 101, 97, 115, 101, 32, 111, 59, 32, 114, 101, 108, 101, 97, 115, 101, 32, 110, 59, 32, 125, 32, 112, 114, 111, 99, 32, 114, 40, 41, 32, 123, 32, 97, 99, 113, 117, 105, 114, 101, 32, 109, 59, 32, 97, 99, 113, 117, 105, 114, 101, 32, 111, 59, 32, 114, 101, 108, 101, 97, 115, 101, 32, 111, 59, 32, 114, 101, 108, 101, 97, 115, 101, 32, 109, 59, 32, 125, 32, 116, 104, 114, 101, 97, 100, 115, 32, 112, 44, 32, 113, 44, 32, 114, 59]⟩ : ByteArray) = tx at *
  refine (HS.out _ (((Below.refl _ _).alloc (Nat.le_refl _) _).alloc (by simp) _)).mono ?_
  rintro e w1 ⟨rfl, hb1⟩
  have HB1 := hide ((((Below.refl W.heap.size W).alloc (Nat.le_refl _) _).alloc (by simp) _).trans (hb1.mono (by simp; omega)))
  clear hb1 HS hsz hsiz
  go_upto_region 24 with fail
  have x0 : (w1.alloc (.cells #[.bool false, .bool dd, .string ⟨#[]⟩, .string db, .bool wh, .int .i64 pts] 35)).cell? ⟨w1.heap.size, 0, none⟩ = some (.bool false) := by simp
  have x1 : (w1.alloc (.cells #[.bool false, .bool dd, .string ⟨#[]⟩, .string db, .bool wh, .int .i64 pts] 35)).cell? ⟨w1.heap.size, 1, none⟩ = some (.bool dd) := by simp
  have x2 : (w1.alloc (.cells #[.bool false, .bool dd, .string ⟨#[]⟩, .string db, .bool wh, .int .i64 pts] 35)).cell? ⟨w1.heap.size, 2, none⟩ = some (.string ⟨#[]⟩) := by simp
  have x3 : (w1.alloc (.cells #[.bool false, .bool dd, .string ⟨#[]⟩, .string db, .bool wh, .int .i64 pts] 35)).cell? ⟨w1.heap.size, 3, none⟩ = some (.string db) := by simp
  have x4 : (w1.alloc (.cells #[.bool false, .bool dd, .string ⟨#[]⟩, .string db, .bool wh, .int .i64 pts] 35)).cell? ⟨w1.heap.size, 4, none⟩ = some (.bool wh) := by simp
  have x5 : (w1.alloc (.cells #[.bool false, .bool dd, .string ⟨#[]⟩, .string db, .bool wh, .int .i64 pts] 35)).cell? ⟨w1.heap.size, 5, none⟩ = some (.int .i64 pts) := by simp
  have HB2 := hide (HB1.out.alloc HB1.out.size (.cells #[.bool false, .bool dd, .string ⟨#[]⟩, .string db, .bool wh, .int .i64 pts] 35))
  clear HB1
  generalize w1.alloc (.cells #[.bool false, .bool dd, .string ⟨#[]⟩, .string db, .bool wh, .int .i64 pts] 35) = w2 at *
  have hxt : (⟨#[97, 98, 99]⟩ : ByteArray).extract 0 3 = ⟨#[97, 98, 99]⟩ := by kernel_rfl
  go_wp2_with fail
  refine (HPL.out _ HB2.out).mono ?_
  rintro e w3 ⟨rfl, hb3⟩
  have y0 := cellB x0 hb3
  have y1 := cellB x1 hb3
  have y2 := cellB x2 hb3
  have y3 := cellB x3 hb3
  have y4 := cellB x4 hb3
  have y5 := cellB x5 hb3
  have HB3 := hide (HB2.out.trans (hb3.mono HB2.out.size))
  clear x0 x1 x2 x3 x4 x5 hb3 HB2 HPL hxt
  go_upto_region 28 with fail
  have x0 := cellS (ob := .cells #[.string ⟨#[]⟩, .string ⟨#[]⟩, .bool false, .bool false] 42) y0
  have x1 := cellS (ob := .cells #[.string ⟨#[]⟩, .string ⟨#[]⟩, .bool false, .bool false] 42) y1
  have x2 := cellS (ob := .cells #[.string ⟨#[]⟩, .string ⟨#[]⟩, .bool false, .bool false] 42) y2
  have x3 := cellS (ob := .cells #[.string ⟨#[]⟩, .string ⟨#[]⟩, .bool false, .bool false] 42) y3
  have x4 := cellS (ob := .cells #[.string ⟨#[]⟩, .string ⟨#[]⟩, .bool false, .bool false] 42) y4
  have x5 := cellS (ob := .cells #[.string ⟨#[]⟩, .string ⟨#[]⟩, .bool false, .bool false] 42) y5
  have v1 : (w3.alloc (.cells #[.string ⟨#[]⟩, .string ⟨#[]⟩, .bool false, .bool false] 42)).cell? ⟨w3.heap.size, 1, none⟩ = some (.string ⟨#[]⟩) := by simp
  have v2 : (w3.alloc (.cells #[.string ⟨#[]⟩, .string ⟨#[]⟩, .bool false, .bool false] 42)).cell? ⟨w3.heap.size, 2, none⟩ = some (.bool false) := by simp
  have v3 : (w3.alloc (.cells #[.string ⟨#[]⟩, .string ⟨#[]⟩, .bool false, .bool false] 42)).cell? ⟨w3.heap.size, 3, none⟩ = some (.bool false) := by simp
  have HB4 := hide (HB3.out.alloc HB3.out.size (.cells #[.string ⟨#[]⟩, .string ⟨#[]⟩, .bool false, .bool false] 42))
  clear y0 y1 y2 y3 y4 y5 HB3
  generalize w3.alloc (.cells #[.string ⟨#[]⟩, .string ⟨#[]⟩, .bool false, .bool false] 42) = w4 at *
  obtain ⟨rfl, rfl⟩ := HD.out
  clear HD
  go_wp2_with fail
  go_ret
  exact ⟨rfl, HB4.out⟩


end Go.Proofs.YtmfcpbhdggonfaaGreatDoor
