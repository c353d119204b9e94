/- The statement Guarded, over what Search and Play answer. -/
import Derived.Test.YtmfcpbhdggonfaaGreatDoorMgBM
namespace Go.Proofs.YtmfcpbhdggonfaaGreatDoor
open Go.RowKit

/-- So many times one string. -/
def timesG (s : ByteArray) : Nat → ByteArray
  | 0 => ⟨#[]⟩
  | k + 1 => timesG s k ++ s
theorem timesG_size (s : ByteArray) : ∀ k, (timesG s k).size = k * s.size
  | 0 => by rw [timesG, Nat.zero_mul]; rfl
  | k + 1 => by rw [timesG, ByteArray.size_append, timesG_size s k, Nat.succ_mul]
set_option maxRecDepth 100000 in
set_option maxHeartbeats 2000000 in
theorem k_timesG (s : ByteArray) (n : Nat) (hn : n ≤ 1000) (hs : s.size ≤ 1000) (w : World) :
    Calls Tryz.prog 24 #[.string s, .int .i64 n] w fun e w' => e = .returned (.string (timesG s n)) ∧ w' = w := by
  go_enter Tryz.func24, Tryz.ntmps24
  go_wp2
  go_loop [5, 6] (fun v u => ∃ k : Nat, v = .string (timesG s k) ∧ u = .int .i64 k ∧ k ≤ n) (fun _ u => n - (intOf u).toNat)
  case atStart => exact ⟨0, rfl, rfl, Nat.zero_le _⟩
  case round =>
    obtain ⟨k, rfl, rfl, hk⟩ := hrel
    have hz : (timesG s k).size ≤ 1000000 := by
      rw [timesG_size]
      exact Nat.le_trans (Nat.mul_le_mul (Nat.le_trans hk hn) hs) (by decide)
    by_cases hlt : k < n
    · have hlt' : (k : Int) < n := by omega
      go_wp2
      refine ⟨⟨k + 1, rfl, by go_num, by omega⟩, ?_⟩
      simp [intOf]; omega
    · have hks : k = n := by omega
      subst hks
      go_wp2
      go_ret
      exact ⟨rfl, rfl⟩
set_option maxRecDepth 100000 in
set_option maxHeartbeats 1000000 in
theorem k_pickG (c m : Int) (hc : -9223372036854775808 ≤ c ∧ c ≤ 9223372036854775807) (hm : 0 < m ∧ m ≤ 1000) :
    ∃ j : Nat, (j : Int) < m ∧ ∀ w, Calls Tryz.prog 18 #[.int .i64 c, .int .i64 m] w fun e w' => e = .returned (.int .i64 j) ∧ w' = w := by
  by_cases h : c < 0
  · have hz : 0 ≤ -(c + 1) := by omega
    have e1 : (-(c + 1)).tmod m = (-(c + 1)) % m := Int.tmod_eq_emod_of_nonneg hz
    have e2 := Int.emod_nonneg (-(c + 1)) (show m ≠ 0 by omega)
    have e3 := Int.emod_lt_of_pos (-(c + 1)) hm.1
    have e4 := Int.neg_tmod (c + 1) m
    obtain ⟨j, hj⟩ : ∃ j : Nat, (-(c + 1)) % m = (j : Int) := ⟨_, (Int.toNat_of_nonneg e2).symm⟩
    have HJ : Hid (-(c + 1).tmod m = (j : Int)) := by show _ = _; rw [← e4, e1, hj]
    refine ⟨j, by rw [← hj]; exact e3, fun w => ?_⟩
    clear e1 e2 e3 e4 hj
    have hm1 := hm.1
    have hmne : ¬ m = 0 := by omega
    go_enter Tryz.func18, Tryz.ntmps18
    go_wp2
    go_ret
    exact ⟨congrArg (fun z => Ending.returned (.int .i64 z)) HJ.out, rfl⟩
  · have hz : 0 ≤ c := by omega
    have e2 := Int.emod_nonneg c (show m ≠ 0 by omega)
    have e3 := Int.emod_lt_of_pos c hm.1
    obtain ⟨j, hj⟩ : ∃ j : Nat, c % m = (j : Int) := ⟨_, (Int.toNat_of_nonneg e2).symm⟩
    have HJ : Hid (c % m = (j : Int)) := hj
    refine ⟨j, by rw [← hj]; exact e3, fun w => ?_⟩
    clear e2 e3 hj
    have hm1 := hm.1
    have hmne : ¬ m = 0 := by omega
    go_enter Tryz.func18, Tryz.ntmps18
    go_wp2
    go_ret
    exact ⟨congrArg (fun z => Ending.returned (.int .i64 z)) HJ.out, rfl⟩

def TimesR (s : ByteArray) (x : Int) (r : ByteArray) : Prop := ∀ w, Calls Tryz.prog 24 #[.string s, .int .i64 x] w fun e w' => e = .returned (.string r) ∧ w' = w
def PickR (x m : Int) (j : Nat) : Prop := ∀ w, Calls Tryz.prog 18 #[.int .i64 x, .int .i64 m] w fun e w' => e = .returned (.int .i64 j) ∧ w' = w

set_option maxRecDepth 100000 in
set_option maxHeartbeats 16000000 in
theorem k_Guarded_bare (k l c n : Int) (K L j1 j2 : Nat) (hK : K < 3) (hL : L < 3) (hj1 : j1 < 6) (hj2 : j2 < 61) (W : World) (rr wh : Bool) (sp sq sa sb rb : ByteArray) (pts : Int)
    (q1 : PickR k 3 K) (q2 : PickR l 3 L) (q3 : PickR c 6 j1) (q4 : PickR n 61 j2) (t1 : TimesR ⟨#[32, 115, 107, 105, 112, 59]⟩ K sp) (t2 : TimesR ⟨#[115, 107, 105, 112, 59, 32]⟩ L sq) (t3 : TimesR ⟨#[97]⟩ ((K : Int) + 2) sa) (t4 : TimesR ⟨#[98]⟩ ((L : Int) + 2) sb) (zp : sp.size ≤ 100) (zq : sq.size ≤ 100) (za : sa.size ≤ 100) (zb : sb.size ≤ 100)
    (hS : ∀ w, Below W.heap.size W w → Calls Tryz.prog 20 #[.string ((⟨#[115, 104, 97, 114, 101, 100, 32, 120, 59, 32, 108, 111, 99, 107, 115, 32, 109, 59, 32, 112, 114, 111, 99, 32, 112, 40, 41, 32, 123]⟩ : ByteArray) ++ sp ++ ⟨#[120, 32, 61, 32, 33, 120, 59]⟩ ++ ⟨#[125, 32, 112, 114, 111, 99, 32, 113, 40, 41, 32, 123]⟩ ++ sq ++ ⟨#[120, 32, 61, 32, 33, 120, 59]⟩ ++ ⟨#[32, 125, 32, 116, 104, 114, 101, 97, 100, 115, 32, 112, 44, 32, 113, 59]⟩), .int .i64 (1 + j1), .int .i64 (j2 : Int)] w fun e w' => e = .returned (.tuple #[.agg #[.bool rr, .bool false, .string rb, .string ⟨#[]⟩, .bool wh, .int .i64 pts], .int .i64 0]) ∧ Below w.heap.size w w')
    (hP : ∀ w, Below W.heap.size W w → Calls Tryz.prog 22 #[.string ((⟨#[115, 104, 97, 114, 101, 100, 32, 120, 59, 32, 108, 111, 99, 107, 115, 32, 109, 59, 32, 112, 114, 111, 99, 32, 112, 40, 41, 32, 123]⟩ : ByteArray) ++ sp ++ ⟨#[120, 32, 61, 32, 33, 120, 59]⟩ ++ ⟨#[125, 32, 112, 114, 111, 99, 32, 113, 40, 41, 32, 123]⟩ ++ sq ++ ⟨#[120, 32, 61, 32, 33, 120, 59]⟩ ++ ⟨#[32, 125, 32, 116, 104, 114, 101, 97, 100, 115, 32, 112, 44, 32, 113, 59]⟩), .string (sa ++ sb)] w fun e w' => e = .returned (.tuple #[.agg #[.string ⟨#[48, 47, 45, 47, 47]⟩, .string ⟨#[]⟩, .bool false, .bool false], .int .i64 0, .int .i64 0]) ∧ Below w.heap.size w w') (hd : rr = (decide ((if 0 < K then (1 : Int) else 0) + (if 0 < L then 1 else 0) ≤ 1 + j1) && decide ((K : Int) + L ≤ j2))) (hl : rr = true → rb.size = K + L) (hsh : ∀ w, Below W.heap.size W w → Calls Tryz.prog 21 #[.string ((⟨#[115, 104, 97, 114, 101, 100, 32, 120, 59, 32, 108, 111, 99, 107, 115, 32, 109, 59, 32, 112, 114, 111, 99, 32, 112, 40, 41, 32, 123]⟩ : ByteArray) ++ sp ++ ⟨#[120, 32, 61, 32, 33, 120, 59]⟩ ++ ⟨#[125, 32, 112, 114, 111, 99, 32, 113, 40, 41, 32, 123]⟩ ++ sq ++ ⟨#[120, 32, 61, 32, 33, 120, 59]⟩ ++ ⟨#[32, 125, 32, 116, 104, 114, 101, 97, 100, 115, 32, 112, 44, 32, 113, 59]⟩), .agg #[.bool rr, .bool false, .string rb, .string ⟨#[]⟩, .bool wh, .int .i64 pts], .int .i64 (1 + j1), .int .i64 (j2 : Int)] w fun e w' => e = .returned (.bool true) ∧ Below w.heap.size w w') :
    Calls Tryz.prog 10 #[.int .i64 k, .int .i64 l, .int .i64 c, .int .i64 n, .bool false] W fun e w' => e = .returned (.bool true) ∧ Below W.heap.size W w' := by
  have HS := hide hS
  have HPL := hide hP
  have hsz := @ByteArray.size_append
  have z1 : (⟨#[115, 104, 97, 114, 101, 100, 32, 120, 59, 32, 108, 111, 99, 107, 115, 32, 109, 59, 32, 112, 114, 111, 99, 32, 112, 40, 41, 32, 123]⟩ : ByteArray).size = 29 := rfl
  have z2 : (⟨#[120, 32, 61, 32, 33, 120, 59]⟩ : ByteArray).size = 7 := rfl
  have z3 : (⟨#[125, 32, 112, 114, 111, 99, 32, 113, 40, 41, 32, 123]⟩ : ByteArray).size = 12 := rfl
  have z4 : (⟨#[32, 125, 32, 116, 104, 114, 101, 97, 100, 115, 32, 112, 44, 32, 113, 59]⟩ : ByteArray).size = 16 := rfl
  have hj1' : (j1 : Int) < 6 := by omega
  have hj2' : (j2 : Int) < 61 := by omega
  have hK' : (K : Int) < 3 := by omega
  have hL' : (L : Int) < 3 := by omega
  have Q1 := hide q1
  have Q2 := hide q2
  have Q3 := hide q3
  have Q4 := hide q4
  have T1 := hide t1
  have T2 := hide t2
  have T3 := hide t3
  have T4 := hide t4
  clear hS hP hj1 hj2 q1 q2 q3 q4 t1 t2 t3 t4 hK hL
  have HD := hide hd
  have HL := hide hl
  have HSH := hide hsh
  clear hd hl hsh
  go_enter Tryz.func10, Tryz.ntmps10
  go_wp2_with fail
  refine (Q1.out _).mono ?_
  rintro e W ⟨rfl, rfl⟩
  go_wp2_with fail
  refine (Q2.out _).mono ?_
  rintro e W ⟨rfl, rfl⟩
  go_wp2_with fail
  refine (Q3.out _).mono ?_
  rintro e W ⟨rfl, rfl⟩
  go_wp2_with fail
  refine (Q4.out _).mono ?_
  rintro e W ⟨rfl, rfl⟩
  go_wp2_with fail
  refine (T1.out _).mono ?_
  rintro e W ⟨rfl, rfl⟩
  go_wp2_with fail
  refine (T2.out _).mono ?_
  rintro e W ⟨rfl, rfl⟩
  go_wp2_with fail
  generalize (⟨#[115, 104, 97, 114, 101, 100, 32, 120, 59, 32, 108, 111, 99, 107, 115, 32, 109, 59, 32, 112, 114, 111, 99, 32, 112, 40, 41, 32, 123]⟩ : ByteArray) ++ sp ++ ⟨#[120, 32, 61, 32, 33, 120, 59]⟩ ++ ⟨#[125, 32, 112, 114, 111, 99, 32, 113, 40, 41, 32, 123]⟩ ++ sq ++ ⟨#[120, 32, 61, 32, 33, 120, 59]⟩ ++ ⟨#[32, 125, 32, 116, 104, 114, 101, 97, 100, 115, 32, 112, 44, 32, 113, 59]⟩ = tx at *
  refine (HS.out _ (Below.refl _ _)).mono ?_
  rintro e w1 ⟨rfl, hb1⟩
  have HB1 := hide hb1
  clear hb1 HS
  go_upto_region 13 with fail
  have x0 : (w1.alloc (.cells #[.bool rr, .bool false, .string rb, .string ⟨#[]⟩, .bool wh, .int .i64 pts] 35)).cell? ⟨w1.heap.size, 0, none⟩ = some (.bool rr) := by simp
  have x1 : (w1.alloc (.cells #[.bool rr, .bool false, .string rb, .string ⟨#[]⟩, .bool wh, .int .i64 pts] 35)).cell? ⟨w1.heap.size, 1, none⟩ = some (.bool false) := by simp
  have x2 : (w1.alloc (.cells #[.bool rr, .bool false, .string rb, .string ⟨#[]⟩, .bool wh, .int .i64 pts] 35)).cell? ⟨w1.heap.size, 2, none⟩ = some (.string rb) := by simp
  have x3 : (w1.alloc (.cells #[.bool rr, .bool false, .string rb, .string ⟨#[]⟩, .bool wh, .int .i64 pts] 35)).cell? ⟨w1.heap.size, 3, none⟩ = some (.string ⟨#[]⟩) := by simp
  have x4 : (w1.alloc (.cells #[.bool rr, .bool false, .string rb, .string ⟨#[]⟩, .bool wh, .int .i64 pts] 35)).cell? ⟨w1.heap.size, 4, none⟩ = some (.bool wh) := by simp
  have x5 : (w1.alloc (.cells #[.bool rr, .bool false, .string rb, .string ⟨#[]⟩, .bool wh, .int .i64 pts] 35)).cell? ⟨w1.heap.size, 5, none⟩ = some (.int .i64 pts) := by simp
  have HB2 := hide (HB1.out.alloc HB1.out.size (.cells #[.bool rr, .bool false, .string rb, .string ⟨#[]⟩, .bool wh, .int .i64 pts] 35))
  clear HB1
  generalize w1.alloc (.cells #[.bool rr, .bool false, .string rb, .string ⟨#[]⟩, .bool wh, .int .i64 pts] 35) = w2 at *
  go_wp2_with fail
  refine (T3.out _).mono ?_
  rintro e w2 ⟨rfl, rfl⟩
  go_wp2_with fail
  refine (T4.out _).mono ?_
  rintro e w2 ⟨rfl, rfl⟩
  go_wp2_with fail
  refine (HPL.out _ HB2.out).mono ?_
  rintro e w3 ⟨rfl, hb3⟩
  have y0 := cellB x0 hb3
  have y1 := cellB x1 hb3
  have y2 := cellB x2 hb3
  have y3 := cellB x3 hb3
  have y4 := cellB x4 hb3
  have y5 := cellB x5 hb3
  have HB3 := hide (HB2.out.trans (hb3.mono HB2.out.size))
  clear x0 x1 x2 x3 x4 x5 hb3 HB2 HPL hsz z1 z2 z3 z4
  go_upto_region 19 with fail
  have x0 := cellS (ob := .cells #[.string ⟨#[48, 47, 45, 47, 47]⟩, .string ⟨#[]⟩, .bool false, .bool false] 42) y0
  have x1 := cellS (ob := .cells #[.string ⟨#[48, 47, 45, 47, 47]⟩, .string ⟨#[]⟩, .bool false, .bool false] 42) y1
  have x2 := cellS (ob := .cells #[.string ⟨#[48, 47, 45, 47, 47]⟩, .string ⟨#[]⟩, .bool false, .bool false] 42) y2
  have x3 := cellS (ob := .cells #[.string ⟨#[48, 47, 45, 47, 47]⟩, .string ⟨#[]⟩, .bool false, .bool false] 42) y3
  have x4 := cellS (ob := .cells #[.string ⟨#[48, 47, 45, 47, 47]⟩, .string ⟨#[]⟩, .bool false, .bool false] 42) y4
  have x5 := cellS (ob := .cells #[.string ⟨#[48, 47, 45, 47, 47]⟩, .string ⟨#[]⟩, .bool false, .bool false] 42) y5
  have v0 : (w3.alloc (.cells #[.string ⟨#[48, 47, 45, 47, 47]⟩, .string ⟨#[]⟩, .bool false, .bool false] 42)).cell? ⟨w3.heap.size, 0, none⟩ = some (.string ⟨#[48, 47, 45, 47, 47]⟩) := by simp
  have v1 : (w3.alloc (.cells #[.string ⟨#[48, 47, 45, 47, 47]⟩, .string ⟨#[]⟩, .bool false, .bool false] 42)).cell? ⟨w3.heap.size, 1, none⟩ = some (.string ⟨#[]⟩) := by simp
  have v2 : (w3.alloc (.cells #[.string ⟨#[48, 47, 45, 47, 47]⟩, .string ⟨#[]⟩, .bool false, .bool false] 42)).cell? ⟨w3.heap.size, 2, none⟩ = some (.bool false) := by simp
  have v3 : (w3.alloc (.cells #[.string ⟨#[48, 47, 45, 47, 47]⟩, .string ⟨#[]⟩, .bool false, .bool false] 42)).cell? ⟨w3.heap.size, 3, none⟩ = some (.bool false) := by simp
  have HB4 := hide (HB3.out.alloc HB3.out.size (.cells #[.string ⟨#[48, 47, 45, 47, 47]⟩, .string ⟨#[]⟩, .bool false, .bool false] 42))
  clear y0 y1 y2 y3 y4 y5 HB3
  generalize w3.alloc (.cells #[.string ⟨#[48, 47, 45, 47, 47]⟩, .string ⟨#[]⟩, .bool false, .bool false] 42) = w4 at *
  go_upto_if 124 with fail
  go_cut [21] (fun u wx => u = .int .i64 (if 0 < K then (1 : Int) else 0) ∧ w4 = wx)
  case first =>
    by_cases hk : 0 < K
    · have hk1 : (0 : Int) < K := by omega
      go_wp2_with fail
      go_meet
      case rel => exact ⟨by rw [if_pos hk], rfl⟩
    · have hk1 : ¬ (0 : Int) < K := by omega
      go_wp2_with fail
      go_meet
      case rel => exact ⟨by rw [if_neg hk], rfl⟩
  case rest =>
    obtain ⟨rfl, hq⟩ := hcut
    subst hq
    have hw1 : 0 ≤ (if 0 < K then (1 : Int) else 0) ∧ (if 0 < K then (1 : Int) else 0) ≤ 1 := by split <;> omega
    generalize (if 0 < K then (1 : Int) else 0) = wa at *
    go_upto_if 128 with fail
    go_cut [21] (fun u wx => u = .int .i64 (wa + (if 0 < L then (1 : Int) else 0)) ∧ w4 = wx)
    case first =>
      by_cases hk : 0 < L
      · have hk1 : (0 : Int) < L := by omega
        go_wp2_with fail
        go_meet
        case rel => exact ⟨by rw [if_pos hk], rfl⟩
      · have hk1 : ¬ (0 : Int) < L := by omega
        go_wp2_with fail
        go_meet
        case rel => exact ⟨by rw [if_neg hk]; simp, rfl⟩
    case rest =>
      obtain ⟨rfl, hq⟩ := hcut
      subst hq
      generalize wa + (if 0 < L then (1 : Int) else 0) = wb at *
      by_cases h1 : wb ≤ 1 + j1
      · by_cases h2 : (K : Int) + L ≤ j2
        · have hdd : rr = true := by rw [HD.out, decide_eq_true h1, decide_eq_true h2]; rfl
          subst hdd
          have hdl : rb.size = K + L := HL.out rfl
          clear HD HL
          go_wp2_with fail
          refine (HSH.out _ HB4.out).mono ?_
          rintro e w5 ⟨rfl, hb5⟩
          have y0 := cellB x0 hb5
          have y2 := cellB x2 hb5
          have HB5 := hide (HB4.out.trans (hb5.mono HB4.out.size))
          clear x0 x1 x2 x3 x4 x5 v0 v1 v2 v3 hb5 HB4 HSH
          go_wp2_with fail
          go_ret
          exact ⟨rfl, HB5.out⟩
        · have hdd : rr = false := by rw [HD.out, decide_eq_false h2, Bool.and_false]
          subst hdd
          clear HD HL
          go_wp2_with fail
          refine (HSH.out _ HB4.out).mono ?_
          rintro e w5 ⟨rfl, hb5⟩
          have y0 := cellB x0 hb5
          have y2 := cellB x2 hb5
          have HB5 := hide (HB4.out.trans (hb5.mono HB4.out.size))
          clear x0 x1 x2 x3 x4 x5 v0 v1 v2 v3 hb5 HB4 HSH
          go_wp2_with fail
          go_ret
          exact ⟨rfl, HB5.out⟩
      · have hdd : rr = false := by rw [HD.out, decide_eq_false h1, Bool.false_and]
        subst hdd
        clear HD HL
        go_wp2_with fail
        refine (HSH.out _ HB4.out).mono ?_
        rintro e w5 ⟨rfl, hb5⟩
        have y0 := cellB x0 hb5
        have y2 := cellB x2 hb5
        have HB5 := hide (HB4.out.trans (hb5.mono HB4.out.size))
        clear x0 x1 x2 x3 x4 x5 v0 v1 v2 v3 hb5 HB4 HSH
        go_wp2_with fail
        go_ret
        exact ⟨rfl, HB5.out⟩

set_option maxRecDepth 100000 in
set_option maxHeartbeats 16000000 in
theorem k_Guarded_lock (k l c n : Int) (K0 L0 K L j1 j2 : Nat) (hk1 : (K0 : Int).tmod 2 = K) (hk2 : (L0 : Int).tmod 2 = L) (hk3 : (K0 : Int) % 2 = K) (hk4 : (L0 : Int) % 2 = L) (_hK0 : K0 < 3) (_hL0 : L0 < 3) (_hK : K < 2) (_hL : L < 2) (hj1 : j1 < 6) (hj2 : j2 < 61) (W : World) (rr wh : Bool) (sp sq sa sb sa0 sb0 rb : ByteArray) (pts : Int)
    (q1 : PickR k 3 K0) (q2 : PickR l 3 L0) (q3 : PickR c 6 j1) (q4 : PickR n 61 j2) (t1 : TimesR ⟨#[32, 115, 107, 105, 112, 59]⟩ K sp) (t2 : TimesR ⟨#[115, 107, 105, 112, 59, 32]⟩ L sq) (t3 : TimesR ⟨#[97]⟩ ((K : Int) + 4) sa) (t4 : TimesR ⟨#[98]⟩ ((L : Int) + 4) sb) (t5 : TimesR ⟨#[97]⟩ ((K : Int) + 2) sa0) (t6 : TimesR ⟨#[98]⟩ ((L : Int) + 2) sb0) (za0 : sa0.size ≤ 100) (zb0 : sb0.size ≤ 100) (zp : sp.size ≤ 100) (zq : sq.size ≤ 100) (za : sa.size ≤ 100) (zb : sb.size ≤ 100)
    (hS : ∀ w, Below W.heap.size W w → Calls Tryz.prog 20 #[.string ((⟨#[115, 104, 97, 114, 101, 100, 32, 120, 59, 32, 108, 111, 99, 107, 115, 32, 109, 59, 32, 112, 114, 111, 99, 32, 112, 40, 41, 32, 123]⟩ : ByteArray) ++ sp ++ ⟨#[97, 99, 113, 117, 105, 114, 101, 32, 109, 59, 32, 120, 32, 61, 32, 33, 120, 59, 32, 114, 101, 108, 101, 97, 115, 101, 32, 109, 59]⟩ ++ ⟨#[125, 32, 112, 114, 111, 99, 32, 113, 40, 41, 32, 123]⟩ ++ sq ++ ⟨#[97, 99, 113, 117, 105, 114, 101, 32, 109, 59, 32, 120, 32, 61, 32, 33, 120, 59, 32, 114, 101, 108, 101, 97, 115, 101, 32, 109, 59]⟩ ++ ⟨#[32, 125, 32, 116, 104, 114, 101, 97, 100, 115, 32, 112, 44, 32, 113, 59]⟩), .int .i64 (1 + j1), .int .i64 60] w fun e w' => e = .returned (.tuple #[.agg #[.bool rr, .bool false, .string rb, .string ⟨#[]⟩, .bool wh, .int .i64 pts], .int .i64 0]) ∧ Below w.heap.size w w')
    (hP : ∀ w, Below W.heap.size W w → Calls Tryz.prog 22 #[.string ((⟨#[115, 104, 97, 114, 101, 100, 32, 120, 59, 32, 108, 111, 99, 107, 115, 32, 109, 59, 32, 112, 114, 111, 99, 32, 112, 40, 41, 32, 123]⟩ : ByteArray) ++ sp ++ ⟨#[97, 99, 113, 117, 105, 114, 101, 32, 109, 59, 32, 120, 32, 61, 32, 33, 120, 59, 32, 114, 101, 108, 101, 97, 115, 101, 32, 109, 59]⟩ ++ ⟨#[125, 32, 112, 114, 111, 99, 32, 113, 40, 41, 32, 123]⟩ ++ sq ++ ⟨#[97, 99, 113, 117, 105, 114, 101, 32, 109, 59, 32, 120, 32, 61, 32, 33, 120, 59, 32, 114, 101, 108, 101, 97, 115, 101, 32, 109, 59]⟩ ++ ⟨#[32, 125, 32, 116, 104, 114, 101, 97, 100, 115, 32, 112, 44, 32, 113, 59]⟩), .string (sa ++ sb)] w fun e w' => e = .returned (.tuple #[.agg #[.string ⟨#[48, 47, 45, 47, 47]⟩, .string ⟨#[]⟩, .bool false, .bool false], .int .i64 0, .int .i64 0]) ∧ Below w.heap.size w w') (hd : rr = false ∧ rb = ⟨#[]⟩ ∧ wh = true) :
    Calls Tryz.prog 10 #[.int .i64 k, .int .i64 l, .int .i64 c, .int .i64 n, .bool true] W fun e w' => e = .returned (.bool true) ∧ Below W.heap.size W w' := by
  have HS := hide hS
  have HPL := hide hP
  have hsz := @ByteArray.size_append
  have z1 : (⟨#[115, 104, 97, 114, 101, 100, 32, 120, 59, 32, 108, 111, 99, 107, 115, 32, 109, 59, 32, 112, 114, 111, 99, 32, 112, 40, 41, 32, 123]⟩ : ByteArray).size = 29 := rfl
  have z2 : (⟨#[97, 99, 113, 117, 105, 114, 101, 32, 109, 59, 32, 120, 32, 61, 32, 33, 120, 59, 32, 114, 101, 108, 101, 97, 115, 101, 32, 109, 59]⟩ : ByteArray).size = 29 := rfl
  have z3 : (⟨#[125, 32, 112, 114, 111, 99, 32, 113, 40, 41, 32, 123]⟩ : ByteArray).size = 12 := rfl
  have z4 : (⟨#[32, 125, 32, 116, 104, 114, 101, 97, 100, 115, 32, 112, 44, 32, 113, 59]⟩ : ByteArray).size = 16 := rfl
  have hj1' : (j1 : Int) < 6 := by omega
  have hj2' : (j2 : Int) < 61 := by omega
  have hK' : (K : Int) < 3 := by omega
  have hL' : (L : Int) < 3 := by omega
  have Q1 := hide q1
  have Q2 := hide q2
  have Q3 := hide q3
  have Q4 := hide q4
  have T1 := hide t1
  have T2 := hide t2
  have T3 := hide t3
  have T4 := hide t4
  have T5 := hide t5
  have T6 := hide t6
  clear t5 t6
  clear hS hP hj1 hj2 q1 q2 q3 q4 t1 t2 t3 t4 _hK _hL
  have HD := hide hd
  clear hd
  go_enter Tryz.func10, Tryz.ntmps10
  go_wp2_with fail
  refine (Q1.out _).mono ?_
  rintro e W ⟨rfl, rfl⟩
  go_wp2_with fail
  refine (Q2.out _).mono ?_
  rintro e W ⟨rfl, rfl⟩
  go_wp2_with fail
  refine (Q3.out _).mono ?_
  rintro e W ⟨rfl, rfl⟩
  go_wp2_with fail
  refine (Q4.out _).mono ?_
  rintro e W ⟨rfl, rfl⟩
  go_wp2_with fail
  refine (T1.out _).mono ?_
  rintro e W ⟨rfl, rfl⟩
  go_wp2_with fail
  refine (T2.out _).mono ?_
  rintro e W ⟨rfl, rfl⟩
  go_wp2_with fail
  generalize (⟨#[115, 104, 97, 114, 101, 100, 32, 120, 59, 32, 108, 111, 99, 107, 115, 32, 109, 59, 32, 112, 114, 111, 99, 32, 112, 40, 41, 32, 123]⟩ : ByteArray) ++ sp ++ ⟨#[97, 99, 113, 117, 105, 114, 101, 32, 109, 59, 32, 120, 32, 61, 32, 33, 120, 59, 32, 114, 101, 108, 101, 97, 115, 101, 32, 109, 59]⟩ ++ ⟨#[125, 32, 112, 114, 111, 99, 32, 113, 40, 41, 32, 123]⟩ ++ sq ++ ⟨#[97, 99, 113, 117, 105, 114, 101, 32, 109, 59, 32, 120, 32, 61, 32, 33, 120, 59, 32, 114, 101, 108, 101, 97, 115, 101, 32, 109, 59]⟩ ++ ⟨#[32, 125, 32, 116, 104, 114, 101, 97, 100, 115, 32, 112, 44, 32, 113, 59]⟩ = tx at *
  refine (HS.out _ (Below.refl _ _)).mono ?_
  rintro e w1 ⟨rfl, hb1⟩
  have HB1 := hide hb1
  clear hb1 HS
  go_upto_region 13 with fail
  have x0 : (w1.alloc (.cells #[.bool rr, .bool false, .string rb, .string ⟨#[]⟩, .bool wh, .int .i64 pts] 35)).cell? ⟨w1.heap.size, 0, none⟩ = some (.bool rr) := by simp
  have x1 : (w1.alloc (.cells #[.bool rr, .bool false, .string rb, .string ⟨#[]⟩, .bool wh, .int .i64 pts] 35)).cell? ⟨w1.heap.size, 1, none⟩ = some (.bool false) := by simp
  have x2 : (w1.alloc (.cells #[.bool rr, .bool false, .string rb, .string ⟨#[]⟩, .bool wh, .int .i64 pts] 35)).cell? ⟨w1.heap.size, 2, none⟩ = some (.string rb) := by simp
  have x3 : (w1.alloc (.cells #[.bool rr, .bool false, .string rb, .string ⟨#[]⟩, .bool wh, .int .i64 pts] 35)).cell? ⟨w1.heap.size, 3, none⟩ = some (.string ⟨#[]⟩) := by simp
  have x4 : (w1.alloc (.cells #[.bool rr, .bool false, .string rb, .string ⟨#[]⟩, .bool wh, .int .i64 pts] 35)).cell? ⟨w1.heap.size, 4, none⟩ = some (.bool wh) := by simp
  have x5 : (w1.alloc (.cells #[.bool rr, .bool false, .string rb, .string ⟨#[]⟩, .bool wh, .int .i64 pts] 35)).cell? ⟨w1.heap.size, 5, none⟩ = some (.int .i64 pts) := by simp
  have HB2 := hide (HB1.out.alloc HB1.out.size (.cells #[.bool rr, .bool false, .string rb, .string ⟨#[]⟩, .bool wh, .int .i64 pts] 35))
  clear HB1
  generalize w1.alloc (.cells #[.bool rr, .bool false, .string rb, .string ⟨#[]⟩, .bool wh, .int .i64 pts] 35) = w2 at *
  go_wp2_with fail
  refine (T5.out _).mono ?_
  rintro e w2 ⟨rfl, rfl⟩
  go_wp2_with fail
  refine (T6.out _).mono ?_
  rintro e w2 ⟨rfl, rfl⟩
  go_wp2_with fail
  refine (T3.out _).mono ?_
  rintro e w2 ⟨rfl, rfl⟩
  go_wp2_with fail
  refine (T4.out _).mono ?_
  rintro e w2 ⟨rfl, rfl⟩
  go_wp2_with fail
  refine (HPL.out _ HB2.out).mono ?_
  rintro e w3 ⟨rfl, hb3⟩
  have y0 := cellB x0 hb3
  have y1 := cellB x1 hb3
  have y2 := cellB x2 hb3
  have y3 := cellB x3 hb3
  have y4 := cellB x4 hb3
  have y5 := cellB x5 hb3
  have HB3 := hide (HB2.out.trans (hb3.mono HB2.out.size))
  clear x0 x1 x2 x3 x4 x5 hb3 HB2 HPL hsz z1 z2 z3 z4
  go_upto_region 19 with fail
  have x0 := cellS (ob := .cells #[.string ⟨#[48, 47, 45, 47, 47]⟩, .string ⟨#[]⟩, .bool false, .bool false] 42) y0
  have x1 := cellS (ob := .cells #[.string ⟨#[48, 47, 45, 47, 47]⟩, .string ⟨#[]⟩, .bool false, .bool false] 42) y1
  have x2 := cellS (ob := .cells #[.string ⟨#[48, 47, 45, 47, 47]⟩, .string ⟨#[]⟩, .bool false, .bool false] 42) y2
  have x3 := cellS (ob := .cells #[.string ⟨#[48, 47, 45, 47, 47]⟩, .string ⟨#[]⟩, .bool false, .bool false] 42) y3
  have x4 := cellS (ob := .cells #[.string ⟨#[48, 47, 45, 47, 47]⟩, .string ⟨#[]⟩, .bool false, .bool false] 42) y4
  have x5 := cellS (ob := .cells #[.string ⟨#[48, 47, 45, 47, 47]⟩, .string ⟨#[]⟩, .bool false, .bool false] 42) y5
  have v0 : (w3.alloc (.cells #[.string ⟨#[48, 47, 45, 47, 47]⟩, .string ⟨#[]⟩, .bool false, .bool false] 42)).cell? ⟨w3.heap.size, 0, none⟩ = some (.string ⟨#[48, 47, 45, 47, 47]⟩) := by simp
  have v1 : (w3.alloc (.cells #[.string ⟨#[48, 47, 45, 47, 47]⟩, .string ⟨#[]⟩, .bool false, .bool false] 42)).cell? ⟨w3.heap.size, 1, none⟩ = some (.string ⟨#[]⟩) := by simp
  have v2 : (w3.alloc (.cells #[.string ⟨#[48, 47, 45, 47, 47]⟩, .string ⟨#[]⟩, .bool false, .bool false] 42)).cell? ⟨w3.heap.size, 2, none⟩ = some (.bool false) := by simp
  have v3 : (w3.alloc (.cells #[.string ⟨#[48, 47, 45, 47, 47]⟩, .string ⟨#[]⟩, .bool false, .bool false] 42)).cell? ⟨w3.heap.size, 3, none⟩ = some (.bool false) := by simp
  have HB4 := hide (HB3.out.alloc HB3.out.size (.cells #[.string ⟨#[48, 47, 45, 47, 47]⟩, .string ⟨#[]⟩, .bool false, .bool false] 42))
  clear y0 y1 y2 y3 y4 y5 HB3
  generalize w3.alloc (.cells #[.string ⟨#[48, 47, 45, 47, 47]⟩, .string ⟨#[]⟩, .bool false, .bool false] 42) = w4 at *
  obtain ⟨rfl, rfl, rfl⟩ := HD.out
  clear HD
  go_wp2_with fail
  go_ret
  exact ⟨rfl, HB4.out⟩

end Go.Proofs.YtmfcpbhdggonfaaGreatDoor
