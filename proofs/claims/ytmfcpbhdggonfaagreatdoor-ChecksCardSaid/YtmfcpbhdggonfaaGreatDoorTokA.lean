/- Contracts of the program's package token. -/
import Derived.Test.YtmfcpbhdggonfaaGreatDoorRefL
namespace Go.Proofs.YtmfcpbhdggonfaaGreatDoor
open Go.RowKit RR

set_option maxHeartbeats 400000 in
theorem t_isLetter (c : UInt8) (w : World) :
    Calls Tryz.prog 175 #[.int .u8 c.toNat] w fun e w' => e = .returned (.bool (isLetterB c)) ∧ w' = w := by
  go_enter Tryz.func175, Tryz.ntmps175
  go_wp2
  all_goals
    go_ret
    refine ⟨ret_bool ?_, rfl⟩
    unfold isLetterB
    rw [Bool.eq_iff_iff]; simp; try omega

set_option maxHeartbeats 400000 in
theorem t_isBlank (c : UInt8) (w : World) :
    Calls Tryz.prog 133 #[.int .u8 c.toNat] w fun e w' => e = .returned (.bool (blankB c)) ∧ w' = w := by
  go_enter Tryz.func133, Tryz.ntmps133
  by_cases h : (c.toNat : Int) = 32
  · have h' : ((c.toNat : Int) == 32) = true := beq_iff_eq.2 h
    have HB : Hid (blankB c = true) := by show _ = _; unfold blankB; rw [decide_eq_true (by omega : c.toNat = 32)]; rfl
    clear h
    go_wp2
    go_ret
    exact ⟨ret_bool HB.out.symm, rfl⟩
  · have h' : ((c.toNat : Int) == 32) = false := beq_eq_false_iff_ne.2 h
    by_cases h2 : (c.toNat : Int) = 10
    · have h2' : ((c.toNat : Int) == 10) = true := beq_iff_eq.2 h2
      have HB : Hid (blankB c = true) := by show _ = _; unfold blankB; rw [decide_eq_true (by omega : c.toNat = 10), Bool.or_true]
      clear h h2
      go_wp2
      go_ret
      exact ⟨ret_bool HB.out.symm, rfl⟩
    · have h2' : ((c.toNat : Int) == 10) = false := beq_eq_false_iff_ne.2 h2
      have HB : Hid (blankB c = false) := by show _ = _; unfold blankB; rw [decide_eq_false (by omega : ¬ c.toNat = 32), decide_eq_false (by omega : ¬ c.toNat = 10)]; rfl
      clear h h2
      go_wp2
      go_ret
      exact ⟨ret_bool HB.out.symm, rfl⟩

def signB (c : UInt8) : Bool := decide (c.toNat = 59) || decide (c.toNat = 44) || decide (c.toNat = 61) || decide (c.toNat = 33) || decide (c.toNat = 38) || decide (c.toNat = 124) || decide (c.toNat = 63) || decide (c.toNat = 40) || decide (c.toNat = 41) || decide (c.toNat = 123) || decide (c.toNat = 125)

set_option maxRecDepth 100000 in
set_option maxHeartbeats 2000000 in
theorem t_isSign (s : ByteArray) (i : Nat) (w : World) (_hs : s.size ≤ 500) (hi : i < s.size) :
    Calls Tryz.prog 174 #[.string s, .int .i64 i] w fun e w' => e = .returned (.bool (signB s[i])) ∧ w' = w := by
  have hi' : (i : Int) < s.size := by omega
  by_cases e0 : (s[i].toNat : Int) = 59
  · have f0 : ((s[i].toNat : Int) == 59) = true := beq_iff_eq.2 e0
    have HB : Hid (signB s[i] = true) := by show _ = _; unfold signB; simp; omega
    clear e0
    go_enter Tryz.func174, Tryz.ntmps174
    go_wp2
    go_ret
    exact ⟨ret_bool HB.out.symm, rfl⟩
  by_cases e1 : (s[i].toNat : Int) = 44
  · have f1 : ((s[i].toNat : Int) == 44) = true := beq_iff_eq.2 e1
    have HB : Hid (signB s[i] = true) := by show _ = _; unfold signB; simp; omega
    have f0 : ((s[i].toNat : Int) == 59) = false := beq_eq_false_iff_ne.2 e0
    clear e0 e1
    go_enter Tryz.func174, Tryz.ntmps174
    go_wp2
    go_ret
    exact ⟨ret_bool HB.out.symm, rfl⟩
  by_cases e2 : (s[i].toNat : Int) = 61
  · have f2 : ((s[i].toNat : Int) == 61) = true := beq_iff_eq.2 e2
    have HB : Hid (signB s[i] = true) := by show _ = _; unfold signB; simp; omega
    have f0 : ((s[i].toNat : Int) == 59) = false := beq_eq_false_iff_ne.2 e0
    have f1 : ((s[i].toNat : Int) == 44) = false := beq_eq_false_iff_ne.2 e1
    clear e0 e1 e2
    go_enter Tryz.func174, Tryz.ntmps174
    go_wp2
    go_ret
    exact ⟨ret_bool HB.out.symm, rfl⟩
  by_cases e3 : (s[i].toNat : Int) = 33
  · have f3 : ((s[i].toNat : Int) == 33) = true := beq_iff_eq.2 e3
    have HB : Hid (signB s[i] = true) := by show _ = _; unfold signB; simp; omega
    have f0 : ((s[i].toNat : Int) == 59) = false := beq_eq_false_iff_ne.2 e0
    have f1 : ((s[i].toNat : Int) == 44) = false := beq_eq_false_iff_ne.2 e1
    have f2 : ((s[i].toNat : Int) == 61) = false := beq_eq_false_iff_ne.2 e2
    clear e0 e1 e2 e3
    go_enter Tryz.func174, Tryz.ntmps174
    go_wp2
    go_ret
    exact ⟨ret_bool HB.out.symm, rfl⟩
  by_cases e4 : (s[i].toNat : Int) = 38
  · have f4 : ((s[i].toNat : Int) == 38) = true := beq_iff_eq.2 e4
    have HB : Hid (signB s[i] = true) := by show _ = _; unfold signB; simp; omega
    have f0 : ((s[i].toNat : Int) == 59) = false := beq_eq_false_iff_ne.2 e0
    have f1 : ((s[i].toNat : Int) == 44) = false := beq_eq_false_iff_ne.2 e1
    have f2 : ((s[i].toNat : Int) == 61) = false := beq_eq_false_iff_ne.2 e2
    have f3 : ((s[i].toNat : Int) == 33) = false := beq_eq_false_iff_ne.2 e3
    clear e0 e1 e2 e3 e4
    go_enter Tryz.func174, Tryz.ntmps174
    go_wp2
    go_ret
    exact ⟨ret_bool HB.out.symm, rfl⟩
  by_cases e5 : (s[i].toNat : Int) = 124
  · have f5 : ((s[i].toNat : Int) == 124) = true := beq_iff_eq.2 e5
    have HB : Hid (signB s[i] = true) := by show _ = _; unfold signB; simp; omega
    have f0 : ((s[i].toNat : Int) == 59) = false := beq_eq_false_iff_ne.2 e0
    have f1 : ((s[i].toNat : Int) == 44) = false := beq_eq_false_iff_ne.2 e1
    have f2 : ((s[i].toNat : Int) == 61) = false := beq_eq_false_iff_ne.2 e2
    have f3 : ((s[i].toNat : Int) == 33) = false := beq_eq_false_iff_ne.2 e3
    have f4 : ((s[i].toNat : Int) == 38) = false := beq_eq_false_iff_ne.2 e4
    clear e0 e1 e2 e3 e4 e5
    go_enter Tryz.func174, Tryz.ntmps174
    go_wp2
    go_ret
    exact ⟨ret_bool HB.out.symm, rfl⟩
  by_cases e6 : (s[i].toNat : Int) = 63
  · have f6 : ((s[i].toNat : Int) == 63) = true := beq_iff_eq.2 e6
    have HB : Hid (signB s[i] = true) := by show _ = _; unfold signB; simp; omega
    have f0 : ((s[i].toNat : Int) == 59) = false := beq_eq_false_iff_ne.2 e0
    have f1 : ((s[i].toNat : Int) == 44) = false := beq_eq_false_iff_ne.2 e1
    have f2 : ((s[i].toNat : Int) == 61) = false := beq_eq_false_iff_ne.2 e2
    have f3 : ((s[i].toNat : Int) == 33) = false := beq_eq_false_iff_ne.2 e3
    have f4 : ((s[i].toNat : Int) == 38) = false := beq_eq_false_iff_ne.2 e4
    have f5 : ((s[i].toNat : Int) == 124) = false := beq_eq_false_iff_ne.2 e5
    clear e0 e1 e2 e3 e4 e5 e6
    go_enter Tryz.func174, Tryz.ntmps174
    go_wp2
    go_ret
    exact ⟨ret_bool HB.out.symm, rfl⟩
  by_cases e7 : (s[i].toNat : Int) = 40
  · have f7 : ((s[i].toNat : Int) == 40) = true := beq_iff_eq.2 e7
    have HB : Hid (signB s[i] = true) := by show _ = _; unfold signB; simp; omega
    have f0 : ((s[i].toNat : Int) == 59) = false := beq_eq_false_iff_ne.2 e0
    have f1 : ((s[i].toNat : Int) == 44) = false := beq_eq_false_iff_ne.2 e1
    have f2 : ((s[i].toNat : Int) == 61) = false := beq_eq_false_iff_ne.2 e2
    have f3 : ((s[i].toNat : Int) == 33) = false := beq_eq_false_iff_ne.2 e3
    have f4 : ((s[i].toNat : Int) == 38) = false := beq_eq_false_iff_ne.2 e4
    have f5 : ((s[i].toNat : Int) == 124) = false := beq_eq_false_iff_ne.2 e5
    have f6 : ((s[i].toNat : Int) == 63) = false := beq_eq_false_iff_ne.2 e6
    clear e0 e1 e2 e3 e4 e5 e6 e7
    go_enter Tryz.func174, Tryz.ntmps174
    go_wp2
    go_ret
    exact ⟨ret_bool HB.out.symm, rfl⟩
  by_cases e8 : (s[i].toNat : Int) = 41
  · have f8 : ((s[i].toNat : Int) == 41) = true := beq_iff_eq.2 e8
    have HB : Hid (signB s[i] = true) := by show _ = _; unfold signB; simp; omega
    have f0 : ((s[i].toNat : Int) == 59) = false := beq_eq_false_iff_ne.2 e0
    have f1 : ((s[i].toNat : Int) == 44) = false := beq_eq_false_iff_ne.2 e1
    have f2 : ((s[i].toNat : Int) == 61) = false := beq_eq_false_iff_ne.2 e2
    have f3 : ((s[i].toNat : Int) == 33) = false := beq_eq_false_iff_ne.2 e3
    have f4 : ((s[i].toNat : Int) == 38) = false := beq_eq_false_iff_ne.2 e4
    have f5 : ((s[i].toNat : Int) == 124) = false := beq_eq_false_iff_ne.2 e5
    have f6 : ((s[i].toNat : Int) == 63) = false := beq_eq_false_iff_ne.2 e6
    have f7 : ((s[i].toNat : Int) == 40) = false := beq_eq_false_iff_ne.2 e7
    clear e0 e1 e2 e3 e4 e5 e6 e7 e8
    go_enter Tryz.func174, Tryz.ntmps174
    go_wp2
    go_ret
    exact ⟨ret_bool HB.out.symm, rfl⟩
  by_cases e9 : (s[i].toNat : Int) = 123
  · have f9 : ((s[i].toNat : Int) == 123) = true := beq_iff_eq.2 e9
    have HB : Hid (signB s[i] = true) := by show _ = _; unfold signB; simp; omega
    have f0 : ((s[i].toNat : Int) == 59) = false := beq_eq_false_iff_ne.2 e0
    have f1 : ((s[i].toNat : Int) == 44) = false := beq_eq_false_iff_ne.2 e1
    have f2 : ((s[i].toNat : Int) == 61) = false := beq_eq_false_iff_ne.2 e2
    have f3 : ((s[i].toNat : Int) == 33) = false := beq_eq_false_iff_ne.2 e3
    have f4 : ((s[i].toNat : Int) == 38) = false := beq_eq_false_iff_ne.2 e4
    have f5 : ((s[i].toNat : Int) == 124) = false := beq_eq_false_iff_ne.2 e5
    have f6 : ((s[i].toNat : Int) == 63) = false := beq_eq_false_iff_ne.2 e6
    have f7 : ((s[i].toNat : Int) == 40) = false := beq_eq_false_iff_ne.2 e7
    have f8 : ((s[i].toNat : Int) == 41) = false := beq_eq_false_iff_ne.2 e8
    clear e0 e1 e2 e3 e4 e5 e6 e7 e8 e9
    go_enter Tryz.func174, Tryz.ntmps174
    go_wp2
    go_ret
    exact ⟨ret_bool HB.out.symm, rfl⟩
  by_cases e10 : (s[i].toNat : Int) = 125
  · have f10 : ((s[i].toNat : Int) == 125) = true := beq_iff_eq.2 e10
    have HB : Hid (signB s[i] = true) := by show _ = _; unfold signB; simp; omega
    have f0 : ((s[i].toNat : Int) == 59) = false := beq_eq_false_iff_ne.2 e0
    have f1 : ((s[i].toNat : Int) == 44) = false := beq_eq_false_iff_ne.2 e1
    have f2 : ((s[i].toNat : Int) == 61) = false := beq_eq_false_iff_ne.2 e2
    have f3 : ((s[i].toNat : Int) == 33) = false := beq_eq_false_iff_ne.2 e3
    have f4 : ((s[i].toNat : Int) == 38) = false := beq_eq_false_iff_ne.2 e4
    have f5 : ((s[i].toNat : Int) == 124) = false := beq_eq_false_iff_ne.2 e5
    have f6 : ((s[i].toNat : Int) == 63) = false := beq_eq_false_iff_ne.2 e6
    have f7 : ((s[i].toNat : Int) == 40) = false := beq_eq_false_iff_ne.2 e7
    have f8 : ((s[i].toNat : Int) == 41) = false := beq_eq_false_iff_ne.2 e8
    have f9 : ((s[i].toNat : Int) == 123) = false := beq_eq_false_iff_ne.2 e9
    clear e0 e1 e2 e3 e4 e5 e6 e7 e8 e9 e10
    go_enter Tryz.func174, Tryz.ntmps174
    go_wp2
    go_ret
    exact ⟨ret_bool HB.out.symm, rfl⟩
  have f0 : ((s[i].toNat : Int) == 59) = false := beq_eq_false_iff_ne.2 e0
  have f1 : ((s[i].toNat : Int) == 44) = false := beq_eq_false_iff_ne.2 e1
  have f2 : ((s[i].toNat : Int) == 61) = false := beq_eq_false_iff_ne.2 e2
  have f3 : ((s[i].toNat : Int) == 33) = false := beq_eq_false_iff_ne.2 e3
  have f4 : ((s[i].toNat : Int) == 38) = false := beq_eq_false_iff_ne.2 e4
  have f5 : ((s[i].toNat : Int) == 124) = false := beq_eq_false_iff_ne.2 e5
  have f6 : ((s[i].toNat : Int) == 63) = false := beq_eq_false_iff_ne.2 e6
  have f7 : ((s[i].toNat : Int) == 40) = false := beq_eq_false_iff_ne.2 e7
  have f8 : ((s[i].toNat : Int) == 41) = false := beq_eq_false_iff_ne.2 e8
  have f9 : ((s[i].toNat : Int) == 123) = false := beq_eq_false_iff_ne.2 e9
  have f10 : ((s[i].toNat : Int) == 125) = false := beq_eq_false_iff_ne.2 e10
  have HB : Hid (signB s[i] = false) := by show _ = _; unfold signB; simp; omega
  clear e0 e1 e2 e3 e4 e5 e6 e7 e8 e9 e10
  go_enter Tryz.func174, Tryz.ntmps174
  go_wp2
  go_ret
  exact ⟨ret_bool HB.out.symm, rfl⟩

set_option maxRecDepth 100000 in
set_option maxHeartbeats 2000000 in
theorem t_hasMeaning (t : ByteArray) (w : World) :
    Calls Tryz.prog 176 #[.string t] w fun e w' => e = .returned (.bool (memB kws t)) ∧ w' = w := by
  by_cases e0 : t = ⟨#[115, 104, 97, 114, 101, 100]⟩
  · subst e0
    have HB : Hid (memB kws ⟨#[115, 104, 97, 114, 101, 100]⟩ = true) := by show _ = _; decide
    go_enter Tryz.func176, Tryz.ntmps176
    go_wp2
    go_ret
    exact ⟨ret_bool HB.out.symm, rfl⟩
  have f0 : (t.toList == [115, 104, 97, 114, 101, 100]) = false := lit_ne e0 (by rw [bl])
  by_cases e1 : t = ⟨#[108, 111, 99, 107, 115]⟩
  · subst e1
    have HB : Hid (memB kws ⟨#[108, 111, 99, 107, 115]⟩ = true) := by show _ = _; decide
    go_enter Tryz.func176, Tryz.ntmps176
    go_wp2
    go_ret
    exact ⟨ret_bool HB.out.symm, rfl⟩
  have f1 : (t.toList == [108, 111, 99, 107, 115]) = false := lit_ne e1 (by rw [bl])
  by_cases e2 : t = ⟨#[112, 114, 111, 99]⟩
  · subst e2
    have HB : Hid (memB kws ⟨#[112, 114, 111, 99]⟩ = true) := by show _ = _; decide
    go_enter Tryz.func176, Tryz.ntmps176
    go_wp2
    go_ret
    exact ⟨ret_bool HB.out.symm, rfl⟩
  have f2 : (t.toList == [112, 114, 111, 99]) = false := lit_ne e2 (by rw [bl])
  by_cases e3 : t = ⟨#[116, 104, 114, 101, 97, 100, 115]⟩
  · subst e3
    have HB : Hid (memB kws ⟨#[116, 104, 114, 101, 97, 100, 115]⟩ = true) := by show _ = _; decide
    go_enter Tryz.func176, Tryz.ntmps176
    go_wp2
    go_ret
    exact ⟨ret_bool HB.out.symm, rfl⟩
  have f3 : (t.toList == [116, 104, 114, 101, 97, 100, 115]) = false := lit_ne e3 (by rw [bl])
  by_cases e4 : t = ⟨#[105, 102]⟩
  · subst e4
    have HB : Hid (memB kws ⟨#[105, 102]⟩ = true) := by show _ = _; decide
    go_enter Tryz.func176, Tryz.ntmps176
    go_wp2
    go_ret
    exact ⟨ret_bool HB.out.symm, rfl⟩
  have f4 : (t.toList == [105, 102]) = false := lit_ne e4 (by rw [bl])
  by_cases e5 : t = ⟨#[101, 108, 115, 101]⟩
  · subst e5
    have HB : Hid (memB kws ⟨#[101, 108, 115, 101]⟩ = true) := by show _ = _; decide
    go_enter Tryz.func176, Tryz.ntmps176
    go_wp2
    go_ret
    exact ⟨ret_bool HB.out.symm, rfl⟩
  have f5 : (t.toList == [101, 108, 115, 101]) = false := lit_ne e5 (by rw [bl])
  by_cases e6 : t = ⟨#[119, 104, 105, 108, 101]⟩
  · subst e6
    have HB : Hid (memB kws ⟨#[119, 104, 105, 108, 101]⟩ = true) := by show _ = _; decide
    go_enter Tryz.func176, Tryz.ntmps176
    go_wp2
    go_ret
    exact ⟨ret_bool HB.out.symm, rfl⟩
  have f6 : (t.toList == [119, 104, 105, 108, 101]) = false := lit_ne e6 (by rw [bl])
  by_cases e7 : t = ⟨#[97, 115, 115, 117, 109, 101]⟩
  · subst e7
    have HB : Hid (memB kws ⟨#[97, 115, 115, 117, 109, 101]⟩ = true) := by show _ = _; decide
    go_enter Tryz.func176, Tryz.ntmps176
    go_wp2
    go_ret
    exact ⟨ret_bool HB.out.symm, rfl⟩
  have f7 : (t.toList == [97, 115, 115, 117, 109, 101]) = false := lit_ne e7 (by rw [bl])
  by_cases e8 : t = ⟨#[97, 99, 113, 117, 105, 114, 101]⟩
  · subst e8
    have HB : Hid (memB kws ⟨#[97, 99, 113, 117, 105, 114, 101]⟩ = true) := by show _ = _; decide
    go_enter Tryz.func176, Tryz.ntmps176
    go_wp2
    go_ret
    exact ⟨ret_bool HB.out.symm, rfl⟩
  have f8 : (t.toList == [97, 99, 113, 117, 105, 114, 101]) = false := lit_ne e8 (by rw [bl])
  by_cases e9 : t = ⟨#[114, 101, 108, 101, 97, 115, 101]⟩
  · subst e9
    have HB : Hid (memB kws ⟨#[114, 101, 108, 101, 97, 115, 101]⟩ = true) := by show _ = _; decide
    go_enter Tryz.func176, Tryz.ntmps176
    go_wp2
    go_ret
    exact ⟨ret_bool HB.out.symm, rfl⟩
  have f9 : (t.toList == [114, 101, 108, 101, 97, 115, 101]) = false := lit_ne e9 (by rw [bl])
  by_cases e10 : t = ⟨#[114, 101, 116, 117, 114, 110]⟩
  · subst e10
    have HB : Hid (memB kws ⟨#[114, 101, 116, 117, 114, 110]⟩ = true) := by show _ = _; decide
    go_enter Tryz.func176, Tryz.ntmps176
    go_wp2
    go_ret
    exact ⟨ret_bool HB.out.symm, rfl⟩
  have f10 : (t.toList == [114, 101, 116, 117, 114, 110]) = false := lit_ne e10 (by rw [bl])
  by_cases e11 : t = ⟨#[115, 107, 105, 112]⟩
  · subst e11
    have HB : Hid (memB kws ⟨#[115, 107, 105, 112]⟩ = true) := by show _ = _; decide
    go_enter Tryz.func176, Tryz.ntmps176
    go_wp2
    go_ret
    exact ⟨ret_bool HB.out.symm, rfl⟩
  have f11 : (t.toList == [115, 107, 105, 112]) = false := lit_ne e11 (by rw [bl])
  by_cases e12 : t = ⟨#[116, 114, 117, 101]⟩
  · subst e12
    have HB : Hid (memB kws ⟨#[116, 114, 117, 101]⟩ = true) := by show _ = _; decide
    go_enter Tryz.func176, Tryz.ntmps176
    go_wp2
    go_ret
    exact ⟨ret_bool HB.out.symm, rfl⟩
  have f12 : (t.toList == [116, 114, 117, 101]) = false := lit_ne e12 (by rw [bl])
  by_cases e13 : t = ⟨#[102, 97, 108, 115, 101]⟩
  · subst e13
    have HB : Hid (memB kws ⟨#[102, 97, 108, 115, 101]⟩ = true) := by show _ = _; decide
    go_enter Tryz.func176, Tryz.ntmps176
    go_wp2
    go_ret
    exact ⟨ret_bool HB.out.symm, rfl⟩
  have f13 : (t.toList == [102, 97, 108, 115, 101]) = false := lit_ne e13 (by rw [bl])
  have HB : Hid (memB kws t = false) := by
    show _ = _
    unfold memB kws
    simp only [List.any_cons, List.any_nil, Bool.or_false]
    rw [decide_eq_false (fun h => e0 h.symm), decide_eq_false (fun h => e1 h.symm), decide_eq_false (fun h => e2 h.symm), decide_eq_false (fun h => e3 h.symm), decide_eq_false (fun h => e4 h.symm), decide_eq_false (fun h => e5 h.symm), decide_eq_false (fun h => e6 h.symm), decide_eq_false (fun h => e7 h.symm), decide_eq_false (fun h => e8 h.symm), decide_eq_false (fun h => e9 h.symm), decide_eq_false (fun h => e10 h.symm), decide_eq_false (fun h => e11 h.symm), decide_eq_false (fun h => e12 h.symm), decide_eq_false (fun h => e13 h.symm)]
    rfl
  clear e0 e1 e2 e3 e4 e5 e6 e7 e8 e9 e10 e11 e12 e13
  go_enter Tryz.func176, Tryz.ntmps176
  go_wp2
  go_ret
  exact ⟨ret_bool HB.out.symm, rfl⟩

theorem runF_not {s : ByteArray} {k : Nat} (h : k < s.size) (h2 : isLetterB s[k] = false) : runF s k = k := runF_no h h2

set_option maxRecDepth 100000 in
set_option maxHeartbeats 1000000 in
theorem t_lettersAt (s : ByteArray) (i : Nat) (w : World) (hs : s.size ≤ 500) (hi : i < s.size) :
    Calls Tryz.prog 173 #[.string s, .int .i64 i] w fun e w' => e = .returned (.int .i64 ((runF s i - i : Nat) : Int)) ∧ w' = w := by
  go_enter Tryz.func173, Tryz.ntmps173
  go_wp2
  go_loop [5, 6] (fun v u => ∃ k : Nat, u = .int .i64 k ∧ v = .int .i64 ((k - i : Nat) : Int) ∧ i ≤ k ∧ k ≤ s.size ∧ runF s i = runF s k) (fun _ u => s.size - (intOf u).toNat)
  case atStart => exact ⟨i, rfl, by rw [Nat.sub_self]; rfl, Nat.le_refl _, by omega, rfl⟩
  case round =>
    obtain ⟨k, rfl, rfl, h1, h2, h3⟩ := hrel
    have H3 := hide h3
    clear h3
    by_cases hk : k < s.size
    · cases hL : isLetterB s[k]
      · have HE := hide (runF_no hk hL)
        go_wp2_with (go_at_call 175; refine (t_isLetter s[k] _).mono ?_; rintro e w' ⟨rfl, hw'⟩; subst hw')
        go_ret
        exact ⟨ret_int (by rw [H3.out, HE.out]), rfl⟩
      · have HE := hide (runF_yes hk hL)
        go_wp2_with (go_at_call 175; refine (t_isLetter s[k] _).mono ?_; rintro e w' ⟨rfl, hw'⟩; subst hw')
        go_round
        case rel => exact ⟨k + 1, by go_num, by congr 1; omega, by omega, by omega, by rw [H3.out, HE.out]⟩
        case measure => simp [intOf]; omega
    · have HE := hide (runF_out hk)
      go_wp2
      go_ret
      exact ⟨ret_int (by rw [H3.out, HE.out]), rfl⟩

end Go.Proofs.YtmfcpbhdggonfaaGreatDoor
