/- The contract of the reference's 'becomes'. -/
import Derived.Test.YtmfcpbhdggonfaaGreatDoorRefI
namespace Go.Proofs.YtmfcpbhdggonfaaGreatDoor
open Go.RowKit RR

set_option maxRecDepth 100000 in
set_option maxHeartbeats 1000000 in
theorem bec_names (t : ByteArray) (w : World) :
    Calls Tryz.prog 76 #[.string ⟨#[78, 65, 77, 69, 83]⟩, .string t] w fun e w' => ∃ ao cap, e = .returned (.tuple #[.slice ao (becB .nNames t).length cap, .bool true]) ∧ StrSl w' ao cap (becB .nNames t) ∧ Below w.heap.size w w' := by
  go_enter Tryz.func76, Tryz.ntmps76
  go_wp2_with (go_at_call 118; refine (b_names t _ ).mono ?_; rintro e w1 ⟨ao, cap, rfl, hs, hb1⟩)
  go_ret2
  exact ⟨ao, cap, rfl, hs, hb1⟩

set_option maxRecDepth 100000 in
set_option maxHeartbeats 1000000 in
theorem bec_more (t : ByteArray) (w : World) :
    Calls Tryz.prog 76 #[.string ⟨#[77, 79, 82, 69]⟩, .string t] w fun e w' => ∃ ao cap, e = .returned (.tuple #[.slice ao (becB .nMore t).length cap, .bool true]) ∧ StrSl w' ao cap (becB .nMore t) ∧ Below w.heap.size w w' := by
  go_enter Tryz.func76, Tryz.ntmps76
  go_wp2_with (go_at_call 118; refine (b_more t _ ).mono ?_; rintro e w1 ⟨ao, cap, rfl, hs, hb1⟩)
  go_ret2
  exact ⟨ao, cap, rfl, hs, hb1⟩

set_option maxRecDepth 100000 in
set_option maxHeartbeats 1000000 in
theorem bec_procs (t : ByteArray) (w : World) :
    Calls Tryz.prog 76 #[.string ⟨#[80, 82, 79, 67, 83]⟩, .string t] w fun e w' => ∃ ao cap, e = .returned (.tuple #[.slice ao (becB .nProcs t).length cap, .bool true]) ∧ StrSl w' ao cap (becB .nProcs t) ∧ Below w.heap.size w w' := by
  go_enter Tryz.func76, Tryz.ntmps76
  go_wp2_with (go_at_call 118; refine (b_procs t _ ).mono ?_; rintro e w1 ⟨ao, cap, rfl, hs, hb1⟩)
  go_ret2
  exact ⟨ao, cap, rfl, hs, hb1⟩

set_option maxRecDepth 100000 in
set_option maxHeartbeats 1000000 in
theorem bec_proc (t : ByteArray) (w : World) :
    Calls Tryz.prog 76 #[.string ⟨#[80, 82, 79, 67]⟩, .string t] w fun e w' => ∃ ao cap, e = .returned (.tuple #[.slice ao (becB .nProc t).length cap, .bool true]) ∧ StrSl w' ao cap (becB .nProc t) ∧ Below w.heap.size w w' := by
  go_enter Tryz.func76, Tryz.ntmps76
  go_wp2_with (go_at_call 118; refine (b_proc t _ ).mono ?_; rintro e w1 ⟨ao, cap, rfl, hs, hb1⟩)
  go_ret2
  exact ⟨ao, cap, rfl, hs, hb1⟩

set_option maxRecDepth 100000 in
set_option maxHeartbeats 1000000 in
theorem bec_params (t : ByteArray) (w : World) :
    Calls Tryz.prog 76 #[.string ⟨#[80, 65, 82, 65, 77, 83]⟩, .string t] w fun e w' => ∃ ao cap, e = .returned (.tuple #[.slice ao (becB .nParams t).length cap, .bool true]) ∧ StrSl w' ao cap (becB .nParams t) ∧ Below w.heap.size w w' := by
  go_enter Tryz.func76, Tryz.ntmps76
  go_wp2_with (go_at_call 118; refine (b_params t _ ).mono ?_; rintro e w1 ⟨ao, cap, rfl, hs, hb1⟩)
  go_ret2
  exact ⟨ao, cap, rfl, hs, hb1⟩

set_option maxRecDepth 100000 in
set_option maxHeartbeats 1000000 in
theorem bec_block (t : ByteArray) (w : World) :
    Calls Tryz.prog 76 #[.string ⟨#[66, 76, 79, 67, 75]⟩, .string t] w fun e w' => ∃ ao cap, e = .returned (.tuple #[.slice ao (becB .nBlock t).length cap, .bool true]) ∧ StrSl w' ao cap (becB .nBlock t) ∧ Below w.heap.size w w' := by
  go_enter Tryz.func76, Tryz.ntmps76
  go_wp2_with (go_at_call 118; refine (b_block t _ ).mono ?_; rintro e w1 ⟨ao, cap, rfl, hs, hb1⟩)
  go_ret2
  exact ⟨ao, cap, rfl, hs, hb1⟩

set_option maxRecDepth 100000 in
set_option maxHeartbeats 1000000 in
theorem bec_stmts (t : ByteArray) (w : World) :
    Calls Tryz.prog 76 #[.string ⟨#[83, 84, 77, 84, 83]⟩, .string t] w fun e w' => ∃ ao cap, e = .returned (.tuple #[.slice ao (becB .nStmts t).length cap, .bool true]) ∧ StrSl w' ao cap (becB .nStmts t) ∧ Below w.heap.size w w' := by
  go_enter Tryz.func76, Tryz.ntmps76
  go_wp2_with (go_at_call 118; refine (b_stmts t _ ).mono ?_; rintro e w1 ⟨ao, cap, rfl, hs, hb1⟩)
  go_ret2
  exact ⟨ao, cap, rfl, hs, hb1⟩

set_option maxRecDepth 100000 in
set_option maxHeartbeats 1000000 in
theorem bec_values (t : ByteArray) (w : World) :
    Calls Tryz.prog 76 #[.string ⟨#[86, 65, 76, 85, 69, 83]⟩, .string t] w fun e w' => ∃ ao cap, e = .returned (.tuple #[.slice ao (becB .nValues t).length cap, .bool true]) ∧ StrSl w' ao cap (becB .nValues t) ∧ Below w.heap.size w w' := by
  go_enter Tryz.func76, Tryz.ntmps76
  go_wp2_with (go_at_call 118; refine (b_values t _ ).mono ?_; rintro e w1 ⟨ao, cap, rfl, hs, hb1⟩)
  go_ret2
  exact ⟨ao, cap, rfl, hs, hb1⟩

set_option maxRecDepth 100000 in
set_option maxHeartbeats 1000000 in
theorem bec_value (t : ByteArray) (w : World) :
    Calls Tryz.prog 76 #[.string ⟨#[86, 65, 76, 85, 69]⟩, .string t] w fun e w' => ∃ ao cap, e = .returned (.tuple #[.slice ao (becB .nValue t).length cap, .bool true]) ∧ StrSl w' ao cap (becB .nValue t) ∧ Below w.heap.size w w' := by
  go_enter Tryz.func76, Tryz.ntmps76
  go_wp2_with (go_at_call 118; refine (b_value t _ ).mono ?_; rintro e w1 ⟨ao, cap, rfl, hs, hb1⟩)
  go_ret2
  exact ⟨ao, cap, rfl, hs, hb1⟩

set_option maxRecDepth 100000 in
set_option maxHeartbeats 1000000 in
theorem bec_shared (t : ByteArray) (w : World) :
    Calls Tryz.prog 76 #[.string ⟨#[83, 72, 65, 82, 69, 68]⟩, .string t] w fun e w' => ∃ ao cap, e = .returned (.tuple #[.slice ao (becB .nShared t).length cap, .bool true]) ∧ StrSl w' ao cap (becB .nShared t) ∧ Below w.heap.size w w' := by
  go_enter Tryz.func76, Tryz.ntmps76
  go_wp2_with (go_at_call 118; refine (b_shared t _ ).mono ?_; rintro e w1 ⟨ao, cap, rfl, hs, hb1⟩)
  go_ret2
  exact ⟨ao, cap, rfl, hs, hb1⟩

set_option maxRecDepth 100000 in
set_option maxHeartbeats 1000000 in
theorem bec_locks (t : ByteArray) (w : World) :
    Calls Tryz.prog 76 #[.string ⟨#[76, 79, 67, 75, 83]⟩, .string t] w fun e w' => ∃ ao cap, e = .returned (.tuple #[.slice ao (becB .nLocks t).length cap, .bool true]) ∧ StrSl w' ao cap (becB .nLocks t) ∧ Below w.heap.size w w' := by
  go_enter Tryz.func76, Tryz.ntmps76
  go_wp2_with (go_at_call 118; refine (b_locks t _ ).mono ?_; rintro e w1 ⟨ao, cap, rfl, hs, hb1⟩)
  go_ret2
  exact ⟨ao, cap, rfl, hs, hb1⟩

set_option maxRecDepth 100000 in
set_option maxHeartbeats 1000000 in
theorem bec_expr (t : ByteArray) (w : World) (ht : t.size ≤ 500) :
    Calls Tryz.prog 76 #[.string ⟨#[69, 88, 80, 82]⟩, .string t] w fun e w' => ∃ ao cap, e = .returned (.tuple #[.slice ao (becB .nExpr t).length cap, .bool true]) ∧ StrSl w' ao cap (becB .nExpr t) ∧ Below w.heap.size w w' := by
  go_enter Tryz.func76, Tryz.ntmps76
  go_wp2_with (go_at_call 119; refine (b_expr t _ ht).mono ?_; rintro e w1 ⟨ao, cap, rfl, hs, hb1⟩)
  go_ret2
  exact ⟨ao, cap, rfl, hs, hb1⟩

set_option maxRecDepth 100000 in
set_option maxHeartbeats 1000000 in
theorem bec_or (t : ByteArray) (w : World) (ht : t.size ≤ 500) :
    Calls Tryz.prog 76 #[.string ⟨#[79, 82]⟩, .string t] w fun e w' => ∃ ao cap, e = .returned (.tuple #[.slice ao (becB .nOr t).length cap, .bool true]) ∧ StrSl w' ao cap (becB .nOr t) ∧ Below w.heap.size w w' := by
  go_enter Tryz.func76, Tryz.ntmps76
  go_wp2_with (go_at_call 119; refine (b_or t _ ht).mono ?_; rintro e w1 ⟨ao, cap, rfl, hs, hb1⟩)
  go_ret2
  exact ⟨ao, cap, rfl, hs, hb1⟩

set_option maxRecDepth 100000 in
set_option maxHeartbeats 1000000 in
theorem bec_term (t : ByteArray) (w : World) (ht : t.size ≤ 500) :
    Calls Tryz.prog 76 #[.string ⟨#[84, 69, 82, 77]⟩, .string t] w fun e w' => ∃ ao cap, e = .returned (.tuple #[.slice ao (becB .nTerm t).length cap, .bool true]) ∧ StrSl w' ao cap (becB .nTerm t) ∧ Below w.heap.size w w' := by
  go_enter Tryz.func76, Tryz.ntmps76
  go_wp2_with (go_at_call 119; refine (b_term t _ ht).mono ?_; rintro e w1 ⟨ao, cap, rfl, hs, hb1⟩)
  go_ret2
  exact ⟨ao, cap, rfl, hs, hb1⟩

set_option maxRecDepth 100000 in
set_option maxHeartbeats 1000000 in
theorem bec_and (t : ByteArray) (w : World) (ht : t.size ≤ 500) :
    Calls Tryz.prog 76 #[.string ⟨#[65, 78, 68]⟩, .string t] w fun e w' => ∃ ao cap, e = .returned (.tuple #[.slice ao (becB .nAnd t).length cap, .bool true]) ∧ StrSl w' ao cap (becB .nAnd t) ∧ Below w.heap.size w w' := by
  go_enter Tryz.func76, Tryz.ntmps76
  go_wp2_with (go_at_call 119; refine (b_and t _ ht).mono ?_; rintro e w1 ⟨ao, cap, rfl, hs, hb1⟩)
  go_ret2
  exact ⟨ao, cap, rfl, hs, hb1⟩

set_option maxRecDepth 100000 in
set_option maxHeartbeats 1000000 in
theorem bec_factor (t : ByteArray) (w : World) (ht : t.size ≤ 500) :
    Calls Tryz.prog 76 #[.string ⟨#[70, 65, 67, 84, 79, 82]⟩, .string t] w fun e w' => ∃ ao cap, e = .returned (.tuple #[.slice ao (becB .nFactor t).length cap, .bool true]) ∧ StrSl w' ao cap (becB .nFactor t) ∧ Below w.heap.size w w' := by
  go_enter Tryz.func76, Tryz.ntmps76
  go_wp2_with (go_at_call 119; refine (b_factor t _ ht).mono ?_; rintro e w1 ⟨ao, cap, rfl, hs, hb1⟩)
  go_ret2
  exact ⟨ao, cap, rfl, hs, hb1⟩

set_option maxRecDepth 100000 in
set_option maxHeartbeats 1000000 in
theorem bec_stmt (t : ByteArray) (w : World) (ht : t.size ≤ 500) :
    Calls Tryz.prog 76 #[.string ⟨#[83, 84, 77, 84]⟩, .string t] w fun e w' => ∃ ao cap, e = .returned (.tuple #[.slice ao (becB .nStmt t).length cap, .bool true]) ∧ StrSl w' ao cap (becB .nStmt t) ∧ Below w.heap.size w w' := by
  go_enter Tryz.func76, Tryz.ntmps76
  go_wp2_with (go_at_call 120; refine (b_stmt t _ ht).mono ?_; rintro e w1 ⟨ao, cap, rfl, hs, hb1⟩)
  go_ret2
  exact ⟨ao, cap, rfl, hs, hb1⟩

set_option maxRecDepth 100000 in
set_option maxHeartbeats 1000000 in
theorem bec_behind (t : ByteArray) (w : World) (ht : t.size ≤ 500) :
    Calls Tryz.prog 76 #[.string ⟨#[66, 69, 72, 73, 78, 68]⟩, .string t] w fun e w' => ∃ ao cap, e = .returned (.tuple #[.slice ao (becB .nBehind t).length cap, .bool true]) ∧ StrSl w' ao cap (becB .nBehind t) ∧ Below w.heap.size w w' := by
  go_enter Tryz.func76, Tryz.ntmps76
  go_wp2_with (go_at_call 120; refine (b_behind t _ ht).mono ?_; rintro e w1 ⟨ao, cap, rfl, hs, hb1⟩)
  go_ret2
  exact ⟨ao, cap, rfl, hs, hb1⟩

set_option maxRecDepth 100000 in
set_option maxHeartbeats 1000000 in
theorem bec_right (t : ByteArray) (w : World) (ht : t.size ≤ 500) :
    Calls Tryz.prog 76 #[.string ⟨#[82, 73, 71, 72, 84]⟩, .string t] w fun e w' => ∃ ao cap, e = .returned (.tuple #[.slice ao (becB .nRight t).length cap, .bool true]) ∧ StrSl w' ao cap (becB .nRight t) ∧ Below w.heap.size w w' := by
  go_enter Tryz.func76, Tryz.ntmps76
  go_wp2_with (go_at_call 120; refine (b_right t _ ht).mono ?_; rintro e w1 ⟨ao, cap, rfl, hs, hb1⟩)
  go_ret2
  exact ⟨ao, cap, rfl, hs, hb1⟩

set_option maxRecDepth 100000 in
set_option maxHeartbeats 1000000 in
theorem bec_later (t : ByteArray) (w : World) (ht : t.size ≤ 500) :
    Calls Tryz.prog 76 #[.string ⟨#[76, 65, 84, 69, 82]⟩, .string t] w fun e w' => ∃ ao cap, e = .returned (.tuple #[.slice ao (becB .nLater t).length cap, .bool true]) ∧ StrSl w' ao cap (becB .nLater t) ∧ Below w.heap.size w w' := by
  go_enter Tryz.func76, Tryz.ntmps76
  go_wp2_with (go_at_call 120; refine (b_later t _ ht).mono ?_; rintro e w1 ⟨ao, cap, rfl, hs, hb1⟩)
  go_ret2
  exact ⟨ao, cap, rfl, hs, hb1⟩

set_option maxRecDepth 100000 in
set_option maxHeartbeats 1000000 in
theorem bec_else (t : ByteArray) (w : World) (ht : t.size ≤ 500) :
    Calls Tryz.prog 76 #[.string ⟨#[69, 76, 83, 69]⟩, .string t] w fun e w' => ∃ ao cap, e = .returned (.tuple #[.slice ao (becB .nElse t).length cap, .bool true]) ∧ StrSl w' ao cap (becB .nElse t) ∧ Below w.heap.size w w' := by
  go_enter Tryz.func76, Tryz.ntmps76
  go_wp2_with (go_at_call 120; refine (b_else t _ ht).mono ?_; rintro e w1 ⟨ao, cap, rfl, hs, hb1⟩)
  go_ret2
  exact ⟨ao, cap, rfl, hs, hb1⟩

set_option maxRecDepth 100000 in
set_option maxHeartbeats 1000000 in
theorem bec_result (t : ByteArray) (w : World) (ht : t.size ≤ 500) :
    Calls Tryz.prog 76 #[.string ⟨#[82, 69, 83, 85, 76, 84]⟩, .string t] w fun e w' => ∃ ao cap, e = .returned (.tuple #[.slice ao (becB .nResult t).length cap, .bool true]) ∧ StrSl w' ao cap (becB .nResult t) ∧ Below w.heap.size w w' := by
  go_enter Tryz.func76, Tryz.ntmps76
  go_wp2_with (go_at_call 120; refine (b_result t _ ht).mono ?_; rintro e w1 ⟨ao, cap, rfl, hs, hb1⟩)
  go_ret2
  exact ⟨ao, cap, rfl, hs, hb1⟩

set_option maxRecDepth 100000 in
set_option maxHeartbeats 1000000 in
theorem bec_none0 (s t : ByteArray) (w : World) (k0 : (s.toList == [78, 65, 77, 69, 83]) = false) (k1 : (s.toList == [77, 79, 82, 69]) = false) (k2 : (s.toList == [80, 82, 79, 67, 83]) = false) (k3 : (s.toList == [80, 82, 79, 67]) = false) (k4 : (s.toList == [80, 65, 82, 65, 77, 83]) = false) (k5 : (s.toList == [66, 76, 79, 67, 75]) = false) (k6 : (s.toList == [83, 84, 77, 84, 83]) = false) (k7 : (s.toList == [86, 65, 76, 85, 69, 83]) = false) (k8 : (s.toList == [86, 65, 76, 85, 69]) = false) (k9 : (s.toList == [83, 72, 65, 82, 69, 68]) = false) (k10 : (s.toList == [76, 79, 67, 75, 83]) = false) (k11 : (s.toList == [69, 88, 80, 82]) = false) (k12 : (s.toList == [79, 82]) = false) (k13 : (s.toList == [84, 69, 82, 77]) = false) (k14 : (s.toList == [65, 78, 68]) = false) (k15 : (s.toList == [70, 65, 67, 84, 79, 82]) = false) (k16 : (s.toList == [83, 84, 77, 84]) = false) (k17 : (s.toList == [66, 69, 72, 73, 78, 68]) = false) (k18 : (s.toList == [82, 73, 71, 72, 84]) = false) (k19 : (s.toList == [76, 65, 84, 69, 82]) = false) (k20 : (s.toList == [69, 76, 83, 69]) = false) (k21 : (s.toList == [82, 69, 83, 85, 76, 84]) = false) :
    Calls Tryz.prog 76 #[.string s, .string t] w fun e w' => e = .returned (.tuple #[.slice none 0 0, .bool false]) ∧ w' = w := by
  go_enter Tryz.func76, Tryz.ntmps76
  go_wp2
  go_ret2
  exact ⟨rfl, rfl⟩

theorem r_becomes_none (s t : ByteArray) (w : World) (h : ntOf s = none) :
    Calls Tryz.prog 76 #[.string s, .string t] w fun e w' => e = .returned (.tuple #[.slice none 0 0, .bool false]) ∧ w' = w :=
  bec_none0 s t w (lit_ne (ntOf_none h .nNames) (l := [78, 65, 77, 69, 83]) (by rw [bl]; rfl)) (lit_ne (ntOf_none h .nMore) (l := [77, 79, 82, 69]) (by rw [bl]; rfl)) (lit_ne (ntOf_none h .nProcs) (l := [80, 82, 79, 67, 83]) (by rw [bl]; rfl)) (lit_ne (ntOf_none h .nProc) (l := [80, 82, 79, 67]) (by rw [bl]; rfl)) (lit_ne (ntOf_none h .nParams) (l := [80, 65, 82, 65, 77, 83]) (by rw [bl]; rfl)) (lit_ne (ntOf_none h .nBlock) (l := [66, 76, 79, 67, 75]) (by rw [bl]; rfl)) (lit_ne (ntOf_none h .nStmts) (l := [83, 84, 77, 84, 83]) (by rw [bl]; rfl)) (lit_ne (ntOf_none h .nValues) (l := [86, 65, 76, 85, 69, 83]) (by rw [bl]; rfl)) (lit_ne (ntOf_none h .nValue) (l := [86, 65, 76, 85, 69]) (by rw [bl]; rfl)) (lit_ne (ntOf_none h .nShared) (l := [83, 72, 65, 82, 69, 68]) (by rw [bl]; rfl)) (lit_ne (ntOf_none h .nLocks) (l := [76, 79, 67, 75, 83]) (by rw [bl]; rfl)) (lit_ne (ntOf_none h .nExpr) (l := [69, 88, 80, 82]) (by rw [bl]; rfl)) (lit_ne (ntOf_none h .nOr) (l := [79, 82]) (by rw [bl]; rfl)) (lit_ne (ntOf_none h .nTerm) (l := [84, 69, 82, 77]) (by rw [bl]; rfl)) (lit_ne (ntOf_none h .nAnd) (l := [65, 78, 68]) (by rw [bl]; rfl)) (lit_ne (ntOf_none h .nFactor) (l := [70, 65, 67, 84, 79, 82]) (by rw [bl]; rfl)) (lit_ne (ntOf_none h .nStmt) (l := [83, 84, 77, 84]) (by rw [bl]; rfl)) (lit_ne (ntOf_none h .nBehind) (l := [66, 69, 72, 73, 78, 68]) (by rw [bl]; rfl)) (lit_ne (ntOf_none h .nRight) (l := [82, 73, 71, 72, 84]) (by rw [bl]; rfl)) (lit_ne (ntOf_none h .nLater) (l := [76, 65, 84, 69, 82]) (by rw [bl]; rfl)) (lit_ne (ntOf_none h .nElse) (l := [69, 76, 83, 69]) (by rw [bl]; rfl)) (lit_ne (ntOf_none h .nResult) (l := [82, 69, 83, 85, 76, 84]) (by rw [bl]; rfl))

theorem r_becomes (n : NT) (t : ByteArray) (w : World) (ht : t.size ≤ 500) :
    Calls Tryz.prog 76 #[.string n.enc, .string t] w fun e w' => ∃ ao cap, e = .returned (.tuple #[.slice ao (becB n t).length cap, .bool true]) ∧ StrSl w' ao cap (becB n t) ∧ Below w.heap.size w w' := by
  match n with
  | 0 => exact bec_names t w
  | 1 => exact bec_more t w
  | 2 => exact bec_procs t w
  | 3 => exact bec_proc t w
  | 4 => exact bec_params t w
  | 5 => exact bec_block t w
  | 6 => exact bec_stmts t w
  | 7 => exact bec_values t w
  | 8 => exact bec_value t w
  | 9 => exact bec_shared t w
  | 10 => exact bec_locks t w
  | 11 => exact bec_expr t w ht
  | 12 => exact bec_or t w ht
  | 13 => exact bec_term t w ht
  | 14 => exact bec_and t w ht
  | 15 => exact bec_factor t w ht
  | 16 => exact bec_stmt t w ht
  | 17 => exact bec_behind t w ht
  | 18 => exact bec_right t w ht
  | 19 => exact bec_later t w ht
  | 20 => exact bec_else t w ht
  | _ + 21 => exact bec_result t w ht

end Go.Proofs.YtmfcpbhdggonfaaGreatDoor
