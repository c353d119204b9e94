/- Contracts of the reference's grammar: what a symbol becomes. -/
import Derived.Test.YtmfcpbhdggonfaaGreatDoorMgAB
import Derived.Test.YtmfcpbhdggonfaaGreatDoorMgAE
namespace Go.Proofs.YtmfcpbhdggonfaaGreatDoor
open Go.RowKit RR

/-- A slice of strings. -/
def StrSl (w : World) (ao : Option Addr) (cap : Nat) (l : List ByteArray) : Prop := (ao = none → cap = 0) ∧ l.length ≤ cap ∧ ∀ i, (h : i < l.length) → ∃ b o, b < w.heap.size ∧ ao = some ⟨b, o, none⟩ ∧ w.cell? ⟨b, o + i, none⟩ = some (.string l[i])

theorem StrSl.below {w w' : World} {ao : Option Addr} {cap : Nat} {l : List ByteArray} (h : StrSl w ao cap l) (hb : Below w.heap.size w w') : StrSl w' ao cap l := ⟨h.1, h.2.1, fun i hi => by
  obtain ⟨b, o, h1, h2, h3⟩ := h.2.2 i hi
  exact ⟨b, o, Nat.lt_of_lt_of_le h1 hb.size, h2, (hb.cell (p := ⟨b, o + i, none⟩) h1).trans h3⟩⟩

theorem ret_strs_nil {w0 w : World} {l : List ByteArray} (h : l = []) (hb : Below w0.heap.size w0 w) : ∃ ao cap, Ending.returned (.slice none 0 0) = .returned (.slice ao l.length cap) ∧ StrSl w ao cap l ∧ Below w0.heap.size w0 w := by
  subst h; exact ⟨none, 0, rfl, ⟨fun _ => rfl, Nat.le_refl _, fun i hi => by cases hi⟩, hb⟩

theorem ret_strs {w0 w : World} {T : TypeId} {vs : Array Value} {l l' : List ByteArray} {n : Nat} (h : vs.toList = l.map Value.string) (hn : n = l.length) (e : l = l') (hb : Below w0.heap.size w0 w) : ∃ ao cap, Ending.returned (.slice (some ⟨w.heap.size, 0, none⟩) n n) = .returned (.slice ao l'.length cap) ∧ StrSl (w.alloc (.cells vs T)) ao cap l' ∧ Below w0.heap.size w0 (w.alloc (.cells vs T)) := by
  subst e; subst hn
  refine ⟨some ⟨w.heap.size, 0, none⟩, l.length, rfl, ⟨fun h => (by cases h), Nat.le_refl _, fun i hi => ⟨w.heap.size, 0, by simp, rfl, strs_alloc l vs h i hi⟩⟩, hb.alloc hb.size _⟩

theorem isNameB_eq (t : ByteArray) : isNameB t = ((match t.data.toList with | [] => false | c :: _ => isLetterB c) && !(memB kws t)) := by unfold isNameB; rw [bl]; rfl

theorem ne_of_lit {t c : ByteArray} {l : List UInt8} (h : (t.toList == l) = false) (hc : c.toList = l) : ¬ t = c := by
  intro e; subst e; rw [hc] at h; simp at h
theorem lit_ne {t c : ByteArray} (h : ¬ t = c) {l : List UInt8} (hc : c.toList = l) : (t.toList == l) = false := by
  rw [← hc, seq_comm]; exact decide_eq_false h

set_option maxRecDepth 100000 in
set_option maxHeartbeats 1000000 in
theorem b_names0 (t : ByteArray) (w : World) :
    Calls Tryz.prog 118 #[.string ⟨#[78, 65, 77, 69, 83]⟩, .string t] w fun e w' => ∃ ao cap, e = .returned (.slice ao (becB .nNames t).length cap) ∧ StrSl w' ao cap (becB .nNames t) ∧ Below w.heap.size w w' := by
  have HE : Hid (becB .nNames t = [⟨#[78, 65, 77, 69]⟩, ⟨#[77, 79, 82, 69]⟩]) := by show _ = _; rfl
  go_enter Tryz.func118, Tryz.ntmps118
  go_wp2
  go_ret
  exact ret_strs (l := [⟨#[78, 65, 77, 69]⟩, ⟨#[77, 79, 82, 69]⟩]) rfl rfl HE.out.symm (Below.refl _ _)

theorem b_names (t : ByteArray) (w : World) :
    Calls Tryz.prog 118 #[.string ⟨#[78, 65, 77, 69, 83]⟩, .string t] w fun e w' => ∃ ao cap, e = .returned (.slice ao (becB .nNames t).length cap) ∧ StrSl w' ao cap (becB .nNames t) ∧ Below w.heap.size w w' := by
  exact b_names0 t w

set_option maxRecDepth 100000 in
set_option maxHeartbeats 1000000 in
theorem b_more0 (w : World) :
    Calls Tryz.prog 118 #[.string ⟨#[77, 79, 82, 69]⟩, .string (⟨#[44]⟩ : ByteArray)] w fun e w' => ∃ ao cap, e = .returned (.slice ao (becB .nMore (⟨#[44]⟩ : ByteArray)).length cap) ∧ StrSl w' ao cap (becB .nMore (⟨#[44]⟩ : ByteArray)) ∧ Below w.heap.size w w' := by
  have HE : Hid (becB .nMore (⟨#[44]⟩ : ByteArray) = [⟨#[44]⟩, ⟨#[78, 65, 77, 69]⟩, ⟨#[77, 79, 82, 69]⟩]) := by show _ = _; rw [becB, if_pos rfl]
  go_enter Tryz.func118, Tryz.ntmps118
  go_wp2
  go_ret
  exact ret_strs (l := [⟨#[44]⟩, ⟨#[78, 65, 77, 69]⟩, ⟨#[77, 79, 82, 69]⟩]) rfl rfl HE.out.symm (Below.refl _ _)

set_option maxRecDepth 100000 in
set_option maxHeartbeats 1000000 in
theorem b_more1 (t : ByteArray) (w : World) (n0 : (t.toList == [44]) = false) :
    Calls Tryz.prog 118 #[.string ⟨#[77, 79, 82, 69]⟩, .string t] w fun e w' => ∃ ao cap, e = .returned (.slice ao (becB .nMore t).length cap) ∧ StrSl w' ao cap (becB .nMore t) ∧ Below w.heap.size w w' := by
  have HE : Hid (becB .nMore t = []) := by show _ = _; rw [becB, if_neg (ne_of_lit n0 (by rw [bl]))]
  go_enter Tryz.func118, Tryz.ntmps118
  go_wp2
  go_ret
  exact ret_strs_nil HE.out (Below.refl _ _)

theorem b_more (t : ByteArray) (w : World) :
    Calls Tryz.prog 118 #[.string ⟨#[77, 79, 82, 69]⟩, .string t] w fun e w' => ∃ ao cap, e = .returned (.slice ao (becB .nMore t).length cap) ∧ StrSl w' ao cap (becB .nMore t) ∧ Below w.heap.size w w' := by
  by_cases e0 : t = ⟨#[44]⟩
  · subst e0; exact b_more0 w
  have n0 := lit_ne e0 (l := [44]) (by rw [bl])
  exact b_more1 t w n0

set_option maxRecDepth 100000 in
set_option maxHeartbeats 1000000 in
theorem b_procs0 (w : World) :
    Calls Tryz.prog 118 #[.string ⟨#[80, 82, 79, 67, 83]⟩, .string (⟨#[112, 114, 111, 99]⟩ : ByteArray)] w fun e w' => ∃ ao cap, e = .returned (.slice ao (becB .nProcs (⟨#[112, 114, 111, 99]⟩ : ByteArray)).length cap) ∧ StrSl w' ao cap (becB .nProcs (⟨#[112, 114, 111, 99]⟩ : ByteArray)) ∧ Below w.heap.size w w' := by
  have HE : Hid (becB .nProcs (⟨#[112, 114, 111, 99]⟩ : ByteArray) = [⟨#[80, 82, 79, 67]⟩, ⟨#[80, 82, 79, 67, 83]⟩]) := by show _ = _; rw [becB, if_pos rfl]
  go_enter Tryz.func118, Tryz.ntmps118
  go_wp2
  go_ret
  exact ret_strs (l := [⟨#[80, 82, 79, 67]⟩, ⟨#[80, 82, 79, 67, 83]⟩]) rfl rfl HE.out.symm (Below.refl _ _)

set_option maxRecDepth 100000 in
set_option maxHeartbeats 1000000 in
theorem b_procs1 (t : ByteArray) (w : World) (n0 : (t.toList == [112, 114, 111, 99]) = false) :
    Calls Tryz.prog 118 #[.string ⟨#[80, 82, 79, 67, 83]⟩, .string t] w fun e w' => ∃ ao cap, e = .returned (.slice ao (becB .nProcs t).length cap) ∧ StrSl w' ao cap (becB .nProcs t) ∧ Below w.heap.size w w' := by
  have HE : Hid (becB .nProcs t = []) := by show _ = _; rw [becB, if_neg (ne_of_lit n0 (by rw [bl]))]
  go_enter Tryz.func118, Tryz.ntmps118
  go_wp2
  go_ret
  exact ret_strs_nil HE.out (Below.refl _ _)

theorem b_procs (t : ByteArray) (w : World) :
    Calls Tryz.prog 118 #[.string ⟨#[80, 82, 79, 67, 83]⟩, .string t] w fun e w' => ∃ ao cap, e = .returned (.slice ao (becB .nProcs t).length cap) ∧ StrSl w' ao cap (becB .nProcs t) ∧ Below w.heap.size w w' := by
  by_cases e0 : t = ⟨#[112, 114, 111, 99]⟩
  · subst e0; exact b_procs0 w
  have n0 := lit_ne e0 (l := [112, 114, 111, 99]) (by rw [bl])
  exact b_procs1 t w n0

set_option maxRecDepth 100000 in
set_option maxHeartbeats 1000000 in
theorem b_proc0 (t : ByteArray) (w : World) :
    Calls Tryz.prog 118 #[.string ⟨#[80, 82, 79, 67]⟩, .string t] w fun e w' => ∃ ao cap, e = .returned (.slice ao (becB .nProc t).length cap) ∧ StrSl w' ao cap (becB .nProc t) ∧ Below w.heap.size w w' := by
  have HE : Hid (becB .nProc t = [⟨#[112, 114, 111, 99]⟩, ⟨#[78, 65, 77, 69]⟩, ⟨#[40]⟩, ⟨#[80, 65, 82, 65, 77, 83]⟩, ⟨#[41]⟩, ⟨#[66, 76, 79, 67, 75]⟩]) := by show _ = _; rfl
  go_enter Tryz.func118, Tryz.ntmps118
  go_wp2
  go_ret
  exact ret_strs (l := [⟨#[112, 114, 111, 99]⟩, ⟨#[78, 65, 77, 69]⟩, ⟨#[40]⟩, ⟨#[80, 65, 82, 65, 77, 83]⟩, ⟨#[41]⟩, ⟨#[66, 76, 79, 67, 75]⟩]) rfl rfl HE.out.symm (Below.refl _ _)

theorem b_proc (t : ByteArray) (w : World) :
    Calls Tryz.prog 118 #[.string ⟨#[80, 82, 79, 67]⟩, .string t] w fun e w' => ∃ ao cap, e = .returned (.slice ao (becB .nProc t).length cap) ∧ StrSl w' ao cap (becB .nProc t) ∧ Below w.heap.size w w' := by
  exact b_proc0 t w

set_option maxRecDepth 100000 in
set_option maxHeartbeats 1000000 in
theorem b_params0 (w : World) :
    Calls Tryz.prog 118 #[.string ⟨#[80, 65, 82, 65, 77, 83]⟩, .string (⟨#[41]⟩ : ByteArray)] w fun e w' => ∃ ao cap, e = .returned (.slice ao (becB .nParams (⟨#[41]⟩ : ByteArray)).length cap) ∧ StrSl w' ao cap (becB .nParams (⟨#[41]⟩ : ByteArray)) ∧ Below w.heap.size w w' := by
  have HE : Hid (becB .nParams (⟨#[41]⟩ : ByteArray) = []) := by show _ = _; rw [becB, if_pos rfl]
  go_enter Tryz.func118, Tryz.ntmps118
  go_wp2
  go_ret
  exact ret_strs_nil HE.out (Below.refl _ _)

set_option maxRecDepth 100000 in
set_option maxHeartbeats 1000000 in
theorem b_params1 (t : ByteArray) (w : World) (n0 : (t.toList == [41]) = false) :
    Calls Tryz.prog 118 #[.string ⟨#[80, 65, 82, 65, 77, 83]⟩, .string t] w fun e w' => ∃ ao cap, e = .returned (.slice ao (becB .nParams t).length cap) ∧ StrSl w' ao cap (becB .nParams t) ∧ Below w.heap.size w w' := by
  have HE : Hid (becB .nParams t = [⟨#[78, 65, 77, 69, 83]⟩]) := by show _ = _; rw [becB, if_neg (ne_of_lit n0 (by rw [bl]))]
  go_enter Tryz.func118, Tryz.ntmps118
  go_wp2
  go_ret
  exact ret_strs (l := [⟨#[78, 65, 77, 69, 83]⟩]) rfl rfl HE.out.symm (Below.refl _ _)

theorem b_params (t : ByteArray) (w : World) :
    Calls Tryz.prog 118 #[.string ⟨#[80, 65, 82, 65, 77, 83]⟩, .string t] w fun e w' => ∃ ao cap, e = .returned (.slice ao (becB .nParams t).length cap) ∧ StrSl w' ao cap (becB .nParams t) ∧ Below w.heap.size w w' := by
  by_cases e0 : t = ⟨#[41]⟩
  · subst e0; exact b_params0 w
  have n0 := lit_ne e0 (l := [41]) (by rw [bl])
  exact b_params1 t w n0

set_option maxRecDepth 100000 in
set_option maxHeartbeats 1000000 in
theorem b_block0 (t : ByteArray) (w : World) :
    Calls Tryz.prog 118 #[.string ⟨#[66, 76, 79, 67, 75]⟩, .string t] w fun e w' => ∃ ao cap, e = .returned (.slice ao (becB .nBlock t).length cap) ∧ StrSl w' ao cap (becB .nBlock t) ∧ Below w.heap.size w w' := by
  have HE : Hid (becB .nBlock t = [⟨#[123]⟩, ⟨#[83, 84, 77, 84, 83]⟩, ⟨#[125]⟩]) := by show _ = _; rfl
  go_enter Tryz.func118, Tryz.ntmps118
  go_wp2
  go_ret
  exact ret_strs (l := [⟨#[123]⟩, ⟨#[83, 84, 77, 84, 83]⟩, ⟨#[125]⟩]) rfl rfl HE.out.symm (Below.refl _ _)

theorem b_block (t : ByteArray) (w : World) :
    Calls Tryz.prog 118 #[.string ⟨#[66, 76, 79, 67, 75]⟩, .string t] w fun e w' => ∃ ao cap, e = .returned (.slice ao (becB .nBlock t).length cap) ∧ StrSl w' ao cap (becB .nBlock t) ∧ Below w.heap.size w w' := by
  exact b_block0 t w

set_option maxRecDepth 100000 in
set_option maxHeartbeats 1000000 in
theorem b_stmts0 (w : World) :
    Calls Tryz.prog 118 #[.string ⟨#[83, 84, 77, 84, 83]⟩, .string (⟨#[125]⟩ : ByteArray)] w fun e w' => ∃ ao cap, e = .returned (.slice ao (becB .nStmts (⟨#[125]⟩ : ByteArray)).length cap) ∧ StrSl w' ao cap (becB .nStmts (⟨#[125]⟩ : ByteArray)) ∧ Below w.heap.size w w' := by
  have HE : Hid (becB .nStmts (⟨#[125]⟩ : ByteArray) = []) := by show _ = _; rw [becB, if_pos rfl]
  go_enter Tryz.func118, Tryz.ntmps118
  go_wp2
  go_ret
  exact ret_strs_nil HE.out (Below.refl _ _)

set_option maxRecDepth 100000 in
set_option maxHeartbeats 1000000 in
theorem b_stmts1 (t : ByteArray) (w : World) (n0 : (t.toList == [125]) = false) :
    Calls Tryz.prog 118 #[.string ⟨#[83, 84, 77, 84, 83]⟩, .string t] w fun e w' => ∃ ao cap, e = .returned (.slice ao (becB .nStmts t).length cap) ∧ StrSl w' ao cap (becB .nStmts t) ∧ Below w.heap.size w w' := by
  have HE : Hid (becB .nStmts t = [⟨#[83, 84, 77, 84]⟩, ⟨#[83, 84, 77, 84, 83]⟩]) := by show _ = _; rw [becB, if_neg (ne_of_lit n0 (by rw [bl]))]
  go_enter Tryz.func118, Tryz.ntmps118
  go_wp2
  go_ret
  exact ret_strs (l := [⟨#[83, 84, 77, 84]⟩, ⟨#[83, 84, 77, 84, 83]⟩]) rfl rfl HE.out.symm (Below.refl _ _)

theorem b_stmts (t : ByteArray) (w : World) :
    Calls Tryz.prog 118 #[.string ⟨#[83, 84, 77, 84, 83]⟩, .string t] w fun e w' => ∃ ao cap, e = .returned (.slice ao (becB .nStmts t).length cap) ∧ StrSl w' ao cap (becB .nStmts t) ∧ Below w.heap.size w w' := by
  by_cases e0 : t = ⟨#[125]⟩
  · subst e0; exact b_stmts0 w
  have n0 := lit_ne e0 (l := [125]) (by rw [bl])
  exact b_stmts1 t w n0

set_option maxRecDepth 100000 in
set_option maxHeartbeats 1000000 in
theorem b_values0 (w : World) :
    Calls Tryz.prog 118 #[.string ⟨#[86, 65, 76, 85, 69, 83]⟩, .string (⟨#[41]⟩ : ByteArray)] w fun e w' => ∃ ao cap, e = .returned (.slice ao (becB .nValues (⟨#[41]⟩ : ByteArray)).length cap) ∧ StrSl w' ao cap (becB .nValues (⟨#[41]⟩ : ByteArray)) ∧ Below w.heap.size w w' := by
  have HE : Hid (becB .nValues (⟨#[41]⟩ : ByteArray) = []) := by show _ = _; rw [becB, if_pos rfl]
  go_enter Tryz.func118, Tryz.ntmps118
  go_wp2
  go_ret
  exact ret_strs_nil HE.out (Below.refl _ _)

set_option maxRecDepth 100000 in
set_option maxHeartbeats 1000000 in
theorem b_values1 (t : ByteArray) (w : World) (n0 : (t.toList == [41]) = false) :
    Calls Tryz.prog 118 #[.string ⟨#[86, 65, 76, 85, 69, 83]⟩, .string t] w fun e w' => ∃ ao cap, e = .returned (.slice ao (becB .nValues t).length cap) ∧ StrSl w' ao cap (becB .nValues t) ∧ Below w.heap.size w w' := by
  have HE : Hid (becB .nValues t = [⟨#[69, 88, 80, 82]⟩, ⟨#[86, 65, 76, 85, 69]⟩]) := by show _ = _; rw [becB, if_neg (ne_of_lit n0 (by rw [bl]))]
  go_enter Tryz.func118, Tryz.ntmps118
  go_wp2
  go_ret
  exact ret_strs (l := [⟨#[69, 88, 80, 82]⟩, ⟨#[86, 65, 76, 85, 69]⟩]) rfl rfl HE.out.symm (Below.refl _ _)

theorem b_values (t : ByteArray) (w : World) :
    Calls Tryz.prog 118 #[.string ⟨#[86, 65, 76, 85, 69, 83]⟩, .string t] w fun e w' => ∃ ao cap, e = .returned (.slice ao (becB .nValues t).length cap) ∧ StrSl w' ao cap (becB .nValues t) ∧ Below w.heap.size w w' := by
  by_cases e0 : t = ⟨#[41]⟩
  · subst e0; exact b_values0 w
  have n0 := lit_ne e0 (l := [41]) (by rw [bl])
  exact b_values1 t w n0

set_option maxRecDepth 100000 in
set_option maxHeartbeats 1000000 in
theorem b_value0 (w : World) :
    Calls Tryz.prog 118 #[.string ⟨#[86, 65, 76, 85, 69]⟩, .string (⟨#[44]⟩ : ByteArray)] w fun e w' => ∃ ao cap, e = .returned (.slice ao (becB .nValue (⟨#[44]⟩ : ByteArray)).length cap) ∧ StrSl w' ao cap (becB .nValue (⟨#[44]⟩ : ByteArray)) ∧ Below w.heap.size w w' := by
  have HE : Hid (becB .nValue (⟨#[44]⟩ : ByteArray) = [⟨#[44]⟩, ⟨#[69, 88, 80, 82]⟩, ⟨#[86, 65, 76, 85, 69]⟩]) := by show _ = _; rw [becB, if_pos rfl]
  go_enter Tryz.func118, Tryz.ntmps118
  go_wp2
  go_ret
  exact ret_strs (l := [⟨#[44]⟩, ⟨#[69, 88, 80, 82]⟩, ⟨#[86, 65, 76, 85, 69]⟩]) rfl rfl HE.out.symm (Below.refl _ _)

set_option maxRecDepth 100000 in
set_option maxHeartbeats 1000000 in
theorem b_value1 (t : ByteArray) (w : World) (n0 : (t.toList == [44]) = false) :
    Calls Tryz.prog 118 #[.string ⟨#[86, 65, 76, 85, 69]⟩, .string t] w fun e w' => ∃ ao cap, e = .returned (.slice ao (becB .nValue t).length cap) ∧ StrSl w' ao cap (becB .nValue t) ∧ Below w.heap.size w w' := by
  have HE : Hid (becB .nValue t = []) := by show _ = _; rw [becB, if_neg (ne_of_lit n0 (by rw [bl]))]
  go_enter Tryz.func118, Tryz.ntmps118
  go_wp2
  go_ret
  exact ret_strs_nil HE.out (Below.refl _ _)

theorem b_value (t : ByteArray) (w : World) :
    Calls Tryz.prog 118 #[.string ⟨#[86, 65, 76, 85, 69]⟩, .string t] w fun e w' => ∃ ao cap, e = .returned (.slice ao (becB .nValue t).length cap) ∧ StrSl w' ao cap (becB .nValue t) ∧ Below w.heap.size w w' := by
  by_cases e0 : t = ⟨#[44]⟩
  · subst e0; exact b_value0 w
  have n0 := lit_ne e0 (l := [44]) (by rw [bl])
  exact b_value1 t w n0

set_option maxRecDepth 100000 in
set_option maxHeartbeats 1000000 in
theorem b_shared0 (w : World) :
    Calls Tryz.prog 118 #[.string ⟨#[83, 72, 65, 82, 69, 68]⟩, .string (⟨#[115, 104, 97, 114, 101, 100]⟩ : ByteArray)] w fun e w' => ∃ ao cap, e = .returned (.slice ao (becB .nShared (⟨#[115, 104, 97, 114, 101, 100]⟩ : ByteArray)).length cap) ∧ StrSl w' ao cap (becB .nShared (⟨#[115, 104, 97, 114, 101, 100]⟩ : ByteArray)) ∧ Below w.heap.size w w' := by
  have HE : Hid (becB .nShared (⟨#[115, 104, 97, 114, 101, 100]⟩ : ByteArray) = [⟨#[115, 104, 97, 114, 101, 100]⟩, ⟨#[78, 65, 77, 69, 83]⟩, ⟨#[59]⟩]) := by show _ = _; rw [becB, if_pos rfl]
  go_enter Tryz.func118, Tryz.ntmps118
  go_wp2
  go_ret
  exact ret_strs (l := [⟨#[115, 104, 97, 114, 101, 100]⟩, ⟨#[78, 65, 77, 69, 83]⟩, ⟨#[59]⟩]) rfl rfl HE.out.symm (Below.refl _ _)

set_option maxRecDepth 100000 in
set_option maxHeartbeats 1000000 in
theorem b_shared1 (t : ByteArray) (w : World) (n0 : (t.toList == [115, 104, 97, 114, 101, 100]) = false) :
    Calls Tryz.prog 118 #[.string ⟨#[83, 72, 65, 82, 69, 68]⟩, .string t] w fun e w' => ∃ ao cap, e = .returned (.slice ao (becB .nShared t).length cap) ∧ StrSl w' ao cap (becB .nShared t) ∧ Below w.heap.size w w' := by
  have HE : Hid (becB .nShared t = []) := by show _ = _; rw [becB, if_neg (ne_of_lit n0 (by rw [bl]))]
  go_enter Tryz.func118, Tryz.ntmps118
  go_wp2
  go_ret
  exact ret_strs_nil HE.out (Below.refl _ _)

theorem b_shared (t : ByteArray) (w : World) :
    Calls Tryz.prog 118 #[.string ⟨#[83, 72, 65, 82, 69, 68]⟩, .string t] w fun e w' => ∃ ao cap, e = .returned (.slice ao (becB .nShared t).length cap) ∧ StrSl w' ao cap (becB .nShared t) ∧ Below w.heap.size w w' := by
  by_cases e0 : t = ⟨#[115, 104, 97, 114, 101, 100]⟩
  · subst e0; exact b_shared0 w
  have n0 := lit_ne e0 (l := [115, 104, 97, 114, 101, 100]) (by rw [bl])
  exact b_shared1 t w n0

set_option maxRecDepth 100000 in
set_option maxHeartbeats 1000000 in
theorem b_locks0 (w : World) :
    Calls Tryz.prog 118 #[.string ⟨#[76, 79, 67, 75, 83]⟩, .string (⟨#[108, 111, 99, 107, 115]⟩ : ByteArray)] w fun e w' => ∃ ao cap, e = .returned (.slice ao (becB .nLocks (⟨#[108, 111, 99, 107, 115]⟩ : ByteArray)).length cap) ∧ StrSl w' ao cap (becB .nLocks (⟨#[108, 111, 99, 107, 115]⟩ : ByteArray)) ∧ Below w.heap.size w w' := by
  have HE : Hid (becB .nLocks (⟨#[108, 111, 99, 107, 115]⟩ : ByteArray) = [⟨#[108, 111, 99, 107, 115]⟩, ⟨#[78, 65, 77, 69, 83]⟩, ⟨#[59]⟩]) := by show _ = _; rw [becB, if_pos rfl]
  go_enter Tryz.func118, Tryz.ntmps118
  go_wp2
  go_ret
  exact ret_strs (l := [⟨#[108, 111, 99, 107, 115]⟩, ⟨#[78, 65, 77, 69, 83]⟩, ⟨#[59]⟩]) rfl rfl HE.out.symm (Below.refl _ _)

set_option maxRecDepth 100000 in
set_option maxHeartbeats 1000000 in
theorem b_locks1 (t : ByteArray) (w : World) (n0 : (t.toList == [108, 111, 99, 107, 115]) = false) :
    Calls Tryz.prog 118 #[.string ⟨#[76, 79, 67, 75, 83]⟩, .string t] w fun e w' => ∃ ao cap, e = .returned (.slice ao (becB .nLocks t).length cap) ∧ StrSl w' ao cap (becB .nLocks t) ∧ Below w.heap.size w w' := by
  have HE : Hid (becB .nLocks t = []) := by show _ = _; rw [becB, if_neg (ne_of_lit n0 (by rw [bl]))]
  go_enter Tryz.func118, Tryz.ntmps118
  go_wp2
  go_ret
  exact ret_strs_nil HE.out (Below.refl _ _)

theorem b_locks (t : ByteArray) (w : World) :
    Calls Tryz.prog 118 #[.string ⟨#[76, 79, 67, 75, 83]⟩, .string t] w fun e w' => ∃ ao cap, e = .returned (.slice ao (becB .nLocks t).length cap) ∧ StrSl w' ao cap (becB .nLocks t) ∧ Below w.heap.size w w' := by
  by_cases e0 : t = ⟨#[108, 111, 99, 107, 115]⟩
  · subst e0; exact b_locks0 w
  have n0 := lit_ne e0 (l := [108, 111, 99, 107, 115]) (by rw [bl])
  exact b_locks1 t w n0

set_option maxRecDepth 100000 in
set_option maxHeartbeats 1000000 in
theorem b_expr0 (t : ByteArray) (w : World) (ht : t.size ≤ 500) :
    Calls Tryz.prog 119 #[.string ⟨#[69, 88, 80, 82]⟩, .string t] w fun e w' => ∃ ao cap, e = .returned (.slice ao (becB .nExpr t).length cap) ∧ StrSl w' ao cap (becB .nExpr t) ∧ Below w.heap.size w w' := by
  have HE : Hid (becB .nExpr t = [⟨#[84, 69, 82, 77]⟩, ⟨#[79, 82]⟩]) := by show _ = _; rfl
  go_enter Tryz.func119, Tryz.ntmps119
  go_wp2_with (go_at_call 49; refine (r_isName _ _ ht).mono ?_; rintro e w1 ⟨rfl, hb1⟩)
  go_ret
  exact ret_strs (l := [⟨#[84, 69, 82, 77]⟩, ⟨#[79, 82]⟩]) rfl rfl HE.out.symm hb1

theorem b_expr (t : ByteArray) (w : World) (ht : t.size ≤ 500) :
    Calls Tryz.prog 119 #[.string ⟨#[69, 88, 80, 82]⟩, .string t] w fun e w' => ∃ ao cap, e = .returned (.slice ao (becB .nExpr t).length cap) ∧ StrSl w' ao cap (becB .nExpr t) ∧ Below w.heap.size w w' := by
  exact b_expr0 t w ht

set_option maxRecDepth 100000 in
set_option maxHeartbeats 1000000 in
theorem b_or0 (w : World) :
    Calls Tryz.prog 119 #[.string ⟨#[79, 82]⟩, .string (⟨#[124]⟩ : ByteArray)] w fun e w' => ∃ ao cap, e = .returned (.slice ao (becB .nOr (⟨#[124]⟩ : ByteArray)).length cap) ∧ StrSl w' ao cap (becB .nOr (⟨#[124]⟩ : ByteArray)) ∧ Below w.heap.size w w' := by
  have hN : isNameB (⟨#[124]⟩ : ByteArray) = false := by rw [isNameB_eq]; decide
  have HE : Hid (becB .nOr (⟨#[124]⟩ : ByteArray) = [⟨#[124]⟩, ⟨#[84, 69, 82, 77]⟩, ⟨#[79, 82]⟩]) := by show _ = _; rw [becB, if_pos rfl]
  go_enter Tryz.func119, Tryz.ntmps119
  go_wp2_with (go_at_call 49; refine (r_isName _ _ (by decide)).mono ?_; rintro e w1 ⟨rfl, hb1⟩)
  go_ret
  exact ret_strs (l := [⟨#[124]⟩, ⟨#[84, 69, 82, 77]⟩, ⟨#[79, 82]⟩]) rfl rfl HE.out.symm hb1

set_option maxRecDepth 100000 in
set_option maxHeartbeats 1000000 in
theorem b_or1 (t : ByteArray) (w : World) (ht : t.size ≤ 500) (n0 : (t.toList == [124]) = false) :
    Calls Tryz.prog 119 #[.string ⟨#[79, 82]⟩, .string t] w fun e w' => ∃ ao cap, e = .returned (.slice ao (becB .nOr t).length cap) ∧ StrSl w' ao cap (becB .nOr t) ∧ Below w.heap.size w w' := by
  have HE : Hid (becB .nOr t = []) := by show _ = _; rw [becB, if_neg (ne_of_lit n0 (by rw [bl]))]
  go_enter Tryz.func119, Tryz.ntmps119
  go_wp2_with (go_at_call 49; refine (r_isName _ _ ht).mono ?_; rintro e w1 ⟨rfl, hb1⟩)
  go_ret
  exact ret_strs_nil HE.out hb1

theorem b_or (t : ByteArray) (w : World) (ht : t.size ≤ 500) :
    Calls Tryz.prog 119 #[.string ⟨#[79, 82]⟩, .string t] w fun e w' => ∃ ao cap, e = .returned (.slice ao (becB .nOr t).length cap) ∧ StrSl w' ao cap (becB .nOr t) ∧ Below w.heap.size w w' := by
  by_cases e0 : t = ⟨#[124]⟩
  · subst e0; exact b_or0 w
  have n0 := lit_ne e0 (l := [124]) (by rw [bl])
  exact b_or1 t w ht n0

set_option maxRecDepth 100000 in
set_option maxHeartbeats 1000000 in
theorem b_term0 (t : ByteArray) (w : World) (ht : t.size ≤ 500) :
    Calls Tryz.prog 119 #[.string ⟨#[84, 69, 82, 77]⟩, .string t] w fun e w' => ∃ ao cap, e = .returned (.slice ao (becB .nTerm t).length cap) ∧ StrSl w' ao cap (becB .nTerm t) ∧ Below w.heap.size w w' := by
  have HE : Hid (becB .nTerm t = [⟨#[70, 65, 67, 84, 79, 82]⟩, ⟨#[65, 78, 68]⟩]) := by show _ = _; rfl
  go_enter Tryz.func119, Tryz.ntmps119
  go_wp2_with (go_at_call 49; refine (r_isName _ _ ht).mono ?_; rintro e w1 ⟨rfl, hb1⟩)
  go_ret
  exact ret_strs (l := [⟨#[70, 65, 67, 84, 79, 82]⟩, ⟨#[65, 78, 68]⟩]) rfl rfl HE.out.symm hb1

theorem b_term (t : ByteArray) (w : World) (ht : t.size ≤ 500) :
    Calls Tryz.prog 119 #[.string ⟨#[84, 69, 82, 77]⟩, .string t] w fun e w' => ∃ ao cap, e = .returned (.slice ao (becB .nTerm t).length cap) ∧ StrSl w' ao cap (becB .nTerm t) ∧ Below w.heap.size w w' := by
  exact b_term0 t w ht

set_option maxRecDepth 100000 in
set_option maxHeartbeats 1000000 in
theorem b_and0 (w : World) :
    Calls Tryz.prog 119 #[.string ⟨#[65, 78, 68]⟩, .string (⟨#[38]⟩ : ByteArray)] w fun e w' => ∃ ao cap, e = .returned (.slice ao (becB .nAnd (⟨#[38]⟩ : ByteArray)).length cap) ∧ StrSl w' ao cap (becB .nAnd (⟨#[38]⟩ : ByteArray)) ∧ Below w.heap.size w w' := by
  have hN : isNameB (⟨#[38]⟩ : ByteArray) = false := by rw [isNameB_eq]; decide
  have HE : Hid (becB .nAnd (⟨#[38]⟩ : ByteArray) = [⟨#[38]⟩, ⟨#[70, 65, 67, 84, 79, 82]⟩, ⟨#[65, 78, 68]⟩]) := by show _ = _; rw [becB, if_pos rfl]
  go_enter Tryz.func119, Tryz.ntmps119
  go_wp2_with (go_at_call 49; refine (r_isName _ _ (by decide)).mono ?_; rintro e w1 ⟨rfl, hb1⟩)
  go_ret
  exact ret_strs (l := [⟨#[38]⟩, ⟨#[70, 65, 67, 84, 79, 82]⟩, ⟨#[65, 78, 68]⟩]) rfl rfl HE.out.symm hb1

set_option maxRecDepth 100000 in
set_option maxHeartbeats 1000000 in
theorem b_and1 (t : ByteArray) (w : World) (ht : t.size ≤ 500) (n0 : (t.toList == [38]) = false) :
    Calls Tryz.prog 119 #[.string ⟨#[65, 78, 68]⟩, .string t] w fun e w' => ∃ ao cap, e = .returned (.slice ao (becB .nAnd t).length cap) ∧ StrSl w' ao cap (becB .nAnd t) ∧ Below w.heap.size w w' := by
  have HE : Hid (becB .nAnd t = []) := by show _ = _; rw [becB, if_neg (ne_of_lit n0 (by rw [bl]))]
  go_enter Tryz.func119, Tryz.ntmps119
  go_wp2_with (go_at_call 49; refine (r_isName _ _ ht).mono ?_; rintro e w1 ⟨rfl, hb1⟩)
  go_ret
  exact ret_strs_nil HE.out hb1

theorem b_and (t : ByteArray) (w : World) (ht : t.size ≤ 500) :
    Calls Tryz.prog 119 #[.string ⟨#[65, 78, 68]⟩, .string t] w fun e w' => ∃ ao cap, e = .returned (.slice ao (becB .nAnd t).length cap) ∧ StrSl w' ao cap (becB .nAnd t) ∧ Below w.heap.size w w' := by
  by_cases e0 : t = ⟨#[38]⟩
  · subst e0; exact b_and0 w
  have n0 := lit_ne e0 (l := [38]) (by rw [bl])
  exact b_and1 t w ht n0

set_option maxRecDepth 100000 in
set_option maxHeartbeats 1000000 in
theorem b_factor0 (w : World) :
    Calls Tryz.prog 119 #[.string ⟨#[70, 65, 67, 84, 79, 82]⟩, .string (⟨#[33]⟩ : ByteArray)] w fun e w' => ∃ ao cap, e = .returned (.slice ao (becB .nFactor (⟨#[33]⟩ : ByteArray)).length cap) ∧ StrSl w' ao cap (becB .nFactor (⟨#[33]⟩ : ByteArray)) ∧ Below w.heap.size w w' := by
  have hN : isNameB (⟨#[33]⟩ : ByteArray) = false := by rw [isNameB_eq]; decide
  have HE : Hid (becB .nFactor (⟨#[33]⟩ : ByteArray) = [⟨#[33]⟩, ⟨#[70, 65, 67, 84, 79, 82]⟩]) := by show _ = _; rw [becB, if_pos rfl]
  go_enter Tryz.func119, Tryz.ntmps119
  go_wp2_with (go_at_call 49; refine (r_isName _ _ (by decide)).mono ?_; rintro e w1 ⟨rfl, hb1⟩)
  go_ret
  exact ret_strs (l := [⟨#[33]⟩, ⟨#[70, 65, 67, 84, 79, 82]⟩]) rfl rfl HE.out.symm hb1

set_option maxRecDepth 100000 in
set_option maxHeartbeats 1000000 in
theorem b_factor1 (w : World) :
    Calls Tryz.prog 119 #[.string ⟨#[70, 65, 67, 84, 79, 82]⟩, .string (⟨#[40]⟩ : ByteArray)] w fun e w' => ∃ ao cap, e = .returned (.slice ao (becB .nFactor (⟨#[40]⟩ : ByteArray)).length cap) ∧ StrSl w' ao cap (becB .nFactor (⟨#[40]⟩ : ByteArray)) ∧ Below w.heap.size w w' := by
  have hN : isNameB (⟨#[40]⟩ : ByteArray) = false := by rw [isNameB_eq]; decide
  have HE : Hid (becB .nFactor (⟨#[40]⟩ : ByteArray) = [⟨#[40]⟩, ⟨#[69, 88, 80, 82]⟩, ⟨#[41]⟩]) := by show _ = _; rw [becB, if_neg (by decide), if_pos rfl]
  go_enter Tryz.func119, Tryz.ntmps119
  go_wp2_with (go_at_call 49; refine (r_isName _ _ (by decide)).mono ?_; rintro e w1 ⟨rfl, hb1⟩)
  go_ret
  exact ret_strs (l := [⟨#[40]⟩, ⟨#[69, 88, 80, 82]⟩, ⟨#[41]⟩]) rfl rfl HE.out.symm hb1

set_option maxRecDepth 100000 in
set_option maxHeartbeats 1000000 in
theorem b_factor2 (t : ByteArray) (w : World) (ht : t.size ≤ 500) (hN : isNameB t = true) (n0 : (t.toList == [33]) = false) (n1 : (t.toList == [40]) = false) :
    Calls Tryz.prog 119 #[.string ⟨#[70, 65, 67, 84, 79, 82]⟩, .string t] w fun e w' => ∃ ao cap, e = .returned (.slice ao (becB .nFactor t).length cap) ∧ StrSl w' ao cap (becB .nFactor t) ∧ Below w.heap.size w w' := by
  have HE : Hid (becB .nFactor t = [t]) := by show _ = _; rw [becB, if_neg (ne_of_lit n0 (by rw [bl])), if_neg (ne_of_lit n1 (by rw [bl])), if_pos hN]
  go_enter Tryz.func119, Tryz.ntmps119
  go_wp2_with (go_at_call 49; refine (r_isName _ _ ht).mono ?_; rintro e w1 ⟨rfl, hb1⟩)
  go_ret
  exact ret_strs (l := [t]) rfl rfl HE.out.symm hb1

set_option maxRecDepth 100000 in
set_option maxHeartbeats 1000000 in
theorem b_factor3 (w : World) :
    Calls Tryz.prog 119 #[.string ⟨#[70, 65, 67, 84, 79, 82]⟩, .string (⟨#[116, 114, 117, 101]⟩ : ByteArray)] w fun e w' => ∃ ao cap, e = .returned (.slice ao (becB .nFactor (⟨#[116, 114, 117, 101]⟩ : ByteArray)).length cap) ∧ StrSl w' ao cap (becB .nFactor (⟨#[116, 114, 117, 101]⟩ : ByteArray)) ∧ Below w.heap.size w w' := by
  have hN : isNameB (⟨#[116, 114, 117, 101]⟩ : ByteArray) = false := by rw [isNameB_eq]; decide
  have HE : Hid (becB .nFactor (⟨#[116, 114, 117, 101]⟩ : ByteArray) = [⟨#[116, 114, 117, 101]⟩]) := by show _ = _; rw [becB, if_neg (by decide), if_neg (by decide), if_neg (by rw [hN]; decide), if_pos rfl]
  go_enter Tryz.func119, Tryz.ntmps119
  go_wp2_with (go_at_call 49; refine (r_isName _ _ (by decide)).mono ?_; rintro e w1 ⟨rfl, hb1⟩)
  go_ret
  exact ret_strs (l := [⟨#[116, 114, 117, 101]⟩]) rfl rfl HE.out.symm hb1

set_option maxRecDepth 100000 in
set_option maxHeartbeats 1000000 in
theorem b_factor4 (w : World) :
    Calls Tryz.prog 119 #[.string ⟨#[70, 65, 67, 84, 79, 82]⟩, .string (⟨#[102, 97, 108, 115, 101]⟩ : ByteArray)] w fun e w' => ∃ ao cap, e = .returned (.slice ao (becB .nFactor (⟨#[102, 97, 108, 115, 101]⟩ : ByteArray)).length cap) ∧ StrSl w' ao cap (becB .nFactor (⟨#[102, 97, 108, 115, 101]⟩ : ByteArray)) ∧ Below w.heap.size w w' := by
  have hN : isNameB (⟨#[102, 97, 108, 115, 101]⟩ : ByteArray) = false := by rw [isNameB_eq]; decide
  have HE : Hid (becB .nFactor (⟨#[102, 97, 108, 115, 101]⟩ : ByteArray) = [⟨#[102, 97, 108, 115, 101]⟩]) := by show _ = _; rw [becB, if_neg (by decide), if_neg (by decide), if_neg (by rw [hN]; decide), if_neg (by decide), if_pos rfl]
  go_enter Tryz.func119, Tryz.ntmps119
  go_wp2_with (go_at_call 49; refine (r_isName _ _ (by decide)).mono ?_; rintro e w1 ⟨rfl, hb1⟩)
  go_ret
  exact ret_strs (l := [⟨#[102, 97, 108, 115, 101]⟩]) rfl rfl HE.out.symm hb1

set_option maxRecDepth 100000 in
set_option maxHeartbeats 1000000 in
theorem b_factor5 (w : World) :
    Calls Tryz.prog 119 #[.string ⟨#[70, 65, 67, 84, 79, 82]⟩, .string (⟨#[63]⟩ : ByteArray)] w fun e w' => ∃ ao cap, e = .returned (.slice ao (becB .nFactor (⟨#[63]⟩ : ByteArray)).length cap) ∧ StrSl w' ao cap (becB .nFactor (⟨#[63]⟩ : ByteArray)) ∧ Below w.heap.size w w' := by
  have hN : isNameB (⟨#[63]⟩ : ByteArray) = false := by rw [isNameB_eq]; decide
  have HE : Hid (becB .nFactor (⟨#[63]⟩ : ByteArray) = [⟨#[63]⟩]) := by show _ = _; rw [becB, if_neg (by decide), if_neg (by decide), if_neg (by rw [hN]; decide), if_neg (by decide), if_neg (by decide), if_pos rfl]
  go_enter Tryz.func119, Tryz.ntmps119
  go_wp2_with (go_at_call 49; refine (r_isName _ _ (by decide)).mono ?_; rintro e w1 ⟨rfl, hb1⟩)
  go_ret
  exact ret_strs (l := [⟨#[63]⟩]) rfl rfl HE.out.symm hb1

set_option maxRecDepth 100000 in
set_option maxHeartbeats 1000000 in
theorem b_factor6 (t : ByteArray) (w : World) (ht : t.size ≤ 500) (hN : isNameB t = false) (n0 : (t.toList == [33]) = false) (n1 : (t.toList == [40]) = false) (n3 : (t.toList == [116, 114, 117, 101]) = false) (n4 : (t.toList == [102, 97, 108, 115, 101]) = false) (n5 : (t.toList == [63]) = false) :
    Calls Tryz.prog 119 #[.string ⟨#[70, 65, 67, 84, 79, 82]⟩, .string t] w fun e w' => ∃ ao cap, e = .returned (.slice ao (becB .nFactor t).length cap) ∧ StrSl w' ao cap (becB .nFactor t) ∧ Below w.heap.size w w' := by
  have HE : Hid (becB .nFactor t = [⟨#[78, 65, 77, 69]⟩]) := by show _ = _; rw [becB, if_neg (ne_of_lit n0 (by rw [bl])), if_neg (ne_of_lit n1 (by rw [bl])), if_neg (by rw [hN]; decide), if_neg (ne_of_lit n3 (by rw [bl])), if_neg (ne_of_lit n4 (by rw [bl])), if_neg (ne_of_lit n5 (by rw [bl]))]
  go_enter Tryz.func119, Tryz.ntmps119
  go_wp2_with (go_at_call 49; refine (r_isName _ _ ht).mono ?_; rintro e w1 ⟨rfl, hb1⟩)
  go_ret
  exact ret_strs (l := [⟨#[78, 65, 77, 69]⟩]) rfl rfl HE.out.symm hb1

theorem b_factor (t : ByteArray) (w : World) (ht : t.size ≤ 500) :
    Calls Tryz.prog 119 #[.string ⟨#[70, 65, 67, 84, 79, 82]⟩, .string t] w fun e w' => ∃ ao cap, e = .returned (.slice ao (becB .nFactor t).length cap) ∧ StrSl w' ao cap (becB .nFactor t) ∧ Below w.heap.size w w' := by
  by_cases e0 : t = ⟨#[33]⟩
  · subst e0; exact b_factor0 w
  have n0 := lit_ne e0 (l := [33]) (by rw [bl])
  by_cases e1 : t = ⟨#[40]⟩
  · subst e1; exact b_factor1 w
  have n1 := lit_ne e1 (l := [40]) (by rw [bl])
  by_cases hN0 : isNameB t = true
  · exact b_factor2 t w ht hN0 n0 n1
  have hN : isNameB t = false := by simpa using hN0
  by_cases e3 : t = ⟨#[116, 114, 117, 101]⟩
  · subst e3; exact b_factor3 w
  have n3 := lit_ne e3 (l := [116, 114, 117, 101]) (by rw [bl])
  by_cases e4 : t = ⟨#[102, 97, 108, 115, 101]⟩
  · subst e4; exact b_factor4 w
  have n4 := lit_ne e4 (l := [102, 97, 108, 115, 101]) (by rw [bl])
  by_cases e5 : t = ⟨#[63]⟩
  · subst e5; exact b_factor5 w
  have n5 := lit_ne e5 (l := [63]) (by rw [bl])
  exact b_factor6 t w ht hN n0 n1 n3 n4 n5

set_option maxRecDepth 100000 in
set_option maxHeartbeats 1000000 in
theorem b_stmt0 (t : ByteArray) (w : World) (ht : t.size ≤ 500) (hN : isNameB t = true) :
    Calls Tryz.prog 120 #[.string ⟨#[83, 84, 77, 84]⟩, .string t] w fun e w' => ∃ ao cap, e = .returned (.slice ao (becB .nStmt t).length cap) ∧ StrSl w' ao cap (becB .nStmt t) ∧ Below w.heap.size w w' := by
  have HE : Hid (becB .nStmt t = [⟨#[78, 65, 77, 69]⟩, ⟨#[66, 69, 72, 73, 78, 68]⟩]) := by show _ = _; rw [becB, if_pos hN]
  go_enter Tryz.func120, Tryz.ntmps120
  go_wp2_with (go_at_call 49; refine (r_isName _ _ ht).mono ?_; rintro e w1 ⟨rfl, hb1⟩)
  go_ret
  exact ret_strs (l := [⟨#[78, 65, 77, 69]⟩, ⟨#[66, 69, 72, 73, 78, 68]⟩]) rfl rfl HE.out.symm hb1

set_option maxRecDepth 100000 in
set_option maxHeartbeats 1000000 in
theorem b_stmt1 (w : World) :
    Calls Tryz.prog 120 #[.string ⟨#[83, 84, 77, 84]⟩, .string (⟨#[105, 102]⟩ : ByteArray)] w fun e w' => ∃ ao cap, e = .returned (.slice ao (becB .nStmt (⟨#[105, 102]⟩ : ByteArray)).length cap) ∧ StrSl w' ao cap (becB .nStmt (⟨#[105, 102]⟩ : ByteArray)) ∧ Below w.heap.size w w' := by
  have hN : isNameB (⟨#[105, 102]⟩ : ByteArray) = false := by rw [isNameB_eq]; decide
  have HE : Hid (becB .nStmt (⟨#[105, 102]⟩ : ByteArray) = [⟨#[105, 102]⟩, ⟨#[40]⟩, ⟨#[69, 88, 80, 82]⟩, ⟨#[41]⟩, ⟨#[66, 76, 79, 67, 75]⟩, ⟨#[69, 76, 83, 69]⟩]) := by show _ = _; rw [becB, if_neg (by rw [hN]; decide), if_pos rfl]
  go_enter Tryz.func120, Tryz.ntmps120
  go_wp2_with (go_at_call 49; refine (r_isName _ _ (by decide)).mono ?_; rintro e w1 ⟨rfl, hb1⟩)
  go_ret
  exact ret_strs (l := [⟨#[105, 102]⟩, ⟨#[40]⟩, ⟨#[69, 88, 80, 82]⟩, ⟨#[41]⟩, ⟨#[66, 76, 79, 67, 75]⟩, ⟨#[69, 76, 83, 69]⟩]) rfl rfl HE.out.symm hb1

set_option maxRecDepth 100000 in
set_option maxHeartbeats 1000000 in
theorem b_stmt2 (w : World) :
    Calls Tryz.prog 120 #[.string ⟨#[83, 84, 77, 84]⟩, .string (⟨#[119, 104, 105, 108, 101]⟩ : ByteArray)] w fun e w' => ∃ ao cap, e = .returned (.slice ao (becB .nStmt (⟨#[119, 104, 105, 108, 101]⟩ : ByteArray)).length cap) ∧ StrSl w' ao cap (becB .nStmt (⟨#[119, 104, 105, 108, 101]⟩ : ByteArray)) ∧ Below w.heap.size w w' := by
  have hN : isNameB (⟨#[119, 104, 105, 108, 101]⟩ : ByteArray) = false := by rw [isNameB_eq]; decide
  have HE : Hid (becB .nStmt (⟨#[119, 104, 105, 108, 101]⟩ : ByteArray) = [⟨#[119, 104, 105, 108, 101]⟩, ⟨#[40]⟩, ⟨#[69, 88, 80, 82]⟩, ⟨#[41]⟩, ⟨#[66, 76, 79, 67, 75]⟩]) := by show _ = _; rw [becB, if_neg (by rw [hN]; decide), if_neg (by decide), if_pos rfl]
  go_enter Tryz.func120, Tryz.ntmps120
  go_wp2_with (go_at_call 49; refine (r_isName _ _ (by decide)).mono ?_; rintro e w1 ⟨rfl, hb1⟩)
  go_ret
  exact ret_strs (l := [⟨#[119, 104, 105, 108, 101]⟩, ⟨#[40]⟩, ⟨#[69, 88, 80, 82]⟩, ⟨#[41]⟩, ⟨#[66, 76, 79, 67, 75]⟩]) rfl rfl HE.out.symm hb1

set_option maxRecDepth 100000 in
set_option maxHeartbeats 1000000 in
theorem b_stmt3 (w : World) :
    Calls Tryz.prog 120 #[.string ⟨#[83, 84, 77, 84]⟩, .string (⟨#[97, 115, 115, 117, 109, 101]⟩ : ByteArray)] w fun e w' => ∃ ao cap, e = .returned (.slice ao (becB .nStmt (⟨#[97, 115, 115, 117, 109, 101]⟩ : ByteArray)).length cap) ∧ StrSl w' ao cap (becB .nStmt (⟨#[97, 115, 115, 117, 109, 101]⟩ : ByteArray)) ∧ Below w.heap.size w w' := by
  have hN : isNameB (⟨#[97, 115, 115, 117, 109, 101]⟩ : ByteArray) = false := by rw [isNameB_eq]; decide
  have HE : Hid (becB .nStmt (⟨#[97, 115, 115, 117, 109, 101]⟩ : ByteArray) = [⟨#[97, 115, 115, 117, 109, 101]⟩, ⟨#[69, 88, 80, 82]⟩, ⟨#[59]⟩]) := by show _ = _; rw [becB, if_neg (by rw [hN]; decide), if_neg (by decide), if_neg (by decide), if_pos rfl]
  go_enter Tryz.func120, Tryz.ntmps120
  go_wp2_with (go_at_call 49; refine (r_isName _ _ (by decide)).mono ?_; rintro e w1 ⟨rfl, hb1⟩)
  go_ret
  exact ret_strs (l := [⟨#[97, 115, 115, 117, 109, 101]⟩, ⟨#[69, 88, 80, 82]⟩, ⟨#[59]⟩]) rfl rfl HE.out.symm hb1

set_option maxRecDepth 100000 in
set_option maxHeartbeats 1000000 in
theorem b_stmt4 (w : World) :
    Calls Tryz.prog 120 #[.string ⟨#[83, 84, 77, 84]⟩, .string (⟨#[97, 99, 113, 117, 105, 114, 101]⟩ : ByteArray)] w fun e w' => ∃ ao cap, e = .returned (.slice ao (becB .nStmt (⟨#[97, 99, 113, 117, 105, 114, 101]⟩ : ByteArray)).length cap) ∧ StrSl w' ao cap (becB .nStmt (⟨#[97, 99, 113, 117, 105, 114, 101]⟩ : ByteArray)) ∧ Below w.heap.size w w' := by
  have hN : isNameB (⟨#[97, 99, 113, 117, 105, 114, 101]⟩ : ByteArray) = false := by rw [isNameB_eq]; decide
  have HE : Hid (becB .nStmt (⟨#[97, 99, 113, 117, 105, 114, 101]⟩ : ByteArray) = [⟨#[97, 99, 113, 117, 105, 114, 101]⟩, ⟨#[78, 65, 77, 69]⟩, ⟨#[59]⟩]) := by show _ = _; rw [becB, if_neg (by rw [hN]; decide), if_neg (by decide), if_neg (by decide), if_neg (by decide), if_pos rfl]
  go_enter Tryz.func120, Tryz.ntmps120
  go_wp2_with (go_at_call 49; refine (r_isName _ _ (by decide)).mono ?_; rintro e w1 ⟨rfl, hb1⟩)
  go_ret
  exact ret_strs (l := [⟨#[97, 99, 113, 117, 105, 114, 101]⟩, ⟨#[78, 65, 77, 69]⟩, ⟨#[59]⟩]) rfl rfl HE.out.symm hb1

set_option maxRecDepth 100000 in
set_option maxHeartbeats 1000000 in
theorem b_stmt5 (w : World) :
    Calls Tryz.prog 120 #[.string ⟨#[83, 84, 77, 84]⟩, .string (⟨#[114, 101, 108, 101, 97, 115, 101]⟩ : ByteArray)] w fun e w' => ∃ ao cap, e = .returned (.slice ao (becB .nStmt (⟨#[114, 101, 108, 101, 97, 115, 101]⟩ : ByteArray)).length cap) ∧ StrSl w' ao cap (becB .nStmt (⟨#[114, 101, 108, 101, 97, 115, 101]⟩ : ByteArray)) ∧ Below w.heap.size w w' := by
  have hN : isNameB (⟨#[114, 101, 108, 101, 97, 115, 101]⟩ : ByteArray) = false := by rw [isNameB_eq]; decide
  have HE : Hid (becB .nStmt (⟨#[114, 101, 108, 101, 97, 115, 101]⟩ : ByteArray) = [⟨#[114, 101, 108, 101, 97, 115, 101]⟩, ⟨#[78, 65, 77, 69]⟩, ⟨#[59]⟩]) := by show _ = _; rw [becB, if_neg (by rw [hN]; decide), if_neg (by decide), if_neg (by decide), if_neg (by decide), if_neg (by decide), if_pos rfl]
  go_enter Tryz.func120, Tryz.ntmps120
  go_wp2_with (go_at_call 49; refine (r_isName _ _ (by decide)).mono ?_; rintro e w1 ⟨rfl, hb1⟩)
  go_ret
  exact ret_strs (l := [⟨#[114, 101, 108, 101, 97, 115, 101]⟩, ⟨#[78, 65, 77, 69]⟩, ⟨#[59]⟩]) rfl rfl HE.out.symm hb1

set_option maxRecDepth 100000 in
set_option maxHeartbeats 1000000 in
theorem b_stmt6 (w : World) :
    Calls Tryz.prog 120 #[.string ⟨#[83, 84, 77, 84]⟩, .string (⟨#[114, 101, 116, 117, 114, 110]⟩ : ByteArray)] w fun e w' => ∃ ao cap, e = .returned (.slice ao (becB .nStmt (⟨#[114, 101, 116, 117, 114, 110]⟩ : ByteArray)).length cap) ∧ StrSl w' ao cap (becB .nStmt (⟨#[114, 101, 116, 117, 114, 110]⟩ : ByteArray)) ∧ Below w.heap.size w w' := by
  have hN : isNameB (⟨#[114, 101, 116, 117, 114, 110]⟩ : ByteArray) = false := by rw [isNameB_eq]; decide
  have HE : Hid (becB .nStmt (⟨#[114, 101, 116, 117, 114, 110]⟩ : ByteArray) = [⟨#[114, 101, 116, 117, 114, 110]⟩, ⟨#[82, 69, 83, 85, 76, 84]⟩, ⟨#[59]⟩]) := by show _ = _; rw [becB, if_neg (by rw [hN]; decide), if_neg (by decide), if_neg (by decide), if_neg (by decide), if_neg (by decide), if_neg (by decide), if_pos rfl]
  go_enter Tryz.func120, Tryz.ntmps120
  go_wp2_with (go_at_call 49; refine (r_isName _ _ (by decide)).mono ?_; rintro e w1 ⟨rfl, hb1⟩)
  go_ret
  exact ret_strs (l := [⟨#[114, 101, 116, 117, 114, 110]⟩, ⟨#[82, 69, 83, 85, 76, 84]⟩, ⟨#[59]⟩]) rfl rfl HE.out.symm hb1

set_option maxRecDepth 100000 in
set_option maxHeartbeats 1000000 in
theorem b_stmt7 (t : ByteArray) (w : World) (ht : t.size ≤ 500) (hN : isNameB t = false) (n1 : (t.toList == [105, 102]) = false) (n2 : (t.toList == [119, 104, 105, 108, 101]) = false) (n3 : (t.toList == [97, 115, 115, 117, 109, 101]) = false) (n4 : (t.toList == [97, 99, 113, 117, 105, 114, 101]) = false) (n5 : (t.toList == [114, 101, 108, 101, 97, 115, 101]) = false) (n6 : (t.toList == [114, 101, 116, 117, 114, 110]) = false) :
    Calls Tryz.prog 120 #[.string ⟨#[83, 84, 77, 84]⟩, .string t] w fun e w' => ∃ ao cap, e = .returned (.slice ao (becB .nStmt t).length cap) ∧ StrSl w' ao cap (becB .nStmt t) ∧ Below w.heap.size w w' := by
  have HE : Hid (becB .nStmt t = [⟨#[115, 107, 105, 112]⟩, ⟨#[59]⟩]) := by show _ = _; rw [becB, if_neg (by rw [hN]; decide), if_neg (ne_of_lit n1 (by rw [bl])), if_neg (ne_of_lit n2 (by rw [bl])), if_neg (ne_of_lit n3 (by rw [bl])), if_neg (ne_of_lit n4 (by rw [bl])), if_neg (ne_of_lit n5 (by rw [bl])), if_neg (ne_of_lit n6 (by rw [bl]))]
  go_enter Tryz.func120, Tryz.ntmps120
  go_wp2_with (go_at_call 49; refine (r_isName _ _ ht).mono ?_; rintro e w1 ⟨rfl, hb1⟩)
  go_ret
  exact ret_strs (l := [⟨#[115, 107, 105, 112]⟩, ⟨#[59]⟩]) rfl rfl HE.out.symm hb1

theorem b_stmt (t : ByteArray) (w : World) (ht : t.size ≤ 500) :
    Calls Tryz.prog 120 #[.string ⟨#[83, 84, 77, 84]⟩, .string t] w fun e w' => ∃ ao cap, e = .returned (.slice ao (becB .nStmt t).length cap) ∧ StrSl w' ao cap (becB .nStmt t) ∧ Below w.heap.size w w' := by
  by_cases hN0 : isNameB t = true
  · exact b_stmt0 t w ht hN0
  have hN : isNameB t = false := by simpa using hN0
  by_cases e1 : t = ⟨#[105, 102]⟩
  · subst e1; exact b_stmt1 w
  have n1 := lit_ne e1 (l := [105, 102]) (by rw [bl])
  by_cases e2 : t = ⟨#[119, 104, 105, 108, 101]⟩
  · subst e2; exact b_stmt2 w
  have n2 := lit_ne e2 (l := [119, 104, 105, 108, 101]) (by rw [bl])
  by_cases e3 : t = ⟨#[97, 115, 115, 117, 109, 101]⟩
  · subst e3; exact b_stmt3 w
  have n3 := lit_ne e3 (l := [97, 115, 115, 117, 109, 101]) (by rw [bl])
  by_cases e4 : t = ⟨#[97, 99, 113, 117, 105, 114, 101]⟩
  · subst e4; exact b_stmt4 w
  have n4 := lit_ne e4 (l := [97, 99, 113, 117, 105, 114, 101]) (by rw [bl])
  by_cases e5 : t = ⟨#[114, 101, 108, 101, 97, 115, 101]⟩
  · subst e5; exact b_stmt5 w
  have n5 := lit_ne e5 (l := [114, 101, 108, 101, 97, 115, 101]) (by rw [bl])
  by_cases e6 : t = ⟨#[114, 101, 116, 117, 114, 110]⟩
  · subst e6; exact b_stmt6 w
  have n6 := lit_ne e6 (l := [114, 101, 116, 117, 114, 110]) (by rw [bl])
  exact b_stmt7 t w ht hN n1 n2 n3 n4 n5 n6

set_option maxRecDepth 100000 in
set_option maxHeartbeats 1000000 in
theorem b_behind0 (w : World) :
    Calls Tryz.prog 120 #[.string ⟨#[66, 69, 72, 73, 78, 68]⟩, .string (⟨#[40]⟩ : ByteArray)] w fun e w' => ∃ ao cap, e = .returned (.slice ao (becB .nBehind (⟨#[40]⟩ : ByteArray)).length cap) ∧ StrSl w' ao cap (becB .nBehind (⟨#[40]⟩ : ByteArray)) ∧ Below w.heap.size w w' := by
  have hN : isNameB (⟨#[40]⟩ : ByteArray) = false := by rw [isNameB_eq]; decide
  have HE : Hid (becB .nBehind (⟨#[40]⟩ : ByteArray) = [⟨#[40]⟩, ⟨#[86, 65, 76, 85, 69, 83]⟩, ⟨#[41]⟩, ⟨#[59]⟩]) := by show _ = _; rw [becB, if_pos rfl]
  go_enter Tryz.func120, Tryz.ntmps120
  go_wp2_with (go_at_call 49; refine (r_isName _ _ (by decide)).mono ?_; rintro e w1 ⟨rfl, hb1⟩)
  go_ret
  exact ret_strs (l := [⟨#[40]⟩, ⟨#[86, 65, 76, 85, 69, 83]⟩, ⟨#[41]⟩, ⟨#[59]⟩]) rfl rfl HE.out.symm hb1

set_option maxRecDepth 100000 in
set_option maxHeartbeats 1000000 in
theorem b_behind1 (t : ByteArray) (w : World) (ht : t.size ≤ 500) (n0 : (t.toList == [40]) = false) :
    Calls Tryz.prog 120 #[.string ⟨#[66, 69, 72, 73, 78, 68]⟩, .string t] w fun e w' => ∃ ao cap, e = .returned (.slice ao (becB .nBehind t).length cap) ∧ StrSl w' ao cap (becB .nBehind t) ∧ Below w.heap.size w w' := by
  have HE : Hid (becB .nBehind t = [⟨#[61]⟩, ⟨#[82, 73, 71, 72, 84]⟩, ⟨#[59]⟩]) := by show _ = _; rw [becB, if_neg (ne_of_lit n0 (by rw [bl]))]
  go_enter Tryz.func120, Tryz.ntmps120
  go_wp2_with (go_at_call 49; refine (r_isName _ _ ht).mono ?_; rintro e w1 ⟨rfl, hb1⟩)
  go_ret
  exact ret_strs (l := [⟨#[61]⟩, ⟨#[82, 73, 71, 72, 84]⟩, ⟨#[59]⟩]) rfl rfl HE.out.symm hb1

theorem b_behind (t : ByteArray) (w : World) (ht : t.size ≤ 500) :
    Calls Tryz.prog 120 #[.string ⟨#[66, 69, 72, 73, 78, 68]⟩, .string t] w fun e w' => ∃ ao cap, e = .returned (.slice ao (becB .nBehind t).length cap) ∧ StrSl w' ao cap (becB .nBehind t) ∧ Below w.heap.size w w' := by
  by_cases e0 : t = ⟨#[40]⟩
  · subst e0; exact b_behind0 w
  have n0 := lit_ne e0 (l := [40]) (by rw [bl])
  exact b_behind1 t w ht n0

set_option maxRecDepth 100000 in
set_option maxHeartbeats 1000000 in
theorem b_right0 (t : ByteArray) (w : World) (ht : t.size ≤ 500) (hN : isNameB t = true) :
    Calls Tryz.prog 120 #[.string ⟨#[82, 73, 71, 72, 84]⟩, .string t] w fun e w' => ∃ ao cap, e = .returned (.slice ao (becB .nRight t).length cap) ∧ StrSl w' ao cap (becB .nRight t) ∧ Below w.heap.size w w' := by
  have HE : Hid (becB .nRight t = [⟨#[78, 65, 77, 69]⟩, ⟨#[76, 65, 84, 69, 82]⟩]) := by show _ = _; rw [becB, if_pos hN]
  go_enter Tryz.func120, Tryz.ntmps120
  go_wp2_with (go_at_call 49; refine (r_isName _ _ ht).mono ?_; rintro e w1 ⟨rfl, hb1⟩)
  go_ret
  exact ret_strs (l := [⟨#[78, 65, 77, 69]⟩, ⟨#[76, 65, 84, 69, 82]⟩]) rfl rfl HE.out.symm hb1

set_option maxRecDepth 100000 in
set_option maxHeartbeats 1000000 in
theorem b_right1 (t : ByteArray) (w : World) (ht : t.size ≤ 500) (hN : isNameB t = false) :
    Calls Tryz.prog 120 #[.string ⟨#[82, 73, 71, 72, 84]⟩, .string t] w fun e w' => ∃ ao cap, e = .returned (.slice ao (becB .nRight t).length cap) ∧ StrSl w' ao cap (becB .nRight t) ∧ Below w.heap.size w w' := by
  have HE : Hid (becB .nRight t = [⟨#[69, 88, 80, 82]⟩]) := by show _ = _; rw [becB, if_neg (by rw [hN]; decide)]
  go_enter Tryz.func120, Tryz.ntmps120
  go_wp2_with (go_at_call 49; refine (r_isName _ _ ht).mono ?_; rintro e w1 ⟨rfl, hb1⟩)
  go_ret
  exact ret_strs (l := [⟨#[69, 88, 80, 82]⟩]) rfl rfl HE.out.symm hb1

theorem b_right (t : ByteArray) (w : World) (ht : t.size ≤ 500) :
    Calls Tryz.prog 120 #[.string ⟨#[82, 73, 71, 72, 84]⟩, .string t] w fun e w' => ∃ ao cap, e = .returned (.slice ao (becB .nRight t).length cap) ∧ StrSl w' ao cap (becB .nRight t) ∧ Below w.heap.size w w' := by
  by_cases hN0 : isNameB t = true
  · exact b_right0 t w ht hN0
  have hN : isNameB t = false := by simpa using hN0
  exact b_right1 t w ht hN

set_option maxRecDepth 100000 in
set_option maxHeartbeats 1000000 in
theorem b_later0 (w : World) :
    Calls Tryz.prog 120 #[.string ⟨#[76, 65, 84, 69, 82]⟩, .string (⟨#[40]⟩ : ByteArray)] w fun e w' => ∃ ao cap, e = .returned (.slice ao (becB .nLater (⟨#[40]⟩ : ByteArray)).length cap) ∧ StrSl w' ao cap (becB .nLater (⟨#[40]⟩ : ByteArray)) ∧ Below w.heap.size w w' := by
  have hN : isNameB (⟨#[40]⟩ : ByteArray) = false := by rw [isNameB_eq]; decide
  have HE : Hid (becB .nLater (⟨#[40]⟩ : ByteArray) = [⟨#[40]⟩, ⟨#[86, 65, 76, 85, 69, 83]⟩, ⟨#[41]⟩]) := by show _ = _; rw [becB, if_pos rfl]
  go_enter Tryz.func120, Tryz.ntmps120
  go_wp2_with (go_at_call 49; refine (r_isName _ _ (by decide)).mono ?_; rintro e w1 ⟨rfl, hb1⟩)
  go_ret
  exact ret_strs (l := [⟨#[40]⟩, ⟨#[86, 65, 76, 85, 69, 83]⟩, ⟨#[41]⟩]) rfl rfl HE.out.symm hb1

set_option maxRecDepth 100000 in
set_option maxHeartbeats 1000000 in
theorem b_later1 (t : ByteArray) (w : World) (ht : t.size ≤ 500) (n0 : (t.toList == [40]) = false) :
    Calls Tryz.prog 120 #[.string ⟨#[76, 65, 84, 69, 82]⟩, .string t] w fun e w' => ∃ ao cap, e = .returned (.slice ao (becB .nLater t).length cap) ∧ StrSl w' ao cap (becB .nLater t) ∧ Below w.heap.size w w' := by
  have HE : Hid (becB .nLater t = [⟨#[65, 78, 68]⟩, ⟨#[79, 82]⟩]) := by show _ = _; rw [becB, if_neg (ne_of_lit n0 (by rw [bl]))]
  go_enter Tryz.func120, Tryz.ntmps120
  go_wp2_with (go_at_call 49; refine (r_isName _ _ ht).mono ?_; rintro e w1 ⟨rfl, hb1⟩)
  go_ret
  exact ret_strs (l := [⟨#[65, 78, 68]⟩, ⟨#[79, 82]⟩]) rfl rfl HE.out.symm hb1

theorem b_later (t : ByteArray) (w : World) (ht : t.size ≤ 500) :
    Calls Tryz.prog 120 #[.string ⟨#[76, 65, 84, 69, 82]⟩, .string t] w fun e w' => ∃ ao cap, e = .returned (.slice ao (becB .nLater t).length cap) ∧ StrSl w' ao cap (becB .nLater t) ∧ Below w.heap.size w w' := by
  by_cases e0 : t = ⟨#[40]⟩
  · subst e0; exact b_later0 w
  have n0 := lit_ne e0 (l := [40]) (by rw [bl])
  exact b_later1 t w ht n0

set_option maxRecDepth 100000 in
set_option maxHeartbeats 1000000 in
theorem b_else0 (w : World) :
    Calls Tryz.prog 120 #[.string ⟨#[69, 76, 83, 69]⟩, .string (⟨#[101, 108, 115, 101]⟩ : ByteArray)] w fun e w' => ∃ ao cap, e = .returned (.slice ao (becB .nElse (⟨#[101, 108, 115, 101]⟩ : ByteArray)).length cap) ∧ StrSl w' ao cap (becB .nElse (⟨#[101, 108, 115, 101]⟩ : ByteArray)) ∧ Below w.heap.size w w' := by
  have hN : isNameB (⟨#[101, 108, 115, 101]⟩ : ByteArray) = false := by rw [isNameB_eq]; decide
  have HE : Hid (becB .nElse (⟨#[101, 108, 115, 101]⟩ : ByteArray) = [⟨#[101, 108, 115, 101]⟩, ⟨#[66, 76, 79, 67, 75]⟩]) := by show _ = _; rw [becB, if_pos rfl]
  go_enter Tryz.func120, Tryz.ntmps120
  go_wp2_with (go_at_call 49; refine (r_isName _ _ (by decide)).mono ?_; rintro e w1 ⟨rfl, hb1⟩)
  go_ret
  exact ret_strs (l := [⟨#[101, 108, 115, 101]⟩, ⟨#[66, 76, 79, 67, 75]⟩]) rfl rfl HE.out.symm hb1

set_option maxRecDepth 100000 in
set_option maxHeartbeats 1000000 in
theorem b_else1 (t : ByteArray) (w : World) (ht : t.size ≤ 500) (n0 : (t.toList == [101, 108, 115, 101]) = false) :
    Calls Tryz.prog 120 #[.string ⟨#[69, 76, 83, 69]⟩, .string t] w fun e w' => ∃ ao cap, e = .returned (.slice ao (becB .nElse t).length cap) ∧ StrSl w' ao cap (becB .nElse t) ∧ Below w.heap.size w w' := by
  have HE : Hid (becB .nElse t = []) := by show _ = _; rw [becB, if_neg (ne_of_lit n0 (by rw [bl]))]
  go_enter Tryz.func120, Tryz.ntmps120
  go_wp2_with (go_at_call 49; refine (r_isName _ _ ht).mono ?_; rintro e w1 ⟨rfl, hb1⟩)
  go_ret
  exact ret_strs_nil HE.out hb1

theorem b_else (t : ByteArray) (w : World) (ht : t.size ≤ 500) :
    Calls Tryz.prog 120 #[.string ⟨#[69, 76, 83, 69]⟩, .string t] w fun e w' => ∃ ao cap, e = .returned (.slice ao (becB .nElse t).length cap) ∧ StrSl w' ao cap (becB .nElse t) ∧ Below w.heap.size w w' := by
  by_cases e0 : t = ⟨#[101, 108, 115, 101]⟩
  · subst e0; exact b_else0 w
  have n0 := lit_ne e0 (l := [101, 108, 115, 101]) (by rw [bl])
  exact b_else1 t w ht n0

set_option maxRecDepth 100000 in
set_option maxHeartbeats 1000000 in
theorem b_result0 (w : World) :
    Calls Tryz.prog 120 #[.string ⟨#[82, 69, 83, 85, 76, 84]⟩, .string (⟨#[59]⟩ : ByteArray)] w fun e w' => ∃ ao cap, e = .returned (.slice ao (becB .nResult (⟨#[59]⟩ : ByteArray)).length cap) ∧ StrSl w' ao cap (becB .nResult (⟨#[59]⟩ : ByteArray)) ∧ Below w.heap.size w w' := by
  have hN : isNameB (⟨#[59]⟩ : ByteArray) = false := by rw [isNameB_eq]; decide
  have HE : Hid (becB .nResult (⟨#[59]⟩ : ByteArray) = []) := by show _ = _; rw [becB_result, if_pos rfl]
  go_enter Tryz.func120, Tryz.ntmps120
  go_wp2_with (go_at_call 49; refine (r_isName _ _ (by decide)).mono ?_; rintro e w1 ⟨rfl, hb1⟩)
  go_ret
  exact ret_strs_nil HE.out hb1

set_option maxRecDepth 100000 in
set_option maxHeartbeats 1000000 in
theorem b_result1 (t : ByteArray) (w : World) (ht : t.size ≤ 500) (n0 : (t.toList == [59]) = false) :
    Calls Tryz.prog 120 #[.string ⟨#[82, 69, 83, 85, 76, 84]⟩, .string t] w fun e w' => ∃ ao cap, e = .returned (.slice ao (becB .nResult t).length cap) ∧ StrSl w' ao cap (becB .nResult t) ∧ Below w.heap.size w w' := by
  have HE : Hid (becB .nResult t = [⟨#[69, 88, 80, 82]⟩]) := by show _ = _; rw [becB_result, if_neg (ne_of_lit n0 (by rw [bl]))]
  go_enter Tryz.func120, Tryz.ntmps120
  go_wp2_with (go_at_call 49; refine (r_isName _ _ ht).mono ?_; rintro e w1 ⟨rfl, hb1⟩)
  go_ret
  exact ret_strs (l := [⟨#[69, 88, 80, 82]⟩]) rfl rfl HE.out.symm hb1

theorem b_result (t : ByteArray) (w : World) (ht : t.size ≤ 500) :
    Calls Tryz.prog 120 #[.string ⟨#[82, 69, 83, 85, 76, 84]⟩, .string t] w fun e w' => ∃ ao cap, e = .returned (.slice ao (becB .nResult t).length cap) ∧ StrSl w' ao cap (becB .nResult t) ∧ Below w.heap.size w w' := by
  by_cases e0 : t = ⟨#[59]⟩
  · subst e0; exact b_result0 w
  have n0 := lit_ne e0 (l := [59]) (by rw [bl])
  exact b_result1 t w ht n0

end Go.Proofs.YtmfcpbhdggonfaaGreatDoor

/- Contracts of the reference's 'front' and of strings that are put together. -/
namespace Go.Proofs.YtmfcpbhdggonfaaGreatDoor
open Go.RowKit RR

theorem Tryz.infoStr : (Tryz.prog.info? 9).map (fun i => (i.zero, i.size, i.bytes)) = some (some (.string ⟨#[]⟩), 1, 16) := by kernel_rfl

def strs (l : List ByteArray) : List Value := l.map Value.string
theorem strs_append (a b : List ByteArray) : strs (a ++ b) = strs a ++ strs b := List.map_append
theorem strs_length (a : List ByteArray) : (strs a).length = a.length := List.length_map _

theorem nil_strs (w : World) (B : Nat) : w.ownsRow B 9 1 (.slice none 0 0) ([] : List ByteArray).length (strs []) := World.ownsRow_nil _ _ _ _

/-- l = append(l, m...): strings onto a slice of the call's own. -/
theorem app_strs {ops : Array Oper} {rest : List Oper} {o : Oper} {a : Act} {Q : Exit → Act → World → Prop} {w0 : World} {B : Nat} {v : Value} {l l2 : List ByteArray} {ao : Option Addr} {cap : Nat}
    (hown : w0.ownsRow B 9 1 v l.length (strs l)) (hi : StrSl w0 ao cap l2) (hl : l.length ≤ 100000) (hl2 : l2.length ≤ 100000) (hB : B ≤ w0.heap.size) (hgd : o.guard = none) (s x : Operand)
    (ho : o.op = .call { callee := .builtin .append, args := #[s, x], argTypes := #[49, 49] }) (hs : a.eval s = v)
    (hx : a.eval x = .slice ao l2.length cap)
    (h : ∀ v' w', w'.ownsRow B 9 1 v' (l ++ l2).length (strs (l ++ l2)) → (∀ a0, Below B a0 w0 → Below B a0 w') → wpList Tryz.prog ops Q rest (a.put o.dst v') w') :
    wpList Tryz.prog ops Q (o :: rest) a w0 := by
  obtain ⟨i0, hi0, hz0, hz1, hz2⟩ := info_parts Tryz.infoStr
  cases ao with
  | none =>
    have h0 : l2 = [] := by
      cases l2 with
      | nil => rfl
      | cons y r => obtain ⟨_, _, _, h2, _⟩ := hi.2.2 0 (by simp); cases h2
    subst h0
    refine wpList_append_own_none hgd s x 49 ho B 9 i0 1 Tryz.underlying49 hi0 v l.length (strs l) hs hown (by rw [hx, hi.1 rfl]; rfl) ?_
    refine h v w0 ?_ fun a0 h0 => h0
    rw [List.append_nil]; exact hown
  | some ad =>
    refine wpList_append_own _ hgd s x 49 ho B 9 i0 (.string ⟨#[]⟩) 1 16 Tryz.underlying49 hi0 hz0 hz1 hz2 rfl (by decide) v l.length (strs l) hs hown ad l2.length cap (strs l2) hx (by rw [strs_length, Nat.mul_one]) ?_ ?_ (by unfold maxLen; omega) (by omega) hB ?_
    · intro j u hj
      have hjl : j < l2.length := by
        have := (List.getElem?_eq_some_iff.1 hj).1
        rwa [strs_length] at this
      obtain ⟨b, o', h1, h2, h3⟩ := hi.2.2 j hjl
      have h2' := Option.some.inj h2
      subst h2'
      have hu : u = .string l2[j] := by
        rw [strs, List.getElem?_map, List.getElem?_eq_getElem hjl] at hj
        exact (Option.some.inj hj).symm
      subst hu
      rw [addr_add]; exact h3
    · intro u hu
      obtain ⟨n, _, rfl⟩ := List.mem_map.1 hu
      rfl
    · intro v' w' h1 h2 _
      refine h v' w' ?_ fun a0 h0 => h0.grown h2 hB fun k hk => (hown.lt k hk).1
      rw [strs_append, List.length_append]; exact h1

theorem strSl_of_owns {w : World} {base : Nat} {v : Value} {l : List ByteArray} (h : w.ownsRow base 9 1 v l.length (strs l)) : ∃ ao cap, v = .slice ao l.length cap ∧ StrSl w ao cap l := by
  obtain ⟨h1, h2 | ⟨g, cap, cur, hv, hb, hh, hcap, hmax, hsz, htk⟩⟩ := h
  · refine ⟨none, 0, ?_, fun _ => rfl, by omega, fun i hi => by omega⟩
    rw [h2.1, h2.2]
  · refine ⟨some ⟨g, 0, none⟩, cap, hv, fun h => by simp at h, hcap, fun i hi => ⟨g, 0, (Array.getElem?_eq_some_iff.1 hh).1, rfl, ?_⟩⟩
    have e1 : cur[i]? = some (.string l[i]) := by
      have e2 : (cur.toList.take (l.length * 1))[i]? = (strs l)[i]? := by rw [htk]
      rw [List.getElem?_take_of_lt (by omega), Array.getElem?_toList] at e2
      rw [e2, strs, List.getElem?_map, List.getElem?_eq_getElem hi]; rfl
    simp only [World.cell?, hh, Nat.zero_add]
    exact e1

set_option maxHeartbeats 1000000 in
theorem r_front (ao1 ao2 : Option Addr) (c1 c2 : Nat) (m l : List ByteArray) (w : World) (hm : m.length ≤ 10000) (hl : l.length ≤ 10000) (h1 : StrSl w ao1 c1 m) (h2 : StrSl w ao2 c2 l) :
    Calls Tryz.prog 77 #[.slice ao1 m.length c1, .slice ao2 l.length c2] w fun e w' => ∃ ao cap, e = .returned (.slice ao (m ++ l).length cap) ∧ StrSl w' ao cap (m ++ l) ∧ Below w.heap.size w w' := by
  go_enter Tryz.func77, Tryz.ntmps77
  go_wp2_with (first | (at_builtin; refine app_strs (nil_strs _ w.heap.size) h1 (by simp) (by omega) (Nat.le_refl _) rfl (.tmp 6) (.tmp 7) rfl rfl rfl ?_; intro v2 w2 hown2 hb2; have hx2 := hb2 _ (Below.refl _ _); have h22 := h2.below hx2) | (at_builtin; refine app_strs hown2 h22 (by simp; omega) (by omega) hx2.size rfl (.tmp 9) (.tmp 10) rfl rfl rfl ?_; intro v3 w3 hown3 hb3; have hx3 := hb3 _ hx2))
  go_ret
  obtain ⟨ao, cap, hv, hs⟩ := strSl_of_owns hown3
  exact ⟨ao, cap, congrArg Ending.returned hv, hs, hx3⟩

end Go.Proofs.YtmfcpbhdggonfaaGreatDoor
