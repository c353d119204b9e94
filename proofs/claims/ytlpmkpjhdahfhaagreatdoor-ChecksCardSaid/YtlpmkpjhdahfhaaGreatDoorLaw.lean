/- Contracts of the law: step, plays, Checks, out of 'both sides answer alike'. -/
import Derived.Test.YtlpmkpjhdahfhaaGreatDoorParK
import Derived.Test.YtlpmkpjhdahfhaaGreatDoorRefN
namespace Go.Proofs.YtlpmkpjhdahfhaaGreatDoor
open Go.RowKit RR

/-- Both sides answer alike. -/
def Agree (s : ByteArray) : Prop := ∃ E P : Int, (∀ w, Calls Tryz.prog 6 #[.string s] w fun e w' => e = .returned (.tuple #[.int .i64 E, .int .i64 P]) ∧ Below w.heap.size w w') ∧
  (∀ w, Calls Tryz.prog 7 #[.string s] w fun e w' => ∃ b n c, e = .returned (.tuple #[.agg #[.slice b n c], .int .i64 E, .int .i64 P]) ∧ Below w.heap.size w w')

set_option maxRecDepth 100000 in
set_option maxHeartbeats 1000000 in
theorem l_step (a b : Int) (s t : ByteArray) (w : World) (h : Hid (Agree s)) :
    Calls Tryz.prog 5 #[.agg #[.int .i64 1, .int .i64 a, .int .i64 b, .string s, .string t]] w fun e w' => e = .returned (.bool true) ∧ Below w.heap.size w w' := by
  obtain ⟨E, P, h1, h2⟩ := h.out
  have H1 := hide h1
  have H2 := hide h2
  clear h h1 h2
  have hx0 := Below.refl (w.heap.size + 1) (w.alloc (.cells #[.int .i64 1, .int .i64 a, .int .i64 b, .string s, .string t] 26))
  go_enter Tryz.func5, Tryz.ntmps5
  go_wp2_with fail
  refine (H1.out _).mono ?_
  rintro e w1 ⟨rfl, hb1⟩
  have c3 := (hb1.cell (p := ⟨w.heap.size, 3, none⟩) (by simp))
  simp at c3
  have hbel : Below w.heap.size w w1 := ((Below.refl _ _).alloc (Nat.le_refl _) _).trans (hb1.mono (by simp))
  have hz : w.heap.size < w1.heap.size := by have := hb1.size; simp at this; omega
  clear hb1
  go_wp2_with fail
  refine (H2.out _).mono ?_
  rintro e w2 ⟨q, n, c, rfl, hb2⟩
  have hbel2 := hbel.trans (hb2.mono hbel.size)
  have e1 : (E == E) = true := by simp
  have e2 : (P == P) = true := by simp
  go_wp2_with fail
  go_ret
  exact ⟨rfl, hbel2.alloc hbel2.size _⟩

end Go.Proofs.YtlpmkpjhdahfhaaGreatDoor
