/- Contracts of the law: a step that is a Contexts, and Counts. -/
import Derived.Test.YtmfcpbhdggonfaaGreatDoorCntB
import Derived.Test.YtmfcpbhdggonfaaGreatDoorLawP
namespace Go.Proofs.YtmfcpbhdggonfaaGreatDoor
open Go.RowKit

set_option maxRecDepth 100000 in
set_option maxHeartbeats 1000000 in
theorem l_step3 (a b : Int) (s t : ByteArray) (w : World) (ht : t.size ≤ maxLen) :
    Calls Tryz.prog 16 #[.agg #[.int .i64 3, .int .i64 a, .int .i64 b, .string s, .string t]] w fun e w' => e = .returned (.bool true) ∧ Below w.heap.size w w' := by
  go_enter Tryz.func16, Tryz.ntmps16
  go_wp2_with (first | (go_at_call 34; refine (m_Contexts _ _ ht).mono ?_; rintro e w' ⟨rfl, rfl⟩) | (go_at_call 35; refine (r_Contexts _ _ ht).mono ?_; rintro e w' ⟨rfl, rfl⟩))
  have e1 : ((ctxN t).1 == (ctxN t).1) = true := by simp
  have e2 : ((ctxN t).2 == (ctxN t).2) = true := by simp
  go_ret
  exact ⟨rfl, ((Below.refl _ _).alloc (Nat.le_refl _) _)⟩

set_option maxRecDepth 100000 in
set_option maxHeartbeats 1000000 in
theorem l_Counts (ao : Option Addr) (cap : Nat) (l : List OpV) (w : World) (hl : l.length ≤ 9223372036854775807) (hi0 : OpSl w ao l) (ha : Hid (∀ k, (h : k < l.length) → l[k].t.size ≤ maxLen)) :
    Calls Tryz.prog 5 #[.slice ao l.length cap] w fun e w' => e = .returned (.bool true) ∧ Below w.heap.size w w' := by
  have hs : Hid (∀ k, (h : k < l.length) → (3 : Int) ≤ l[k].kind → l[k].kind ≤ 3 → ∀ w, Calls Tryz.prog 16 #[l[k].val] w fun e w' => e = .returned (.bool true) ∧ Below w.heap.size w w') := hide (fun k h h1 h2 w => by
    have e : l[k].kind = 3 := by omega
    unfold OpV.val
    rw [e]
    exact l_step3 _ _ _ _ _ (ha.out k h))
  go_enter Tryz.func5, Tryz.ntmps5
  go_wp2_with (first | (go_at_call 15; refine (l_plays _ _ l _ _ _ hl hi0 hs).mono ?_; rintro e w' ⟨rfl, hb⟩))
  go_ret
  exact ⟨rfl, hb⟩

end Go.Proofs.YtmfcpbhdggonfaaGreatDoor
