/- Contract of the law Checks, out of 'both sides answer alike'. -/
import Derived.Test.YtlpmkpjhdahfhaaGreatDoorLaw
import Derived.Test.YtlpmkpjhdahfhaaGreatDoorLawP
namespace Go.Proofs.YtlpmkpjhdahfhaaGreatDoor
open Go.RowKit RR

set_option maxRecDepth 100000 in
set_option maxHeartbeats 1000000 in
theorem l_Checks (ao : Option Addr) (cap : Nat) (l : List OpV) (w : World) (hl : l.length ≤ 9223372036854775807) (hi0 : OpSl w ao l) (ha : Hid (∀ k, (h : k < l.length) → Agree l[k].s)) :
    Calls Tryz.prog 3 #[.slice ao l.length cap] w fun e w' => e = .returned (.bool true) ∧ Below w.heap.size w w' := by
  have hs : Hid (∀ k, (h : k < l.length) → (1 : Int) ≤ l[k].kind → l[k].kind ≤ 1 → ∀ w, Calls Tryz.prog 5 #[l[k].val] w fun e w' => e = .returned (.bool true) ∧ Below w.heap.size w w') := hide (fun k h h1 h2 w => by
    have e : l[k].kind = 1 := by omega
    unfold OpV.val
    rw [e]
    exact l_step _ _ _ _ _ (hide (ha.out k h)))
  go_enter Tryz.func3, Tryz.ntmps3
  go_wp2_with (first | (go_at_call 4; refine (l_plays _ _ l _ _ _ hl hi0 hs).mono ?_; rintro e w' ⟨rfl, hb⟩))
  go_ret
  exact ⟨rfl, hb⟩

end Go.Proofs.YtlpmkpjhdahfhaaGreatDoor
