/- The closed facts of Refused's row. -/
import Derived.Test.YtmfcpbhdggonfabGreatDoorMgAA
import Derived.Test.YtmfcpbhdggonfabGreatDoorTie
import Derived.Test.YtmfcpbhdggonfabGreatDoorCards
import Derived.LaidMore
import Derived.LaidHandle
import Derived.LaidLaws
import Derived.OpenShut
import Derived.Stop.Joined
import Derived.SevenTiedAt
import Derived.ProofKit
import Derived.Deep.Slices
namespace Go.Proofs.YtmfcpbhdggonfabGreatDoor
open Go.ChangeShapes Go.WideShapes Go.ChangeAt Go.RowKit Go.Deep

set_option maxHeartbeats 0 in
/-- The row's closed facts, each by itself. -/
theorem refused_facts : joinedFacts Tryz.prog 3 Tryz.f3 Rows.refusedSpec Rows.refusedRow = true := by
  unfold joinedFacts
  simp only [Bool.and_eq_true]
  repeat' apply And.intro
  all_goals (as_aux_lemma => kernel_rfl)

end Go.Proofs.YtmfcpbhdggonfabGreatDoor
