/- The closed facts of Caught's row. -/
import Derived.Test.YtmfcpbhdggonfaaGreatDoorMhAA
import Derived.Test.YtmfcpbhdggonfaaGreatDoorTie
import Derived.Test.YtmfcpbhdggonfaaGreatDoorCards
import Derived.LaidMore
import Derived.LaidHandle
import Derived.LaidLaws
import Derived.OpenShut
import Derived.Stop.Joined
import Derived.SevenTiedAt
import Derived.ProofKit
import Derived.Deep.Slices
namespace Go.Proofs.YtmfcpbhdggonfaaGreatDoor
open Go.ChangeShapes Go.WideShapes Go.ChangeAt Go.RowKit Go.Deep
set_option maxHeartbeats 0 in
theorem caught_facts:joinedFacts Tryz.prog 8 Tryz.f8 Rows.caughtSpec Rows.caughtRow = true:=by
 unfold joinedFacts
 simp only [Bool.and_eq_true]
 repeat' apply And.intro
 all_goals (as_aux_lemma=>kernel_rfl)
end Go.Proofs.YtmfcpbhdggonfaaGreatDoor
