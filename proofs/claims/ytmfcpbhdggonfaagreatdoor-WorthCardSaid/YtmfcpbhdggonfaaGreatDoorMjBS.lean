/- The closed facts of Worth's row. -/
import Derived.Test.YtmfcpbhdggonfaaGreatDoorMjAA
import Derived.Test.YtmfcpbhdggonfaaGreatDoorTie
import Derived.Test.YtmfcpbhdggonfaaGreatDoorCards
import Derived.LaidMore
import Derived.LaidHandle
import Derived.LaidLaws
import Derived.OpenShut
import Derived.Stop.Joined
import Derived.SevenTiedAt
import Derived.ProofKit
import Derived.Deep.Slices
namespace Go.Proofs.YtmfcpbhdggonfaaGreatDoor
open Go.ChangeShapes Go.WideShapes Go.ChangeAt Go.RowKit Go.Deep
set_option maxHeartbeats 0 in
theorem worth_facts:joinedFacts Tryz.prog 13 Tryz.f13 Rows.worthSpec Rows.worthRow = true:=by
 unfold joinedFacts
 simp only [Bool.and_eq_true]
 repeat' apply And.intro
 all_goals (as_aux_lemma=>kernel_rfl)
end Go.Proofs.YtmfcpbhdggonfaaGreatDoor
