/- Contracts of the statements' own package: walk. -/
import Derived.Test.YtmfcpbhdggonfaaGreatDoorMiBJ
import Derived.Test.YtmfcpbhdggonfaaGreatDoorMiBH
import Derived.Test.YtmfcpbhdggonfaaGreatDoorMiAC
import Derived.Laws.IdiomStrings
namespace Go.Proofs.YtmfcpbhdggonfaaGreatDoor
open Go.RowKit RR
def headT:ByteArray:=⟨#[48,48,47,45,45,47]⟩
set_option maxRecDepth 100000 in
set_option maxHeartbeats 1000000 in
theorem k_beginsT (s t:ByteArray) (w:World) (h:t.size ≤ s.size) (he:s.extract 0 t.size = t):Calls Tryz.prog 25 #[.string s,.string t] w fun e w'=>e = .returned (.bool true)∧w' = w:=by
 have hi:(t.size:Int) ≤ s.size:=by omega
 go_enter Tryz.func25,Tryz.ntmps25
 go_wp2
 go_ret
 exact ⟨rfl,rfl⟩
end Go.Proofs.YtmfcpbhdggonfaaGreatDoor
