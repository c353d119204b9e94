/- Proved: for every script, Checks answers true and leaves the script as it was, by the tied card. No condition. -/
import Derived.Test.YtmfcpbhdggonfaaGreatDoorRowB
import Derived.Test.YtmfcpbhdggonfaaGreatDoorAgr
namespace Go.Proofs.YtmfcpbhdggonfaaGreatDoor

theorem checks_holds : Rows.ChecksCardSaid := checks_card agree

end Go.Proofs.YtmfcpbhdggonfaaGreatDoor
