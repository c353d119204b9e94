/- Proved: for every script, Checks answers true and leaves the script as it was, by the tied card. No condition. -/
import Derived.Test.YtdiedjnnhaoadaaGreatDoorRowB
import Derived.Test.YtdiedjnnhaoadaaGreatDoorAgr
namespace Go.Proofs.YtdiedjnnhaoadaaGreatDoor

theorem checks_holds : Rows.ChecksCardSaid := checks_card agree

end Go.Proofs.YtdiedjnnhaoadaaGreatDoor
