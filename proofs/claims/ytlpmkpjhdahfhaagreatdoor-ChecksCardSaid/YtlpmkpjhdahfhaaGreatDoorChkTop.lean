/- Proved: for every script, Checks answers true and leaves the script as it was, by the tied card. No condition. -/
import Derived.Test.YtlpmkpjhdahfhaaGreatDoorRowB
import Derived.Test.YtlpmkpjhdahfhaaGreatDoorAgrB
namespace Go.Proofs.YtlpmkpjhdahfhaaGreatDoor

theorem checks_holds : Rows.ChecksCardSaid := checks_card agree

end Go.Proofs.YtlpmkpjhdahfhaaGreatDoor
