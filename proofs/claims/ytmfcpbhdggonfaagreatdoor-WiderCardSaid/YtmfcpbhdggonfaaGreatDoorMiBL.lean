/- The statement Offered, over what it calls. -/
import Derived.Test.YtmfcpbhdggonfaaGreatDoorMiBJ
import Derived.BigQuiet
import Derived.Deep.CutBlock
import Derived.Deep.DeepCutAuto
namespace Go.Proofs.YtmfcpbhdggonfaaGreatDoor
open Go.RowKit RR
def vwA (r:Vw × Int × Int):Value:=.tuple #[.agg #[.string r.1.text,.string r.1.enabled,.bool r.1.race,.bool r.1.dead],.int .i64 r.2.1,.int .i64 r.2.2]
def ProgC (W:World) (raw tx:ByteArray):Prop:=∀ w,Below W.heap.size W w→Calls Tryz.prog 17 #[.string raw] w fun e w'=>e = .returned (.string tx)∧Below w.heap.size w w'
def PlayC (W:World) (p:Plan) (tx:ByteArray):Prop:=∀ s,s.size ≤ 200→∀ w,Below W.heap.size W w→Calls Tryz.prog 22 #[.string tx,.string s] w fun e w'=>e = .returned (vwA (playP p s))∧Below w.heap.size w w'
end Go.Proofs.YtmfcpbhdggonfaaGreatDoor
