/- The statement Caught, over what it calls. -/
import Derived.Test.YtmfcpbhdggonfaaGreatDoorMiBL
import Derived.Test.YtmfcpbhdggonfaaGreatDoorMiBN
namespace Go.Proofs.YtmfcpbhdggonfaaGreatDoor
open Go.RowKit RR
def SeaC (W:World) (tx:ByteArray) (c n:Int) (race dead:Bool) (rb db:ByteArray) (wh:Bool) (pts er:Int):Prop:=∀ w,Below W.heap.size W w→Calls Tryz.prog 20 #[.string tx,.int .i64 c,.int .i64 n] w fun e w'=>e = .returned (.tuple #[.agg #[.bool race,.bool dead,.string rb,.string db,.bool wh,.int .i64 pts],.int .i64 er])∧Below w.heap.size w w'
end Go.Proofs.YtmfcpbhdggonfaaGreatDoor
