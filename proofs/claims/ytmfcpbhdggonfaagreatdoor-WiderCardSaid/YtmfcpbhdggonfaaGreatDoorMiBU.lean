/- The statement Caught: what its searches and walks are. -/
import Derived.Test.YtmfcpbhdggonfaaGreatDoorMiBM
import Derived.Test.YtmfcpbhdggonfaaGreatDoorMiBO
import Derived.Test.YtmfcpbhdggonfaaGreatDoorMiBT
namespace Go.Proofs.YtmfcpbhdggonfaaGreatDoor
open Go.RowKit RR
theorem sp_some {p:Plan} {c:Int} {n:Nat} {s:Sr} (h1:1 ≤ c) (h6:c ≤ 6) (hn:n ≤ 60) (h:roundsF p c n (beginF p) = some s):searchP p c n = (s.rep,0):=by
 unfold searchP
 rw [if_neg (by omega),Int.toNat_natCast,h]
theorem sp_none {p:Plan} {c:Int} {n:Nat} (h1:1 ≤ c) (h6:c ≤ 6) (hn:n ≤ 60) (h:roundsF p c n (beginF p) = none):searchP p c n = (zRp,9):=by
 unfold searchP
 rw [if_neg (by omega),Int.toNat_natCast,h]
theorem sea_of (raw:ByteArray) {c:Int} {n:Nat} {r:Rp} {e:Int} (h1:1 ≤ c) (h6:c ≤ 6) (hn:n ≤ 60) (h:searchP (planOf (progS raw)) c n = (r,e)) (W:World):SeaC W (progS raw) c n r.race r.dead r.raceBy r.deadBy r.whole r.points e:=fun w _=>by
 refine (m_Search (progS raw) c n _ _ _ w (good_of (prog_facts raw).1) (by omega) (by omega) hn).mono ?_
 rintro e' w' ⟨rfl,hb⟩
 refine ⟨?_,hb⟩
 show Ending.returned (.tuple #[.agg (rpL (searchP (planOf (progS raw)) c n).1).toArray,.int .i64 (searchP (planOf (progS raw)) c n).2]) = _
 rw [h]
 rfl
end Go.Proofs.YtmfcpbhdggonfaaGreatDoor
