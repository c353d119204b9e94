/- Contracts of the statements' own package: pick. -/
import Derived.Test.YtmfcpbhdggonfaaGreatDoorMiAA
import Derived.Deep.CutBlock
import Derived.Deep.DeepCutAuto
namespace Go.Proofs.YtmfcpbhdggonfaaGreatDoor
open Go.RowKit
set_option maxRecDepth 100000 in
set_option maxHeartbeats 1000000 in
theorem k_pickG (c m:Int) (hc:-9223372036854775808 ≤ c∧c ≤ 9223372036854775807) (hm:0 < m∧m ≤ 1000) :
    ∃ j:Nat,(j:Int) < m∧∀ w,Calls Tryz.prog 18 #[.int .i64 c,.int .i64 m] w fun e w'=>e = .returned (.int .i64 j)∧w' = w:=by
 by_cases h:c < 0
 ·have hz:0 ≤ -(c + 1):=by omega
  have e1:(-(c + 1)).tmod m = (-(c + 1)) % m:=Int.tmod_eq_emod_of_nonneg hz
  have e2:=Int.emod_nonneg (-(c + 1)) (show m ≠ 0 by omega)
  have e3:=Int.emod_lt_of_pos (-(c + 1)) hm.1
  have e4:=Int.neg_tmod (c + 1) m
  obtain ⟨j,hj⟩:∃ j:Nat,(-(c + 1)) % m = (j:Int):=⟨_,(Int.toNat_of_nonneg e2).symm⟩
  have HJ:Hid (-(c + 1).tmod m = (j:Int)):=by show _ = _; rw [← e4,e1,hj]
  refine ⟨j,by rw [← hj]; exact e3,fun w=>?_⟩
  clear e1 e2 e3 e4 hj
  have hm1:=hm.1
  have hmne:¬ m = 0:=by omega
  go_enter Tryz.func18,Tryz.ntmps18
  go_wp2
  go_ret
  exact ⟨congrArg (fun z=>Ending.returned (.int .i64 z)) HJ.out,rfl⟩
 ·have hz:0 ≤ c:=by omega
  have e2:=Int.emod_nonneg c (show m ≠ 0 by omega)
  have e3:=Int.emod_lt_of_pos c hm.1
  obtain ⟨j,hj⟩:∃ j:Nat,c % m = (j:Int):=⟨_,(Int.toNat_of_nonneg e2).symm⟩
  have HJ:Hid (c % m = (j:Int)):=hj
  refine ⟨j,by rw [← hj]; exact e3,fun w=>?_⟩
  clear e2 e3 hj
  have hm1:=hm.1
  have hmne:¬ m = 0:=by omega
  go_enter Tryz.func18,Tryz.ntmps18
  go_wp2
  go_ret
  exact ⟨congrArg (fun z=>Ending.returned (.int .i64 z)) HJ.out,rfl⟩
def PickR (x m:Int) (j:Nat):Prop:=∀ w,Calls Tryz.prog 18 #[.int .i64 x,.int .i64 m] w fun e w'=>e = .returned (.int .i64 j)∧w' = w
end Go.Proofs.YtmfcpbhdggonfaaGreatDoor
namespace Go.Proofs.YtmfcpbhdggonfaaGreatDoor
open Go.RowKit
end Go.Proofs.YtmfcpbhdggonfaaGreatDoor
