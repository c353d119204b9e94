/- Contracts of the statements' own package: the writer of programs: next, put, leaf, expr. -/
import Derived.Test.YtmfcpbhdggonfaaGreatDoorMjAA
import Derived.Test.YtmfcpbhdggonfaaGreatDoorMjAC
import Derived.BigQuiet
import Derived.Deep.CutBlock
import Derived.Deep.DeepCutAuto
namespace Go.Proofs.YtmfcpbhdggonfaaGreatDoor
open Go.RowKit RR
theorem wset {w:World} {B:Nat} {cs:Array Value} {T:TypeId} (h:w.heap[B]? = some (.cells cs T (0,0))) (o:Nat) (v:Value):(w.setCell ⟨B,o,none⟩ v).heap[B]? = some (.cells (cs.setIfInBounds o v) T (0,0)):=by
 simp only [World.setCell,Array.getElem?_modify]
 rw [if_pos trivial,h]
 rfl
theorem wset_ne (w:World) (B o:Nat) (x:Value) (k:Nat) (h:k ≠ B):(w.setCell ⟨B,o,none⟩ x).heap[k]? = w.heap[k]?:=by
 have e:(w.setCell ⟨B,o,none⟩ x).heap[k]? = (w.heap.modify B fun
     | .cells c elem frozen=>.cells (c.setIfInBounds o x) elem frozen
     | o=>o)[k]?:=rfl
 rw [e,Array.getElem?_modify,if_neg (Ne.symm h)]
theorem wrap_u8 (x:UInt8):wrap64 (x.toNat:Int) = x.toNat:=by
 have:=x.toNat_lt
 unfold wrap64
 omega
theorem below_dW {N:Nat} (w:World) (k:Nat):Below N w (w.drewN k):=⟨rfl,rfl,rfl,Nat.le_refl _,fun _ _=>rfl⟩
def FeedAt (F:Nat) (raw:ByteArray) (i:Nat) (w:World):Prop:=w.heap[F]? = some (.cells #[.string raw,.int .i64 i] 55 (0,0))
structure Kw (N F B:Nat) (w w':World):Prop where
 below:Below N w w'
 keep:∀ j,j < w.heap.size→j ≠ F→j ≠ B→w'.heap[j]? = w.heap[j]?
theorem Kw.refl (N F B:Nat) (w:World):Kw N F B w w:=⟨Below.refl _ _,fun _ _ _ _=>rfl⟩
theorem Kw.trans {N F B:Nat} {a b c:World} (h:Kw N F B a b) (k:Kw N F B b c):Kw N F B a c:=⟨h.below.trans k.below,fun j hj h1 h2=>(k.keep j (Nat.lt_of_lt_of_le hj h.below.size) h1 h2).trans (h.keep j hj h1 h2)⟩
set_option maxRecDepth 100000 in
set_option maxHeartbeats 2000000 in
theorem k_next (N F B:Nat) (raw:ByteArray) (i n:Nat) (hn:0 < n∧n ≤ 16) (hr:raw.size ≤ 9223372036854775807) (w:World) (hF:FeedAt F raw i w) (hi:i ≤ raw.size) (hN:N ≤ F) (hB:B ≠ F) :
    Calls Tryz.prog 39 #[.pointer (some ⟨F,0,none⟩),.int .i64 n] w fun e w'=>e = .returned (.int .i64 (nxW raw n i).1)∧FeedAt F raw (nxW raw n i).2 w'∧w'.heap[B]? = w.heap[B]?∧Kw N F B w w':=by
 have c0:w.cell? ⟨F,0,none⟩ = some (.string raw):=by unfold FeedAt at hF; simp [World.cell?,hF]
 have c1:w.cell? ⟨F,1,none⟩ = some (.int .i64 i):=by unfold FeedAt at hF; simp [World.cell?,hF]
 have f1:w.frozen? ⟨F,1,none⟩ = false:=by unfold FeedAt at hF; simp [World.frozen?,hF]
 have HF:=hide hF
 clear hF
 by_cases hlt:i < raw.size
 ·have hlt':(i:Int) < raw.size:=by omega
  have e1:(nxW raw n i).1 = (byteAt raw i).toNat % n:=by unfold nxW; rw [if_pos hlt]
  have e2:(nxW raw n i).2 = i + 1:=by unfold nxW; rw [if_pos hlt]
  rw [e1,e2,byteAt_eq hlt]
  clear e1 e2
  go_enter Tryz.func39,Tryz.ntmps39
  go_wp2_with (go_quiet (fail))
  go_ret
  have hw:wrap64 (raw[i].toNat:Int) = raw[i].toNat:=wrap_u8 _
  refine ⟨ret_int (by rw [hw]; exact Int.ofNat_tmod ..),wset (w:=w.drewN _) HF.out 1 _,wset_ne _ _ _ _ _ hB,?_⟩
  exact ⟨((below_dW w _)).setCell (p:=⟨F,1,none⟩) hN _,fun j _ h1 _=>wset_ne _ _ _ _ _ h1⟩
 ·have e1:nxW raw n i = (0,i):=by unfold nxW; rw [if_neg hlt]
  rw [e1]
  have hge:(raw.size:Int) ≤ i:=by omega
  clear e1
  go_enter Tryz.func39,Tryz.ntmps39
  go_wp2_with (go_quiet (fail))
  go_ret
  exact ⟨rfl,HF.out,rfl,below_dW w _,fun _ _ _ _=>rfl⟩
end Go.Proofs.YtmfcpbhdggonfaaGreatDoor
