/- The programs that the statements write: Play and walk of them; the statement Offered. -/
import Derived.Test.YtmfcpbhdggonfaaGreatDoorMiBF
import Derived.Test.YtmfcpbhdggonfaaGreatDoorMiBJ
import Derived.Test.YtmfcpbhdggonfaaGreatDoorMiBK
import Derived.Test.YtmfcpbhdggonfaaGreatDoorMiBL
namespace Go.Proofs.YtmfcpbhdggonfaaGreatDoor
open Go.RowKit RR
theorem prog_facts (raw:ByteArray):goodB (progS raw) = true∧atsM (planOf (progS raw)) = true∧(planOf (progS raw)).shared = 2∧(planOf (progS raw)).locks = 2∧1 ≤ (planOf (progS raw)).threads.length:=by
 obtain ⟨L,τ,h⟩:=progS_ok raw
 have hT:toksF (progS raw) = L:=by unfold toksF; rw [h.lex]
 have hQ:programQ L 600 startQ = some τ:=h.run
 have hR:runF (progS raw) = τ:=by unfold runF; rw [hT,hQ]; rfl
 have hP:planOf (progS raw) = planF τ.p.names τ.sts τ.nds:=by unfold planOf; rw [hR]
 refine ⟨?_,?_,by rw [hP]; exact h.shared,by rw [hP]; exact h.locks,by rw [hP]; exact h.threads.2⟩
 ·unfold goodB
  rw [hP,hR,hT,hQ,h.lex]
  have hs:=h.shared
  have hk:=h.locks
  have ht:=h.threads
  have hp:=h.procs
  have hl:=h.lines
  have hz:=h.size
  have hn:=h.len
  have e1:(endP L (progS raw).size τ.p).1 = 0:=by unfold endP; rw [h.ok,h.check]; rfl
  have a1:(τ.sts.all fun x=>decide (x.vals.length ≤ 9000)) = true:=List.all_eq_true.2 fun x hx=>decide_eq_true (by have:=(h.vals x hx).2; omega)
  have a2:((planF τ.p.names τ.sts τ.nds).lines.all fun x=>decide (x.vals.length ≤ 10000)) = true:=List.all_eq_true.2 fun x hx=>decide_eq_true (by have:=(h.each x hx).2; omega)
  have b1:=h.names
  have b2:=h.sts
  have b3:=h.nds
  rw [a1,a2,e1,decide_eq_true (show (progS raw).size ≤ 500 by omega),decide_eq_true (show L.length ≤ 500 by omega),decide_eq_true (show (planF τ.p.names τ.sts τ.nds).shared ≤ 1000 by omega),decide_eq_true (show (planF τ.p.names τ.sts τ.nds).locks ≤ 1000 by omega),decide_eq_true (show (planF τ.p.names τ.sts τ.nds).threads.length ≤ 1000 by omega),decide_eq_true (show (planF τ.p.names τ.sts τ.nds).procs.length ≤ 1000 by omega),decide_eq_true (show (planF τ.p.names τ.sts τ.nds).lines.length ≤ 10000 by omega),decide_eq_true (show (planF τ.p.names τ.sts τ.nds).nodes.length ≤ 10000 by omega),decide_eq_true (show τ.p.names.length ≤ 500 by omega),decide_eq_true (show τ.sts.length ≤ 9000 by omega),decide_eq_true (show τ.nds.length ≤ 9000 by omega)]
  rfl
 ·unfold atsM
  rw [hP]
  exact List.all_eq_true.2 fun x hx=>decide_eq_true (by have:=(h.each x hx).1; omega)
theorem off_play (raw:ByteArray) {W:World} (ht:TabOk W):PlayC W (planOf (progS raw)) (progS raw):=fun _ hs _ hb =>
 (play_tab (prog_facts raw).1 (prog_facts raw).2.1 hs rfl (ht.below hb)).mono fun _ _ h=>h
theorem off_prog (raw:ByteArray) (hr:raw.size ≤ 9223372036854775807) (W:World):ProgC W raw (progS raw):=fun w _=>k_program raw hr w
end Go.Proofs.YtmfcpbhdggonfaaGreatDoor
