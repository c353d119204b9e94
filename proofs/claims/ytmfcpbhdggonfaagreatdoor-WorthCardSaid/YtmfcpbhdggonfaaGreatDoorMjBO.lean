/- Programs that may be, by reckoning. -/
import Derived.Test.YtmfcpbhdggonfaaGreatDoorMjBJ
import Derived.Test.YtmfcpbhdggonfaaGreatDoorMjBN
namespace Go.Proofs.YtmfcpbhdggonfaaGreatDoor
open Go.RowKit RR
def toksF (s:ByteArray):List Tk:=(lexF s 0).1
def runF (s:ByteArray):QSt:=(programQ (toksF s) 600 startQ).getD startQ
def planOf (s:ByteArray):Plan:=planF (runF s).p.names (runF s).sts (runF s).nds
def goodB (s:ByteArray):Bool :=
 decide (s.size ≤ 500) && (lexF s 0).2.isNone && decide ((toksF s).length ≤ 500) && (programQ (toksF s) 600 startQ).isSome && decide ((endP (toksF s) s.size (runF s).p).1 = 0)
 && (runF s).sts.all (fun x=>decide (x.vals.length ≤ 9000)) && decide ((planOf s).shared ≤ 1000) && decide ((planOf s).locks ≤ 1000) && decide ((planOf s).threads.length ≤ 1000) && decide ((planOf s).procs.length ≤ 1000) && decide ((planOf s).lines.length ≤ 10000) && decide ((planOf s).nodes.length ≤ 10000) && (planOf s).lines.all (fun x=>decide (x.vals.length ≤ 10000))
 && decide ((runF s).p.names.length ≤ 500) && decide ((runF s).sts.length ≤ 9000) && decide ((runF s).nds.length ≤ 9000)
theorem good_of {s:ByteArray} (h:goodB s = true):GoodP s (runF s).p.names (runF s).sts (runF s).nds:=by
 unfold goodB at h
 simp only [Bool.and_eq_true,decide_eq_true_eq,List.all_eq_true] at h
 obtain ⟨⟨⟨⟨⟨⟨⟨⟨⟨⟨⟨⟨⟨⟨⟨h1,h2⟩,h3⟩,h4⟩,h5⟩,h6⟩,h7⟩,h8⟩,h9⟩,h10⟩,h11⟩,h12⟩,h13⟩,h14⟩,h15⟩,h16⟩:=h
 have hl:lexF s 0 = (toksF s,none):=by
  have:(lexF s 0).2 = none:=by simpa using h2
  unfold toksF
  rw [← this]
 have hrun:programQ (toksF s) 600 startQ = some (runF s):=by
  unfold runF
  obtain ⟨x,hx⟩:=Option.isSome_iff_exists.1 h4
  rw [hx]; rfl
 refine ⟨fun w=>?_,h14,h15,h16,h6,h7,h8,h9,h10,h11,h12,h13⟩
 refine (c_parseX s w h1 (toksF s) hl h3 600 (runF s) hrun).mono ?_
 rintro e w' ⟨⟨_,h⟩,hb⟩
 obtain ⟨a1,c1,a2,c2,a3,c3,a4,c4,q1,q2,q3,q4,_⟩:=h h5
 exact ⟨⟨a1,c1,a2,_,c2,a3,c3,a4,c4,q1,q2,q3,q4⟩,hb⟩
end Go.Proofs.YtmfcpbhdggonfaaGreatDoor
