/- Contracts of the program's package check: the counts; the first name too many. -/
import Derived.Test.YtmfcpbhdggonfaaGreatDoorMiAA
import Derived.WalkKit
import Derived.Deep.MidRow
namespace Go.Proofs.YtmfcpbhdggonfaaGreatDoor
open Go.RowKit RR
structure Only (B:Nat) (w w':World):Prop where
 os:w'.os = w.os
 tape:w'.tape = w.tape
 output:w'.output = w.output
 size:w'.heap.size = w.heap.size
 block:∀ k,k ≠ B→w'.heap[k]? = w.heap[k]?
theorem Only.refl (B:Nat) (w:World):Only B w w:=⟨rfl,rfl,rfl,rfl,fun _ _=>rfl⟩
theorem Only.set {B:Nat} {a w:World} (h:Only B a w) (o:Nat) (v:Value):Only B a (w.setCell ⟨B,o,none⟩ v) :=
 ⟨h.os,h.tape,h.output,by rw [← h.size]; simp [World.setCell],fun k hk=>(Below.heap_setCell w ⟨B,o,none⟩ v k hk).trans (h.block k hk)⟩
theorem Only.cell {B:Nat} {w w':World} (h:Only B w w') {p:Addr} (hp:p.block ≠ B):w'.cell? p = w.cell? p:=World.cell?_of_block (w:=w) (h.block p.block hp)
theorem Only.below {B:Nat} {w w':World} (h:Only B w w'):Below B w w':=⟨h.os,h.tape,h.output,Nat.le_of_eq h.size.symm,fun k hk=>h.block k (by omega)⟩
theorem cts_set {w:World} {B:Nat} {cs:Array Value} {T:TypeId} (h:w.heap[B]? = some (.cells cs T (0,0))) (o:Nat) (v:Value):(w.setCell ⟨B,o,none⟩ v).heap[B]? = some (.cells (cs.setIfInBounds o v) T (0,0)):=by
 simp only [World.setCell,Array.getElem?_modify]
 rw [if_pos trivial,h]
 rfl
set_option maxRecDepth 100000 in
set_option maxHeartbeats 1000000 in
theorem c_add (w:World) (B:Nat) (c:Cts) (r:Nat) (h:CtsAt w B c) (hb:c.sh ≤ 1000∧c.lo ≤ 1000∧c.pr ≤ 1000∧c.pa ≤ 1000∧c.th ≤ 1000) :
    Calls Tryz.prog 183 #[.pointer (some ⟨B,0,none⟩),.int .i64 r] w fun e w'=>e = .returned (.tuple #[])∧CtsAt w' B (c.add r)∧Only B w w':=by
 obtain ⟨b0,b1,b2,b3,b4⟩:=hb
 obtain ⟨c0,c1,c2,c3,c4,hf⟩:=h.cells
 have f0:=hf 0
 have f1:=hf 1
 have f2:=hf 2
 have f3:=hf 3
 have f4:=hf 4
 clear hf
 by_cases h0:r = 0
 ·have e0:((r:Int) == 0) = true:=beq_iff_eq.2 (by omega)
  have HE:Hid (c.add r = { c with sh:=c.sh + 1 }):=by show _ = _; unfold Cts.add; rw [if_pos h0]
  have H:=hide h
  clear h h0
  go_enter Tryz.func183,Tryz.ntmps183
  go_wp2_with fail
  go_end0
  refine ⟨rfl,?_,(Only.refl _ _).set _ _⟩
  rw [HE.out]
  exact cts_set H.out 0 _
 by_cases h1:r = 1
 ·have e1:((r:Int) == 1) = true:=beq_iff_eq.2 (by omega)
  have e0:((r:Int) == 0) = false:=beq_eq_false_iff_ne.2 (by omega)
  have HE:Hid (c.add r = { c with lo:=c.lo + 1 }):=by show _ = _; unfold Cts.add; rw [if_neg h0,if_pos h1]
  have H:=hide h
  clear h h0 h1
  go_enter Tryz.func183,Tryz.ntmps183
  go_wp2_with fail
  go_end0
  refine ⟨rfl,?_,(Only.refl _ _).set _ _⟩
  rw [HE.out]
  exact cts_set H.out 1 _
 by_cases h2:r = 2
 ·have e2:((r:Int) == 2) = true:=beq_iff_eq.2 (by omega)
  have e0:((r:Int) == 0) = false:=beq_eq_false_iff_ne.2 (by omega)
  have e1:((r:Int) == 1) = false:=beq_eq_false_iff_ne.2 (by omega)
  have HE:Hid (c.add r = { c with pr:=c.pr + 1,pa:=0 }):=by show _ = _; unfold Cts.add; rw [if_neg h0,if_neg h1,if_pos h2]
  have H:=hide h
  clear h h0 h1 h2
  go_enter Tryz.func183,Tryz.ntmps183
  go_wp2_with fail
  go_end0
  refine ⟨rfl,?_,((Only.refl _ _).set _ _).set _ _⟩
  rw [HE.out]
  exact cts_set (cts_set H.out 2 _) 3 _
 by_cases h3:r = 3
 ·have e3:((r:Int) == 3) = true:=beq_iff_eq.2 (by omega)
  have e0:((r:Int) == 0) = false:=beq_eq_false_iff_ne.2 (by omega)
  have e1:((r:Int) == 1) = false:=beq_eq_false_iff_ne.2 (by omega)
  have e2:((r:Int) == 2) = false:=beq_eq_false_iff_ne.2 (by omega)
  have HE:Hid (c.add r = { c with pa:=c.pa + 1 }):=by show _ = _; unfold Cts.add; rw [if_neg h0,if_neg h1,if_neg h2,if_pos h3]
  have H:=hide h
  clear h h0 h1 h2 h3
  go_enter Tryz.func183,Tryz.ntmps183
  go_wp2_with fail
  go_end0
  refine ⟨rfl,?_,(Only.refl _ _).set _ _⟩
  rw [HE.out]
  exact cts_set H.out 3 _
 by_cases h7:r = 7
 ·have e7:((r:Int) == 7) = true:=beq_iff_eq.2 (by omega)
  have e0:((r:Int) == 0) = false:=beq_eq_false_iff_ne.2 (by omega)
  have e1:((r:Int) == 1) = false:=beq_eq_false_iff_ne.2 (by omega)
  have e2:((r:Int) == 2) = false:=beq_eq_false_iff_ne.2 (by omega)
  have e3:((r:Int) == 3) = false:=beq_eq_false_iff_ne.2 (by omega)
  have HE:Hid (c.add r = { c with th:=c.th + 1 }):=by show _ = _; unfold Cts.add; rw [if_neg h0,if_neg h1,if_neg h2,if_neg h3,if_pos h7]
  have H:=hide h
  clear h h0 h1 h2 h3 h7
  go_enter Tryz.func183,Tryz.ntmps183
  go_wp2_with fail
  go_end0
  refine ⟨rfl,?_,(Only.refl _ _).set _ _⟩
  rw [HE.out]
  exact cts_set H.out 4 _
 have e0:((r:Int) == 0) = false:=beq_eq_false_iff_ne.2 (by omega)
 have e1:((r:Int) == 1) = false:=beq_eq_false_iff_ne.2 (by omega)
 have e2:((r:Int) == 2) = false:=beq_eq_false_iff_ne.2 (by omega)
 have e3:((r:Int) == 3) = false:=beq_eq_false_iff_ne.2 (by omega)
 have e7:((r:Int) == 7) = false:=beq_eq_false_iff_ne.2 (by omega)
 have HE:Hid (c.add r = c):=by show _ = _; unfold Cts.add; rw [if_neg h0,if_neg h1,if_neg h2,if_neg h3,if_neg h7]
 have H:=hide h
 clear h h0 h1 h2 h3 h7
 go_enter Tryz.func183,Tryz.ntmps183
 go_wp2_with fail
 go_end0
 exact ⟨rfl,by rw [HE.out]; exact H.out,Only.refl _ _⟩
theorem add_le (c:Cts) (r k:Nat) (h:c.sh ≤ k∧c.lo ≤ k∧c.pr ≤ k∧c.pa ≤ k∧c.th ≤ k):(c.add r).sh ≤ k + 1∧(c.add r).lo ≤ k + 1∧(c.add r).pr ≤ k + 1∧(c.add r).pa ≤ k + 1∧(c.add r).th ≤ k + 1:=by
 unfold Cts.add
 (repeat' split) <;> (try dsimp only) <;> omega
set_option maxRecDepth 100000 in
set_option maxHeartbeats 1000000 in
theorem c_firstTooMany (ao:Option Addr) (cap:Nat) (l:List Nm) (w:World) (hl:l.length ≤ 999) (hi:NmSl w ao l) :
    Calls Tryz.prog 137 #[.slice ao l.length cap] w fun e w'=>e = .returned (optOut (manyP l))∧Below w.heap.size w w':=by
 go_enter Tryz.func137,Tryz.ntmps137
 go_wp2
 go_loopw [9] (fun u wr=>∃ (k:Nat) (c:Cts),u = .int .i64 k∧k ≤ l.length∧manyF2 (l.drop k) c = manyP l∧(c.sh ≤ k∧c.lo ≤ k∧c.pr ≤ k∧c.pa ≤ k∧c.th ≤ k)∧CtsAt wr w.heap.size c∧w.heap.size < wr.heap.size∧Below w.heap.size w wr) (fun u _=>l.length - (intOf u).toNat)
 case atStart=>exact ⟨0,⟨0,0,0,0,0⟩,rfl,Nat.zero_le _,rfl,by simp,heap_alloc_new w _,by simp,(Below.refl _ _).alloc (Nat.le_refl _) _⟩
 case round =>
  obtain ⟨k,c,rfl,hk,hn,hcb,hct,hsz,hbel⟩:=hrel
  have HN:=hide hn
  clear hn
  by_cases hlt:k < l.length
  ·have hsl:=hi.below hbel
   obtain ⟨b,o,hb,hao,c1,c2,c3,c4⟩:=hsl k hlt
   subst hao
   have HD:Hid (l.drop k = l[k] :: l.drop (k + 1)):=List.drop_eq_getElem_cons hlt
   have hct1:∀ ob,CtsAt (wr.alloc ob) w.heap.size c:=fun ob=>(Below.heap_alloc wr ob _ hsz).trans hct
   have hle:=add_le c l[k].role k hcb
   cases hT:(c.add l[k].role).too
   ·have HE:Hid (manyF2 (l.drop k) c = manyF2 (l.drop (k + 1)) (c.add l[k].role)):=by show _ = _; rw [HD.out,manyF2,hT]; rfl
    go_wp2_with fail
    refine (c_add _ _ c _ (hct1 _) (by omega)).mono ?_
    rintro e w1 ⟨rfl,hc1,ho1⟩
    go_wp2_with fail
    refine (c_tooMany _ _ _ hc1).mono ?_
    rintro e w2 ⟨rfl,hw2⟩
    subst hw2
    go_wp2_with fail
    go_roundw
    case rel=>exact ⟨k + 1,c.add l[k].role,by go_num,by omega,by rw [← HN.out,HE.out],hle,hc1,by rw [ho1.size]; simp; omega,(hbel.alloc hbel.size _).trans ho1.below⟩
    case measure=>simp [intOf]; omega
   ·have HE:Hid (manyF2 (l.drop k) c = some l[k].at_):=by show _ = _; rw [HD.out,manyF2,hT]; rfl
    go_wp2_with fail
    refine (c_add _ _ c _ (hct1 _) (by omega)).mono ?_
    rintro e w1 ⟨rfl,hc1,ho1⟩
    have hcl:=ho1.cell (p:=⟨wr.heap.size,1,none⟩) (by show wr.heap.size ≠ w.heap.size; omega)
    simp at hcl
    go_wp2_with fail
    refine (c_tooMany _ _ _ hc1).mono ?_
    rintro e w2 ⟨rfl,hw2⟩
    subst hw2
    go_wp2_with fail
    go_ret2
    exact ⟨by rw [← HN.out,HE.out]; rfl,(hbel.alloc hbel.size _).trans ho1.below⟩
  ·go_wp2
   go_ret2
   exact ⟨by rw [← HN.out,List.drop_of_length_le (by omega)]; rfl,hbel⟩
end Go.Proofs.YtmfcpbhdggonfaaGreatDoor
namespace RR
structure PSt where
 next:Nat
 depth:Int
 proc:Int
 failed:Bool
 names:List Nm
 calls:List Cl
def PSt.fail (σ:PSt):PSt:={ σ with failed:=true }
def PSt.step (σ:PSt):PSt:={ σ with next:=σ.next + 1 }
def PSt.ahead (L:List Tk) (σ:PSt) (n:Nat):Tk:=if h:σ.failed = false∧σ.next + n < L.length then L[σ.next + n] else ⟨⟨#[]⟩,0⟩
def PSt.sees (L:List Tk) (σ:PSt) (t:ByteArray):Bool:=decide ((σ.ahead L 0).t = t)
def PSt.take (L:List Tk) (σ:PSt) (t:ByteArray):PSt:=if σ.sees L t then σ.step else σ.fail
def PSt.seesCall (L:List Tk) (σ:PSt):Bool:=isNameB (σ.ahead L 0).t && decide ((σ.ahead L 1).t = ⟨#[40]⟩)
def PSt.takeName (L:List Tk) (σ:PSt) (role:Nat):PSt :=
 if isNameB (σ.ahead L 0).t then { σ with next:=σ.next + 1,names:=σ.names ++ [⟨(σ.ahead L 0).t,(σ.ahead L 0).p,role,σ.proc⟩] } else σ.fail
theorem ahead_in {L:List Tk} {σ:PSt} {n:Nat} (h:σ.failed = false) (h2:σ.next + n < L.length):σ.ahead L n = L[σ.next + n]:=by unfold PSt.ahead; rw [dif_pos ⟨h,h2⟩]
theorem ahead_failed {L:List Tk} {σ:PSt} {n:Nat} (h:σ.failed = true):σ.ahead L n = ⟨⟨#[]⟩,0⟩:=by unfold PSt.ahead; rw [dif_neg (by rw [h]; simp)]
theorem ahead_out {L:List Tk} {σ:PSt} {n:Nat} (h2:¬ σ.next + n < L.length):σ.ahead L n = ⟨⟨#[]⟩,0⟩:=by unfold PSt.ahead; rw [dif_neg (fun h=>h2 h.2)]
def Inv (σ:PSt):Prop:=σ.names.length ≤ σ.next∧σ.calls.length ≤ σ.next + (if σ.failed then 1 else 0)
theorem inv_fail {σ:PSt} (h:Inv σ):Inv σ.fail:=by
 refine ⟨h.1,?_⟩
 have:=h.2
 show σ.calls.length ≤ σ.next + 1
 split at this <;> omega
theorem inv_step {σ:PSt} (h:Inv σ):Inv σ.step:=by
 refine ⟨Nat.le_succ_of_le h.1,?_⟩
 have:=h.2
 show σ.calls.length ≤ σ.next + 1 + (if σ.failed then 1 else 0)
 omega
theorem inv_name {σ:PSt} (h:Inv σ) (n:Nm):Inv { σ with next:=σ.next + 1,names:=σ.names ++ [n] }:=by
 refine ⟨?_,?_⟩
 ·show (σ.names ++ [n]).length ≤ σ.next + 1
  rw [List.length_append]; exact Nat.succ_le_succ h.1
 ·have:=h.2
  show σ.calls.length ≤ σ.next + 1 + (if σ.failed then 1 else 0)
  omega
theorem Inv.small {σ:PSt} (h:Inv σ):σ.names.length ≤ σ.next∧σ.calls.length ≤ σ.next + 1:=by
 refine ⟨h.1,?_⟩
 have:=h.2
 split at this <;> omega
theorem sees_lt {L:List Tk} {σ:PSt} {t:ByteArray} (ht:t ≠ ⟨#[]⟩) (h:σ.sees L t = true):σ.next < L.length∧σ.failed = false:=by
 unfold PSt.sees at h
 rw [decide_eq_true_iff] at h
 cases hf:σ.failed
 ·by_cases h2:σ.next + 0 < L.length
  ·exact ⟨h2,rfl⟩
  ·rw [ahead_out h2] at h; exact absurd h.symm ht
 ·rw [ahead_failed hf] at h; exact absurd h.symm ht
theorem name_lt {L:List Tk} {σ:PSt} (h:isNameB (σ.ahead L 0).t = true):σ.next < L.length∧σ.failed = false:=by
 have he:isNameB (⟨#[]⟩:ByteArray) = false:=isName_empty rfl
 cases hf:σ.failed
 ·by_cases h2:σ.next + 0 < L.length
  ·exact ⟨h2,rfl⟩
  ·rw [ahead_out h2,he] at h; cases h
 ·rw [ahead_failed hf,he] at h; cases h
end RR
/- The program's parser,its recursive functions,with so much fuel. Plain functions. No Go here. -/
namespace RR
open Go Go.RowKit
def enterP (L:List Tk) (σ:PSt) (t:ByteArray):PSt:=if 6 ≤ σ.depth then σ.fail else { σ.take L t with depth:=wrap64 ((σ.take L t).depth + 1) }
def leaveP (L:List Tk) (σ:PSt) (t:ByteArray):PSt:={ σ.take L t with depth:=wrap64 ((σ.take L t).depth - 1) }
def takeEndP (L:List Tk) (σ:PSt):PSt:=if σ.next < L.length then σ.fail else σ
def notsP (L:List Tk):Nat→PSt→Option PSt
 | 0,_=>none
 | f + 1,σ=>if σ.sees L ⟨#[33]⟩ then notsP L f (σ.take L ⟨#[33]⟩) else some σ
def exprsP (L:List Tk):Nat→Nat→PSt→Option PSt
 | 0,_,_=>none
 | f + 1,0,σ=>(exprsP L f 2 σ).bind (exprsP L f 1)
 | f + 1,1,σ=>if σ.sees L ⟨#[124]⟩ then (exprsP L f 2 σ.step).bind (exprsP L f 1) else some σ
 | f + 1,2,σ=>(exprsP L f 4 σ).bind (exprsP L f 3)
 | f + 1,3,σ=>if σ.sees L ⟨#[38]⟩ then (exprsP L f 4 σ.step).bind (exprsP L f 3) else some σ
 | f + 1,4,σ=>(notsP L f σ).bind fun σ1 =>
     if (σ1.ahead L 0).t = ⟨#[40]⟩ then exprsP L f 5 σ1
     else if (σ1.ahead L 0).t = ⟨#[116,114,117,101]⟩ ∨ (σ1.ahead L 0).t = ⟨#[102,97,108,115,101]⟩ ∨ (σ1.ahead L 0).t = ⟨#[63]⟩ then some (σ1.take L (σ1.ahead L 0).t)
     else some (σ1.takeName L 4)
 | f + 1,_,σ=>(exprsP L f 0 (enterP L σ ⟨#[40]⟩)).map fun σ1=>leaveP L σ1 ⟨#[41]⟩
def exprP (L:List Tk) (f:Nat) (σ:PSt):Option PSt:=exprsP L f 0 σ
def orP (L:List Tk) (f:Nat) (σ:PSt):Option PSt:=exprsP L f 1 σ
def termP (L:List Tk) (f:Nat) (σ:PSt):Option PSt:=exprsP L f 2 σ
def andP (L:List Tk) (f:Nat) (σ:PSt):Option PSt:=exprsP L f 3 σ
def factorP (L:List Tk) (f:Nat) (σ:PSt):Option PSt:=exprsP L f 4 σ
def bracketedP (L:List Tk) (f:Nat) (σ:PSt):Option PSt:=exprsP L f 5 σ
theorem exprP_zero (L:List Tk) (σ:PSt):exprP L 0 σ = none:=rfl
theorem orP_zero (L:List Tk) (σ:PSt):orP L 0 σ = none:=rfl
theorem termP_zero (L:List Tk) (σ:PSt):termP L 0 σ = none:=rfl
theorem andP_zero (L:List Tk) (σ:PSt):andP L 0 σ = none:=rfl
theorem factorP_zero (L:List Tk) (σ:PSt):factorP L 0 σ = none:=rfl
theorem bracketedP_zero (L:List Tk) (σ:PSt):bracketedP L 0 σ = none:=rfl
theorem exprP_succ (L:List Tk) (f:Nat) (σ:PSt):exprP L (f + 1) σ = (termP L f σ).bind (orP L f):=rfl
theorem orP_succ (L:List Tk) (f:Nat) (σ:PSt):orP L (f + 1) σ = if σ.sees L ⟨#[124]⟩ then (termP L f σ.step).bind (orP L f) else some σ:=rfl
theorem termP_succ (L:List Tk) (f:Nat) (σ:PSt):termP L (f + 1) σ = (factorP L f σ).bind (andP L f):=rfl
theorem andP_succ (L:List Tk) (f:Nat) (σ:PSt):andP L (f + 1) σ = if σ.sees L ⟨#[38]⟩ then (factorP L f σ.step).bind (andP L f) else some σ:=rfl
theorem factorP_succ (L:List Tk) (f:Nat) (σ:PSt):factorP L (f + 1) σ = (notsP L f σ).bind fun σ1 =>
      if (σ1.ahead L 0).t = ⟨#[40]⟩ then bracketedP L f σ1
      else if (σ1.ahead L 0).t = ⟨#[116,114,117,101]⟩ ∨ (σ1.ahead L 0).t = ⟨#[102,97,108,115,101]⟩ ∨ (σ1.ahead L 0).t = ⟨#[63]⟩ then some (σ1.take L (σ1.ahead L 0).t)
      else some (σ1.takeName L 4):=rfl
theorem bracketedP_succ (L:List Tk) (f:Nat) (σ:PSt):bracketedP L (f + 1) σ = (exprP L f (enterP L σ ⟨#[40]⟩)).map fun σ1=>leaveP L σ1 ⟨#[41]⟩:=rfl
def moreP (L:List Tk) (role:Nat):Nat→PSt→Option PSt
 | 0,_=>none
 | f + 1,σ=>if σ.sees L ⟨#[44]⟩ then moreP L role f (σ.step.takeName L role) else some σ
def valuesP (L:List Tk):Nat→PSt→Nat→Option (PSt × Nat)
 | 0,_,_=>none
 | f + 1,σ,n=>if σ.sees L ⟨#[44]⟩ then (exprP L f σ.step).bind fun σ1=>valuesP L f σ1 (n + 1) else some (σ,n)
end RR
/- The program's parser: what expressions leave as it was; values,calls. Plain functions. No Go here. -/
namespace RR
open Go Go.RowKit
def Good (σ σ':PSt):Prop:=σ'.calls = σ.calls∧σ.next ≤ σ'.next∧σ'.proc = σ.proc
theorem Good.refl (σ:PSt):Good σ σ:=⟨rfl,Nat.le_refl _,rfl⟩
theorem Good.trans {a b c:PSt} (h:Good a b) (k:Good b c):Good a c:=⟨k.1.trans h.1,Nat.le_trans h.2.1 k.2.1,k.2.2.trans h.2.2⟩
theorem good_fail (σ:PSt):Good σ σ.fail:=⟨rfl,Nat.le_refl _,rfl⟩
theorem good_step (σ:PSt):Good σ σ.step:=⟨rfl,Nat.le_succ _,rfl⟩
theorem good_take (L:List Tk) (σ:PSt) (t:ByteArray):Good σ (σ.take L t):=by
 unfold PSt.take; split
 ·exact good_step σ
 ·exact good_fail σ
theorem good_takeName (L:List Tk) (σ:PSt) (r:Nat):Good σ (σ.takeName L r):=by
 unfold PSt.takeName; split
 ·exact ⟨rfl,Nat.le_succ _,rfl⟩
 ·exact good_fail σ
theorem good_enter (L:List Tk) (σ:PSt) (t:ByteArray):Good σ (enterP L σ t):=by
 unfold enterP; split
 ·exact good_fail σ
 ·have:=good_take L σ t
  exact ⟨this.1,this.2.1,this.2.2⟩
theorem good_leave (L:List Tk) (σ:PSt) (t:ByteArray):Good σ (leaveP L σ t):=by
 have:=good_take L σ t
 exact ⟨this.1,this.2.1,this.2.2⟩
theorem good_nots (L:List Tk):∀ (f:Nat) (σ σ':PSt),notsP L f σ = some σ'→Good σ σ':=by
 intro f
 induction f with
 | zero=>intro σ σ' h; rw [notsP] at h; cases h
 | succ f ih =>
  intro σ σ' h
  rw [notsP] at h
  split at h
  ·exact (good_take L σ _).trans (ih _ _ h)
  ·rw [← Option.some.inj h]; exact Good.refl _
theorem bindS {α β:Type} {o:Option α} {g:α→Option β} {b:β} (h:o.bind g = some b):∃ a,o = some a∧g a = some b:=by
 cases o with
 | none=>cases h
 | some a=>exact ⟨a,rfl,h⟩
theorem good_exprs (L:List Tk):∀ f:Nat,(∀ σ σ',exprP L f σ = some σ'→Good σ σ')∧(∀ σ σ',orP L f σ = some σ'→Good σ σ')∧(∀ σ σ',termP L f σ = some σ'→Good σ σ')∧(∀ σ σ',andP L f σ = some σ'→Good σ σ')∧(∀ σ σ',factorP L f σ = some σ'→Good σ σ')∧(∀ σ σ',bracketedP L f σ = some σ'→Good σ σ'):=by
 intro f
 induction f with
 | zero =>
  refine ⟨?_,?_,?_,?_,?_,?_⟩ <;> intro σ σ' h
  ·rw [exprP_zero] at h; cases h
  ·rw [orP_zero] at h; cases h
  ·rw [termP_zero] at h; cases h
  ·rw [andP_zero] at h; cases h
  ·rw [factorP_zero] at h; cases h
  ·rw [bracketedP_zero] at h; cases h
 | succ f ih =>
  obtain ⟨i1,i2,i3,i4,i5,i6⟩:=ih
  refine ⟨?_,?_,?_,?_,?_,?_⟩ <;> intro σ σ' h
  ·rw [exprP_succ] at h
   obtain ⟨a,h1,h2⟩:=bindS h
   exact (i3 _ _ h1).trans (i2 _ _ h2)
  ·rw [orP_succ] at h
   split at h
   ·obtain ⟨a,h1,h2⟩:=bindS h
    exact (good_step σ).trans ((i3 _ _ h1).trans (i2 _ _ h2))
   ·rw [← Option.some.inj h]; exact Good.refl _
  ·rw [termP_succ] at h
   obtain ⟨a,h1,h2⟩:=bindS h
   exact (i5 _ _ h1).trans (i4 _ _ h2)
  ·rw [andP_succ] at h
   split at h
   ·obtain ⟨a,h1,h2⟩:=bindS h
    exact (good_step σ).trans ((i5 _ _ h1).trans (i4 _ _ h2))
   ·rw [← Option.some.inj h]; exact Good.refl _
  ·rw [factorP_succ] at h
   obtain ⟨a,h1,h2⟩:=bindS h
   refine (good_nots L f _ _ h1).trans ?_
   split at h2
   ·exact i6 _ _ h2
   ·split at h2
    ·rw [← Option.some.inj h2]; exact good_take L a _
    ·rw [← Option.some.inj h2]; exact good_takeName L a 4
  ·rw [bracketedP_succ] at h
   obtain ⟨a,h1,h2⟩:=Option.map_eq_some_iff.1 h
   rw [← h2]
   exact ((good_enter L σ _).trans (i1 _ _ h1)).trans (good_leave L a _)
theorem good_expr {L:List Tk} {f:Nat} {σ σ':PSt} (h:exprP L f σ = some σ'):Good σ σ':=(good_exprs L f).1 σ σ' h
theorem good_values (L:List Tk):∀ (f:Nat) (σ:PSt) (n:Nat) (r:PSt × Nat),valuesP L f σ n = some r→n ≤ σ.next + 1→Good σ r.1∧r.2 ≤ r.1.next + 1:=by
 intro f
 induction f with
 | zero=>intro σ n r h; rw [valuesP] at h; cases h
 | succ f ih =>
  intro σ n r h hn
  rw [valuesP] at h
  split at h
  ·obtain ⟨a,h1,h2⟩:=bindS h
   have g:=(good_step σ).trans (good_expr h1)
   have:=ih a (n + 1) r h2 (by have:=(good_expr h1).2.1; have e:σ.step.next = σ.next + 1:=rfl; omega)
   exact ⟨g.trans this.1,this.2⟩
  ·rw [← Option.some.inj h]; exact ⟨Good.refl _,hn⟩
def callP (L:List Tk) (f:Nat) (σ:PSt):Option PSt :=
 (if (enterP L (σ.takeName L 6) ⟨#[40]⟩).sees L ⟨#[41]⟩ then some (enterP L (σ.takeName L 6) ⟨#[40]⟩,0)
  else (exprP L f (enterP L (σ.takeName L 6) ⟨#[40]⟩)).bind fun τ=>valuesP L f τ 1).map fun r =>
   { leaveP L r.1 ⟨#[41]⟩ with calls:=(leaveP L r.1 ⟨#[41]⟩).calls ++ [⟨(σ.ahead L 0).t,(σ.ahead L 0).p,r.2⟩] }
end RR
/- The program's parser: statements,procedures,the program. Plain functions. No Go here. -/
namespace RR
open Go Go.RowKit
def assignedP (L:List Tk) (f:Nat) (σ:PSt):Option PSt:=if σ.seesCall L then callP L f σ else exprP L f σ
def assignOrCallP (L:List Tk) (f:Nat) (σ:PSt):Option PSt :=
 (if σ.seesCall L then callP L f σ else assignedP L f ((σ.takeName L 4).take L ⟨#[61]⟩)).map fun τ=>τ.take L ⟨#[59]⟩
def giveBackP (L:List Tk) (f:Nat) (σ:PSt):Option PSt :=
 (if (σ.take L ⟨#[114,101,116,117,114,110]⟩).sees L ⟨#[59]⟩ then some (σ.take L ⟨#[114,101,116,117,114,110]⟩) else exprP L f (σ.take L ⟨#[114,101,116,117,114,110]⟩)).map fun τ=>τ.take L ⟨#[59]⟩
def blocksP (L:List Tk):Nat→Nat→PSt→Option PSt
 | 0,_,_=>none
 | f + 1,0,σ=>(blocksP L f 1 (enterP L σ ⟨#[123]⟩)).map fun τ=>leaveP L τ ⟨#[125]⟩
 | f + 1,1,σ=>if σ.failed = false∧σ.sees L ⟨#[125]⟩ = false then (blocksP L f 2 σ).bind (blocksP L f 1) else some σ
 | f + 1,2,σ =>
  if (σ.ahead L 0).t = ⟨#[105,102]⟩ then blocksP L f 3 σ
  else if (σ.ahead L 0).t = ⟨#[119,104,105,108,101]⟩ then (bracketedP L f (σ.take L ⟨#[119,104,105,108,101]⟩)).bind (blocksP L f 0)
  else if (σ.ahead L 0).t = ⟨#[97,115,115,117,109,101]⟩ then (exprP L f (σ.take L ⟨#[97,115,115,117,109,101]⟩)).map fun τ=>τ.take L ⟨#[59]⟩
  else if (σ.ahead L 0).t = ⟨#[97,99,113,117,105,114,101]⟩ ∨ (σ.ahead L 0).t = ⟨#[114,101,108,101,97,115,101]⟩ then some (((σ.take L (σ.ahead L 0).t).takeName L 5).take L ⟨#[59]⟩)
  else if (σ.ahead L 0).t = ⟨#[114,101,116,117,114,110]⟩ then giveBackP L f σ
  else if (σ.ahead L 0).t = ⟨#[115,107,105,112]⟩ then some ((σ.take L ⟨#[115,107,105,112]⟩).take L ⟨#[59]⟩)
  else assignOrCallP L f σ
 | f + 1,_,σ=>(bracketedP L f (σ.take L ⟨#[105,102]⟩)).bind fun a=>(blocksP L f 0 a).bind fun b=>if b.sees L ⟨#[101,108,115,101]⟩ then blocksP L f 0 b.step else some b
def blockP (L:List Tk) (f:Nat) (σ:PSt):Option PSt:=blocksP L f 0 σ
def stmtsP (L:List Tk) (f:Nat) (σ:PSt):Option PSt:=blocksP L f 1 σ
def statementP (L:List Tk) (f:Nat) (σ:PSt):Option PSt:=blocksP L f 2 σ
def branchP (L:List Tk) (f:Nat) (σ:PSt):Option PSt:=blocksP L f 3 σ
theorem blockP_succ (L:List Tk) (f:Nat) (σ:PSt):blockP L (f + 1) σ = (stmtsP L f (enterP L σ ⟨#[123]⟩)).map fun τ=>leaveP L τ ⟨#[125]⟩:=rfl
theorem stmtsP_succ (L:List Tk) (f:Nat) (σ:PSt):stmtsP L (f + 1) σ = if σ.failed = false∧σ.sees L ⟨#[125]⟩ = false then (statementP L f σ).bind (stmtsP L f) else some σ:=rfl
theorem statementP_succ (L:List Tk) (f:Nat) (σ:PSt):statementP L (f + 1) σ =
    if (σ.ahead L 0).t = ⟨#[105,102]⟩ then branchP L f σ
    else if (σ.ahead L 0).t = ⟨#[119,104,105,108,101]⟩ then (bracketedP L f (σ.take L ⟨#[119,104,105,108,101]⟩)).bind (blockP L f)
    else if (σ.ahead L 0).t = ⟨#[97,115,115,117,109,101]⟩ then (exprP L f (σ.take L ⟨#[97,115,115,117,109,101]⟩)).map fun τ=>τ.take L ⟨#[59]⟩
    else if (σ.ahead L 0).t = ⟨#[97,99,113,117,105,114,101]⟩ ∨ (σ.ahead L 0).t = ⟨#[114,101,108,101,97,115,101]⟩ then some (((σ.take L (σ.ahead L 0).t).takeName L 5).take L ⟨#[59]⟩)
    else if (σ.ahead L 0).t = ⟨#[114,101,116,117,114,110]⟩ then giveBackP L f σ
    else if (σ.ahead L 0).t = ⟨#[115,107,105,112]⟩ then some ((σ.take L ⟨#[115,107,105,112]⟩).take L ⟨#[59]⟩)
    else assignOrCallP L f σ:=rfl
theorem branchP_succ (L:List Tk) (f:Nat) (σ:PSt):branchP L (f + 1) σ = (bracketedP L f (σ.take L ⟨#[105,102]⟩)).bind fun a=>(blockP L f a).bind fun b=>if b.sees L ⟨#[101,108,115,101]⟩ then blockP L f b.step else some b:=rfl
def procedureP (L:List Tk) (f:Nat) (σ:PSt):Option PSt :=
 let a:=σ.take L ⟨#[112,114,111,99]⟩
 let d:=enterP L (({ a with proc:=wrap64 (a.proc + 1) }:PSt).takeName L 2) ⟨#[40]⟩
 (if d.sees L ⟨#[41]⟩ then some d else moreP L 3 f (d.takeName L 3)).bind fun e=>blockP L f (leaveP L e ⟨#[41]⟩)
def procsP (L:List Tk):Nat→PSt→Option PSt
 | 0,_=>none
 | f + 1,σ=>if σ.sees L ⟨#[112,114,111,99]⟩ then (procedureP L f σ).bind (procsP L f) else some σ
def listP (L:List Tk) (f:Nat) (t:ByteArray) (role:Nat) (σ:PSt):Option PSt :=
 if σ.sees L t then (moreP L role f (σ.step.takeName L role)).map fun τ=>τ.take L ⟨#[59]⟩ else some σ
def programP (L:List Tk) (f:Nat) (σ:PSt):Option PSt :=
 (listP L f ⟨#[115,104,97,114,101,100]⟩ 0 σ).bind fun a=>(listP L f ⟨#[108,111,99,107,115]⟩ 1 a).bind fun b=>(procedureP L f b).bind fun c=>(procsP L f c).bind fun d =>
  (moreP L 7 f ((d.take L ⟨#[116,104,114,101,97,100,115]⟩).takeName L 7)).map fun e=>takeEndP L (e.take L ⟨#[59]⟩)
end RR
namespace RR
open Go Go.RowKit
structure Nd where
 sign:Nat
 name:Int
 left:Int
 right:Int
structure Blk where
 proc:Int
 owner:Int
 els:Bool
structure Stm where
 kind:Nat
 at_:Nat
 blk:Blk
 target:Int
 name:Int
 vals:List (Int × Int)
structure QSt where
 p:PSt
 sts:List Stm
 nds:List Nd
def QSt.setp (σ:QSt) (q:PSt):QSt:={ σ with p:=q }
def QSt.node (σ:QSt) (n:Nd):QSt:={ σ with nds:=σ.nds ++ [n] }
def QSt.add (σ:QSt) (s:Stm):QSt:={ σ with sts:=σ.sts ++ [s] }
def nameIx (L:List Tk) (σ:PSt):Int:=if isNameB (σ.ahead L 0).t then σ.names.length else -1
def notsQ (L:List Tk):Nat→QSt→Nat→Option (QSt × Nat)
 | 0,_,_=>none
 | f + 1,σ,n=>if σ.p.sees L ⟨#[33]⟩ then notsQ L f (σ.setp σ.p.step) (n + 1) else some (σ,n)
def addNots:Nat→QSt→Int→QSt × Int
 | 0,σ,w=>(σ,w)
 | n + 1,σ,w=>addNots n (σ.node ⟨4,-1,0,w⟩) σ.nds.length
def constQ (L:List Tk) (σ:QSt) (t:ByteArray) (sign:Nat):QSt × Int:=((σ.setp (σ.p.take L t)).node ⟨sign,-1,0,0⟩,σ.nds.length)
def plainQ (L:List Tk) (br:QSt→Option (QSt × Int)) (σ:QSt):Option (QSt × Int) :=
 if (σ.p.ahead L 0).t = ⟨#[40]⟩ then br σ
 else if (σ.p.ahead L 0).t = ⟨#[116,114,117,101]⟩ then some (constQ L σ ⟨#[116,114,117,101]⟩ 1)
 else if (σ.p.ahead L 0).t = ⟨#[102,97,108,115,101]⟩ then some (constQ L σ ⟨#[102,97,108,115,101]⟩ 0)
 else if (σ.p.ahead L 0).t = ⟨#[63]⟩ then some (constQ L σ ⟨#[63]⟩ 2)
 else some ((σ.setp (σ.p.takeName L 4)).node ⟨3,nameIx L σ.p,0,0⟩,σ.nds.length)
def exprsQ (L:List Tk):Nat→Nat→QSt→Int→Option (QSt × Int)
 | 0,_,_,_=>none
 | f + 1,0,σ,_=>(exprsQ L f 2 σ 0).bind fun r=>exprsQ L f 1 r.1 r.2
 | f + 1,1,σ,w=>if σ.p.sees L ⟨#[124]⟩ then (exprsQ L f 2 (σ.setp σ.p.step) 0).bind fun r=>exprsQ L f 1 (r.1.node ⟨6,-1,w,r.2⟩) r.1.nds.length else some (σ,w)
 | f + 1,2,σ,_=>(exprsQ L f 4 σ 0).bind fun r=>exprsQ L f 3 r.1 r.2
 | f + 1,3,σ,w=>if σ.p.sees L ⟨#[38]⟩ then (exprsQ L f 4 (σ.setp σ.p.step) 0).bind fun r=>exprsQ L f 3 (r.1.node ⟨5,-1,w,r.2⟩) r.1.nds.length else some (σ,w)
 | f + 1,4,σ,_=>(notsQ L f σ 0).bind fun r=>(plainQ L (fun τ=>exprsQ L f 5 τ 0) r.1).map fun q=>addNots r.2 q.1 q.2
 | f + 1,_,σ,_=>(exprsQ L f 0 (σ.setp (enterP L σ.p ⟨#[40]⟩)) 0).map fun r=>(r.1.setp (leaveP L r.1.p ⟨#[41]⟩),r.2)
def exprQ (L:List Tk) (f:Nat) (σ:QSt):Option (QSt × Int):=exprsQ L f 0 σ 0
def orQ (L:List Tk) (f:Nat) (σ:QSt) (w:Int):Option (QSt × Int):=exprsQ L f 1 σ w
def termQ (L:List Tk) (f:Nat) (σ:QSt):Option (QSt × Int):=exprsQ L f 2 σ 0
def andQ (L:List Tk) (f:Nat) (σ:QSt) (w:Int):Option (QSt × Int):=exprsQ L f 3 σ w
def factorQ (L:List Tk) (f:Nat) (σ:QSt):Option (QSt × Int):=exprsQ L f 4 σ 0
def bracketedQ (L:List Tk) (f:Nat) (σ:QSt):Option (QSt × Int):=exprsQ L f 5 σ 0
theorem exprQ_zero (L:List Tk) (σ:QSt):exprQ L 0 σ = none:=rfl
theorem orQ_zero (L:List Tk) (σ:QSt) (w:Int):orQ L 0 σ w = none:=rfl
theorem termQ_zero (L:List Tk) (σ:QSt):termQ L 0 σ = none:=rfl
theorem andQ_zero (L:List Tk) (σ:QSt) (w:Int):andQ L 0 σ w = none:=rfl
theorem factorQ_zero (L:List Tk) (σ:QSt):factorQ L 0 σ = none:=rfl
theorem bracketedQ_zero (L:List Tk) (σ:QSt):bracketedQ L 0 σ = none:=rfl
theorem exprQ_succ (L:List Tk) (f:Nat) (σ:QSt):exprQ L (f + 1) σ = (termQ L f σ).bind fun r=>orQ L f r.1 r.2:=rfl
theorem orQ_succ (L:List Tk) (f:Nat) (σ:QSt) (w:Int):orQ L (f + 1) σ w = if σ.p.sees L ⟨#[124]⟩ then (termQ L f (σ.setp σ.p.step)).bind fun r=>orQ L f (r.1.node ⟨6,-1,w,r.2⟩) r.1.nds.length else some (σ,w):=rfl
theorem termQ_succ (L:List Tk) (f:Nat) (σ:QSt):termQ L (f + 1) σ = (factorQ L f σ).bind fun r=>andQ L f r.1 r.2:=rfl
theorem andQ_succ (L:List Tk) (f:Nat) (σ:QSt) (w:Int):andQ L (f + 1) σ w = if σ.p.sees L ⟨#[38]⟩ then (factorQ L f (σ.setp σ.p.step)).bind fun r=>andQ L f (r.1.node ⟨5,-1,w,r.2⟩) r.1.nds.length else some (σ,w):=rfl
theorem factorQ_succ (L:List Tk) (f:Nat) (σ:QSt):factorQ L (f + 1) σ = (notsQ L f σ 0).bind fun r=>(plainQ L (bracketedQ L f) r.1).map fun q=>addNots r.2 q.1 q.2:=rfl
theorem bracketedQ_succ (L:List Tk) (f:Nat) (σ:QSt):bracketedQ L (f + 1) σ = (exprQ L f (σ.setp (enterP L σ.p ⟨#[40]⟩))).map fun r=>(r.1.setp (leaveP L r.1.p ⟨#[41]⟩),r.2):=rfl
def valueQ (L:List Tk) (f:Nat) (σ:QSt) (v:List (Int × Int)):Option (QSt × List (Int × Int)):=(exprQ L f σ).map fun r=>(r.1,v ++ [((σ.nds.length:Int),r.2)])
def valuesQ (L:List Tk):Nat→QSt→List (Int × Int)→Option (QSt × List (Int × Int))
 | 0,_,_=>none
 | f + 1,σ,v=>if σ.p.sees L ⟨#[44]⟩ then (valueQ L f (σ.setp σ.p.step) v).bind fun r=>valuesQ L f r.1 r.2 else some (σ,v)
def condQ (L:List Tk):Nat→QSt→List (Int × Int)→Option (QSt × List (Int × Int))
 | 0,_,_=>none
 | f + 1,σ,v=>(valueQ L f (σ.setp (enterP L σ.p ⟨#[40]⟩)) v).map fun r=>(r.1.setp (leaveP L r.1.p ⟨#[41]⟩),r.2)
def callQ (L:List Tk) (f:Nat) (σ:QSt) (s:Stm):Option (QSt × Stm) :=
 (if (enterP L (σ.p.takeName L 6) ⟨#[40]⟩).sees L ⟨#[41]⟩ then some (σ.setp (enterP L (σ.p.takeName L 6) ⟨#[40]⟩),s.vals)
  else (valueQ L f (σ.setp (enterP L (σ.p.takeName L 6) ⟨#[40]⟩)) s.vals).bind fun r=>valuesQ L f r.1 r.2).map fun r =>
   (r.1.setp { leaveP L r.1.p ⟨#[41]⟩ with calls:=(leaveP L r.1.p ⟨#[41]⟩).calls ++ [⟨(σ.p.ahead L 0).t,(σ.p.ahead L 0).p,r.2.length⟩] },{ s with name:=nameIx L σ.p,vals:=r.2 })
def assignedQ (L:List Tk) (f:Nat) (σ:QSt) (s:Stm):Option (QSt × Stm) :=
 if σ.p.seesCall L then callQ L f σ s else (valueQ L f σ s.vals).map fun r=>(r.1,{ s with kind:=0,vals:=r.2 })
def aocQ (L:List Tk) (f:Nat) (σ:QSt) (s:Stm):Option QSt :=
 (if σ.p.seesCall L then callQ L f σ { s with kind:=1 } else assignedQ L f (σ.setp ((σ.p.takeName L 4).take L ⟨#[61]⟩)) { s with kind:=1,target:=nameIx L σ.p }).map fun r=>(r.1.setp (r.1.p.take L ⟨#[59]⟩)).add r.2
def giveBackQ (L:List Tk) (f:Nat) (σ:QSt) (s:Stm):Option QSt :=
 (if (σ.p.take L ⟨#[114,101,116,117,114,110]⟩).sees L ⟨#[59]⟩ then some (σ.setp (σ.p.take L ⟨#[114,101,116,117,114,110]⟩),s.vals) else valueQ L f (σ.setp (σ.p.take L ⟨#[114,101,116,117,114,110]⟩)) s.vals).map fun r =>
  (r.1.setp (r.1.p.take L ⟨#[59]⟩)).add { s with kind:=7,vals:=r.2 }
def assumeQ (L:List Tk) (f:Nat) (σ:QSt) (s:Stm):Option QSt :=
 (valueQ L f (σ.setp (σ.p.take L ⟨#[97,115,115,117,109,101]⟩)) s.vals).map fun r=>(r.1.setp (r.1.p.take L ⟨#[59]⟩)).add { s with kind:=4,vals:=r.2 }
def lockUseQ (L:List Tk) (σ:QSt) (s:Stm) (t:ByteArray):QSt :=
 (σ.setp (((σ.p.take L t).takeName L 5).take L ⟨#[59]⟩)).add { s with name:=nameIx L (σ.p.take L t) }
def skipQ (L:List Tk) (σ:QSt) (s:Stm):QSt:=(σ.setp ((σ.p.take L ⟨#[115,107,105,112]⟩).take L ⟨#[59]⟩)).add { s with kind:=8 }
def newStm (L:List Tk) (σ:QSt) (b:Blk):Stm:=⟨0,(σ.p.ahead L 0).p,b,-1,-1,[]⟩
def blocksQ (L:List Tk):Nat→Nat→QSt→Blk→Option (QSt × Nat)
 | 0,_,_,_=>none
 | f + 1,0,σ,b=>(blocksQ L f 1 (σ.setp (enterP L σ.p ⟨#[123]⟩)) b).map fun τ=>(τ.1.setp (leaveP L τ.1.p ⟨#[125]⟩),(τ.1.p.ahead L 0).p)
 | f + 1,1,σ,b=>if σ.p.failed = false∧σ.p.sees L ⟨#[125]⟩ = false then (blocksQ L f 2 σ b).bind fun τ=>blocksQ L f 1 τ.1 b else some (σ,0)
 | f + 1,2,σ,b =>
  if (σ.p.ahead L 0).t = ⟨#[105,102]⟩ then blocksQ L f 3 σ b
  else if (σ.p.ahead L 0).t = ⟨#[119,104,105,108,101]⟩ then (condQ L f (σ.setp (σ.p.take L ⟨#[119,104,105,108,101]⟩)) []).bind fun a=>(blocksQ L f 0 (a.1.add { newStm L σ b with kind:=3,vals:=a.2 }) ⟨b.proc,a.1.sts.length,false⟩).map fun c=>(c.1,0)
  else if (σ.p.ahead L 0).t = ⟨#[97,115,115,117,109,101]⟩ then (assumeQ L f σ (newStm L σ b)).map fun c=>(c,0)
  else if (σ.p.ahead L 0).t = ⟨#[97,99,113,117,105,114,101]⟩ then some (lockUseQ L σ { newStm L σ b with kind:=5 } (σ.p.ahead L 0).t,0)
  else if (σ.p.ahead L 0).t = ⟨#[114,101,108,101,97,115,101]⟩ then some (lockUseQ L σ { newStm L σ b with kind:=6 } (σ.p.ahead L 0).t,0)
  else if (σ.p.ahead L 0).t = ⟨#[114,101,116,117,114,110]⟩ then (giveBackQ L f σ (newStm L σ b)).map fun c=>(c,0)
  else if (σ.p.ahead L 0).t = ⟨#[115,107,105,112]⟩ then some (skipQ L σ (newStm L σ b),0)
  else (aocQ L f σ (newStm L σ b)).map fun c=>(c,0)
 | f + 1,_,σ,b=>(condQ L f (σ.setp (σ.p.take L ⟨#[105,102]⟩)) []).bind fun a =>
     (blocksQ L f 0 (a.1.add { newStm L σ b with kind:=2,vals:=a.2 }) ⟨b.proc,a.1.sts.length,false⟩).bind fun c =>
      if c.1.p.sees L ⟨#[101,108,115,101]⟩ then (blocksQ L f 0 (c.1.setp c.1.p.step) ⟨b.proc,a.1.sts.length,true⟩).map fun d=>(d.1,0) else some (c.1,0)
def blockQ (L:List Tk) (f:Nat) (σ:QSt) (b:Blk):Option (QSt × Nat):=blocksQ L f 0 σ b
def stmtsQ (L:List Tk) (f:Nat) (σ:QSt) (b:Blk):Option (QSt × Nat):=blocksQ L f 1 σ b
def statementQ (L:List Tk) (f:Nat) (σ:QSt) (b:Blk):Option (QSt × Nat):=blocksQ L f 2 σ b
def branchQ (L:List Tk) (f:Nat) (σ:QSt) (b:Blk):Option (QSt × Nat):=blocksQ L f 3 σ b
def loopQ (L:List Tk) (f:Nat) (σ:QSt) (b:Blk):Option (QSt × Nat):=(condQ L f (σ.setp (σ.p.take L ⟨#[119,104,105,108,101]⟩)) []).bind fun a=>(blockQ L f (a.1.add { newStm L σ b with kind:=3,vals:=a.2 }) ⟨b.proc,a.1.sts.length,false⟩).map fun c=>(c.1,0)
theorem blockQ_zero (L:List Tk) (σ:QSt) (b:Blk):blockQ L 0 σ b = none:=rfl
theorem stmtsQ_zero (L:List Tk) (σ:QSt) (b:Blk):stmtsQ L 0 σ b = none:=rfl
theorem statementQ_zero (L:List Tk) (σ:QSt) (b:Blk):statementQ L 0 σ b = none:=rfl
theorem branchQ_zero (L:List Tk) (σ:QSt) (b:Blk):branchQ L 0 σ b = none:=rfl
theorem blockQ_succ (L:List Tk) (f:Nat) (σ:QSt) (b:Blk):blockQ L (f + 1) σ b = (stmtsQ L f (σ.setp (enterP L σ.p ⟨#[123]⟩)) b).map fun τ=>(τ.1.setp (leaveP L τ.1.p ⟨#[125]⟩),(τ.1.p.ahead L 0).p):=rfl
theorem stmtsQ_succ (L:List Tk) (f:Nat) (σ:QSt) (b:Blk):stmtsQ L (f + 1) σ b = if σ.p.failed = false∧σ.p.sees L ⟨#[125]⟩ = false then (statementQ L f σ b).bind fun τ=>stmtsQ L f τ.1 b else some (σ,0):=rfl
theorem statementQ_succ (L:List Tk) (f:Nat) (σ:QSt) (b:Blk):statementQ L (f + 1) σ b =
    if (σ.p.ahead L 0).t = ⟨#[105,102]⟩ then branchQ L f σ b
    else if (σ.p.ahead L 0).t = ⟨#[119,104,105,108,101]⟩ then loopQ L f σ b
    else if (σ.p.ahead L 0).t = ⟨#[97,115,115,117,109,101]⟩ then (assumeQ L f σ (newStm L σ b)).map fun c=>(c,0)
    else if (σ.p.ahead L 0).t = ⟨#[97,99,113,117,105,114,101]⟩ then some (lockUseQ L σ { newStm L σ b with kind:=5 } (σ.p.ahead L 0).t,0)
    else if (σ.p.ahead L 0).t = ⟨#[114,101,108,101,97,115,101]⟩ then some (lockUseQ L σ { newStm L σ b with kind:=6 } (σ.p.ahead L 0).t,0)
    else if (σ.p.ahead L 0).t = ⟨#[114,101,116,117,114,110]⟩ then (giveBackQ L f σ (newStm L σ b)).map fun c=>(c,0)
    else if (σ.p.ahead L 0).t = ⟨#[115,107,105,112]⟩ then some (skipQ L σ (newStm L σ b),0)
    else (aocQ L f σ (newStm L σ b)).map fun c=>(c,0):=rfl
theorem branchQ_succ (L:List Tk) (f:Nat) (σ:QSt) (b:Blk):branchQ L (f + 1) σ b = (condQ L f (σ.setp (σ.p.take L ⟨#[105,102]⟩)) []).bind fun a =>
      (blockQ L f (a.1.add { newStm L σ b with kind:=2,vals:=a.2 }) ⟨b.proc,a.1.sts.length,false⟩).bind fun c =>
       if c.1.p.sees L ⟨#[101,108,115,101]⟩ then (blockQ L f (c.1.setp c.1.p.step) ⟨b.proc,a.1.sts.length,true⟩).map fun d=>(d.1,0) else some (c.1,0):=rfl
def procedureQ (L:List Tk) (f:Nat) (σ:QSt):Option QSt :=
 let a:=σ.p.take L ⟨#[112,114,111,99]⟩
 let d:=enterP L (({ a with proc:=wrap64 (a.proc + 1) }:PSt).takeName L 2) ⟨#[40]⟩
 (if d.sees L ⟨#[41]⟩ then some d else moreP L 3 f (d.takeName L 3)).bind fun e =>
  (blockQ L f (σ.setp (leaveP L e ⟨#[41]⟩)) ⟨(leaveP L e ⟨#[41]⟩).proc,-1,false⟩).map fun r=>r.1.add ⟨9,r.2,⟨(leaveP L e ⟨#[41]⟩).proc,-1,false⟩,-1,-1,[]⟩
def procsQ (L:List Tk):Nat→QSt→Option QSt
 | 0,_=>none
 | f + 1,σ=>if σ.p.sees L ⟨#[112,114,111,99]⟩ then (procedureQ L f σ).bind (procsQ L f) else some σ
def programQ (L:List Tk) (f:Nat) (σ:QSt):Option QSt :=
 (listP L f ⟨#[115,104,97,114,101,100]⟩ 0 σ.p).bind fun a=>(listP L f ⟨#[108,111,99,107,115]⟩ 1 a).bind fun b=>(procedureQ L f (σ.setp b)).bind fun c=>(procsQ L f c).bind fun d =>
  (moreP L 7 f ((d.p.take L ⟨#[116,104,114,101,97,100,115]⟩).takeName L 7)).map fun e=>d.setp (takeEndP L (e.take L ⟨#[59]⟩))
end RR
namespace RR
open Go Go.RowKit
structure Tru where
 own:Nat
 num:Int
structure PNd where
 sign:Nat
 tr:Tru
 left:Int
 right:Int
structure PLine where
 kind:Nat
 at_:Nat
 params:Int
 next:Int
 thn:Int
 els:Int
 target:Tru
 lock:Int
 proc:Int
 vals:List (Int × Int)
 choice:Bool
 r0:Bool
 r1:Bool
 r2:Bool
 r3:Bool
structure PProc where
 params:Int
 entry:Int
structure Plan where
 shared:Nat
 locks:Nat
 threads:List Int
 procs:List PProc
 lines:List PLine
 nodes:List PNd
def numF (word:ByteArray) (role:Nat):List Nm→Nat→Int
 | [],_=>-1
 | n :: r,k=>if n.role = role then (if n.word = word then (k:Int) else numF word role r (k + 1)) else numF word role r k
def parF (word:ByteArray) (proc:Int):List Nm→Nat→Int
 | [],_=>-1
 | n :: r,k=>if n.role = 3∧n.proc = proc then (if n.word = word then (k:Int) else parF word proc r (k + 1)) else parF word proc r k
def cntF (proc:Int):List Nm→Nat→Nat
 | [],k=>k
 | n :: r,k=>if n.role = 3∧n.proc = proc then cntF proc r (k + 1) else cntF proc r k
def truthF (ns:List Nm) (i:Int):Tru :=
 if 0 ≤ i∧i < ns.length then
  (if 0 ≤ numF (nmAt ns i.toNat).word 0 ns 0 then ⟨1,numF (nmAt ns i.toNat).word 0 ns 0⟩
   else if 0 ≤ parF (nmAt ns i.toNat).word (nmAt ns i.toNat).proc ns 0 then ⟨2,parF (nmAt ns i.toNat).word (nmAt ns i.toNat).proc ns 0⟩
   else ⟨0,0⟩)
 else ⟨0,0⟩
def nwordF (ns:List Nm) (i:Int):ByteArray:=if 0 ≤ i∧i < ns.length then (nmAt ns i.toNat).word else ⟨#[]⟩
def blkEq (a b:Blk):Bool:=decide (a.proc = b.proc) && (decide (a.owner = b.owner) && (a.els == b.els))
def firstInF (b:Blk) (frm:Int):List Stm→Nat→Option Nat
 | [],_=>none
 | s :: r,i=>if frm ≤ (i:Int) then (if blkEq s.blk b then some i else firstInF b frm r (i + 1)) else firstInF b frm r (i + 1)
def noStm:Stm:=⟨9,0,⟨0,0,false⟩,0,0,[]⟩
def stmAt (l:List Stm) (k:Nat):Stm:=l[k]?.getD noStm
def nextF (l:List Stm):Nat→Blk→Option Nat→Int→Int
 | 0,_,_,_=>0
 | _ + 1,_,some k,_=>(k:Int)
 | f + 1,b,none,last =>
  if 0 ≤ b.owner∧b.owner < last then
   (if (stmAt l b.owner.toNat).kind = 3 then b.owner
    else nextF l f (stmAt l b.owner.toNat).blk (firstInF (stmAt l b.owner.toNat).blk (b.owner + 1) l 0) b.owner)
  else 0
def comesF (l:List Stm) (b:Blk) (frm:Int):Int:=nextF l (l.length + 1) b (firstInF b frm l 0) l.length
def enteredF (l:List Stm) (b:Blk):Int:=comesF l b 0
def addNameF (ns:List Nm) (sts:List Stm) (p:Plan) (n:Nm):Plan :=
 if n.role = 0 then { p with shared:=p.shared + 1 }
 else if n.role = 1 then { p with locks:=p.locks + 1 }
 else if n.role = 2 then { p with procs:=p.procs ++ [⟨cntF n.proc ns 0,enteredF sts ⟨n.proc,-1,false⟩⟩] }
 else if n.role = 7 then { p with threads:=p.threads ++ [numF n.word 2 ns 0] }
 else p
def nodeF (ns:List Nm) (n:Nd):PNd:=⟨n.sign,truthF ns n.name,n.left,n.right⟩
def noNode:PNd:=⟨0,⟨0,0⟩,0,0⟩
def pnAt (l:List PNd) (k:Nat):PNd:=l[k]?.getD noNode
def PLine.read (a:PLine):Nat→PLine
 | 0=>{ a with r0:=true }
 | 1=>{ a with r1:=true }
 | 2=>{ a with r2:=true }
 | _=>{ a with r3:=true }
def look1 (a:PLine) (n:PNd):PLine :=
 let b:=if n.sign = 2 then { a with choice:=true } else a
 if n.tr.own = 1∧0 ≤ n.tr.num∧n.tr.num < 4 then b.read n.tr.num.toNat else b
def lookG (nodes:List PNd) (last:Int):Nat→Int→PLine→PLine
 | 0,_,a=>a
 | f + 1,i,a=>if 0 ≤ i∧i ≤ last∧i < nodes.length then lookG nodes last f (i + 1) (look1 a (pnAt nodes i.toNat)) else a
def lookF (nodes:List PNd) (a:PLine) (e:Int × Int):PLine:=lookG nodes e.2 (nodes.length + 1) e.1 a
def valF (nodes:List PNd) (a:PLine) (e:Int × Int):PLine:=lookF nodes { a with vals:=a.vals ++ [e] } e
def headF (ns:List Nm) (sts:List Stm) (i:Nat) (s:Stm):PLine :=
 let a:PLine:=⟨s.kind,s.at_,cntF s.blk.proc ns 0,comesF sts s.blk ((i:Int) + 1),0,0,truthF ns s.target,0,0,[],false,false,false,false,false⟩
 if s.kind = 2 then { a with thn:=enteredF sts ⟨s.blk.proc,i,false⟩,els:=enteredF sts ⟨s.blk.proc,i,true⟩ }
 else if s.kind = 3 then { a with thn:=enteredF sts ⟨s.blk.proc,i,false⟩,els:=a.next }
 else if s.kind = 5 ∨ s.kind = 6 then { a with lock:=numF (nwordF ns s.name) 1 ns 0 }
 else if s.kind = 1 then { a with proc:=numF (nwordF ns s.name) 2 ns 0 }
 else a
def lineF (ns:List Nm) (sts:List Stm) (nodes:List PNd) (i:Nat) (s:Stm):PLine:=s.vals.foldl (valF nodes) (headF ns sts i s)
def linesF (ns:List Nm) (sts:List Stm) (nodes:List PNd):List Stm→Nat→List PLine
 | [],_=>[]
 | s :: r,i=>lineF ns sts nodes i s :: linesF ns sts nodes r (i + 1)
def emptyPlan:Plan:=⟨0,0,[],[],[],[]⟩
def planF (ns:List Nm) (sts:List Stm) (nds:List Nd):Plan :=
 let p:=ns.foldl (addNameF ns sts) emptyPlan
 { p with nodes:=nds.map (nodeF ns),lines:=linesF ns sts (nds.map (nodeF ns)) sts 0 }
end RR
namespace Go.Proofs.YtmfcpbhdggonfaaGreatDoor
open Go.RowKit RR
def Flat (w:World) (ao:Option Addr) (xs:List Value):Prop:=xs = [] ∨ ∃ b o,b < w.heap.size∧ao = some ⟨b,o,none⟩∧w.rangeAt b o xs
theorem Flat.below {w w':World} {ao:Option Addr} {xs:List Value} (h:Flat w ao xs) (hb:Below w.heap.size w w'):Flat w' ao xs:=by
 rcases h with h | ⟨b,o,h1,h2,h3⟩
 ·exact .inl h
 ·exact .inr ⟨b,o,Nat.lt_of_lt_of_le h1 hb.size,h2,fun j v hv=>(hb.cell (p:=⟨b,o + j,none⟩) h1).trans (h3 j v hv)⟩
theorem flatMap_at {α:Type} (f:α→List Value) (n:Nat) (hn:∀ a,(f a).length = n):∀ (l:List α) (i:Nat) (h:i < l.length) (j:Nat),j < n→(l.flatMap f)[i * n + j]? = (f l[i])[j]?
 | [],i,h,j,hj=>by simp at h
 | a :: r,0,h,j,hj=>by
  rw [List.flatMap_cons,List.getElem?_append_left (by rw [hn]; omega)]
  simp
 | a :: r,i + 1,h,j,hj=>by
  rw [List.flatMap_cons,List.getElem?_append_right (by rw [hn,Nat.succ_mul]; omega)]
  have:=flatMap_at f n hn r i (by simpa using h) j hj
  rw [hn,Nat.succ_mul,show i * n + n + j - n = i * n + j by omega,this]
  simp
theorem Flat.get {α:Type} {f:α→List Value} {n:Nat} (hn:∀ a,(f a).length = n) (hp:0 < n) {w:World} {ao:Option Addr} {l:List α} (h:Flat w ao (l.flatMap f)) (i:Nat) (hi:i < l.length):∃ b o,b < w.heap.size∧ao = some ⟨b,o,none⟩∧w.rangeAt b (o + i * n) (f l[i]):=by
 rcases h with h | ⟨b,o,h1,h2,h3⟩
 ·have:=flatMap_at f n hn l i hi 0 hp
  have h2:(f l[i])[0]? = none:=by rw [← this,h]; rfl
  have h3:=List.getElem?_eq_none_iff.1 h2
  rw [hn] at h3
  omega
 ·refine ⟨b,o,h1,h2,fun j v hv=>?_⟩
  have hj:j < n:=by
   have:=(List.getElem?_eq_some_iff.1 hv).1
   rw [hn] at this
   exact this
  rw [show o + i * n + j = o + (i * n + j) by omega]
  exact h3 (i * n + j) v ((flatMap_at f n hn l i hi j hj).trans hv)
theorem flat_of_owns {w:World} {base:Nat} {e:TypeId} {size:Nat} {v:Value} {n:Nat} {xs:List Value} (h:w.ownsRow base e size v n xs):∃ ao cap,v = .slice ao n cap∧Flat w ao xs:=by
 obtain ⟨h1,h2 | ⟨g,cap,cur,hv,hb,hh,hcap,hmax,hsz,htk⟩⟩:=h
 ·refine ⟨none,0,?_,.inl ?_⟩
  ·rw [h2.1,h2.2]
  ·exact List.eq_nil_of_length_eq_zero (by rw [h1,h2.2,Nat.zero_mul])
 ·refine ⟨some ⟨g,0,none⟩,cap,hv,.inr ⟨g,0,(Array.getElem?_eq_some_iff.1 hh).1,rfl,fun j x hx=>?_⟩⟩
  have e2:(cur.toList.take (n * size))[j]? = xs[j]?:=by rw [htk]
  have hj:=(List.getElem?_eq_some_iff.1 hx).1
  rw [List.getElem?_take_of_lt (by omega),Array.getElem?_toList] at e2
  simp only [World.cell?,hh,Nat.zero_add]
  rw [e2,hx]
  rfl
def ndC (n:Nd):List Value:=[.int .i64 n.sign,.int .i64 n.name,.int .i64 n.left,.int .i64 n.right]
def exC (n:Int × Int):List Value:=[.int .i64 n.1,.int .i64 n.2]
def stC (x:Stm × Value):List Value:=[.int .i64 x.1.kind,.int .i64 x.1.at_,.int .i64 x.1.blk.proc,.int .i64 x.1.blk.owner,.bool x.1.blk.els,.int .i64 x.1.target,.int .i64 x.1.name,x.2]
def ExSl (w:World) (v:Value) (l:List (Int × Int)):Prop:=∃ ao cap,v = .slice ao l.length cap∧Flat w ao (l.flatMap exC)
def StSl (w:World) (ao:Option Addr) (sts:List Stm):Prop:=∃ l:List (Stm × Value),l.map Prod.fst = sts∧Flat w ao (l.flatMap stC)∧∀ x ∈ l,ExSl w x.2 x.1.vals
def NdSl (w:World) (ao:Option Addr) (l:List Nd):Prop:=Flat w ao (l.flatMap ndC)
theorem ExSl.below {w w':World} {v:Value} {l:List (Int × Int)} (h:ExSl w v l) (hb:Below w.heap.size w w'):ExSl w' v l:=by
 obtain ⟨ao,cap,h1,h2⟩:=h
 exact ⟨ao,cap,h1,h2.below hb⟩
theorem StSl.below {w w':World} {ao:Option Addr} {l:List Stm} (h:StSl w ao l) (hb:Below w.heap.size w w'):StSl w' ao l:=by
 obtain ⟨m,h1,h2,h3⟩:=h
 exact ⟨m,h1,h2.below hb,fun x hx=>(h3 x hx).below hb⟩
theorem NdSl.below {w w':World} {ao:Option Addr} {l:List Nd} (h:NdSl w ao l) (hb:Below w.heap.size w w'):NdSl w' ao l:=Flat.below h hb
end Go.Proofs.YtmfcpbhdggonfaaGreatDoor
