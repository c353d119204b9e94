/- Programs of a plain kind, token by token: statements, blocks, the whole. No Go here. -/
import Derived.Test.YtmfcpbhdggonfaaGreatDoorMiBF
namespace RR
open Go Go.RowKit
def IsSmp (v:Bool) (ts:List ByteArray):Prop:=(∃ e,IsExpr v e∧ts = tX :: tEq :: (e ++ [tSemi])) ∨ (∃ e,IsExpr v e∧ts = tY :: tEq :: (e ++ [tSemi])) ∨ (∃ e,IsExpr v e∧ts = tRet :: (e ++ [tSemi])) ∨ (∃ e,IsExpr v e∧ts = tAssume :: (e ++ [tSemi])) ∨ (∃ e,IsExpr v e∧ts = tX :: tEq :: tP :: tOpen :: (e ++ [tShut,tSemi])) ∨ (∃ e,IsExpr v e∧ts = tP :: tOpen :: (e ++ [tShut,tSemi])) ∨ ts = [tAcq,tM,tSemi] ∨ ts = [tAcq,tN,tSemi] ∨ ts = [tRel,tM,tSemi] ∨ ts = [tRel,tN,tSemi] ∨ ts = [tSkip,tSemi] ∨ ts = [tQ,tOpen,tShut,tSemi] ∨ ts = [tY,tEq,tQ,tOpen,tShut,tSemi]
theorem IsSmp.setX {v:Bool} {e:List ByteArray} (h:IsExpr v e):IsSmp v (tX :: tEq :: (e ++ [tSemi])):=(.inl ⟨e,h,rfl⟩)
theorem IsSmp.setY {v:Bool} {e:List ByteArray} (h:IsExpr v e):IsSmp v (tY :: tEq :: (e ++ [tSemi])):=(.inr (.inl ⟨e,h,rfl⟩))
theorem IsSmp.ret {v:Bool} {e:List ByteArray} (h:IsExpr v e):IsSmp v (tRet :: (e ++ [tSemi])):=(.inr (.inr (.inl ⟨e,h,rfl⟩)))
theorem IsSmp.assume {v:Bool} {e:List ByteArray} (h:IsExpr v e):IsSmp v (tAssume :: (e ++ [tSemi])):=(.inr (.inr (.inr (.inl ⟨e,h,rfl⟩))))
theorem IsSmp.setP {v:Bool} {e:List ByteArray} (h:IsExpr v e):IsSmp v (tX :: tEq :: tP :: tOpen :: (e ++ [tShut,tSemi])):=(.inr (.inr (.inr (.inr (.inl ⟨e,h,rfl⟩)))))
theorem IsSmp.callP {v:Bool} {e:List ByteArray} (h:IsExpr v e):IsSmp v (tP :: tOpen :: (e ++ [tShut,tSemi])):=(.inr (.inr (.inr (.inr (.inr (.inl ⟨e,h,rfl⟩))))))
theorem IsSmp.acqM {v:Bool}:IsSmp v [tAcq,tM,tSemi]:=(.inr (.inr (.inr (.inr (.inr (.inr (.inl rfl)))))))
theorem IsSmp.acqN {v:Bool}:IsSmp v [tAcq,tN,tSemi]:=(.inr (.inr (.inr (.inr (.inr (.inr (.inr (.inl rfl))))))))
theorem IsSmp.relM {v:Bool}:IsSmp v [tRel,tM,tSemi]:=(.inr (.inr (.inr (.inr (.inr (.inr (.inr (.inr (.inl rfl)))))))))
theorem IsSmp.relN {v:Bool}:IsSmp v [tRel,tN,tSemi]:=(.inr (.inr (.inr (.inr (.inr (.inr (.inr (.inr (.inr (.inl rfl))))))))))
theorem IsSmp.skip {v:Bool}:IsSmp v [tSkip,tSemi]:=(.inr (.inr (.inr (.inr (.inr (.inr (.inr (.inr (.inr (.inr (.inl rfl)))))))))))
theorem IsSmp.callQ {v:Bool}:IsSmp v [tQ,tOpen,tShut,tSemi]:=(.inr (.inr (.inr (.inr (.inr (.inr (.inr (.inr (.inr (.inr (.inr (.inl rfl))))))))))))
theorem IsSmp.setQ {v:Bool}:IsSmp v [tY,tEq,tQ,tOpen,tShut,tSemi]:=(.inr (.inr (.inr (.inr (.inr (.inr (.inr (.inr (.inr (.inr (.inr (.inr rfl))))))))))))
def BkW (st:List ByteArray→Prop) (ts:List ByteArray):Prop:=∃ l:List (List ByteArray),(∀ a ∈ l,st a)∧ts = tBO :: (l.flatten ++ [tBS])
def StW (v:Bool):Nat→List ByteArray→Prop
 | 0,ts=>IsSmp v ts
 | d + 1,ts=>IsSmp v ts ∨ (∃ e b,IsExpr v e∧BkW (StW v d) b∧ts = tIf :: tOpen :: (e ++ tShut :: b)) ∨ (∃ e b c,IsExpr v e∧BkW (StW v d) b∧BkW (StW v d) c∧ts = tIf :: tOpen :: (e ++ tShut :: (b ++ tElse :: c))) ∨ ∃ e b,IsExpr v e∧BkW (StW v d) b∧ts = tWhile :: tOpen :: (e ++ tShut :: b)
def Wr (v:Bool) (k d:Nat) (ts:List ByteArray):Prop:=if k = 0 then BkW (StW v d) ts else if k = 1 then ∃ l:List (List ByteArray),(∀ a ∈ l,StW v d a)∧ts = l.flatten else StW v d ts
theorem Wr.block {v:Bool} {d:Nat} {ts:List ByteArray} (h:Wr v 1 d ts):Wr v 0 d (tBO :: (ts ++ [tBS])):=by
 obtain ⟨l,h1,rfl⟩:=h
 exact ⟨l,h1,rfl⟩
theorem Wr.nil {v:Bool} {d:Nat}:Wr v 1 d []:=⟨[],(fun _ h=>by cases h),rfl⟩
theorem Wr.cons {v:Bool} {d:Nat} {a b:List ByteArray} (h:Wr v 2 d a) (k:Wr v 1 d b):Wr v 1 d (a ++ b):=by
 obtain ⟨l,h1,rfl⟩:=k
 refine ⟨a :: l,fun x hx=>?_,rfl⟩
 rcases List.mem_cons.1 hx with e | e
 ·rw [e]; exact h
 ·exact h1 x e
theorem Wr.simple {v:Bool} {d:Nat} {ts:List ByteArray} (h:IsSmp v ts):Wr v 2 d ts:=by
 cases d with
 | zero=>exact h
 | succ d=>exact .inl h
theorem Wr.one {v:Bool} {d:Nat} {e b:List ByteArray} (h:IsExpr v e) (k:Wr v 0 d b):Wr v 2 (d + 1) (tIf :: tOpen :: (e ++ tShut :: b)):=.inr (.inl ⟨e,b,h,k,rfl⟩)
theorem Wr.two {v:Bool} {d:Nat} {e b c:List ByteArray} (h:IsExpr v e) (k:Wr v 0 d b) (l:Wr v 0 d c):Wr v 2 (d + 1) (tIf :: tOpen :: (e ++ tShut :: (b ++ tElse :: c))):=.inr (.inr (.inl ⟨e,b,c,h,k,l,rfl⟩))
theorem Wr.loop {v:Bool} {d:Nat} {e b:List ByteArray} (h:IsExpr v e) (k:Wr v 0 d b):Wr v 2 (d + 1) (tWhile :: tOpen :: (e ++ tShut :: b)):=.inr (.inr (.inr ⟨e,b,h,k,rfl⟩))
theorem smp_first {v:Bool} {a:List ByteArray} (h:IsSmp v a):∃ t r,a = t :: r∧(t = tElse→False)∧(t = tBS→False):=by
 rcases h with ⟨e,h,rfl⟩ | ⟨e,h,rfl⟩ | ⟨e,h,rfl⟩ | ⟨e,h,rfl⟩ | ⟨e,h,rfl⟩ | ⟨e,h,rfl⟩ | rfl | rfl | rfl | rfl | rfl | rfl | rfl <;> exact ⟨_,_,rfl,by decide,by decide⟩
theorem wr_first {v:Bool} {d:Nat} {a:List ByteArray} (h:StW v d a):∃ t r,a = t :: r∧(t = tElse→False)∧(t = tBS→False):=by
 cases d with
 | zero=>exact smp_first h
 | succ d =>
  rcases h with h | ⟨e,b,_,_,rfl⟩ | ⟨e,b,c,_,_,_,rfl⟩ | ⟨e,b,_,_,rfl⟩
  ·exact smp_first h
  ·exact ⟨_,_,rfl,by decide,by decide⟩
  ·exact ⟨_,_,rfl,by decide,by decide⟩
  ·exact ⟨_,_,rfl,by decide,by decide⟩
theorem nameX:isNameB tX = true:=by kernel_rfl
theorem nameY:isNameB tY = true:=by kernel_rfl
theorem nameM:isNameB tM = true:=by kernel_rfl
theorem nameN:isNameB tN = true:=by kernel_rfl
theorem nameP:isNameB tP = true:=by kernel_rfl
theorem nameQ:isNameB tQ = true:=by kernel_rfl
theorem nameV:isNameB tV = true:=by kernel_rfl
theorem bracket_reads {v:Bool} {L:List Tk} {σ:PSt} {e:List ByteArray} (f:Nat) (hf:σ.failed = false) (h:Lies L σ.next (tOpen :: (e ++ [tShut]))) (he:IsExpr v e) (h0:0 ≤ σ.depth) (h5:σ.depth < 5):∃ σ',bracketedP L (f + 13) σ = some σ'∧Ad v (e.length + 2) σ σ':=by
 have hd:(σ.deep (σ.depth + 1)).depth = σ.depth + 1:=rfl
 obtain ⟨σ1,e1,a1⟩:=expr_reads (v:=v) (σ:=σ.deep (σ.depth + 1)) f hf (u:=tShut) h.2 (by decide) (by decide) he (by rw [hd]; omega) (by rw [hd]; omega)
 have hs:tAt L σ1.next = tShut:=by rw [a1.next]; exact (lies_app.1 h.2).2.1
 have hd1:σ1.depth = σ.depth + 1:=a1.depth
 refine ⟨_,?_,a1.bracket⟩
 rw [bracketedP_succ,enter_is hf h.1 h0 (by omega),e1]
 show some (leaveP L σ1 ⟨#[41]⟩) = _
 rw [leave_is a1.ok hs (by omega) (by omega)]
theorem Ad.call {v:Bool} {n:Nat} {σ σ1:PSt} {c:Cl} (h:Ad v n σ σ1) (hc:ClOk c):Ad v n σ { σ1 with calls:=σ1.calls ++ [c] }:=by
 obtain ⟨cs,e3,p3⟩:=h.calls
 refine ⟨h.next,h.ok,h.depth,h.proc,h.names,⟨cs ++ [c],by show σ1.calls ++ [c] = _; rw [e3,List.append_assoc],fun x hx=>?_⟩,h.len⟩
 rcases List.mem_append.1 hx with hx | hx
 ·exact p3 x hx
 ·rw [List.mem_singleton.1 hx]; exact hc
theorem Ad.take {v:Bool} {L:List Tk} {n:Nat} {σ σ1:PSt} {t:ByteArray} (h:Ad v n σ σ1) (ht:tAt L (σ.next + n) = t):Ad v (n + 1) σ (σ1.take L t):=by
 rw [take_is h.ok (by rw [h.next]; exact ht)]
 exact h.trans (Ad.step v h.ok)
theorem Ad.nm {v:Bool} {L:List Tk} {n:Nat} {σ σ1:PSt} {t:ByteArray} {role:Nat} (h:Ad v n σ σ1) (ht:tAt L (σ.next + n) = t) (hn:isNameB t = true) (hu:∀ q,UseOk v σ.proc ⟨t,q,role,σ.proc⟩):Ad v (n + 1) σ (σ1.takeName L role) :=
 h.trans (Ad.name h.ok (by rw [h.next]; exact ht) hn (by rw [h.proc]; exact hu))
theorem call0_reads {v:Bool} {L:List Tk} {σ:PSt} (f:Nat) (hf:σ.failed = false) (h:Lies L σ.next [tQ,tOpen,tShut]) (h0:0 ≤ σ.depth) (h6:σ.depth < 6):∃ σ',callP L f σ = some σ'∧Ad v 3 σ σ':=by
 have a1:Ad v 1 σ (σ.takeName L 6):=Ad.name hf h.1 nameQ fun q=>⟨rfl,.inr (.inr ⟨rfl,.inr rfl⟩)⟩
 unfold callP
 rw [ahead_is hf h.1]
 generalize σ.takeName L 6 = σ1 at *
 have hO:tAt L σ1.next = tOpen:=by rw [a1.next]; exact h.2.1
 rw [enter_is a1.ok hO (by rw [a1.depth]; exact h0) (by rw [a1.depth]; exact h6)]
 have hS:tAt L (σ1.deep (σ1.depth + 1)).next = tShut:=by show tAt L (σ1.next + 1) = tShut; rw [a1.next]; exact h.2.2.1
 have ok2:(σ1.deep (σ1.depth + 1)).failed = false:=a1.ok
 have hd2:(σ1.deep (σ1.depth + 1)).depth = σ1.depth + 1:=rfl
 rw [sees_at ok2 hS,decide_eq_true rfl,if_pos rfl]
 have a2:Ad v 0 (σ1.deep (σ1.depth + 1)) (σ1.deep (σ1.depth + 1)):=Ad.refl v ok2
 refine ⟨_,rfl,?_⟩
 simp only []
 rw [leave_is ok2 hS (by rw [hd2,a1.depth]; omega) (by rw [hd2,a1.depth]; omega)]
 exact ((a1.trans a2.bracket).of_eq rfl).call (.inr ⟨rfl,rfl⟩)
theorem call1_reads {v:Bool} {L:List Tk} {σ:PSt} {e:List ByteArray} (f:Nat) (hf:σ.failed = false) (h:Lies L σ.next (tP :: tOpen :: (e ++ [tShut]))) (he:IsExpr v e) (h0:0 ≤ σ.depth) (h5:σ.depth < 5):∃ σ',callP L (f + 12) σ = some σ'∧Ad v (e.length + 3) σ σ':=by
 have a1:Ad v 1 σ (σ.takeName L 6):=Ad.name hf h.1 nameP fun q=>⟨rfl,.inr (.inr ⟨rfl,.inl rfl⟩)⟩
 unfold callP
 rw [ahead_is hf h.1]
 generalize σ.takeName L 6 = σ1 at *
 have hO:tAt L σ1.next = tOpen:=by rw [a1.next]; exact h.2.1
 rw [enter_is a1.ok hO (by rw [a1.depth]; exact h0) (by rw [a1.depth]; omega)]
 have ok2:(σ1.deep (σ1.depth + 1)).failed = false:=a1.ok
 have hd2:(σ1.deep (σ1.depth + 1)).depth = σ1.depth + 1:=rfl
 have hn2:(σ1.deep (σ1.depth + 1)).next = σ.next + 1 + 1:=by show σ1.next + 1 = _; rw [a1.next]
 have hin:Lies L (σ1.deep (σ1.depth + 1)).next (e ++ [tShut]):=by rw [hn2]; exact h.2.2
 obtain ⟨t,r,et,ht,_⟩:=expr_first he
 have hS:tAt L (σ1.deep (σ1.depth + 1)).next = t:=by have:=hin; rw [et] at this; exact this.1
 rw [sees_at ok2 hS,decide_eq_false ht]
 obtain ⟨σ3,e3,a3⟩:=expr_reads (v:=v) f ok2 (u:=tShut) hin (by decide) (by decide) he (by rw [hd2,a1.depth]; omega) (by rw [hd2,a1.depth]; omega)
 rw [if_neg (by decide),e3]
 have hE:tAt L σ3.next = tShut:=by rw [a3.next]; exact (lies_app.1 hin).2.1
 have hv:valuesP L (f + 12) σ3 1 = some (σ3,1):=by rw [valuesP,sees_at a3.ok hE,decide_eq_false (by decide)]; rfl
 show ∃ σ',((valuesP L (f + 12) σ3 1).map _) = some σ'∧_
 rw [hv]
 have hd3:σ3.depth = σ.depth + 1:=by rw [a3.depth,hd2,a1.depth]
 refine ⟨_,rfl,?_⟩
 simp only []
 rw [leave_is a3.ok hE (by omega) (by omega)]
 exact ((a1.trans a3.bracket).of_eq (by omega)).call (.inl ⟨rfl,rfl⟩)
theorem smp_reads {v:Bool} {L:List Tk} {σ:PSt} {ts:List ByteArray} (f:Nat) (hs:IsSmp v ts) (hf:σ.failed = false) (h:Lies L σ.next ts) (h0:0 ≤ σ.depth) (h4:σ.depth < 5):∃ σ',statementP L (f + 20) σ = some σ'∧Ad v ts.length σ σ':=by
 rw [statementP_succ]
 have set1:∀ {t:ByteArray} {e:List ByteArray},isNameB t = true→(t = tX ∨ t = tY)→Lies L σ.next (t :: tEq :: (e ++ [tSemi]))→IsExpr v e→∃ σ',assignOrCallP L (f + 19) σ = some σ'∧Ad v (e.length + 3) σ σ':=by
  intro t e hn ht h he
  unfold assignOrCallP
  have hc:σ.seesCall L = false:=by unfold PSt.seesCall; rw [ahead_t hf,ahead_t hf,show tAt L (σ.next + 1) = tEq from h.2.1,decide_eq_false (by decide),Bool.and_false]
  rw [hc,if_neg (by decide)]
  have a1:Ad v 2 σ ((σ.takeName L 4).take L ⟨#[61]⟩):=(Ad.name hf h.1 hn fun q=>⟨rfl,.inl ⟨rfl,ht.elim .inl fun x=>.inr (.inl x)⟩⟩).take h.2.1
  generalize (σ.takeName L 4).take L ⟨#[61]⟩ = σ1 at *
  have hin:Lies L σ1.next (e ++ [tSemi]):=by rw [a1.next]; exact h.2.2
  unfold assignedP
  rw [expr_nocall a1.ok hin he,if_neg (by decide)]
  obtain ⟨σ2,e2,a2⟩:=expr_reads (v:=v) (f + 7) a1.ok hin (by decide) (by decide) he (by rw [a1.depth]; exact h0) (by rw [a1.depth]; omega)
  rw [e2]
  exact ⟨_,rfl,((a1.trans (a2.take (lies_app.1 hin).2.1))).of_eq (by omega)⟩
 rcases hs with ⟨e,he,rfl⟩ | ⟨e,he,rfl⟩ | ⟨e,he,rfl⟩ | ⟨e,he,rfl⟩ | ⟨e,he,rfl⟩ | ⟨e,he,rfl⟩ | rfl | rfl | rfl | rfl | rfl | rfl | rfl
 ·rw [ahead_is hf h.1]
  obtain ⟨σ',e1,a1⟩:=set1 nameX (.inl rfl) h he
  exact ⟨σ',e1,a1.of_eq (by simp only [List.length_cons,List.length_append,List.length_nil])⟩
 ·rw [ahead_is hf h.1]
  obtain ⟨σ',e1,a1⟩:=set1 nameY (.inr rfl) h he
  exact ⟨σ',e1,a1.of_eq (by simp only [List.length_cons,List.length_append,List.length_nil])⟩
 ·rw [ahead_is hf h.1]
  show ∃ σ',giveBackP L (f + 19) σ = some σ'∧_
  unfold giveBackP
  have a1:=(Ad.refl v hf).take h.1
  generalize σ.take L ⟨#[114,101,116,117,114,110]⟩ = σ1 at *
  have hin:Lies L σ1.next (e ++ [tSemi]):=by rw [a1.next]; exact h.2
  obtain ⟨t,r,et,_,ht⟩:=expr_first he
  have hS:tAt L σ1.next = t:=by have:=hin; rw [et] at this; exact this.1
  rw [sees_at a1.ok hS,decide_eq_false ht,if_neg (by decide)]
  obtain ⟨σ2,e2,a2⟩:=expr_reads (v:=v) (f + 7) a1.ok hin (by decide) (by decide) he (by rw [a1.depth]; exact h0) (by rw [a1.depth]; omega)
  rw [e2]
  exact ⟨_,rfl,((a1.trans (a2.take (lies_app.1 hin).2.1))).of_eq (by simp only [List.length_cons,List.length_append,List.length_nil]; omega)⟩
 ·rw [ahead_is hf h.1]
  show ∃ σ',((exprP L (f + 19) (σ.take L ⟨#[97,115,115,117,109,101]⟩)).map fun τ=>τ.take L ⟨#[59]⟩) = some σ'∧_
  have a1:=(Ad.refl v hf).take h.1
  generalize σ.take L ⟨#[97,115,115,117,109,101]⟩ = σ1 at *
  have hin:Lies L σ1.next (e ++ [tSemi]):=by rw [a1.next]; exact h.2
  obtain ⟨σ2,e2,a2⟩:=expr_reads (v:=v) (f + 7) a1.ok hin (by decide) (by decide) he (by rw [a1.depth]; exact h0) (by rw [a1.depth]; omega)
  rw [e2]
  exact ⟨_,rfl,((a1.trans (a2.take (lies_app.1 hin).2.1))).of_eq (by simp only [List.length_cons,List.length_append,List.length_nil]; omega)⟩
 ·rw [ahead_is hf h.1]
  show ∃ σ',assignOrCallP L (f + 19) σ = some σ'∧_
  unfold assignOrCallP
  have hc:σ.seesCall L = false:=by unfold PSt.seesCall; rw [ahead_t hf,ahead_t hf,show tAt L (σ.next + 1) = tEq from h.2.1,decide_eq_false (by decide),Bool.and_false]
  rw [hc,if_neg (by decide)]
  have a1:Ad v 2 σ ((σ.takeName L 4).take L ⟨#[61]⟩):=(Ad.name hf h.1 nameX fun q=>⟨rfl,.inl ⟨rfl,.inl rfl⟩⟩).take h.2.1
  generalize (σ.takeName L 4).take L ⟨#[61]⟩ = σ1 at *
  have hin:Lies L σ1.next ((tP :: tOpen :: (e ++ [tShut])) ++ [tSemi]):=by rw [a1.next]; simpa using h.2.2
  obtain ⟨hi1,hi2⟩:=lies_app.1 hin
  have hc1:σ1.seesCall L = true:=by unfold PSt.seesCall; rw [ahead_t a1.ok,ahead_t a1.ok,show tAt L (σ1.next + 1) = tOpen from hi1.2.1,show tAt L (σ1.next + 0) = tP from hi1.1,nameP]; rfl
  unfold assignedP
  rw [hc1,if_pos rfl]
  obtain ⟨σ2,e2,a2⟩:=call1_reads (v:=v) (f + 7) a1.ok hi1 he (by rw [a1.depth]; exact h0) (by rw [a1.depth]; omega)
  rw [e2]
  have hE:tAt L (σ1.next + (e.length + 3)) = tSemi:=by have:=hi2.1; simp only [List.length_cons,List.length_append,List.length_nil] at this; exact this
  exact ⟨_,rfl,((a1.trans (a2.take hE))).of_eq (by simp only [List.length_cons,List.length_append,List.length_nil]; omega)⟩
 ·rw [ahead_is hf h.1]
  show ∃ σ',assignOrCallP L (f + 19) σ = some σ'∧_
  unfold assignOrCallP
  have hc:σ.seesCall L = true:=by unfold PSt.seesCall; rw [ahead_t hf,ahead_t hf,show tAt L (σ.next + 1) = tOpen from h.2.1,show tAt L (σ.next + 0) = tP from h.1,nameP]; rfl
  rw [hc,if_pos rfl]
  have hin:Lies L σ.next ((tP :: tOpen :: (e ++ [tShut])) ++ [tSemi]):=by simpa using h
  obtain ⟨hi1,hi2⟩:=lies_app.1 hin
  obtain ⟨σ2,e2,a2⟩:=call1_reads (v:=v) (f + 7) hf hi1 he h0 h4
  rw [e2]
  have hE:tAt L (σ.next + (e.length + 3)) = tSemi:=by have:=hi2.1; simp only [List.length_cons,List.length_append,List.length_nil] at this; exact this
  exact ⟨_,rfl,(a2.take hE).of_eq (by simp only [List.length_cons,List.length_append,List.length_nil])⟩
 ·rw [ahead_is hf h.1]
  refine ⟨_,rfl,?_⟩
  exact ((((Ad.refl v hf).take h.1).nm h.2.1 nameM fun q=>⟨rfl,.inr (.inl ⟨rfl,.inl rfl⟩)⟩).take h.2.2.1)
 ·rw [ahead_is hf h.1]
  refine ⟨_,rfl,?_⟩
  exact ((((Ad.refl v hf).take h.1).nm h.2.1 nameN fun q=>⟨rfl,.inr (.inl ⟨rfl,.inr rfl⟩)⟩).take h.2.2.1)
 ·rw [ahead_is hf h.1]
  refine ⟨_,rfl,?_⟩
  exact ((((Ad.refl v hf).take h.1).nm h.2.1 nameM fun q=>⟨rfl,.inr (.inl ⟨rfl,.inl rfl⟩)⟩).take h.2.2.1)
 ·rw [ahead_is hf h.1]
  refine ⟨_,rfl,?_⟩
  exact ((((Ad.refl v hf).take h.1).nm h.2.1 nameN fun q=>⟨rfl,.inr (.inl ⟨rfl,.inr rfl⟩)⟩).take h.2.2.1)
 ·rw [ahead_is hf h.1]
  refine ⟨_,rfl,?_⟩
  exact (((Ad.refl v hf).take h.1).take h.2.1)
 ·rw [ahead_is hf h.1]
  show ∃ σ',assignOrCallP L (f + 19) σ = some σ'∧_
  unfold assignOrCallP
  have hc:σ.seesCall L = true:=by unfold PSt.seesCall; rw [ahead_t hf,ahead_t hf,show tAt L (σ.next + 1) = tOpen from h.2.1,show tAt L (σ.next + 0) = tQ from h.1,nameQ]; rfl
  rw [hc,if_pos rfl]
  obtain ⟨σ1,e1,a1⟩:=call0_reads (v:=v) (f + 19) hf ⟨h.1,h.2.1,h.2.2.1,trivial⟩ h0 (by omega)
  rw [e1]
  exact ⟨_,rfl,a1.take h.2.2.2.1⟩
 ·rw [ahead_is hf h.1]
  show ∃ σ',assignOrCallP L (f + 19) σ = some σ'∧_
  unfold assignOrCallP
  have hc:σ.seesCall L = false:=by unfold PSt.seesCall; rw [ahead_t hf,ahead_t hf,show tAt L (σ.next + 1) = tEq from h.2.1,decide_eq_false (by decide),Bool.and_false]
  rw [hc,if_neg (by decide)]
  have a1:Ad v 2 σ ((σ.takeName L 4).take L ⟨#[61]⟩):=(Ad.name hf h.1 nameY fun q=>⟨rfl,.inl ⟨rfl,.inr (.inl rfl)⟩⟩).take h.2.1
  generalize (σ.takeName L 4).take L ⟨#[61]⟩ = σ1 at *
  have hin:Lies L σ1.next ([tQ,tOpen,tShut] ++ [tSemi]):=by rw [a1.next]; exact h.2.2
  obtain ⟨hi1,hi2⟩:=lies_app.1 hin
  have hc1:σ1.seesCall L = true:=by unfold PSt.seesCall; rw [ahead_t a1.ok,ahead_t a1.ok,show tAt L (σ1.next + 1) = tOpen from hi1.2.1,show tAt L (σ1.next + 0) = tQ from hi1.1,nameQ]; rfl
  unfold assignedP
  rw [hc1,if_pos rfl]
  obtain ⟨σ2,e2,a2⟩:=call0_reads (v:=v) (f + 19) a1.ok hi1 (by rw [a1.depth]; exact h0) (by rw [a1.depth]; omega)
  rw [e2]
  exact ⟨_,rfl,(a1.trans (a2.take hi2.1))⟩
def Rd (v:Bool) (L:List Tk) (k d:Nat) (ts:List ByteArray):Prop:=∀ (f:Nat) (σ:PSt),σ.failed = false→0 ≤ σ.depth→σ.depth + d + (if k = 0 then 3 else 2) ≤ 6→ts.length + (if k = 1 then 21 else 20) ≤ f→Lies L σ.next ts→(k = 1→tAt L (σ.next + ts.length) = tBS)→(k = 2→tAt L (σ.next + ts.length) = tElse→False)→∃ σ',blocksP L f k σ = some σ'∧Ad v ts.length σ σ'
theorem rd_block {v:Bool} {L:List Tk} {d:Nat} {ts:List ByteArray} (ih:Rd v L 1 d ts):Rd v L 0 d (tBO :: (ts ++ [tBS])):=by
 intro f σ hf h0 hd hl hL _ _
 rw [if_neg (by decide)] at hl
 rw [if_pos rfl] at hd
 obtain ⟨g,rfl⟩:∃ g,f = g + 1:=⟨f - 1,by omega⟩
 have hd1:(σ.deep (σ.depth + 1)).depth = σ.depth + 1:=rfl
 have hn1:(σ.deep (σ.depth + 1)).next = σ.next + 1:=rfl
 have hS:tAt L (σ.next + 1 + ts.length) = tBS:=(lies_app.1 hL.2).2.1
 have hlen:(tBO :: (ts ++ [tBS])).length = ts.length + 2:=by simp only [List.length_cons,List.length_append,List.length_nil]
 rw [hlen] at hl ⊢
 obtain ⟨σ1,e1,a1⟩:=ih g (σ.deep (σ.depth + 1)) hf (by rw [hd1]; omega) (by rw [hd1,if_neg (by decide)]; omega) (by rw [if_pos rfl]; omega) (lies_app.1 hL.2).1 (fun _=>hS) (fun h=>absurd h (by decide))
 refine ⟨_,?_,a1.bracket⟩
 show blockP L (g + 1) σ = _
 rw [blockP_succ,enter_is hf hL.1 h0 (by omega)]
 show (blocksP L g 1 (σ.deep (σ.depth + 1))).map _ = _
 rw [e1]
 show some (leaveP L σ1 ⟨#[125]⟩) = _
 rw [leave_is a1.ok (by rw [a1.next,hn1]; exact hS) (by rw [a1.depth,hd1]; omega) (by rw [a1.depth,hd1]; omega)]
theorem rd_nil {v:Bool} {L:List Tk} {d:Nat}:Rd v L 1 d []:=by
 intro f σ hf h0 hd hl hL hE _
 rw [if_pos rfl] at hl
 obtain ⟨g,rfl⟩:∃ g,f = g + 1:=⟨f - 1,by omega⟩
 refine ⟨σ,?_,Ad.refl v hf⟩
 show stmtsP L (g + 1) σ = _
 rw [stmtsP_succ,sees_at hf (hE rfl),if_neg (by intro h; exact absurd h.2 (by decide))]
theorem rd_cons {v:Bool} {L:List Tk} {d:Nat} {a b:List ByteArray} (h1:∃ t r,a = t :: r∧(t = tElse→False)∧(t = tBS→False)) (h2:b = [] ∨ ∃ t r,b = t :: r∧(t = tElse→False)) (ih1:Rd v L 2 d a) (ih2:Rd v L 1 d b):Rd v L 1 d (a ++ b):=by
 intro f σ hf h0 hd hl hL hE _
 rw [if_pos rfl] at hl
 rw [if_neg (by decide)] at hd
 obtain ⟨g,rfl⟩:∃ g,f = g + 1:=⟨f - 1,by omega⟩
 obtain ⟨hL1,hL2⟩:=lies_app.1 hL
 rw [List.length_append] at hl hE ⊢
 obtain ⟨t,r,et,_,ht2⟩:=h1
 have hlen:a.length = r.length + 1:=by rw [et]; rfl
 have hE:=hE rfl
 have ht:tAt L σ.next = t:=by have:=hL1; rw [et] at this; exact this.1
 have hel:tAt L (σ.next + a.length) = tElse→False:=by
  rcases h2 with h2 | ⟨t2,r2,et2,ht3⟩
  ·subst h2
   intro q
   rw [show σ.next + (a.length + ([]:List ByteArray).length) = σ.next + a.length by simp] at hE
   rw [hE] at q; exact absurd q (by decide)
  ·rw [et2] at hL2
   intro q
   exact ht3 (hL2.1.symm.trans q)
 obtain ⟨σ1,e1,a1⟩:=ih1 g σ hf h0 (by rw [if_neg (by decide)]; exact hd) (by rw [if_neg (by decide)]; omega) hL1 (fun h=>absurd h (by decide)) (fun _=>hel)
 obtain ⟨σ2,e2,a2⟩:=ih2 g σ1 a1.ok (by rw [a1.depth]; exact h0) (by rw [a1.depth,if_neg (by decide)]; exact hd) (by rw [if_pos rfl]; omega) (by rw [a1.next]; exact hL2) (fun _=>by rw [a1.next,← hE]; congr 1; omega) (fun h=>absurd h (by decide))
 refine ⟨σ2,?_,a1.trans a2⟩
 show stmtsP L (g + 1) σ = _
 rw [stmtsP_succ,sees_at hf ht,decide_eq_false ht2,if_pos ⟨hf,rfl⟩]
 show (blocksP L g 2 σ).bind (stmtsP L g) = _
 rw [e1]; exact e2
theorem rd_simple {v:Bool} {L:List Tk} {d:Nat} {ts:List ByteArray} (hs:IsSmp v ts):Rd v L 2 d ts:=by
 intro f σ hf h0 hd hl hL _ _
 rw [if_neg (by decide)] at hl
 rw [if_neg (by decide)] at hd
 obtain ⟨g,rfl⟩:∃ g,f = g + 20:=⟨f - 20,by omega⟩
 exact smp_reads g hs hf hL h0 (by omega)
theorem rd_one {v:Bool} {L:List Tk} {d:Nat} {e b:List ByteArray} (he:IsExpr v e) (ih:Rd v L 0 d b):Rd v L 2 (d + 1) (tIf :: tOpen :: (e ++ tShut :: b)):=by
 intro f σ hf h0 hd hl hL _ hE
 rw [if_neg (by decide)] at hl
 rw [if_neg (by decide)] at hd
 obtain ⟨g,rfl⟩:∃ g,f = g + 2:=⟨f - 2,by omega⟩
 have hlen:(tIf :: tOpen :: (e ++ tShut :: b)).length = e.length + b.length + 3:=by simp only [List.length_cons,List.length_append]; omega
 rw [hlen] at hl hE ⊢
 have a0:=(Ad.refl v hf).take hL.1
 have hbr:Lies L (σ.next + 1) ((tOpen :: (e ++ [tShut])) ++ b):=by simpa using hL.2
 obtain ⟨hL1,hL2⟩:=lies_app.1 hbr
 have hl1:(tOpen :: (e ++ [tShut])).length = e.length + 2:=by simp only [List.length_cons,List.length_append,List.length_nil]
 rw [hl1] at hL2
 obtain ⟨g',rfl⟩:∃ g',g = g' + 13:=⟨g - 13,by omega⟩
 obtain ⟨σ1,e1,a1⟩:=bracket_reads (v:=v) g' a0.ok (by rw [a0.next]; exact hL1) he (by rw [a0.depth]; exact h0) (by rw [a0.depth]; omega)
 have a1:=a0.trans a1
 obtain ⟨σ2,e2,a2⟩:=ih (g' + 13) σ1 a1.ok (by rw [a1.depth]; exact h0) (by rw [a1.depth,if_pos rfl]; omega) (by rw [if_neg (by decide)]; omega) (by rw [a1.next,show σ.next + (0 + 1 + (e.length + 2)) = σ.next + 1 + (e.length + 2) by omega]; exact hL2) (fun h=>absurd h (by decide)) (fun h=>absurd h (by decide))
 have a3:=(a1.trans a2).of_eq (m:=e.length + b.length + 3) (by omega)
 refine ⟨σ2,?_,a3⟩
 show statementP L (g' + 13 + 2) σ = _
 rw [statementP_succ,ahead_is hf hL.1]
 show branchP L (g' + 13 + 1) σ = _
 rw [branchP_succ,e1]
 show (blocksP L (g' + 13) 0 σ1).bind _ = _
 rw [e2]
 show (if σ2.sees L ⟨#[101,108,115,101]⟩ then _ else some σ2) = _
 rw [sees_at a3.ok (t:=tAt L (σ.next + (e.length + b.length + 3))) (by rw [a3.next]),decide_eq_false (hE rfl)]
 rfl
theorem rd_two {v:Bool} {L:List Tk} {d:Nat} {e b c:List ByteArray} (he:IsExpr v e) (ih:Rd v L 0 d b) (ihc:Rd v L 0 d c):Rd v L 2 (d + 1) (tIf :: tOpen :: (e ++ tShut :: (b ++ tElse :: c))):=by
 intro f σ hf h0 hd hl hL _ hE
 rw [if_neg (by decide)] at hl
 rw [if_neg (by decide)] at hd
 obtain ⟨g,rfl⟩:∃ g,f = g + 2:=⟨f - 2,by omega⟩
 have hlen:(tIf :: tOpen :: (e ++ tShut :: (b ++ tElse :: c))).length = e.length + b.length + c.length + 4:=by simp only [List.length_cons,List.length_append]; omega
 rw [hlen] at hl hE ⊢
 have a0:=(Ad.refl v hf).take hL.1
 have hbr:Lies L (σ.next + 1) ((tOpen :: (e ++ [tShut])) ++ (b ++ tElse :: c)):=by simpa using hL.2
 obtain ⟨hL1,hL2⟩:=lies_app.1 hbr
 have hl1:(tOpen :: (e ++ [tShut])).length = e.length + 2:=by simp only [List.length_cons,List.length_append,List.length_nil]
 rw [hl1] at hL2
 obtain ⟨hL3,hL4⟩:=lies_app.1 hL2
 obtain ⟨g',rfl⟩:∃ g',g = g' + 13:=⟨g - 13,by omega⟩
 obtain ⟨σ1,e1,a1⟩:=bracket_reads (v:=v) g' a0.ok (by rw [a0.next]; exact hL1) he (by rw [a0.depth]; exact h0) (by rw [a0.depth]; omega)
 have a1:=a0.trans a1
 obtain ⟨σ2,e2,a2⟩:=ih (g' + 13) σ1 a1.ok (by rw [a1.depth]; exact h0) (by rw [a1.depth,if_pos rfl]; omega) (by rw [if_neg (by decide)]; omega) (by rw [a1.next,show σ.next + (0 + 1 + (e.length + 2)) = σ.next + 1 + (e.length + 2) by omega]; exact hL3) (fun h=>absurd h (by decide)) (fun h=>absurd h (by decide))
 have a3:=(a1.trans a2).of_eq (m:=e.length + b.length + 3) (by omega)
 have hel:tAt L σ2.next = tElse:=by rw [a3.next,← hL4.1]; congr 1; omega
 have a4:=a3.trans (Ad.step v a3.ok)
 obtain ⟨σ3,e3,a5⟩:=ihc (g' + 13) σ2.step a4.ok (by rw [a4.depth]; exact h0) (by rw [a4.depth,if_pos rfl]; omega) (by rw [if_neg (by decide)]; omega) (by rw [a4.next,show σ.next + (e.length + b.length + 3 + 1) = σ.next + 1 + (e.length + 2) + b.length + 1 by omega]; exact hL4.2) (fun h=>absurd h (by decide)) (fun h=>absurd h (by decide))
 refine ⟨σ3,?_,(a4.trans a5).of_eq (by omega)⟩
 show statementP L (g' + 13 + 2) σ = _
 rw [statementP_succ,ahead_is hf hL.1]
 show branchP L (g' + 13 + 1) σ = _
 rw [branchP_succ,e1]
 show (blocksP L (g' + 13) 0 σ1).bind _ = _
 rw [e2]
 show (if σ2.sees L ⟨#[101,108,115,101]⟩ then blocksP L (g' + 13) 0 σ2.step else some σ2) = _
 rw [sees_at a3.ok hel,decide_eq_true rfl,if_pos rfl,e3]
theorem rd_loop {v:Bool} {L:List Tk} {d:Nat} {e b:List ByteArray} (he:IsExpr v e) (ih:Rd v L 0 d b):Rd v L 2 (d + 1) (tWhile :: tOpen :: (e ++ tShut :: b)):=by
 intro f σ hf h0 hd hl hL _ hE
 rw [if_neg (by decide)] at hl
 rw [if_neg (by decide)] at hd
 obtain ⟨g,rfl⟩:∃ g,f = g + 1:=⟨f - 1,by omega⟩
 have hlen:(tWhile :: tOpen :: (e ++ tShut :: b)).length = e.length + b.length + 3:=by simp only [List.length_cons,List.length_append]; omega
 rw [hlen] at hl hE ⊢
 have a0:=(Ad.refl v hf).take hL.1
 have hbr:Lies L (σ.next + 1) ((tOpen :: (e ++ [tShut])) ++ b):=by simpa using hL.2
 obtain ⟨hL1,hL2⟩:=lies_app.1 hbr
 have hl1:(tOpen :: (e ++ [tShut])).length = e.length + 2:=by simp only [List.length_cons,List.length_append,List.length_nil]
 rw [hl1] at hL2
 obtain ⟨g',rfl⟩:∃ g',g = g' + 13:=⟨g - 13,by omega⟩
 obtain ⟨σ1,e1,a1⟩:=bracket_reads (v:=v) g' a0.ok (by rw [a0.next]; exact hL1) he (by rw [a0.depth]; exact h0) (by rw [a0.depth]; omega)
 have a1:=a0.trans a1
 obtain ⟨σ2,e2,a2⟩:=ih (g' + 13) σ1 a1.ok (by rw [a1.depth]; exact h0) (by rw [a1.depth,if_pos rfl]; omega) (by rw [if_neg (by decide)]; omega) (by rw [a1.next,show σ.next + (0 + 1 + (e.length + 2)) = σ.next + 1 + (e.length + 2) by omega]; exact hL2) (fun h=>absurd h (by decide)) (fun h=>absurd h (by decide))
 have a3:=(a1.trans a2).of_eq (m:=e.length + b.length + 3) (by omega)
 refine ⟨σ2,?_,a3⟩
 show statementP L (g' + 13 + 1) σ = _
 rw [statementP_succ,ahead_is hf hL.1]
 show (bracketedP L (g' + 13) (σ.take L ⟨#[119,104,105,108,101]⟩)).bind (blockP L (g' + 13)) = _
 rw [e1]
 exact e2
theorem rd_list {v:Bool} {L:List Tk} {d:Nat} (hs:∀ a,StW v d a→Rd v L 2 d a):∀ l:List (List ByteArray),(∀ a ∈ l,StW v d a)→Rd v L 1 d l.flatten
 | [],_=>rd_nil
 | a :: l,h=>by
  refine rd_cons (wr_first (h a (List.mem_cons_self ..))) ?_ (hs a (h a (List.mem_cons_self ..))) (rd_list hs l fun x hx=>h x (List.mem_cons_of_mem _ hx))
  cases l with
  | nil=>exact .inl rfl
  | cons b l =>
   obtain ⟨t,r,e,h1,_⟩:=wr_first (h b (List.mem_cons_of_mem _ (List.mem_cons_self ..)))
   exact .inr ⟨t,r ++ l.flatten,by rw [List.flatten_cons,e]; rfl,h1⟩
theorem rd_blk {v:Bool} {L:List Tk} {d:Nat} (hs:∀ a,StW v d a→Rd v L 2 d a) {b:List ByteArray} (h:BkW (StW v d) b):Rd v L 0 d b:=by
 obtain ⟨l,h1,rfl⟩:=h
 exact rd_block (rd_list hs l h1)
theorem rd_stmt {v:Bool} {L:List Tk}:∀ (d:Nat) (a:List ByteArray),StW v d a→Rd v L 2 d a
 | 0,_,h=>rd_simple h
 | d + 1,a,h=>by
  rcases h with h | ⟨e,b,he,hb,rfl⟩ | ⟨e,b,c,he,hb,hc,rfl⟩ | ⟨e,b,he,hb,rfl⟩
  ·exact rd_simple h
  ·exact rd_one he (rd_blk (rd_stmt d) hb)
  ·exact rd_two he (rd_blk (rd_stmt d) hb) (rd_blk (rd_stmt d) hc)
  ·exact rd_loop he (rd_blk (rd_stmt d) hb)
theorem wr_reads {v:Bool} {L:List Tk} {d:Nat} {ts:List ByteArray} (h:Wr v 0 d ts):Rd v L 0 d ts:=rd_blk (rd_stmt d) h
end RR
namespace RR
open Go Go.RowKit
def nk (n:Nm):ByteArray × Nat × Int:=(n.word,n.role,n.proc)
structure Dc (l:List (ByteArray × Nat × Int)) (n:Nat) (σ σ':PSt):Prop where
 next:σ'.next = σ.next + n
 ok:σ'.failed = false
 depth:σ'.depth = σ.depth
 proc:σ'.proc = σ.proc
 names:∃ ns,σ'.names = σ.names ++ ns∧ns.map nk = l
 calls:σ'.calls = σ.calls
theorem Dc.refl {σ:PSt} (h:σ.failed = false):Dc [] 0 σ σ:=⟨rfl,h,rfl,rfl,⟨[],(List.append_nil _).symm,rfl⟩,rfl⟩
theorem Dc.trans {l m:List (ByteArray × Nat × Int)} {i j:Nat} {a b c:PSt} (h:Dc l i a b) (k:Dc m j b c):Dc (l ++ m) (i + j) a c:=by
 obtain ⟨ns,e1,p1⟩:=h.names
 obtain ⟨ms,e2,p2⟩:=k.names
 exact ⟨by rw [k.next,h.next]; omega,k.ok,k.depth.trans h.depth,k.proc.trans h.proc,⟨ns ++ ms,by rw [e2,e1,List.append_assoc],by rw [List.map_append,p1,p2]⟩,k.calls.trans h.calls⟩
theorem Dc.step {l:List (ByteArray × Nat × Int)} {i:Nat} {a b:PSt} (h:Dc l i a b):Dc l (i + 1) a b.step :=
 ⟨by show b.next + 1 = _; rw [h.next]; omega,h.ok,h.depth,h.proc,h.names,h.calls⟩
theorem Dc.take {L:List Tk} {l:List (ByteArray × Nat × Int)} {i:Nat} {a b:PSt} {t:ByteArray} (h:Dc l i a b) (ht:tAt L (a.next + i) = t):Dc l (i + 1) a (b.take L t):=by
 rw [take_is h.ok (by rw [h.next]; exact ht)]
 exact h.step
theorem Dc.name {L:List Tk} {l:List (ByteArray × Nat × Int)} {i:Nat} {a b:PSt} {t:ByteArray} (h:Dc l i a b) (role:Nat) (ht:tAt L (a.next + i) = t) (hn:isNameB t = true):Dc (l ++ [(t,role,a.proc)]) (i + 1) a (b.takeName L role):=by
 obtain ⟨ns,e1,p1⟩:=h.names
 unfold PSt.takeName
 rw [ahead_is (t:=t) h.ok (by rw [h.next]; exact ht),if_pos hn]
 exact ⟨by show b.next + 1 = _; rw [h.next]; omega,h.ok,h.depth,h.proc,⟨ns ++ [_],by show b.names ++ _ = _; rw [e1,List.append_assoc],by rw [List.map_append,p1,List.map_cons,List.map_nil]; show l ++ [(t,role,b.proc)] = _; rw [h.proc]⟩,h.calls⟩
def commaT:List ByteArray→List ByteArray
 | []=>[]
 | n :: r=>tComma :: n :: commaT r
theorem more_reads {L:List Tk} (role:Nat) {u:ByteArray} (hu:u = tComma→False):∀ (ns:List ByteArray) (f:Nat) (σ:PSt),σ.failed = false→(∀ n ∈ ns,isNameB n = true)→Lies L σ.next (commaT ns ++ [u])→ns.length + 1 ≤ f→∃ σ',moreP L role f σ = some σ'∧Dc (ns.map fun n=>(n,role,σ.proc)) (2 * ns.length) σ σ'
 | [],f,σ,hf,_,hL,hl=>by
  obtain ⟨g,rfl⟩:∃ g,f = g + 1:=⟨f - 1,by simp at hl; omega⟩
  refine ⟨σ,?_,Dc.refl hf⟩
  rw [moreP,sees_at hf hL.1,decide_eq_false hu]; rfl
 | n :: r,f,σ,hf,hn,hL,hl=>by
  obtain ⟨g,rfl⟩:∃ g,f = g + 1:=⟨f - 1,by simp at hl; omega⟩
  have d1:Dc [(n,role,σ.proc)] 2 σ (σ.step.takeName L role):=by
   have d0:Dc [] 1 σ σ.step:=(Dc.refl hf).step
   have:=d0.name role hL.2.1 (hn n (List.mem_cons_self ..))
   exact this
  obtain ⟨σ',e,d2⟩:=more_reads role hu r g _ d1.ok (fun m hm=>hn m (List.mem_cons_of_mem _ hm)) (by rw [d1.next]; exact hL.2.2) (by simp only [List.length_cons] at hl; omega)
  refine ⟨σ',?_,?_⟩
  ·rw [moreP,sees_at hf hL.1,decide_eq_true rfl,if_pos rfl,e]
  ·have:=d1.trans d2
   rw [d1.proc] at this
   have e2:2 + 2 * r.length = 2 * (n :: r).length:=by simp only [List.length_cons]; omega
   rw [e2] at this
   exact this
theorem list_reads {L:List Tk} {t a b:ByteArray} (role f:Nat) (σ:PSt) (hf:σ.failed = false) (hL:Lies L σ.next [t,a,tComma,b,tSemi]) (ha:isNameB a = true) (hb:isNameB b = true):∃ σ',listP L (f + 3) t role σ = some σ'∧Dc [(a,role,σ.proc),(b,role,σ.proc)] 5 σ σ':=by
 unfold listP
 rw [sees_at hf hL.1,decide_eq_true rfl,if_pos rfl]
 have d1:Dc [(a,role,σ.proc)] 2 σ (σ.step.takeName L role):=(Dc.refl hf).step.name role hL.2.1 ha
 obtain ⟨σ',e,d2⟩:=more_reads (L:=L) role (u:=tSemi) (by decide) [b] (f + 3) _ d1.ok (fun m hm=>by rw [List.mem_singleton.1 hm]; exact hb) (by rw [d1.next]; exact hL.2.2) (by simp)
 rw [e]
 have d3:=(d1.trans d2).take hL.2.2.2.2.1
 rw [d1.proc] at d3
 exact ⟨_,rfl,d3⟩
structure PcOut (v:Bool) (l:List (ByteArray × Nat × Int)) (n:Nat) (σ σ':PSt):Prop where
 next:σ'.next = σ.next + n
 ok:σ'.failed = false
 depth:σ'.depth = σ.depth
 proc:σ'.proc = σ.proc + 1
 names:∃ ns us,σ'.names = σ.names ++ (ns ++ us)∧ns.map nk = l∧∀ x ∈ us,UseOk v (σ.proc + 1) x
 calls:∃ cs,σ'.calls = σ.calls ++ cs∧∀ x ∈ cs,ClOk x
 len:σ'.names.length ≤ σ.names.length + n
theorem proc1_reads {L:List Tk} {σ:PSt} {b:List ByteArray} (f:Nat) (hf:σ.failed = false) (hd:σ.depth = 0) (hp:-1 ≤ σ.proc∧σ.proc ≤ 10) (hL:Lies L σ.next (tProc :: tP :: tOpen :: tV :: tShut :: b)) (hb:Wr true 0 2 b) (hl:b.length + 20 ≤ f):∃ σ',procedureP L f σ = some σ'∧PcOut true [(tP,2,σ.proc + 1),(tV,3,σ.proc + 1)] (b.length + 5) σ σ':=by
 unfold procedureP
 simp only []
 have d1:Dc [] 1 σ (σ.take L ⟨#[112,114,111,99]⟩):=(Dc.refl hf).take hL.1
 generalize σ.take L ⟨#[112,114,111,99]⟩ = a at *
 have hw:wrap64 (a.proc + 1) = σ.proc + 1:=by rw [d1.proc]; exact wrap_hd (by omega) (by omega)
 rw [hw]
 have e0:({ a with proc:=σ.proc + 1 }:PSt).failed = false:=d1.ok
 have n0:({ a with proc:=σ.proc + 1 }:PSt).next = σ.next + 1:=d1.next
 have dp0:({ a with proc:=σ.proc + 1 }:PSt).depth = 0:=d1.depth.trans hd
 have p0:({ a with proc:=σ.proc + 1 }:PSt).proc = σ.proc + 1:=rfl
 have c0:({ a with proc:=σ.proc + 1 }:PSt).calls = σ.calls:=d1.calls
 have m0:({ a with proc:=σ.proc + 1 }:PSt).names = σ.names:=by
  obtain ⟨ns,e1,p1⟩:=d1.names
  show a.names = σ.names
  rw [e1,List.map_eq_nil_iff.1 p1,List.append_nil]
 generalize ({ a with proc:=σ.proc + 1 }:PSt) = a0 at *
 have d2:Dc [(tP,2,a0.proc)] 1 a0 (a0.takeName L 2):=(Dc.refl e0).name 2 (by rw [n0]; exact hL.2.1) nameP
 generalize a0.takeName L 2 = a1 at *
 have hO:tAt L a1.next = tOpen:=by rw [d2.next,n0]; exact hL.2.2.1
 have de1:a1.depth = 0:=d2.depth.trans dp0
 rw [enter_is d2.ok hO (by omega) (by omega)]
 have n2:(a1.deep (a1.depth + 1)).next = σ.next + 3:=by show a1.next + 1 = _; rw [d2.next,n0]
 have hV:tAt L (a1.deep (a1.depth + 1)).next = tV:=by rw [n2]; exact hL.2.2.2.1
 have ok2:(a1.deep (a1.depth + 1)).failed = false:=d2.ok
 rw [sees_at ok2 hV,decide_eq_false (by decide),if_neg (by decide)]
 have d3:Dc [(tV,3,(a1.deep (a1.depth + 1)).proc)] 1 (a1.deep (a1.depth + 1)) ((a1.deep (a1.depth + 1)).takeName L 3):=(Dc.refl ok2).name 3 hV nameV
 have q1:(a1.deep (a1.depth + 1)).names = a1.names:=rfl
 have q2:(a1.deep (a1.depth + 1)).calls = a1.calls:=rfl
 have q3:(a1.deep (a1.depth + 1)).proc = a1.proc:=rfl
 have q4:(a1.deep (a1.depth + 1)).depth = 1:=by show a1.depth + 1 = 1; omega
 generalize a1.deep (a1.depth + 1) = a2 at *
 generalize a2.takeName L 3 = a3 at *
 have hS:tAt L a3.next = tShut:=by rw [d3.next,n2]; exact hL.2.2.2.2.1
 have hm:moreP L 3 f a3 = some a3:=by
  obtain ⟨g,rfl⟩:∃ g,f = g + 1:=⟨f - 1,by omega⟩
  rw [moreP,sees_at d3.ok hS,decide_eq_false (by decide)]; rfl
 rw [hm]
 show ∃ σ',blockP L f (leaveP L a3 ⟨#[41]⟩) = some σ'∧_
 have de3:a3.depth = 1:=d3.depth.trans q4
 rw [leave_is d3.ok hS (by omega) (by omega)]
 have z1:(a3.deep (a3.depth - 1)).next = σ.next + 5:=by show a3.next + 1 = _; rw [d3.next,n2]
 have z2:(a3.deep (a3.depth - 1)).depth = 0:=by show a3.depth - 1 = 0; omega
 have z3:(a3.deep (a3.depth - 1)).proc = σ.proc + 1:=by show a3.proc = _; rw [d3.proc,q3,d2.proc,p0]
 obtain ⟨σ',e,ad⟩:=wr_reads hb f (a3.deep (a3.depth - 1)) d3.ok (by omega) (by rw [z2,if_pos rfl]; decide) (by rw [if_neg (by decide)]; exact hl) (by rw [z1]; exact hL.2.2.2.2.2) (fun h=>absurd h (by decide)) (fun h=>absurd h (by decide))
 refine ⟨σ',e,?_⟩
 obtain ⟨n3,g3,k3⟩:=d3.names
 obtain ⟨n1,g1,k1⟩:=d2.names
 obtain ⟨us,gu,ku⟩:=ad.names
 obtain ⟨cs,gc,kc⟩:=ad.calls
 refine ⟨by rw [ad.next,z1]; omega,ad.ok,by rw [ad.depth,z2,hd],by rw [ad.proc,z3],⟨n1 ++ n3,us,?_,?_,?_⟩,⟨cs,?_,kc⟩,?_⟩
 ·rw [gu]
  show a3.names ++ us = _
  rw [g3,q1,g1,m0]; simp only [List.append_assoc]
 ·rw [List.map_append,k1,k3,p0,q3,d2.proc,p0]; rfl
 ·rw [z3] at ku; exact ku
 ·rw [gc]
  show a3.calls ++ cs = _
  rw [d3.calls,q2,d2.calls,c0]
 ·have l0:σ'.names.length ≤ a3.names.length + b.length:=ad.len
  have l1:=congrArg List.length k1
  have l3:=congrArg List.length k3
  rw [List.length_map] at l1 l3
  rw [g3,q1,g1,m0,List.length_append,List.length_append,l1,l3] at l0
  simp only [List.length_cons,List.length_nil] at l0
  omega
theorem proc0_reads {L:List Tk} {σ:PSt} {b:List ByteArray} (f:Nat) (hf:σ.failed = false) (hd:σ.depth = 0) (hp:-1 ≤ σ.proc∧σ.proc ≤ 10) (hL:Lies L σ.next (tProc :: tQ :: tOpen :: tShut :: b)) (hb:Wr false 0 2 b) (hl:b.length + 20 ≤ f):∃ σ',procedureP L f σ = some σ'∧PcOut false [(tQ,2,σ.proc + 1)] (b.length + 4) σ σ':=by
 unfold procedureP
 simp only []
 have d1:Dc [] 1 σ (σ.take L ⟨#[112,114,111,99]⟩):=(Dc.refl hf).take hL.1
 generalize σ.take L ⟨#[112,114,111,99]⟩ = a at *
 have hw:wrap64 (a.proc + 1) = σ.proc + 1:=by rw [d1.proc]; exact wrap_hd (by omega) (by omega)
 rw [hw]
 have e0:({ a with proc:=σ.proc + 1 }:PSt).failed = false:=d1.ok
 have n0:({ a with proc:=σ.proc + 1 }:PSt).next = σ.next + 1:=d1.next
 have dp0:({ a with proc:=σ.proc + 1 }:PSt).depth = 0:=d1.depth.trans hd
 have p0:({ a with proc:=σ.proc + 1 }:PSt).proc = σ.proc + 1:=rfl
 have c0:({ a with proc:=σ.proc + 1 }:PSt).calls = σ.calls:=d1.calls
 have m0:({ a with proc:=σ.proc + 1 }:PSt).names = σ.names:=by
  obtain ⟨ns,e1,p1⟩:=d1.names
  show a.names = σ.names
  rw [e1,List.map_eq_nil_iff.1 p1,List.append_nil]
 generalize ({ a with proc:=σ.proc + 1 }:PSt) = a0 at *
 have d2:Dc [(tQ,2,a0.proc)] 1 a0 (a0.takeName L 2):=(Dc.refl e0).name 2 (by rw [n0]; exact hL.2.1) nameQ
 generalize a0.takeName L 2 = a1 at *
 have hO:tAt L a1.next = tOpen:=by rw [d2.next,n0]; exact hL.2.2.1
 have de1:a1.depth = 0:=d2.depth.trans dp0
 rw [enter_is d2.ok hO (by omega) (by omega)]
 have n2:(a1.deep (a1.depth + 1)).next = σ.next + 3:=by show a1.next + 1 = _; rw [d2.next,n0]
 have hS:tAt L (a1.deep (a1.depth + 1)).next = tShut:=by rw [n2]; exact hL.2.2.2.1
 have ok2:(a1.deep (a1.depth + 1)).failed = false:=d2.ok
 rw [sees_at ok2 hS,decide_eq_true rfl,if_pos rfl]
 have q1:(a1.deep (a1.depth + 1)).names = a1.names:=rfl
 have q2:(a1.deep (a1.depth + 1)).calls = a1.calls:=rfl
 have q3:(a1.deep (a1.depth + 1)).proc = a1.proc:=rfl
 have q4:(a1.deep (a1.depth + 1)).depth = 1:=by show a1.depth + 1 = 1; omega
 generalize a1.deep (a1.depth + 1) = a3 at *
 show ∃ σ',blockP L f (leaveP L a3 ⟨#[41]⟩) = some σ'∧_
 rw [leave_is ok2 hS (by omega) (by omega)]
 have z1:(a3.deep (a3.depth - 1)).next = σ.next + 4:=by show a3.next + 1 = _; rw [n2]
 have z2:(a3.deep (a3.depth - 1)).depth = 0:=by show a3.depth - 1 = 0; omega
 have z3:(a3.deep (a3.depth - 1)).proc = σ.proc + 1:=by show a3.proc = _; rw [q3,d2.proc,p0]
 obtain ⟨σ',e,ad⟩:=wr_reads hb f (a3.deep (a3.depth - 1)) ok2 (by omega) (by rw [z2,if_pos rfl]; decide) (by rw [if_neg (by decide)]; exact hl) (by rw [z1]; exact hL.2.2.2.2) (fun h=>absurd h (by decide)) (fun h=>absurd h (by decide))
 refine ⟨σ',e,?_⟩
 obtain ⟨n1,g1,k1⟩:=d2.names
 obtain ⟨us,gu,ku⟩:=ad.names
 obtain ⟨cs,gc,kc⟩:=ad.calls
 refine ⟨by rw [ad.next,z1]; omega,ad.ok,by rw [ad.depth,z2,hd],by rw [ad.proc,z3],⟨n1,us,?_,?_,?_⟩,⟨cs,?_,kc⟩,?_⟩
 ·rw [gu]
  show a3.names ++ us = _
  rw [q1,g1,m0]; simp only [List.append_assoc]
 ·rw [k1,p0]
 ·rw [z3] at ku; exact ku
 ·rw [gc]
  show a3.calls ++ cs = _
  rw [q2,d2.calls,c0]
 ·have l0:σ'.names.length ≤ a3.names.length + b.length:=ad.len
  have l1:=congrArg List.length k1
  rw [List.length_map] at l1
  rw [q1,g1,m0,List.length_append,l1] at l0
  simp only [List.length_cons,List.length_nil] at l0
  omega
def progT (b1 b2:List ByteArray) (h:ByteArray) (th:List ByteArray):List ByteArray :=
 [tShared,tX,tComma,tY,tSemi] ++ ([tLocks,tM,tComma,tN,tSemi] ++ ((tProc :: tP :: tOpen :: tV :: tShut :: b1) ++ ((tProc :: tQ :: tOpen :: tShut :: b2) ++ (tThreads :: h :: (commaT th ++ [tSemi])))))
structure PgOut (σ:PSt) (n:Nat):Prop where
 ok:σ.failed = false
 names:∃ a us b vs ts,σ.names = a ++ (us ++ (b ++ (vs ++ ts)))∧a.map nk = [(tX,0,-1),(tY,0,-1),(tM,1,-1),(tN,1,-1),(tP,2,0),(tV,3,0)]∧b.map nk = [(tQ,2,1)]∧(∀ x ∈ us,UseOk true 0 x)∧(∀ x ∈ vs,UseOk false 1 x)∧ts.length = n∧(∀ x ∈ ts,x.role = 7∧(x.word = tP ∨ x.word = tQ))
 calls:∀ x ∈ σ.calls,ClOk x
theorem prog_reads {L:List Tk} {b1 b2:List ByteArray} {h:ByteArray} {th:List ByteArray} (f:Nat) (hL:L.map Tk.t = progT b1 b2 h th) (h1:Wr true 0 2 b1) (h2:Wr false 0 2 b2) (hh:h = tP ∨ h = tQ) (ht:∀ n ∈ th,n = tP ∨ n = tQ) (hl:L.length + 30 ≤ f):∃ σ,programP L f ⟨0,0,-1,false,[],[]⟩ = some σ∧PgOut σ (th.length + 1)∧σ.names.length ≤ L.length:=by
 have hlen:L.length = (progT b1 b2 h th).length:=by rw [← hL,List.length_map]
 have htl:∀ l:List ByteArray,(commaT l).length = 2 * l.length:=by
  intro l
  induction l with
  | nil=>rfl
  | cons n r ih=>show (commaT r).length + 1 + 1 = _; rw [ih,List.length_cons]; omega
 have hlen2:L.length = b1.length + b2.length + 2 * th.length + 22:=by
  rw [hlen]; unfold progT; simp only [List.length_cons,List.length_append,List.length_nil,htl]; omega
 have hLies:Lies L 0 (progT b1 b2 h th):=lies_drop _ 0 fun j=>by
  rw [Nat.zero_add,← hL]
  by_cases hj:j < L.length
  ·rw [tAt_in hj,List.getElem?_eq_getElem (by rw [List.length_map]; exact hj),Option.getD_some,List.getElem_map]
  ·rw [tAt_out hj,List.getElem?_eq_none (by rw [List.length_map]; omega)]; rfl
 unfold progT at hLies
 obtain ⟨l1,hLies⟩:=lies_app.1 hLies
 obtain ⟨l2,hLies⟩:=lies_app.1 hLies
 obtain ⟨l3,hLies⟩:=lies_app.1 hLies
 obtain ⟨l4,l5⟩:=lies_app.1 hLies
 obtain ⟨g,rfl⟩:∃ g,f = g + 4:=⟨f - 4,by omega⟩
 unfold programP
 obtain ⟨σ1,e1,d1⟩:=list_reads 0 (g + 1) (⟨0,0,-1,false,[],[]⟩:PSt) rfl l1 nameX nameY
 rw [e1]
 have nx1:σ1.next = 0 + 5:=d1.next
 obtain ⟨σ2,e2,d2⟩:=list_reads 1 (g + 1) σ1 d1.ok (by rw [nx1]; exact l2) nameM nameN
 show ∃ σ,(((listP L (g + 4) ⟨#[108,111,99,107,115]⟩ 1 σ1).bind _)) = some σ∧_
 rw [e2]
 show ∃ σ,((procedureP L (g + 4) σ2).bind _) = some σ∧_
 have dd:=d1.trans d2
 have pr2:σ2.proc = -1:=dd.proc
 have nx2:σ2.next = 0 + 5 + 5:=by rw [dd.next]
 obtain ⟨σ3,e3,p3⟩:=proc1_reads (g + 4) dd.ok dd.depth (by rw [pr2]; omega) (by rw [nx2]; exact l3) h1 (by omega)
 rw [e3]
 show ∃ σ,((procsP L (g + 4) σ3).bind _) = some σ∧_
 have pr3:σ3.proc = 0:=by rw [p3.proc,pr2]; rfl
 have nx3:σ3.next = b1.length + 15:=by rw [p3.next,nx2]; omega
 have hx4:0 + [tShared,tX,tComma,tY,tSemi].length + [tLocks,tM,tComma,tN,tSemi].length + (tProc :: tP :: tOpen :: tV :: tShut :: b1).length = b1.length + 15:=by simp only [List.length_cons,List.length_nil]; omega
 rw [hx4] at l4 l5
 obtain ⟨σ4,e4,p4⟩:=proc0_reads (g + 3) p3.ok (by rw [p3.depth]; exact dd.depth) (by rw [pr3]; omega) (by rw [nx3]; exact l4) h2 (by omega)
 have nx4:σ4.next = b1.length + b2.length + 19:=by rw [p4.next,nx3]; omega
 have hx5:b1.length + 15 + (tProc :: tQ :: tOpen :: tShut :: b2).length = b1.length + b2.length + 19:=by simp only [List.length_cons]; omega
 rw [hx5] at l5
 have l50:tAt L σ4.next = tThreads:=by rw [nx4]; exact l5.1
 have e5:procsP L (g + 4) σ3 = some σ4:=by
  rw [procsP,sees_at p3.ok (t:=tProc) (by rw [nx3]; exact l4.1),decide_eq_true rfl,if_pos rfl,e4]
  show procsP L (g + 3) σ4 = some σ4
  rw [procsP,sees_at p4.ok l50,decide_eq_false (by decide)]; rfl
 rw [e5]
 have nmh:∀ {x:ByteArray},x = tP ∨ x = tQ→isNameB x = true:=fun hx=>hx.elim (fun e=>by rw [e]; exact nameP) fun e=>by rw [e]; exact nameQ
 have d6:Dc [(h,7,σ4.proc)] 2 σ4 ((σ4.take L ⟨#[116,104,114,101,97,100,115]⟩).takeName L 7):=((Dc.refl p4.ok).take l50).name 7 (by rw [nx4]; exact l5.2.1) (nmh hh)
 show ∃ σ,((moreP L 7 (g + 4) ((σ4.take L ⟨#[116,104,114,101,97,100,115]⟩).takeName L 7)).map fun e=>takeEndP L (e.take L ⟨#[59]⟩)) = some σ∧_
 generalize (σ4.take L ⟨#[116,104,114,101,97,100,115]⟩).takeName L 7 = σ6 at *
 obtain ⟨σ7,e7,d7⟩:=more_reads (L:=L) 7 (u:=tSemi) (by decide) th (g + 4) σ6 d6.ok (fun n hn=>nmh (ht n hn)) (by rw [d6.next,nx4]; exact l5.2.2) (by omega)
 rw [e7]
 have hS:tAt L (σ4.next + (2 + 2 * th.length)) = tSemi:=by
  have:=(lies_app.1 l5.2.2).2.1
  rw [htl] at this
  rw [nx4,← this]; congr 1; omega
 have d8:=(d6.trans d7).take hS
 show ∃ σ,some (takeEndP L (σ7.take L ⟨#[59]⟩)) = some σ∧_
 generalize σ7.take L ⟨#[59]⟩ = σ8 at *
 have he:takeEndP L σ8 = σ8:=by
  unfold takeEndP
  rw [if_neg (by rw [d8.next,nx4]; omega)]
 rw [he]
 refine ⟨σ8,rfl,⟨d8.ok,?_,?_⟩,?_⟩
 ·obtain ⟨n8,g8,k8⟩:=d8.names
  obtain ⟨n4,vs,g4,k4,u4⟩:=p4.names
  obtain ⟨n3,us,g3,k3,u3⟩:=p3.names
  obtain ⟨n2,g2,k2⟩:=dd.names
  have g2':σ2.names = n2:=g2
  have pr1:σ1.proc = -1:=d1.proc
  refine ⟨n2 ++ n3,us,n4,vs,n8,?_,?_,?_,?_,?_,?_,?_⟩
  ·rw [g8,g4,g3,g2']; simp only [List.append_assoc]
  ·rw [List.map_append,k2,k3,pr2,pr1]; rfl
  ·rw [k4,pr3]; rfl
  ·rw [pr2] at u3; exact u3
  ·rw [pr3] at u4; exact u4
  ·have:=congrArg List.length k8
   rw [List.length_map,List.length_append,List.length_map] at this
   rw [this,List.length_singleton]; omega
  ·intro x hx
   have hm:nk x ∈ n8.map nk:=List.mem_map_of_mem hx
   rw [k8] at hm
   rcases List.mem_append.1 hm with hm | hm
   ·have e:=List.mem_singleton.1 hm
    have e1:x.word = h:=congrArg (·.1) e
    have e2:x.role = 7:=congrArg (·.2.1) e
    exact ⟨e2,by rw [e1]; exact hh⟩
   ·obtain ⟨n,hn,e⟩:=List.mem_map.1 hm
    have e1:n = x.word:=congrArg (·.1) e
    have e2:7 = x.role:=congrArg (·.2.1) e
    exact ⟨e2.symm,by rw [← e1]; exact ht n hn⟩
 ·obtain ⟨c4,q4,k4⟩:=p4.calls
  obtain ⟨c3,q3,k3⟩:=p3.calls
  have c2:σ2.calls = []:=dd.calls
  intro x hx
  rw [d8.calls,q4,q3,c2,List.nil_append] at hx
  rcases List.mem_append.1 hx with hx | hx
  ·exact k3 x hx
  ·exact k4 x hx
 ·obtain ⟨n8,g8,k8⟩:=d8.names
  obtain ⟨n2,g2,k2⟩:=dd.names
  have g2':σ2.names = n2:=g2
  have l8:=congrArg List.length k8
  have l2:=congrArg List.length k2
  rw [List.length_map] at l8 l2
  simp only [List.length_append,List.length_cons,List.length_nil,List.length_map] at l8 l2
  have l4:=p4.len
  have l3:=p3.len
  rw [g8,List.length_append]
  rw [g2'] at l3
  omega
end RR
