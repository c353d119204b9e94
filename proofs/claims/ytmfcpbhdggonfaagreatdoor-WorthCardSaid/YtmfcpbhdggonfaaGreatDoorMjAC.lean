/- Programs of a plain kind, token by token: the program's parser reads them. Expressions. No Go here. -/
import Derived.Test.YtmfcpbhdggonfaaGreatDoorMjAB
import Derived.Test.YtmfcpbhdggonfaaGreatDoorMjAA
namespace RR
open Go Go.RowKit
abbrev tX:ByteArray:=⟨#[120]⟩
abbrev tY:ByteArray:=⟨#[121]⟩
abbrev tM:ByteArray:=⟨#[109]⟩
abbrev tN:ByteArray:=⟨#[110]⟩
abbrev tP:ByteArray:=⟨#[112]⟩
abbrev tQ:ByteArray:=⟨#[113]⟩
abbrev tV:ByteArray:=⟨#[118]⟩
abbrev tBang:ByteArray:=⟨#[33]⟩
abbrev tAnd:ByteArray:=⟨#[38]⟩
abbrev tOr:ByteArray:=⟨#[124]⟩
abbrev tAsk:ByteArray:=⟨#[63]⟩
abbrev tOpen:ByteArray:=⟨#[40]⟩
abbrev tShut:ByteArray:=⟨#[41]⟩
abbrev tBO:ByteArray:=⟨#[123]⟩
abbrev tBS:ByteArray:=⟨#[125]⟩
abbrev tSemi:ByteArray:=⟨#[59]⟩
abbrev tComma:ByteArray:=⟨#[44]⟩
abbrev tEq:ByteArray:=⟨#[61]⟩
abbrev tTrue:ByteArray:=⟨#[116,114,117,101]⟩
abbrev tFalse:ByteArray:=⟨#[102,97,108,115,101]⟩
abbrev tIf:ByteArray:=⟨#[105,102]⟩
abbrev tElse:ByteArray:=⟨#[101,108,115,101]⟩
abbrev tWhile:ByteArray:=⟨#[119,104,105,108,101]⟩
abbrev tAssume:ByteArray:=⟨#[97,115,115,117,109,101]⟩
abbrev tAcq:ByteArray:=⟨#[97,99,113,117,105,114,101]⟩
abbrev tRel:ByteArray:=⟨#[114,101,108,101,97,115,101]⟩
abbrev tRet:ByteArray:=⟨#[114,101,116,117,114,110]⟩
abbrev tSkip:ByteArray:=⟨#[115,107,105,112]⟩
abbrev tProc:ByteArray:=⟨#[112,114,111,99]⟩
abbrev tShared:ByteArray:=⟨#[115,104,97,114,101,100]⟩
abbrev tThreads:ByteArray:=⟨#[116,104,114,101,97,100,115]⟩
def Lies (L:List Tk):Nat→List ByteArray→Prop
 | _,[]=>True
 | i,t :: r=>tAt L i = t∧Lies L (i + 1) r
theorem lies_app {L:List Tk}:∀ {a b:List ByteArray} {i:Nat},Lies L i (a ++ b) ↔ Lies L i a∧Lies L (i + a.length) b
 | [],b,i=>by simp [Lies]
 | t :: r,b,i=>by
  show tAt L i = t∧Lies L (i + 1) (r ++ b) ↔ (tAt L i = t∧Lies L (i + 1) r)∧Lies L (i + (r.length + 1)) b
  rw [lies_app,and_assoc,show i + 1 + r.length = i + (r.length + 1) by omega]
theorem lies_drop {L:List Tk}:∀ (l:List ByteArray) (i:Nat),(∀ j,tAt L (i + j) = l[j]?.getD ⟨#[]⟩)→Lies L i l
 | [],_,_=>trivial
 | t :: r,i,h=>⟨by have:=h 0; simpa using this,lies_drop r (i + 1) fun j=>by have:=h (j + 1); rw [show i + 1 + j = i + (j + 1) by omega,this]; rfl⟩
theorem ahead_t {L:List Tk} {σ:PSt} (hf:σ.failed = false) (n:Nat):(σ.ahead L n).t = tAt L (σ.next + n):=by
 by_cases h:σ.next + n < L.length
 ·rw [ahead_in hf h,tAt_in h]
 ·rw [ahead_out h,tAt_out h]
theorem ahead_is {L:List Tk} {σ:PSt} {t:ByteArray} (hf:σ.failed = false) (h:tAt L σ.next = t):(σ.ahead L 0).t = t:=(ahead_t hf 0).trans h
theorem sees_at {L:List Tk} {σ:PSt} {t:ByteArray} (hf:σ.failed = false) (h:tAt L σ.next = t) (u:ByteArray):σ.sees L u = decide (t = u):=by unfold PSt.sees; rw [ahead_is hf h]
theorem take_is {L:List Tk} {σ:PSt} {t:ByteArray} (hf:σ.failed = false) (h:tAt L σ.next = t):σ.take L t = σ.step:=by unfold PSt.take; rw [sees_at hf h,decide_eq_true rfl]; rfl
def UseOk (v:Bool) (P:Int) (n:Nm):Prop:=n.proc = P∧((n.role = 4∧(n.word = tX ∨ n.word = tY ∨ (v = true∧n.word = tV))) ∨ (n.role = 5∧(n.word = tM ∨ n.word = tN)) ∨ (n.role = 6∧(n.word = tP ∨ n.word = tQ)))
def ClOk (c:Cl):Prop:=(c.word = tP∧c.values = 1) ∨ (c.word = tQ∧c.values = 0)
structure Ad (v:Bool) (n:Nat) (σ σ':PSt):Prop where
 next:σ'.next = σ.next + n
 ok:σ'.failed = false
 depth:σ'.depth = σ.depth
 proc:σ'.proc = σ.proc
 names:∃ ns,σ'.names = σ.names ++ ns∧∀ x ∈ ns,UseOk v σ.proc x
 calls:∃ cs,σ'.calls = σ.calls ++ cs∧∀ x ∈ cs,ClOk x
 len:σ'.names.length ≤ σ.names.length + n
theorem Ad.refl (v:Bool) {σ:PSt} (h:σ.failed = false):Ad v 0 σ σ:=⟨rfl,h,rfl,rfl,⟨[],(List.append_nil _).symm,fun _ h=>by cases h⟩,⟨[],(List.append_nil _).symm,fun _ h=>by cases h⟩,Nat.le_refl _⟩
theorem Ad.trans {v:Bool} {n m:Nat} {a b c:PSt} (h:Ad v n a b) (k:Ad v m b c):Ad v (n + m) a c:=by
 obtain ⟨ns,e1,p1⟩:=h.names
 obtain ⟨ms,e2,p2⟩:=k.names
 obtain ⟨cs,e3,p3⟩:=h.calls
 obtain ⟨ds,e4,p4⟩:=k.calls
 refine ⟨by rw [k.next,h.next]; omega,k.ok,k.depth.trans h.depth,k.proc.trans h.proc,⟨ns ++ ms,by rw [e2,e1,List.append_assoc],fun x hx=>?_⟩,⟨cs ++ ds,by rw [e4,e3,List.append_assoc],fun x hx=>?_⟩,by have:=h.len; have:=k.len; omega⟩
 ·rcases List.mem_append.1 hx with hx | hx
  ·exact p1 x hx
  ·have:=p2 x hx
   rw [h.proc] at this
   exact this
 ·rcases List.mem_append.1 hx with hx | hx
  ·exact p3 x hx
  ·exact p4 x hx
theorem Ad.step (v:Bool) {σ:PSt} (h:σ.failed = false):Ad v 1 σ σ.step:=⟨rfl,h,rfl,rfl,⟨[],(List.append_nil _).symm,fun _ h=>by cases h⟩,⟨[],(List.append_nil _).symm,fun _ h=>by cases h⟩,Nat.le_succ _⟩
theorem Ad.name {v:Bool} {L:List Tk} {σ:PSt} {t:ByteArray} {role:Nat} (hf:σ.failed = false) (h:tAt L σ.next = t) (hn:isNameB t = true) (hu:∀ q,UseOk v σ.proc ⟨t,q,role,σ.proc⟩):Ad v 1 σ (σ.takeName L role):=by
 unfold PSt.takeName
 rw [ahead_is hf h,if_pos hn]
 refine ⟨rfl,hf,rfl,rfl,⟨[_],rfl,fun x hx=>?_⟩,⟨[],(List.append_nil _).symm,fun _ h=>by cases h⟩,by show (σ.names ++ [_]).length ≤ _; rw [List.length_append]; exact Nat.le_refl _⟩
 rw [List.mem_singleton.1 hx]
 exact hu _
def PSt.deep (σ:PSt) (d:Int):PSt:={ σ.step with depth:=d }
theorem wrap_hd {z:Int} (h:-100 ≤ z) (h2:z ≤ 100):wrap64 z = z:=by
 unfold wrap64
 omega
theorem enter_is {L:List Tk} {σ:PSt} {t:ByteArray} (hf:σ.failed = false) (h:tAt L σ.next = t) (h0:0 ≤ σ.depth) (h6:σ.depth < 6):enterP L σ t = σ.deep (σ.depth + 1):=by
 unfold enterP
 rw [if_neg (by omega),take_is hf h,show wrap64 (σ.step.depth + 1) = σ.depth + 1 from wrap_hd (by show (-100:Int) ≤ σ.depth + 1; omega) (by show σ.depth + 1 ≤ 100; omega)]; rfl
theorem leave_is {L:List Tk} {σ:PSt} {t:ByteArray} (hf:σ.failed = false) (h:tAt L σ.next = t) (h0:0 ≤ σ.depth) (h6:σ.depth ≤ 7):leaveP L σ t = σ.deep (σ.depth - 1):=by
 unfold leaveP
 rw [take_is hf h,show wrap64 (σ.step.depth - 1) = σ.depth - 1 from wrap_hd (by show (-100:Int) ≤ σ.depth - 1; omega) (by show σ.depth - 1 ≤ 100; omega)]; rfl
theorem Ad.bracket {v:Bool} {n:Nat} {σ σ1:PSt} (h:Ad v n (σ.deep (σ.depth + 1)) σ1):Ad v (n + 2) σ (σ1.deep (σ1.depth - 1)):=by
 refine ⟨?_,h.ok,?_,h.proc,h.names,h.calls,by have e:σ1.names.length ≤ σ.names.length + n:=h.len; show σ1.names.length ≤ _; omega⟩
 ·show σ1.next + 1 = σ.next + (n + 2)
  rw [h.next]; show σ.next + 1 + n + 1 = _; omega
 ·show σ1.depth - 1 = σ.depth
  rw [h.depth]; show σ.depth + 1 - 1 = σ.depth; omega
def IsAtom (v:Bool) (t:ByteArray):Prop:=t = tX ∨ t = tY ∨ (v = true∧t = tV) ∨ t = tAsk ∨ t = tTrue ∨ t = tFalse
def IsLeaf (v:Bool) (ts:List ByteArray):Prop:=(∃ t,IsAtom v t∧ts = [t]) ∨ ∃ t,IsAtom v t∧ts = [tBang,t]
theorem IsLeaf.plain {v:Bool} {t:ByteArray} (h:IsAtom v t):IsLeaf v [t]:=.inl ⟨t,h,rfl⟩
theorem IsLeaf.neg {v:Bool} {t:ByteArray} (h:IsAtom v t):IsLeaf v [tBang,t]:=.inr ⟨t,h,rfl⟩
def IsExpr (v:Bool) (ts:List ByteArray):Prop:=IsLeaf v ts ∨ (∃ a b,IsLeaf v a∧IsLeaf v b∧ts = a ++ tAnd :: b) ∨ (∃ a b,IsLeaf v a∧IsLeaf v b∧ts = a ++ tOr :: b) ∨ ∃ a b c,IsLeaf v a∧IsLeaf v b∧IsLeaf v c∧ts = tOpen :: (a ++ tOr :: (b ++ tShut :: tAnd :: c))
theorem IsExpr.leaf {v:Bool} {a:List ByteArray} (h:IsLeaf v a):IsExpr v a:=.inl h
theorem IsExpr.conj {v:Bool} {a b:List ByteArray} (h:IsLeaf v a) (k:IsLeaf v b):IsExpr v (a ++ tAnd :: b):=.inr (.inl ⟨a,b,h,k,rfl⟩)
theorem IsExpr.disj {v:Bool} {a b:List ByteArray} (h:IsLeaf v a) (k:IsLeaf v b):IsExpr v (a ++ tOr :: b):=.inr (.inr (.inl ⟨a,b,h,k,rfl⟩))
theorem IsExpr.both {v:Bool} {a b c:List ByteArray} (h:IsLeaf v a) (k:IsLeaf v b) (l:IsLeaf v c):IsExpr v (tOpen :: (a ++ tOr :: (b ++ tShut :: tAnd :: c))):=.inr (.inr (.inr ⟨a,b,c,h,k,l,rfl⟩))
end RR
namespace RR
open Go Go.RowKit
def IsSmp (v:Bool) (ts:List ByteArray):Prop:=(∃ e,IsExpr v e∧ts = tX :: tEq :: (e ++ [tSemi])) ∨ (∃ e,IsExpr v e∧ts = tY :: tEq :: (e ++ [tSemi])) ∨ (∃ e,IsExpr v e∧ts = tRet :: (e ++ [tSemi])) ∨ (∃ e,IsExpr v e∧ts = tAssume :: (e ++ [tSemi])) ∨ (∃ e,IsExpr v e∧ts = tX :: tEq :: tP :: tOpen :: (e ++ [tShut,tSemi])) ∨ (∃ e,IsExpr v e∧ts = tP :: tOpen :: (e ++ [tShut,tSemi])) ∨ ts = [tAcq,tM,tSemi] ∨ ts = [tAcq,tN,tSemi] ∨ ts = [tRel,tM,tSemi] ∨ ts = [tRel,tN,tSemi] ∨ ts = [tSkip,tSemi] ∨ ts = [tQ,tOpen,tShut,tSemi] ∨ ts = [tY,tEq,tQ,tOpen,tShut,tSemi]
theorem IsSmp.setX {v:Bool} {e:List ByteArray} (h:IsExpr v e):IsSmp v (tX :: tEq :: (e ++ [tSemi])):=(.inl ⟨e,h,rfl⟩)
theorem IsSmp.setY {v:Bool} {e:List ByteArray} (h:IsExpr v e):IsSmp v (tY :: tEq :: (e ++ [tSemi])):=(.inr (.inl ⟨e,h,rfl⟩))
theorem IsSmp.ret {v:Bool} {e:List ByteArray} (h:IsExpr v e):IsSmp v (tRet :: (e ++ [tSemi])):=(.inr (.inr (.inl ⟨e,h,rfl⟩)))
theorem IsSmp.assume {v:Bool} {e:List ByteArray} (h:IsExpr v e):IsSmp v (tAssume :: (e ++ [tSemi])):=(.inr (.inr (.inr (.inl ⟨e,h,rfl⟩))))
theorem IsSmp.setP {v:Bool} {e:List ByteArray} (h:IsExpr v e):IsSmp v (tX :: tEq :: tP :: tOpen :: (e ++ [tShut,tSemi])):=(.inr (.inr (.inr (.inr (.inl ⟨e,h,rfl⟩)))))
theorem IsSmp.callP {v:Bool} {e:List ByteArray} (h:IsExpr v e):IsSmp v (tP :: tOpen :: (e ++ [tShut,tSemi])):=(.inr (.inr (.inr (.inr (.inr (.inl ⟨e,h,rfl⟩))))))
theorem IsSmp.acqM {v:Bool}:IsSmp v [tAcq,tM,tSemi]:=(.inr (.inr (.inr (.inr (.inr (.inr (.inl rfl)))))))
theorem IsSmp.acqN {v:Bool}:IsSmp v [tAcq,tN,tSemi]:=(.inr (.inr (.inr (.inr (.inr (.inr (.inr (.inl rfl))))))))
theorem IsSmp.relM {v:Bool}:IsSmp v [tRel,tM,tSemi]:=(.inr (.inr (.inr (.inr (.inr (.inr (.inr (.inr (.inl rfl)))))))))
theorem IsSmp.relN {v:Bool}:IsSmp v [tRel,tN,tSemi]:=(.inr (.inr (.inr (.inr (.inr (.inr (.inr (.inr (.inr (.inl rfl))))))))))
theorem IsSmp.skip {v:Bool}:IsSmp v [tSkip,tSemi]:=(.inr (.inr (.inr (.inr (.inr (.inr (.inr (.inr (.inr (.inr (.inl rfl)))))))))))
theorem IsSmp.callQ {v:Bool}:IsSmp v [tQ,tOpen,tShut,tSemi]:=(.inr (.inr (.inr (.inr (.inr (.inr (.inr (.inr (.inr (.inr (.inr (.inl rfl))))))))))))
theorem IsSmp.setQ {v:Bool}:IsSmp v [tY,tEq,tQ,tOpen,tShut,tSemi]:=(.inr (.inr (.inr (.inr (.inr (.inr (.inr (.inr (.inr (.inr (.inr (.inr rfl))))))))))))
def BkW (st:List ByteArray→Prop) (ts:List ByteArray):Prop:=∃ l:List (List ByteArray),(∀ a ∈ l,st a)∧ts = tBO :: (l.flatten ++ [tBS])
def StW (v:Bool):Nat→List ByteArray→Prop
 | 0,ts=>IsSmp v ts
 | d + 1,ts=>IsSmp v ts ∨ (∃ e b,IsExpr v e∧BkW (StW v d) b∧ts = tIf :: tOpen :: (e ++ tShut :: b)) ∨ (∃ e b c,IsExpr v e∧BkW (StW v d) b∧BkW (StW v d) c∧ts = tIf :: tOpen :: (e ++ tShut :: (b ++ tElse :: c))) ∨ ∃ e b,IsExpr v e∧BkW (StW v d) b∧ts = tWhile :: tOpen :: (e ++ tShut :: b)
def Wr (v:Bool) (k d:Nat) (ts:List ByteArray):Prop:=if k = 0 then BkW (StW v d) ts else if k = 1 then ∃ l:List (List ByteArray),(∀ a ∈ l,StW v d a)∧ts = l.flatten else StW v d ts
theorem Wr.block {v:Bool} {d:Nat} {ts:List ByteArray} (h:Wr v 1 d ts):Wr v 0 d (tBO :: (ts ++ [tBS])):=by
 obtain ⟨l,h1,rfl⟩:=h
 exact ⟨l,h1,rfl⟩
theorem Wr.nil {v:Bool} {d:Nat}:Wr v 1 d []:=⟨[],(fun _ h=>by cases h),rfl⟩
theorem Wr.cons {v:Bool} {d:Nat} {a b:List ByteArray} (h:Wr v 2 d a) (k:Wr v 1 d b):Wr v 1 d (a ++ b):=by
 obtain ⟨l,h1,rfl⟩:=k
 refine ⟨a :: l,fun x hx=>?_,rfl⟩
 rcases List.mem_cons.1 hx with e | e
 ·rw [e]; exact h
 ·exact h1 x e
theorem Wr.simple {v:Bool} {d:Nat} {ts:List ByteArray} (h:IsSmp v ts):Wr v 2 d ts:=by
 cases d with
 | zero=>exact h
 | succ d=>exact .inl h
theorem Wr.one {v:Bool} {d:Nat} {e b:List ByteArray} (h:IsExpr v e) (k:Wr v 0 d b):Wr v 2 (d + 1) (tIf :: tOpen :: (e ++ tShut :: b)):=.inr (.inl ⟨e,b,h,k,rfl⟩)
theorem Wr.two {v:Bool} {d:Nat} {e b c:List ByteArray} (h:IsExpr v e) (k:Wr v 0 d b) (l:Wr v 0 d c):Wr v 2 (d + 1) (tIf :: tOpen :: (e ++ tShut :: (b ++ tElse :: c))):=.inr (.inr (.inl ⟨e,b,c,h,k,l,rfl⟩))
theorem Wr.loop {v:Bool} {d:Nat} {e b:List ByteArray} (h:IsExpr v e) (k:Wr v 0 d b):Wr v 2 (d + 1) (tWhile :: tOpen :: (e ++ tShut :: b)):=.inr (.inr (.inr ⟨e,b,h,k,rfl⟩))
theorem Ad.call {v:Bool} {n:Nat} {σ σ1:PSt} {c:Cl} (h:Ad v n σ σ1) (hc:ClOk c):Ad v n σ { σ1 with calls:=σ1.calls ++ [c] }:=by
 obtain ⟨cs,e3,p3⟩:=h.calls
 refine ⟨h.next,h.ok,h.depth,h.proc,h.names,⟨cs ++ [c],by show σ1.calls ++ [c] = _; rw [e3,List.append_assoc],fun x hx=>?_⟩,h.len⟩
 rcases List.mem_append.1 hx with hx | hx
 ·exact p3 x hx
 ·rw [List.mem_singleton.1 hx]; exact hc
theorem Ad.take {v:Bool} {L:List Tk} {n:Nat} {σ σ1:PSt} {t:ByteArray} (h:Ad v n σ σ1) (ht:tAt L (σ.next + n) = t):Ad v (n + 1) σ (σ1.take L t):=by
 rw [take_is h.ok (by rw [h.next]; exact ht)]
 exact h.trans (Ad.step v h.ok)
theorem Ad.nm {v:Bool} {L:List Tk} {n:Nat} {σ σ1:PSt} {t:ByteArray} {role:Nat} (h:Ad v n σ σ1) (ht:tAt L (σ.next + n) = t) (hn:isNameB t = true) (hu:∀ q,UseOk v σ.proc ⟨t,q,role,σ.proc⟩):Ad v (n + 1) σ (σ1.takeName L role) :=
 h.trans (Ad.name h.ok (by rw [h.next]; exact ht) hn (by rw [h.proc]; exact hu))
end RR
namespace RR
open Go Go.RowKit
def nk (n:Nm):ByteArray × Nat × Int:=(n.word,n.role,n.proc)
structure Dc (l:List (ByteArray × Nat × Int)) (n:Nat) (σ σ':PSt):Prop where
 next:σ'.next = σ.next + n
 ok:σ'.failed = false
 depth:σ'.depth = σ.depth
 proc:σ'.proc = σ.proc
 names:∃ ns,σ'.names = σ.names ++ ns∧ns.map nk = l
 calls:σ'.calls = σ.calls
theorem Dc.refl {σ:PSt} (h:σ.failed = false):Dc [] 0 σ σ:=⟨rfl,h,rfl,rfl,⟨[],(List.append_nil _).symm,rfl⟩,rfl⟩
theorem Dc.trans {l m:List (ByteArray × Nat × Int)} {i j:Nat} {a b c:PSt} (h:Dc l i a b) (k:Dc m j b c):Dc (l ++ m) (i + j) a c:=by
 obtain ⟨ns,e1,p1⟩:=h.names
 obtain ⟨ms,e2,p2⟩:=k.names
 exact ⟨by rw [k.next,h.next]; omega,k.ok,k.depth.trans h.depth,k.proc.trans h.proc,⟨ns ++ ms,by rw [e2,e1,List.append_assoc],by rw [List.map_append,p1,p2]⟩,k.calls.trans h.calls⟩
theorem Dc.step {l:List (ByteArray × Nat × Int)} {i:Nat} {a b:PSt} (h:Dc l i a b):Dc l (i + 1) a b.step :=
 ⟨by show b.next + 1 = _; rw [h.next]; omega,h.ok,h.depth,h.proc,h.names,h.calls⟩
theorem Dc.take {L:List Tk} {l:List (ByteArray × Nat × Int)} {i:Nat} {a b:PSt} {t:ByteArray} (h:Dc l i a b) (ht:tAt L (a.next + i) = t):Dc l (i + 1) a (b.take L t):=by
 rw [take_is h.ok (by rw [h.next]; exact ht)]
 exact h.step
theorem Dc.name {L:List Tk} {l:List (ByteArray × Nat × Int)} {i:Nat} {a b:PSt} {t:ByteArray} (h:Dc l i a b) (role:Nat) (ht:tAt L (a.next + i) = t) (hn:isNameB t = true):Dc (l ++ [(t,role,a.proc)]) (i + 1) a (b.takeName L role):=by
 obtain ⟨ns,e1,p1⟩:=h.names
 unfold PSt.takeName
 rw [ahead_is (t:=t) h.ok (by rw [h.next]; exact ht),if_pos hn]
 exact ⟨by show b.next + 1 = _; rw [h.next]; omega,h.ok,h.depth,h.proc,⟨ns ++ [_],by show b.names ++ _ = _; rw [e1,List.append_assoc],by rw [List.map_append,p1,List.map_cons,List.map_nil]; show l ++ [(t,role,b.proc)] = _; rw [h.proc]⟩,h.calls⟩
structure PgOut (σ:PSt) (n:Nat):Prop where
 ok:σ.failed = false
 names:∃ a us b vs ts,σ.names = a ++ (us ++ (b ++ (vs ++ ts)))∧a.map nk = [(tX,0,-1),(tY,0,-1),(tM,1,-1),(tN,1,-1),(tP,2,0),(tV,3,0)]∧b.map nk = [(tQ,2,1)]∧(∀ x ∈ us,UseOk true 0 x)∧(∀ x ∈ vs,UseOk false 1 x)∧ts.length = n∧(∀ x ∈ ts,x.role = 7∧(x.word = tP ∨ x.word = tQ))
 calls:∀ x ∈ σ.calls,ClOk x
end RR
namespace RR
open Go Go.RowKit
abbrev tB:ByteArray:=⟨#[32]⟩
def nxW (raw:ByteArray) (n i:Nat):Nat × Nat:=if i < raw.size then ((byteAt raw i).toNat % n,i + 1) else (0,i)
theorem nxW_lt (raw:ByteArray) {n:Nat} (i:Nat) (h:0 < n):(nxW raw n i).1 < n:=by
 unfold nxW
 split
 ·exact Nat.mod_lt _ h
 ·exact h
def atomW:Nat→ByteArray
 | 0=>tX
 | 1=>tY
 | 2=>tX
 | 3=>tAsk
 | 4=>tTrue
 | 5=>tFalse
 | 6=>tY
 | _=>tV
def atomN (v:Bool) (k:Nat):Nat:=if k = 7∧v = false then 1 else k
def leafW (raw:ByteArray) (v:Bool) (i:Nat):List ByteArray × Nat :=
 (if (nxW raw 4 (nxW raw 8 i).2).1 = 1 then [tBang,atomW (atomN v (nxW raw 8 i).1)] else [atomW (atomN v (nxW raw 8 i).1)],(nxW raw 4 (nxW raw 8 i).2).2)
def exprW (raw:ByteArray) (v:Bool) (i:Nat):List ByteArray × Nat :=
 let a:=leafW raw v i
 let k:=nxW raw 5 a.2
 if k.1 = 1 then (a.1 ++ ([tB,tAnd,tB] ++ (leafW raw v k.2).1),(leafW raw v k.2).2)
 else if k.1 = 2 then (a.1 ++ ([tB,tOr,tB] ++ (leafW raw v k.2).1),(leafW raw v k.2).2)
 else if k.1 = 3 then ([tOpen] ++ (a.1 ++ ([tB,tOr,tB] ++ ((leafW raw v k.2).1 ++ ([tShut,tB,tAnd,tB] ++ (leafW raw v (leafW raw v k.2).2).1)))),(leafW raw v (leafW raw v k.2).2).2)
 else (a.1,k.2)
structure WS where
 at_:Nat
 room:Int
 ps:List ByteArray
def WS.put (w:WS) (p:List ByteArray):WS:={ w with ps:=w.ps ++ p,room:=w.room - (flat p).size }
def WS.to_ (w:WS) (i:Nat):WS:={ w with at_:=i }
def headW:Nat→List ByteArray
 | 0=>[tX,tB,tEq,tB]
 | 1=>[tY,tB,tEq,tB]
 | 2=>[tX,tB,tEq,tB]
 | 3=>[tAcq,tB,tM,tSemi,tB]
 | 4=>[tRel,tB,tM,tSemi,tB]
 | 5=>[tAcq,tB,tN,tSemi,tB]
 | 6=>[tRel,tB,tN,tSemi,tB]
 | 7=>[tSkip,tSemi,tB]
 | 8=>[tQ,tOpen,tShut,tSemi,tB]
 | 9=>[tRet,tB]
 | 10=>[tIf,tB,tOpen]
 | 11=>[tWhile,tB,tOpen]
 | 12=>[tAssume,tB]
 | 13=>[tX,tB,tEq,tB,tP,tOpen]
 | 14=>[tP,tOpen]
 | _=>[tY,tB,tEq,tB,tQ,tOpen,tShut,tSemi,tB]
def loopW (st:WS→WS):Nat→WS→WS
 | 0,w=>w
 | n + 1,w=>if 60 < w.room then loopW st n (st w) else w
def blockW (raw:ByteArray) (st:WS→WS) (w:WS):WS :=
 (loopW st (nxW raw 4 (w.put [tBO,tB]).at_).1 ((w.put [tBO,tB]).to_ (nxW raw 4 (w.put [tBO,tB]).at_).2)).put [tBS,tB]
def tailW (raw:ByteArray) (v:Bool) (w:WS) (e:List ByteArray):WS:=(w.to_ (exprW raw v w.at_).2).put ((exprW raw v w.at_).1 ++ e)
def elseW (raw:ByteArray) (blk:WS→WS) (w:WS):WS :=
 if (nxW raw 2 w.at_).1 = 1∧60 < w.room then blk ((w.to_ (nxW raw 2 w.at_).2).put [tElse,tB]) else w.to_ (nxW raw 2 w.at_).2
def kindW (raw:ByteArray) (v:Bool) (blk:WS→WS) (k:Nat) (w:WS):WS :=
 if k = 0 ∨ k = 1 ∨ k = 2 ∨ k = 9 ∨ k = 12 then tailW raw v w [tSemi,tB]
 else if k = 13 ∨ k = 14 then tailW raw v w [tShut,tSemi,tB]
 else if k = 10 then elseW raw blk (blk (tailW raw v w [tShut,tB]))
 else if k = 11 then blk (tailW raw v w [tShut,tB])
 else w
def kindN (d k:Nat):Nat:=if d = 0∧(k = 10 ∨ k = 11) then 0 else k
def stmtW (raw:ByteArray) (v:Bool):Nat→WS→WS
 | 0,w=>kindW raw v id (kindN 0 (nxW raw 16 w.at_).1) ((w.to_ (nxW raw 16 w.at_).2).put (headW (kindN 0 (nxW raw 16 w.at_).1)))
 | d + 1,w=>kindW raw v (blockW raw (stmtW raw v d)) (kindN (d + 1) (nxW raw 16 w.at_).1) ((w.to_ (nxW raw 16 w.at_).2).put (headW (kindN (d + 1) (nxW raw 16 w.at_).1)))
structure Row (ps ts:List ByteArray) (n:Nat):Prop where
 adj:∃ c,adj false ps = some c
 toks:toksP ps = ts
 size:(flat ps).size ≤ n
theorem size_flat_app (a b:List ByteArray):(flat (a ++ b)).size = (flat a).size + (flat b).size:=by rw [flat_app,ByteArray.size_append]
theorem Row.app {a b ts us:List ByteArray} {n m:Nat} {m0:List ByteArray} {mt:List ByteArray} {k:Nat} (ha:Row a ts n) (hm:∀ c,RR.adj c m0 = some false) (ht:toksP m0 = mt) (hk:(flat m0).size = k) (hb:Row b us m):Row (a ++ (m0 ++ b)) (ts ++ (mt ++ us)) (n + (k + m)):=by
 obtain ⟨c,e⟩:=ha.adj
 obtain ⟨d,e2⟩:=hb.adj
 refine ⟨⟨d,?_⟩,?_,?_⟩
 ·rw [adj_app,e,Option.bind_some,adj_app,hm,Option.bind_some,e2]
 ·rw [toksP_app,toksP_app,ha.toks,ht,hb.toks]
 ·rw [size_flat_app,size_flat_app,hk]
  have:=ha.size
  have:=hb.size
  omega
theorem leaf_row (raw:ByteArray) (v:Bool) (i:Nat):∃ ts,IsLeaf v ts∧Row (leafW raw v i).1 ts 6:=by
 have at_ok:∀ k,k < 8→IsAtom v (atomW (atomN v k))∧toksP [atomW (atomN v k)] = [atomW (atomN v k)]∧(∃ c,adj false [atomW (atomN v k)] = some c)∧(flat [atomW (atomN v k)]).size ≤ 5:=by
  intro k hk
  match k,hk with
  | 0,_=>exact ⟨.inl rfl,rfl,⟨_,rfl⟩,by cases v <;> decide⟩
  | 1,_=>exact ⟨.inr (.inl rfl),rfl,⟨_,rfl⟩,by cases v <;> decide⟩
  | 2,_=>exact ⟨.inl rfl,rfl,⟨_,rfl⟩,by cases v <;> decide⟩
  | 3,_=>exact ⟨.inr (.inr (.inr (.inl rfl))),rfl,⟨_,rfl⟩,by cases v <;> decide⟩
  | 4,_=>exact ⟨.inr (.inr (.inr (.inr (.inl rfl)))),rfl,⟨_,rfl⟩,by cases v <;> decide⟩
  | 5,_=>exact ⟨.inr (.inr (.inr (.inr (.inr rfl)))),rfl,⟨_,rfl⟩,by cases v <;> decide⟩
  | 6,_=>exact ⟨.inr (.inl rfl),rfl,⟨_,rfl⟩,by cases v <;> decide⟩
  | 7,_ =>
   cases v
   ·exact ⟨.inr (.inl rfl),rfl,⟨_,rfl⟩,by decide⟩
   ·exact ⟨.inr (.inr (.inl ⟨rfl,rfl⟩)),rfl,⟨_,rfl⟩,by decide⟩
  | k + 8,h=>omega
 obtain ⟨h1,h2,⟨c,h3⟩,h4⟩:=at_ok _ (nxW_lt raw i (n:=8) (by decide))
 unfold leafW
 generalize atomW (atomN v (nxW raw 8 i).1) = t at *
 simp only []
 split
 ·refine ⟨[tBang,t],.neg h1,⟨c,h3⟩,?_,?_⟩
  ·show toksP ([tBang] ++ [t]) = _
   rw [toksP_app,h2]; rfl
  ·show (flat ([tBang] ++ [t])).size ≤ 6
   rw [size_flat_app]
   have:(flat [tBang]).size = 1:=rfl
   omega
 ·exact ⟨[t],.plain h1,⟨c,h3⟩,h2,by omega⟩
theorem expr_row (raw:ByteArray) (v:Bool) (i:Nat):∃ ts,IsExpr v ts∧Row (exprW raw v i).1 ts 26:=by
 unfold exprW
 obtain ⟨a,ha,ra⟩:=leaf_row raw v i
 simp only []
 generalize leafW raw v i = la at *
 generalize nxW raw 5 la.2 = k at *
 obtain ⟨b,hb,rb⟩:=leaf_row raw v k.2
 generalize leafW raw v k.2 = lb at *
 obtain ⟨c,hc,rc⟩:=leaf_row raw v lb.2
 generalize leafW raw v lb.2 = lc at *
 split
 ·have r:=ra.app (m0:=[tB,tAnd,tB]) (fun _=>rfl) rfl rfl rb
  exact ⟨_,.conj ha hb,r.adj,r.toks,Nat.le_trans r.size (by decide)⟩
 split
 ·have r:=ra.app (m0:=[tB,tOr,tB]) (fun _=>rfl) rfl rfl rb
  exact ⟨_,.disj ha hb,r.adj,r.toks,Nat.le_trans r.size (by decide)⟩
 split
 ·have r1:=rb.app (m0:=[tShut,tB,tAnd,tB]) (fun _=>rfl) rfl rfl rc
  have r2:=ra.app (m0:=[tB,tOr,tB]) (fun _=>rfl) rfl rfl r1
  have r0:Row [] [] 0:=⟨⟨false,rfl⟩,rfl,Nat.le_refl _⟩
  have r3:=r0.app (m0:=[tOpen]) (fun _=>rfl) rfl rfl r2
  exact ⟨_,.both ha hb hc,r3.adj,r3.toks,Nat.le_trans r3.size (by decide)⟩
 ·exact ⟨a,.leaf ha,ra.adj,ra.toks,Nat.le_trans ra.size (by decide)⟩
structure More (w w':WS) (ps:List ByteArray) (ts:List ByteArray):Prop where
 pcs:w'.ps = w.ps ++ ps
 room:w'.room = w.room - (flat ps).size
 adj:adj false ps = some false
 toks:toksP ps = ts
theorem More.trans {a b c:WS} {p q s t:List ByteArray} (h:More a b p s) (k:More b c q t):More a c (p ++ q) (s ++ t) :=
 ⟨by rw [k.pcs,h.pcs,List.append_assoc],by rw [k.room,h.room,size_flat_app]; omega,by rw [adj_app,h.adj,Option.bind_some,k.adj],by rw [toksP_app,h.toks,k.toks]⟩
theorem More.put (w:WS) {p t:List ByteArray} (h:RR.adj false p = some false) (ht:toksP p = t):More w (w.put p) p t:=⟨rfl,rfl,h,ht⟩
theorem More.to {w w':WS} {p t:List ByteArray} (h:More w w' p t) (i:Nat):More w (w'.to_ i) p t:=⟨h.pcs,h.room,h.adj,h.toks⟩
theorem More.of {w w':WS} {p t:List ByteArray} {i:Nat} (h:More (w.to_ i) w' p t):More w w' p t:=⟨h.pcs,h.room,h.adj,h.toks⟩
theorem More.nil (w:WS):More w w [] []:=⟨(List.append_nil _).symm,by show w.room = w.room - (0:Nat); omega,rfl,rfl⟩
theorem tail_more (raw:ByteArray) (v:Bool) (w:WS) (e t:List ByteArray) (n:Nat) (he:∀ c,adj c e = some false) (ht:toksP e = t) (hn:(flat e).size = n):∃ ps ts,IsExpr v ts∧More w (tailW raw v w e) ps (ts ++ t)∧(flat ps).size ≤ 26 + n:=by
 obtain ⟨ts,h1,r⟩:=expr_row raw v w.at_
 obtain ⟨c,hc⟩:=r.adj
 refine ⟨(exprW raw v w.at_).1 ++ e,ts,h1,⟨rfl,rfl,?_,?_⟩,?_⟩
 ·rw [adj_app,hc,Option.bind_some,he]
 ·rw [toksP_app,r.toks,ht]
 ·rw [size_flat_app,hn]; have:=r.size; omega
def StOk (v:Bool) (d:Nat) (st:WS→WS):Prop:=∀ w,∃ ps ts,More w (st w) ps ts∧Wr v 2 d ts∧(60 < w.room→22 - 2 * (d:Int) ≤ (st w).room)
def BkOk (v:Bool) (d:Nat) (blk:WS→WS):Prop:=∀ w,∃ ps ts,More w (blk w) ps ts∧Wr v 0 d ts∧(w.room - 4 ≤ (blk w).room ∨ 20 - 2 * (d:Int) ≤ (blk w).room)
theorem loop_ok {v:Bool} {d:Nat} {st:WS→WS} (h:StOk v d st):∀ (n:Nat) (w:WS),∃ ps ts,More w (loopW st n w) ps ts∧Wr v 1 d ts∧(w.room ≤ (loopW st n w).room ∨ 22 - 2 * (d:Int) ≤ (loopW st n w).room)
 | 0,w=>⟨[],[],More.nil w,.nil,.inl (Int.le_refl _)⟩
 | n + 1,w=>by
  by_cases hr:60 < w.room
  ·obtain ⟨p1,t1,m1,w1,r1⟩:=h w
   obtain ⟨p2,t2,m2,w2,r2⟩:=loop_ok h n (st w)
   have e:loopW st (n + 1) w = loopW st n (st w):=by rw [loopW,if_pos hr]
   rw [e]
   exact ⟨_,_,m1.trans m2,.cons w1 w2,.inr (by have:=r1 hr; omega)⟩
  ·have e:loopW st (n + 1) w = w:=by rw [loopW,if_neg hr]
   rw [e]
   exact ⟨[],[],More.nil w,.nil,.inl (Int.le_refl _)⟩
theorem block_ok {v:Bool} {d:Nat} {st:WS→WS} (raw:ByteArray) (h:StOk v d st):BkOk v d (blockW raw st):=fun w=>by
 have m0:=More.put w (p:=[tBO,tB]) (t:=[tBO]) rfl rfl
 have r0:(w.put [tBO,tB]).room = w.room - 2:=rfl
 unfold blockW
 generalize w.put [tBO,tB] = w0 at *
 have r1:(w0.to_ (nxW raw 4 w0.at_).2).room = w0.room:=rfl
 have m1:=m0.to (nxW raw 4 w0.at_).2
 generalize w0.to_ (nxW raw 4 w0.at_).2 = w1 at *
 obtain ⟨ps,ts,m2,hw,hr⟩:=loop_ok h (nxW raw 4 w0.at_).1 w1
 generalize loopW st (nxW raw 4 w0.at_).1 w1 = w2 at *
 have m3:=More.put w2 (p:=[tBS,tB]) (t:=[tBS]) rfl rfl
 have r3:(w2.put [tBS,tB]).room = w2.room - 2:=rfl
 refine ⟨_,_,(m1.trans m2).trans m3,.block hw,?_⟩
 rw [r3]
 rcases hr with hr | hr
 ·exact .inl (by omega)
 ·exact .inr (by omega)
theorem kindN_zero {k:Nat}:kindN 0 k ≠ 10∧kindN 0 k ≠ 11:=by
 unfold kindN
 split <;> omega
theorem kind_ok {raw:ByteArray} {v:Bool} {d:Nat} {blk:WS→WS} {k:Nat} (hk:k < 16) (hb:(k = 10 ∨ k = 11)→∃ d',d = d' + 1∧BkOk v d' blk) (w:WS):∃ ps ts,More w (kindW raw v blk k (w.put (headW k))) ps ts∧Wr v 2 d ts∧(60 < w.room→22 - 2 * (d:Int) ≤ (kindW raw v blk k (w.put (headW k))).room):=by
 have tl:∀ (hd ht e et:List ByteArray) (n m:Nat),adj false hd = some false→toksP hd = ht→(flat hd).size = n→(∀ c,adj c e = some false)→toksP e = et→(flat e).size = m→n + m ≤ 9→∃ ps ts,IsExpr v ts∧More w (tailW raw v (w.put hd) e) ps (ht ++ (ts ++ et))∧w.room - 35 ≤ (tailW raw v (w.put hd) e).room:=by
  intro hd ht e et n m h1 h2 h3 h4 h5 h6 h7
  have m0:=More.put w h1 h2
  obtain ⟨ps,ts,i,m1,s⟩:=tail_more raw v (w.put hd) e et m h4 h5 h6
  refine ⟨_,ts,i,m0.trans m1,?_⟩
  rw [(m0.trans m1).room,size_flat_app,h3]; omega
 have fin:∀ (hd ht:List ByteArray) (n:Nat),adj false hd = some false→toksP hd = ht→(flat hd).size = n→n ≤ 38→IsSmp v ht→∃ ps ts,More w (w.put hd) ps ts∧Wr v 2 d ts∧(60 < w.room→22 - 2 * (d:Int) ≤ (w.put hd).room):=by
  intro hd ht n h1 h2 h3 h4 h5
  have m0:=More.put w h1 h2
  exact ⟨_,_,m0,.simple h5,fun _=>by rw [m0.room,h3]; omega⟩
 have smp:∀ {hd ht e et:List ByteArray},(∃ ps ts,IsExpr v ts∧More w (tailW raw v (w.put hd) e) ps (ht ++ (ts ++ et))∧w.room - 35 ≤ (tailW raw v (w.put hd) e).room)→(∀ ts,IsExpr v ts→IsSmp v (ht ++ (ts ++ et)))→∃ ps ts,More w (tailW raw v (w.put hd) e) ps ts∧Wr v 2 d ts∧(60 < w.room→22 - 2 * (d:Int) ≤ (tailW raw v (w.put hd) e).room):=by
  rintro hd ht e et ⟨ps,ts,i,m,r⟩ hs
  exact ⟨ps,_,m,.simple (hs ts i),fun _=>by omega⟩
 match k,hk with
 | 0,_=>exact smp (tl _ _ _ _ _ _ rfl rfl rfl (fun _=>rfl) rfl rfl (by decide)) fun ts i=>IsSmp.setX i
 | 1,_=>exact smp (tl _ _ _ _ _ _ rfl rfl rfl (fun _=>rfl) rfl rfl (by decide)) fun ts i=>IsSmp.setY i
 | 2,_=>exact smp (tl _ _ _ _ _ _ rfl rfl rfl (fun _=>rfl) rfl rfl (by decide)) fun ts i=>IsSmp.setX i
 | 3,_=>exact fin _ _ _ rfl rfl rfl (by decide) .acqM
 | 4,_=>exact fin _ _ _ rfl rfl rfl (by decide) .relM
 | 5,_=>exact fin _ _ _ rfl rfl rfl (by decide) .acqN
 | 6,_=>exact fin _ _ _ rfl rfl rfl (by decide) .relN
 | 7,_=>exact fin _ _ _ rfl rfl rfl (by decide) .skip
 | 8,_=>exact fin _ _ _ rfl rfl rfl (by decide) .callQ
 | 9,_=>exact smp (tl _ _ _ _ _ _ rfl rfl rfl (fun _=>rfl) rfl rfl (by decide)) fun ts i=>IsSmp.ret i
 | 10,_ =>
  obtain ⟨d',rfl,hB⟩:=hb (.inl rfl)
  obtain ⟨p1,e,i,m1,r1⟩:=tl (headW 10) [tIf,tOpen] [tShut,tB] [tShut] 4 2 rfl rfl rfl (fun _=>rfl) rfl rfl (by decide)
  show ∃ ps ts,More w (elseW raw blk (blk (tailW raw v (w.put (headW 10)) [tShut,tB]))) ps ts∧_∧(_→_ ≤ (elseW raw blk (blk (tailW raw v (w.put (headW 10)) [tShut,tB]))).room)
  generalize tailW raw v (w.put (headW 10)) [tShut,tB] = w1 at *
  obtain ⟨p2,b,m2,wb,r2⟩:=hB w1
  generalize blk w1 = w2 at *
  unfold elseW
  by_cases hc:(nxW raw 2 w2.at_).1 = 1∧60 < w2.room
  ·rw [if_pos hc]
   have m3:More w2 ((w2.to_ (nxW raw 2 w2.at_).2).put [tElse,tB]) [tElse,tB] [tElse]:=(More.put (w2.to_ (nxW raw 2 w2.at_).2) rfl rfl).of
   have r3:((w2.to_ (nxW raw 2 w2.at_).2).put [tElse,tB]).room = w2.room - 5:=rfl
   generalize (w2.to_ (nxW raw 2 w2.at_).2).put [tElse,tB] = w3 at *
   obtain ⟨p4,c,m4,wc,r4⟩:=hB w3
   generalize blk w3 = w4 at *
   have m5:=(m1.trans m2).trans (m3.trans m4)
   refine ⟨_,_,m5,?_,fun _=>by omega⟩
   have e1:[tIf,tOpen] ++ (e ++ [tShut]) ++ b ++ ([tElse] ++ c) = tIf :: tOpen :: (e ++ tShut :: (b ++ tElse :: c)):=by simp
   rw [e1]
   exact .two i wb wc
  ·rw [if_neg hc]
   have m3:=((m1.trans m2).to (nxW raw 2 w2.at_).2)
   have r3:(w2.to_ (nxW raw 2 w2.at_).2).room = w2.room:=rfl
   refine ⟨_,_,m3,?_,fun _=>by rw [r3]; omega⟩
   have e1:[tIf,tOpen] ++ (e ++ [tShut]) ++ b = tIf :: tOpen :: (e ++ tShut :: b):=by simp
   rw [e1]
   exact .one i wb
 | 11,_ =>
  obtain ⟨d',rfl,hB⟩:=hb (.inr rfl)
  obtain ⟨p1,e,i,m1,r1⟩:=tl (headW 11) [tWhile,tOpen] [tShut,tB] [tShut] 7 2 rfl rfl rfl (fun _=>rfl) rfl rfl (by decide)
  show ∃ ps ts,More w (blk (tailW raw v (w.put (headW 11)) [tShut,tB])) ps ts∧_∧(_→_ ≤ (blk (tailW raw v (w.put (headW 11)) [tShut,tB])).room)
  generalize tailW raw v (w.put (headW 11)) [tShut,tB] = w1 at *
  obtain ⟨p2,b,m2,wb,r2⟩:=hB w1
  generalize blk w1 = w2 at *
  refine ⟨_,_,m1.trans m2,?_,fun _=>by omega⟩
  have e1:[tWhile,tOpen] ++ (e ++ [tShut]) ++ b = tWhile :: tOpen :: (e ++ tShut :: b):=by simp
  rw [e1]
  exact .loop i wb
 | 12,_=>exact smp (tl _ _ _ _ _ _ rfl rfl rfl (fun _=>rfl) rfl rfl (by decide)) fun ts i=>IsSmp.assume i
 | 13,_=>exact smp (tl _ _ _ _ _ _ rfl rfl rfl (fun _=>rfl) rfl rfl (by decide)) fun ts i=>IsSmp.setP i
 | 14,_=>exact smp (tl _ _ _ _ _ _ rfl rfl rfl (fun _=>rfl) rfl rfl (by decide)) fun ts i=>IsSmp.callP i
 | 15,_=>exact fin _ _ _ rfl rfl rfl (by decide) .setQ
 | k + 16,h=>omega
theorem stmt_ok (raw:ByteArray) (v:Bool):∀ d,StOk v d (stmtW raw v d)
 | 0=>fun w=>by
  have hk:kindN 0 (nxW raw 16 w.at_).1 < 16:=by have:=nxW_lt raw w.at_ (n:=16) (by decide); unfold kindN; split <;> omega
  obtain ⟨ps,ts,m,hw,hr⟩:=kind_ok (raw:=raw) (v:=v) (d:=0) (blk:=id) hk (fun h=>absurd h (by have:=kindN_zero (k:=(nxW raw 16 w.at_).1); omega)) (w.to_ (nxW raw 16 w.at_).2)
  exact ⟨ps,ts,m.of,hw,hr⟩
 | d + 1=>fun w=>by
  have hk:kindN (d + 1) (nxW raw 16 w.at_).1 < 16:=by have:=nxW_lt raw w.at_ (n:=16) (by decide); unfold kindN; split <;> omega
  obtain ⟨ps,ts,m,hw,hr⟩:=kind_ok (raw:=raw) (v:=v) (d:=d + 1) (blk:=blockW raw (stmtW raw v d)) hk (fun _=>⟨d,rfl,block_ok raw (stmt_ok raw v d)⟩) (w.to_ (nxW raw 16 w.at_).2)
  exact ⟨ps,ts,m.of,hw,hr⟩
end RR
namespace RR
open Go Go.RowKit
theorem nx_in (raw:ByteArray) (n:Nat) {i:Nat} (h:i ≤ raw.size):(nxW raw n i).2 ≤ raw.size:=by
 unfold nxW
 split
 ·show i + 1 ≤ _; omega
 ·exact h
theorem leaf_in (raw:ByteArray) (v:Bool) {i:Nat} (h:i ≤ raw.size):(leafW raw v i).2 ≤ raw.size:=nx_in raw 4 (nx_in raw 8 h)
theorem expr_in (raw:ByteArray) (v:Bool) {i:Nat} (h:i ≤ raw.size):(exprW raw v i).2 ≤ raw.size:=by
 have h1:=nx_in raw 5 (leaf_in raw v h)
 unfold exprW
 simp only []
 split
 ·exact leaf_in raw v h1
 split
 ·exact leaf_in raw v h1
 split
 ·exact leaf_in raw v (leaf_in raw v h1)
 ·exact h1
theorem tail_in (raw:ByteArray) (v:Bool) (w:WS) (e:List ByteArray) (h:w.at_ ≤ raw.size):(tailW raw v w e).at_ ≤ raw.size:=expr_in raw v h
theorem loop_in {raw:ByteArray} {st:WS→WS} (hs:∀ w:WS,w.at_ ≤ raw.size→(st w).at_ ≤ raw.size):∀ (n:Nat) (w:WS),w.at_ ≤ raw.size→(loopW st n w).at_ ≤ raw.size
 | 0,_,h=>h
 | n + 1,w,h=>by
  rw [loopW]
  split
  ·exact loop_in hs n _ (hs w h)
  ·exact h
theorem block_in {raw:ByteArray} {st:WS→WS} (hs:∀ w:WS,w.at_ ≤ raw.size→(st w).at_ ≤ raw.size) (w:WS) (h:w.at_ ≤ raw.size):(blockW raw st w).at_ ≤ raw.size:=loop_in hs _ _ (nx_in raw 4 h)
theorem kind_in {raw:ByteArray} {v:Bool} {blk:WS→WS} (hb:∀ w:WS,w.at_ ≤ raw.size→(blk w).at_ ≤ raw.size) (k:Nat) (w:WS) (h:w.at_ ≤ raw.size):(kindW raw v blk k w).at_ ≤ raw.size:=by
 unfold kindW
 split
 ·exact tail_in raw v w _ h
 split
 ·exact tail_in raw v w _ h
 split
 ·have h1:=hb _ (tail_in raw v w [tShut,tB] h)
  unfold elseW
  split
  ·exact hb _ (nx_in raw 2 h1)
  ·exact nx_in raw 2 h1
 split
 ·exact hb _ (tail_in raw v w _ h)
 ·exact h
theorem stmt_in (raw:ByteArray) (v:Bool):∀ (d:Nat) (w:WS),w.at_ ≤ raw.size→(stmtW raw v d w).at_ ≤ raw.size
 | 0,_,h=>kind_in (fun _ h=>h) _ _ (nx_in raw 16 h)
 | d + 1,_,h=>kind_in (fun w h=>block_in (stmt_in raw v d) w h) _ _ (nx_in raw 16 h)
structure WFit (raw:ByteArray) (w:WS):Prop where
 at_:w.at_ ≤ raw.size
 sum:(flat w.ps).size + w.room = 400
 low:-100 ≤ w.room
theorem More.sum {w w':WS} {p t:List ByteArray} (h:More w w' p t):((flat w'.ps).size:Int) + w'.room = (flat w.ps).size + w.room:=by
 rw [h.pcs,h.room,size_flat_app]; omega
theorem WFit.of {raw:ByteArray} {w w':WS} {p t:List ByteArray} (h:WFit raw w) (m:More w w' p t) (h1:w'.at_ ≤ raw.size) (h2:-100 ≤ w'.room):WFit raw w':=⟨h1,by rw [m.sum]; exact h.sum,h2⟩
theorem WFit.block {raw:ByteArray} {w:WS} (h:WFit raw w) (v:Bool) (d:Nat) (hd:d ≤ 2) (hr:-50 ≤ w.room):WFit raw (blockW raw (stmtW raw v d) w)∧(w.room - 4 ≤ (blockW raw (stmtW raw v d) w).room ∨ 20 - 2 * (d:Int) ≤ (blockW raw (stmtW raw v d) w).room):=by
 obtain ⟨p,t,m,_,r⟩:=block_ok raw (stmt_ok raw v d) w
 exact ⟨h.of m (block_in (stmt_in raw v d) w h.at_) (by omega),r⟩
theorem WFit.put {raw:ByteArray} {w:WS} (h:WFit raw w) (p:List ByteArray) (hr:-100 ≤ w.room - (flat p).size):WFit raw (w.put p):=⟨h.at_,by
 have:=h.sum
 show ((flat (w.ps ++ p)).size:Int) + (w.room - (flat p).size) = 400
 rw [size_flat_app]; omega,hr⟩
theorem WFit.to {raw:ByteArray} {w:WS} (h:WFit raw w) {i:Nat} (hi:i ≤ raw.size):WFit raw (w.to_ i):=⟨hi,h.sum,h.low⟩
theorem WFit.small {raw:ByteArray} {w:WS} (h:WFit raw w):(flat w.ps).size ≤ 500∧-100 ≤ w.room∧w.room ≤ 400:=by
 have:=h.sum
 have:=h.low
 omega
end RR
