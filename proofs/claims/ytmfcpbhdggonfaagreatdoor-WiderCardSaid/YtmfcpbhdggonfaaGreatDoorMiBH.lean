/- The statements' own writer of programs, as plain functions; what it writes is of the plain kind. No Go here. -/
import Derived.Test.YtmfcpbhdggonfaaGreatDoorMiBF
import Derived.Test.YtmfcpbhdggonfaaGreatDoorMiBG
import Derived.Test.YtmfcpbhdggonfaaGreatDoorMiAA
import Derived.BigQuiet
import Derived.Deep.CutBlock
import Derived.Deep.DeepCutAuto
namespace RR
open Go Go.RowKit
abbrev tB:ByteArray:=⟨#[32]⟩
def nxW (raw:ByteArray) (n i:Nat):Nat × Nat:=if i < raw.size then ((byteAt raw i).toNat % n,i + 1) else (0,i)
theorem nxW_lt (raw:ByteArray) {n:Nat} (i:Nat) (h:0 < n):(nxW raw n i).1 < n:=by
 unfold nxW
 split
 ·exact Nat.mod_lt _ h
 ·exact h
def atomW:Nat→ByteArray
 | 0=>tX
 | 1=>tY
 | 2=>tX
 | 3=>tAsk
 | 4=>tTrue
 | 5=>tFalse
 | 6=>tY
 | _=>tV
def atomN (v:Bool) (k:Nat):Nat:=if k = 7∧v = false then 1 else k
def leafW (raw:ByteArray) (v:Bool) (i:Nat):List ByteArray × Nat :=
 (if (nxW raw 4 (nxW raw 8 i).2).1 = 1 then [tBang,atomW (atomN v (nxW raw 8 i).1)] else [atomW (atomN v (nxW raw 8 i).1)],(nxW raw 4 (nxW raw 8 i).2).2)
def exprW (raw:ByteArray) (v:Bool) (i:Nat):List ByteArray × Nat :=
 let a:=leafW raw v i
 let k:=nxW raw 5 a.2
 if k.1 = 1 then (a.1 ++ ([tB,tAnd,tB] ++ (leafW raw v k.2).1),(leafW raw v k.2).2)
 else if k.1 = 2 then (a.1 ++ ([tB,tOr,tB] ++ (leafW raw v k.2).1),(leafW raw v k.2).2)
 else if k.1 = 3 then ([tOpen] ++ (a.1 ++ ([tB,tOr,tB] ++ ((leafW raw v k.2).1 ++ ([tShut,tB,tAnd,tB] ++ (leafW raw v (leafW raw v k.2).2).1)))),(leafW raw v (leafW raw v k.2).2).2)
 else (a.1,k.2)
structure WS where
 at_:Nat
 room:Int
 ps:List ByteArray
def WS.put (w:WS) (p:List ByteArray):WS:={ w with ps:=w.ps ++ p,room:=w.room - (flat p).size }
def WS.to_ (w:WS) (i:Nat):WS:={ w with at_:=i }
def headW:Nat→List ByteArray
 | 0=>[tX,tB,tEq,tB]
 | 1=>[tY,tB,tEq,tB]
 | 2=>[tX,tB,tEq,tB]
 | 3=>[tAcq,tB,tM,tSemi,tB]
 | 4=>[tRel,tB,tM,tSemi,tB]
 | 5=>[tAcq,tB,tN,tSemi,tB]
 | 6=>[tRel,tB,tN,tSemi,tB]
 | 7=>[tSkip,tSemi,tB]
 | 8=>[tQ,tOpen,tShut,tSemi,tB]
 | 9=>[tRet,tB]
 | 10=>[tIf,tB,tOpen]
 | 11=>[tWhile,tB,tOpen]
 | 12=>[tAssume,tB]
 | 13=>[tX,tB,tEq,tB,tP,tOpen]
 | 14=>[tP,tOpen]
 | _=>[tY,tB,tEq,tB,tQ,tOpen,tShut,tSemi,tB]
def loopW (st:WS→WS):Nat→WS→WS
 | 0,w=>w
 | n + 1,w=>if 60 < w.room then loopW st n (st w) else w
def blockW (raw:ByteArray) (st:WS→WS) (w:WS):WS :=
 (loopW st (nxW raw 4 (w.put [tBO,tB]).at_).1 ((w.put [tBO,tB]).to_ (nxW raw 4 (w.put [tBO,tB]).at_).2)).put [tBS,tB]
def tailW (raw:ByteArray) (v:Bool) (w:WS) (e:List ByteArray):WS:=(w.to_ (exprW raw v w.at_).2).put ((exprW raw v w.at_).1 ++ e)
def elseW (raw:ByteArray) (blk:WS→WS) (w:WS):WS :=
 if (nxW raw 2 w.at_).1 = 1∧60 < w.room then blk ((w.to_ (nxW raw 2 w.at_).2).put [tElse,tB]) else w.to_ (nxW raw 2 w.at_).2
def kindW (raw:ByteArray) (v:Bool) (blk:WS→WS) (k:Nat) (w:WS):WS :=
 if k = 0 ∨ k = 1 ∨ k = 2 ∨ k = 9 ∨ k = 12 then tailW raw v w [tSemi,tB]
 else if k = 13 ∨ k = 14 then tailW raw v w [tShut,tSemi,tB]
 else if k = 10 then elseW raw blk (blk (tailW raw v w [tShut,tB]))
 else if k = 11 then blk (tailW raw v w [tShut,tB])
 else w
def kindN (d k:Nat):Nat:=if d = 0∧(k = 10 ∨ k = 11) then 0 else k
def stmtW (raw:ByteArray) (v:Bool):Nat→WS→WS
 | 0,w=>kindW raw v id (kindN 0 (nxW raw 16 w.at_).1) ((w.to_ (nxW raw 16 w.at_).2).put (headW (kindN 0 (nxW raw 16 w.at_).1)))
 | d + 1,w=>kindW raw v (blockW raw (stmtW raw v d)) (kindN (d + 1) (nxW raw 16 w.at_).1) ((w.to_ (nxW raw 16 w.at_).2).put (headW (kindN (d + 1) (nxW raw 16 w.at_).1)))
def firstW:List ByteArray:=[tShared,tB,tX,tComma,tB,tY,tSemi,tB,tLocks,tB,tM,tComma,tB,tN,tSemi,tB,tProc,tB,tP,tOpen,tV,tShut,tB]
def threadsW:Nat→List ByteArray
 | 0=>[tThreads,tB,tP,tComma,tB,tQ,tSemi]
 | 1=>[tThreads,tB,tQ,tComma,tB,tQ,tSemi]
 | 2=>[tThreads,tB,tP,tComma,tB,tP,tSemi]
 | _=>[tThreads,tB,tP,tComma,tB,tQ,tComma,tB,tQ,tSemi]
def secondW:List ByteArray:=[tProc,tB,tQ,tOpen,tShut,tB]
def progW1 (raw:ByteArray):WS:=blockW raw (stmtW raw true 2) ((⟨0,400,[]⟩:WS).put firstW)
def progW2 (raw:ByteArray):WS:=blockW raw (stmtW raw false 2) ((progW1 raw).put secondW)
def progW (raw:ByteArray):WS:=((progW2 raw).to_ (nxW raw 4 (progW2 raw).at_).2).put (threadsW (nxW raw 4 (progW2 raw).at_).1)
structure Row (ps ts:List ByteArray) (n:Nat):Prop where
 adj:∃ c,adj false ps = some c
 toks:toksP ps = ts
 size:(flat ps).size ≤ n
theorem size_flat_app (a b:List ByteArray):(flat (a ++ b)).size = (flat a).size + (flat b).size:=by rw [flat_app,ByteArray.size_append]
theorem Row.app {a b ts us:List ByteArray} {n m:Nat} {m0:List ByteArray} {mt:List ByteArray} {k:Nat} (ha:Row a ts n) (hm:∀ c,RR.adj c m0 = some false) (ht:toksP m0 = mt) (hk:(flat m0).size = k) (hb:Row b us m):Row (a ++ (m0 ++ b)) (ts ++ (mt ++ us)) (n + (k + m)):=by
 obtain ⟨c,e⟩:=ha.adj
 obtain ⟨d,e2⟩:=hb.adj
 refine ⟨⟨d,?_⟩,?_,?_⟩
 ·rw [adj_app,e,Option.bind_some,adj_app,hm,Option.bind_some,e2]
 ·rw [toksP_app,toksP_app,ha.toks,ht,hb.toks]
 ·rw [size_flat_app,size_flat_app,hk]
  have:=ha.size
  have:=hb.size
  omega
theorem leaf_row (raw:ByteArray) (v:Bool) (i:Nat):∃ ts,IsLeaf v ts∧Row (leafW raw v i).1 ts 6:=by
 have at_ok:∀ k,k < 8→IsAtom v (atomW (atomN v k))∧toksP [atomW (atomN v k)] = [atomW (atomN v k)]∧(∃ c,adj false [atomW (atomN v k)] = some c)∧(flat [atomW (atomN v k)]).size ≤ 5:=by
  intro k hk
  match k,hk with
  | 0,_=>exact ⟨.inl rfl,rfl,⟨_,rfl⟩,by cases v <;> decide⟩
  | 1,_=>exact ⟨.inr (.inl rfl),rfl,⟨_,rfl⟩,by cases v <;> decide⟩
  | 2,_=>exact ⟨.inl rfl,rfl,⟨_,rfl⟩,by cases v <;> decide⟩
  | 3,_=>exact ⟨.inr (.inr (.inr (.inl rfl))),rfl,⟨_,rfl⟩,by cases v <;> decide⟩
  | 4,_=>exact ⟨.inr (.inr (.inr (.inr (.inl rfl)))),rfl,⟨_,rfl⟩,by cases v <;> decide⟩
  | 5,_=>exact ⟨.inr (.inr (.inr (.inr (.inr rfl)))),rfl,⟨_,rfl⟩,by cases v <;> decide⟩
  | 6,_=>exact ⟨.inr (.inl rfl),rfl,⟨_,rfl⟩,by cases v <;> decide⟩
  | 7,_ =>
   cases v
   ·exact ⟨.inr (.inl rfl),rfl,⟨_,rfl⟩,by decide⟩
   ·exact ⟨.inr (.inr (.inl ⟨rfl,rfl⟩)),rfl,⟨_,rfl⟩,by decide⟩
  | k + 8,h=>omega
 obtain ⟨h1,h2,⟨c,h3⟩,h4⟩:=at_ok _ (nxW_lt raw i (n:=8) (by decide))
 unfold leafW
 generalize atomW (atomN v (nxW raw 8 i).1) = t at *
 simp only []
 split
 ·refine ⟨[tBang,t],.neg h1,⟨c,h3⟩,?_,?_⟩
  ·show toksP ([tBang] ++ [t]) = _
   rw [toksP_app,h2]; rfl
  ·show (flat ([tBang] ++ [t])).size ≤ 6
   rw [size_flat_app]
   have:(flat [tBang]).size = 1:=rfl
   omega
 ·exact ⟨[t],.plain h1,⟨c,h3⟩,h2,by omega⟩
theorem expr_row (raw:ByteArray) (v:Bool) (i:Nat):∃ ts,IsExpr v ts∧Row (exprW raw v i).1 ts 26:=by
 unfold exprW
 obtain ⟨a,ha,ra⟩:=leaf_row raw v i
 simp only []
 generalize leafW raw v i = la at *
 generalize nxW raw 5 la.2 = k at *
 obtain ⟨b,hb,rb⟩:=leaf_row raw v k.2
 generalize leafW raw v k.2 = lb at *
 obtain ⟨c,hc,rc⟩:=leaf_row raw v lb.2
 generalize leafW raw v lb.2 = lc at *
 split
 ·have r:=ra.app (m0:=[tB,tAnd,tB]) (fun _=>rfl) rfl rfl rb
  exact ⟨_,.conj ha hb,r.adj,r.toks,Nat.le_trans r.size (by decide)⟩
 split
 ·have r:=ra.app (m0:=[tB,tOr,tB]) (fun _=>rfl) rfl rfl rb
  exact ⟨_,.disj ha hb,r.adj,r.toks,Nat.le_trans r.size (by decide)⟩
 split
 ·have r1:=rb.app (m0:=[tShut,tB,tAnd,tB]) (fun _=>rfl) rfl rfl rc
  have r2:=ra.app (m0:=[tB,tOr,tB]) (fun _=>rfl) rfl rfl r1
  have r0:Row [] [] 0:=⟨⟨false,rfl⟩,rfl,Nat.le_refl _⟩
  have r3:=r0.app (m0:=[tOpen]) (fun _=>rfl) rfl rfl r2
  exact ⟨_,.both ha hb hc,r3.adj,r3.toks,Nat.le_trans r3.size (by decide)⟩
 ·exact ⟨a,.leaf ha,ra.adj,ra.toks,Nat.le_trans ra.size (by decide)⟩
structure More (w w':WS) (ps:List ByteArray) (ts:List ByteArray):Prop where
 pcs:w'.ps = w.ps ++ ps
 room:w'.room = w.room - (flat ps).size
 adj:adj false ps = some false
 toks:toksP ps = ts
theorem More.trans {a b c:WS} {p q s t:List ByteArray} (h:More a b p s) (k:More b c q t):More a c (p ++ q) (s ++ t) :=
 ⟨by rw [k.pcs,h.pcs,List.append_assoc],by rw [k.room,h.room,size_flat_app]; omega,by rw [adj_app,h.adj,Option.bind_some,k.adj],by rw [toksP_app,h.toks,k.toks]⟩
theorem More.put (w:WS) {p t:List ByteArray} (h:RR.adj false p = some false) (ht:toksP p = t):More w (w.put p) p t:=⟨rfl,rfl,h,ht⟩
theorem More.to {w w':WS} {p t:List ByteArray} (h:More w w' p t) (i:Nat):More w (w'.to_ i) p t:=⟨h.pcs,h.room,h.adj,h.toks⟩
theorem More.of {w w':WS} {p t:List ByteArray} {i:Nat} (h:More (w.to_ i) w' p t):More w w' p t:=⟨h.pcs,h.room,h.adj,h.toks⟩
theorem More.nil (w:WS):More w w [] []:=⟨(List.append_nil _).symm,by show w.room = w.room - (0:Nat); omega,rfl,rfl⟩
theorem tail_more (raw:ByteArray) (v:Bool) (w:WS) (e t:List ByteArray) (n:Nat) (he:∀ c,adj c e = some false) (ht:toksP e = t) (hn:(flat e).size = n):∃ ps ts,IsExpr v ts∧More w (tailW raw v w e) ps (ts ++ t)∧(flat ps).size ≤ 26 + n:=by
 obtain ⟨ts,h1,r⟩:=expr_row raw v w.at_
 obtain ⟨c,hc⟩:=r.adj
 refine ⟨(exprW raw v w.at_).1 ++ e,ts,h1,⟨rfl,rfl,?_,?_⟩,?_⟩
 ·rw [adj_app,hc,Option.bind_some,he]
 ·rw [toksP_app,r.toks,ht]
 ·rw [size_flat_app,hn]; have:=r.size; omega
def StOk (v:Bool) (d:Nat) (st:WS→WS):Prop:=∀ w,∃ ps ts,More w (st w) ps ts∧Wr v 2 d ts∧(60 < w.room→22 - 2 * (d:Int) ≤ (st w).room)
def BkOk (v:Bool) (d:Nat) (blk:WS→WS):Prop:=∀ w,∃ ps ts,More w (blk w) ps ts∧Wr v 0 d ts∧(w.room - 4 ≤ (blk w).room ∨ 20 - 2 * (d:Int) ≤ (blk w).room)
theorem loop_ok {v:Bool} {d:Nat} {st:WS→WS} (h:StOk v d st):∀ (n:Nat) (w:WS),∃ ps ts,More w (loopW st n w) ps ts∧Wr v 1 d ts∧(w.room ≤ (loopW st n w).room ∨ 22 - 2 * (d:Int) ≤ (loopW st n w).room)
 | 0,w=>⟨[],[],More.nil w,.nil,.inl (Int.le_refl _)⟩
 | n + 1,w=>by
  by_cases hr:60 < w.room
  ·obtain ⟨p1,t1,m1,w1,r1⟩:=h w
   obtain ⟨p2,t2,m2,w2,r2⟩:=loop_ok h n (st w)
   have e:loopW st (n + 1) w = loopW st n (st w):=by rw [loopW,if_pos hr]
   rw [e]
   exact ⟨_,_,m1.trans m2,.cons w1 w2,.inr (by have:=r1 hr; omega)⟩
  ·have e:loopW st (n + 1) w = w:=by rw [loopW,if_neg hr]
   rw [e]
   exact ⟨[],[],More.nil w,.nil,.inl (Int.le_refl _)⟩
theorem block_ok {v:Bool} {d:Nat} {st:WS→WS} (raw:ByteArray) (h:StOk v d st):BkOk v d (blockW raw st):=fun w=>by
 have m0:=More.put w (p:=[tBO,tB]) (t:=[tBO]) rfl rfl
 have r0:(w.put [tBO,tB]).room = w.room - 2:=rfl
 unfold blockW
 generalize w.put [tBO,tB] = w0 at *
 have r1:(w0.to_ (nxW raw 4 w0.at_).2).room = w0.room:=rfl
 have m1:=m0.to (nxW raw 4 w0.at_).2
 generalize w0.to_ (nxW raw 4 w0.at_).2 = w1 at *
 obtain ⟨ps,ts,m2,hw,hr⟩:=loop_ok h (nxW raw 4 w0.at_).1 w1
 generalize loopW st (nxW raw 4 w0.at_).1 w1 = w2 at *
 have m3:=More.put w2 (p:=[tBS,tB]) (t:=[tBS]) rfl rfl
 have r3:(w2.put [tBS,tB]).room = w2.room - 2:=rfl
 refine ⟨_,_,(m1.trans m2).trans m3,.block hw,?_⟩
 rw [r3]
 rcases hr with hr | hr
 ·exact .inl (by omega)
 ·exact .inr (by omega)
theorem kindN_zero {k:Nat}:kindN 0 k ≠ 10∧kindN 0 k ≠ 11:=by
 unfold kindN
 split <;> omega
theorem kind_ok {raw:ByteArray} {v:Bool} {d:Nat} {blk:WS→WS} {k:Nat} (hk:k < 16) (hb:(k = 10 ∨ k = 11)→∃ d',d = d' + 1∧BkOk v d' blk) (w:WS):∃ ps ts,More w (kindW raw v blk k (w.put (headW k))) ps ts∧Wr v 2 d ts∧(60 < w.room→22 - 2 * (d:Int) ≤ (kindW raw v blk k (w.put (headW k))).room):=by
 have tl:∀ (hd ht e et:List ByteArray) (n m:Nat),adj false hd = some false→toksP hd = ht→(flat hd).size = n→(∀ c,adj c e = some false)→toksP e = et→(flat e).size = m→n + m ≤ 9→∃ ps ts,IsExpr v ts∧More w (tailW raw v (w.put hd) e) ps (ht ++ (ts ++ et))∧w.room - 35 ≤ (tailW raw v (w.put hd) e).room:=by
  intro hd ht e et n m h1 h2 h3 h4 h5 h6 h7
  have m0:=More.put w h1 h2
  obtain ⟨ps,ts,i,m1,s⟩:=tail_more raw v (w.put hd) e et m h4 h5 h6
  refine ⟨_,ts,i,m0.trans m1,?_⟩
  rw [(m0.trans m1).room,size_flat_app,h3]; omega
 have fin:∀ (hd ht:List ByteArray) (n:Nat),adj false hd = some false→toksP hd = ht→(flat hd).size = n→n ≤ 38→IsSmp v ht→∃ ps ts,More w (w.put hd) ps ts∧Wr v 2 d ts∧(60 < w.room→22 - 2 * (d:Int) ≤ (w.put hd).room):=by
  intro hd ht n h1 h2 h3 h4 h5
  have m0:=More.put w h1 h2
  exact ⟨_,_,m0,.simple h5,fun _=>by rw [m0.room,h3]; omega⟩
 have smp:∀ {hd ht e et:List ByteArray},(∃ ps ts,IsExpr v ts∧More w (tailW raw v (w.put hd) e) ps (ht ++ (ts ++ et))∧w.room - 35 ≤ (tailW raw v (w.put hd) e).room)→(∀ ts,IsExpr v ts→IsSmp v (ht ++ (ts ++ et)))→∃ ps ts,More w (tailW raw v (w.put hd) e) ps ts∧Wr v 2 d ts∧(60 < w.room→22 - 2 * (d:Int) ≤ (tailW raw v (w.put hd) e).room):=by
  rintro hd ht e et ⟨ps,ts,i,m,r⟩ hs
  exact ⟨ps,_,m,.simple (hs ts i),fun _=>by omega⟩
 match k,hk with
 | 0,_=>exact smp (tl _ _ _ _ _ _ rfl rfl rfl (fun _=>rfl) rfl rfl (by decide)) fun ts i=>IsSmp.setX i
 | 1,_=>exact smp (tl _ _ _ _ _ _ rfl rfl rfl (fun _=>rfl) rfl rfl (by decide)) fun ts i=>IsSmp.setY i
 | 2,_=>exact smp (tl _ _ _ _ _ _ rfl rfl rfl (fun _=>rfl) rfl rfl (by decide)) fun ts i=>IsSmp.setX i
 | 3,_=>exact fin _ _ _ rfl rfl rfl (by decide) .acqM
 | 4,_=>exact fin _ _ _ rfl rfl rfl (by decide) .relM
 | 5,_=>exact fin _ _ _ rfl rfl rfl (by decide) .acqN
 | 6,_=>exact fin _ _ _ rfl rfl rfl (by decide) .relN
 | 7,_=>exact fin _ _ _ rfl rfl rfl (by decide) .skip
 | 8,_=>exact fin _ _ _ rfl rfl rfl (by decide) .callQ
 | 9,_=>exact smp (tl _ _ _ _ _ _ rfl rfl rfl (fun _=>rfl) rfl rfl (by decide)) fun ts i=>IsSmp.ret i
 | 10,_ =>
  obtain ⟨d',rfl,hB⟩:=hb (.inl rfl)
  obtain ⟨p1,e,i,m1,r1⟩:=tl (headW 10) [tIf,tOpen] [tShut,tB] [tShut] 4 2 rfl rfl rfl (fun _=>rfl) rfl rfl (by decide)
  show ∃ ps ts,More w (elseW raw blk (blk (tailW raw v (w.put (headW 10)) [tShut,tB]))) ps ts∧_∧(_→_ ≤ (elseW raw blk (blk (tailW raw v (w.put (headW 10)) [tShut,tB]))).room)
  generalize tailW raw v (w.put (headW 10)) [tShut,tB] = w1 at *
  obtain ⟨p2,b,m2,wb,r2⟩:=hB w1
  generalize blk w1 = w2 at *
  unfold elseW
  by_cases hc:(nxW raw 2 w2.at_).1 = 1∧60 < w2.room
  ·rw [if_pos hc]
   have m3:More w2 ((w2.to_ (nxW raw 2 w2.at_).2).put [tElse,tB]) [tElse,tB] [tElse]:=(More.put (w2.to_ (nxW raw 2 w2.at_).2) rfl rfl).of
   have r3:((w2.to_ (nxW raw 2 w2.at_).2).put [tElse,tB]).room = w2.room - 5:=rfl
   generalize (w2.to_ (nxW raw 2 w2.at_).2).put [tElse,tB] = w3 at *
   obtain ⟨p4,c,m4,wc,r4⟩:=hB w3
   generalize blk w3 = w4 at *
   have m5:=(m1.trans m2).trans (m3.trans m4)
   refine ⟨_,_,m5,?_,fun _=>by omega⟩
   have e1:[tIf,tOpen] ++ (e ++ [tShut]) ++ b ++ ([tElse] ++ c) = tIf :: tOpen :: (e ++ tShut :: (b ++ tElse :: c)):=by simp
   rw [e1]
   exact .two i wb wc
  ·rw [if_neg hc]
   have m3:=((m1.trans m2).to (nxW raw 2 w2.at_).2)
   have r3:(w2.to_ (nxW raw 2 w2.at_).2).room = w2.room:=rfl
   refine ⟨_,_,m3,?_,fun _=>by rw [r3]; omega⟩
   have e1:[tIf,tOpen] ++ (e ++ [tShut]) ++ b = tIf :: tOpen :: (e ++ tShut :: b):=by simp
   rw [e1]
   exact .one i wb
 | 11,_ =>
  obtain ⟨d',rfl,hB⟩:=hb (.inr rfl)
  obtain ⟨p1,e,i,m1,r1⟩:=tl (headW 11) [tWhile,tOpen] [tShut,tB] [tShut] 7 2 rfl rfl rfl (fun _=>rfl) rfl rfl (by decide)
  show ∃ ps ts,More w (blk (tailW raw v (w.put (headW 11)) [tShut,tB])) ps ts∧_∧(_→_ ≤ (blk (tailW raw v (w.put (headW 11)) [tShut,tB])).room)
  generalize tailW raw v (w.put (headW 11)) [tShut,tB] = w1 at *
  obtain ⟨p2,b,m2,wb,r2⟩:=hB w1
  generalize blk w1 = w2 at *
  refine ⟨_,_,m1.trans m2,?_,fun _=>by omega⟩
  have e1:[tWhile,tOpen] ++ (e ++ [tShut]) ++ b = tWhile :: tOpen :: (e ++ tShut :: b):=by simp
  rw [e1]
  exact .loop i wb
 | 12,_=>exact smp (tl _ _ _ _ _ _ rfl rfl rfl (fun _=>rfl) rfl rfl (by decide)) fun ts i=>IsSmp.assume i
 | 13,_=>exact smp (tl _ _ _ _ _ _ rfl rfl rfl (fun _=>rfl) rfl rfl (by decide)) fun ts i=>IsSmp.setP i
 | 14,_=>exact smp (tl _ _ _ _ _ _ rfl rfl rfl (fun _=>rfl) rfl rfl (by decide)) fun ts i=>IsSmp.callP i
 | 15,_=>exact fin _ _ _ rfl rfl rfl (by decide) .setQ
 | k + 16,h=>omega
theorem stmt_ok (raw:ByteArray) (v:Bool):∀ d,StOk v d (stmtW raw v d)
 | 0=>fun w=>by
  have hk:kindN 0 (nxW raw 16 w.at_).1 < 16:=by have:=nxW_lt raw w.at_ (n:=16) (by decide); unfold kindN; split <;> omega
  obtain ⟨ps,ts,m,hw,hr⟩:=kind_ok (raw:=raw) (v:=v) (d:=0) (blk:=id) hk (fun h=>absurd h (by have:=kindN_zero (k:=(nxW raw 16 w.at_).1); omega)) (w.to_ (nxW raw 16 w.at_).2)
  exact ⟨ps,ts,m.of,hw,hr⟩
 | d + 1=>fun w=>by
  have hk:kindN (d + 1) (nxW raw 16 w.at_).1 < 16:=by have:=nxW_lt raw w.at_ (n:=16) (by decide); unfold kindN; split <;> omega
  obtain ⟨ps,ts,m,hw,hr⟩:=kind_ok (raw:=raw) (v:=v) (d:=d + 1) (blk:=blockW raw (stmtW raw v d)) hk (fun _=>⟨d,rfl,block_ok raw (stmt_ok raw v d)⟩) (w.to_ (nxW raw 16 w.at_).2)
  exact ⟨ps,ts,m.of,hw,hr⟩
theorem prog_ok (raw:ByteArray):∃ b1 b2 h th,adj false (progW raw).ps = some false∧toksP (progW raw).ps = progT b1 b2 h th∧Wr true 0 2 b1∧Wr false 0 2 b2∧(h = tP ∨ h = tQ)∧(∀ n ∈ th,n = tP ∨ n = tQ)∧th.length ≤ 2∧(flat (progW raw).ps).size ≤ 450:=by
 have m0:=More.put (⟨0,400,[]⟩:WS) (p:=firstW) (t:=[tShared,tX,tComma,tY,tSemi,tLocks,tM,tComma,tN,tSemi,tProc,tP,tOpen,tV,tShut]) rfl rfl
 have z0:(flat firstW).size = 35:=by kernel_rfl
 have r0:((⟨0,400,[]⟩:WS).put firstW).room = 365:=by show (400:Int) - ((flat firstW).size:Nat) = 365; rw [z0]; rfl
 obtain ⟨p1,b1,m1,w1,r1⟩:=block_ok raw (stmt_ok raw true 2) ((⟨0,400,[]⟩:WS).put firstW)
 have m1:More _ (progW1 raw) p1 b1:=m1
 have r1:_ ≤ (progW1 raw).room ∨ _ ≤ (progW1 raw).room:=r1
 have m2:=More.put (progW1 raw) (p:=secondW) (t:=[tProc,tQ,tOpen,tShut]) rfl rfl
 have r2:((progW1 raw).put secondW).room = (progW1 raw).room - 9:=rfl
 obtain ⟨p3,b2,m3,w3,r3⟩:=block_ok raw (stmt_ok raw false 2) ((progW1 raw).put secondW)
 have m3:More _ (progW2 raw) p3 b2:=m3
 have r3:_ ≤ (progW2 raw).room ∨ _ ≤ (progW2 raw).room:=r3
 have m23:=(m0.trans m1).trans (m2.trans m3)
 have fin:∀ (ls ts:List ByteArray) (n:Nat),adj false ls = some false→toksP ls = ts→(flat ls).size = n→n ≤ 16→∀ (h:ByteArray) (th:List ByteArray),ts = tThreads :: h :: (commaT th ++ [tSemi])→(h = tP ∨ h = tQ)→(∀ n ∈ th,n = tP ∨ n = tQ)→th.length ≤ 2→∃ b1 b2 h th,adj false (((progW2 raw).to_ (nxW raw 4 (progW2 raw).at_).2).put ls).ps = some false∧toksP (((progW2 raw).to_ (nxW raw 4 (progW2 raw).at_).2).put ls).ps = progT b1 b2 h th∧Wr true 0 2 b1∧Wr false 0 2 b2∧(h = tP ∨ h = tQ)∧(∀ n ∈ th,n = tP ∨ n = tQ)∧th.length ≤ 2∧(flat (((progW2 raw).to_ (nxW raw 4 (progW2 raw).at_).2).put ls).ps).size ≤ 450:=by
  intro ls ts n h1 h2 h3 h4 h th e hh ht hl
  have m4:=(m23.to (nxW raw 4 (progW2 raw).at_).2).trans (More.put ((progW2 raw).to_ (nxW raw 4 (progW2 raw).at_).2) h1 h2)
  have eps:(((progW2 raw).to_ (nxW raw 4 (progW2 raw).at_).2).put ls).ps = [] ++ _:=m4.pcs
  rw [List.nil_append] at eps
  refine ⟨b1,b2,h,th,by rw [eps]; exact m4.adj,?_,w1,w3,hh,ht,hl,?_⟩
  ·rw [eps,m4.toks,e]
   unfold progT
   simp
  ·rw [eps]
   have hr:=m4.room
   have e1:(((progW2 raw).to_ (nxW raw 4 (progW2 raw).at_).2).put ls).room = (progW2 raw).room - (flat ls).size:=rfl
   rw [e1,h3] at hr
   have e2:(⟨0,400,[]⟩:WS).room = 400:=rfl
   rw [e2] at hr
   rw [r2] at r3
   rw [r0] at r1
   omega
 unfold progW
 have hk:=nxW_lt raw (progW2 raw).at_ (n:=4) (by decide)
 generalize hq:(nxW raw 4 (progW2 raw).at_).1 = k at hk ⊢
 match k,hk with
 | 0,_=>exact fin (threadsW 0) _ _ rfl rfl rfl (by decide) tP [tQ] rfl (.inl rfl) (fun n hn=>by rw [List.mem_singleton.1 hn]; exact .inr rfl) (by decide)
 | 1,_=>exact fin (threadsW 1) _ _ rfl rfl rfl (by decide) tQ [tQ] rfl (.inr rfl) (fun n hn=>by rw [List.mem_singleton.1 hn]; exact .inr rfl) (by decide)
 | 2,_=>exact fin (threadsW 2) _ _ rfl rfl rfl (by decide) tP [tP] rfl (.inl rfl) (fun n hn=>by rw [List.mem_singleton.1 hn]; exact .inl rfl) (by decide)
 | 3,_=>exact fin (threadsW 3) _ _ rfl rfl rfl (by decide) tP [tQ,tQ] rfl (.inl rfl) (fun n hn=>by
    simp only [List.mem_cons,List.not_mem_nil,or_false] at hn
    rcases hn with hn | hn <;> exact .inr hn) (by decide)
 | k + 4,h=>omega
end RR
namespace RR
open Go Go.RowKit
theorem nx_in (raw:ByteArray) (n:Nat) {i:Nat} (h:i ≤ raw.size):(nxW raw n i).2 ≤ raw.size:=by
 unfold nxW
 split
 ·show i + 1 ≤ _; omega
 ·exact h
theorem leaf_in (raw:ByteArray) (v:Bool) {i:Nat} (h:i ≤ raw.size):(leafW raw v i).2 ≤ raw.size:=nx_in raw 4 (nx_in raw 8 h)
theorem expr_in (raw:ByteArray) (v:Bool) {i:Nat} (h:i ≤ raw.size):(exprW raw v i).2 ≤ raw.size:=by
 have h1:=nx_in raw 5 (leaf_in raw v h)
 unfold exprW
 simp only []
 split
 ·exact leaf_in raw v h1
 split
 ·exact leaf_in raw v h1
 split
 ·exact leaf_in raw v (leaf_in raw v h1)
 ·exact h1
theorem tail_in (raw:ByteArray) (v:Bool) (w:WS) (e:List ByteArray) (h:w.at_ ≤ raw.size):(tailW raw v w e).at_ ≤ raw.size:=expr_in raw v h
theorem loop_in {raw:ByteArray} {st:WS→WS} (hs:∀ w:WS,w.at_ ≤ raw.size→(st w).at_ ≤ raw.size):∀ (n:Nat) (w:WS),w.at_ ≤ raw.size→(loopW st n w).at_ ≤ raw.size
 | 0,_,h=>h
 | n + 1,w,h=>by
  rw [loopW]
  split
  ·exact loop_in hs n _ (hs w h)
  ·exact h
theorem block_in {raw:ByteArray} {st:WS→WS} (hs:∀ w:WS,w.at_ ≤ raw.size→(st w).at_ ≤ raw.size) (w:WS) (h:w.at_ ≤ raw.size):(blockW raw st w).at_ ≤ raw.size:=loop_in hs _ _ (nx_in raw 4 h)
theorem kind_in {raw:ByteArray} {v:Bool} {blk:WS→WS} (hb:∀ w:WS,w.at_ ≤ raw.size→(blk w).at_ ≤ raw.size) (k:Nat) (w:WS) (h:w.at_ ≤ raw.size):(kindW raw v blk k w).at_ ≤ raw.size:=by
 unfold kindW
 split
 ·exact tail_in raw v w _ h
 split
 ·exact tail_in raw v w _ h
 split
 ·have h1:=hb _ (tail_in raw v w [tShut,tB] h)
  unfold elseW
  split
  ·exact hb _ (nx_in raw 2 h1)
  ·exact nx_in raw 2 h1
 split
 ·exact hb _ (tail_in raw v w _ h)
 ·exact h
theorem stmt_in (raw:ByteArray) (v:Bool):∀ (d:Nat) (w:WS),w.at_ ≤ raw.size→(stmtW raw v d w).at_ ≤ raw.size
 | 0,_,h=>kind_in (fun _ h=>h) _ _ (nx_in raw 16 h)
 | d + 1,_,h=>kind_in (fun w h=>block_in (stmt_in raw v d) w h) _ _ (nx_in raw 16 h)
structure WFit (raw:ByteArray) (w:WS):Prop where
 at_:w.at_ ≤ raw.size
 sum:(flat w.ps).size + w.room = 400
 low:-100 ≤ w.room
theorem More.sum {w w':WS} {p t:List ByteArray} (h:More w w' p t):((flat w'.ps).size:Int) + w'.room = (flat w.ps).size + w.room:=by
 rw [h.pcs,h.room,size_flat_app]; omega
theorem WFit.of {raw:ByteArray} {w w':WS} {p t:List ByteArray} (h:WFit raw w) (m:More w w' p t) (h1:w'.at_ ≤ raw.size) (h2:-100 ≤ w'.room):WFit raw w':=⟨h1,by rw [m.sum]; exact h.sum,h2⟩
theorem WFit.stmt {raw:ByteArray} {w:WS} (h:WFit raw w) (v:Bool) (d:Nat) (hd:d ≤ 2) (hr:60 < w.room):WFit raw (stmtW raw v d w):=by
 obtain ⟨p,t,m,_,r⟩:=stmt_ok raw v d w
 exact h.of m (stmt_in raw v d w h.at_) (by have:=r hr; omega)
theorem WFit.block {raw:ByteArray} {w:WS} (h:WFit raw w) (v:Bool) (d:Nat) (hd:d ≤ 2) (hr:-50 ≤ w.room):WFit raw (blockW raw (stmtW raw v d) w)∧(w.room - 4 ≤ (blockW raw (stmtW raw v d) w).room ∨ 20 - 2 * (d:Int) ≤ (blockW raw (stmtW raw v d) w).room):=by
 obtain ⟨p,t,m,_,r⟩:=block_ok raw (stmt_ok raw v d) w
 exact ⟨h.of m (block_in (stmt_in raw v d) w h.at_) (by omega),r⟩
theorem WFit.put {raw:ByteArray} {w:WS} (h:WFit raw w) (p:List ByteArray) (hr:-100 ≤ w.room - (flat p).size):WFit raw (w.put p):=⟨h.at_,by
 have:=h.sum
 show ((flat (w.ps ++ p)).size:Int) + (w.room - (flat p).size) = 400
 rw [size_flat_app]; omega,hr⟩
theorem WFit.to {raw:ByteArray} {w:WS} (h:WFit raw w) {i:Nat} (hi:i ≤ raw.size):WFit raw (w.to_ i):=⟨hi,h.sum,h.low⟩
theorem WFit.small {raw:ByteArray} {w:WS} (h:WFit raw w):(flat w.ps).size ≤ 500∧-100 ≤ w.room∧w.room ≤ 400:=by
 have:=h.sum
 have:=h.low
 omega
theorem tail_size (raw:ByteArray) (v:Bool) (i:Nat):(flat (exprW raw v i).1).size ≤ 26:=by
 obtain ⟨ts,_,r⟩:=expr_row raw v i
 exact r.size
theorem leaf_size (raw:ByteArray) (v:Bool) (i:Nat):(flat (leafW raw v i).1).size ≤ 6:=by
 obtain ⟨ts,_,r⟩:=leaf_row raw v i
 exact r.size
end RR
namespace Go.Proofs.YtmfcpbhdggonfaaGreatDoor
open Go.RowKit RR
theorem wset {w:World} {B:Nat} {cs:Array Value} {T:TypeId} (h:w.heap[B]? = some (.cells cs T (0,0))) (o:Nat) (v:Value):(w.setCell ⟨B,o,none⟩ v).heap[B]? = some (.cells (cs.setIfInBounds o v) T (0,0)):=by
 simp only [World.setCell,Array.getElem?_modify]
 rw [if_pos trivial,h]
 rfl
theorem wset_ne (w:World) (B o:Nat) (x:Value) (k:Nat) (h:k ≠ B):(w.setCell ⟨B,o,none⟩ x).heap[k]? = w.heap[k]?:=by
 have e:(w.setCell ⟨B,o,none⟩ x).heap[k]? = (w.heap.modify B fun
     | .cells c elem frozen=>.cells (c.setIfInBounds o x) elem frozen
     | o=>o)[k]?:=rfl
 rw [e,Array.getElem?_modify,if_neg (Ne.symm h)]
theorem wrap_u8 (x:UInt8):wrap64 (x.toNat:Int) = x.toNat:=by
 have:=x.toNat_lt
 unfold wrap64
 omega
theorem below_dW {N:Nat} (w:World) (k:Nat):Below N w (w.drewN k):=⟨rfl,rfl,rfl,Nat.le_refl _,fun _ _=>rfl⟩
def FeedAt (F:Nat) (raw:ByteArray) (i:Nat) (w:World):Prop:=w.heap[F]? = some (.cells #[.string raw,.int .i64 i] 55 (0,0))
def WrtAt (F B:Nat) (s:ByteArray) (v:Bool) (room:Int) (w:World):Prop:=w.heap[B]? = some (.cells #[.pointer (some ⟨F,0,none⟩),.string s,.bool v,.int .i64 room] 79 (0,0))
structure Kw (N F B:Nat) (w w':World):Prop where
 below:Below N w w'
 keep:∀ j,j < w.heap.size→j ≠ F→j ≠ B→w'.heap[j]? = w.heap[j]?
theorem Kw.refl (N F B:Nat) (w:World):Kw N F B w w:=⟨Below.refl _ _,fun _ _ _ _=>rfl⟩
theorem Kw.trans {N F B:Nat} {a b c:World} (h:Kw N F B a b) (k:Kw N F B b c):Kw N F B a c:=⟨h.below.trans k.below,fun j hj h1 h2=>(k.keep j (Nat.lt_of_lt_of_le hj h.below.size) h1 h2).trans (h.keep j hj h1 h2)⟩
set_option maxRecDepth 100000 in
set_option maxHeartbeats 2000000 in
theorem k_next (N F B:Nat) (raw:ByteArray) (i n:Nat) (hn:0 < n∧n ≤ 16) (hr:raw.size ≤ 9223372036854775807) (w:World) (hF:FeedAt F raw i w) (hi:i ≤ raw.size) (hN:N ≤ F) (hB:B ≠ F) :
    Calls Tryz.prog 39 #[.pointer (some ⟨F,0,none⟩),.int .i64 n] w fun e w'=>e = .returned (.int .i64 (nxW raw n i).1)∧FeedAt F raw (nxW raw n i).2 w'∧w'.heap[B]? = w.heap[B]?∧Kw N F B w w':=by
 have c0:w.cell? ⟨F,0,none⟩ = some (.string raw):=by unfold FeedAt at hF; simp [World.cell?,hF]
 have c1:w.cell? ⟨F,1,none⟩ = some (.int .i64 i):=by unfold FeedAt at hF; simp [World.cell?,hF]
 have f1:w.frozen? ⟨F,1,none⟩ = false:=by unfold FeedAt at hF; simp [World.frozen?,hF]
 have HF:=hide hF
 clear hF
 by_cases hlt:i < raw.size
 ·have hlt':(i:Int) < raw.size:=by omega
  have e1:(nxW raw n i).1 = (byteAt raw i).toNat % n:=by unfold nxW; rw [if_pos hlt]
  have e2:(nxW raw n i).2 = i + 1:=by unfold nxW; rw [if_pos hlt]
  rw [e1,e2,byteAt_eq hlt]
  clear e1 e2
  go_enter Tryz.func39,Tryz.ntmps39
  go_wp2_with (go_quiet (fail))
  go_ret
  have hw:wrap64 (raw[i].toNat:Int) = raw[i].toNat:=wrap_u8 _
  refine ⟨ret_int (by rw [hw]; exact Int.ofNat_tmod ..),wset (w:=w.drewN _) HF.out 1 _,wset_ne _ _ _ _ _ hB,?_⟩
  exact ⟨((below_dW w _)).setCell (p:=⟨F,1,none⟩) hN _,fun j _ h1 _=>wset_ne _ _ _ _ _ h1⟩
 ·have e1:nxW raw n i = (0,i):=by unfold nxW; rw [if_neg hlt]
  rw [e1]
  have hge:(raw.size:Int) ≤ i:=by omega
  clear e1
  go_enter Tryz.func39,Tryz.ntmps39
  go_wp2_with (go_quiet (fail))
  go_ret
  exact ⟨rfl,HF.out,rfl,below_dW w _,fun _ _ _ _=>rfl⟩
set_option maxRecDepth 100000 in
set_option maxHeartbeats 2000000 in
theorem k_put (N F B:Nat) (s:ByteArray) (v:Bool) (room:Int) (t:ByteArray) (w:World) (hW:WrtAt F B s v room w) (hN:N ≤ B) (hF:F ≠ B) (hr:-1000 ≤ room∧room ≤ 1000) (ht:t.size ≤ 1000) (hs:s.size ≤ 1000) :
    Calls Tryz.prog 37 #[.pointer (some ⟨B,0,none⟩),.string t] w fun e w'=>e = .returned (.tuple #[])∧WrtAt F B (s ++ t) v (room - t.size) w'∧w'.heap[F]? = w.heap[F]?∧Kw N F B w w':=by
 have c1:w.cell? ⟨B,1,none⟩ = some (.string s):=by unfold WrtAt at hW; simp [World.cell?,hW]
 have c3:w.cell? ⟨B,3,none⟩ = some (.int .i64 room):=by unfold WrtAt at hW; simp [World.cell?,hW]
 have f1:w.frozen? ⟨B,1,none⟩ = false:=by unfold WrtAt at hW; simp [World.frozen?,hW]
 have f3:w.frozen? ⟨B,3,none⟩ = false:=by unfold WrtAt at hW; simp [World.frozen?,hW]
 have HW:=hide hW
 clear hW
 go_enter Tryz.func37,Tryz.ntmps37
 go_wp2
 go_end0
 refine ⟨rfl,wset (wset HW.out 1 _) 3 _,?_,?_⟩
 ·exact (wset_ne _ _ _ _ _ hF).trans (wset_ne _ _ _ _ _ hF)
 ·exact ⟨((Below.refl _ _).setCell (p:=⟨B,1,none⟩) hN _).setCell (p:=⟨B,3,none⟩) hN _,fun j _ _ h2=>(wset_ne _ _ _ _ _ h2).trans (wset_ne _ _ _ _ _ h2)⟩
end Go.Proofs.YtmfcpbhdggonfaaGreatDoor
namespace Go.Proofs.YtmfcpbhdggonfaaGreatDoor
open Go.RowKit RR
def atomCells:Array Value:=#[.string ⟨#[120]⟩,.string ⟨#[121]⟩,.string ⟨#[120]⟩,.string ⟨#[63]⟩,.string ⟨#[116,114,117,101]⟩,.string ⟨#[102,97,108,115,101]⟩,.string ⟨#[121]⟩,.string ⟨#[118]⟩]
theorem atom_cell (k:Nat) (h:k < 8):atomCells[k]? = some (.string (atomW k)):=by
 match k,h with
 | 0,_=>rfl
 | 1,_=>rfl
 | 2,_=>rfl
 | 3,_=>rfl
 | 4,_=>rfl
 | 5,_=>rfl
 | 6,_=>rfl
 | 7,_=>rfl
 | k + 8,h=>omega
theorem flat1 (t:ByteArray):flat [t] = t:=by
 show t ++ ByteArray.empty = t
 exact ByteArray.append_empty
theorem flat2 (s t:ByteArray):flat [s,t] = s ++ t:=by
 show s ++ flat [t] = s ++ t
 rw [flat1]
set_option maxRecDepth 100000 in
set_option maxHeartbeats 2000000 in
theorem k_leaf (N F B:Nat) (raw:ByteArray) (i:Nat) (s:ByteArray) (v:Bool) (room:Int) (hr:raw.size ≤ 9223372036854775807) (w:World) (hF:FeedAt F raw i w) (hW:WrtAt F B s v room w) (hi:i ≤ raw.size) (hN:N ≤ F∧N ≤ B) (hB:B ≠ F) :
    Calls Tryz.prog 132 #[.pointer (some ⟨B,0,none⟩)] w fun e w'=>e = .returned (.string (flat (leafW raw v i).1))∧FeedAt F raw (leafW raw v i).2 w'∧WrtAt F B s v room w'∧Kw N F B w w':=by
 have c0:w.cell? ⟨B,0,none⟩ = some (.pointer (some ⟨F,0,none⟩)):=by unfold WrtAt at hW; simp [World.cell?,hW]
 have HF:=hide hF
 have HW:=hide hW
 clear hF hW
 go_enter Tryz.func132,Tryz.ntmps132
 go_wp2_with fail
 refine (k_next N F B raw i 8 (by decide) hr _ HF.out hi hN.1 hB).mono ?_
 rintro e w1 ⟨rfl,hF1,hB1,k1⟩
 have hk:=nxW_lt raw i (n:=8) (by decide)
 have hi1:=nx_in raw 8 hi
 have HL:Hid (leafW raw v i = (if (nxW raw 4 (nxW raw 8 i).2).1 = 1 then [tBang,atomW (atomN v (nxW raw 8 i).1)] else [atomW (atomN v (nxW raw 8 i).1)],(nxW raw 4 (nxW raw 8 i).2).2)):=rfl
 generalize (nxW raw 8 i).2 = i1 at *
 generalize (nxW raw 8 i).1 = k at *
 have HW1:Hid (WrtAt F B s v room w1):=hB1.trans HW.out
 have HF1:=hide hF1
 have HK1:=hide k1
 clear c0 hF1 hB1 k1 HF HW
 go_upto_region 3 with fail
 have hz:=World.size_alloc w1 (.cells #[.string ⟨#[120]⟩,.string ⟨#[121]⟩,.string ⟨#[120]⟩,.string ⟨#[63]⟩,.string ⟨#[116,114,117,101]⟩,.string ⟨#[102,97,108,115,101]⟩,.string ⟨#[121]⟩,.string ⟨#[118]⟩] 9)
 have hS:(w1.alloc (.cells #[.string ⟨#[120]⟩,.string ⟨#[121]⟩,.string ⟨#[120]⟩,.string ⟨#[63]⟩,.string ⟨#[116,114,117,101]⟩,.string ⟨#[102,97,108,115,101]⟩,.string ⟨#[121]⟩,.string ⟨#[118]⟩] 9)).heap[w1.heap.size]? = some (.cells #[.string ⟨#[120]⟩,.string ⟨#[121]⟩,.string ⟨#[120]⟩,.string ⟨#[63]⟩,.string ⟨#[116,114,117,101]⟩,.string ⟨#[102,97,108,115,101]⟩,.string ⟨#[121]⟩,.string ⟨#[118]⟩] 9 (0,0)):=heap_alloc_new _ _
 have hlF:F < w1.heap.size:=(Array.getElem?_eq_some_iff.1 HF1.out).1
 have hlB:B < w1.heap.size:=(Array.getElem?_eq_some_iff.1 HW1.out).1
 have HF2:Hid (FeedAt F raw i1 (w1.alloc (.cells #[.string ⟨#[120]⟩,.string ⟨#[121]⟩,.string ⟨#[120]⟩,.string ⟨#[63]⟩,.string ⟨#[116,114,117,101]⟩,.string ⟨#[102,97,108,115,101]⟩,.string ⟨#[121]⟩,.string ⟨#[118]⟩] 9))):=(Below.heap_alloc _ _ _ hlF).trans HF1.out
 have HW2:Hid (WrtAt F B s v room (w1.alloc (.cells #[.string ⟨#[120]⟩,.string ⟨#[121]⟩,.string ⟨#[120]⟩,.string ⟨#[63]⟩,.string ⟨#[116,114,117,101]⟩,.string ⟨#[102,97,108,115,101]⟩,.string ⟨#[121]⟩,.string ⟨#[118]⟩] 9))):=(Below.heap_alloc _ _ _ hlB).trans HW1.out
 have hNz:N ≤ w1.heap.size:=Nat.le_trans hN.1 (Nat.le_of_lt hlF)
 have HK2:Hid (Kw N F B w (w1.alloc (.cells #[.string ⟨#[120]⟩,.string ⟨#[121]⟩,.string ⟨#[120]⟩,.string ⟨#[63]⟩,.string ⟨#[116,114,117,101]⟩,.string ⟨#[102,97,108,115,101]⟩,.string ⟨#[121]⟩,.string ⟨#[118]⟩] 9))):=HK1.out.trans ⟨(Below.refl _ _).alloc hNz _,fun j hj _ _=>Below.heap_alloc _ _ _ hj⟩
 clear HF1 HW1 HK1 hNz
 generalize w1.alloc (.cells #[.string ⟨#[120]⟩,.string ⟨#[121]⟩,.string ⟨#[120]⟩,.string ⟨#[63]⟩,.string ⟨#[116,114,117,101]⟩,.string ⟨#[102,97,108,115,101]⟩,.string ⟨#[121]⟩,.string ⟨#[118]⟩] 9) = w2 at *
 have hne:w1.heap.size ≠ F∧w1.heap.size ≠ B:=by omega
 have hlt:w1.heap.size < w2.heap.size:=by omega
 clear hz hlF hlB
 generalize w1.heap.size = S at *
 have c2:w2.cell? ⟨B,2,none⟩ = some (.bool v):=by have:=HW2.out; unfold WrtAt at this; simp [World.cell?,this]
 have c0:w2.cell? ⟨B,0,none⟩ = some (.pointer (some ⟨F,0,none⟩)):=by have:=HW2.out; unfold WrtAt at this; simp [World.cell?,this]
 go_cut [19] (fun u wx=>u = .bool (decide (k = 7) && !v)∧w2 = wx)
 case first =>
  by_cases h7:k = 7
  ·subst h7
   go_wp2_with fail
   go_meet
   case rel=>exact ⟨by cases v <;> rfl,rfl⟩
  ·have h7':((k:Int) == 7) = false:=beq_eq_false_iff_ne.2 (by omega)
   have H7:=hide h7
   go_wp2_with fail
   go_meet
   case rel=>exact ⟨by rw [decide_eq_false H7.out]; rfl,rfl⟩
 case rest =>
  obtain ⟨rfl,hq⟩:=hcut
  subst hq
  have HA:Hid (atomN v k = if (decide (k = 7) && !v) = true then 1 else k):=by
   show _ = _
   unfold atomN
   cases v <;> simp
  generalize (decide (k = 7) && !v) = b at *
  go_upto_if 19 with fail
  go_cut [3] (fun u wx=>u = .int .i64 (atomN v k)∧w2 = wx)
  case first =>
   cases b
   ·go_wp2_with fail
    go_meet
    case rel=>exact ⟨by rw [HA.out]; rfl,rfl⟩
   ·go_wp2_with fail
    go_meet
    case rel=>exact ⟨by rw [HA.out]; rfl,rfl⟩
  case rest =>
   obtain ⟨rfl,hq⟩:=hcut
   subst hq
   have hm:atomN v k < 8:=by unfold atomN; split <;> omega
   clear HA
   generalize atomN v k = m at *
   go_wp2_with fail
   refine (k_next N F B raw i1 4 (by decide) hr _ HF2.out hi1 hN.1 hB).mono ?_
   rintro e w3 ⟨rfl,hF3,hB3,k3⟩
   have HR:Hid ((leafW raw v i).1 = if (nxW raw 4 i1).1 = 1 then [tBang,atomW m] else [atomW m]):=by show _ = _; rw [HL.out]
   have HR2:Hid ((leafW raw v i).2 = (nxW raw 4 i1).2):=by show _ = _; rw [HL.out]
   have hS3:=(k3.keep S hlt hne.1 hne.2).trans hS
   have HW3:Hid (WrtAt F B s v room w3):=hB3.trans HW2.out
   have HF3:=hide hF3
   have HK3:=hide (HK2.out.trans k3)
   have cS:w3.cell? ⟨S,m,none⟩ = some (.string (atomW m)):=by
    have:=atom_cell m hm
    simp only [World.cell?,hS3]
    exact this
   have hm':(m:Int) < 8:=by omega
   have hsz:(atomW m).size ≤ 5:=by
    clear cS
    match m,hm with
    | 0,_=>decide
    | 1,_=>decide
    | 2,_=>decide
    | 3,_=>decide
    | 4,_=>decide
    | 5,_=>decide
    | 6,_=>decide
    | 7,_=>decide
    | m + 8,h=>omega
   clear c0 c2 hF3 hB3 k3 HF2 HW2 HK2 hS hS3 HL
   generalize (nxW raw 4 i1).2 = i3 at *
   generalize (nxW raw 4 i1).1 = q at *
   by_cases hq:q = 1
   ·have HX:Hid (flat (leafW raw v i).1 = tBang ++ atomW m):=by show _ = _; rw [HR.out,if_pos hq,flat2]
    clear HR
    subst hq
    go_wp2_with fail
    go_ret
    exact ⟨congrArg (fun x=>Ending.returned (.string x)) HX.out.symm,by rw [HR2.out]; exact HF3.out,HW3.out,HK3.out⟩
   ·have hq':((q:Int) == 1) = false:=beq_eq_false_iff_ne.2 (by omega)
    have HX:Hid (flat (leafW raw v i).1 = atomW m):=by show _ = _; rw [HR.out,if_neg hq,flat1]
    clear HR hq
    go_wp2_with fail
    go_ret
    exact ⟨congrArg (fun x=>Ending.returned (.string x)) HX.out.symm,by rw [HR2.out]; exact HF3.out,HW3.out,HK3.out⟩
set_option maxRecDepth 100000 in
set_option maxHeartbeats 2000000 in
theorem k_expr (N F B:Nat) (raw:ByteArray) (i:Nat) (s:ByteArray) (v:Bool) (room:Int) (hr:raw.size ≤ 9223372036854775807) (w:World) (hF:FeedAt F raw i w) (hW:WrtAt F B s v room w) (hi:i ≤ raw.size) (hN:N ≤ F∧N ≤ B) (hB:B ≠ F) :
    Calls Tryz.prog 98 #[.pointer (some ⟨B,0,none⟩)] w fun e w'=>e = .returned (.string (flat (exprW raw v i).1))∧FeedAt F raw (exprW raw v i).2 w'∧WrtAt F B s v room w'∧Kw N F B w w':=by
 have HF:=hide hF
 have HW:=hide hW
 clear hF hW
 go_enter Tryz.func98,Tryz.ntmps98
 go_wp2_with fail
 refine (k_leaf N F B raw i s v room hr _ HF.out HW.out hi hN hB).mono ?_
 rintro e w1 ⟨rfl,hF1,hW1,k1⟩
 have hi1:=leaf_in raw v hi
 have za:=leaf_size raw v i
 have HE:Hid (exprW raw v i = (if (nxW raw 5 (leafW raw v i).2).1 = 1 then ((leafW raw v i).1 ++ ([tB,tAnd,tB] ++ (leafW raw v (nxW raw 5 (leafW raw v i).2).2).1),(leafW raw v (nxW raw 5 (leafW raw v i).2).2).2)
  else if (nxW raw 5 (leafW raw v i).2).1 = 2 then ((leafW raw v i).1 ++ ([tB,tOr,tB] ++ (leafW raw v (nxW raw 5 (leafW raw v i).2).2).1),(leafW raw v (nxW raw 5 (leafW raw v i).2).2).2)
  else if (nxW raw 5 (leafW raw v i).2).1 = 3 then ([tOpen] ++ ((leafW raw v i).1 ++ ([tB,tOr,tB] ++ ((leafW raw v (nxW raw 5 (leafW raw v i).2).2).1 ++ ([tShut,tB,tAnd,tB] ++ (leafW raw v (leafW raw v (nxW raw 5 (leafW raw v i).2).2).2).1)))),(leafW raw v (leafW raw v (nxW raw 5 (leafW raw v i).2).2).2).2)
  else ((leafW raw v i).1,(nxW raw 5 (leafW raw v i).2).2))):=rfl
 generalize (leafW raw v i).2 = i1 at *
 generalize hA:(leafW raw v i).1 = pa at *
 clear hA
 have c0:w1.cell? ⟨B,0,none⟩ = some (.pointer (some ⟨F,0,none⟩)):=by unfold WrtAt at hW1; simp [World.cell?,hW1]
 have HF1:=hide hF1
 have HW1:=hide hW1
 have HK1:=hide k1
 clear hF1 hW1 k1 HF HW
 go_wp2_with fail
 refine (k_next N F B raw i1 5 (by decide) hr _ HF1.out hi1 hN.1 hB).mono ?_
 rintro e w2 ⟨rfl,hF2,hB2,k2⟩
 have hk:=nxW_lt raw i1 (n:=5) (by decide)
 have hi2:=nx_in raw 5 hi1
 have HF2:=hide hF2
 have HW2:Hid (WrtAt F B s v room w2):=hB2.trans HW1.out
 have HK2:=hide (HK1.out.trans k2)
 clear hF2 hB2 k2 c0 HF1 HW1 HK1
 generalize (nxW raw 5 i1).2 = i2 at *
 generalize (nxW raw 5 i1).1 = k at *
 have zb:=leaf_size raw v i2
 have hi3:=leaf_in raw v hi2
 have HLB:Hid (∀ w,FeedAt F raw i2 w→WrtAt F B s v room w→Calls Tryz.prog 132 #[.pointer (some ⟨B,0,none⟩)] w fun e w'=>e = .returned (.string (flat (leafW raw v i2).1))∧FeedAt F raw (leafW raw v i2).2 w'∧WrtAt F B s v room w'∧Kw N F B w w'):=fun w h1 h2=>k_leaf N F B raw i2 s v room hr w h1 h2 hi2 hN hB
 generalize (leafW raw v i2).2 = i3 at *
 generalize hpb:(leafW raw v i2).1 = pb at *
 clear hpb
 have zc:=leaf_size raw v i3
 have HLC:Hid (∀ w,FeedAt F raw i3 w→WrtAt F B s v room w→Calls Tryz.prog 132 #[.pointer (some ⟨B,0,none⟩)] w fun e w'=>e = .returned (.string (flat (leafW raw v i3).1))∧FeedAt F raw (leafW raw v i3).2 w'∧WrtAt F B s v room w'∧Kw N F B w w'):=fun w h1 h2=>k_leaf N F B raw i3 s v room hr w h1 h2 hi3 hN hB
 generalize (leafW raw v i3).2 = i4 at *
 generalize hpc:(leafW raw v i3).1 = pc at *
 clear hpc
 by_cases h1:k = 1
 ·have H1:Hid (flat (exprW raw v i).1 = flat pa ++ ⟨#[32,38,32]⟩ ++ flat pb∧(exprW raw v i).2 = i3):=by
    show _∧_
    rw [HE.out,if_pos h1]
    refine ⟨?_,rfl⟩
    show flat (pa ++ ([tB,tAnd,tB] ++ pb)) = _
    rw [flat_app,flat_app,ByteArray.append_assoc]; rfl
  subst h1
  clear HE HLC zc
  go_wp2_with fail
  refine (HLB.out _ HF2.out HW2.out).mono ?_
  rintro e w3 ⟨rfl,hF3,hW3,k3⟩
  have HF3:=hide hF3
  have HW3:=hide hW3
  have HK3:=hide (HK2.out.trans k3)
  clear hF3 hW3 k3 HF2 HW2 HK2 HLB
  generalize flat pa = sa at *
  generalize flat pb = sb at *
  go_wp2_with fail
  go_ret
  exact ⟨congrArg (fun x=>Ending.returned (.string x)) H1.out.1.symm,by rw [H1.out.2]; exact HF3.out,HW3.out,HK3.out⟩
 by_cases h2:k = 2
 ·have H1:Hid (flat (exprW raw v i).1 = flat pa ++ ⟨#[32,124,32]⟩ ++ flat pb∧(exprW raw v i).2 = i3):=by
    show _∧_
    rw [HE.out,if_neg h1,if_pos h2]
    refine ⟨?_,rfl⟩
    show flat (pa ++ ([tB,tOr,tB] ++ pb)) = _
    rw [flat_app,flat_app,ByteArray.append_assoc]; rfl
  subst h2
  clear HE HLC zc h1
  go_wp2_with fail
  refine (HLB.out _ HF2.out HW2.out).mono ?_
  rintro e w3 ⟨rfl,hF3,hW3,k3⟩
  have HF3:=hide hF3
  have HW3:=hide hW3
  have HK3:=hide (HK2.out.trans k3)
  clear hF3 hW3 k3 HF2 HW2 HK2 HLB
  generalize flat pa = sa at *
  generalize flat pb = sb at *
  go_wp2_with fail
  go_ret
  exact ⟨congrArg (fun x=>Ending.returned (.string x)) H1.out.1.symm,by rw [H1.out.2]; exact HF3.out,HW3.out,HK3.out⟩
 by_cases h3:k = 3
 ·have H1:Hid (flat (exprW raw v i).1 = ⟨#[40]⟩ ++ flat pa ++ ⟨#[32,124,32]⟩ ++ flat pb ++ ⟨#[41,32,38,32]⟩ ++ flat pc∧(exprW raw v i).2 = i4):=by
    show _∧_
    rw [HE.out,if_neg h1,if_neg h2,if_pos h3]
    refine ⟨?_,rfl⟩
    show flat ([tOpen] ++ (pa ++ ([tB,tOr,tB] ++ (pb ++ ([tShut,tB,tAnd,tB] ++ pc))))) = _
    rw [flat_app,flat_app,flat_app,flat_app,flat_app]
    simp only [ByteArray.append_assoc]; rfl
  subst h3
  clear HE h1 h2
  go_wp2_with fail
  refine (HLB.out _ HF2.out HW2.out).mono ?_
  rintro e w3 ⟨rfl,hF3,hW3,k3⟩
  have HF3:=hide hF3
  have HW3:=hide hW3
  have HK3:=hide (HK2.out.trans k3)
  clear hF3 hW3 k3 HF2 HW2 HK2 HLB
  go_wp2_with fail
  refine (HLC.out _ HF3.out HW3.out).mono ?_
  rintro e w4 ⟨rfl,hF4,hW4,k4⟩
  have HF4:=hide hF4
  have HW4:=hide hW4
  have HK4:=hide (HK3.out.trans k4)
  clear hF4 hW4 k4 HF3 HW3 HK3 HLC
  generalize flat pa = sa at *
  generalize flat pb = sb at *
  generalize flat pc = sc at *
  go_wp2_with fail
  go_ret
  exact ⟨congrArg (fun x=>Ending.returned (.string x)) H1.out.1.symm,by rw [H1.out.2]; exact HF4.out,HW4.out,HK4.out⟩
 ·have H1:Hid (flat (exprW raw v i).1 = flat pa∧(exprW raw v i).2 = i2):=by
    show _∧_
    rw [HE.out,if_neg h1,if_neg h2,if_neg h3]
    exact ⟨rfl,rfl⟩
  have g1:((k:Int) == 1) = false:=beq_eq_false_iff_ne.2 (by omega)
  have g2:((k:Int) == 2) = false:=beq_eq_false_iff_ne.2 (by omega)
  have g3:((k:Int) == 3) = false:=beq_eq_false_iff_ne.2 (by omega)
  clear HE HLB HLC h1 h2 h3
  go_wp2_with fail
  go_ret
  exact ⟨congrArg (fun x=>Ending.returned (.string x)) H1.out.1.symm,by rw [H1.out.2]; exact HF2.out,HW2.out,HK2.out⟩
end Go.Proofs.YtmfcpbhdggonfaaGreatDoor
