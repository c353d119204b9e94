/- The program's plan, as the program makes it: plain functions. No Go here. -/
import Derived.Test.YtmfcpbhdggonfaaGreatDoorMjAA
import Derived.Lib.ItoaNum
import Derived.Test.YtmfcpbhdggonfaaGreatDoorMjAC
namespace RR
open Go Go.RowKit
structure Tru where
 own:Nat
 num:Int
structure PNd where
 sign:Nat
 tr:Tru
 left:Int
 right:Int
structure PLine where
 kind:Nat
 at_:Nat
 params:Int
 next:Int
 thn:Int
 els:Int
 target:Tru
 lock:Int
 proc:Int
 vals:List (Int × Int)
 choice:Bool
 r0:Bool
 r1:Bool
 r2:Bool
 r3:Bool
structure PProc where
 params:Int
 entry:Int
structure Plan where
 shared:Nat
 locks:Nat
 threads:List Int
 procs:List PProc
 lines:List PLine
 nodes:List PNd
def numF (word:ByteArray) (role:Nat):List Nm→Nat→Int
 | [],_=>-1
 | n :: r,k=>if n.role = role then (if n.word = word then (k:Int) else numF word role r (k + 1)) else numF word role r k
def parF (word:ByteArray) (proc:Int):List Nm→Nat→Int
 | [],_=>-1
 | n :: r,k=>if n.role = 3∧n.proc = proc then (if n.word = word then (k:Int) else parF word proc r (k + 1)) else parF word proc r k
def cntF (proc:Int):List Nm→Nat→Nat
 | [],k=>k
 | n :: r,k=>if n.role = 3∧n.proc = proc then cntF proc r (k + 1) else cntF proc r k
def truthF (ns:List Nm) (i:Int):Tru :=
 if 0 ≤ i∧i < ns.length then
  (if 0 ≤ numF (nmAt ns i.toNat).word 0 ns 0 then ⟨1,numF (nmAt ns i.toNat).word 0 ns 0⟩
   else if 0 ≤ parF (nmAt ns i.toNat).word (nmAt ns i.toNat).proc ns 0 then ⟨2,parF (nmAt ns i.toNat).word (nmAt ns i.toNat).proc ns 0⟩
   else ⟨0,0⟩)
 else ⟨0,0⟩
def nwordF (ns:List Nm) (i:Int):ByteArray:=if 0 ≤ i∧i < ns.length then (nmAt ns i.toNat).word else ⟨#[]⟩
def blkEq (a b:Blk):Bool:=decide (a.proc = b.proc) && (decide (a.owner = b.owner) && (a.els == b.els))
def firstInF (b:Blk) (frm:Int):List Stm→Nat→Option Nat
 | [],_=>none
 | s :: r,i=>if frm ≤ (i:Int) then (if blkEq s.blk b then some i else firstInF b frm r (i + 1)) else firstInF b frm r (i + 1)
def noStm:Stm:=⟨9,0,⟨0,0,false⟩,0,0,[]⟩
def stmAt (l:List Stm) (k:Nat):Stm:=l[k]?.getD noStm
def nextF (l:List Stm):Nat→Blk→Option Nat→Int→Int
 | 0,_,_,_=>0
 | _ + 1,_,some k,_=>(k:Int)
 | f + 1,b,none,last =>
  if 0 ≤ b.owner∧b.owner < last then
   (if (stmAt l b.owner.toNat).kind = 3 then b.owner
    else nextF l f (stmAt l b.owner.toNat).blk (firstInF (stmAt l b.owner.toNat).blk (b.owner + 1) l 0) b.owner)
  else 0
def comesF (l:List Stm) (b:Blk) (frm:Int):Int:=nextF l (l.length + 1) b (firstInF b frm l 0) l.length
def enteredF (l:List Stm) (b:Blk):Int:=comesF l b 0
def addNameF (ns:List Nm) (sts:List Stm) (p:Plan) (n:Nm):Plan :=
 if n.role = 0 then { p with shared:=p.shared + 1 }
 else if n.role = 1 then { p with locks:=p.locks + 1 }
 else if n.role = 2 then { p with procs:=p.procs ++ [⟨cntF n.proc ns 0,enteredF sts ⟨n.proc,-1,false⟩⟩] }
 else if n.role = 7 then { p with threads:=p.threads ++ [numF n.word 2 ns 0] }
 else p
def nodeF (ns:List Nm) (n:Nd):PNd:=⟨n.sign,truthF ns n.name,n.left,n.right⟩
def noNode:PNd:=⟨0,⟨0,0⟩,0,0⟩
def pnAt (l:List PNd) (k:Nat):PNd:=l[k]?.getD noNode
def PLine.read (a:PLine):Nat→PLine
 | 0=>{ a with r0:=true }
 | 1=>{ a with r1:=true }
 | 2=>{ a with r2:=true }
 | _=>{ a with r3:=true }
def look1 (a:PLine) (n:PNd):PLine :=
 let b:=if n.sign = 2 then { a with choice:=true } else a
 if n.tr.own = 1∧0 ≤ n.tr.num∧n.tr.num < 4 then b.read n.tr.num.toNat else b
def lookG (nodes:List PNd) (last:Int):Nat→Int→PLine→PLine
 | 0,_,a=>a
 | f + 1,i,a=>if 0 ≤ i∧i ≤ last∧i < nodes.length then lookG nodes last f (i + 1) (look1 a (pnAt nodes i.toNat)) else a
def lookF (nodes:List PNd) (a:PLine) (e:Int × Int):PLine:=lookG nodes e.2 (nodes.length + 1) e.1 a
def valF (nodes:List PNd) (a:PLine) (e:Int × Int):PLine:=lookF nodes { a with vals:=a.vals ++ [e] } e
def headF (ns:List Nm) (sts:List Stm) (i:Nat) (s:Stm):PLine :=
 let a:PLine:=⟨s.kind,s.at_,cntF s.blk.proc ns 0,comesF sts s.blk ((i:Int) + 1),0,0,truthF ns s.target,0,0,[],false,false,false,false,false⟩
 if s.kind = 2 then { a with thn:=enteredF sts ⟨s.blk.proc,i,false⟩,els:=enteredF sts ⟨s.blk.proc,i,true⟩ }
 else if s.kind = 3 then { a with thn:=enteredF sts ⟨s.blk.proc,i,false⟩,els:=a.next }
 else if s.kind = 5 ∨ s.kind = 6 then { a with lock:=numF (nwordF ns s.name) 1 ns 0 }
 else if s.kind = 1 then { a with proc:=numF (nwordF ns s.name) 2 ns 0 }
 else a
def lineF (ns:List Nm) (sts:List Stm) (nodes:List PNd) (i:Nat) (s:Stm):PLine:=s.vals.foldl (valF nodes) (headF ns sts i s)
def linesF (ns:List Nm) (sts:List Stm) (nodes:List PNd):List Stm→Nat→List PLine
 | [],_=>[]
 | s :: r,i=>lineF ns sts nodes i s :: linesF ns sts nodes r (i + 1)
def emptyPlan:Plan:=⟨0,0,[],[],[],[]⟩
def planF (ns:List Nm) (sts:List Stm) (nds:List Nd):Plan :=
 let p:=ns.foldl (addNameF ns sts) emptyPlan
 { p with nodes:=nds.map (nodeF ns),lines:=linesF ns sts (nds.map (nodeF ns)) sts 0 }
end RR
namespace RR
open Go Go.RowKit
structure Frm where
 line:Int
 p0:Bool
 p1:Bool
 p2:Bool
structure Thr where
 count:Int
 f0:Frm
 f1:Frm
 f2:Frm
 f3:Frm
structure Cfg where
 s0:Bool
 s1:Bool
 s2:Bool
 s3:Bool
 h0:Int
 h1:Int
 h2:Int
 t0:Thr
 t1:Thr
 t2:Thr
def zFrm:Frm:=⟨0,false,false,false⟩
def zThr:Thr:=⟨0,zFrm,zFrm,zFrm,zFrm⟩
def zCfg:Cfg:=⟨false,false,false,false,0,0,0,zThr,zThr,zThr⟩
def Frm.p (f:Frm):Nat→Bool
 | 0=>f.p0
 | 1=>f.p1
 | _=>f.p2
def Frm.setP (f:Frm) (v:Bool):Nat→Frm
 | 0=>{ f with p0:=v }
 | 1=>{ f with p1:=v }
 | _=>{ f with p2:=v }
def Thr.f (t:Thr):Nat→Frm
 | 0=>t.f0
 | 1=>t.f1
 | 2=>t.f2
 | _=>t.f3
def Thr.setF (t:Thr) (v:Frm):Nat→Thr
 | 0=>{ t with f0:=v }
 | 1=>{ t with f1:=v }
 | 2=>{ t with f2:=v }
 | _=>{ t with f3:=v }
def Cfg.s (c:Cfg):Nat→Bool
 | 0=>c.s0
 | 1=>c.s1
 | 2=>c.s2
 | _=>c.s3
def Cfg.setS (c:Cfg) (v:Bool):Nat→Cfg
 | 0=>{ c with s0:=v }
 | 1=>{ c with s1:=v }
 | 2=>{ c with s2:=v }
 | _=>{ c with s3:=v }
def Cfg.h (c:Cfg):Nat→Int
 | 0=>c.h0
 | 1=>c.h1
 | _=>c.h2
def Cfg.setH (c:Cfg) (v:Int):Nat→Cfg
 | 0=>{ c with h0:=v }
 | 1=>{ c with h1:=v }
 | _=>{ c with h2:=v }
def Cfg.t (c:Cfg):Nat→Thr
 | 0=>c.t0
 | 1=>c.t1
 | _=>c.t2
def Cfg.setT (c:Cfg) (v:Thr):Nat→Cfg
 | 0=>{ c with t0:=v }
 | 1=>{ c with t1:=v }
 | _=>{ c with t2:=v }
def threadF (c:Cfg) (i:Int):Thr:=if 0 ≤ i∧i < 3 then c.t i.toNat else zThr
def frameF (t:Thr) (above:Int):Option Frm :=
 if 0 ≤ wrap64 (wrap64 (t.count - 1) - above)∧wrap64 (wrap64 (t.count - 1) - above) < 4 then some (t.f (wrap64 (wrap64 (t.count - 1) - above)).toNat) else none
def pushF (t:Thr) (f:Frm):Option Thr:=if 0 ≤ t.count∧t.count < 4 then some { t.setF f t.count.toNat with count:=t.count + 1 } else none
def popF (t:Thr):Thr:=if 1 ≤ t.count∧t.count ≤ 4 then { t.setF zFrm (t.count - 1).toNat with count:=t.count - 1 } else t
def setLastF (t:Thr) (f:Frm):Thr:=if 1 ≤ t.count∧t.count ≤ 4 then t.setF f (t.count - 1).toNat else t
def endLine:PLine:=⟨9,0,0,0,0,0,⟨0,0⟩,0,0,[],false,false,false,false,false⟩
def lineAt (p:Plan) (n:Int):PLine:=if 0 ≤ n∧n < p.lines.length then p.lines[n.toNat]?.getD endLine else endLine
def procAt (p:Plan) (n:Int):PProc:=if 0 ≤ n∧n < p.procs.length then p.procs[n.toNat]?.getD ⟨0,0⟩ else ⟨0,0⟩
def startF (p:Plan):List Int→Nat→Cfg→Cfg
 | [],_,c=>c
 | n :: r,i,c=>startF p r (i + 1) (if i < 3 then c.setT ((pushF (c.t i) ⟨(procAt p n).entry,false,false,false⟩).getD (c.t i)) i else c)
structure Sight where
 s0:Bool
 s1:Bool
 s2:Bool
 s3:Bool
 p0:Bool
 p1:Bool
 p2:Bool
 choice:Bool
def Sight.s (c:Sight):Nat→Bool
 | 0=>c.s0
 | 1=>c.s1
 | 2=>c.s2
 | _=>c.s3
def Sight.p (f:Sight):Nat→Bool
 | 0=>f.p0
 | 1=>f.p1
 | _=>f.p2
def valAt (v:List Bool) (i:Int):Bool:=if 0 ≤ i∧i < v.length then v[i.toNat]?.getD false else false
def seeF (s:Sight) (t:Tru):Bool :=
 if t.own = 1∧0 ≤ t.num∧t.num < 4 then s.s t.num.toNat
 else if t.own = 2∧0 ≤ t.num∧t.num < 3 then s.p t.num.toNat
 else false
def signF (s:Sight) (n:PNd) (l r:Bool):Bool :=
 if n.sign = 1 then true else if n.sign = 2 then s.choice else if n.sign = 3 then seeF s n.tr else if n.sign = 4 then !r else if n.sign = 5 then l && r else if n.sign = 6 then l || r else false
def workG (s:Sight) (nodes:List PNd) (first last:Int):Nat→Int→List Bool→List Bool
 | 0,_,v=>v
 | f + 1,i,v=>if 0 ≤ i∧i ≤ last∧i < nodes.length then workG s nodes first last f (i + 1) (v ++ [signF s (pnAt nodes i.toNat) (valAt v (wrap64 ((pnAt nodes i.toNat).left - first))) (valAt v (wrap64 ((pnAt nodes i.toNat).right - first)))]) else v
def workF (s:Sight) (nodes:List PNd) (e:Int × Int):Bool:=valAt (workG s nodes e.1 e.2 (nodes.length + 1) e.1 []) (wrap64 (e.2 - e.1))
def workAllF (s:Sight) (nodes:List PNd) (l:List (Int × Int)):List Bool:=l.map (workF s nodes)
structure Wlk where
 c:Cfg
 f:Thr
 holder:Int
def goToF (w:Wlk) (line:Int):Wlk :=
 match frameF w.f 0 with
 | some f=>{ w with f:=setLastF w.f { f with line:=line } }
 | none=>w
def giveF (w:Wlk) (to:Tru) (v:Bool):Wlk :=
 if to.num < 0 then w else
  let w1:Wlk:=if to.own = 1∧to.num < 4 then { w with c:=w.c.setS v to.num.toNat } else w
  match frameF w1.f 0 with
  | some f=>if to.own = 2∧to.num < 3 then { w1 with f:=setLastF w1.f (f.setP v to.num.toNat) } else w1
  | none=>w1
def giveBackF (p:Plan) (w:Wlk) (v:Bool):Wlk :=
 let w1:Wlk:={ w with f:=popF w.f }
 match frameF w1.f 0 with
 | some b=>goToF (giveF w1 (lineAt p b.line).target v) (lineAt p b.line).next
 | none=>w1
def passF (w:Wlk) (lock frm to:Int):Option Wlk :=
 if 0 ≤ lock∧lock < 3 then (if w.c.h lock.toNat = frm then some { w with c:=w.c.setH to lock.toNat } else none) else none
def parsF (v:List Bool) (n:Int):Nat→Nat→Frm→Frm
 | 0,_,f=>f
 | d + 1,i,f=>if (i:Int) < n∧i < 3 then parsF v n d (i + 1) (f.setP (valAt v i) i) else f
def callF (p:Plan) (w:Wlk) (ln:PLine) (v:List Bool):Option Wlk :=
 (pushF w.f (parsF v (procAt p ln.proc).params 4 0 ⟨(procAt p ln.proc).entry,false,false,false⟩)).map fun t=>{ w with f:=t }
def actF (w:Wlk) (ln:PLine) (v:Bool):Option Wlk :=
 if ln.kind = 0 then some (giveF w ln.target v)
 else if ln.kind = 4 then (if v then some w else none)
 else if ln.kind = 5 then passF w ln.lock 0 w.holder
 else if ln.kind = 6 then passF w ln.lock w.holder 0
 else some w
def walkF (p:Plan) (w:Wlk) (ln:PLine) (v:List Bool):Option Wlk :=
 if ln.kind = 1 then callF p w ln v
 else if ln.kind = 7 ∨ ln.kind = 9 then some (giveBackF p w (valAt v 0))
 else if ln.kind = 2 ∨ ln.kind = 3 then some (goToF w (if valAt v 0 then ln.thn else ln.els))
 else (actF w ln (valAt v 0)).map fun w1=>goToF w1 ln.next
def stepF (p:Plan) (c:Cfg) (i:Int) (ch:Bool):Option Cfg :=
 if 0 ≤ i∧i < 3 then
  match frameF (c.t i.toNat) 0 with
  | none=>none
  | some f =>
   if ch && !(lineAt p f.line).choice then none
   else (walkF p ⟨c,c.t i.toNat,i + 1⟩ (lineAt p f.line) (workAllF ⟨c.s0,c.s1,c.s2,c.s3,f.p0,f.p1,f.p2,ch⟩ p.nodes (lineAt p f.line).vals)).map fun w=>w.c.setT w.f i.toNat
 else none
def letterF (i:Int) (ch:Bool):ByteArray :=
 if i = 0 then (if ch then ⟨#[65]⟩ else ⟨#[97]⟩) else if i = 1 then (if ch then ⟨#[66]⟩ else ⟨#[98]⟩) else if i = 2 then (if ch then ⟨#[67]⟩ else ⟨#[99]⟩) else ⟨#[]⟩
def letterIfF (p:Plan) (c:Cfg) (i:Int) (ch:Bool):ByteArray:=if (stepF p c i ch).isSome then letterF i ch else ⟨#[]⟩
def enabledF (p:Plan) (c:Cfg):ByteArray :=
 (((((((⟨#[]⟩:ByteArray) ++ letterIfF p c 0 false) ++ letterIfF p c 0 true) ++ letterIfF p c 1 false) ++ letterIfF p c 1 true) ++ letterIfF p c 2 false) ++ letterIfF p c 2 true)
def atAcqF (p:Plan) (t:Thr):Bool :=
 match frameF t 0 with
 | some f=>(lineAt p f.line).kind == 5
 | none=>false
def deadF (p:Plan) (c:Cfg):Bool:=(atAcqF p c.t0 || atAcqF p c.t1 || atAcqF p c.t2) && (enabledF p c).size == 0
structure Tch where
 r0:Bool
 r1:Bool
 r2:Bool
 r3:Bool
 w0:Bool
 w1:Bool
 w2:Bool
 w3:Bool
def Tch.r (c:Tch):Nat→Bool
 | 0=>c.r0
 | 1=>c.r1
 | 2=>c.r2
 | _=>c.r3
def Tch.w (c:Tch):Nat→Bool
 | 0=>c.w0
 | 1=>c.w1
 | 2=>c.w2
 | _=>c.w3
def Tch.setW (c:Tch):Nat→Tch
 | 0=>{ c with w0:=true }
 | 1=>{ c with w1:=true }
 | 2=>{ c with w2:=true }
 | _=>{ c with w3:=true }
def zTch:Tch:=⟨false,false,false,false,false,false,false,false⟩
def writtenF (p:Plan) (t:Thr) (ln:PLine):Tru :=
 if ln.kind = 0 then ln.target
 else match frameF t 1 with
  | some b=>if ln.kind = 7 ∨ ln.kind = 9 then (lineAt p b.line).target else ⟨0,0⟩
  | none=>⟨0,0⟩
def touchF (p:Plan) (t:Thr):Tch :=
 match frameF t 0 with
 | none=>zTch
 | some f =>
  let ln:=lineAt p f.line
  let a:Tch:=⟨ln.r0,ln.r1,ln.r2,ln.r3,false,false,false,false⟩
  if (writtenF p t ln).own = 1∧0 ≤ (writtenF p t ln).num∧(writtenF p t ln).num < 4 then a.setW (writtenF p t ln).num.toNat else a
def spoilsF (a b:Tch):Bool:=(a.w0 && (b.w0 || b.r0)) || (a.w1 && (b.w1 || b.r1)) || (a.w2 && (b.w2 || b.r2)) || (a.w3 && (b.w3 || b.r3))
def clashT (p:Plan) (a b:Thr):Bool:=spoilsF (touchF p a) (touchF p b) || spoilsF (touchF p b) (touchF p a)
def raceF (p:Plan) (c:Cfg):Bool:=clashT p c.t1 c.t0 || (clashT p c.t2 c.t0 || clashT p c.t2 c.t1)
def bitF (b:Bool):ByteArray:=if b then ⟨#[49]⟩ else ⟨#[48]⟩
def holderF (h:Int):ByteArray:=if h = 0 then ⟨#[45]⟩ else letterF (wrap64 (h - 1)) false
def bitsF (g:Nat→Bool) (n:Int) (m:Nat):Nat→Nat→ByteArray→ByteArray
 | 0,_,s=>s
 | d + 1,i,s=>if (i:Int) < n∧i < m then bitsF g n m d (i + 1) (s ++ bitF (g i)) else s
def locksF (g:Nat→Int) (n:Int):Nat→Nat→ByteArray→ByteArray
 | 0,_,s=>s
 | d + 1,i,s=>if (i:Int) < n∧i < 3 then locksF g n d (i + 1) (s ++ holderF (g i)) else s
def itoaF (n:Nat):ByteArray:=⟨(Lib.decDigits n).toArray⟩
def frameTextF (p:Plan) (f:Frm):ByteArray:=bitsF f.p (lineAt p f.line).params 3 4 0 (itoaF (lineAt p f.line).at_ ++ ⟨#[58]⟩)
def framesG (p:Plan) (t:Thr):Nat→Nat→ByteArray→ByteArray
 | 0,_,s=>s
 | d + 1,i,s=>if (i:Int) < t.count∧i < 4 then framesG p t d (i + 1) ((if 0 < i then s ++ ⟨#[44]⟩ else s) ++ frameTextF p (t.f i)) else s
def framesTextF (p:Plan) (t:Thr):ByteArray:=framesG p t 5 0 ⟨#[]⟩
def threadsG (p:Plan) (c:Cfg):Nat→Nat→ByteArray→ByteArray
 | 0,_,s=>s
 | d + 1,i,s=>threadsG p c d (i + 1) ((s ++ ⟨#[47]⟩) ++ framesTextF p (threadF c i))
def textF (p:Plan) (c:Cfg):ByteArray :=
 threadsG p c p.threads.length 0 (locksF c.h p.locks 4 0 (bitsF c.s p.shared 4 5 0 ⟨#[]⟩ ++ ⟨#[47]⟩))
end RR
namespace RR
open Go Go.RowKit
def St (n:Nat) (d P:Int) (ns:List Nm) (cs:List Cl) (sts:List Stm) (nds:List Nd):QSt:=⟨⟨n,d,P,false,ns,cs⟩,sts,nds⟩
def plAt (L:List Tk) (n:Nat):Nat:=if h:n < L.length then L[n].p else 0
theorem ahead_pl {L:List Tk} {n:Nat} {d P:Int} {ns:List Nm} {cs:List Cl}:((⟨n,d,P,false,ns,cs⟩:PSt).ahead L 0).p = plAt L n:=by
 unfold PSt.ahead plAt
 by_cases h:n < L.length
 ·rw [dif_pos ⟨rfl,h⟩,dif_pos h]; rfl
 ·rw [dif_neg (fun q=>h q.2),dif_neg h]
theorem st_name {L:List Tk} {n:Nat} {d P:Int} {ns:List Nm} {cs:List Cl} {t:ByteArray} (role:Nat) (h:tAt L n = t) (hn:isNameB t = true):(⟨n,d,P,false,ns,cs⟩:PSt).takeName L role = ⟨n + 1,d,P,false,ns ++ [⟨t,plAt L n,role,P⟩],cs⟩:=by
 unfold PSt.takeName
 rw [ahead_is (σ:=⟨n,d,P,false,ns,cs⟩) rfl h,if_pos hn,ahead_pl]
theorem st_take {L:List Tk} {n:Nat} {d P:Int} {ns:List Nm} {cs:List Cl} {t:ByteArray} (h:tAt L n = t):(⟨n,d,P,false,ns,cs⟩:PSt).take L t = ⟨n + 1,d,P,false,ns,cs⟩:=take_is (σ:=⟨n,d,P,false,ns,cs⟩) rfl h
theorem st_sees {L:List Tk} {n:Nat} {d P:Int} {ns:List Nm} {cs:List Cl} {t:ByteArray} (u:ByteArray) (h:tAt L n = t):(⟨n,d,P,false,ns,cs⟩:PSt).sees L u = decide (t = u):=sees_at (σ:=⟨n,d,P,false,ns,cs⟩) rfl h u
theorem st_enter {L:List Tk} {n:Nat} {d P:Int} {ns:List Nm} {cs:List Cl} {t:ByteArray} (h:tAt L n = t) (h0:0 ≤ d) (h6:d < 6):enterP L (⟨n,d,P,false,ns,cs⟩:PSt) t = ⟨n + 1,d + 1,P,false,ns,cs⟩:=enter_is (σ:=⟨n,d,P,false,ns,cs⟩) rfl h h0 h6
theorem st_leave {L:List Tk} {n:Nat} {d P:Int} {ns:List Nm} {cs:List Cl} {t:ByteArray} (h:tAt L n = t) (h0:0 ≤ d) (h6:d ≤ 7):leaveP L (⟨n,d,P,false,ns,cs⟩:PSt) t = ⟨n + 1,d - 1,P,false,ns,cs⟩:=leave_is (σ:=⟨n,d,P,false,ns,cs⟩) rfl h h0 h6
def stepN (s:Sight) (NS:List Nm) (first:Int) (v:List Bool) (n:Nd):List Bool:=v ++ [signF s (nodeF NS n) (valAt v (wrap64 (n.left - first))) (valAt v (wrap64 (n.right - first)))]
theorem valAt_is {l:List Bool} {j:Int} {k:Nat} {v:Bool} (hj:j = k) (h:l[k]? = some v):valAt l j = v:=by
 have hk:=(List.getElem?_eq_some_iff.1 h).1
 unfold valAt
 rw [if_pos ⟨by omega,by omega⟩,hj,Int.toNat_natCast,h]; rfl
theorem wrap_mid {z:Int} (h:-1000000 ≤ z) (h2:z ≤ 1000000):wrap64 z = z:=by
 unfold wrap64
 omega
theorem last_at {vs us:List Bool} {v:Bool} (h:us.getLast? = some v):(vs ++ us)[vs.length + us.length - 1]? = some v:=by
 have hne:0 < us.length:=by
  cases us with
  | nil=>cases h
  | cons a r=>simp
 rw [List.getLast?_eq_getElem?] at h
 rw [List.getElem?_append_right (by omega),← h]
 congr 1
 omega
structure Wrt (E:List (ByteArray × Bool)) (ch v a:Bool) (P:Int) (i b:Nat) (nn:List Nm) (xs:List Nd):Prop where
 use:∀ x ∈ nn,x.role = 4∧x.proc = P∧∃ b,(x.word,b) ∈ E
 pos:0 < xs.length
 asks:xs.any (fun n=>decide (n.sign = 2)) = a
 val:∀ (NS:List Nm) (s:Sight) (first:Int) (vs:List Bool),(∀ (k:Nat) (x:Nm),nn[k]? = some x→∀ c,(x.word,c) ∈ E→seeF s (truthF NS ((i + k:Nat):Int)) = c)→(a = true→s.choice = ch)→0 ≤ first→first + vs.length = b→b + xs.length ≤ 100000 →
  ∃ us,xs.foldl (stepN s NS first) vs = vs ++ us∧us.length = xs.length∧us.getLast? = some v
theorem Wrt.const {E:List (ByteArray × Bool)} {ch:Bool} {P:Int} {i b:Nat} (v:Bool):Wrt E ch v false P i b [] [⟨if v then 1 else 0,-1,0,0⟩]:=by
 refine ⟨fun _ h=>(by cases h),Nat.zero_lt_one,by cases v <;> rfl,fun NS s first vs _ _ _ _ _=>⟨[v],?_,rfl,rfl⟩⟩
 cases v <;> rfl
theorem Wrt.ask {E:List (ByteArray × Bool)} {ch:Bool} {P:Int} {i b:Nat}:Wrt E ch ch true P i b [] [⟨2,-1,0,0⟩]:=by
 refine ⟨fun _ h=>(by cases h),Nat.zero_lt_one,rfl,fun NS s first vs _ hc _ _ _=>⟨[ch],?_,rfl,rfl⟩⟩
 have:=hc rfl
 show vs ++ [s.choice] = _
 rw [this]
theorem Wrt.name {E:List (ByteArray × Bool)} {ch v:Bool} {P:Int} {i b q:Nat} {t:ByteArray} (h:(t,v) ∈ E):Wrt E ch v false P i b [⟨t,q,4,P⟩] [⟨3,i,0,0⟩]:=by
 refine ⟨fun x hx=>?_,Nat.zero_lt_one,rfl,fun NS s first vs hn _ _ _ _=>⟨[v],?_,rfl,rfl⟩⟩
 ·rw [List.mem_singleton.1 hx]; exact ⟨rfl,rfl,v,h⟩
 ·have:=hn 0 _ rfl v h
  show vs ++ [seeF s (truthF NS (i:Int))] = _
  rw [← this]; rfl
theorem Wrt.neg {E:List (ByteArray × Bool)} {ch v a:Bool} {P:Int} {i b:Nat} {nn:List Nm} {xs:List Nd} (h:Wrt E ch v a P i b nn xs):Wrt E ch (!v) a P i b nn (xs ++ [⟨4,-1,0,((b + xs.length:Nat):Int) - 1⟩]):=by
 refine ⟨h.use,by simp,by rw [List.any_append,h.asks]; simp,fun NS s first vs hn hc h0 hf hb=>?_⟩
 have hp:=h.pos
 rw [List.length_append,List.length_singleton] at hb
 obtain ⟨us,e,hl,hv⟩:=h.val NS s first vs hn hc h0 hf (by omega)
 refine ⟨us ++ [!v],?_,by rw [List.length_append,List.length_append,hl]; rfl,by simp⟩
 rw [List.foldl_append,e]
 show vs ++ us ++ [!(valAt (vs ++ us) (wrap64 (((b + xs.length:Nat):Int) - 1 - first)))] = _
 rw [wrap_mid (by omega) (by omega),valAt_is (k:=vs.length + us.length - 1) (by omega) (last_at hv),List.append_assoc]
theorem Wrt.bin {E:List (ByteArray × Bool)} {ch va aa vb ab:Bool} {P:Int} {i b:Nat} {nn mm:List Nm} {xs ys:List Nd} (k:Bool) (ha:Wrt E ch va aa P i b nn xs) (hb:Wrt E ch vb ab P (i + nn.length) (b + xs.length) mm ys) :
    Wrt E ch (if k then va && vb else va || vb) (aa || ab) P i b (nn ++ mm) (xs ++ (ys ++ [⟨if k then 5 else 6,-1,((b + xs.length:Nat):Int) - 1,((b + xs.length + ys.length:Nat):Int) - 1⟩])):=by
 have hp:=ha.pos
 have hq:=hb.pos
 refine ⟨fun x hx=>?_,by simp only [List.length_append,List.length_singleton]; omega,by rw [List.any_append,List.any_append,ha.asks,hb.asks]; cases k <;> simp,fun NS s first vs hn hc h0 hf hl=>?_⟩
 ·rcases List.mem_append.1 hx with hx | hx
  ·exact ha.use x hx
  ·exact hb.use x hx
 ·simp only [List.length_append,List.length_singleton] at hl
  obtain ⟨us,e1,l1,v1⟩:=ha.val NS s first vs (fun j x hj=>hn j x (by rw [List.getElem?_append_left (List.getElem?_eq_some_iff.1 hj).1]; exact hj)) (fun q=>hc (by rw [q]; rfl)) h0 hf (by omega)
  obtain ⟨ws,e2,l2,v2⟩:=hb.val NS s first (vs ++ us) (fun j x hj c hx=>by
   have:=hn (nn.length + j) x (by rw [List.getElem?_append_right (by omega)]; rw [← hj]; congr 1; omega) c hx
   rw [← this]; congr 3; omega) (fun q=>hc (by rw [q,Bool.or_true])) h0 (by rw [List.length_append,l1]; omega) (by omega)
  refine ⟨us ++ (ws ++ [if k then va && vb else va || vb]),?_,by simp only [List.length_append,List.length_singleton,l1,l2],by simp⟩
  rw [List.foldl_append,e1,List.foldl_append,e2]
  have x1:valAt (vs ++ us ++ ws) (wrap64 (((b + xs.length:Nat):Int) - 1 - first)) = va:=by
   rw [wrap_mid (by omega) (by omega)]
   refine valAt_is (k:=vs.length + us.length - 1) (by omega) ?_
   rw [List.getElem?_append_left (by rw [List.length_append]; omega)]
   exact last_at v1
  have x2:valAt (vs ++ us ++ ws) (wrap64 (((b + xs.length + ys.length:Nat):Int) - 1 - first)) = vb:=by
   rw [wrap_mid (by omega) (by omega)]
   exact valAt_is (k:=(vs ++ us).length + ws.length - 1) (by rw [List.length_append]; omega) (last_at v2)
  show vs ++ us ++ ws ++ [signF s (nodeF NS ⟨if k then 5 else 6,-1,((b + xs.length:Nat):Int) - 1,((b + xs.length + ys.length:Nat):Int) - 1⟩) (valAt (vs ++ us ++ ws) (wrap64 (((b + xs.length:Nat):Int) - 1 - first))) (valAt (vs ++ us ++ ws) (wrap64 (((b + xs.length + ys.length:Nat):Int) - 1 - first)))] = _
  rw [x1,x2]
  simp only [List.append_assoc]
  cases k <;> rfl
def RdTo (E:List (ByteArray × Bool)) (ch v a:Bool) (m n:Nat) (d P:Int) (ns:List Nm) (cs:List Cl) (sts:List Stm) (nds:List Nd) (o:Option (QSt × Int)):Prop :=
 ∃ nn xs,o = some (St (n + m) d P (ns ++ nn) cs sts (nds ++ xs),((nds.length + xs.length:Nat):Int) - 1)∧Wrt E ch v a P ns.length nds.length nn xs∧nn.length ≤ m∧xs.length ≤ 2 * m
def Hd (ts:List ByteArray):Prop:=∃ t r,ts = t :: r∧(t = tShut→False)∧(t = tSemi→False)∧(isNameB t = true→∀ u q,r = u :: q→u = tOpen→False)
theorem Hd.app {a b:List ByteArray} {u:ByteArray} (h:Hd a) (hu:u = tOpen→False):Hd (a ++ u :: b):=by
 obtain ⟨t,r,rfl,h1,h2,h3⟩:=h
 refine ⟨t,r ++ u :: b,rfl,h1,h2,fun hn x q e=>?_⟩
 cases r with
 | nil =>
  have:u = x:=(List.cons.inj e).1
  rw [← this]; exact hu
 | cons y r =>
  have:y = x:=(List.cons.inj e).1
  rw [← this]; exact h3 hn y r rfl
structure PlnOk (E:List (ByteArray × Bool)) (ch:Bool) (K D:Nat) (ts:List ByteArray) (v a:Bool):Prop where
 first:∃ t r,ts = t :: r∧(t = tBang→False)
 hd:Hd ts
 rd:∀ (L:List Tk) (f n:Nat) (d P:Int) (ns:List Nm) (cs:List Cl) (sts:List Stm) (nds:List Nd),K ≤ f→Lies L n ts→0 ≤ d→d + D ≤ 6→RdTo E ch v a ts.length n d P ns cs sts nds (plainQ L (bracketedQ L f) (St n d P ns cs sts nds))
structure FacOk (E:List (ByteArray × Bool)) (ch:Bool) (K D:Nat) (ts:List ByteArray) (v a:Bool):Prop where
 hd:Hd ts
 rd:∀ (L:List Tk) (f n:Nat) (d P:Int) (ns:List Nm) (cs:List Cl) (sts:List Stm) (nds:List Nd),K ≤ f→Lies L n ts→0 ≤ d→d + D ≤ 6→RdTo E ch v a ts.length n d P ns cs sts nds (factorQ L f (St n d P ns cs sts nds))
structure TrmOk (E:List (ByteArray × Bool)) (ch:Bool) (K D:Nat) (ts:List ByteArray) (v a:Bool):Prop where
 hd:Hd ts
 rd:∀ (L:List Tk) (f n:Nat) (d P:Int) (ns:List Nm) (cs:List Cl) (sts:List Stm) (nds:List Nd),K ≤ f→Lies L n ts→(tAt L (n + ts.length) = tAnd→False)→0 ≤ d→d + D ≤ 6→RdTo E ch v a ts.length n d P ns cs sts nds (termQ L f (St n d P ns cs sts nds))
structure ExpOk (E:List (ByteArray × Bool)) (ch:Bool) (K D:Nat) (ts:List ByteArray) (v a:Bool):Prop where
 hd:Hd ts
 rd:∀ (L:List Tk) (f n:Nat) (d P:Int) (ns:List Nm) (cs:List Cl) (sts:List Stm) (nds:List Nd),K ≤ f→Lies L n ts→(tAt L (n + ts.length) = tAnd→False)→(tAt L (n + ts.length) = tOr→False)→0 ≤ d→d + D ≤ 6→RdTo E ch v a ts.length n d P ns cs sts nds (exprQ L f (St n d P ns cs sts nds))
theorem pln_true {E:List (ByteArray × Bool)} {ch:Bool}:PlnOk E ch 0 0 [tTrue] true false:=by
 refine ⟨⟨_,_,rfl,by decide⟩,⟨_,_,rfl,by decide,by decide,fun _ u q e=>by cases e⟩,fun L f n d P ns cs sts nds _ hL _ _=>?_⟩
 have h1:tAt L n = tTrue:=hL.1
 have e0:((⟨n,d,P,false,ns,cs⟩:PSt).ahead L 0).t = tTrue:=ahead_is (σ:=⟨n,d,P,false,ns,cs⟩) rfl h1
 refine ⟨[],[⟨1,-1,0,0⟩],?_,Wrt.const true,Nat.zero_le _,by decide⟩
 unfold plainQ St
 simp only [e0]
 unfold constQ
 rw [if_neg (by decide),if_pos trivial,st_take h1]
 simp [QSt.node,QSt.setp]
theorem pln_false {E:List (ByteArray × Bool)} {ch:Bool}:PlnOk E ch 0 0 [tFalse] false false:=by
 refine ⟨⟨_,_,rfl,by decide⟩,⟨_,_,rfl,by decide,by decide,fun _ u q e=>by cases e⟩,fun L f n d P ns cs sts nds _ hL _ _=>?_⟩
 have h1:tAt L n = tFalse:=hL.1
 have e0:((⟨n,d,P,false,ns,cs⟩:PSt).ahead L 0).t = tFalse:=ahead_is (σ:=⟨n,d,P,false,ns,cs⟩) rfl h1
 refine ⟨[],[⟨0,-1,0,0⟩],?_,Wrt.const false,Nat.zero_le _,by decide⟩
 unfold plainQ St
 simp only [e0]
 unfold constQ
 rw [if_neg (by decide),if_neg (by decide),if_pos trivial,st_take h1]
 simp [QSt.node,QSt.setp]
theorem pln_ask {E:List (ByteArray × Bool)} {ch:Bool}:PlnOk E ch 0 0 [tAsk] ch true:=by
 refine ⟨⟨_,_,rfl,by decide⟩,⟨_,_,rfl,by decide,by decide,fun _ u q e=>by cases e⟩,fun L f n d P ns cs sts nds _ hL _ _=>?_⟩
 have h1:tAt L n = tAsk:=hL.1
 have e0:((⟨n,d,P,false,ns,cs⟩:PSt).ahead L 0).t = tAsk:=ahead_is (σ:=⟨n,d,P,false,ns,cs⟩) rfl h1
 refine ⟨[],[⟨2,-1,0,0⟩],?_,Wrt.ask,Nat.zero_le _,by decide⟩
 unfold plainQ St
 simp only [e0]
 unfold constQ
 rw [if_neg (by decide),if_neg (by decide),if_neg (by decide),if_pos trivial,st_take h1]
 simp [QSt.node,QSt.setp]
theorem pln_name {E:List (ByteArray × Bool)} {ch v:Bool} {t:ByteArray} (h:(t,v) ∈ E) (hn:isNameB t = true) (hw:(t = tOpen→False)∧(t = tTrue→False)∧(t = tFalse→False)∧(t = tAsk→False)∧(t = tBang→False)∧(t = tShut→False)∧(t = tSemi→False)):PlnOk E ch 0 0 [t] v false:=by
 refine ⟨⟨_,_,rfl,hw.2.2.2.2.1⟩,⟨_,_,rfl,hw.2.2.2.2.2.1,hw.2.2.2.2.2.2,fun _ u q e=>by cases e⟩,fun L f n d P ns cs sts nds _ hL _ _=>?_⟩
 have h1:tAt L n = t:=hL.1
 have e0:((⟨n,d,P,false,ns,cs⟩:PSt).ahead L 0).t = t:=ahead_is (σ:=⟨n,d,P,false,ns,cs⟩) rfl h1
 refine ⟨[⟨t,plAt L n,4,P⟩],[⟨3,ns.length,0,0⟩],?_,Wrt.name h,Nat.le_refl _,by show 1 ≤ 2 * 1; decide⟩
 unfold plainQ St
 simp only [e0]
 rw [if_neg hw.1,if_neg hw.2.1,if_neg hw.2.2.1,if_neg hw.2.2.2.1,st_name 4 h1 hn]
 unfold nameIx
 rw [e0,if_pos hn]
 simp [QSt.node,QSt.setp]
theorem fac_plain {E:List (ByteArray × Bool)} {ch:Bool} {K D:Nat} {ts:List ByteArray} {v a:Bool} (h:PlnOk E ch K D ts v a):FacOk E ch (K + 2) D ts v a:=by
 refine ⟨h.hd,fun L f n d P ns cs sts nds hf hL h0 h6=>?_⟩
 obtain ⟨g,rfl⟩:∃ g,f = g + 2:=⟨f - 2,by omega⟩
 obtain ⟨t,r,rfl,ht⟩:=h.first
 obtain ⟨nn,xs,e,w,l1,l2⟩:=h.rd L (g + 1) n d P ns cs sts nds (by omega) hL h0 h6
 refine ⟨nn,xs,?_,w,l1,l2⟩
 rw [factorQ_succ,notsQ]
 have:(St n d P ns cs sts nds).p.sees L ⟨#[33]⟩ = false:=(st_sees _ hL.1).trans (decide_eq_false ht)
 rw [this,if_neg (by decide),Option.bind_some,e]; rfl
theorem fac_bang {E:List (ByteArray × Bool)} {ch:Bool} {K D:Nat} {ts:List ByteArray} {v a:Bool} (h:PlnOk E ch K D ts v a):FacOk E ch (K + 3) D (tBang :: ts) (!v) a:=by
 refine ⟨⟨_,_,rfl,by decide,by decide,fun q=>by rw [show isNameB tBang = false by kernel_rfl] at q; cases q⟩,fun L f n d P ns cs sts nds hf hL h0 h6=>?_⟩
 obtain ⟨g,rfl⟩:∃ g,f = g + 3:=⟨f - 3,by omega⟩
 obtain ⟨t,r,rfl,ht⟩:=h.first
 obtain ⟨nn,xs,e,w,l1,l2⟩:=h.rd L (g + 2) (n + 1) d P ns cs sts nds (by omega) hL.2 h0 h6
 have w2:=w.neg
 refine ⟨nn,_,?_,w2,by simp only [List.length_cons] at *; omega,by simp only [List.length_cons,List.length_append,List.length_nil] at *; omega⟩
 rw [factorQ_succ,notsQ]
 have s1:(St n d P ns cs sts nds).p.sees L ⟨#[33]⟩ = true:=(st_sees _ hL.1).trans (decide_eq_true rfl)
 have s2:(St (n + 1) d P ns cs sts nds).p.sees L ⟨#[33]⟩ = false:=(st_sees _ hL.2.1).trans (decide_eq_false ht)
 rw [s1,if_pos rfl]
 show ((notsQ L (g + 1) (St (n + 1) d P ns cs sts nds) 1).bind _) = _
 rw [notsQ,s2,if_neg (by decide),Option.bind_some]
 show (plainQ L (bracketedQ L (g + 2)) (St (n + 1) d P ns cs sts nds)).map _ = _
 rw [e]
 simp only [Option.map_some,addNots,QSt.node,St,List.length_cons,List.append_assoc,List.length_append,List.length_nil]
 congr 3
 ·congr 1; omega
 ·omega
theorem pln_brack {E:List (ByteArray × Bool)} {ch:Bool} {K D:Nat} {ts:List ByteArray} {v a:Bool} (h:ExpOk E ch K D ts v a):PlnOk E ch (K + 1) (D + 1) (tOpen :: (ts ++ [tShut])) v a:=by
 refine ⟨⟨_,_,rfl,by decide⟩,⟨_,_,rfl,by decide,by decide,fun q=>by rw [show isNameB tOpen = false by kernel_rfl] at q; cases q⟩,fun L f n d P ns cs sts nds hf hL h0 h6=>?_⟩
 obtain ⟨g,rfl⟩:∃ g,f = g + 1:=⟨f - 1,by omega⟩
 obtain ⟨k1,k2⟩:=lies_app.1 hL.2
 have kS:tAt L (n + 1 + ts.length) = tShut:=k2.1
 obtain ⟨nn,xs,e,w,l1,l2⟩:=h.rd L g (n + 1) (d + 1) P ns cs sts nds (by omega) k1 (by rw [kS]; decide) (by rw [kS]; decide) (by omega) (by omega)
 refine ⟨nn,xs,?_,w,by simp only [List.length_cons,List.length_append,List.length_nil]; omega,by simp only [List.length_cons,List.length_append,List.length_nil]; omega⟩
 have e0:((St n d P ns cs sts nds).p.ahead L 0).t = tOpen:=ahead_is (σ:=⟨n,d,P,false,ns,cs⟩) rfl hL.1
 unfold plainQ
 rw [e0,if_pos rfl,bracketedQ_succ]
 have en:(St n d P ns cs sts nds).setp (enterP L (St n d P ns cs sts nds).p ⟨#[40]⟩) = St (n + 1) (d + 1) P ns cs sts nds:=by
  show QSt.mk (enterP L ⟨n,d,P,false,ns,cs⟩ tOpen) sts nds = _
  rw [st_enter hL.1 h0 (by omega)]; rfl
 rw [en,e]
 have lv:(St (n + 1 + ts.length) (d + 1) P (ns ++ nn) cs sts (nds ++ xs)).setp (leaveP L (St (n + 1 + ts.length) (d + 1) P (ns ++ nn) cs sts (nds ++ xs)).p ⟨#[41]⟩) = St (n + (tOpen :: (ts ++ [tShut])).length) d P (ns ++ nn) cs sts (nds ++ xs):=by
  show QSt.mk (leaveP L ⟨n + 1 + ts.length,d + 1,P,false,ns ++ nn,cs⟩ tShut) sts (nds ++ xs) = _
  rw [st_leave kS (by omega) (by omega)]
  unfold St
  congr 2
  ·simp only [List.length_cons,List.length_append,List.length_nil]; omega
  ·omega
 show some (_,_) = _
 rw [lv]
theorem trm_one {E:List (ByteArray × Bool)} {ch:Bool} {K D:Nat} {ts:List ByteArray} {v a:Bool} (h:FacOk E ch K D ts v a):TrmOk E ch (K + 2) D ts v a:=by
 refine ⟨h.hd,fun L f n d P ns cs sts nds hf hL hu h0 h6=>?_⟩
 obtain ⟨g,rfl⟩:∃ g,f = g + 2:=⟨f - 2,by omega⟩
 obtain ⟨nn,xs,e,w,l1,l2⟩:=h.rd L (g + 1) n d P ns cs sts nds (by omega) hL h0 h6
 refine ⟨nn,xs,?_,w,l1,l2⟩
 rw [termQ_succ,e,Option.bind_some]
 show andQ L (g + 1) (St (n + ts.length) d P (ns ++ nn) cs sts (nds ++ xs)) _ = _
 rw [andQ_succ]
 have:(St (n + ts.length) d P (ns ++ nn) cs sts (nds ++ xs)).p.sees L ⟨#[38]⟩ = false:=(st_sees _ rfl).trans (decide_eq_false hu)
 rw [this]; rfl
theorem trm_two {E:List (ByteArray × Bool)} {ch:Bool} {K D:Nat} {ts us:List ByteArray} {v a v2 a2:Bool} (h:FacOk E ch K D ts v a) (k:FacOk E ch K D us v2 a2):TrmOk E ch (K + 3) D (ts ++ tAnd :: us) (v && v2) (a || a2):=by
 refine ⟨h.hd.app (by decide),fun L f n d P ns cs sts nds hf hL hu h0 h6=>?_⟩
 obtain ⟨g,rfl⟩:∃ g,f = g + 3:=⟨f - 3,by omega⟩
 obtain ⟨q1,q2⟩:=lies_app.1 hL
 have qA:tAt L (n + ts.length) = tAnd:=q2.1
 obtain ⟨nn,xs,e,w,l1,l2⟩:=h.rd L (g + 2) n d P ns cs sts nds (by omega) q1 h0 h6
 obtain ⟨mm,ys,e2,w2,l3,l4⟩:=k.rd L (g + 1) (n + ts.length + 1) d P (ns ++ nn) cs sts (nds ++ xs) (by omega) q2.2 h0 h6
 rw [List.length_append,List.length_append] at w2
 refine ⟨nn ++ mm,_,?_,w.bin true w2,by simp only [List.length_append,List.length_cons]; omega,by simp only [List.length_append,List.length_cons,List.length_nil]; omega⟩
 rw [termQ_succ,e,Option.bind_some]
 show andQ L (g + 2) (St (n + ts.length) d P (ns ++ nn) cs sts (nds ++ xs)) _ = _
 rw [andQ_succ]
 have s1:(St (n + ts.length) d P (ns ++ nn) cs sts (nds ++ xs)).p.sees L ⟨#[38]⟩ = true:=(st_sees _ qA).trans (decide_eq_true rfl)
 rw [s1,if_pos rfl]
 show (factorQ L (g + 1) (St (n + ts.length + 1) d P (ns ++ nn) cs sts (nds ++ xs))).bind _ = _
 rw [e2,Option.bind_some,andQ_succ]
 have s2:((St (n + ts.length + 1 + us.length) d P (ns ++ nn ++ mm) cs sts (nds ++ xs ++ ys)).node ⟨5,-1,((nds.length + xs.length:Nat):Int) - 1,(((nds ++ xs).length + ys.length:Nat):Int) - 1⟩).p.sees L ⟨#[38]⟩ = false:=by
  refine (st_sees _ rfl).trans (decide_eq_false ?_)
  rw [show n + ts.length + 1 + us.length = n + (ts ++ tAnd :: us).length by simp only [List.length_append,List.length_cons]; omega]
  exact hu
 show (if ((St (n + ts.length + 1 + us.length) d P (ns ++ nn ++ mm) cs sts (nds ++ xs ++ ys)).node ⟨5,-1,((nds.length + xs.length:Nat):Int) - 1,(((nds ++ xs).length + ys.length:Nat):Int) - 1⟩).p.sees L ⟨#[38]⟩ = true then _ else _) = _
 rw [s2,if_neg (by decide)]
 simp only [QSt.node,St,List.append_assoc,List.length_append,List.length_cons,List.length_nil,Option.some.injEq,Prod.mk.injEq,QSt.mk.injEq,PSt.mk.injEq,and_true,if_true]
 omega
theorem exp_one {E:List (ByteArray × Bool)} {ch:Bool} {K D:Nat} {ts:List ByteArray} {v a:Bool} (h:TrmOk E ch K D ts v a):ExpOk E ch (K + 2) D ts v a:=by
 refine ⟨h.hd,fun L f n d P ns cs sts nds hf hL hu hu2 h0 h6=>?_⟩
 obtain ⟨g,rfl⟩:∃ g,f = g + 2:=⟨f - 2,by omega⟩
 obtain ⟨nn,xs,e,w,l1,l2⟩:=h.rd L (g + 1) n d P ns cs sts nds (by omega) hL hu h0 h6
 refine ⟨nn,xs,?_,w,l1,l2⟩
 rw [exprQ_succ,e,Option.bind_some]
 show orQ L (g + 1) (St (n + ts.length) d P (ns ++ nn) cs sts (nds ++ xs)) _ = _
 rw [orQ_succ]
 have:(St (n + ts.length) d P (ns ++ nn) cs sts (nds ++ xs)).p.sees L ⟨#[124]⟩ = false:=(st_sees _ rfl).trans (decide_eq_false hu2)
 rw [this]; rfl
theorem or_more {E:List (ByteArray × Bool)} {ch:Bool} {K D:Nat} {us:List ByteArray} {v2 a2:Bool} (k:TrmOk E ch K D us v2 a2) {L:List Tk} {g n:Nat} {d P:Int} {ns:List Nm} {cs:List Cl} {sts:List Stm} {nds:List Nd} {v a:Bool} {i b:Nat} {nn:List Nm} {xs:List Nd}
    (hK:K ≤ g) (hL:Lies L n (tOr :: us)) (hu:tAt L (n + 1 + us.length) = tAnd→False) (h0:0 ≤ d) (h6:d + D ≤ 6) (hi:ns.length = i + nn.length) (hb:nds.length = b + xs.length) (w:Wrt E ch v a P i b nn xs) :
    ∃ mm ys,orQ L (g + 1) (St n d P ns cs sts nds) (((b + xs.length:Nat):Int) - 1) = orQ L g (St (n + 1 + us.length) d P (ns ++ mm) cs sts (nds ++ ys)) (((b + (xs ++ ys).length:Nat):Int) - 1)∧Wrt E ch (v || v2) (a || a2) P i b (nn ++ mm) (xs ++ ys)∧mm.length ≤ us.length∧ys.length ≤ 2 * us.length + 1:=by
 obtain ⟨mm,ys,e2,w2,l3,l4⟩:=k.rd L g (n + 1) d P ns cs sts nds hK hL.2 hu h0 h6
 rw [hi,hb] at w2
 refine ⟨mm,_,?_,w.bin false w2,l3,by simp only [List.length_append,List.length_cons,List.length_nil]; omega⟩
 rw [orQ_succ]
 have s1:(St n d P ns cs sts nds).p.sees L ⟨#[124]⟩ = true:=(st_sees _ hL.1).trans (decide_eq_true rfl)
 rw [s1,if_pos rfl]
 show (termQ L g (St (n + 1) d P ns cs sts nds)).bind _ = _
 rw [e2,Option.bind_some]
 simp only [QSt.node,St,List.append_assoc,List.length_append,List.length_cons,List.length_nil,hb]
 congr 1
 omega
theorem or_end {L:List Tk} {g n:Nat} {d P:Int} {ns:List Nm} {cs:List Cl} {sts:List Stm} {nds:List Nd} {w:Int} (hu:tAt L n = tOr→False):orQ L (g + 1) (St n d P ns cs sts nds) w = some (St n d P ns cs sts nds,w):=by
 rw [orQ_succ]
 have:(St n d P ns cs sts nds).p.sees L ⟨#[124]⟩ = false:=(st_sees _ rfl).trans (decide_eq_false hu)
 rw [this]; rfl
theorem exp_two {E:List (ByteArray × Bool)} {ch:Bool} {K D:Nat} {ts us:List ByteArray} {v a v2 a2:Bool} (h:TrmOk E ch K D ts v a) (k:TrmOk E ch K D us v2 a2):ExpOk E ch (K + 3) D (ts ++ tOr :: us) (v || v2) (a || a2):=by
 refine ⟨h.hd.app (by decide),fun L f n d P ns cs sts nds hf hL hu hu2 h0 h6=>?_⟩
 obtain ⟨g,rfl⟩:∃ g,f = g + 3:=⟨f - 3,by omega⟩
 obtain ⟨q1,q2⟩:=lies_app.1 hL
 have qO:tAt L (n + ts.length) = tOr:=q2.1
 have ez:n + ts.length + 1 + us.length = n + (ts ++ tOr :: us).length:=by simp only [List.length_append,List.length_cons]; omega
 obtain ⟨nn,xs,e,w,l1,l2⟩:=h.rd L (g + 2) n d P ns cs sts nds (by omega) q1 (by rw [qO]; decide) h0 h6
 obtain ⟨mm,ys,e2,w2,l3,l4⟩:=or_more k (L:=L) (g:=g + 1) (cs:=cs) (sts:=sts) (ns:=ns ++ nn) (nds:=nds ++ xs) (by omega) q2 (by rw [ez]; exact hu) h0 h6 (List.length_append ..) (List.length_append ..) w
 refine ⟨nn ++ mm,xs ++ ys,?_,w2,by simp only [List.length_append,List.length_cons]; omega,by simp only [List.length_append,List.length_cons]; omega⟩
 rw [exprQ_succ,e,Option.bind_some]
 show orQ L (g + 2) (St (n + ts.length) d P (ns ++ nn) cs sts (nds ++ xs)) _ = _
 rw [e2,or_end (by rw [ez]; exact hu2),ez,List.append_assoc,List.append_assoc]
theorem exp_three {E:List (ByteArray × Bool)} {ch:Bool} {K D:Nat} {ts us vs:List ByteArray} {v a v2 a2 v3 a3:Bool} (h:TrmOk E ch K D ts v a) (k:TrmOk E ch K D us v2 a2) (l:TrmOk E ch K D vs v3 a3):ExpOk E ch (K + 4) D (ts ++ tOr :: (us ++ tOr :: vs)) (v || v2 || v3) (a || a2 || a3):=by
 refine ⟨h.hd.app (by decide),fun L f n d P ns cs sts nds hf hL hu hu2 h0 h6=>?_⟩
 obtain ⟨g,rfl⟩:∃ g,f = g + 4:=⟨f - 4,by omega⟩
 obtain ⟨q1,q2⟩:=lies_app.1 hL
 have qO:tAt L (n + ts.length) = tOr:=q2.1
 have q2':Lies L (n + ts.length) ((tOr :: us) ++ (tOr :: vs)):=q2
 obtain ⟨q3,q4⟩:=lies_app.1 q2'
 have ey:n + ts.length + 1 + us.length = n + ts.length + (tOr :: us).length:=by simp only [List.length_cons]; omega
 rw [← ey] at q4
 have ez:n + ts.length + 1 + us.length + 1 + vs.length = n + (ts ++ tOr :: (us ++ tOr :: vs)).length:=by simp only [List.length_append,List.length_cons]; omega
 have qP:tAt L (n + ts.length + 1 + us.length) = tOr:=q4.1
 obtain ⟨nn,xs,e,w,l1,l2⟩:=h.rd L (g + 3) n d P ns cs sts nds (by omega) q1 (by rw [qO]; decide) h0 h6
 obtain ⟨mm,ys,e2,w2,l3,l4⟩:=or_more k (L:=L) (g:=g + 2) (cs:=cs) (sts:=sts) (ns:=ns ++ nn) (nds:=nds ++ xs) (by omega) q3 (by rw [qP]; decide) h0 h6 (List.length_append ..) (List.length_append ..) w
 obtain ⟨pp,zs,e3,w3,l5,l6⟩:=or_more l (L:=L) (g:=g + 1) (cs:=cs) (sts:=sts) (ns:=ns ++ nn ++ mm) (nds:=nds ++ xs ++ ys) (by omega) q4 (by rw [ez]; exact hu) h0 h6 (by simp only [List.length_append]; omega) (by simp only [List.length_append]; omega) w2
 refine ⟨nn ++ mm ++ pp,xs ++ ys ++ zs,?_,w3,by simp only [List.length_append,List.length_cons]; omega,by simp only [List.length_append,List.length_cons]; omega⟩
 rw [exprQ_succ,e,Option.bind_some]
 show orQ L (g + 3) (St (n + ts.length) d P (ns ++ nn) cs sts (nds ++ xs)) _ = _
 rw [e2,e3,or_end (by rw [ez]; exact hu2),ez]
 simp only [List.append_assoc]
end RR
namespace RR
open Go Go.RowKit
structure Pc where
 ps:List ByteArray
 v:Bool
 a:Bool
def leafM (raw:ByteArray) (E:List (ByteArray × Bool)) (ch:Bool) (i:Nat):Pc × Nat :=
 let k:=nxW raw (E.length + 3) i
 (if k.1 < E.length then ⟨[(E[k.1]?.getD (⟨#[]⟩,false)).1],(E[k.1]?.getD (⟨#[]⟩,false)).2,false⟩ else if k.1 = E.length then ⟨[tTrue],true,false⟩ else if k.1 = E.length + 1 then ⟨[tFalse],false,false⟩ else ⟨[tAsk],ch,true⟩,k.2)
def negM (raw:ByteArray) (p:Pc × Nat):Pc × Nat :=
 let k:=nxW raw 3 p.2
 (if k.1 = 1 then ⟨tBang :: p.1.ps,!p.1.v,p.1.a⟩ else p.1,k.2)
def fac0 (raw:ByteArray) (E:List (ByteArray × Bool)) (ch:Bool) (i:Nat):Pc × Nat:=negM raw (leafM raw E ch i)
def mixM (k:Nat) (a b c:Pc):Pc :=
 if k = 1 then ⟨a.ps ++ ([tB,tAnd,tB] ++ b.ps),a.v && b.v,a.a || b.a⟩
 else if k = 2 then ⟨a.ps ++ ([tOr] ++ b.ps),a.v || b.v,a.a || b.a⟩
 else if k = 3 then ⟨a.ps ++ ([tB,tOr,tB] ++ (b.ps ++ ([tB,tAnd,tB] ++ c.ps))),a.v || (b.v && c.v),a.a || b.a || c.a⟩
 else if k = 4 then ⟨a.ps ++ ([tAnd] ++ (b.ps ++ ([tOr] ++ c.ps))),(a.v && b.v) || c.v,a.a || b.a || c.a⟩
 else if k = 5 then ⟨a.ps ++ ([tB,tOr,tB] ++ (b.ps ++ ([tB,tOr,tB] ++ c.ps))),a.v || b.v || c.v,a.a || b.a || c.a⟩
 else a
def expM (raw:ByteArray) (fac:Nat→Pc × Nat) (i:Nat):Pc × Nat :=
 let a:=fac i
 let b:=fac a.2
 let c:=fac b.2
 let k:=nxW raw 6 c.2
 (mixM k.1 a.1 b.1 c.1,k.2)
def exp0 (raw:ByteArray) (E:List (ByteArray × Bool)) (ch:Bool) (i:Nat):Pc × Nat:=expM raw (fac0 raw E ch) i
def brkM (raw:ByteArray) (E:List (ByteArray × Bool)) (ch:Bool) (l:Pc × Nat):Pc × Nat :=
 let k:=nxW raw 2 l.2
 if k.1 = 1 then (⟨tOpen :: ((exp0 raw E ch k.2).1.ps ++ [tShut]),(exp0 raw E ch k.2).1.v,(exp0 raw E ch k.2).1.a⟩,(exp0 raw E ch k.2).2) else (l.1,k.2)
def fac1 (raw:ByteArray) (E:List (ByteArray × Bool)) (ch:Bool) (i:Nat):Pc × Nat:=negM raw (brkM raw E ch (leafM raw E ch i))
def exp1 (raw:ByteArray) (E:List (ByteArray × Bool)) (ch:Bool) (i:Nat):Pc × Nat:=expM raw (fac1 raw E ch) i
def NmE (t:ByteArray):Prop:=isNameB t = true∧isWordP t = true∧t.size ≤ 5∧(isBlankP t || memB signs t) = false∧(t = tOpen→False)∧(t = tTrue→False)∧(t = tFalse→False)∧(t = tAsk→False)∧(t = tBang→False)∧(t = tShut→False)∧(t = tSemi→False)
structure PlnP (E:List (ByteArray × Bool)) (ch:Bool) (K D n:Nat) (p:Pc):Prop where
 is:∃ ts,Row p.ps ts n∧PlnOk E ch K D ts p.v p.a
structure FacP (E:List (ByteArray × Bool)) (ch:Bool) (K D n:Nat) (p:Pc):Prop where
 is:∃ ts,Row p.ps ts n∧FacOk E ch K D ts p.v p.a
structure ExpP (E:List (ByteArray × Bool)) (ch:Bool) (K D n:Nat) (p:Pc):Prop where
 is:∃ ts,Row p.ps ts n∧ExpOk E ch K D ts p.v p.a
theorem Row.more {a ts:List ByteArray} {n m:Nat} (h:Row a ts n) (hm:n ≤ m):Row a ts m:=⟨h.adj,h.toks,Nat.le_trans h.size hm⟩
theorem Row.in1 {a ts:List ByteArray} {n:Nat} {t:ByteArray} (h:Row a ts n) (ht:(isBlankP t || memB signs t) = true) (hb:isBlankP t = false) (hs:t.size = 1):Row (t :: a) (t :: ts) (n + 1):=by
 obtain ⟨c,e⟩:=h.adj
 refine ⟨⟨c,?_⟩,?_,?_⟩
 ·show (if isBlankP t || memB signs t then RR.adj false a else _) = some c
  rw [ht,if_pos rfl,e]
 ·show toksP ([t] ++ a) = _
  rw [toksP_app,h.toks]
  have e1:toksP [t] = [t]:=by unfold toksP; rw [List.filter_cons,hb]; rfl
  rw [e1]; rfl
 ·show (flat ([t] ++ a)).size ≤ n + 1
  rw [size_flat_app]
  have e1:(flat [t]).size = t.size:=by
   show (t ++ ByteArray.empty).size = t.size
   rw [ByteArray.append_empty]
  have:=h.size
  omega
theorem leaf_pln (raw:ByteArray) {E:List (ByteArray × Bool)} (ch:Bool) (i:Nat) (hE:∀ x ∈ E,NmE x.1):PlnP E ch 0 0 5 (leafM raw E ch i).1:=by
 unfold leafM
 simp only []
 generalize (nxW raw (E.length + 3) i).1 = k
 by_cases h1:k < E.length
 ·rw [if_pos h1,List.getElem?_eq_getElem h1,Option.getD_some]
  have hm:E[k] ∈ E:=List.getElem_mem h1
  obtain ⟨n1,n2,n3,n4,n5⟩:=hE _ hm
  have n6:isBlankP E[k].1 = false:=by
   rw [Bool.or_eq_false_iff] at n4; exact n4.1
  refine ⟨[E[k].1],⟨⟨true,?_⟩,?_,?_⟩,pln_name hm n1 n5⟩
  ·show (if isBlankP E[k].1 || memB signs E[k].1 then RR.adj false [] else if isWordP E[k].1 && !false then RR.adj true [] else none) = some true
   rw [n4,n2]; rfl
  ·show toksP [E[k].1] = _
   unfold toksP
   rw [List.filter_cons,n6]; rfl
  ·show (E[k].1 ++ ByteArray.empty).size ≤ 5
   rw [ByteArray.append_empty]; exact n3
 rw [if_neg h1]
 by_cases h2:k = E.length
 ·rw [if_pos h2]
  exact ⟨[tTrue],⟨⟨true,rfl⟩,rfl,by decide⟩,pln_true⟩
 rw [if_neg h2]
 by_cases h3:k = E.length + 1
 ·rw [if_pos h3]
  exact ⟨[tFalse],⟨⟨true,rfl⟩,rfl,by decide⟩,pln_false⟩
 rw [if_neg h3]
 exact ⟨[tAsk],⟨⟨false,rfl⟩,rfl,by show (flat [tAsk]).size ≤ 5; decide⟩,pln_ask⟩
theorem FacOk.more {E:List (ByteArray × Bool)} {ch:Bool} {K K2 D D2:Nat} {ts:List ByteArray} {v a:Bool} (h:FacOk E ch K D ts v a) (hK:K ≤ K2) (hD:D ≤ D2):FacOk E ch K2 D2 ts v a :=
 ⟨h.hd,fun L f n d P ns cs sts nds hf hL h0 h6=>h.rd L f n d P ns cs sts nds (by omega) hL h0 (by omega)⟩
theorem ExpOk.more {E:List (ByteArray × Bool)} {ch:Bool} {K K2 D D2:Nat} {ts:List ByteArray} {v a:Bool} (h:ExpOk E ch K D ts v a) (hK:K ≤ K2) (hD:D ≤ D2):ExpOk E ch K2 D2 ts v a :=
 ⟨h.hd,fun L f n d P ns cs sts nds hf hL hu hu2 h0 h6=>h.rd L f n d P ns cs sts nds (by omega) hL hu hu2 h0 (by omega)⟩
theorem PlnOk.more {E:List (ByteArray × Bool)} {ch:Bool} {K K2 D D2:Nat} {ts:List ByteArray} {v a:Bool} (h:PlnOk E ch K D ts v a) (hK:K ≤ K2) (hD:D ≤ D2):PlnOk E ch K2 D2 ts v a :=
 ⟨h.first,h.hd,fun L f n d P ns cs sts nds hf hL h0 h6=>h.rd L f n d P ns cs sts nds (by omega) hL h0 (by omega)⟩
theorem neg_fac {raw:ByteArray} {E:List (ByteArray × Bool)} {ch:Bool} {K D n:Nat} {p:Pc × Nat} (h:PlnP E ch K D n p.1):FacP E ch (K + 3) D (n + 1) (negM raw p).1:=by
 obtain ⟨ts,r,o⟩:=h.is
 unfold negM
 simp only []
 split
 ·exact ⟨tBang :: ts,r.in1 rfl rfl rfl,fac_bang o⟩
 ·exact ⟨ts,r.more (by omega),(fac_plain o).more (by omega) (Nat.le_refl _)⟩
theorem mix_exp {E:List (ByteArray × Bool)} {ch:Bool} {K D n:Nat} {a b c:Pc} (k:Nat) (ha:FacP E ch K D n a) (hb:FacP E ch K D n b) (hc:FacP E ch K D n c):ExpP E ch (K + 7) D (3 * n + 6) (mixM k a b c):=by
 obtain ⟨ta,ra,oa⟩:=ha.is
 obtain ⟨tb,rb,ob⟩:=hb.is
 obtain ⟨tc,rc,oc⟩:=hc.is
 have a1:=trm_one oa
 have b1:=trm_one ob
 have c1:=trm_one oc
 have up:∀ {ts:List ByteArray} {v a:Bool},TrmOk E ch (K + 2) D ts v a→TrmOk E ch (K + 3) D ts v a:=fun h=>⟨h.hd,fun L f n d P ns cs sts nds hf hL hu h0 h6=>h.rd L f n d P ns cs sts nds (by omega) hL hu h0 h6⟩
 unfold mixM
 split
 ·have r:=ra.app (k:=3) (m0:=[tB,tAnd,tB]) (fun _=>rfl) rfl rfl rb
  exact ⟨_,r.more (by omega),(exp_one (trm_two oa ob)).more (by omega) (Nat.le_refl _)⟩
 split
 ·have r:=ra.app (k:=1) (m0:=[tOr]) (fun _=>rfl) rfl rfl rb
  exact ⟨_,r.more (by omega),(exp_two a1 b1).more (by omega) (Nat.le_refl _)⟩
 split
 ·have r:=ra.app (k:=3) (m0:=[tB,tOr,tB]) (fun _=>rfl) rfl rfl (rb.app (k:=3) (m0:=[tB,tAnd,tB]) (fun _=>rfl) rfl rfl rc)
  have o:=(exp_two (up a1) (trm_two ob oc)).more (K2:=K + 7) (by omega) (Nat.le_refl D)
  rw [← Bool.or_assoc] at o
  exact ⟨_,r.more (by omega),o⟩
 split
 ·have r:=ra.app (k:=1) (m0:=[tAnd]) (fun _=>rfl) rfl rfl (rb.app (k:=1) (m0:=[tOr]) (fun _=>rfl) rfl rfl rc)
  have o:=(exp_two (trm_two oa ob) (up c1)).more (K2:=K + 7) (by omega) (Nat.le_refl D)
  rw [List.append_assoc] at o
  exact ⟨_,r.more (by omega),o⟩
 split
 ·have r:=ra.app (k:=3) (m0:=[tB,tOr,tB]) (fun _=>rfl) rfl rfl (rb.app (k:=3) (m0:=[tB,tOr,tB]) (fun _=>rfl) rfl rfl rc)
  exact ⟨_,r.more (by omega),(exp_three a1 b1 c1).more (by omega) (Nat.le_refl _)⟩
 ·exact ⟨ta,ra.more (by omega),(exp_one a1).more (by omega) (Nat.le_refl _)⟩
theorem exp_exp {raw:ByteArray} {E:List (ByteArray × Bool)} {ch:Bool} {K D n:Nat} {fac:Nat→Pc × Nat} (h:∀ i,FacP E ch K D n (fac i).1) (i:Nat):ExpP E ch (K + 7) D (3 * n + 6) (expM raw fac i).1:=mix_exp _ (h _) (h _) (h _)
theorem exp0_ok (raw:ByteArray) {E:List (ByteArray × Bool)} (ch:Bool) (i:Nat) (hE:∀ x ∈ E,NmE x.1):ExpP E ch 10 0 24 (exp0 raw E ch i).1:=exp_exp (fun j=>neg_fac (leaf_pln raw ch j hE)) i
theorem brk_pln (raw:ByteArray) {E:List (ByteArray × Bool)} (ch:Bool) (hE:∀ x ∈ E,NmE x.1) {l:Pc × Nat} (hl:PlnP E ch 0 0 5 l.1):PlnP E ch 11 1 26 (brkM raw E ch l).1:=by
 unfold brkM
 simp only []
 split
 ·obtain ⟨ts,r,o⟩:=(exp0_ok raw ch (nxW raw 2 l.2).2 hE).is
  have r0:Row ([]:List ByteArray) [] 0:=⟨⟨false,rfl⟩,rfl,Nat.le_refl _⟩
  have r1:=(r.app (m0:=[tShut]) (fun _=>rfl) rfl rfl r0).in1 (t:=tOpen) rfl rfl rfl
  exact ⟨_,r1,pln_brack o⟩
 ·obtain ⟨ts,r,o⟩:=hl.is
  exact ⟨ts,r.more (by omega),o.more (by omega) (by omega)⟩
theorem exp1_ok (raw:ByteArray) {E:List (ByteArray × Bool)} (ch:Bool) (i:Nat) (hE:∀ x ∈ E,NmE x.1):ExpP E ch 21 1 87 (exp1 raw E ch i).1:=exp_exp (fun j=>neg_fac (brk_pln raw ch hE (leaf_pln raw ch j hE))) i
theorem leafM_in (raw:ByteArray) (E:List (ByteArray × Bool)) (ch:Bool) {i:Nat} (h:i ≤ raw.size):(leafM raw E ch i).2 ≤ raw.size:=nx_in raw _ h
theorem negM_in (raw:ByteArray) {p:Pc × Nat} (h:p.2 ≤ raw.size):(negM raw p).2 ≤ raw.size:=nx_in raw 3 h
theorem expM_in {raw:ByteArray} {fac:Nat→Pc × Nat} (hf:∀ j,j ≤ raw.size→(fac j).2 ≤ raw.size) {i:Nat} (h:i ≤ raw.size):(expM raw fac i).2 ≤ raw.size:=nx_in raw 6 (hf _ (hf _ (hf _ h)))
theorem fac0_in (raw:ByteArray) (E:List (ByteArray × Bool)) (ch:Bool) {i:Nat} (h:i ≤ raw.size):(fac0 raw E ch i).2 ≤ raw.size:=negM_in raw (leafM_in raw E ch h)
theorem exp0_in (raw:ByteArray) (E:List (ByteArray × Bool)) (ch:Bool) {i:Nat} (h:i ≤ raw.size):(exp0 raw E ch i).2 ≤ raw.size:=expM_in (fun _ hj=>fac0_in raw E ch hj) h
theorem brkM_in (raw:ByteArray) (E:List (ByteArray × Bool)) (ch:Bool) {l:Pc × Nat} (h:l.2 ≤ raw.size):(brkM raw E ch l).2 ≤ raw.size:=by
 unfold brkM
 simp only []
 split
 ·exact exp0_in raw E ch (nx_in raw 2 h)
 ·exact nx_in raw 2 h
theorem fac1_in (raw:ByteArray) (E:List (ByteArray × Bool)) (ch:Bool) {i:Nat} (h:i ≤ raw.size):(fac1 raw E ch i).2 ≤ raw.size:=negM_in raw (brkM_in raw E ch (leafM_in raw E ch h))
theorem exp1_in (raw:ByteArray) (E:List (ByteArray × Bool)) (ch:Bool) {i:Nat} (h:i ≤ raw.size):(exp1 raw E ch i).2 ≤ raw.size:=expM_in (fun _ hj=>fac1_in raw E ch hj) h
end RR
