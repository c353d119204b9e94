/- The parser with statements and nodes: what it has in common with the one without; how its lists grow. Plain functions. No Go here. -/
import Derived.Test.YtmfcpbhdggonfaaGreatDoorMjAA
namespace RR
open Go Go.RowKit
theorem bind_proj {α β γ δ:Type} {o:Option α} {g:α→Option β} {h:β→δ} {p:α→γ} {k:γ→Option δ} (e:∀ r,(g r).map h = k (p r)):(o.bind g).map h = (o.map p).bind k:=by
 cases o with
 | none=>rfl
 | some a=>exact e a
theorem map_map' {α β γ:Type} {o:Option α} {g:α→β} {h:β→γ}:(o.map g).map h = o.map (fun a=>h (g a)):=by cases o <;> rfl
theorem map_bind' {α β γ:Type} {o:Option α} {g:α→β} {k:β→Option γ}:(o.map g).bind k = o.bind (fun a=>k (g a)):=by cases o <;> rfl
theorem nots_proj (L:List Tk):∀ (f:Nat) (σ:QSt) (n:Nat),(notsQ L f σ n).map (fun r=>r.1.p) = notsP L f σ.p:=by
 intro f
 induction f with
 | zero=>intro σ n; rfl
 | succ f ih =>
  intro σ n
  rw [notsQ,notsP]
  cases hs:σ.p.sees L ⟨#[33]⟩
  ·rfl
  ·rw [if_pos rfl,if_pos rfl,ih]
   unfold PSt.take
   rw [hs]; rfl
theorem addNots_p:∀ (n:Nat) (σ:QSt) (w:Int),(addNots n σ w).1.p = σ.p:=by
 intro n
 induction n with
 | zero=>intro σ w; rfl
 | succ n ih=>intro σ w; rw [addNots,ih]; rfl
theorem plain_proj (L:List Tk) {br:QSt→Option (QSt × Int)} {bp:PSt→Option PSt} (σ:QSt) (h:(br σ).map (fun r=>r.1.p) = bp σ.p):(plainQ L br σ).map (fun r=>r.1.p) =
    if (σ.p.ahead L 0).t = ⟨#[40]⟩ then bp σ.p
     else if (σ.p.ahead L 0).t = ⟨#[116,114,117,101]⟩ ∨ (σ.p.ahead L 0).t = ⟨#[102,97,108,115,101]⟩ ∨ (σ.p.ahead L 0).t = ⟨#[63]⟩ then some (σ.p.take L (σ.p.ahead L 0).t)
     else some (σ.p.takeName L 4):=by
 unfold plainQ
 by_cases h1:(σ.p.ahead L 0).t = ⟨#[40]⟩
 ·rw [if_pos h1,if_pos h1,h]
 ·rw [if_neg h1,if_neg h1]
  by_cases h2:(σ.p.ahead L 0).t = ⟨#[116,114,117,101]⟩
  ·rw [if_pos h2,if_pos (.inl h2),h2]; rfl
  ·rw [if_neg h2]
   by_cases h3:(σ.p.ahead L 0).t = ⟨#[102,97,108,115,101]⟩
   ·rw [if_pos h3,if_pos (.inr (.inl h3)),h3]; rfl
   ·rw [if_neg h3]
    by_cases h4:(σ.p.ahead L 0).t = ⟨#[63]⟩
    ·rw [if_pos h4,if_pos (.inr (.inr h4)),h4]; rfl
    ·rw [if_neg h4,if_neg (fun e=>e.elim h2 (fun e=>e.elim h3 h4))]; rfl
theorem exprs_proj (L:List Tk):∀ f:Nat,(∀ σ,(exprQ L f σ).map (fun r=>r.1.p) = exprP L f σ.p)∧(∀ σ w,(orQ L f σ w).map (fun r=>r.1.p) = orP L f σ.p)∧(∀ σ,(termQ L f σ).map (fun r=>r.1.p) = termP L f σ.p)∧(∀ σ w,(andQ L f σ w).map (fun r=>r.1.p) = andP L f σ.p)∧(∀ σ,(factorQ L f σ).map (fun r=>r.1.p) = factorP L f σ.p)∧(∀ σ,(bracketedQ L f σ).map (fun r=>r.1.p) = bracketedP L f σ.p):=by
 intro f
 induction f with
 | zero=>exact ⟨fun _=>rfl,fun _ _=>rfl,fun _=>rfl,fun _ _=>rfl,fun _=>rfl,fun _=>rfl⟩
 | succ f ih =>
  obtain ⟨i1,i2,i3,i4,i5,i6⟩:=ih
  refine ⟨fun σ=>?_,fun σ w=>?_,fun σ=>?_,fun σ w=>?_,fun σ=>?_,fun σ=>?_⟩
  ·rw [exprQ_succ,exprP_succ,bind_proj (p:=fun r=>r.1.p) (k:=orP L f) (fun r=>i2 r.1 r.2),i3]
  ·rw [orQ_succ,orP_succ]
   split
   ·rw [bind_proj (p:=fun r=>r.1.p) (k:=orP L f) (fun r=>i2 _ _),i3]; rfl
   ·rfl
  ·rw [termQ_succ,termP_succ,bind_proj (p:=fun r=>r.1.p) (k:=andP L f) (fun r=>i4 r.1 r.2),i5]
  ·rw [andQ_succ,andP_succ]
   split
   ·rw [bind_proj (p:=fun r=>r.1.p) (k:=andP L f) (fun r=>i4 _ _),i5]; rfl
   ·rfl
  ·rw [factorQ_succ,factorP_succ,← nots_proj L f σ 0]
   refine bind_proj (p:=fun r:QSt × Nat=>r.1.p) (fun r=>?_)
   rw [map_map',← plain_proj L (br:=bracketedQ L f) (bp:=bracketedP L f) r.1 (i6 r.1)]
   congr 1
   funext q
   exact addNots_p _ _ _
  ·rw [bracketedQ_succ,bracketedP_succ,map_map',show exprP L f (enterP L σ.p ⟨#[40]⟩) = _ from (i1 (σ.setp (enterP L σ.p ⟨#[40]⟩))).symm,map_map']; rfl
theorem expr_proj (L:List Tk) (f:Nat) (σ:QSt):(exprQ L f σ).map (fun r=>r.1.p) = exprP L f σ.p:=(exprs_proj L f).1 σ
theorem expr_at (L:List Tk) (f:Nat) (σ:QSt) (q:PSt):exprP L f q = (exprQ L f (σ.setp q)).map (fun r=>r.1.p):=(expr_proj L f (σ.setp q)).symm
theorem value_proj (L:List Tk) (f:Nat) (σ:QSt) (v:List (Int × Int)):(valueQ L f σ v).map (fun r=>r.1.p) = exprP L f σ.p:=by
 unfold valueQ; rw [map_map',← expr_proj]
theorem value_len {L:List Tk} {f:Nat} {σ:QSt} {v:List (Int × Int)} {r:QSt × List (Int × Int)} (h:valueQ L f σ v = some r):r.2.length = v.length + 1:=by
 unfold valueQ at h
 obtain ⟨a,_,rfl⟩:=Option.map_eq_some_iff.1 h
 simp
theorem values_proj (L:List Tk):∀ (f:Nat) (σ:QSt) (v:List (Int × Int)),(valuesQ L f σ v).map (fun r=>(r.1.p,r.2.length)) = valuesP L f σ.p v.length:=by
 intro f
 induction f with
 | zero=>intro σ v; rfl
 | succ f ih =>
  intro σ v
  rw [valuesQ,valuesP]
  split
  ·rw [expr_at L f σ σ.p.step]
   unfold valueQ
   rw [map_bind',map_bind']
   cases exprQ L f (σ.setp σ.p.step) with
   | none=>rfl
   | some a =>
    show (valuesQ L f a.1 (v ++ [_])).map _ = valuesP L f a.1.p (v.length + 1)
    rw [ih,List.length_append]; rfl
  ·rfl
end RR
namespace RR
abbrev NT:=Nat
abbrev NT.nNames:NT:=0
abbrev NT.nMore:NT:=1
abbrev NT.nProcs:NT:=2
abbrev NT.nProc:NT:=3
abbrev NT.nParams:NT:=4
abbrev NT.nBlock:NT:=5
abbrev NT.nStmts:NT:=6
abbrev NT.nValues:NT:=7
abbrev NT.nValue:NT:=8
abbrev NT.nShared:NT:=9
abbrev NT.nLocks:NT:=10
abbrev NT.nExpr:NT:=11
abbrev NT.nOr:NT:=12
abbrev NT.nTerm:NT:=13
abbrev NT.nAnd:NT:=14
abbrev NT.nFactor:NT:=15
abbrev NT.nStmt:NT:=16
abbrev NT.nBehind:NT:=17
abbrev NT.nRight:NT:=18
abbrev NT.nLater:NT:=19
abbrev NT.nElse:NT:=20
abbrev NT.nResult:NT:=21
def NT.enc (x:NT):ByteArray :=
 match x with
 | 0=>⟨#[78,65,77,69,83]⟩
 | 1=>⟨#[77,79,82,69]⟩
 | 2=>⟨#[80,82,79,67,83]⟩
 | 3=>⟨#[80,82,79,67]⟩
 | 4=>⟨#[80,65,82,65,77,83]⟩
 | 5=>⟨#[66,76,79,67,75]⟩
 | 6=>⟨#[83,84,77,84,83]⟩
 | 7=>⟨#[86,65,76,85,69,83]⟩
 | 8=>⟨#[86,65,76,85,69]⟩
 | 9=>⟨#[83,72,65,82,69,68]⟩
 | 10=>⟨#[76,79,67,75,83]⟩
 | 11=>⟨#[69,88,80,82]⟩
 | 12=>⟨#[79,82]⟩
 | 13=>⟨#[84,69,82,77]⟩
 | 14=>⟨#[65,78,68]⟩
 | 15=>⟨#[70,65,67,84,79,82]⟩
 | 16=>⟨#[83,84,77,84]⟩
 | 17=>⟨#[66,69,72,73,78,68]⟩
 | 18=>⟨#[82,73,71,72,84]⟩
 | 19=>⟨#[76,65,84,69,82]⟩
 | 20=>⟨#[69,76,83,69]⟩
 | _=>⟨#[82,69,83,85,76,84]⟩
def becB (x:NT) (t:ByteArray):List ByteArray :=
 match x with
 | 0=>[⟨#[78,65,77,69]⟩,⟨#[77,79,82,69]⟩]
 | 1=>if t = ⟨#[44]⟩ then [⟨#[44]⟩,⟨#[78,65,77,69]⟩,⟨#[77,79,82,69]⟩] else []
 | 2=>if t = ⟨#[112,114,111,99]⟩ then [⟨#[80,82,79,67]⟩,⟨#[80,82,79,67,83]⟩] else []
 | 3=>[⟨#[112,114,111,99]⟩,⟨#[78,65,77,69]⟩,⟨#[40]⟩,⟨#[80,65,82,65,77,83]⟩,⟨#[41]⟩,⟨#[66,76,79,67,75]⟩]
 | 4=>if t = ⟨#[41]⟩ then [] else [⟨#[78,65,77,69,83]⟩]
 | 5=>[⟨#[123]⟩,⟨#[83,84,77,84,83]⟩,⟨#[125]⟩]
 | 6=>if t = ⟨#[125]⟩ then [] else [⟨#[83,84,77,84]⟩,⟨#[83,84,77,84,83]⟩]
 | 7=>if t = ⟨#[41]⟩ then [] else [⟨#[69,88,80,82]⟩,⟨#[86,65,76,85,69]⟩]
 | 8=>if t = ⟨#[44]⟩ then [⟨#[44]⟩,⟨#[69,88,80,82]⟩,⟨#[86,65,76,85,69]⟩] else []
 | 9=>if t = ⟨#[115,104,97,114,101,100]⟩ then [⟨#[115,104,97,114,101,100]⟩,⟨#[78,65,77,69,83]⟩,⟨#[59]⟩] else []
 | 10=>if t = ⟨#[108,111,99,107,115]⟩ then [⟨#[108,111,99,107,115]⟩,⟨#[78,65,77,69,83]⟩,⟨#[59]⟩] else []
 | 11=>[⟨#[84,69,82,77]⟩,⟨#[79,82]⟩]
 | 12=>if t = ⟨#[124]⟩ then [⟨#[124]⟩,⟨#[84,69,82,77]⟩,⟨#[79,82]⟩] else []
 | 13=>[⟨#[70,65,67,84,79,82]⟩,⟨#[65,78,68]⟩]
 | 14=>if t = ⟨#[38]⟩ then [⟨#[38]⟩,⟨#[70,65,67,84,79,82]⟩,⟨#[65,78,68]⟩] else []
 | 15=>if t = ⟨#[33]⟩ then [⟨#[33]⟩,⟨#[70,65,67,84,79,82]⟩] else if t = ⟨#[40]⟩ then [⟨#[40]⟩,⟨#[69,88,80,82]⟩,⟨#[41]⟩] else if isNameB t = true then [t] else if t = ⟨#[116,114,117,101]⟩ then [⟨#[116,114,117,101]⟩] else if t = ⟨#[102,97,108,115,101]⟩ then [⟨#[102,97,108,115,101]⟩] else if t = ⟨#[63]⟩ then [⟨#[63]⟩] else [⟨#[78,65,77,69]⟩]
 | 16=>if isNameB t = true then [⟨#[78,65,77,69]⟩,⟨#[66,69,72,73,78,68]⟩] else if t = ⟨#[105,102]⟩ then [⟨#[105,102]⟩,⟨#[40]⟩,⟨#[69,88,80,82]⟩,⟨#[41]⟩,⟨#[66,76,79,67,75]⟩,⟨#[69,76,83,69]⟩] else if t = ⟨#[119,104,105,108,101]⟩ then [⟨#[119,104,105,108,101]⟩,⟨#[40]⟩,⟨#[69,88,80,82]⟩,⟨#[41]⟩,⟨#[66,76,79,67,75]⟩] else if t = ⟨#[97,115,115,117,109,101]⟩ then [⟨#[97,115,115,117,109,101]⟩,⟨#[69,88,80,82]⟩,⟨#[59]⟩] else if t = ⟨#[97,99,113,117,105,114,101]⟩ then [⟨#[97,99,113,117,105,114,101]⟩,⟨#[78,65,77,69]⟩,⟨#[59]⟩] else if t = ⟨#[114,101,108,101,97,115,101]⟩ then [⟨#[114,101,108,101,97,115,101]⟩,⟨#[78,65,77,69]⟩,⟨#[59]⟩] else if t = ⟨#[114,101,116,117,114,110]⟩ then [⟨#[114,101,116,117,114,110]⟩,⟨#[82,69,83,85,76,84]⟩,⟨#[59]⟩] else [⟨#[115,107,105,112]⟩,⟨#[59]⟩]
 | 17=>if t = ⟨#[40]⟩ then [⟨#[40]⟩,⟨#[86,65,76,85,69,83]⟩,⟨#[41]⟩,⟨#[59]⟩] else [⟨#[61]⟩,⟨#[82,73,71,72,84]⟩,⟨#[59]⟩]
 | 18=>if isNameB t = true then [⟨#[78,65,77,69]⟩,⟨#[76,65,84,69,82]⟩] else [⟨#[69,88,80,82]⟩]
 | 19=>if t = ⟨#[40]⟩ then [⟨#[40]⟩,⟨#[86,65,76,85,69,83]⟩,⟨#[41]⟩] else [⟨#[65,78,68]⟩,⟨#[79,82]⟩]
 | 20=>if t = ⟨#[101,108,115,101]⟩ then [⟨#[101,108,115,101]⟩,⟨#[66,76,79,67,75]⟩] else []
 | _=>if t = ⟨#[59]⟩ then [] else [⟨#[69,88,80,82]⟩]
def NT.all:List NT:=[.nNames,.nMore,.nProcs,.nProc,.nParams,.nBlock,.nStmts,.nValues,.nValue,.nShared,.nLocks,.nExpr,.nOr,.nTerm,.nAnd,.nFactor,.nStmt,.nBehind,.nRight,.nLater,.nElse,.nResult]
def ntOf (s:ByteArray):Option NT:=NT.all.find? fun n=>decide (n.enc = s)
end RR
namespace RR
def tAt (L:List Tk) (i:Nat):ByteArray:=if h:i < L.length then L[i].t else ⟨#[]⟩
def pAt (L:List Tk) (len:Nat) (i:Nat):Nat:=if h:i < L.length then L[i].p else len
theorem tAt_in {L:List Tk} {i:Nat} (h:i < L.length):tAt L i = L[i].t:=by unfold tAt; rw [dif_pos h]
theorem tAt_out {L:List Tk} {i:Nat} (h:¬ i < L.length):tAt L i = ⟨#[]⟩:=by unfold tAt; rw [dif_neg h]
abbrev Res:=Option Nat
abbrev Res.ok:Res:=none
abbrev Res.err (p:Nat):Res:=some p
def delta (t:ByteArray):Int:=if t = ⟨#[40]⟩ ∨ t = ⟨#[123]⟩ then 1 else if t = ⟨#[41]⟩ ∨ t = ⟨#[125]⟩ then -1 else 0
def fits (x t:ByteArray):Bool:=decide (x = t) || (decide (x = ⟨#[78,65,77,69]⟩) && isNameB t)
def roomB (W:List ByteArray) (op:Int) (i:Nat):Bool:=decide (W.length ≤ 5000) && decide (i ≤ 600) && decide (-600 ≤ op) && decide (op ≤ 6) && !(match W with | []=>false | x :: _=>decide (x = ⟨#[]⟩))
def runM (L:List Tk) (len:Nat):Nat→List ByteArray→Int→Nat→Option Res
 | 0,_,_,_=>none
 | g + 1,W,op,i =>
  if roomB W op i then
   match W with
   | []=>some (if i < L.length then .err (pAt L len i) else .ok)
   | x :: R =>
    match ntOf x with
    | some n=>runM L len g (becB n (tAt L i) ++ R) op i
    | none =>
     if fits x (tAt L i) then
      if op + delta (tAt L i) ≤ 6 then runM L len g R (op + delta (tAt L i)) (i + 1) else some (.err (pAt L len i))
     else some (.err (pAt L len i))
  else none
theorem delta5 (t:ByteArray):(t = ⟨#[40]⟩∧delta t = 1) ∨ (t = ⟨#[123]⟩∧delta t = 1) ∨ (t = ⟨#[41]⟩∧delta t = -1) ∨ (t = ⟨#[125]⟩∧delta t = -1) ∨ (¬ t = ⟨#[40]⟩∧¬ t = ⟨#[123]⟩∧¬ t = ⟨#[41]⟩∧¬ t = ⟨#[125]⟩∧delta t = 0):=by
 by_cases a1:t = ⟨#[40]⟩
 ·subst a1; exact .inl ⟨rfl,by decide⟩
 by_cases a2:t = ⟨#[123]⟩
 ·subst a2; exact .inr (.inl ⟨rfl,by decide⟩)
 by_cases a3:t = ⟨#[41]⟩
 ·subst a3; exact .inr (.inr (.inl ⟨rfl,by decide⟩))
 by_cases a4:t = ⟨#[125]⟩
 ·subst a4; exact .inr (.inr (.inr (.inl ⟨rfl,by decide⟩)))
 refine .inr (.inr (.inr (.inr ⟨a1,a2,a3,a4,?_⟩)))
 unfold delta
 rw [if_neg (fun h=>h.elim a1 a2),if_neg (fun h=>h.elim a3 a4)]
end RR
namespace RR
open Go Go.RowKit
def Ends (L:List Tk) (len:Nat) (W:List ByteArray) (op:Int) (i:Nat) (r:Res):Prop:=∃ n,runM L len n W op i = some r
def Run (L:List Tk) (len:Nat) (σ:PSt) (W:List ByteArray) (r:Res):Prop:=if σ.failed = true then r = .err (pAt L len σ.next) else Ends L len W σ.depth σ.next r
def Sim (L:List Tk) (len K:Nat) (S:List ByteArray) (σ σ':PSt):Prop:=∀ R r,R.length ≤ K→Run L len σ' R r→Run L len σ (S ++ R) r
theorem Sim.nil {L:List Tk} {len K:Nat} (a:PSt):Sim L len K [] a a:=fun _ _ _ h=>h
def Fine (L:List Tk) (σ:PSt):Prop:=σ.failed = false→σ.next ≤ L.length∧0 ≤ σ.depth∧σ.depth ≤ 6
theorem tAt_ahead {L:List Tk} {σ:PSt} (h:σ.failed = false):(σ.ahead L 0).t = tAt L σ.next:=by
 by_cases h2:σ.next < L.length
 ·rw [ahead_in h (n:=0) h2,tAt_in h2]; rfl
 ·rw [ahead_out (n:=0) h2,tAt_out h2]
end RR
namespace RR
open Go Go.RowKit
def Adv (L:List Tk) (s:Nat) (k:Int) (σ σ':PSt):Prop:=σ'.failed = false→σ.failed = false∧σ.next + s ≤ σ'.next∧σ'.next ≤ L.length∧σ'.depth = σ.depth + k
theorem Adv.trans {L:List Tk} {s s':Nat} {k k':Int} {a b c:PSt} (h:Adv L s k a b) (h':Adv L s' k' b c):Adv L (s + s') (k + k') a c:=fun hc=>by
 obtain ⟨h1,h2,h3,h4⟩:=h' hc
 obtain ⟨g1,g2,g3,g4⟩:=h h1
 exact ⟨g1,by omega,h3,by omega⟩
theorem sign_name {c:UInt8} (h:isLetterB c = false):isNameB ⟨#[c]⟩ = false:=by
 unfold isNameB
 rw [bl]
 show (isLetterB c && _) = false
 rw [h]; rfl
end RR
namespace RR
open Go Go.RowKit
def Room (c K:Nat) (σ:PSt):Prop:=σ.failed = false→(K:Int) + 40 * (8 - σ.depth) ≤ c
theorem Room.lt {L:List Tk} {c K:Nat} {a:PSt} (h:Room c K a) (hF:Fine L a) (hc:c ≤ 4900):a.failed = false→K + 20 < 5000:=fun ha=>by
 have:=h ha
 have:=hF ha
 omega
end RR
namespace RR
open Go Go.RowKit
end RR
namespace RR
open Go Go.RowKit
end RR
namespace RR
open Go Go.RowKit
end RR
namespace RR
open Go Go.RowKit
end RR
namespace RR
open Go Go.RowKit
end RR
namespace RR
open Go Go.RowKit
end RR
namespace RR
open Go Go.RowKit
structure Ml where
 i:Nat
 r:Nat
 pr:Int
def mk (L:List Tk) (x:Ml):Nm:=⟨tAt L x.i,(tk L x.i).p,x.r,x.pr⟩
structure Seg (L:List Tk) (a b:Nat) (M:List Ml):Prop where
 le:a ≤ b
 inn:∀ x ∈ M,a ≤ x.i∧x.i < b∧isNameB (tAt L x.i) = true
 cov:∀ i,a ≤ i→i < b→isNameB (tAt L i) = true→∃ x ∈ M,x.i = i
 sor:M.Pairwise fun x y=>x.i < y.i
theorem Seg.nil (L:List Tk) (a:Nat):Seg L a a []:=⟨Nat.le_refl _,fun _ h=>(by cases h),fun i h1 h2=>absurd h1 (by omega),List.Pairwise.nil⟩
theorem Seg.tok {L:List Tk} {a:Nat} (h:isNameB (tAt L a) = false):Seg L a (a + 1) []:=by
 refine ⟨Nat.le_succ _,fun _ h=>(by cases h),fun i h1 h2 h3=>?_,List.Pairwise.nil⟩
 have:i = a:=by omega
 rw [this,h] at h3; cases h3
theorem Seg.name {L:List Tk} {a:Nat} {x:Ml} (h:isNameB (tAt L a) = true) (e:x.i = a):Seg L a (a + 1) [x]:=by
 refine ⟨Nat.le_succ _,fun y hy=>?_,fun i h1 h2 h3=>⟨x,List.mem_singleton.2 rfl,by omega⟩,List.pairwise_singleton _ _⟩
 rw [List.mem_singleton.1 hy,e]; exact ⟨by omega,by omega,h⟩
structure Tok (L:List Tk) (t:ByteArray) (a b:PSt):Prop where
 ok:a.failed = false
 lt:a.next < L.length
 is:tAt L a.next = t
 next:b.next = a.next + 1
 names:b.names = a.names
 calls:b.calls = a.calls
 proc:b.proc = a.proc
theorem sees_is {L:List Tk} {a:PSt} {t:ByteArray} (h0:¬ t = ⟨#[]⟩) (h:a.sees L t = true):a.failed = false∧a.next < L.length∧tAt L a.next = t:=by
 have:=sees_lt h0 h
 refine ⟨this.2,this.1,?_⟩
 unfold PSt.sees at h; rw [tAt_ahead this.2] at h; exact of_decide_eq_true h
theorem tok_step {L:List Tk} {a:PSt} {t:ByteArray} (h0:¬ t = ⟨#[]⟩) (h:a.sees L t = true):Tok L t a a.step:=by
 obtain ⟨h1,h2,h3⟩:=sees_is h0 h
 exact ⟨h1,h2,h3,rfl,rfl,rfl,rfl⟩
theorem tok_take {L:List Tk} {a:PSt} {t:ByteArray} (h0:¬ t = ⟨#[]⟩) (h:(a.take L t).failed = false):Tok L t a (a.take L t):=by
 unfold PSt.take at h ⊢
 cases hs:a.sees L t
 ·rw [hs] at h; cases h
 ·exact tok_step h0 hs
theorem tok_enter {L:List Tk} {a:PSt} {t:ByteArray} (h0:¬ t = ⟨#[]⟩) (h:(enterP L a t).failed = false):Tok L t a (enterP L a t):=by
 unfold enterP at h ⊢
 split at h
 ·cases h
 ·rename_i h6
  rw [if_neg h6]
  have:=tok_take (L:=L) (a:=a) h0 h
  exact ⟨this.ok,this.lt,this.is,this.next,this.names,this.calls,this.proc⟩
theorem tok_leave {L:List Tk} {a:PSt} {t:ByteArray} (h0:¬ t = ⟨#[]⟩) (h:(leaveP L a t).failed = false):Tok L t a (leaveP L a t):=by
 have:=tok_take (L:=L) (a:=a) h0 h
 exact ⟨this.ok,this.lt,this.is,this.next,this.names,this.calls,this.proc⟩
def xsigns:List ByteArray:=[⟨#[116,114,117,101]⟩,⟨#[102,97,108,115,101]⟩,⟨#[63]⟩,⟨#[33]⟩,⟨#[38]⟩,⟨#[124]⟩,⟨#[40]⟩,⟨#[41]⟩,⟨#[44]⟩]
def xtok (t:ByteArray):Prop:=isNameB t = true ∨ memB xsigns t = true
theorem xtok_ne {t:ByteArray} (h:xtok t) (u:ByteArray) (hu:isNameB u = false) (hl:memB xsigns u = false):¬ t = u:=by
 rintro rfl
 rcases h with h | h
 ·rw [hu] at h; cases h
 ·rw [hl] at h; cases h
theorem mate_step {L:List Tk} {d:Int} {f m:Nat} {k:Int} (hm:m < L.length):mateF L 1 d (f + 1) m k = if k + delta (tAt L m) = 0 then (m:Int) else mateF L 1 d f (m + 1:Nat) (k + delta (tAt L m)):=by
 rw [mateF,if_pos ⟨by omega,by omega⟩,Int.toNat_natCast,tk_eq hm,← tAt_in hm]
 have c12:¬ (⟨#[40]⟩:ByteArray) = ⟨#[41]⟩∧¬ (⟨#[40]⟩:ByteArray) = ⟨#[125]⟩:=by decide
 have c34:¬ (⟨#[123]⟩:ByteArray) = ⟨#[41]⟩∧¬ (⟨#[123]⟩:ByteArray) = ⟨#[125]⟩:=by decide
 have hd:(if tAt L m = ⟨#[41]⟩ ∨ tAt L m = ⟨#[125]⟩ then (if tAt L m = ⟨#[40]⟩ ∨ tAt L m = ⟨#[123]⟩ then k + 1 else k) - 1 else if tAt L m = ⟨#[40]⟩ ∨ tAt L m = ⟨#[123]⟩ then k + 1 else k) = k + delta (tAt L m):=by
  unfold delta
  by_cases h1:tAt L m = ⟨#[40]⟩ ∨ tAt L m = ⟨#[123]⟩
  ·have h2:¬ (tAt L m = ⟨#[41]⟩ ∨ tAt L m = ⟨#[125]⟩):=by
     rcases h1 with h1 | h1
     ·rw [h1]; exact not_or.2 c12
     ·rw [h1]; exact not_or.2 c34
   rw [if_neg h2,if_pos h1,if_pos h1]
  ·rw [if_neg h1,if_neg h1]
   split <;> omega
 simp only [hd]; rfl
def dp (t:ByteArray):Int:=if t = ⟨#[40]⟩ then 1 else if t = ⟨#[41]⟩ then -1 else 0
theorem isB_tAt {L:List Tk} {m:Nat} {t:ByteArray} (h0:¬ t = ⟨#[]⟩):isB L m t = decide (tAt L m = t):=by
 by_cases h:m < L.length
 ·rw [isB_in h,seq_comm,tAt_in h]
 ·rw [isB_out (by omega),tAt_out h,decide_eq_false (fun e=>h0 e.symm)]
theorem vals_step {L:List Tk} {e:Int} {f m:Nat} {op v:Int} (hm:(m:Int) < e):valuesF L e (f + 1) m op v = valuesF L e f (m + 1) (op + dp (tAt L m)) (if tAt L m = ⟨#[44]⟩∧op = 1 then v + 1 else v):=by
 rw [valuesF,if_pos hm]
 simp only [isB_tAt (L:=L) (m:=m) (t:=⟨#[40]⟩) (by decide),isB_tAt (L:=L) (m:=m) (t:=⟨#[41]⟩) (by decide),isB_tAt (L:=L) (m:=m) (t:=⟨#[44]⟩) (by decide)]
 by_cases h1:tAt L m = ⟨#[40]⟩
 ·rw [h1]; simp [dp]
 ·by_cases h2:tAt L m = ⟨#[41]⟩
  ·rw [h2]; simp [dp]
   congr 1
  ·by_cases h3:tAt L m = ⟨#[44]⟩
   ·rw [h3]; simp [dp]
   ·simp [h1,h2,h3,dp]
structure XR (L:List Tk) (cm m n:Nat):Prop where
 le:m ≤ n
 tok:∀ i,m ≤ i→i < n→xtok (tAt L i)
 nocall:∀ i,m ≤ i→i + 1 < n→isNameB (tAt L i) = true→¬ tAt L (i + 1) = ⟨#[40]⟩
 mate:∀ (d:Int) (f:Nat) (k:Int),1 ≤ k→mateF L 1 d (f + (n - m)) m k = mateF L 1 d f n k
 vals:∀ (e:Int) (f:Nat) (op v:Int),cm = 0 ∨ op = 1→(n:Int) ≤ e→valuesF L e (f + (n - m)) m op v = valuesF L e f n op (v + cm)
theorem XR.nil (L:List Tk) (m:Nat):XR L 0 m m:=⟨Nat.le_refl _,fun i h1 h2=>absurd h1 (by omega),fun i h1 h2=>absurd h1 (by omega),fun d f k _=>by rw [Nat.sub_self]; rfl,fun e f op v _ _=>by rw [Nat.sub_self]; simp⟩
theorem XR.one {L:List Tk} {m:Nat} (hm:m < L.length) (hx:xtok (tAt L m)) (h1:¬ tAt L m = ⟨#[40]⟩) (h2:¬ tAt L m = ⟨#[41]⟩) (h3:¬ tAt L m = ⟨#[44]⟩):XR L 0 m (m + 1):=by
 have hd:delta (tAt L m) = 0:=by
  rcases delta5 (tAt L m) with ⟨e,_⟩ | ⟨e,_⟩ | ⟨e,_⟩ | ⟨e,_⟩ | ⟨_,_,_,_,e⟩
  ·exact absurd e h1
  ·exact absurd e (xtok_ne hx _ (sign_name (by decide)) (by decide))
  ·exact absurd e h2
  ·exact absurd e (xtok_ne hx _ (sign_name (by decide)) (by decide))
  ·exact e
 refine ⟨Nat.le_succ _,fun i a b=>?_,fun i a b=>absurd a (by omega),fun d f k hk=>?_,fun e f op v _ he=>?_⟩
 ·rw [show i = m by omega]; exact hx
 ·rw [show f + (m + 1 - m) = f + 1 by omega,mate_step hm,hd,if_neg (by omega),Int.add_zero]
 ·rw [show f + (m + 1 - m) = f + 1 by omega,vals_step (by omega)]
  simp [dp,h1,h2,h3]
structure X (L:List Tk) (cm:Nat) (a b:PSt) (M:List Ml):Prop where
 ok:a.failed = false
 names:b.names = a.names ++ M.map (mk L)
 calls:b.calls = a.calls
 proc:b.proc = a.proc
 seg:Seg L a.next b.next M
 role:∀ x ∈ M,x.r = 4∧x.pr = a.proc
 row:XR L cm a.next b.next
theorem X.nil {L:List Tk} {a:PSt} (h:a.failed = false):X L 0 a a []:=⟨h,(by simp),rfl,rfl,Seg.nil _ _,fun _ h=>(by cases h),XR.nil _ _⟩
theorem X.tok {L:List Tk} {t:ByteArray} {a b:PSt} (h:Tok L t a b) (hn:isNameB t = false) (hx:memB xsigns t = true) (h1:¬ t = ⟨#[40]⟩) (h2:¬ t = ⟨#[41]⟩) (h3:¬ t = ⟨#[44]⟩):X L 0 a b []:=by
 have e:=h.is
 refine ⟨h.ok,by rw [h.names]; simp,h.calls,h.proc,?_,fun _ h=>(by cases h),?_⟩
 ·rw [h.next]; exact Seg.tok (by rw [e]; exact hn)
 ·rw [h.next]; exact XR.one h.lt (by rw [e]; exact .inr hx) (by rw [e]; exact h1) (by rw [e]; exact h2) (by rw [e]; exact h3)
end RR
namespace RR
open Go Go.RowKit
def NAR (L:List Tk) (n:Nat):Prop:=∀ j,n = j + 1→¬ tAt L j = ⟨#[97,99,113,117,105,114,101]⟩∧¬ tAt L j = ⟨#[114,101,108,101,97,115,101]⟩
def AR (L:List Tk) (n:Nat):Prop:=∃ j,n = j + 1∧(tAt L j = ⟨#[97,99,113,117,105,114,101]⟩ ∨ tAt L j = ⟨#[114,101,108,101,97,115,101]⟩)
def BR (L:List Tk) (x:Ml):Prop:=(x.r = 4∧NAR L x.i∧¬ tAt L (x.i + 1) = ⟨#[40]⟩) ∨ (x.r = 5∧AR L x.i∧¬ tAt L (x.i + 1) = ⟨#[40]⟩) ∨ (x.r = 6∧NAR L x.i∧tAt L (x.i + 1) = ⟨#[40]⟩)
def NK (t:ByteArray):Prop:=¬ t = ⟨#[115,104,97,114,101,100]⟩∧¬ t = ⟨#[108,111,99,107,115]⟩∧¬ t = ⟨#[112,114,111,99]⟩∧¬ t = ⟨#[116,104,114,101,97,100,115]⟩
structure Ca where
 i:Nat
 v:Nat
def mkc (L:List Tk) (c:Ca):Cl:=⟨tAt L c.i,(tk L c.i).p,c.v⟩
structure CallsOf (L:List Tk) (M:List Ml) (C:List Ca):Prop where
 sor:C.Pairwise fun x y=>x.i < y.i
 inn:∀ c ∈ C,(∃ x ∈ M,x.r = 6∧x.i = c.i)∧(c.v:Int) = valuesB L (c.i + 1)
 cov:∀ x ∈ M,x.r = 6→∃ c ∈ C,c.i = x.i
theorem CallsOf.none {L:List Tk} {M:List Ml} (h:∀ x ∈ M,¬ x.r = 6):CallsOf L M []:=⟨List.Pairwise.nil,fun _ h=>(by cases h),fun x hx e=>absurd e (h x hx)⟩
structure Bd (L:List Tk) (a b:PSt) (M:List Ml) (C:List Ca):Prop where
 ok:a.failed = false
 names:b.names = a.names ++ M.map (mk L)
 calls:b.calls = a.calls ++ C.map (mkc L)
 proc:b.proc = a.proc
 seg:Seg L a.next b.next M
 role:∀ x ∈ M,BR L x∧x.pr = a.proc
 kw:∀ i,a.next ≤ i→i < b.next→NK (tAt L i)
 cs:CallsOf L M C
theorem Bd.nil {L:List Tk} {a:PSt} (h:a.failed = false):Bd L a a [] []:=⟨h,(by simp),(by simp),rfl,Seg.nil _ _,fun _ h=>(by cases h),fun i h1 h2=>absurd h1 (by omega),CallsOf.none (fun _ h=>(by cases h))⟩
theorem Bd.tok {L:List Tk} {t:ByteArray} {a b:PSt} (h:Tok L t a b) (hn:isNameB t = false) (hk:NK t):Bd L a b [] []:=by
 refine ⟨h.ok,by rw [h.names]; simp,by rw [h.calls]; simp,h.proc,?_,fun _ h=>(by cases h),?_,CallsOf.none (fun _ h=>(by cases h))⟩
 ·rw [h.next]; exact Seg.tok (by rw [h.is]; exact hn)
 ·intro i h1 h2; rw [show i = a.next by rw [h.next] at h2; omega,h.is]; exact hk
end RR
namespace RR
open Go Go.RowKit
def SB (L:List Tk) (a b:PSt):Prop:=∃ M C,Bd L a b M C∧NAR L b.next
theorem SB.ok {L:List Tk} {a b:PSt} (h:SB L a b):a.failed = false:=by obtain ⟨M,C,h,_⟩:=h; exact h.ok
end RR
namespace RR
open Go Go.RowKit
structure PQ where
 m:Nat
 pr:Int
 B:List Ml
 C:List Ca
 z:Nat
def PQ.ms (L:List Tk) (q:PQ):List Ml:=⟨q.m + 1,2,q.pr⟩ :: ((paramsB L (q.m + 1)).map (fun i=>⟨i,3,q.pr⟩) ++ q.B)
end RR
namespace RR
open Go Go.RowKit
structure Dec (L:List Tk) (S K T:List Nat) (Q:List PQ) (pl:Int) (M:List Ml) (C:List Ca):Prop where
 eM:M = S.map (fun i=>⟨i,0,-1⟩) ++ (K.map (fun i=>⟨i,1,-1⟩) ++ (Q.flatMap (PQ.ms L) ++ T.map (fun i=>⟨i,7,pl⟩)))
 seg:Seg L 0 L.length M
 cs:CallsOf L M C
 wS:wordB L ⟨#[115,104,97,114,101,100]⟩ = S
 wK:wordB L ⟨#[108,111,99,107,115]⟩ = K
 wP:procsB L = Q.map (fun q=>q.m + 1)
 wT:wordB L ⟨#[116,104,114,101,97,100,115]⟩ = T
 prs:Q.Pairwise fun a b=>a.pr < b.pr
 prp:∀ q ∈ Q,0 ≤ q.pr
 qs:∀ q ∈ Q,∀ x ∈ q.B,BR L x∧x.pr = q.pr∧homeB L x.i = q.m + 1
 thr:∀ i ∈ T,NAR L i∧¬ tAt L (i + 1) = ⟨#[40]⟩
 ne:0 < L.length
end RR
namespace RR
open Go Go.RowKit
def pl (L:List Tk) (i:Nat):Nat:=(tk L i).p
end RR
namespace RR
open Go Go.RowKit
end RR
namespace RR
open Go Go.RowKit
section
variable {L:List Tk} {S K T:List Nat} {Q:List PQ} {p:Int} {M:List Ml} {C:List Ca}
theorem Dec.lt (d:Dec L S K T Q p M C) {x:Ml} (hx:x ∈ M):x.i < L.length:=(d.seg.inn x hx).2.1
end
end RR
namespace RR
open Go Go.RowKit
section
variable {L:List Tk} {S K T:List Nat} {Q:List PQ} {p:Int} {M:List Ml} {C:List Ca}
end
end RR
namespace RR
open Go Go.RowKit
end RR
namespace RR
open Go Go.RowKit
def Nx (L:List Tk) (a b:PSt):Prop:=a.next ≤ b.next∧(a.next ≤ L.length→b.next ≤ L.length)
theorem Nx.refl (L:List Tk) (a:PSt):Nx L a a:=⟨Nat.le_refl _,id⟩
theorem Nx.trans {L:List Tk} {a b c:PSt} (h:Nx L a b) (k:Nx L b c):Nx L a c:=⟨Nat.le_trans h.1 k.1,fun x=>k.2 (h.2 x)⟩
theorem nx_fail (L:List Tk) (a:PSt):Nx L a a.fail:=⟨Nat.le_refl _,id⟩
theorem nx_step {L:List Tk} {a:PSt} {t:ByteArray} (h0:¬ t = ⟨#[]⟩) (h:a.sees L t = true):Nx L a a.step:=⟨Nat.le_succ _,fun _=>(sees_lt h0 h).1⟩
theorem nx_take {L:List Tk} {a:PSt} {t:ByteArray} (h0:¬ t = ⟨#[]⟩):Nx L a (a.take L t):=by
 unfold PSt.take
 cases hs:a.sees L t
 ·exact nx_fail L a
 ·exact nx_step h0 hs
theorem nx_name {L:List Tk} {a:PSt} {r:Nat}:Nx L a (a.takeName L r):=by
 unfold PSt.takeName
 cases hs:isNameB (a.ahead L 0).t
 ·exact nx_fail L a
 ·exact ⟨Nat.le_succ _,fun _=>(name_lt hs).1⟩
theorem nx_enter {L:List Tk} {a:PSt} {t:ByteArray} (h0:¬ t = ⟨#[]⟩):Nx L a (enterP L a t):=by
 unfold enterP
 split
 ·exact nx_fail L a
 ·have:=nx_take (L:=L) (a:=a) h0; exact ⟨this.1,this.2⟩
theorem nx_leave {L:List Tk} {a:PSt} {t:ByteArray} (h0:¬ t = ⟨#[]⟩):Nx L a (leaveP L a t):=by
 have:=nx_take (L:=L) (a:=a) h0; exact ⟨this.1,this.2⟩
structure XG (L:List Tk) (c:Nat) (σ τ:QSt):Prop where
 sts:τ.sts = σ.sts
 nx:Nx L σ.p τ.p
 mono:σ.nds.length ≤ τ.nds.length
 grow:τ.nds.length + 2 * σ.p.next ≤ σ.nds.length + 2 * τ.p.next + c
theorem XG.refl (L:List Tk) (σ:QSt):XG L 0 σ σ:=⟨rfl,Nx.refl _ _,Nat.le_refl _,by omega⟩
theorem XG.trans {L:List Tk} {c d:Nat} {a b e:QSt} (h:XG L c a b) (k:XG L d b e):XG L (c + d) a e:=⟨k.sts.trans h.sts,h.nx.trans k.nx,Nat.le_trans h.mono k.mono,by have:=h.grow; have:=k.grow; omega⟩
theorem XG.weak {L:List Tk} {c d:Nat} {a b:QSt} (h:XG L c a b) (hd:c ≤ d):XG L d a b:=⟨h.sts,h.nx,h.mono,by have:=h.grow; omega⟩
theorem xg_setp {L:List Tk} {σ:QSt} {q:PSt} (h:Nx L σ.p q):XG L 0 σ (σ.setp q):=⟨rfl,h,Nat.le_refl _,by show σ.nds.length + _ ≤ _ + 2 * q.next + 0; have:=h.1; omega⟩
theorem xg_node {L:List Tk} (σ:QSt) (n:Nd):XG L 1 σ (σ.node n):=⟨rfl,Nx.refl _ _,by show _ ≤ (σ.nds ++ [n]).length; simp,by show (σ.nds ++ [n]).length + 2 * σ.p.next ≤ σ.nds.length + 2 * σ.p.next + 1; simp; omega⟩
theorem xg_nots (L:List Tk):∀ (f:Nat) (σ:QSt) (n:Nat) (r:QSt × Nat),notsQ L f σ n = some r→n ≤ r.2∧r.1.sts = σ.sts∧r.1.nds = σ.nds∧Nx L σ.p r.1.p∧r.1.p.next = σ.p.next + (r.2 - n):=by
 intro f
 induction f with
 | zero=>intro σ n r h; rw [notsQ] at h; cases h
 | succ f ih =>
  intro σ n r h
  rw [notsQ] at h
  split at h
  ·rename_i hs
   obtain ⟨h1,h2,h3,h4,h5⟩:=ih _ _ _ h
   have e:(σ.setp σ.p.step).p.next = σ.p.next + 1:=rfl
   exact ⟨by omega,h2,h3,(nx_step (by decide) hs).trans h4,by omega⟩
  ·rw [← Option.some.inj h]
   exact ⟨Nat.le_refl _,rfl,rfl,Nx.refl _ _,by simp⟩
theorem xg_addNots:∀ (n:Nat) (σ:QSt) (w:Int),(addNots n σ w).1.sts = σ.sts∧(addNots n σ w).1.p = σ.p∧(addNots n σ w).1.nds.length = σ.nds.length + n:=by
 intro n
 induction n with
 | zero=>intro σ w; exact ⟨rfl,rfl,rfl⟩
 | succ n ih =>
  intro σ w
  obtain ⟨h1,h2,h3⟩:=ih (σ.node ⟨4,-1,0,w⟩) σ.nds.length
  rw [addNots]
  refine ⟨h1,h2,?_⟩
  rw [h3]
  show (σ.nds ++ [_]).length + n = _
  simp; omega
theorem xg_plain {L:List Tk} {br:QSt→Option (QSt × Int)} (hbr:∀ σ r,br σ = some r→XG L 1 σ r.1) {σ:QSt} {r:QSt × Int} (h:plainQ L br σ = some r):XG L 1 σ r.1:=by
 unfold plainQ at h
 have cst:∀ (t:ByteArray) (s:Nat),(¬ t = ⟨#[]⟩)→XG L 1 σ (constQ L σ t s).1:=fun t s h0=>((xg_setp (nx_take h0)).trans (xg_node _ _)).weak (Nat.le_refl _)
 split at h
 ·exact hbr σ r h
 split at h
 ·rw [← Option.some.inj h]; exact cst _ _ (by decide)
 split at h
 ·rw [← Option.some.inj h]; exact cst _ _ (by decide)
 split at h
 ·rw [← Option.some.inj h]; exact cst _ _ (by decide)
 ·rw [← Option.some.inj h]; exact ((xg_setp nx_name).trans (xg_node _ _)).weak (Nat.le_refl _)
theorem xg_exprs (L:List Tk):∀ f:Nat,(∀ σ r,exprQ L f σ = some r→XG L 1 σ r.1)∧(∀ σ w r,orQ L f σ w = some r→XG L 0 σ r.1)∧(∀ σ r,termQ L f σ = some r→XG L 1 σ r.1)∧(∀ σ w r,andQ L f σ w = some r→XG L 0 σ r.1)∧(∀ σ r,factorQ L f σ = some r→XG L 1 σ r.1)∧(∀ σ r,bracketedQ L f σ = some r→XG L 1 σ r.1):=by
 have loop:∀ {σ τ υ:QSt} {n:Nd} {t:ByteArray},(¬ t = ⟨#[]⟩)→σ.p.sees L t = true→XG L 1 (σ.setp σ.p.step) τ→XG L 0 (τ.node n) υ→XG L 0 σ υ:=fun {σ τ υ n t} h0 hs h k=>by
  have a:=(h.trans (xg_node τ n)).trans k
  have e:(σ.setp σ.p.step).p.next = σ.p.next + 1:=rfl
  have e2:(σ.setp σ.p.step).nds = σ.nds:=rfl
  have g:=a.grow
  have m:=a.mono
  rw [e,e2] at g
  rw [e2] at m
  exact ⟨a.sts,(nx_step h0 hs).trans a.nx,m,by omega⟩
 intro f
 induction f with
 | zero =>
  refine ⟨fun σ r h=>?_,fun σ w r h=>?_,fun σ r h=>?_,fun σ w r h=>?_,fun σ r h=>?_,fun σ r h=>?_⟩
  ·rw [exprQ_zero] at h; cases h
  ·rw [orQ_zero] at h; cases h
  ·rw [termQ_zero] at h; cases h
  ·rw [andQ_zero] at h; cases h
  ·rw [factorQ_zero] at h; cases h
  ·rw [bracketedQ_zero] at h; cases h
 | succ f ih =>
  obtain ⟨i1,i2,i3,i4,i5,i6⟩:=ih
  refine ⟨fun σ r h=>?_,fun σ w r h=>?_,fun σ r h=>?_,fun σ w r h=>?_,fun σ r h=>?_,fun σ r h=>?_⟩
  ·rw [exprQ_succ] at h
   obtain ⟨a,h1,h2⟩:=bindS h
   exact (i3 _ _ h1).trans (i2 _ _ _ h2)
  ·rw [orQ_succ] at h
   split at h
   ·rename_i hs
    obtain ⟨a,h1,h2⟩:=bindS h
    exact loop (by decide) hs (i3 _ _ h1) (i2 _ _ _ h2)
   ·rw [← Option.some.inj h]; exact XG.refl _ _
  ·rw [termQ_succ] at h
   obtain ⟨a,h1,h2⟩:=bindS h
   exact (i5 _ _ h1).trans (i4 _ _ _ h2)
  ·rw [andQ_succ] at h
   split at h
   ·rename_i hs
    obtain ⟨a,h1,h2⟩:=bindS h
    exact loop (by decide) hs (i5 _ _ h1) (i4 _ _ _ h2)
   ·rw [← Option.some.inj h]; exact XG.refl _ _
  ·rw [factorQ_succ] at h
   obtain ⟨a,h1,h2⟩:=bindS h
   obtain ⟨q,h3,h4⟩:=Option.map_eq_some_iff.1 h2
   obtain ⟨n1,n2,n3,n4,n5⟩:=xg_nots L f _ _ _ h1
   have g:=xg_plain i6 h3
   obtain ⟨m1,m2,m3⟩:=xg_addNots a.2 q.1 q.2
   rw [← h4]
   refine ⟨m1.trans (g.sts.trans n2),?_,?_,?_⟩
   ·rw [m2]; exact n4.trans g.nx
   ·have:=g.mono; rw [m3]; rw [n3] at this; omega
   ·have:=g.grow; rw [m3,m2]; rw [n3] at this; omega
  ·rw [bracketedQ_succ] at h
   obtain ⟨a,h1,h2⟩:=Option.map_eq_some_iff.1 h
   rw [← h2]
   exact (((xg_setp (nx_enter (by decide))).trans (i1 _ _ h1)).trans (xg_setp (nx_leave (by decide)))).weak (by omega)
theorem xg_value {L:List Tk} {f:Nat} {σ:QSt} {v:List (Int × Int)} {r:QSt × List (Int × Int)} (h:valueQ L f σ v = some r):XG L 1 σ r.1:=by
 unfold valueQ at h
 obtain ⟨a,h1,rfl⟩:=Option.map_eq_some_iff.1 h
 exact (xg_exprs L f).1 _ _ h1
theorem xg_values (L:List Tk):∀ (f:Nat) (σ:QSt) (v:List (Int × Int)) (r:QSt × List (Int × Int)),valuesQ L f σ v = some r→XG L 0 σ r.1:=by
 intro f
 induction f with
 | zero=>intro σ v r h; rw [valuesQ] at h; cases h
 | succ f ih =>
  intro σ v r h
  rw [valuesQ] at h
  split at h
  ·rename_i hs
   obtain ⟨a,h1,h2⟩:=bindS h
   have a1:=(xg_value h1).trans (ih _ _ _ h2)
   have e:(σ.setp σ.p.step).p.next = σ.p.next + 1:=rfl
   have e2:(σ.setp σ.p.step).nds = σ.nds:=rfl
   have g:=a1.grow
   have m:=a1.mono
   rw [e,e2] at g
   rw [e2] at m
   exact ⟨a1.sts,(nx_step (by decide) hs).trans a1.nx,m,by omega⟩
  ·rw [← Option.some.inj h]; exact XG.refl _ _
theorem xg_cond {L:List Tk} {f:Nat} {σ:QSt} {v:List (Int × Int)} {r:QSt × List (Int × Int)} (h:condQ L f σ v = some r):XG L 1 σ r.1:=by
 cases f with
 | zero=>rw [condQ] at h; cases h
 | succ f =>
  rw [condQ] at h
  obtain ⟨a,h1,h2⟩:=Option.map_eq_some_iff.1 h
  rw [← h2]
  exact (((xg_setp (nx_enter (by decide))).trans (xg_value h1)).trans (xg_setp (nx_leave (by decide)))).weak (by omega)
theorem xg_call {L:List Tk} {f:Nat} {σ:QSt} {s:Stm} {r:QSt × Stm} (h:callQ L f σ s = some r):XG L 1 σ r.1:=by
 unfold callQ at h
 obtain ⟨a,h1,h2⟩:=Option.map_eq_some_iff.1 h
 rw [← h2]
 have start:XG L 0 σ (σ.setp (enterP L (σ.p.takeName L 6) ⟨#[40]⟩)):=xg_setp (nx_name.trans (nx_enter (by decide)))
 have mid:XG L 1 σ a.1:=by
  split at h1
  ·rw [← Option.some.inj h1]; exact start.weak (by omega)
  ·obtain ⟨b,h3,h4⟩:=bindS h1
   exact ((start.trans (xg_value h3)).trans (xg_values L f _ _ _ h4)).weak (by omega)
 have l:=nx_leave (L:=L) (a:=a.1.p) (t:=⟨#[41]⟩) (by decide)
 exact (mid.trans (xg_setp (q:={ leaveP L a.1.p ⟨#[41]⟩ with calls:=(leaveP L a.1.p ⟨#[41]⟩).calls ++ [⟨(σ.p.ahead L 0).t,(σ.p.ahead L 0).p,a.2.length⟩] }) ⟨l.1,l.2⟩)).weak (by omega)
theorem xg_assigned {L:List Tk} {f:Nat} {σ:QSt} {s:Stm} {r:QSt × Stm} (h:assignedQ L f σ s = some r):XG L 1 σ r.1:=by
 unfold assignedQ at h
 split at h
 ·exact xg_call h
 ·obtain ⟨a,h1,rfl⟩:=Option.map_eq_some_iff.1 h
  exact xg_value h1
structure SG (L:List Tk) (c d:Nat) (σ τ:QSt):Prop where
 nx:Nx L σ.p τ.p
 mn:σ.nds.length ≤ τ.nds.length
 ms:σ.sts.length ≤ τ.sts.length
 gn:τ.nds.length + 3 * σ.p.next ≤ σ.nds.length + 3 * τ.p.next + c
 gs:τ.sts.length + σ.p.next ≤ σ.sts.length + τ.p.next + d
theorem SG.trans {L:List Tk} {c d c' d':Nat} {a b e:QSt} (h:SG L c d a b) (k:SG L c' d' b e):SG L (c + c') (d + d') a e :=
 ⟨h.nx.trans k.nx,Nat.le_trans h.mn k.mn,Nat.le_trans h.ms k.ms,by have:=h.gn; have:=k.gn; omega,by have:=h.gs; have:=k.gs; omega⟩
theorem SG.weak {L:List Tk} {c d c' d':Nat} {a b:QSt} (h:SG L c d a b) (hc:c ≤ c') (hd:d ≤ d'):SG L c' d' a b:=⟨h.nx,h.mn,h.ms,by have:=h.gn; omega,by have:=h.gs; omega⟩
theorem XG.sg {L:List Tk} {c:Nat} {a b:QSt} (h:XG L c a b):SG L c 0 a b:=⟨h.nx,h.mono,by rw [h.sts]; exact Nat.le_refl _,by have:=h.grow; have:=h.nx.1; omega,by rw [h.sts]; have:=h.nx.1; omega⟩
theorem sg_add {L:List Tk} (σ:QSt) (s:Stm):SG L 0 1 σ (σ.add s):=⟨Nx.refl _ _,Nat.le_refl _,by show _ ≤ (σ.sts ++ [s]).length; simp,by show σ.nds.length + _ ≤ _ + 3 * σ.p.next + 0; omega,by show (σ.sts ++ [s]).length + σ.p.next ≤ _ + σ.p.next + 1; simp; omega⟩
theorem SG.tok {L:List Tk} {c d:Nat} {a b:QSt} (h:SG L c d a b) (hlt:a.p.next < b.p.next) (hg:b.nds.length + 2 * a.p.next ≤ a.nds.length + 2 * b.p.next + 1) (hs:b.sts.length ≤ a.sts.length + 1):SG L 0 0 a b:=⟨h.nx,h.mn,h.ms,by omega,by omega⟩
theorem sg_simple {L:List Tk} {a b:QSt} {s:Stm} (h:XG L 1 a b) (hlt:b.p.failed = false→a.p.next < b.p.next):SG L (if b.p.failed then 1 else 0) (if b.p.failed then 1 else 0) a (b.add s):=by
 have k:=h.sg.trans (sg_add b s)
 cases hf:b.p.failed
 ·have e:(b.add s).p = b.p:=rfl
  exact k.tok (by rw [e]; exact hlt hf) (by show b.nds.length + _ ≤ _ + 2 * b.p.next + 1; exact h.grow) (by show (b.sts ++ [s]).length ≤ _; rw [h.sts]; simp)
 ·exact k.weak (by simp) (by simp)
end RR
namespace RR
open Go Go.RowKit
theorem projS {α:Type} {o:Option α} {p:α→PSt} {q:Option PSt} (h:o.map p = q) {r:α} (e:o = some r):q = some (p r):=by rw [← h,e]; rfl
theorem take_lt {L:List Tk} {a:PSt} {t:ByteArray} (h0:¬ t = ⟨#[]⟩) (hf:(a.take L t).failed = false):a.failed = false∧(a.take L t).next = a.next + 1:=by
 have:=tok_take h0 hf
 exact ⟨this.ok,this.next⟩
theorem take_end {L:List Tk} {τ:QSt} {n:Nat} {t:ByteArray} (h0:¬ t = ⟨#[]⟩) (h:n ≤ τ.p.next) (hf:(τ.setp (τ.p.take L t)).p.failed = false):n < (τ.setp (τ.p.take L t)).p.next:=by
 have:=(take_lt h0 (show (τ.p.take L t).failed = false from hf)).2
 show n < (τ.p.take L t).next
 omega
theorem sg_assume {L:List Tk} {f:Nat} {σ τ:QSt} {s:Stm} (h:assumeQ L f σ s = some τ):SG L (if τ.p.failed then 1 else 0) (if τ.p.failed then 1 else 0) σ τ:=by
 unfold assumeQ at h
 obtain ⟨a,h1,h2⟩:=Option.map_eq_some_iff.1 h
 rw [← h2]
 have g:=((xg_setp (σ:=σ) (nx_take (L:=L) (t:=⟨#[97,115,115,117,109,101]⟩) (by decide))).trans (xg_value h1))
 exact sg_simple ((g.trans (xg_setp (nx_take (L:=L) (t:=⟨#[59]⟩) (by decide)))).weak (by omega)) (fun hf=>take_end (by decide) g.nx.1 hf)
theorem sg_giveBack {L:List Tk} {f:Nat} {σ τ:QSt} {s:Stm} (h:giveBackQ L f σ s = some τ):SG L (if τ.p.failed then 1 else 0) (if τ.p.failed then 1 else 0) σ τ:=by
 unfold giveBackQ at h
 obtain ⟨a,h1,h2⟩:=Option.map_eq_some_iff.1 h
 rw [← h2]
 have g0:=xg_setp (σ:=σ) (nx_take (L:=L) (a:=σ.p) (t:=⟨#[114,101,116,117,114,110]⟩) (by decide))
 have g:XG L 1 σ a.1:=by
  split at h1
  ·rw [← Option.some.inj h1]; exact g0.weak (by omega)
  ·exact (g0.trans (xg_value h1)).weak (by omega)
 exact sg_simple ((g.trans (xg_setp (nx_take (L:=L) (t:=⟨#[59]⟩) (by decide)))).weak (by omega)) (fun hf=>take_end (by decide) g.nx.1 hf)
theorem sg_aoc {L:List Tk} {f:Nat} {σ τ:QSt} {s:Stm} (h:aocQ L f σ s = some τ):SG L (if τ.p.failed then 1 else 0) (if τ.p.failed then 1 else 0) σ τ:=by
 unfold aocQ at h
 obtain ⟨a,h1,h2⟩:=Option.map_eq_some_iff.1 h
 rw [← h2]
 have g:XG L 1 σ a.1:=by
  split at h1
  ·exact xg_call h1
  ·exact ((xg_setp (σ:=σ) (nx_name.trans (nx_take (L:=L) (t:=⟨#[61]⟩) (by decide)))).trans (xg_assigned h1)).weak (by omega)
 exact sg_simple ((g.trans (xg_setp (nx_take (L:=L) (t:=⟨#[59]⟩) (by decide)))).weak (by omega)) (fun hf=>take_end (by decide) g.nx.1 hf)
theorem sg_lock {L:List Tk} {σ:QSt} {s:Stm} {t:ByteArray} (h0:¬ t = ⟨#[]⟩):SG L (if (lockUseQ L σ s t).p.failed then 1 else 0) (if (lockUseQ L σ s t).p.failed then 1 else 0) σ (lockUseQ L σ s t):=by
 have n:=((nx_take (L:=L) (a:=σ.p) h0).trans (nx_name (r:=5)))
 have g:=xg_setp (σ:=σ) (n.trans (nx_take (L:=L) (t:=⟨#[59]⟩) (by decide)))
 refine sg_simple (g.weak (by omega)) (fun hf=>?_)
 have:=(take_lt (by decide) (show (((σ.p.take L t).takeName L 5).take L ⟨#[59]⟩).failed = false from hf)).2
 show σ.p.next < (((σ.p.take L t).takeName L 5).take L ⟨#[59]⟩).next
 have:=n.1; omega
theorem sg_skip {L:List Tk} {σ:QSt} {s:Stm}:SG L (if (skipQ L σ s).p.failed then 1 else 0) (if (skipQ L σ s).p.failed then 1 else 0) σ (skipQ L σ s):=by
 have n:=nx_take (L:=L) (a:=σ.p) (t:=⟨#[115,107,105,112]⟩) (by decide)
 have g:=xg_setp (σ:=σ) (n.trans (nx_take (L:=L) (t:=⟨#[59]⟩) (by decide)))
 refine sg_simple (g.weak (by omega)) (fun hf=>?_)
 have:=(take_lt (by decide) (show ((σ.p.take L ⟨#[115,107,105,112]⟩).take L ⟨#[59]⟩).failed = false from hf)).2
 show σ.p.next < ((σ.p.take L ⟨#[115,107,105,112]⟩).take L ⟨#[59]⟩).next
 have:=n.1; omega
theorem enter_fails {L:List Tk} {a:PSt} {t:ByteArray} (h0:¬ t = ⟨#[]⟩) (h:a.failed = true):(enterP L a t).failed = true:=by
 cases hf:(enterP L a t).failed
 ·have:=(tok_enter h0 hf).ok; rw [h] at this; cases this
 ·rfl
def BG (L:List Tk) (σ τ:QSt):Prop:=SG L (if σ.p.failed then 0 else if τ.p.failed then 1 else 0) (if σ.p.failed then 0 else if τ.p.failed then 1 else 0) σ τ
def Sticky (σ τ:QSt):Prop:=σ.p.failed = true→τ.p.failed = true
theorem setp_sg {L:List Tk} {σ:QSt} {q:PSt} (h:Nx L σ.p q):SG L 0 0 σ (σ.setp q):=(xg_setp h).sg
theorem sg_blocks (L:List Tk):∀ f:Nat,
    (∀ σ b r,blockQ L f σ b = some r→BG L σ r.1∧Sticky σ r.1) ∧
    (∀ σ b r,stmtsQ L f σ b = some r→BG L σ r.1∧Sticky σ r.1) ∧
    (∀ σ b r,statementQ L f σ b = some r→σ.p.failed = false→BG L σ r.1) ∧
    (∀ σ b r,branchQ L f σ b = some r→σ.p.failed = false→σ.p.sees L ⟨#[105,102]⟩ = true→BG L σ r.1):=by
 have leave_fails:∀ {a:PSt} {t:ByteArray},(¬ t = ⟨#[]⟩)→a.failed = true→(leaveP L a t).failed = true:=fun {a t} h0 h=>by
  cases hf:(leaveP L a t).failed
  ·have:=(tok_leave h0 hf).ok; rw [h] at this; cases this
  ·rfl
 -- a condition,the statement itself,then a block
 have head:∀ {σ:QSt} {t:ByteArray} {f:Nat} {v:List (Int × Int)} {a:QSt × List (Int × Int)} {s:Stm},(¬ t = ⟨#[]⟩)→σ.p.sees L t = true→condQ L f (σ.setp (σ.p.take L t)) v = some a→SG L 0 0 σ (a.1.add s):=fun {σ t f v a s} h0 hs hc=>by
  have g:=xg_cond hc
  have e:σ.p.take L t = σ.p.step:=by unfold PSt.take; rw [hs]; rfl
  rw [e] at g
  have gr:=g.grow
  have m:=g.mono
  have x:=g.nx
  have st:=g.sts
  have e1:(σ.setp σ.p.step).p.next = σ.p.next + 1:=rfl
  have e2:(σ.setp σ.p.step).nds = σ.nds:=rfl
  have e3:(σ.setp σ.p.step).sts = σ.sts:=rfl
  have x1:=x.1
  rw [e1,e2] at gr
  rw [e2] at m
  rw [e1] at x1
  rw [e3] at st
  refine ⟨(nx_step h0 hs).trans x,m,?_,?_,?_⟩
  ·show _ ≤ (a.1.sts ++ [s]).length; rw [st]; simp
  ·show a.1.nds.length + _ ≤ _ + 3 * a.1.p.next + 0; omega
  ·show (a.1.sts ++ [s]).length + _ ≤ _ + a.1.p.next + 0; rw [st]; simp; omega
 intro f
 induction f with
 | zero =>
  refine ⟨fun σ b r h=>?_,fun σ b r h=>?_,fun σ b r h=>?_,fun σ b r h=>?_⟩
  ·rw [blockQ_zero] at h; cases h
  ·rw [stmtsQ_zero] at h; cases h
  ·rw [statementQ_zero] at h; cases h
  ·rw [branchQ_zero] at h; cases h
 | succ f ih =>
  obtain ⟨i1,i2,i3,i4⟩:=ih
  refine ⟨fun σ b r h=>?_,fun σ b r h=>?_,fun σ b r h hnf=>?_,fun σ b r h hnf hif=>?_⟩
  ·rw [blockQ_succ] at h
   obtain ⟨a,h1,h2⟩:=Option.map_eq_some_iff.1 h
   obtain ⟨g,st⟩:=i2 _ _ _ h1
   have g1:=setp_sg (σ:=σ) (nx_enter (L:=L) (a:=σ.p) (t:=⟨#[123]⟩) (by decide))
   have g3:=setp_sg (σ:=a.1) (nx_leave (L:=L) (a:=a.1.p) (t:=⟨#[125]⟩) (by decide))
   rw [← h2]
   have stick:Sticky σ (a.1.setp (leaveP L a.1.p ⟨#[125]⟩)):=fun hf=>leave_fails (by decide) (st (enter_fails (by decide) hf))
   refine ⟨?_,stick⟩
   unfold BG at g ⊢
   cases hf:σ.p.failed
   ·rw [if_neg (by decide)]
    refine ((g1.trans g).trans g3).weak ?_ ?_
    all_goals
     cases hl:(a.1.setp (leaveP L a.1.p ⟨#[125]⟩)).p.failed
     ·have h3:a.1.p.failed = false:=by
        cases hx:a.1.p.failed
        ·rfl
        ·have:=leave_fails (t:=⟨#[125]⟩) (by decide) hx
         rw [show (leaveP L a.1.p ⟨#[125]⟩).failed = false from hl] at this; cases this
      rw [h3]; split <;> simp
     ·split <;> (try split) <;> simp
   ·have hf2:(σ.setp (enterP L σ.p ⟨#[123]⟩)).p.failed = true:=enter_fails (by decide) hf
    rw [hf2] at g
    exact ((g1.trans g).trans g3).weak (by simp) (by simp)
  ·rw [stmtsQ_succ] at h
   split at h
   ·rename_i hs
    obtain ⟨a,h1,h2⟩:=bindS h
    have g1:=i3 _ _ _ h1 hs.1
    obtain ⟨g2,st⟩:=i2 _ _ _ h2
    refine ⟨?_,fun hf=>by rw [hs.1] at hf; cases hf⟩
    unfold BG at g1 g2 ⊢
    rw [hs.1] at g1 ⊢
    cases hf:a.1.p.failed
    ·rw [hf] at g1 g2
     exact (g1.trans g2).weak (by simp) (by simp)
    ·rw [hf] at g1 g2
     have hr:=st hf
     rw [hr]
     exact (g1.trans g2).weak (by simp) (by simp)
   ·rw [← Option.some.inj h]
    refine ⟨?_,fun hf=>hf⟩
    unfold BG
    exact (XG.refl L σ).sg.weak (Nat.zero_le _) (Nat.zero_le _)
  ·have aheadS:∀ {t:ByteArray},(σ.p.ahead L 0).t = t→σ.p.sees L t = true:=fun {t} e=>by unfold PSt.sees; exact decide_eq_true e
   unfold BG
   rw [hnf,if_neg (by decide)]
   rw [statementQ_succ] at h
   split at h
   ·rename_i e
    have:=i4 _ _ _ h hnf (aheadS e)
    unfold BG at this
    rw [hnf,if_neg (by decide)] at this
    exact this
   split at h
   ·rename_i _ e
    unfold loopQ at h
    obtain ⟨a,h1,h2⟩:=bindS h
    obtain ⟨c,h3,h4⟩:=Option.map_eq_some_iff.1 h2
    have gh:=head (s:={ newStm L σ b with kind:=3,vals:=a.2 }) (by decide) (aheadS e) h1
    obtain ⟨gb,st⟩:=i1 _ _ _ h3
    rw [← h4]
    unfold BG at gb
    refine (gh.trans gb).weak ?_ ?_
    all_goals (show 0 + (if (a.1.add { newStm L σ b with kind:=3,vals:=a.2 }).p.failed = true then 0 else if c.1.p.failed = true then 1 else 0) ≤ if c.1.p.failed = true then 1 else 0; split <;> simp)
   split at h
   ·obtain ⟨c,h1,h2⟩:=Option.map_eq_some_iff.1 h
    rw [← h2]; exact sg_assume h1
   split at h
   ·rename_i e
    rw [← Option.some.inj h]; exact sg_lock (by rw [e]; decide)
   split at h
   ·rename_i e
    rw [← Option.some.inj h]; exact sg_lock (by rw [e]; decide)
   split at h
   ·obtain ⟨c,h1,h2⟩:=Option.map_eq_some_iff.1 h
    rw [← h2]; exact sg_giveBack h1
   split at h
   ·rw [← Option.some.inj h]; exact sg_skip
   ·obtain ⟨c,h1,h2⟩:=Option.map_eq_some_iff.1 h
    rw [← h2]; exact sg_aoc h1
  ·unfold BG
   rw [hnf,if_neg (by decide)]
   rw [branchQ_succ] at h
   obtain ⟨a,h1,h2⟩:=bindS h
   obtain ⟨c,h3,h4⟩:=bindS h2
   have gh:=head (s:={ newStm L σ b with kind:=2,vals:=a.2 }) (by decide) hif h1
   obtain ⟨gb,st⟩:=i1 _ _ _ h3
   unfold BG at gb
   split at h4
   ·rename_i hs
    obtain ⟨d,h5,h6⟩:=Option.map_eq_some_iff.1 h4
    obtain ⟨gd,_⟩:=i1 _ _ _ h5
    unfold BG at gd
    have hcf:c.1.p.failed = false:=(sees_is (by decide) hs).1
    have gs:=setp_sg (σ:=c.1) (nx_step (L:=L) (by decide) hs)
    rw [hcf,if_neg (show ¬ false = true by decide)] at gb
    have hcf2:(c.1.setp c.1.p.step).p.failed = false:=hcf
    rw [hcf2,if_neg (by decide)] at gd
    rw [← h6]
    refine (((gh.trans gb).trans gs).trans gd).weak ?_ ?_
    all_goals simp
   ·rw [← Option.some.inj h4]
    refine (gh.trans gb).weak ?_ ?_
    all_goals (show 0 + (if (a.1.add { newStm L σ b with kind:=2,vals:=a.2 }).p.failed = true then 0 else if c.1.p.failed = true then 1 else 0) ≤ if c.1.p.failed = true then 1 else 0; split <;> simp)
theorem more_nx (L:List Tk) (r:Nat):∀ (f:Nat) (a b:PSt),moreP L r f a = some b→Nx L a b:=by
 intro f
 induction f with
 | zero=>intro a b h; rw [moreP] at h; cases h
 | succ f ih =>
  intro a b h
  rw [moreP] at h
  split at h
  ·rename_i hs
   exact ((nx_step (by decide) hs).trans nx_name).trans (ih _ _ h)
  ·rw [← Option.some.inj h]; exact Nx.refl _ _
theorem list_nx {L:List Tk} {f r:Nat} {t:ByteArray} {a b:PSt} (h0:¬ t = ⟨#[]⟩) (h:listP L f t r a = some b):Nx L a b:=by
 unfold listP at h
 split at h
 ·rename_i hs
  obtain ⟨c,h1,h2⟩:=Option.map_eq_some_iff.1 h
  rw [← h2]
  exact (((nx_step h0 hs).trans nx_name).trans (more_nx L r f _ _ h1)).trans (nx_take (by decide))
 ·rw [← Option.some.inj h]; exact Nx.refl _ _
theorem sg_procedure {L:List Tk} {f:Nat} {σ τ:QSt} (h:procedureQ L f σ = some τ):SG L 1 2 σ τ∧(σ.p.sees L ⟨#[112,114,111,99]⟩ = true→σ.p.next < τ.p.next):=by
 unfold procedureQ at h
 simp only at h
 obtain ⟨e,h1,h2⟩:=bindS h
 obtain ⟨r,h3,h4⟩:=Option.map_eq_some_iff.1 h2
 have n1:=nx_take (L:=L) (a:=σ.p) (t:=⟨#[112,114,111,99]⟩) (by decide)
 generalize ha:({ σ.p.take L ⟨#[112,114,111,99]⟩ with proc:=wrap64 ((σ.p.take L ⟨#[112,114,111,99]⟩).proc + 1) }:PSt) = a1 at h1
 have n1':Nx L σ.p a1:=by rw [← ha]; exact ⟨n1.1,n1.2⟩
 have n2:Nx L a1 (enterP L (a1.takeName L 2) ⟨#[40]⟩):=nx_name.trans (nx_enter (by decide))
 have n3:Nx L (enterP L (a1.takeName L 2) ⟨#[40]⟩) e:=by
  split at h1
  ·rw [← Option.some.inj h1]; exact Nx.refl _ _
  ·exact nx_name.trans (more_nx L 3 f _ _ h1)
 have n4:Nx L e (leaveP L e ⟨#[41]⟩):=nx_leave (by decide)
 have g1:=setp_sg (σ:=σ) (((n1'.trans n2).trans n3).trans n4)
 have g2:=((sg_blocks L f).1 _ _ _ h3).1
 unfold BG at g2
 rw [← h4]
 refine ⟨((g1.trans g2).trans (sg_add r.1 _)).weak ?_ ?_,fun hs=>?_⟩
 ·split
  ·omega
  ·split <;> omega
 ·split
  ·omega
  ·split <;> omega
 ·have e1:(σ.p.take L ⟨#[112,114,111,99]⟩).next = σ.p.next + 1:=by unfold PSt.take; rw [hs]; rfl
  have x1:a1.next = σ.p.next + 1:=by rw [← ha]; exact e1
  have x2:=((n2.trans n3).trans n4).1
  have x3:(leaveP L e ⟨#[41]⟩).next ≤ r.1.p.next:=g2.nx.1
  show σ.p.next < r.1.p.next
  omega
structure PG (L:List Tk) (c d:Nat) (σ τ:QSt):Prop where
 nx:Nx L σ.p τ.p
 gn:τ.nds.length + 4 * σ.p.next ≤ σ.nds.length + 4 * τ.p.next + c
 gs:τ.sts.length + 3 * σ.p.next ≤ σ.sts.length + 3 * τ.p.next + d
theorem PG.trans {L:List Tk} {c d c' d':Nat} {a b e:QSt} (h:PG L c d a b) (k:PG L c' d' b e):PG L (c + c') (d + d') a e :=
 ⟨h.nx.trans k.nx,by have:=h.gn; have:=k.gn; omega,by have:=h.gs; have:=k.gs; omega⟩
theorem SG.pg {L:List Tk} {c d:Nat} {a b:QSt} (h:SG L c d a b):PG L c d a b:=⟨h.nx,by have:=h.gn; have:=h.nx.1; omega,by have:=h.gs; have:=h.nx.1; omega⟩
theorem pg_procs (L:List Tk):∀ (f:Nat) (σ τ:QSt),procsQ L f σ = some τ→PG L 0 0 σ τ∧σ.nds.length ≤ τ.nds.length∧σ.sts.length ≤ τ.sts.length:=by
 intro f
 induction f with
 | zero=>intro σ τ h; rw [procsQ] at h; cases h
 | succ f ih =>
  intro σ τ h
  rw [procsQ] at h
  split at h
  ·rename_i hs
   obtain ⟨a,h1,h2⟩:=bindS h
   obtain ⟨g,hl⟩:=sg_procedure h1
   have hlt:=hl hs
   have gn:=g.gn
   have gs:=g.gs
   have k:PG L 0 0 σ a:=⟨g.nx,by omega,by omega⟩
   obtain ⟨k2,m1,m2⟩:=ih _ _ h2
   exact ⟨k.trans k2,Nat.le_trans g.mn m1,Nat.le_trans g.ms m2⟩
  ·rw [← Option.some.inj h]
   exact ⟨(XG.refl L σ).sg.pg,Nat.le_refl _,Nat.le_refl _⟩
theorem program_small {L:List Tk} (hL:L.length ≤ 500) {f:Nat} {σ τ:QSt} (h:programQ L f σ = some τ) (h0:σ.p.next = 0) (h1:σ.nds = []) (h2:σ.sts = []):τ.nds.length ≤ 2001∧τ.sts.length ≤ 1502:=by
 unfold programQ at h
 obtain ⟨a,k1,h⟩:=bindS h
 obtain ⟨b,k2,h⟩:=bindS h
 obtain ⟨c,k3,h⟩:=bindS h
 obtain ⟨d,k4,h⟩:=bindS h
 obtain ⟨e,k5,k6⟩:=Option.map_eq_some_iff.1 h
 have n:=(list_nx (by decide) k1).trans (list_nx (by decide) k2)
 have g:=((setp_sg (σ:=σ) n).trans (sg_procedure k3).1).pg.trans (pg_procs L f _ _ k4).1
 have gn:=g.gn
 have gs:=g.gs
 have nx:=g.nx.2 (by omega)
 rw [h0,h1] at gn
 rw [h0,h2] at gs
 have e1:τ.nds = d.nds:=by rw [← k6]; rfl
 have e2:τ.sts = d.sts:=by rw [← k6]; rfl
 rw [e1,e2]
 simp only [List.length_nil] at gn gs
 omega
end RR
