/- Statements with EXPRs of known worth: how they are read. No Go here. -/
import Derived.Test.YtmfcpbhdggonfaaGreatDoorMjAE
import Derived.Test.YtmfcpbhdggonfaaGreatDoorMjAC
namespace RR
open Go Go.RowKit
abbrev vOf (nds xs:List Nd):Int × Int:=((nds.length:Int),((nds.length + xs.length:Nat):Int) - 1)
theorem value_reads {E:List (ByteArray × Bool)} {ch:Bool} {K D:Nat} {ts:List ByteArray} {v a:Bool} (h:ExpOk E ch K D ts v a) {L:List Tk} {f n:Nat} {d P:Int} (ns:List Nm) (cs:List Cl) (sts:List Stm) (nds:List Nd) (l:List (Int × Int)) (hf:K ≤ f) (hL:Lies L n ts) (hu:tAt L (n + ts.length) = tAnd→False) (hu2:tAt L (n + ts.length) = tOr→False) (h0:0 ≤ d) (h6:d + D ≤ 6) :
    ∃ nn xs,valueQ L f (St n d P ns cs sts nds) l = some (St (n + ts.length) d P (ns ++ nn) cs sts (nds ++ xs),l ++ [vOf nds xs])∧Wrt E ch v a P ns.length nds.length nn xs∧nn.length ≤ ts.length∧xs.length ≤ 2 * ts.length:=by
 obtain ⟨nn,xs,e,w,l1,l2⟩:=h.rd L f n d P ns cs sts nds hf hL hu hu2 h0 h6
 refine ⟨nn,xs,?_,w,l1,l2⟩
 unfold valueQ
 rw [e]; rfl
def NoKey (t:ByteArray):Prop:=isNameB t = true∧(t = tIf→False)∧(t = tWhile→False)∧(t = tAssume→False)∧(t = tAcq→False)∧(t = tRel→False)∧(t = tRet→False)∧(t = tSkip→False)
theorem ret_reads {E:List (ByteArray × Bool)} {ch:Bool} {K D:Nat} {ts:List ByteArray} {v a:Bool} (h:ExpOk E ch K D ts v a) {L:List Tk} {f n:Nat} {d P:Int} (ns:List Nm) (cs:List Cl) (sts:List Stm) (nds:List Nd) (b:Blk) (hf:K ≤ f) (hL:Lies L n (tRet :: (ts ++ [tSemi]))) (h0:0 ≤ d) (h6:d + D ≤ 6) :
    ∃ nn xs,statementQ L (f + 1) (St n d P ns cs sts nds) b = some (St (n + ts.length + 2) d P (ns ++ nn) cs (sts ++ [⟨7,plAt L n,b,-1,-1,[vOf nds xs]⟩]) (nds ++ xs),0)∧Wrt E ch v a P ns.length nds.length nn xs∧nn.length ≤ ts.length∧xs.length ≤ 2 * ts.length:=by
 obtain ⟨k1,k2⟩:=lies_app.1 hL.2
 have kS:tAt L (n + 1 + ts.length) = tSemi:=k2.1
 obtain ⟨nn,xs,e,w,l1,l2⟩:=value_reads h (L:=L) (f:=f) (n:=n + 1) (d:=d) (P:=P) ns cs sts nds [] hf k1 (by rw [kS]; decide) (by rw [kS]; decide) h0 h6
 refine ⟨nn,xs,?_,w,l1,l2⟩
 have e0:((St n d P ns cs sts nds).p.ahead L 0).t = tRet:=ahead_is (σ:=⟨n,d,P,false,ns,cs⟩) rfl hL.1
 rw [statementQ_succ,e0,if_neg (by decide),if_neg (by decide),if_neg (by decide),if_neg (by decide),if_neg (by decide),if_pos rfl]
 unfold giveBackQ
 have tk:(St n d P ns cs sts nds).p.take L ⟨#[114,101,116,117,114,110]⟩ = ⟨n + 1,d,P,false,ns,cs⟩:=st_take hL.1
 rw [tk]
 have ns1:(⟨n + 1,d,P,false,ns,cs⟩:PSt).sees L ⟨#[59]⟩ = false:=by
  obtain ⟨t,r,rfl,_,h2,_⟩:=h.hd
  exact (st_sees _ k1.1).trans (decide_eq_false h2)
 rw [ns1,if_neg (by decide)]
 have e':valueQ L f ((St n d P ns cs sts nds).setp ⟨n + 1,d,P,false,ns,cs⟩) (newStm L (St n d P ns cs sts nds) b).vals = _:=e
 rw [e']
 have ts1:(St (n + 1 + ts.length) d P (ns ++ nn) cs sts (nds ++ xs)).p.take L ⟨#[59]⟩ = ⟨n + 1 + ts.length + 1,d,P,false,ns ++ nn,cs⟩:=st_take kS
 simp only [Option.map_some]
 rw [ts1]
 unfold newStm
 rw [show ((St n d P ns cs sts nds).p.ahead L 0).p = plAt L n from ahead_pl]
 simp only [QSt.setp,QSt.add,St,List.nil_append,Option.some.injEq,Prod.mk.injEq,QSt.mk.injEq,PSt.mk.injEq,and_true]
 omega
theorem no_call {E:List (ByteArray × Bool)} {ch:Bool} {K D:Nat} {ts:List ByteArray} {v a:Bool} (h:ExpOk E ch K D ts v a) {L:List Tk} {n:Nat} {d P:Int} {ns:List Nm} {cs:List Cl} (hL:Lies L n ts) (hu:tAt L (n + ts.length) = tOpen→False):(⟨n,d,P,false,ns,cs⟩:PSt).seesCall L = false:=by
 obtain ⟨t,r,rfl,_,_,h3⟩:=h.hd
 unfold PSt.seesCall
 rw [ahead_t rfl,ahead_t rfl]
 show (isNameB (tAt L n) && decide (tAt L (n + 1) = tOpen)) = false
 rw [hL.1]
 cases hn:isNameB t
 ·rfl
 ·rw [Bool.true_and]
  refine decide_eq_false ?_
  cases r with
  | nil=>exact hu
  | cons u q=>rw [hL.2.1]; exact h3 hn u q rfl
theorem aoc_at {L:List Tk} {f n:Nat} {d P:Int} {ns:List Nm} {cs:List Cl} {sts:List Stm} {nds:List Nd} {b:Blk} {t:ByteArray} (h1:tAt L n = t) (h2:tAt L (n + 1) = tEq) (ht:NoKey t) :
    statementQ L (f + 1) (St n d P ns cs sts nds) b = ((assignedQ L f (St (n + 2) d P (ns ++ [⟨t,plAt L n,4,P⟩]) cs sts nds) ⟨1,plAt L n,b,ns.length,-1,[]⟩).map fun r=>(r.1.setp (r.1.p.take L ⟨#[59]⟩)).add r.2).map fun c=>(c,0):=by
 obtain ⟨n0,n1,n2,n3,n4,n5,n6,n7⟩:=ht
 have e0:((St n d P ns cs sts nds).p.ahead L 0).t = t:=ahead_is (σ:=⟨n,d,P,false,ns,cs⟩) rfl h1
 rw [statementQ_succ,e0,if_neg n1,if_neg n2,if_neg n3,if_neg n4,if_neg n5,if_neg n6,if_neg n7]
 unfold aocQ
 have nc:(St n d P ns cs sts nds).p.seesCall L = false:=by
  unfold PSt.seesCall
  rw [ahead_t rfl,ahead_t rfl]
  show (isNameB (tAt L n) && decide (tAt L (n + 1) = tOpen)) = false
  rw [h2]
  rw [decide_eq_false (by decide),Bool.and_false]
 rw [nc,if_neg (by decide)]
 have tn:(St n d P ns cs sts nds).p.takeName L 4 = ⟨n + 1,d,P,false,ns ++ [⟨t,plAt L n,4,P⟩],cs⟩:=st_name 4 h1 n0
 have nx:nameIx L (St n d P ns cs sts nds).p = ns.length:=by
  unfold nameIx
  rw [e0,if_pos n0]; rfl
 rw [tn,show (⟨n + 1,d,P,false,ns ++ [⟨t,plAt L n,4,P⟩],cs⟩:PSt).take L ⟨#[61]⟩ = _ from st_take h2,nx]
 unfold newStm
 rw [show ((St n d P ns cs sts nds).p.ahead L 0).p = plAt L n from ahead_pl]
 rfl
theorem set_reads {E:List (ByteArray × Bool)} {ch:Bool} {K D:Nat} {ts:List ByteArray} {v a:Bool} (h:ExpOk E ch K D ts v a) {L:List Tk} {f n:Nat} {d P:Int} (ns:List Nm) (cs:List Cl) (sts:List Stm) (nds:List Nd) (b:Blk) {t:ByteArray} (ht:NoKey t) (hf:K ≤ f) (hL:Lies L n (t :: tEq :: (ts ++ [tSemi]))) (h0:0 ≤ d) (h6:d + D ≤ 6) :
    ∃ nn xs,statementQ L (f + 1) (St n d P ns cs sts nds) b = some (St (n + ts.length + 3) d P (ns ++ (⟨t,plAt L n,4,P⟩ :: nn)) cs (sts ++ [⟨0,plAt L n,b,ns.length,-1,[vOf nds xs]⟩]) (nds ++ xs),0)∧Wrt E ch v a P (ns.length + 1) nds.length nn xs∧nn.length ≤ ts.length∧xs.length ≤ 2 * ts.length:=by
 obtain ⟨k1,k2⟩:=lies_app.1 hL.2.2
 have kS:tAt L (n + 2 + ts.length) = tSemi:=k2.1
 obtain ⟨nn,xs,e,w,l1,l2⟩:=value_reads h (L:=L) (f:=f) (n:=n + 2) (d:=d) (P:=P) (ns ++ [⟨t,plAt L n,4,P⟩]) cs sts nds [] hf k1 (by rw [kS]; decide) (by rw [kS]; decide) h0 h6
 rw [List.length_append,List.length_singleton] at w
 refine ⟨nn,xs,?_,w,l1,l2⟩
 rw [aoc_at hL.1 hL.2.1 ht]
 unfold assignedQ
 rw [show (St (n + 2) d P (ns ++ [⟨t,plAt L n,4,P⟩]) cs sts nds).p.seesCall L = false from no_call h k1 (by rw [kS]; decide),if_neg (by decide)]
 have e':valueQ L f (St (n + 2) d P (ns ++ [⟨t,plAt L n,4,P⟩]) cs sts nds) (⟨1,plAt L n,b,ns.length,-1,[]⟩:Stm).vals = _:=e
 rw [e']
 have ts1:(St (n + 2 + ts.length) d P (ns ++ [⟨t,plAt L n,4,P⟩] ++ nn) cs sts (nds ++ xs)).p.take L ⟨#[59]⟩ = ⟨n + 2 + ts.length + 1,d,P,false,ns ++ [⟨t,plAt L n,4,P⟩] ++ nn,cs⟩:=st_take kS
 simp only [Option.map_some]
 rw [ts1]
 simp only [QSt.setp,QSt.add,St,List.nil_append,List.append_assoc,List.singleton_append,Option.some.injEq,Prod.mk.injEq,QSt.mk.injEq,PSt.mk.injEq,and_true]
 omega
theorem call_reads {E:List (ByteArray × Bool)} {ch:Bool} {K D:Nat} {ta tb:List ByteArray} {v a v2 a2:Bool} (h:ExpOk E ch K D ta v a) (h2:ExpOk E ch K D tb v2 a2) {L:List Tk} {f n:Nat} {d P:Int} (ns:List Nm) (cs:List Cl) (sts:List Stm) (nds:List Nd) (b:Blk) {t g:ByteArray} (ht:NoKey t) (hg:isNameB g = true) (hf:K + 2 ≤ f) (hL:Lies L n (t :: tEq :: g :: tOpen :: (ta ++ tComma :: (tb ++ [tShut,tSemi])))) (h0:0 ≤ d) (h6:d + D + 1 ≤ 6) :
    ∃ nn xs mm ys,statementQ L (f + 1) (St n d P ns cs sts nds) b = some (St (n + ta.length + tb.length + 7) d P (ns ++ (⟨t,plAt L n,4,P⟩ :: ⟨g,plAt L (n + 2),6,P⟩ :: (nn ++ mm))) (cs ++ [⟨g,plAt L (n + 2),2⟩]) (sts ++ [⟨1,plAt L n,b,ns.length,((ns.length + 1:Nat):Int),[vOf nds xs,vOf (nds ++ xs) ys]⟩]) (nds ++ (xs ++ ys)),0) ∧
     Wrt E ch v a P (ns.length + 2) nds.length nn xs∧Wrt E ch v2 a2 P (ns.length + 2 + nn.length) (nds.length + xs.length) mm ys∧nn.length ≤ ta.length∧xs.length ≤ 2 * ta.length∧mm.length ≤ tb.length∧ys.length ≤ 2 * tb.length:=by
 obtain ⟨k1,k2⟩:=lies_app.1 hL.2.2.2.2
 have kC:tAt L (n + 4 + ta.length) = tComma:=k2.1
 obtain ⟨k3,k4⟩:=lies_app.1 k2.2
 have kS:tAt L (n + 4 + ta.length + 1 + tb.length) = tShut:=k4.1
 have kT:tAt L (n + 4 + ta.length + 1 + tb.length + 1) = tSemi:=k4.2.1
 obtain ⟨f,rfl⟩:∃ q,f = q + 2:=⟨f - 2,by omega⟩
 obtain ⟨nn,xs,e,w,l1,l2⟩:=value_reads h (L:=L) (f:=f + 2) (n:=n + 4) (d:=d + 1) (P:=P) (ns ++ [⟨t,plAt L n,4,P⟩] ++ [⟨g,plAt L (n + 2),6,P⟩]) cs sts nds [] (by omega) k1 (by rw [kC]; decide) (by rw [kC]; decide) (by omega) (by omega)
 obtain ⟨mm,ys,e2,w2,l3,l4⟩:=value_reads h2 (L:=L) (f:=f + 1) (n:=n + 4 + ta.length + 1) (d:=d + 1) (P:=P) (ns ++ [⟨t,plAt L n,4,P⟩] ++ [⟨g,plAt L (n + 2),6,P⟩] ++ nn) cs sts (nds ++ xs) ([] ++ [vOf nds xs]) (by omega) k3 (by rw [kS]; decide) (by rw [kS]; decide) (by omega) (by omega)
 simp only [List.length_append,List.length_singleton] at w w2
 refine ⟨nn,xs,mm,ys,?_,w,w2,l1,l2,l3,l4⟩
 rw [aoc_at hL.1 hL.2.1 ht]
 unfold assignedQ
 have sc:(St (n + 2) d P (ns ++ [⟨t,plAt L n,4,P⟩]) cs sts nds).p.seesCall L = true:=by
  unfold PSt.seesCall
  rw [ahead_t rfl,ahead_t rfl]
  show (isNameB (tAt L (n + 2)) && decide (tAt L (n + 2 + 1) = tOpen)) = true
  rw [show tAt L (n + 2) = g from hL.2.2.1,show tAt L (n + 2 + 1) = tOpen from hL.2.2.2.1,hg,decide_eq_true rfl]; rfl
 rw [sc,if_pos rfl]
 unfold callQ
 have tn:(St (n + 2) d P (ns ++ [⟨t,plAt L n,4,P⟩]) cs sts nds).p.takeName L 6 = ⟨n + 2 + 1,d,P,false,ns ++ [⟨t,plAt L n,4,P⟩] ++ [⟨g,plAt L (n + 2),6,P⟩],cs⟩:=st_name 6 hL.2.2.1 hg
 have en:enterP L (⟨n + 2 + 1,d,P,false,ns ++ [⟨t,plAt L n,4,P⟩] ++ [⟨g,plAt L (n + 2),6,P⟩],cs⟩:PSt) ⟨#[40]⟩ = ⟨n + 2 + 1 + 1,d + 1,P,false,ns ++ [⟨t,plAt L n,4,P⟩] ++ [⟨g,plAt L (n + 2),6,P⟩],cs⟩:=st_enter hL.2.2.2.1 h0 (by omega)
 rw [tn,en]
 have ns1:(⟨n + 2 + 1 + 1,d + 1,P,false,ns ++ [⟨t,plAt L n,4,P⟩] ++ [⟨g,plAt L (n + 2),6,P⟩],cs⟩:PSt).sees L ⟨#[41]⟩ = false:=by
  obtain ⟨u,r,rfl,q1,_,_⟩:=h.hd
  exact (st_sees _ k1.1).trans (decide_eq_false q1)
 rw [ns1,if_neg (by decide)]
 have e':valueQ L (f + 2) ((St (n + 2) d P (ns ++ [⟨t,plAt L n,4,P⟩]) cs sts nds).setp ⟨n + 2 + 1 + 1,d + 1,P,false,ns ++ [⟨t,plAt L n,4,P⟩] ++ [⟨g,plAt L (n + 2),6,P⟩],cs⟩) (⟨1,plAt L n,b,ns.length,-1,[]⟩:Stm).vals = _:=e
 rw [e',Option.bind_some,valuesQ]
 have sC:(St (n + 4 + ta.length) (d + 1) P (ns ++ [⟨t,plAt L n,4,P⟩] ++ [⟨g,plAt L (n + 2),6,P⟩] ++ nn) cs sts (nds ++ xs)).p.sees L ⟨#[44]⟩ = true:=(st_sees _ kC).trans (decide_eq_true rfl)
 rw [sC,if_pos rfl]
 have e2':valueQ L (f + 1) ((St (n + 4 + ta.length) (d + 1) P (ns ++ [⟨t,plAt L n,4,P⟩] ++ [⟨g,plAt L (n + 2),6,P⟩] ++ nn) cs sts (nds ++ xs)).setp (St (n + 4 + ta.length) (d + 1) P (ns ++ [⟨t,plAt L n,4,P⟩] ++ [⟨g,plAt L (n + 2),6,P⟩] ++ nn) cs sts (nds ++ xs)).p.step) ([] ++ [vOf nds xs]) = _:=e2
 rw [e2',Option.bind_some,valuesQ]
 have sN:(St (n + 4 + ta.length + 1 + tb.length) (d + 1) P (ns ++ [⟨t,plAt L n,4,P⟩] ++ [⟨g,plAt L (n + 2),6,P⟩] ++ nn ++ mm) cs sts (nds ++ xs ++ ys)).p.sees L ⟨#[44]⟩ = false:=(st_sees _ kS).trans (decide_eq_false (by decide))
 simp only []
 rw [sN,if_neg (by decide)]
 simp only [Option.map_some]
 have lv:leaveP L (St (n + 4 + ta.length + 1 + tb.length) (d + 1) P (ns ++ [⟨t,plAt L n,4,P⟩] ++ [⟨g,plAt L (n + 2),6,P⟩] ++ nn ++ mm) cs sts (nds ++ xs ++ ys)).p ⟨#[41]⟩ = ⟨n + 4 + ta.length + 1 + tb.length + 1,d + 1 - 1,P,false,ns ++ [⟨t,plAt L n,4,P⟩] ++ [⟨g,plAt L (n + 2),6,P⟩] ++ nn ++ mm,cs⟩:=st_leave kS (by omega) (by omega)
 rw [lv]
 have ag:((St (n + 2) d P (ns ++ [⟨t,plAt L n,4,P⟩]) cs sts nds).p.ahead L 0).t = g:=ahead_is (σ:=⟨n + 2,d,P,false,ns ++ [⟨t,plAt L n,4,P⟩],cs⟩) rfl hL.2.2.1
 have ap:((St (n + 2) d P (ns ++ [⟨t,plAt L n,4,P⟩]) cs sts nds).p.ahead L 0).p = plAt L (n + 2):=ahead_pl
 have nx:nameIx L (St (n + 2) d P (ns ++ [⟨t,plAt L n,4,P⟩]) cs sts nds).p = ((ns.length + 1:Nat):Int):=by
  unfold nameIx
  rw [ag,if_pos hg]
  show (((ns ++ [_]).length:Nat):Int) = _
  rw [List.length_append]; rfl
 rw [ag,ap,nx]
 have ts1:∀ cs',(⟨n + 4 + ta.length + 1 + tb.length + 1,d + 1 - 1,P,false,ns ++ [⟨t,plAt L n,4,P⟩] ++ [⟨g,plAt L (n + 2),6,P⟩] ++ nn ++ mm,cs'⟩:PSt).take L ⟨#[59]⟩ = _:=fun cs'=>st_take kT
 simp only [QSt.setp]
 rw [ts1]
 simp only [QSt.add,St,List.nil_append,List.append_assoc,List.cons_append,List.length_cons,List.length_nil,Option.some.injEq,Prod.mk.injEq,QSt.mk.injEq,PSt.mk.injEq,and_true]
 omega
end RR
namespace RR
open Go Go.RowKit
abbrev tW:ByteArray:=⟨#[119]⟩
abbrev tZ:ByteArray:=⟨#[122]⟩
abbrev tF:ByteArray:=⟨#[102]⟩
abbrev tA:ByteArray:=⟨#[97]⟩
abbrev tBb:ByteArray:=⟨#[98]⟩
def wT (z p q r a b:List ByteArray):List ByteArray :=
 [tShared,tW,tComma,tX,tComma,tY,tComma,tZ,tSemi] ++ ([tProc,tF,tOpen,tA,tComma,tBb,tShut,tBO] ++ ((tRet :: (z ++ [tSemi])) ++ ([tBS,tProc,tP,tOpen,tShut,tBO] ++ ((tW :: tEq :: (p ++ [tSemi])) ++ ((tX :: tEq :: (q ++ [tSemi])) ++ ((tY :: tEq :: (r ++ [tSemi])) ++ ((tZ :: tEq :: tF :: tOpen :: (a ++ tComma :: (b ++ [tShut,tSemi]))) ++ [tBS,tThreads,tP,tSemi])))))))
theorem st_more {L:List Tk} {f n:Nat} {d P:Int} {ns:List Nm} {cs:List Cl} {t:ByteArray} (role:Nat) (h1:tAt L n = tComma) (h2:tAt L (n + 1) = t) (hn:isNameB t = true):moreP L role (f + 1) (⟨n,d,P,false,ns,cs⟩:PSt) = moreP L role f ⟨n + 2,d,P,false,ns ++ [⟨t,plAt L (n + 1),role,P⟩],cs⟩:=by
 rw [moreP,st_sees _ h1,decide_eq_true rfl,if_pos rfl]
 show moreP L role f ((⟨n + 1,d,P,false,ns,cs⟩:PSt).takeName L role) = _
 rw [st_name role h2 hn]
theorem st_nomore {L:List Tk} {f n:Nat} {d P:Int} {ns:List Nm} {cs:List Cl} {t:ByteArray} (role:Nat) (h1:tAt L n = t) (hn:t = tComma→False):moreP L role (f + 1) (⟨n,d,P,false,ns,cs⟩:PSt) = some ⟨n,d,P,false,ns,cs⟩:=by
 rw [moreP,st_sees _ h1,decide_eq_false hn]; rfl
theorem st_block {L:List Tk} {f n:Nat} {d P:Int} {ns:List Nm} {cs:List Cl} {sts:List Stm} {nds:List Nd} {b:Blk} (h:tAt L n = tBO) (h0:0 ≤ d) (h6:d < 6):blockQ L (f + 1) (St n d P ns cs sts nds) b = (stmtsQ L f (St (n + 1) (d + 1) P ns cs sts nds) b).map fun τ=>(τ.1.setp (leaveP L τ.1.p ⟨#[125]⟩),(τ.1.p.ahead L 0).p):=by
 rw [blockQ_succ,show enterP L (St n d P ns cs sts nds).p ⟨#[123]⟩ = _ from st_enter h h0 h6]; rfl
theorem st_stmts {L:List Tk} {f n:Nat} {d P:Int} {ns:List Nm} {cs:List Cl} {sts:List Stm} {nds:List Nd} {b:Blk} {t:ByteArray} {n':Nat} {ns':List Nm} {cs':List Cl} {sts':List Stm} {nds':List Nd} (h:tAt L n = t) (ht:t = tBS→False) (e:statementQ L f (St n d P ns cs sts nds) b = some (St n' d P ns' cs' sts' nds',0)):stmtsQ L (f + 1) (St n d P ns cs sts nds) b = stmtsQ L f (St n' d P ns' cs' sts' nds') b:=by
 rw [stmtsQ_succ,show (St n d P ns cs sts nds).p.sees L ⟨#[125]⟩ = false from (st_sees _ h).trans (decide_eq_false ht),if_pos ⟨rfl,rfl⟩,e]; rfl
theorem st_stop {L:List Tk} {f n:Nat} {d P:Int} {ns:List Nm} {cs:List Cl} {sts:List Stm} {nds:List Nd} {b:Blk} (h:tAt L n = tBS):stmtsQ L (f + 1) (St n d P ns cs sts nds) b = some (St n d P ns cs sts nds,0):=by
 rw [stmtsQ_succ,show (St n d P ns cs sts nds).p.sees L ⟨#[125]⟩ = true from (st_sees _ h).trans (decide_eq_true rfl),if_neg (by simp)]
theorem st_end {L:List Tk} {n:Nat} {d P:Int} {ns:List Nm} {cs:List Cl} {sts:List Stm} {nds:List Nd} (h:tAt L n = tBS) (h0:0 ≤ d) (h6:d ≤ 7):((St n d P ns cs sts nds).setp (leaveP L (St n d P ns cs sts nds).p ⟨#[125]⟩),((St n d P ns cs sts nds).p.ahead L 0).p) = (St (n + 1) (d - 1) P ns cs sts nds,plAt L n):=by
 rw [show leaveP L (St n d P ns cs sts nds).p ⟨#[125]⟩ = _ from st_leave h h0 h6,show ((St n d P ns cs sts nds).p.ahead L 0).p = _ from ahead_pl]; rfl
theorem nmW:isNameB tW = true:=by kernel_rfl
theorem nmX:isNameB tX = true:=by kernel_rfl
theorem nmY:isNameB tY = true:=by kernel_rfl
theorem nmZ:isNameB tZ = true:=by kernel_rfl
theorem nmF:isNameB tF = true:=by kernel_rfl
theorem nmA:isNameB tA = true:=by kernel_rfl
theorem nmB:isNameB tBb = true:=by kernel_rfl
theorem nmP:isNameB tP = true:=by kernel_rfl
def nm7 (L:List Tk):List Nm:=[⟨tW,plAt L 1,0,-1⟩,⟨tX,plAt L 3,0,-1⟩,⟨tY,plAt L 5,0,-1⟩,⟨tZ,plAt L 7,0,-1⟩,⟨tF,plAt L 10,2,0⟩,⟨tA,plAt L 12,3,0⟩,⟨tBb,plAt L 14,3,0⟩]
theorem shared_made {L:List Tk} (f:Nat) (h:Lies L 0 [tShared,tW,tComma,tX,tComma,tY,tComma,tZ,tSemi]):listP L (f + 4) ⟨#[115,104,97,114,101,100]⟩ 0 (⟨0,0,-1,false,[],[]⟩:PSt) = some ⟨9,0,-1,false,[⟨tW,plAt L 1,0,-1⟩,⟨tX,plAt L 3,0,-1⟩,⟨tY,plAt L 5,0,-1⟩,⟨tZ,plAt L 7,0,-1⟩],[]⟩:=by
 obtain ⟨h0,h1,h2,h3,h4,h5,h6,h7,h8,_⟩:=h
 unfold listP
 rw [st_sees _ h0,decide_eq_true rfl,if_pos rfl]
 show (moreP L 0 (f + 4) ((⟨1,0,-1,false,[],[]⟩:PSt).takeName L 0)).map _ = _
 rw [st_name 0 h1 nmW,st_more 0 h2 h3 nmX,st_more 0 h4 h5 nmY,st_more 0 h6 h7 nmZ,st_nomore 0 h8 (by decide),Option.map_some,st_take h8]
 rfl
theorem proc_f {E:List (ByteArray × Bool)} {ch:Bool} {z:List ByteArray} {v a:Bool} (h:ExpOk E ch 21 1 z v a) {L:List Tk} (f:Nat) (hf:40 ≤ f) (h1:Lies L 9 ([tProc,tF,tOpen,tA,tComma,tBb,tShut,tBO] ++ ((tRet :: (z ++ [tSemi])) ++ [tBS]))) :
    ∃ nz xz,procedureQ L f (St 9 0 (-1) [⟨tW,plAt L 1,0,-1⟩,⟨tX,plAt L 3,0,-1⟩,⟨tY,plAt L 5,0,-1⟩,⟨tZ,plAt L 7,0,-1⟩] [] [] []) = some (St (z.length + 20) 0 0 (nm7 L ++ nz) [] [⟨7,plAt L 17,⟨0,-1,false⟩,-1,-1,[vOf [] xz]⟩,⟨9,plAt L (z.length + 19),⟨0,-1,false⟩,-1,-1,[]⟩] xz)∧Wrt E ch v a 0 7 0 nz xz∧nz.length ≤ z.length∧xz.length ≤ 2 * z.length:=by
 obtain ⟨k1,k2⟩:=lies_app.1 h1
 obtain ⟨k3,k4⟩:=lies_app.1 k2
 obtain ⟨q0,q1,q2,q3,q4,q5,q6,q7,_⟩:=k1
 have k3:Lies L 17 (tRet :: (z ++ [tSemi])):=k3
 have kE:tAt L (17 + z.length + 2) = tBS:=by
  have:=k4.1
  rw [← this]; congr 1; simp only [List.length_cons,List.length_append,List.length_nil]; omega
 obtain ⟨f,rfl⟩:∃ g,f = g + 6:=⟨f - 6,by omega⟩
 obtain ⟨nz,xz,e,w,l1,l2⟩:=ret_reads h (L:=L) (f:=f + 3) (n:=17) (d:=1) (P:=0) (nm7 L) [] [] [] ⟨0,-1,false⟩ (by omega) k3 (by decide) (by decide)
 refine ⟨nz,xz,?_,w,l1,l2⟩
 unfold procedureQ
 simp only []
 rw [show (St 9 0 (-1) [⟨tW,plAt L 1,0,-1⟩,⟨tX,plAt L 3,0,-1⟩,⟨tY,plAt L 5,0,-1⟩,⟨tZ,plAt L 7,0,-1⟩] [] [] []).p.take L ⟨#[112,114,111,99]⟩ = _ from st_take q0]
 have w0:wrap64 ((⟨9 + 1,0,-1,false,[⟨tW,plAt L 1,0,-1⟩,⟨tX,plAt L 3,0,-1⟩,⟨tY,plAt L 5,0,-1⟩,⟨tZ,plAt L 7,0,-1⟩],[]⟩:PSt).proc + 1) = 0:=wrap_hd (z:=-1 + 1) (by decide) (by decide)
 rw [w0]
 show ((if (enterP L ((⟨10,0,0,false,[⟨tW,plAt L 1,0,-1⟩,⟨tX,plAt L 3,0,-1⟩,⟨tY,plAt L 5,0,-1⟩,⟨tZ,plAt L 7,0,-1⟩],[]⟩:PSt).takeName L 2) ⟨#[40]⟩).sees L ⟨#[41]⟩ = true then some (enterP L ((⟨10,0,0,false,[⟨tW,plAt L 1,0,-1⟩,⟨tX,plAt L 3,0,-1⟩,⟨tY,plAt L 5,0,-1⟩,⟨tZ,plAt L 7,0,-1⟩],[]⟩:PSt).takeName L 2) ⟨#[40]⟩) else moreP L 3 (f + 6) ((enterP L ((⟨10,0,0,false,[⟨tW,plAt L 1,0,-1⟩,⟨tX,plAt L 3,0,-1⟩,⟨tY,plAt L 5,0,-1⟩,⟨tZ,plAt L 7,0,-1⟩],[]⟩:PSt).takeName L 2) ⟨#[40]⟩).takeName L 3)).bind _) = _
 rw [st_name 2 q1 nmF,st_enter q2 (by decide) (by decide),st_sees _ q3,decide_eq_false (by decide),if_neg (by decide),st_name 3 q3 nmA,st_more 3 q4 q5 nmB,st_nomore 3 q6 (by decide),Option.bind_some,st_leave q6 (by decide) (by decide)]
 show ((blockQ L (f + 6) (St 16 0 0 (nm7 L) [] [] []) ⟨0,-1,false⟩).map _) = _
 rw [st_block q7 (by decide) (by decide)]
 show (((stmtsQ L (f + 5) (St 17 1 0 (nm7 L) [] [] []) ⟨0,-1,false⟩).map _).map _) = _
 rw [st_stmts k3.1 (by decide) e,st_stop kE,Option.map_some,st_end kE (by decide) (by decide),Option.map_some]
 simp only [QSt.add,St,List.nil_append,List.cons_append,Option.some.injEq,QSt.mk.injEq,PSt.mk.injEq,and_true]
 have e1:17 + z.length + 2 = z.length + 19:=by omega
 rw [e1]
 exact ⟨⟨rfl,rfl⟩,rfl⟩
theorem noKey_of {t:ByteArray} (h:t = tW ∨ t = tX ∨ t = tY ∨ t = tZ):NoKey t:=by
 rcases h with h | h | h | h <;> (subst h; exact ⟨by kernel_rfl,by decide,by decide,by decide,by decide,by decide,by decide,by decide⟩)
structure Mk (L:List Tk) (lp lq lr la lb n:Nat) (ns:List Nm) (nds:List Nd) (np nq nr na nb:List Nm) (xp xq xr xa xb:List Nd) (N1 N2 N3 N4:List Nm) (X1 X2 X3:List Nd) (S:List Stm):Prop where
 e1:N1 = ns ++ (⟨tW,plAt L n,4,1⟩ :: np)
 e2:N2 = N1 ++ (⟨tX,plAt L (n + lp + 3),4,1⟩ :: nq)
 e3:N3 = N2 ++ (⟨tY,plAt L (n + lp + lq + 6),4,1⟩ :: nr)
 e4:N4 = N3 ++ (⟨tZ,plAt L (n + lp + lq + lr + 9),4,1⟩ :: ⟨tF,plAt L (n + lp + lq + lr + 11),6,1⟩ :: (na ++ nb))
 f1:X1 = nds ++ xp
 f2:X2 = X1 ++ xq
 f3:X3 = X2 ++ xr
 s:S = [⟨0,plAt L n,⟨1,-1,false⟩,ns.length,-1,[vOf nds xp]⟩,⟨0,plAt L (n + lp + 3),⟨1,-1,false⟩,N1.length,-1,[vOf X1 xq]⟩,⟨0,plAt L (n + lp + lq + 6),⟨1,-1,false⟩,N2.length,-1,[vOf X2 xr]⟩,⟨1,plAt L (n + lp + lq + lr + 9),⟨1,-1,false⟩,N3.length,((N3.length + 1:Nat):Int),[vOf X3 xa,vOf (X3 ++ xa) xb]⟩,⟨9,plAt L (n + lp + lq + lr + la + lb + 16),⟨1,-1,false⟩,-1,-1,[]⟩]
theorem proc_p {Ep Eq Er Ea:List (ByteArray × Bool)} {ch:Bool} {p q r a b:List ByteArray} {vp ap vq aq vr ar va aa vb ab:Bool} (hp:ExpOk Ep ch 21 1 p vp ap) (hq:ExpOk Eq ch 21 1 q vq aq) (hr:ExpOk Er ch 21 1 r vr ar) (ha:ExpOk Ea ch 21 1 a va aa) (hb:ExpOk Ea ch 21 1 b vb ab) {L:List Tk} (f n:Nat) (hf:50 ≤ f) (ns N0:List Nm) (hN0:N0 = ns ++ [⟨tP,plAt L (n + 1),2,1⟩]) (cs:List Cl) (sts:List Stm) (nds:List Nd)
    (h1:Lies L n ([tProc,tP,tOpen,tShut,tBO] ++ ((tW :: tEq :: (p ++ [tSemi])) ++ ((tX :: tEq :: (q ++ [tSemi])) ++ ((tY :: tEq :: (r ++ [tSemi])) ++ ((tZ :: tEq :: tF :: tOpen :: (a ++ tComma :: (b ++ [tShut,tSemi]))) ++ [tBS])))))) :
    ∃ np nq nr na nb xp xq xr xa xb N1 N2 N3 N4 X1 X2 X3 S,procedureQ L f (St n 0 0 ns cs sts nds) = some (St (n + 5 + p.length + q.length + r.length + a.length + b.length + 17) 0 1 N4 (cs ++ [⟨tF,plAt L (n + 5 + p.length + q.length + r.length + 11),2⟩]) (sts ++ S) (X3 ++ (xa ++ xb))) ∧
     Mk L p.length q.length r.length a.length b.length (n + 5) N0 nds np nq nr na nb xp xq xr xa xb N1 N2 N3 N4 X1 X2 X3 S ∧
     Wrt Ep ch vp ap 1 (N0.length + 1) nds.length np xp∧Wrt Eq ch vq aq 1 (N1.length + 1) X1.length nq xq∧Wrt Er ch vr ar 1 (N2.length + 1) X2.length nr xr∧Wrt Ea ch va aa 1 (N3.length + 2) X3.length na xa∧Wrt Ea ch vb ab 1 (N3.length + 2 + na.length) (X3.length + xa.length) nb xb ∧
     np.length + nq.length + nr.length + na.length + nb.length ≤ p.length + q.length + r.length + a.length + b.length∧xp.length + xq.length + xr.length + xa.length + xb.length ≤ 2 * (p.length + q.length + r.length + a.length + b.length):=by
 obtain ⟨k1,h1⟩:=lies_app.1 h1
 obtain ⟨k2,h1⟩:=lies_app.1 h1
 obtain ⟨k3,h1⟩:=lies_app.1 h1
 obtain ⟨k4,h1⟩:=lies_app.1 h1
 obtain ⟨k5,k6⟩:=lies_app.1 h1
 obtain ⟨q0,q1,q2,q3,q4,_⟩:=k1
 simp only [List.length_cons,List.length_append,List.length_nil] at k2 k3 k4 k5 k6
 have k2:Lies L (n + 5) (tW :: tEq :: (p ++ [tSemi])):=k2
 rw [show n + (0 + 1 + 1 + 1 + 1 + 1) + (p.length + (0 + 1) + 1 + 1) = n + 5 + p.length + 3 by omega] at k3 k4 k5 k6
 rw [show n + 5 + p.length + 3 + (q.length + (0 + 1) + 1 + 1) = n + 5 + p.length + q.length + 6 by omega] at k4 k5 k6
 rw [show n + 5 + p.length + q.length + 6 + (r.length + (0 + 1) + 1 + 1) = n + 5 + p.length + q.length + r.length + 9 by omega] at k5 k6
 have kE:tAt L (n + 5 + p.length + q.length + r.length + a.length + b.length + 16) = tBS:=by
  have:=k6.1
  rw [← this]; congr 1; omega
 clear k6
 obtain ⟨f,rfl⟩:∃ g,f = g + 10:=⟨f - 10,by omega⟩
 obtain ⟨np,xp,e2,w2,l1,l2⟩:=set_reads hp (L:=L) (f:=f + 7) (n:=n + 5) (d:=1) (P:=1) N0 cs sts nds ⟨1,-1,false⟩ (noKey_of (.inl rfl)) (by omega) k2 (by decide) (by decide)
 obtain ⟨N1,hN1⟩:∃ N:List Nm,N = N0 ++ (⟨tW,plAt L (n + 5),4,1⟩ :: np):=⟨_,rfl⟩
 obtain ⟨X1,hX1⟩:∃ X:List Nd,X = nds ++ xp:=⟨_,rfl⟩
 rw [← hN1,← hX1] at e2
 obtain ⟨nq,xq,e3,w3,l3,l4⟩:=set_reads hq (L:=L) (f:=f + 6) (n:=n + 5 + p.length + 3) (d:=1) (P:=1) N1 cs (sts ++ [⟨0,plAt L (n + 5),⟨1,-1,false⟩,N0.length,-1,[vOf nds xp]⟩]) X1 ⟨1,-1,false⟩ (noKey_of (.inr (.inl rfl))) (by omega) k3 (by decide) (by decide)
 obtain ⟨N2,hN2⟩:∃ N:List Nm,N = N1 ++ (⟨tX,plAt L (n + 5 + p.length + 3),4,1⟩ :: nq):=⟨_,rfl⟩
 obtain ⟨X2,hX2⟩:∃ X:List Nd,X = X1 ++ xq:=⟨_,rfl⟩
 rw [← hN2,← hX2,show n + 5 + p.length + 3 + q.length + 3 = n + 5 + p.length + q.length + 6 by omega] at e3
 obtain ⟨nr,xr,e4,w4,l5,l6⟩:=set_reads hr (L:=L) (f:=f + 5) (n:=n + 5 + p.length + q.length + 6) (d:=1) (P:=1) N2 cs (sts ++ [⟨0,plAt L (n + 5),⟨1,-1,false⟩,N0.length,-1,[vOf nds xp]⟩] ++ [⟨0,plAt L (n + 5 + p.length + 3),⟨1,-1,false⟩,N1.length,-1,[vOf X1 xq]⟩]) X2 ⟨1,-1,false⟩ (noKey_of (.inr (.inr (.inl rfl)))) (by omega) k4 (by decide) (by decide)
 obtain ⟨N3,hN3⟩:∃ N:List Nm,N = N2 ++ (⟨tY,plAt L (n + 5 + p.length + q.length + 6),4,1⟩ :: nr):=⟨_,rfl⟩
 obtain ⟨X3,hX3⟩:∃ X:List Nd,X = X2 ++ xr:=⟨_,rfl⟩
 rw [← hN3,← hX3,show n + 5 + p.length + q.length + 6 + r.length + 3 = n + 5 + p.length + q.length + r.length + 9 by omega] at e4
 obtain ⟨na,xa,nb,xb,e5,w5,w6,l7,l8,l9,l10⟩:=call_reads ha hb (L:=L) (f:=f + 4) (n:=n + 5 + p.length + q.length + r.length + 9) (d:=1) (P:=1) N3 cs (sts ++ [⟨0,plAt L (n + 5),⟨1,-1,false⟩,N0.length,-1,[vOf nds xp]⟩] ++ [⟨0,plAt L (n + 5 + p.length + 3),⟨1,-1,false⟩,N1.length,-1,[vOf X1 xq]⟩] ++ [⟨0,plAt L (n + 5 + p.length + q.length + 6),⟨1,-1,false⟩,N2.length,-1,[vOf X2 xr]⟩]) X3 ⟨1,-1,false⟩ (noKey_of (.inr (.inr (.inr rfl)))) nmF (by omega) k5 (by decide) (by decide)
 rw [show n + 5 + p.length + q.length + r.length + 9 + a.length + b.length + 7 = n + 5 + p.length + q.length + r.length + a.length + b.length + 16 by omega,show n + 5 + p.length + q.length + r.length + 9 + 2 = n + 5 + p.length + q.length + r.length + 11 by omega] at e5
 refine ⟨np,nq,nr,na,nb,xp,xq,xr,xa,xb,N1,N2,N3,_,X1,X2,X3,_,?_,⟨hN1,hN2,hN3,rfl,hX1,hX2,hX3,rfl⟩,w2,w3,w4,w5,w6,by omega,by omega⟩
 unfold procedureQ
 simp only []
 rw [show (St n 0 0 ns cs sts nds).p.take L ⟨#[112,114,111,99]⟩ = _ from st_take q0]
 have w0:wrap64 ((⟨n + 1,0,0,false,ns,cs⟩:PSt).proc + 1) = 1:=wrap_hd (z:=0 + 1) (by decide) (by decide)
 rw [w0]
 show ((if (enterP L ((⟨n + 1,0,1,false,ns,cs⟩:PSt).takeName L 2) ⟨#[40]⟩).sees L ⟨#[41]⟩ = true then some (enterP L ((⟨n + 1,0,1,false,ns,cs⟩:PSt).takeName L 2) ⟨#[40]⟩) else moreP L 3 (f + 10) ((enterP L ((⟨n + 1,0,1,false,ns,cs⟩:PSt).takeName L 2) ⟨#[40]⟩).takeName L 3)).bind _) = _
 rw [st_name 2 q1 nmP,st_enter q2 (by decide) (by decide),st_sees _ q3,decide_eq_true rfl,if_pos rfl,Option.bind_some,st_leave q3 (by decide) (by decide),← hN0]
 show ((blockQ L (f + 10) (St (n + 1 + 1 + 1 + 1) (0 + 1 - 1) 1 N0 cs sts nds) ⟨1,-1,false⟩).map _) = _
 rw [st_block q4 (by decide) (by decide)]
 show (((stmtsQ L (f + 9) (St (n + 5) 1 1 N0 cs sts nds) ⟨1,-1,false⟩).map _).map _) = _
 rw [st_stmts k2.1 (by decide) e2,st_stmts k3.1 (by decide) e3,st_stmts k4.1 (by decide) e4,st_stmts k5.1 (by decide) e5,st_stop kE,Option.map_some,st_end kE (by decide) (by decide),Option.map_some]
 simp only [QSt.add,St,List.append_assoc,List.cons_append,List.nil_append,Option.some.injEq,QSt.mk.injEq,PSt.mk.injEq,and_true]
 exact ⟨trivial,rfl⟩
theorem lies_map {L:List Tk} {ts:List ByteArray} (h:L.map Tk.t = ts):Lies L 0 ts:=lies_drop _ 0 fun j=>by
 rw [Nat.zero_add,← h]
 by_cases hj:j < L.length
 ·rw [tAt_in hj,List.getElem?_eq_getElem (by rw [List.length_map]; exact hj),Option.getD_some,List.getElem_map]
 ·rw [tAt_out hj,List.getElem?_eq_none (by rw [List.length_map]; omega)]; rfl
theorem prog_made {Ez Ep Eq Er Ea:List (ByteArray × Bool)} {ch:Bool} {z p q r a b:List ByteArray} {vz az vp ap vq aq vr ar va aa vb ab:Bool} (hz:ExpOk Ez ch 21 1 z vz az) (hp:ExpOk Ep ch 21 1 p vp ap) (hq:ExpOk Eq ch 21 1 q vq aq) (hr:ExpOk Er ch 21 1 r vr ar) (ha:ExpOk Ea ch 21 1 a va aa) (hb:ExpOk Ea ch 21 1 b vb ab) {L:List Tk} (hM:L.map Tk.t = wT z p q r a b) :
    ∃ nz xz np nq nr na nb xp xq xr xa xb N0 N1 N2 N3 N4 X1 X2 X3 S,programQ L 600 ⟨⟨0,0,-1,false,[],[]⟩,[],[]⟩ = some (St (z.length + p.length + q.length + r.length + a.length + b.length + 45) 0 1 (N4 ++ [⟨tP,plAt L (z.length + p.length + q.length + r.length + a.length + b.length + 43),7,1⟩]) [⟨tF,plAt L (z.length + 25 + p.length + q.length + r.length + 11),2⟩] ([⟨7,plAt L 17,⟨0,-1,false⟩,-1,-1,[vOf [] xz]⟩,⟨9,plAt L (z.length + 19),⟨0,-1,false⟩,-1,-1,[]⟩] ++ S) (X3 ++ (xa ++ xb))) ∧
     N0 = nm7 L ++ nz ++ [⟨tP,plAt L (z.length + 21),2,1⟩]∧Mk L p.length q.length r.length a.length b.length (z.length + 25) N0 xz np nq nr na nb xp xq xr xa xb N1 N2 N3 N4 X1 X2 X3 S ∧
     Wrt Ez ch vz az 0 7 0 nz xz∧Wrt Ep ch vp ap 1 (N0.length + 1) xz.length np xp∧Wrt Eq ch vq aq 1 (N1.length + 1) X1.length nq xq∧Wrt Er ch vr ar 1 (N2.length + 1) X2.length nr xr∧Wrt Ea ch va aa 1 (N3.length + 2) X3.length na xa∧Wrt Ea ch vb ab 1 (N3.length + 2 + na.length) (X3.length + xa.length) nb xb ∧
     nz.length + (np.length + nq.length + nr.length + na.length + nb.length) ≤ z.length + (p.length + q.length + r.length + a.length + b.length)∧xz.length + (xp.length + xq.length + xr.length + xa.length + xb.length) ≤ 2 * (z.length + (p.length + q.length + r.length + a.length + b.length)):=by
 have hl:L.length = z.length + p.length + q.length + r.length + a.length + b.length + 45:=by
  rw [← List.length_map (f:=Tk.t),hM]
  unfold wT
  simp only [List.length_append,List.length_cons,List.length_nil]
  omega
 have hL:=lies_map hM
 unfold wT at hL
 obtain ⟨k1,hL⟩:=lies_app.1 hL
 have hL:Lies L 9 _:=hL
 have hf:Lies L 9 ([tProc,tF,tOpen,tA,tComma,tBb,tShut,tBO] ++ ((tRet :: (z ++ [tSemi])) ++ [tBS])):=by
  obtain ⟨c1,c2⟩:=lies_app.1 hL
  obtain ⟨c3,c4⟩:=lies_app.1 c2
  exact lies_app.2 ⟨c1,lies_app.2 ⟨c3,c4.1,trivial⟩⟩
 obtain ⟨nz,xz,e1,w1,l1,l2⟩:=proc_f hz (L:=L) 600 (by decide) hf
 obtain ⟨c1,c2⟩:=lies_app.1 hL
 obtain ⟨c3,c4⟩:=lies_app.1 c2
 have c5:=c4.2
 simp only [List.length_cons,List.length_append,List.length_nil] at c5
 rw [show 9 + (0 + 1 + 1 + 1 + 1 + 1 + 1 + 1 + 1) + (z.length + (0 + 1) + 1) + 1 = z.length + 20 by omega] at c5
 have c5:Lies L (z.length + 20) ([tProc,tP,tOpen,tShut,tBO] ++ ((tW :: tEq :: (p ++ [tSemi])) ++ ((tX :: tEq :: (q ++ [tSemi])) ++ ((tY :: tEq :: (r ++ [tSemi])) ++ ((tZ :: tEq :: tF :: tOpen :: (a ++ tComma :: (b ++ [tShut,tSemi]))) ++ ([tBS] ++ [tThreads,tP,tSemi])))))):=c5
 obtain ⟨d1,d2⟩:=lies_app.1 c5
 obtain ⟨d3,d4⟩:=lies_app.1 d2
 obtain ⟨d5,d6⟩:=lies_app.1 d4
 obtain ⟨d7,d8⟩:=lies_app.1 d6
 obtain ⟨d9,dA⟩:=lies_app.1 d8
 obtain ⟨dB,dC⟩:=lies_app.1 dA
 obtain ⟨N0,hN0⟩:∃ N:List Nm,N = nm7 L ++ nz ++ [⟨tP,plAt L (z.length + 20 + 1),2,1⟩]:=⟨_,rfl⟩
 obtain ⟨np,nq,nr,na,nb,xp,xq,xr,xa,xb,N1,N2,N3,N4,X1,X2,X3,S,e2,mk,w2,w3,w4,w5,w6,l3,l4⟩:=proc_p hp hq hr ha hb (L:=L) 599 (z.length + 20) (by decide) (nm7 L ++ nz) N0 hN0 [] [⟨7,plAt L 17,⟨0,-1,false⟩,-1,-1,[vOf [] xz]⟩,⟨9,plAt L (z.length + 19),⟨0,-1,false⟩,-1,-1,[]⟩] xz (lies_app.2 ⟨d1,lies_app.2 ⟨d3,lies_app.2 ⟨d5,lies_app.2 ⟨d7,lies_app.2 ⟨d9,dB⟩⟩⟩⟩⟩)
 have hnx:z.length + 20 + 5 + p.length + q.length + r.length + a.length + b.length + 17 = z.length + p.length + q.length + r.length + a.length + b.length + 42:=by omega
 rw [hnx] at e2
 have dC:Lies L (z.length + p.length + q.length + r.length + a.length + b.length + 42) [tThreads,tP,tSemi]:=by
  simp only [List.length_cons,List.length_append,List.length_nil] at dC
  rw [show z.length + 20 + (0 + 1 + 1 + 1 + 1 + 1) + (p.length + (0 + 1) + 1 + 1) + (q.length + (0 + 1) + 1 + 1) + (r.length + (0 + 1) + 1 + 1) + (a.length + (b.length + (0 + 1 + 1) + 1) + 1 + 1 + 1 + 1) + (0 + 1) = z.length + p.length + q.length + r.length + a.length + b.length + 42 by omega] at dC
  exact dC
 obtain ⟨t0,t1,t2,_⟩:=dC
 generalize hM2:z.length + p.length + q.length + r.length + a.length + b.length = m at *
 refine ⟨nz,xz,np,nq,nr,na,nb,xp,xq,xr,xa,xb,N0,N1,N2,N3,N4,X1,X2,X3,S,?_,hN0,mk,w1,w2,w3,w4,w5,w6,by omega,by omega⟩
 unfold programQ
 have s0:listP L 600 ⟨#[115,104,97,114,101,100]⟩ 0 (⟨⟨0,0,-1,false,[],[]⟩,[],[]⟩:QSt).p = _:=shared_made 596 k1
 rw [s0,Option.bind_some]
 have s1:listP L 600 ⟨#[108,111,99,107,115]⟩ 1 (⟨9,0,-1,false,[⟨tW,plAt L 1,0,-1⟩,⟨tX,plAt L 3,0,-1⟩,⟨tY,plAt L 5,0,-1⟩,⟨tZ,plAt L 7,0,-1⟩],[]⟩:PSt) = some ⟨9,0,-1,false,[⟨tW,plAt L 1,0,-1⟩,⟨tX,plAt L 3,0,-1⟩,⟨tY,plAt L 5,0,-1⟩,⟨tZ,plAt L 7,0,-1⟩],[]⟩:=by
  unfold listP
  rw [st_sees _ c1.1,decide_eq_false (by decide)]; rfl
 rw [s1,Option.bind_some]
 show ((procedureQ L 600 (St 9 0 (-1) [⟨tW,plAt L 1,0,-1⟩,⟨tX,plAt L 3,0,-1⟩,⟨tY,plAt L 5,0,-1⟩,⟨tZ,plAt L 7,0,-1⟩] [] [] [])).bind _) = _
 rw [e1,Option.bind_some,procsQ]
 rw [show (St (z.length + 20) 0 0 (nm7 L ++ nz) [] [⟨7,plAt L 17,⟨0,-1,false⟩,-1,-1,[vOf [] xz]⟩,⟨9,plAt L (z.length + 19),⟨0,-1,false⟩,-1,-1,[]⟩] xz).p.sees L ⟨#[112,114,111,99]⟩ = true from (st_sees _ d1.1).trans (decide_eq_true rfl),if_pos rfl,e2,Option.bind_some,procsQ]
 rw [show ∀ ns cs sts nds,(St (m + 42) 0 1 ns cs sts nds).p.sees L ⟨#[112,114,111,99]⟩ = false from fun ns cs sts nds=>(st_sees _ t0).trans (decide_eq_false (by decide)),if_neg (by decide),Option.bind_some]
 rw [show ∀ ns cs sts nds,(St (m + 42) 0 1 ns cs sts nds).p.take L ⟨#[116,104,114,101,97,100,115]⟩ = _ from fun ns cs sts nds=>st_take t0,st_name 7 t1 nmP]
 rw [show (600:Nat) = 599 + 1 from rfl,st_nomore 7 t2 (by decide),Option.map_some,st_take t2]
 have te:∀ ns cs,takeEndP L (⟨m + 42 + 1 + 1 + 1,0,1,false,ns,cs⟩:PSt) = ⟨m + 45,0,1,false,ns,cs⟩:=fun ns cs=>by
  unfold takeEndP
  rw [if_neg (by show ¬ (m + 42 + 1 + 1 + 1 < L.length); omega)]
 rw [te]
 rfl
end RR
namespace RR
open Go Go.RowKit
theorem many_skip:∀ (us r:List Nm) (c:Cts),(∀ x ∈ us,3 < x.role∧x.role < 7)→c.too = false→manyF2 (us ++ r) c = manyF2 r c
 | [],_,_,_,_=>rfl
 | u :: us,r,c,h,hc=>by
  have e:c.add u.role = c:=by
   have:=h u (List.mem_cons_self ..)
   unfold Cts.add
   rw [if_neg (by omega),if_neg (by omega),if_neg (by omega),if_neg (by omega),if_neg (by omega)]
  show (if (c.add u.role).too then some u.at_ else manyF2 (us ++ r) (c.add u.role)) = _
  rw [e,hc]
  exact many_skip us r c (fun x hx=>h x (List.mem_cons_of_mem _ hx)) hc
theorem first_none {p:Nat→Nm→Bool} {ns:List Nm} (h:∀ k (hk:k < ns.length),p k ns[k] = false):∀ (d k:Nat),ns.length - k = d→firstF p ns k = none
 | 0,k,hd=>firstF_out (by omega)
 | d + 1,k,hd=>by rw [firstF_no (by omega) (h k (by omega))]; exact first_none h d (k + 1) (by omega)
theorem clash_none {ns:List Nm} {i:Nat} {n:Nm} (h:∀ j (hj:j < ns.length),clashB i n j ns[j] = false):∀ (d k:Nat),ns.length - k = d→clashF ns i n k = false
 | 0,k,hd=>clashF_out (by omega)
 | d + 1,k,hd=>by rw [clashF_no (by omega) (h k (by omega))]; exact clash_none h d (k + 1) (by omega)
theorem twice_none {ns:List Nm} (h:ns.Pairwise fun m n=>decide (m.role ≤ 3) = true→decide (n.role ≤ 3) = true→m.word ≠ n.word):twiceP ns = none:=by
 refine first_none (fun i hi=>clash_none (fun j hj=>?_) _ 0 rfl) _ 0 rfl
 have pw:=List.pairwise_iff_getElem.1 h
 unfold clashB
 by_cases hw:ns[j].word = ns[i].word
 ·by_cases hr:ns[i].role ≤ 3∧ns[j].role ≤ 3
  ·rcases Nat.lt_trichotomy j i with hji | hji | hji
   ·exact absurd hw (pw j i hj hi hji (decide_eq_true hr.2) (decide_eq_true hr.1))
   ·subst hji
    have e:decide (j < j) = false:=decide_eq_false (Nat.lt_irrefl _)
    rw [e]
    simp only [Bool.and_false,Bool.false_or,Bool.or_false]
    have:(decide (ns[j].role = 3) && isWholeB ns[j].role) = false:=by
     unfold isWholeB
     by_cases h3:ns[j].role = 3
     ·rw [h3]; rfl
     ·rw [decide_eq_false h3]; rfl
    rw [this,Bool.and_false]
   ·exact absurd hw.symm (pw i j hi hj hji (decide_eq_true hr.1) (decide_eq_true hr.2))
  ·have wh:∀ r:Nat,3 < r→isWholeB r = false∧decide (r = 3) = false:=fun r h=>⟨by unfold isWholeB; rw [decide_eq_false (by omega),decide_eq_false (by omega),decide_eq_false (by omega)]; rfl,decide_eq_false (by omega)⟩
   by_cases h1:3 < ns[i].role
   ·rw [(wh _ h1).1,(wh _ h1).2]; simp
   ·have h2:3 < ns[j].role:=by omega
    rw [(wh _ h2).1,(wh _ h2).2]; simp
 ·rw [decide_eq_false hw]; rfl
theorem param_skip (word:ByteArray):∀ (us:List Nm) (c:Int × Nat),(∀ x ∈ us,3 < x.role)→us.foldl (pstep word) c = c
 | [],_,_=>rfl
 | u :: us,c,h=>by
  have e:pstep word c u = c:=by
   have:=h u (List.mem_cons_self ..)
   unfold pstep
   simp only []
   rw [if_neg (fun q=>by omega),if_neg (fun q=>by omega)]
  show us.foldl (pstep word) (pstep word c u) = c
  rw [e]
  exact param_skip word us c fun x hx=>h x (List.mem_cons_of_mem _ hx)
theorem wrong_none {ns:List Nm}:∀ (cs:List Cl),(∀ c ∈ cs,c.values = paramsP ns c.word)→wrongP ns cs = none
 | [],_=>rfl
 | c :: r,h=>by
  show (if c.values ≠ paramsP ns c.word then some c.at_ else wrongP ns r) = none
  rw [if_neg (by rw [h c (List.mem_cons_self ..)]; exact fun q=>q rfl)]
  exact wrong_none r fun x hx=>h x (List.mem_cons_of_mem _ hx)
theorem nk_is {n:Nm} {w:ByteArray} {r:Nat} {p:Int} (h:nk n = (w,r,p)):∃ q,n = ⟨w,q,r,p⟩:=by
 obtain ⟨a,b,c,d⟩:=n
 have e1:a = w:=congrArg (·.1) h
 have e2:c = r:=congrArg (·.2.1) h
 have e3:d = p:=congrArg (·.2.2) h
 subst e1 e2 e3
 exact ⟨b,rfl⟩
structure NmOk (ns:List Nm) (k:Nat):Prop where
 is:∃ p1 p2 p3 p4 p5 p6 p7 us vs ts,ns = [⟨tX,p1,0,-1⟩,⟨tY,p2,0,-1⟩,⟨tM,p3,1,-1⟩,⟨tN,p4,1,-1⟩,⟨tP,p5,2,0⟩,⟨tV,p6,3,0⟩] ++ (us ++ ([⟨tQ,p7,2,1⟩] ++ (vs ++ ts)))∧(∀ x ∈ us,UseOk true 0 x)∧(∀ x ∈ vs,UseOk false 1 x)∧ts.length = k∧(∀ x ∈ ts,x.role = 7∧(x.word = tP ∨ x.word = tQ))
theorem PgOut.nm {σ:PSt} {k:Nat} (h:PgOut σ k):NmOk σ.names k:=by
 obtain ⟨a,us,b,vs,ts,e,ha,hb,hu,hv,hl,ht⟩:=h.names
 obtain ⟨n1,a,rfl,k1,ha⟩:=List.map_eq_cons_iff.1 ha
 obtain ⟨n2,a,rfl,k2,ha⟩:=List.map_eq_cons_iff.1 ha
 obtain ⟨n3,a,rfl,k3,ha⟩:=List.map_eq_cons_iff.1 ha
 obtain ⟨n4,a,rfl,k4,ha⟩:=List.map_eq_cons_iff.1 ha
 obtain ⟨n5,a,rfl,k5,ha⟩:=List.map_eq_cons_iff.1 ha
 obtain ⟨n6,a,rfl,k6,ha⟩:=List.map_eq_cons_iff.1 ha
 have ha:=List.map_eq_nil_iff.1 ha
 subst ha
 obtain ⟨n7,b,rfl,k7,hb⟩:=List.map_eq_cons_iff.1 hb
 have hb:=List.map_eq_nil_iff.1 hb
 subst hb
 obtain ⟨p1,rfl⟩:=nk_is k1
 obtain ⟨p2,rfl⟩:=nk_is k2
 obtain ⟨p3,rfl⟩:=nk_is k3
 obtain ⟨p4,rfl⟩:=nk_is k4
 obtain ⟨p5,rfl⟩:=nk_is k5
 obtain ⟨p6,rfl⟩:=nk_is k6
 obtain ⟨p7,rfl⟩:=nk_is k7
 exact ⟨p1,p2,p3,p4,p5,p6,p7,us,vs,ts,e,hu,hv,hl,ht⟩
end RR
