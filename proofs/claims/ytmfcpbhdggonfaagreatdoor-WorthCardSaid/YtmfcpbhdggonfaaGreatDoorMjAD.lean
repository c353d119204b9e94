/- EXPRs of known worth: how they are read, and what their nodes are worth. No Go here. -/
import Derived.Test.YtmfcpbhdggonfaaGreatDoorMjAC
import Derived.Test.YtmfcpbhdggonfaaGreatDoorMjAA
import Derived.Deep.MidRow
import Derived.Laws.ResultCell
namespace RR
open Go Go.RowKit
def St (n:Nat) (d P:Int) (ns:List Nm) (cs:List Cl) (sts:List Stm) (nds:List Nd):QSt:=⟨⟨n,d,P,false,ns,cs⟩,sts,nds⟩
def plAt (L:List Tk) (n:Nat):Nat:=if h:n < L.length then L[n].p else 0
theorem ahead_pl {L:List Tk} {n:Nat} {d P:Int} {ns:List Nm} {cs:List Cl}:((⟨n,d,P,false,ns,cs⟩:PSt).ahead L 0).p = plAt L n:=by
 unfold PSt.ahead plAt
 by_cases h:n < L.length
 ·rw [dif_pos ⟨rfl,h⟩,dif_pos h]; rfl
 ·rw [dif_neg (fun q=>h q.2),dif_neg h]
theorem st_name {L:List Tk} {n:Nat} {d P:Int} {ns:List Nm} {cs:List Cl} {t:ByteArray} (role:Nat) (h:tAt L n = t) (hn:isNameB t = true):(⟨n,d,P,false,ns,cs⟩:PSt).takeName L role = ⟨n + 1,d,P,false,ns ++ [⟨t,plAt L n,role,P⟩],cs⟩:=by
 unfold PSt.takeName
 rw [ahead_is (σ:=⟨n,d,P,false,ns,cs⟩) rfl h,if_pos hn,ahead_pl]
theorem st_take {L:List Tk} {n:Nat} {d P:Int} {ns:List Nm} {cs:List Cl} {t:ByteArray} (h:tAt L n = t):(⟨n,d,P,false,ns,cs⟩:PSt).take L t = ⟨n + 1,d,P,false,ns,cs⟩:=take_is (σ:=⟨n,d,P,false,ns,cs⟩) rfl h
theorem st_sees {L:List Tk} {n:Nat} {d P:Int} {ns:List Nm} {cs:List Cl} {t:ByteArray} (u:ByteArray) (h:tAt L n = t):(⟨n,d,P,false,ns,cs⟩:PSt).sees L u = decide (t = u):=sees_at (σ:=⟨n,d,P,false,ns,cs⟩) rfl h u
theorem st_enter {L:List Tk} {n:Nat} {d P:Int} {ns:List Nm} {cs:List Cl} {t:ByteArray} (h:tAt L n = t) (h0:0 ≤ d) (h6:d < 6):enterP L (⟨n,d,P,false,ns,cs⟩:PSt) t = ⟨n + 1,d + 1,P,false,ns,cs⟩:=enter_is (σ:=⟨n,d,P,false,ns,cs⟩) rfl h h0 h6
theorem st_leave {L:List Tk} {n:Nat} {d P:Int} {ns:List Nm} {cs:List Cl} {t:ByteArray} (h:tAt L n = t) (h0:0 ≤ d) (h6:d ≤ 7):leaveP L (⟨n,d,P,false,ns,cs⟩:PSt) t = ⟨n + 1,d - 1,P,false,ns,cs⟩:=leave_is (σ:=⟨n,d,P,false,ns,cs⟩) rfl h h0 h6
def stepN (s:Sight) (NS:List Nm) (first:Int) (v:List Bool) (n:Nd):List Bool:=v ++ [signF s (nodeF NS n) (valAt v (wrap64 (n.left - first))) (valAt v (wrap64 (n.right - first)))]
theorem valAt_is {l:List Bool} {j:Int} {k:Nat} {v:Bool} (hj:j = k) (h:l[k]? = some v):valAt l j = v:=by
 have hk:=(List.getElem?_eq_some_iff.1 h).1
 unfold valAt
 rw [if_pos ⟨by omega,by omega⟩,hj,Int.toNat_natCast,h]; rfl
theorem wrap_mid {z:Int} (h:-1000000 ≤ z) (h2:z ≤ 1000000):wrap64 z = z:=by
 unfold wrap64
 omega
theorem last_at {vs us:List Bool} {v:Bool} (h:us.getLast? = some v):(vs ++ us)[vs.length + us.length - 1]? = some v:=by
 have hne:0 < us.length:=by
  cases us with
  | nil=>cases h
  | cons a r=>simp
 rw [List.getLast?_eq_getElem?] at h
 rw [List.getElem?_append_right (by omega),← h]
 congr 1
 omega
structure Wrt (E:List (ByteArray × Bool)) (ch v a:Bool) (P:Int) (i b:Nat) (nn:List Nm) (xs:List Nd):Prop where
 use:∀ x ∈ nn,x.role = 4∧x.proc = P∧∃ b,(x.word,b) ∈ E
 pos:0 < xs.length
 asks:xs.any (fun n=>decide (n.sign = 2)) = a
 val:∀ (NS:List Nm) (s:Sight) (first:Int) (vs:List Bool),(∀ (k:Nat) (x:Nm),nn[k]? = some x→∀ c,(x.word,c) ∈ E→seeF s (truthF NS ((i + k:Nat):Int)) = c)→(a = true→s.choice = ch)→0 ≤ first→first + vs.length = b→b + xs.length ≤ 100000 →
  ∃ us,xs.foldl (stepN s NS first) vs = vs ++ us∧us.length = xs.length∧us.getLast? = some v
theorem Wrt.const {E:List (ByteArray × Bool)} {ch:Bool} {P:Int} {i b:Nat} (v:Bool):Wrt E ch v false P i b [] [⟨if v then 1 else 0,-1,0,0⟩]:=by
 refine ⟨fun _ h=>(by cases h),Nat.zero_lt_one,by cases v <;> rfl,fun NS s first vs _ _ _ _ _=>⟨[v],?_,rfl,rfl⟩⟩
 cases v <;> rfl
theorem Wrt.ask {E:List (ByteArray × Bool)} {ch:Bool} {P:Int} {i b:Nat}:Wrt E ch ch true P i b [] [⟨2,-1,0,0⟩]:=by
 refine ⟨fun _ h=>(by cases h),Nat.zero_lt_one,rfl,fun NS s first vs _ hc _ _ _=>⟨[ch],?_,rfl,rfl⟩⟩
 have:=hc rfl
 show vs ++ [s.choice] = _
 rw [this]
theorem Wrt.name {E:List (ByteArray × Bool)} {ch v:Bool} {P:Int} {i b q:Nat} {t:ByteArray} (h:(t,v) ∈ E):Wrt E ch v false P i b [⟨t,q,4,P⟩] [⟨3,i,0,0⟩]:=by
 refine ⟨fun x hx=>?_,Nat.zero_lt_one,rfl,fun NS s first vs hn _ _ _ _=>⟨[v],?_,rfl,rfl⟩⟩
 ·rw [List.mem_singleton.1 hx]; exact ⟨rfl,rfl,v,h⟩
 ·have:=hn 0 _ rfl v h
  show vs ++ [seeF s (truthF NS (i:Int))] = _
  rw [← this]; rfl
theorem Wrt.neg {E:List (ByteArray × Bool)} {ch v a:Bool} {P:Int} {i b:Nat} {nn:List Nm} {xs:List Nd} (h:Wrt E ch v a P i b nn xs):Wrt E ch (!v) a P i b nn (xs ++ [⟨4,-1,0,((b + xs.length:Nat):Int) - 1⟩]):=by
 refine ⟨h.use,by simp,by rw [List.any_append,h.asks]; simp,fun NS s first vs hn hc h0 hf hb=>?_⟩
 have hp:=h.pos
 rw [List.length_append,List.length_singleton] at hb
 obtain ⟨us,e,hl,hv⟩:=h.val NS s first vs hn hc h0 hf (by omega)
 refine ⟨us ++ [!v],?_,by rw [List.length_append,List.length_append,hl]; rfl,by simp⟩
 rw [List.foldl_append,e]
 show vs ++ us ++ [!(valAt (vs ++ us) (wrap64 (((b + xs.length:Nat):Int) - 1 - first)))] = _
 rw [wrap_mid (by omega) (by omega),valAt_is (k:=vs.length + us.length - 1) (by omega) (last_at hv),List.append_assoc]
theorem Wrt.bin {E:List (ByteArray × Bool)} {ch va aa vb ab:Bool} {P:Int} {i b:Nat} {nn mm:List Nm} {xs ys:List Nd} (k:Bool) (ha:Wrt E ch va aa P i b nn xs) (hb:Wrt E ch vb ab P (i + nn.length) (b + xs.length) mm ys) :
    Wrt E ch (if k then va && vb else va || vb) (aa || ab) P i b (nn ++ mm) (xs ++ (ys ++ [⟨if k then 5 else 6,-1,((b + xs.length:Nat):Int) - 1,((b + xs.length + ys.length:Nat):Int) - 1⟩])):=by
 have hp:=ha.pos
 have hq:=hb.pos
 refine ⟨fun x hx=>?_,by simp only [List.length_append,List.length_singleton]; omega,by rw [List.any_append,List.any_append,ha.asks,hb.asks]; cases k <;> simp,fun NS s first vs hn hc h0 hf hl=>?_⟩
 ·rcases List.mem_append.1 hx with hx | hx
  ·exact ha.use x hx
  ·exact hb.use x hx
 ·simp only [List.length_append,List.length_singleton] at hl
  obtain ⟨us,e1,l1,v1⟩:=ha.val NS s first vs (fun j x hj=>hn j x (by rw [List.getElem?_append_left (List.getElem?_eq_some_iff.1 hj).1]; exact hj)) (fun q=>hc (by rw [q]; rfl)) h0 hf (by omega)
  obtain ⟨ws,e2,l2,v2⟩:=hb.val NS s first (vs ++ us) (fun j x hj c hx=>by
   have:=hn (nn.length + j) x (by rw [List.getElem?_append_right (by omega)]; rw [← hj]; congr 1; omega) c hx
   rw [← this]; congr 3; omega) (fun q=>hc (by rw [q,Bool.or_true])) h0 (by rw [List.length_append,l1]; omega) (by omega)
  refine ⟨us ++ (ws ++ [if k then va && vb else va || vb]),?_,by simp only [List.length_append,List.length_singleton,l1,l2],by simp⟩
  rw [List.foldl_append,e1,List.foldl_append,e2]
  have x1:valAt (vs ++ us ++ ws) (wrap64 (((b + xs.length:Nat):Int) - 1 - first)) = va:=by
   rw [wrap_mid (by omega) (by omega)]
   refine valAt_is (k:=vs.length + us.length - 1) (by omega) ?_
   rw [List.getElem?_append_left (by rw [List.length_append]; omega)]
   exact last_at v1
  have x2:valAt (vs ++ us ++ ws) (wrap64 (((b + xs.length + ys.length:Nat):Int) - 1 - first)) = vb:=by
   rw [wrap_mid (by omega) (by omega)]
   exact valAt_is (k:=(vs ++ us).length + ws.length - 1) (by rw [List.length_append]; omega) (last_at v2)
  show vs ++ us ++ ws ++ [signF s (nodeF NS ⟨if k then 5 else 6,-1,((b + xs.length:Nat):Int) - 1,((b + xs.length + ys.length:Nat):Int) - 1⟩) (valAt (vs ++ us ++ ws) (wrap64 (((b + xs.length:Nat):Int) - 1 - first))) (valAt (vs ++ us ++ ws) (wrap64 (((b + xs.length + ys.length:Nat):Int) - 1 - first)))] = _
  rw [x1,x2]
  simp only [List.append_assoc]
  cases k <;> rfl
def RdTo (E:List (ByteArray × Bool)) (ch v a:Bool) (m n:Nat) (d P:Int) (ns:List Nm) (cs:List Cl) (sts:List Stm) (nds:List Nd) (o:Option (QSt × Int)):Prop :=
 ∃ nn xs,o = some (St (n + m) d P (ns ++ nn) cs sts (nds ++ xs),((nds.length + xs.length:Nat):Int) - 1)∧Wrt E ch v a P ns.length nds.length nn xs∧nn.length ≤ m∧xs.length ≤ 2 * m
def Hd (ts:List ByteArray):Prop:=∃ t r,ts = t :: r∧(t = tShut→False)∧(t = tSemi→False)∧(isNameB t = true→∀ u q,r = u :: q→u = tOpen→False)
theorem Hd.app {a b:List ByteArray} {u:ByteArray} (h:Hd a) (hu:u = tOpen→False):Hd (a ++ u :: b):=by
 obtain ⟨t,r,rfl,h1,h2,h3⟩:=h
 refine ⟨t,r ++ u :: b,rfl,h1,h2,fun hn x q e=>?_⟩
 cases r with
 | nil =>
  have:u = x:=(List.cons.inj e).1
  rw [← this]; exact hu
 | cons y r =>
  have:y = x:=(List.cons.inj e).1
  rw [← this]; exact h3 hn y r rfl
structure PlnOk (E:List (ByteArray × Bool)) (ch:Bool) (K D:Nat) (ts:List ByteArray) (v a:Bool):Prop where
 first:∃ t r,ts = t :: r∧(t = tBang→False)
 hd:Hd ts
 rd:∀ (L:List Tk) (f n:Nat) (d P:Int) (ns:List Nm) (cs:List Cl) (sts:List Stm) (nds:List Nd),K ≤ f→Lies L n ts→0 ≤ d→d + D ≤ 6→RdTo E ch v a ts.length n d P ns cs sts nds (plainQ L (bracketedQ L f) (St n d P ns cs sts nds))
structure FacOk (E:List (ByteArray × Bool)) (ch:Bool) (K D:Nat) (ts:List ByteArray) (v a:Bool):Prop where
 hd:Hd ts
 rd:∀ (L:List Tk) (f n:Nat) (d P:Int) (ns:List Nm) (cs:List Cl) (sts:List Stm) (nds:List Nd),K ≤ f→Lies L n ts→0 ≤ d→d + D ≤ 6→RdTo E ch v a ts.length n d P ns cs sts nds (factorQ L f (St n d P ns cs sts nds))
structure TrmOk (E:List (ByteArray × Bool)) (ch:Bool) (K D:Nat) (ts:List ByteArray) (v a:Bool):Prop where
 hd:Hd ts
 rd:∀ (L:List Tk) (f n:Nat) (d P:Int) (ns:List Nm) (cs:List Cl) (sts:List Stm) (nds:List Nd),K ≤ f→Lies L n ts→(tAt L (n + ts.length) = tAnd→False)→0 ≤ d→d + D ≤ 6→RdTo E ch v a ts.length n d P ns cs sts nds (termQ L f (St n d P ns cs sts nds))
structure ExpOk (E:List (ByteArray × Bool)) (ch:Bool) (K D:Nat) (ts:List ByteArray) (v a:Bool):Prop where
 hd:Hd ts
 rd:∀ (L:List Tk) (f n:Nat) (d P:Int) (ns:List Nm) (cs:List Cl) (sts:List Stm) (nds:List Nd),K ≤ f→Lies L n ts→(tAt L (n + ts.length) = tAnd→False)→(tAt L (n + ts.length) = tOr→False)→0 ≤ d→d + D ≤ 6→RdTo E ch v a ts.length n d P ns cs sts nds (exprQ L f (St n d P ns cs sts nds))
theorem pln_true {E:List (ByteArray × Bool)} {ch:Bool}:PlnOk E ch 0 0 [tTrue] true false:=by
 refine ⟨⟨_,_,rfl,by decide⟩,⟨_,_,rfl,by decide,by decide,fun _ u q e=>by cases e⟩,fun L f n d P ns cs sts nds _ hL _ _=>?_⟩
 have h1:tAt L n = tTrue:=hL.1
 have e0:((⟨n,d,P,false,ns,cs⟩:PSt).ahead L 0).t = tTrue:=ahead_is (σ:=⟨n,d,P,false,ns,cs⟩) rfl h1
 refine ⟨[],[⟨1,-1,0,0⟩],?_,Wrt.const true,Nat.zero_le _,by decide⟩
 unfold plainQ St
 simp only [e0]
 unfold constQ
 rw [if_neg (by decide),if_pos trivial,st_take h1]
 simp [QSt.node,QSt.setp]
theorem pln_false {E:List (ByteArray × Bool)} {ch:Bool}:PlnOk E ch 0 0 [tFalse] false false:=by
 refine ⟨⟨_,_,rfl,by decide⟩,⟨_,_,rfl,by decide,by decide,fun _ u q e=>by cases e⟩,fun L f n d P ns cs sts nds _ hL _ _=>?_⟩
 have h1:tAt L n = tFalse:=hL.1
 have e0:((⟨n,d,P,false,ns,cs⟩:PSt).ahead L 0).t = tFalse:=ahead_is (σ:=⟨n,d,P,false,ns,cs⟩) rfl h1
 refine ⟨[],[⟨0,-1,0,0⟩],?_,Wrt.const false,Nat.zero_le _,by decide⟩
 unfold plainQ St
 simp only [e0]
 unfold constQ
 rw [if_neg (by decide),if_neg (by decide),if_pos trivial,st_take h1]
 simp [QSt.node,QSt.setp]
theorem pln_ask {E:List (ByteArray × Bool)} {ch:Bool}:PlnOk E ch 0 0 [tAsk] ch true:=by
 refine ⟨⟨_,_,rfl,by decide⟩,⟨_,_,rfl,by decide,by decide,fun _ u q e=>by cases e⟩,fun L f n d P ns cs sts nds _ hL _ _=>?_⟩
 have h1:tAt L n = tAsk:=hL.1
 have e0:((⟨n,d,P,false,ns,cs⟩:PSt).ahead L 0).t = tAsk:=ahead_is (σ:=⟨n,d,P,false,ns,cs⟩) rfl h1
 refine ⟨[],[⟨2,-1,0,0⟩],?_,Wrt.ask,Nat.zero_le _,by decide⟩
 unfold plainQ St
 simp only [e0]
 unfold constQ
 rw [if_neg (by decide),if_neg (by decide),if_neg (by decide),if_pos trivial,st_take h1]
 simp [QSt.node,QSt.setp]
theorem pln_name {E:List (ByteArray × Bool)} {ch v:Bool} {t:ByteArray} (h:(t,v) ∈ E) (hn:isNameB t = true) (hw:(t = tOpen→False)∧(t = tTrue→False)∧(t = tFalse→False)∧(t = tAsk→False)∧(t = tBang→False)∧(t = tShut→False)∧(t = tSemi→False)):PlnOk E ch 0 0 [t] v false:=by
 refine ⟨⟨_,_,rfl,hw.2.2.2.2.1⟩,⟨_,_,rfl,hw.2.2.2.2.2.1,hw.2.2.2.2.2.2,fun _ u q e=>by cases e⟩,fun L f n d P ns cs sts nds _ hL _ _=>?_⟩
 have h1:tAt L n = t:=hL.1
 have e0:((⟨n,d,P,false,ns,cs⟩:PSt).ahead L 0).t = t:=ahead_is (σ:=⟨n,d,P,false,ns,cs⟩) rfl h1
 refine ⟨[⟨t,plAt L n,4,P⟩],[⟨3,ns.length,0,0⟩],?_,Wrt.name h,Nat.le_refl _,by show 1 ≤ 2 * 1; decide⟩
 unfold plainQ St
 simp only [e0]
 rw [if_neg hw.1,if_neg hw.2.1,if_neg hw.2.2.1,if_neg hw.2.2.2.1,st_name 4 h1 hn]
 unfold nameIx
 rw [e0,if_pos hn]
 simp [QSt.node,QSt.setp]
theorem fac_plain {E:List (ByteArray × Bool)} {ch:Bool} {K D:Nat} {ts:List ByteArray} {v a:Bool} (h:PlnOk E ch K D ts v a):FacOk E ch (K + 2) D ts v a:=by
 refine ⟨h.hd,fun L f n d P ns cs sts nds hf hL h0 h6=>?_⟩
 obtain ⟨g,rfl⟩:∃ g,f = g + 2:=⟨f - 2,by omega⟩
 obtain ⟨t,r,rfl,ht⟩:=h.first
 obtain ⟨nn,xs,e,w,l1,l2⟩:=h.rd L (g + 1) n d P ns cs sts nds (by omega) hL h0 h6
 refine ⟨nn,xs,?_,w,l1,l2⟩
 rw [factorQ_succ,notsQ]
 have:(St n d P ns cs sts nds).p.sees L ⟨#[33]⟩ = false:=(st_sees _ hL.1).trans (decide_eq_false ht)
 rw [this,if_neg (by decide),Option.bind_some,e]; rfl
theorem fac_bang {E:List (ByteArray × Bool)} {ch:Bool} {K D:Nat} {ts:List ByteArray} {v a:Bool} (h:PlnOk E ch K D ts v a):FacOk E ch (K + 3) D (tBang :: ts) (!v) a:=by
 refine ⟨⟨_,_,rfl,by decide,by decide,fun q=>by rw [show isNameB tBang = false by kernel_rfl] at q; cases q⟩,fun L f n d P ns cs sts nds hf hL h0 h6=>?_⟩
 obtain ⟨g,rfl⟩:∃ g,f = g + 3:=⟨f - 3,by omega⟩
 obtain ⟨t,r,rfl,ht⟩:=h.first
 obtain ⟨nn,xs,e,w,l1,l2⟩:=h.rd L (g + 2) (n + 1) d P ns cs sts nds (by omega) hL.2 h0 h6
 have w2:=w.neg
 refine ⟨nn,_,?_,w2,by simp only [List.length_cons] at *; omega,by simp only [List.length_cons,List.length_append,List.length_nil] at *; omega⟩
 rw [factorQ_succ,notsQ]
 have s1:(St n d P ns cs sts nds).p.sees L ⟨#[33]⟩ = true:=(st_sees _ hL.1).trans (decide_eq_true rfl)
 have s2:(St (n + 1) d P ns cs sts nds).p.sees L ⟨#[33]⟩ = false:=(st_sees _ hL.2.1).trans (decide_eq_false ht)
 rw [s1,if_pos rfl]
 show ((notsQ L (g + 1) (St (n + 1) d P ns cs sts nds) 1).bind _) = _
 rw [notsQ,s2,if_neg (by decide),Option.bind_some]
 show (plainQ L (bracketedQ L (g + 2)) (St (n + 1) d P ns cs sts nds)).map _ = _
 rw [e]
 simp only [Option.map_some,addNots,QSt.node,St,List.length_cons,List.append_assoc,List.length_append,List.length_nil]
 congr 3
 ·congr 1; omega
 ·omega
theorem pln_brack {E:List (ByteArray × Bool)} {ch:Bool} {K D:Nat} {ts:List ByteArray} {v a:Bool} (h:ExpOk E ch K D ts v a):PlnOk E ch (K + 1) (D + 1) (tOpen :: (ts ++ [tShut])) v a:=by
 refine ⟨⟨_,_,rfl,by decide⟩,⟨_,_,rfl,by decide,by decide,fun q=>by rw [show isNameB tOpen = false by kernel_rfl] at q; cases q⟩,fun L f n d P ns cs sts nds hf hL h0 h6=>?_⟩
 obtain ⟨g,rfl⟩:∃ g,f = g + 1:=⟨f - 1,by omega⟩
 obtain ⟨k1,k2⟩:=lies_app.1 hL.2
 have kS:tAt L (n + 1 + ts.length) = tShut:=k2.1
 obtain ⟨nn,xs,e,w,l1,l2⟩:=h.rd L g (n + 1) (d + 1) P ns cs sts nds (by omega) k1 (by rw [kS]; decide) (by rw [kS]; decide) (by omega) (by omega)
 refine ⟨nn,xs,?_,w,by simp only [List.length_cons,List.length_append,List.length_nil]; omega,by simp only [List.length_cons,List.length_append,List.length_nil]; omega⟩
 have e0:((St n d P ns cs sts nds).p.ahead L 0).t = tOpen:=ahead_is (σ:=⟨n,d,P,false,ns,cs⟩) rfl hL.1
 unfold plainQ
 rw [e0,if_pos rfl,bracketedQ_succ]
 have en:(St n d P ns cs sts nds).setp (enterP L (St n d P ns cs sts nds).p ⟨#[40]⟩) = St (n + 1) (d + 1) P ns cs sts nds:=by
  show QSt.mk (enterP L ⟨n,d,P,false,ns,cs⟩ tOpen) sts nds = _
  rw [st_enter hL.1 h0 (by omega)]; rfl
 rw [en,e]
 have lv:(St (n + 1 + ts.length) (d + 1) P (ns ++ nn) cs sts (nds ++ xs)).setp (leaveP L (St (n + 1 + ts.length) (d + 1) P (ns ++ nn) cs sts (nds ++ xs)).p ⟨#[41]⟩) = St (n + (tOpen :: (ts ++ [tShut])).length) d P (ns ++ nn) cs sts (nds ++ xs):=by
  show QSt.mk (leaveP L ⟨n + 1 + ts.length,d + 1,P,false,ns ++ nn,cs⟩ tShut) sts (nds ++ xs) = _
  rw [st_leave kS (by omega) (by omega)]
  unfold St
  congr 2
  ·simp only [List.length_cons,List.length_append,List.length_nil]; omega
  ·omega
 show some (_,_) = _
 rw [lv]
theorem trm_one {E:List (ByteArray × Bool)} {ch:Bool} {K D:Nat} {ts:List ByteArray} {v a:Bool} (h:FacOk E ch K D ts v a):TrmOk E ch (K + 2) D ts v a:=by
 refine ⟨h.hd,fun L f n d P ns cs sts nds hf hL hu h0 h6=>?_⟩
 obtain ⟨g,rfl⟩:∃ g,f = g + 2:=⟨f - 2,by omega⟩
 obtain ⟨nn,xs,e,w,l1,l2⟩:=h.rd L (g + 1) n d P ns cs sts nds (by omega) hL h0 h6
 refine ⟨nn,xs,?_,w,l1,l2⟩
 rw [termQ_succ,e,Option.bind_some]
 show andQ L (g + 1) (St (n + ts.length) d P (ns ++ nn) cs sts (nds ++ xs)) _ = _
 rw [andQ_succ]
 have:(St (n + ts.length) d P (ns ++ nn) cs sts (nds ++ xs)).p.sees L ⟨#[38]⟩ = false:=(st_sees _ rfl).trans (decide_eq_false hu)
 rw [this]; rfl
theorem trm_two {E:List (ByteArray × Bool)} {ch:Bool} {K D:Nat} {ts us:List ByteArray} {v a v2 a2:Bool} (h:FacOk E ch K D ts v a) (k:FacOk E ch K D us v2 a2):TrmOk E ch (K + 3) D (ts ++ tAnd :: us) (v && v2) (a || a2):=by
 refine ⟨h.hd.app (by decide),fun L f n d P ns cs sts nds hf hL hu h0 h6=>?_⟩
 obtain ⟨g,rfl⟩:∃ g,f = g + 3:=⟨f - 3,by omega⟩
 obtain ⟨q1,q2⟩:=lies_app.1 hL
 have qA:tAt L (n + ts.length) = tAnd:=q2.1
 obtain ⟨nn,xs,e,w,l1,l2⟩:=h.rd L (g + 2) n d P ns cs sts nds (by omega) q1 h0 h6
 obtain ⟨mm,ys,e2,w2,l3,l4⟩:=k.rd L (g + 1) (n + ts.length + 1) d P (ns ++ nn) cs sts (nds ++ xs) (by omega) q2.2 h0 h6
 rw [List.length_append,List.length_append] at w2
 refine ⟨nn ++ mm,_,?_,w.bin true w2,by simp only [List.length_append,List.length_cons]; omega,by simp only [List.length_append,List.length_cons,List.length_nil]; omega⟩
 rw [termQ_succ,e,Option.bind_some]
 show andQ L (g + 2) (St (n + ts.length) d P (ns ++ nn) cs sts (nds ++ xs)) _ = _
 rw [andQ_succ]
 have s1:(St (n + ts.length) d P (ns ++ nn) cs sts (nds ++ xs)).p.sees L ⟨#[38]⟩ = true:=(st_sees _ qA).trans (decide_eq_true rfl)
 rw [s1,if_pos rfl]
 show (factorQ L (g + 1) (St (n + ts.length + 1) d P (ns ++ nn) cs sts (nds ++ xs))).bind _ = _
 rw [e2,Option.bind_some,andQ_succ]
 have s2:((St (n + ts.length + 1 + us.length) d P (ns ++ nn ++ mm) cs sts (nds ++ xs ++ ys)).node ⟨5,-1,((nds.length + xs.length:Nat):Int) - 1,(((nds ++ xs).length + ys.length:Nat):Int) - 1⟩).p.sees L ⟨#[38]⟩ = false:=by
  refine (st_sees _ rfl).trans (decide_eq_false ?_)
  rw [show n + ts.length + 1 + us.length = n + (ts ++ tAnd :: us).length by simp only [List.length_append,List.length_cons]; omega]
  exact hu
 show (if ((St (n + ts.length + 1 + us.length) d P (ns ++ nn ++ mm) cs sts (nds ++ xs ++ ys)).node ⟨5,-1,((nds.length + xs.length:Nat):Int) - 1,(((nds ++ xs).length + ys.length:Nat):Int) - 1⟩).p.sees L ⟨#[38]⟩ = true then _ else _) = _
 rw [s2,if_neg (by decide)]
 simp only [QSt.node,St,List.append_assoc,List.length_append,List.length_cons,List.length_nil,Option.some.injEq,Prod.mk.injEq,QSt.mk.injEq,PSt.mk.injEq,and_true,if_true]
 omega
theorem exp_one {E:List (ByteArray × Bool)} {ch:Bool} {K D:Nat} {ts:List ByteArray} {v a:Bool} (h:TrmOk E ch K D ts v a):ExpOk E ch (K + 2) D ts v a:=by
 refine ⟨h.hd,fun L f n d P ns cs sts nds hf hL hu hu2 h0 h6=>?_⟩
 obtain ⟨g,rfl⟩:∃ g,f = g + 2:=⟨f - 2,by omega⟩
 obtain ⟨nn,xs,e,w,l1,l2⟩:=h.rd L (g + 1) n d P ns cs sts nds (by omega) hL hu h0 h6
 refine ⟨nn,xs,?_,w,l1,l2⟩
 rw [exprQ_succ,e,Option.bind_some]
 show orQ L (g + 1) (St (n + ts.length) d P (ns ++ nn) cs sts (nds ++ xs)) _ = _
 rw [orQ_succ]
 have:(St (n + ts.length) d P (ns ++ nn) cs sts (nds ++ xs)).p.sees L ⟨#[124]⟩ = false:=(st_sees _ rfl).trans (decide_eq_false hu2)
 rw [this]; rfl
theorem or_more {E:List (ByteArray × Bool)} {ch:Bool} {K D:Nat} {us:List ByteArray} {v2 a2:Bool} (k:TrmOk E ch K D us v2 a2) {L:List Tk} {g n:Nat} {d P:Int} {ns:List Nm} {cs:List Cl} {sts:List Stm} {nds:List Nd} {v a:Bool} {i b:Nat} {nn:List Nm} {xs:List Nd}
    (hK:K ≤ g) (hL:Lies L n (tOr :: us)) (hu:tAt L (n + 1 + us.length) = tAnd→False) (h0:0 ≤ d) (h6:d + D ≤ 6) (hi:ns.length = i + nn.length) (hb:nds.length = b + xs.length) (w:Wrt E ch v a P i b nn xs) :
    ∃ mm ys,orQ L (g + 1) (St n d P ns cs sts nds) (((b + xs.length:Nat):Int) - 1) = orQ L g (St (n + 1 + us.length) d P (ns ++ mm) cs sts (nds ++ ys)) (((b + (xs ++ ys).length:Nat):Int) - 1)∧Wrt E ch (v || v2) (a || a2) P i b (nn ++ mm) (xs ++ ys)∧mm.length ≤ us.length∧ys.length ≤ 2 * us.length + 1:=by
 obtain ⟨mm,ys,e2,w2,l3,l4⟩:=k.rd L g (n + 1) d P ns cs sts nds hK hL.2 hu h0 h6
 rw [hi,hb] at w2
 refine ⟨mm,_,?_,w.bin false w2,l3,by simp only [List.length_append,List.length_cons,List.length_nil]; omega⟩
 rw [orQ_succ]
 have s1:(St n d P ns cs sts nds).p.sees L ⟨#[124]⟩ = true:=(st_sees _ hL.1).trans (decide_eq_true rfl)
 rw [s1,if_pos rfl]
 show (termQ L g (St (n + 1) d P ns cs sts nds)).bind _ = _
 rw [e2,Option.bind_some]
 simp only [QSt.node,St,List.append_assoc,List.length_append,List.length_cons,List.length_nil,hb]
 congr 1
 omega
theorem or_end {L:List Tk} {g n:Nat} {d P:Int} {ns:List Nm} {cs:List Cl} {sts:List Stm} {nds:List Nd} {w:Int} (hu:tAt L n = tOr→False):orQ L (g + 1) (St n d P ns cs sts nds) w = some (St n d P ns cs sts nds,w):=by
 rw [orQ_succ]
 have:(St n d P ns cs sts nds).p.sees L ⟨#[124]⟩ = false:=(st_sees _ rfl).trans (decide_eq_false hu)
 rw [this]; rfl
theorem exp_two {E:List (ByteArray × Bool)} {ch:Bool} {K D:Nat} {ts us:List ByteArray} {v a v2 a2:Bool} (h:TrmOk E ch K D ts v a) (k:TrmOk E ch K D us v2 a2):ExpOk E ch (K + 3) D (ts ++ tOr :: us) (v || v2) (a || a2):=by
 refine ⟨h.hd.app (by decide),fun L f n d P ns cs sts nds hf hL hu hu2 h0 h6=>?_⟩
 obtain ⟨g,rfl⟩:∃ g,f = g + 3:=⟨f - 3,by omega⟩
 obtain ⟨q1,q2⟩:=lies_app.1 hL
 have qO:tAt L (n + ts.length) = tOr:=q2.1
 have ez:n + ts.length + 1 + us.length = n + (ts ++ tOr :: us).length:=by simp only [List.length_append,List.length_cons]; omega
 obtain ⟨nn,xs,e,w,l1,l2⟩:=h.rd L (g + 2) n d P ns cs sts nds (by omega) q1 (by rw [qO]; decide) h0 h6
 obtain ⟨mm,ys,e2,w2,l3,l4⟩:=or_more k (L:=L) (g:=g + 1) (cs:=cs) (sts:=sts) (ns:=ns ++ nn) (nds:=nds ++ xs) (by omega) q2 (by rw [ez]; exact hu) h0 h6 (List.length_append ..) (List.length_append ..) w
 refine ⟨nn ++ mm,xs ++ ys,?_,w2,by simp only [List.length_append,List.length_cons]; omega,by simp only [List.length_append,List.length_cons]; omega⟩
 rw [exprQ_succ,e,Option.bind_some]
 show orQ L (g + 2) (St (n + ts.length) d P (ns ++ nn) cs sts (nds ++ xs)) _ = _
 rw [e2,or_end (by rw [ez]; exact hu2),ez,List.append_assoc,List.append_assoc]
theorem exp_three {E:List (ByteArray × Bool)} {ch:Bool} {K D:Nat} {ts us vs:List ByteArray} {v a v2 a2 v3 a3:Bool} (h:TrmOk E ch K D ts v a) (k:TrmOk E ch K D us v2 a2) (l:TrmOk E ch K D vs v3 a3):ExpOk E ch (K + 4) D (ts ++ tOr :: (us ++ tOr :: vs)) (v || v2 || v3) (a || a2 || a3):=by
 refine ⟨h.hd.app (by decide),fun L f n d P ns cs sts nds hf hL hu hu2 h0 h6=>?_⟩
 obtain ⟨g,rfl⟩:∃ g,f = g + 4:=⟨f - 4,by omega⟩
 obtain ⟨q1,q2⟩:=lies_app.1 hL
 have qO:tAt L (n + ts.length) = tOr:=q2.1
 have q2':Lies L (n + ts.length) ((tOr :: us) ++ (tOr :: vs)):=q2
 obtain ⟨q3,q4⟩:=lies_app.1 q2'
 have ey:n + ts.length + 1 + us.length = n + ts.length + (tOr :: us).length:=by simp only [List.length_cons]; omega
 rw [← ey] at q4
 have ez:n + ts.length + 1 + us.length + 1 + vs.length = n + (ts ++ tOr :: (us ++ tOr :: vs)).length:=by simp only [List.length_append,List.length_cons]; omega
 have qP:tAt L (n + ts.length + 1 + us.length) = tOr:=q4.1
 obtain ⟨nn,xs,e,w,l1,l2⟩:=h.rd L (g + 3) n d P ns cs sts nds (by omega) q1 (by rw [qO]; decide) h0 h6
 obtain ⟨mm,ys,e2,w2,l3,l4⟩:=or_more k (L:=L) (g:=g + 2) (cs:=cs) (sts:=sts) (ns:=ns ++ nn) (nds:=nds ++ xs) (by omega) q3 (by rw [qP]; decide) h0 h6 (List.length_append ..) (List.length_append ..) w
 obtain ⟨pp,zs,e3,w3,l5,l6⟩:=or_more l (L:=L) (g:=g + 1) (cs:=cs) (sts:=sts) (ns:=ns ++ nn ++ mm) (nds:=nds ++ xs ++ ys) (by omega) q4 (by rw [ez]; exact hu) h0 h6 (by simp only [List.length_append]; omega) (by simp only [List.length_append]; omega) w2
 refine ⟨nn ++ mm ++ pp,xs ++ ys ++ zs,?_,w3,by simp only [List.length_append,List.length_cons]; omega,by simp only [List.length_append,List.length_cons]; omega⟩
 rw [exprQ_succ,e,Option.bind_some]
 show orQ L (g + 3) (St (n + ts.length) d P (ns ++ nn) cs sts (nds ++ xs)) _ = _
 rw [e2,e3,or_end (by rw [ez]; exact hu2),ez]
 simp only [List.append_assoc]
end RR
namespace RR
open Go Go.RowKit
structure Pc where
 ps:List ByteArray
 v:Bool
 a:Bool
def leafM (raw:ByteArray) (E:List (ByteArray × Bool)) (ch:Bool) (i:Nat):Pc × Nat :=
 let k:=nxW raw (E.length + 3) i
 (if k.1 < E.length then ⟨[(E[k.1]?.getD (⟨#[]⟩,false)).1],(E[k.1]?.getD (⟨#[]⟩,false)).2,false⟩ else if k.1 = E.length then ⟨[tTrue],true,false⟩ else if k.1 = E.length + 1 then ⟨[tFalse],false,false⟩ else ⟨[tAsk],ch,true⟩,k.2)
def negM (raw:ByteArray) (p:Pc × Nat):Pc × Nat :=
 let k:=nxW raw 3 p.2
 (if k.1 = 1 then ⟨tBang :: p.1.ps,!p.1.v,p.1.a⟩ else p.1,k.2)
def fac0 (raw:ByteArray) (E:List (ByteArray × Bool)) (ch:Bool) (i:Nat):Pc × Nat:=negM raw (leafM raw E ch i)
def mixM (k:Nat) (a b c:Pc):Pc :=
 if k = 1 then ⟨a.ps ++ ([tB,tAnd,tB] ++ b.ps),a.v && b.v,a.a || b.a⟩
 else if k = 2 then ⟨a.ps ++ ([tOr] ++ b.ps),a.v || b.v,a.a || b.a⟩
 else if k = 3 then ⟨a.ps ++ ([tB,tOr,tB] ++ (b.ps ++ ([tB,tAnd,tB] ++ c.ps))),a.v || (b.v && c.v),a.a || b.a || c.a⟩
 else if k = 4 then ⟨a.ps ++ ([tAnd] ++ (b.ps ++ ([tOr] ++ c.ps))),(a.v && b.v) || c.v,a.a || b.a || c.a⟩
 else if k = 5 then ⟨a.ps ++ ([tB,tOr,tB] ++ (b.ps ++ ([tB,tOr,tB] ++ c.ps))),a.v || b.v || c.v,a.a || b.a || c.a⟩
 else a
def expM (raw:ByteArray) (fac:Nat→Pc × Nat) (i:Nat):Pc × Nat :=
 let a:=fac i
 let b:=fac a.2
 let c:=fac b.2
 let k:=nxW raw 6 c.2
 (mixM k.1 a.1 b.1 c.1,k.2)
def exp0 (raw:ByteArray) (E:List (ByteArray × Bool)) (ch:Bool) (i:Nat):Pc × Nat:=expM raw (fac0 raw E ch) i
def brkM (raw:ByteArray) (E:List (ByteArray × Bool)) (ch:Bool) (l:Pc × Nat):Pc × Nat :=
 let k:=nxW raw 2 l.2
 if k.1 = 1 then (⟨tOpen :: ((exp0 raw E ch k.2).1.ps ++ [tShut]),(exp0 raw E ch k.2).1.v,(exp0 raw E ch k.2).1.a⟩,(exp0 raw E ch k.2).2) else (l.1,k.2)
def fac1 (raw:ByteArray) (E:List (ByteArray × Bool)) (ch:Bool) (i:Nat):Pc × Nat:=negM raw (brkM raw E ch (leafM raw E ch i))
def exp1 (raw:ByteArray) (E:List (ByteArray × Bool)) (ch:Bool) (i:Nat):Pc × Nat:=expM raw (fac1 raw E ch) i
def NmE (t:ByteArray):Prop:=isNameB t = true∧isWordP t = true∧t.size ≤ 5∧(isBlankP t || memB signs t) = false∧(t = tOpen→False)∧(t = tTrue→False)∧(t = tFalse→False)∧(t = tAsk→False)∧(t = tBang→False)∧(t = tShut→False)∧(t = tSemi→False)
structure PlnP (E:List (ByteArray × Bool)) (ch:Bool) (K D n:Nat) (p:Pc):Prop where
 is:∃ ts,Row p.ps ts n∧PlnOk E ch K D ts p.v p.a
structure FacP (E:List (ByteArray × Bool)) (ch:Bool) (K D n:Nat) (p:Pc):Prop where
 is:∃ ts,Row p.ps ts n∧FacOk E ch K D ts p.v p.a
structure ExpP (E:List (ByteArray × Bool)) (ch:Bool) (K D n:Nat) (p:Pc):Prop where
 is:∃ ts,Row p.ps ts n∧ExpOk E ch K D ts p.v p.a
theorem Row.more {a ts:List ByteArray} {n m:Nat} (h:Row a ts n) (hm:n ≤ m):Row a ts m:=⟨h.adj,h.toks,Nat.le_trans h.size hm⟩
theorem Row.in1 {a ts:List ByteArray} {n:Nat} {t:ByteArray} (h:Row a ts n) (ht:(isBlankP t || memB signs t) = true) (hb:isBlankP t = false) (hs:t.size = 1):Row (t :: a) (t :: ts) (n + 1):=by
 obtain ⟨c,e⟩:=h.adj
 refine ⟨⟨c,?_⟩,?_,?_⟩
 ·show (if isBlankP t || memB signs t then RR.adj false a else _) = some c
  rw [ht,if_pos rfl,e]
 ·show toksP ([t] ++ a) = _
  rw [toksP_app,h.toks]
  have e1:toksP [t] = [t]:=by unfold toksP; rw [List.filter_cons,hb]; rfl
  rw [e1]; rfl
 ·show (flat ([t] ++ a)).size ≤ n + 1
  rw [size_flat_app]
  have e1:(flat [t]).size = t.size:=by
   show (t ++ ByteArray.empty).size = t.size
   rw [ByteArray.append_empty]
  have:=h.size
  omega
theorem leaf_pln (raw:ByteArray) {E:List (ByteArray × Bool)} (ch:Bool) (i:Nat) (hE:∀ x ∈ E,NmE x.1):PlnP E ch 0 0 5 (leafM raw E ch i).1:=by
 unfold leafM
 simp only []
 generalize (nxW raw (E.length + 3) i).1 = k
 by_cases h1:k < E.length
 ·rw [if_pos h1,List.getElem?_eq_getElem h1,Option.getD_some]
  have hm:E[k] ∈ E:=List.getElem_mem h1
  obtain ⟨n1,n2,n3,n4,n5⟩:=hE _ hm
  have n6:isBlankP E[k].1 = false:=by
   rw [Bool.or_eq_false_iff] at n4; exact n4.1
  refine ⟨[E[k].1],⟨⟨true,?_⟩,?_,?_⟩,pln_name hm n1 n5⟩
  ·show (if isBlankP E[k].1 || memB signs E[k].1 then RR.adj false [] else if isWordP E[k].1 && !false then RR.adj true [] else none) = some true
   rw [n4,n2]; rfl
  ·show toksP [E[k].1] = _
   unfold toksP
   rw [List.filter_cons,n6]; rfl
  ·show (E[k].1 ++ ByteArray.empty).size ≤ 5
   rw [ByteArray.append_empty]; exact n3
 rw [if_neg h1]
 by_cases h2:k = E.length
 ·rw [if_pos h2]
  exact ⟨[tTrue],⟨⟨true,rfl⟩,rfl,by decide⟩,pln_true⟩
 rw [if_neg h2]
 by_cases h3:k = E.length + 1
 ·rw [if_pos h3]
  exact ⟨[tFalse],⟨⟨true,rfl⟩,rfl,by decide⟩,pln_false⟩
 rw [if_neg h3]
 exact ⟨[tAsk],⟨⟨false,rfl⟩,rfl,by show (flat [tAsk]).size ≤ 5; decide⟩,pln_ask⟩
theorem FacOk.more {E:List (ByteArray × Bool)} {ch:Bool} {K K2 D D2:Nat} {ts:List ByteArray} {v a:Bool} (h:FacOk E ch K D ts v a) (hK:K ≤ K2) (hD:D ≤ D2):FacOk E ch K2 D2 ts v a :=
 ⟨h.hd,fun L f n d P ns cs sts nds hf hL h0 h6=>h.rd L f n d P ns cs sts nds (by omega) hL h0 (by omega)⟩
theorem ExpOk.more {E:List (ByteArray × Bool)} {ch:Bool} {K K2 D D2:Nat} {ts:List ByteArray} {v a:Bool} (h:ExpOk E ch K D ts v a) (hK:K ≤ K2) (hD:D ≤ D2):ExpOk E ch K2 D2 ts v a :=
 ⟨h.hd,fun L f n d P ns cs sts nds hf hL hu hu2 h0 h6=>h.rd L f n d P ns cs sts nds (by omega) hL hu hu2 h0 (by omega)⟩
theorem PlnOk.more {E:List (ByteArray × Bool)} {ch:Bool} {K K2 D D2:Nat} {ts:List ByteArray} {v a:Bool} (h:PlnOk E ch K D ts v a) (hK:K ≤ K2) (hD:D ≤ D2):PlnOk E ch K2 D2 ts v a :=
 ⟨h.first,h.hd,fun L f n d P ns cs sts nds hf hL h0 h6=>h.rd L f n d P ns cs sts nds (by omega) hL h0 (by omega)⟩
theorem neg_fac {raw:ByteArray} {E:List (ByteArray × Bool)} {ch:Bool} {K D n:Nat} {p:Pc × Nat} (h:PlnP E ch K D n p.1):FacP E ch (K + 3) D (n + 1) (negM raw p).1:=by
 obtain ⟨ts,r,o⟩:=h.is
 unfold negM
 simp only []
 split
 ·exact ⟨tBang :: ts,r.in1 rfl rfl rfl,fac_bang o⟩
 ·exact ⟨ts,r.more (by omega),(fac_plain o).more (by omega) (Nat.le_refl _)⟩
theorem mix_exp {E:List (ByteArray × Bool)} {ch:Bool} {K D n:Nat} {a b c:Pc} (k:Nat) (ha:FacP E ch K D n a) (hb:FacP E ch K D n b) (hc:FacP E ch K D n c):ExpP E ch (K + 7) D (3 * n + 6) (mixM k a b c):=by
 obtain ⟨ta,ra,oa⟩:=ha.is
 obtain ⟨tb,rb,ob⟩:=hb.is
 obtain ⟨tc,rc,oc⟩:=hc.is
 have a1:=trm_one oa
 have b1:=trm_one ob
 have c1:=trm_one oc
 have up:∀ {ts:List ByteArray} {v a:Bool},TrmOk E ch (K + 2) D ts v a→TrmOk E ch (K + 3) D ts v a:=fun h=>⟨h.hd,fun L f n d P ns cs sts nds hf hL hu h0 h6=>h.rd L f n d P ns cs sts nds (by omega) hL hu h0 h6⟩
 unfold mixM
 split
 ·have r:=ra.app (k:=3) (m0:=[tB,tAnd,tB]) (fun _=>rfl) rfl rfl rb
  exact ⟨_,r.more (by omega),(exp_one (trm_two oa ob)).more (by omega) (Nat.le_refl _)⟩
 split
 ·have r:=ra.app (k:=1) (m0:=[tOr]) (fun _=>rfl) rfl rfl rb
  exact ⟨_,r.more (by omega),(exp_two a1 b1).more (by omega) (Nat.le_refl _)⟩
 split
 ·have r:=ra.app (k:=3) (m0:=[tB,tOr,tB]) (fun _=>rfl) rfl rfl (rb.app (k:=3) (m0:=[tB,tAnd,tB]) (fun _=>rfl) rfl rfl rc)
  have o:=(exp_two (up a1) (trm_two ob oc)).more (K2:=K + 7) (by omega) (Nat.le_refl D)
  rw [← Bool.or_assoc] at o
  exact ⟨_,r.more (by omega),o⟩
 split
 ·have r:=ra.app (k:=1) (m0:=[tAnd]) (fun _=>rfl) rfl rfl (rb.app (k:=1) (m0:=[tOr]) (fun _=>rfl) rfl rfl rc)
  have o:=(exp_two (trm_two oa ob) (up c1)).more (K2:=K + 7) (by omega) (Nat.le_refl D)
  rw [List.append_assoc] at o
  exact ⟨_,r.more (by omega),o⟩
 split
 ·have r:=ra.app (k:=3) (m0:=[tB,tOr,tB]) (fun _=>rfl) rfl rfl (rb.app (k:=3) (m0:=[tB,tOr,tB]) (fun _=>rfl) rfl rfl rc)
  exact ⟨_,r.more (by omega),(exp_three a1 b1 c1).more (by omega) (Nat.le_refl _)⟩
 ·exact ⟨ta,ra.more (by omega),(exp_one a1).more (by omega) (Nat.le_refl _)⟩
theorem exp_exp {raw:ByteArray} {E:List (ByteArray × Bool)} {ch:Bool} {K D n:Nat} {fac:Nat→Pc × Nat} (h:∀ i,FacP E ch K D n (fac i).1) (i:Nat):ExpP E ch (K + 7) D (3 * n + 6) (expM raw fac i).1:=mix_exp _ (h _) (h _) (h _)
theorem exp0_ok (raw:ByteArray) {E:List (ByteArray × Bool)} (ch:Bool) (i:Nat) (hE:∀ x ∈ E,NmE x.1):ExpP E ch 10 0 24 (exp0 raw E ch i).1:=exp_exp (fun j=>neg_fac (leaf_pln raw ch j hE)) i
theorem brk_pln (raw:ByteArray) {E:List (ByteArray × Bool)} (ch:Bool) (hE:∀ x ∈ E,NmE x.1) {l:Pc × Nat} (hl:PlnP E ch 0 0 5 l.1):PlnP E ch 11 1 26 (brkM raw E ch l).1:=by
 unfold brkM
 simp only []
 split
 ·obtain ⟨ts,r,o⟩:=(exp0_ok raw ch (nxW raw 2 l.2).2 hE).is
  have r0:Row ([]:List ByteArray) [] 0:=⟨⟨false,rfl⟩,rfl,Nat.le_refl _⟩
  have r1:=(r.app (m0:=[tShut]) (fun _=>rfl) rfl rfl r0).in1 (t:=tOpen) rfl rfl rfl
  exact ⟨_,r1,pln_brack o⟩
 ·obtain ⟨ts,r,o⟩:=hl.is
  exact ⟨ts,r.more (by omega),o.more (by omega) (by omega)⟩
theorem exp1_ok (raw:ByteArray) {E:List (ByteArray × Bool)} (ch:Bool) (i:Nat) (hE:∀ x ∈ E,NmE x.1):ExpP E ch 21 1 87 (exp1 raw E ch i).1:=exp_exp (fun j=>neg_fac (brk_pln raw ch hE (leaf_pln raw ch j hE))) i
theorem leafM_in (raw:ByteArray) (E:List (ByteArray × Bool)) (ch:Bool) {i:Nat} (h:i ≤ raw.size):(leafM raw E ch i).2 ≤ raw.size:=nx_in raw _ h
theorem negM_in (raw:ByteArray) {p:Pc × Nat} (h:p.2 ≤ raw.size):(negM raw p).2 ≤ raw.size:=nx_in raw 3 h
theorem expM_in {raw:ByteArray} {fac:Nat→Pc × Nat} (hf:∀ j,j ≤ raw.size→(fac j).2 ≤ raw.size) {i:Nat} (h:i ≤ raw.size):(expM raw fac i).2 ≤ raw.size:=nx_in raw 6 (hf _ (hf _ (hf _ h)))
theorem fac0_in (raw:ByteArray) (E:List (ByteArray × Bool)) (ch:Bool) {i:Nat} (h:i ≤ raw.size):(fac0 raw E ch i).2 ≤ raw.size:=negM_in raw (leafM_in raw E ch h)
theorem exp0_in (raw:ByteArray) (E:List (ByteArray × Bool)) (ch:Bool) {i:Nat} (h:i ≤ raw.size):(exp0 raw E ch i).2 ≤ raw.size:=expM_in (fun _ hj=>fac0_in raw E ch hj) h
theorem brkM_in (raw:ByteArray) (E:List (ByteArray × Bool)) (ch:Bool) {l:Pc × Nat} (h:l.2 ≤ raw.size):(brkM raw E ch l).2 ≤ raw.size:=by
 unfold brkM
 simp only []
 split
 ·exact exp0_in raw E ch (nx_in raw 2 h)
 ·exact nx_in raw 2 h
theorem fac1_in (raw:ByteArray) (E:List (ByteArray × Bool)) (ch:Bool) {i:Nat} (h:i ≤ raw.size):(fac1 raw E ch i).2 ≤ raw.size:=negM_in raw (brkM_in raw E ch (leafM_in raw E ch h))
theorem exp1_in (raw:ByteArray) (E:List (ByteArray × Bool)) (ch:Bool) {i:Nat} (h:i ≤ raw.size):(exp1 raw E ch i).2 ≤ raw.size:=expM_in (fun _ hj=>fac1_in raw E ch hj) h
end RR
namespace Go.Proofs.YtmfcpbhdggonfaaGreatDoor
open Go.RowKit RR
def Flat (w:World) (ao:Option Addr) (xs:List Value):Prop:=xs = [] ∨ ∃ b o,b < w.heap.size∧ao = some ⟨b,o,none⟩∧w.rangeAt b o xs
theorem Flat.below {w w':World} {ao:Option Addr} {xs:List Value} (h:Flat w ao xs) (hb:Below w.heap.size w w'):Flat w' ao xs:=by
 rcases h with h | ⟨b,o,h1,h2,h3⟩
 ·exact .inl h
 ·exact .inr ⟨b,o,Nat.lt_of_lt_of_le h1 hb.size,h2,fun j v hv=>(hb.cell (p:=⟨b,o + j,none⟩) h1).trans (h3 j v hv)⟩
theorem flatMap_at {α:Type} (f:α→List Value) (n:Nat) (hn:∀ a,(f a).length = n):∀ (l:List α) (i:Nat) (h:i < l.length) (j:Nat),j < n→(l.flatMap f)[i * n + j]? = (f l[i])[j]?
 | [],i,h,j,hj=>by simp at h
 | a :: r,0,h,j,hj=>by
  rw [List.flatMap_cons,List.getElem?_append_left (by rw [hn]; omega)]
  simp
 | a :: r,i + 1,h,j,hj=>by
  rw [List.flatMap_cons,List.getElem?_append_right (by rw [hn,Nat.succ_mul]; omega)]
  have:=flatMap_at f n hn r i (by simpa using h) j hj
  rw [hn,Nat.succ_mul,show i * n + n + j - n = i * n + j by omega,this]
  simp
theorem Flat.get {α:Type} {f:α→List Value} {n:Nat} (hn:∀ a,(f a).length = n) (hp:0 < n) {w:World} {ao:Option Addr} {l:List α} (h:Flat w ao (l.flatMap f)) (i:Nat) (hi:i < l.length):∃ b o,b < w.heap.size∧ao = some ⟨b,o,none⟩∧w.rangeAt b (o + i * n) (f l[i]):=by
 rcases h with h | ⟨b,o,h1,h2,h3⟩
 ·have:=flatMap_at f n hn l i hi 0 hp
  have h2:(f l[i])[0]? = none:=by rw [← this,h]; rfl
  have h3:=List.getElem?_eq_none_iff.1 h2
  rw [hn] at h3
  omega
 ·refine ⟨b,o,h1,h2,fun j v hv=>?_⟩
  have hj:j < n:=by
   have:=(List.getElem?_eq_some_iff.1 hv).1
   rw [hn] at this
   exact this
  rw [show o + i * n + j = o + (i * n + j) by omega]
  exact h3 (i * n + j) v ((flatMap_at f n hn l i hi j hj).trans hv)
theorem flat_of_owns {w:World} {base:Nat} {e:TypeId} {size:Nat} {v:Value} {n:Nat} {xs:List Value} (h:w.ownsRow base e size v n xs):∃ ao cap,v = .slice ao n cap∧Flat w ao xs:=by
 obtain ⟨h1,h2 | ⟨g,cap,cur,hv,hb,hh,hcap,hmax,hsz,htk⟩⟩:=h
 ·refine ⟨none,0,?_,.inl ?_⟩
  ·rw [h2.1,h2.2]
  ·exact List.eq_nil_of_length_eq_zero (by rw [h1,h2.2,Nat.zero_mul])
 ·refine ⟨some ⟨g,0,none⟩,cap,hv,.inr ⟨g,0,(Array.getElem?_eq_some_iff.1 hh).1,rfl,fun j x hx=>?_⟩⟩
  have e2:(cur.toList.take (n * size))[j]? = xs[j]?:=by rw [htk]
  have hj:=(List.getElem?_eq_some_iff.1 hx).1
  rw [List.getElem?_take_of_lt (by omega),Array.getElem?_toList] at e2
  simp only [World.cell?,hh,Nat.zero_add]
  rw [e2,hx]
  rfl
def ndC (n:Nd):List Value:=[.int .i64 n.sign,.int .i64 n.name,.int .i64 n.left,.int .i64 n.right]
def exC (n:Int × Int):List Value:=[.int .i64 n.1,.int .i64 n.2]
def stC (x:Stm × Value):List Value:=[.int .i64 x.1.kind,.int .i64 x.1.at_,.int .i64 x.1.blk.proc,.int .i64 x.1.blk.owner,.bool x.1.blk.els,.int .i64 x.1.target,.int .i64 x.1.name,x.2]
def ExSl (w:World) (v:Value) (l:List (Int × Int)):Prop:=∃ ao cap,v = .slice ao l.length cap∧Flat w ao (l.flatMap exC)
def StSl (w:World) (ao:Option Addr) (sts:List Stm):Prop:=∃ l:List (Stm × Value),l.map Prod.fst = sts∧Flat w ao (l.flatMap stC)∧∀ x ∈ l,ExSl w x.2 x.1.vals
def NdSl (w:World) (ao:Option Addr) (l:List Nd):Prop:=Flat w ao (l.flatMap ndC)
theorem ExSl.below {w w':World} {v:Value} {l:List (Int × Int)} (h:ExSl w v l) (hb:Below w.heap.size w w'):ExSl w' v l:=by
 obtain ⟨ao,cap,h1,h2⟩:=h
 exact ⟨ao,cap,h1,h2.below hb⟩
theorem StSl.below {w w':World} {ao:Option Addr} {l:List Stm} (h:StSl w ao l) (hb:Below w.heap.size w w'):StSl w' ao l:=by
 obtain ⟨m,h1,h2,h3⟩:=h
 exact ⟨m,h1,h2.below hb,fun x hx=>(h3 x hx).below hb⟩
theorem NdSl.below {w w':World} {ao:Option Addr} {l:List Nd} (h:NdSl w ao l) (hb:Below w.heap.size w w'):NdSl w' ao l:=Flat.below h hb
end Go.Proofs.YtmfcpbhdggonfaaGreatDoor
namespace Go.Proofs.YtmfcpbhdggonfaaGreatDoor
open Go.RowKit
theorem res_cell {fn:Func} {p:Tmp} {ty:TypeId} {tmps:Array Value} {P:Program} {w:World} {b o:Nat} {cs:List Value} {d:TypeDesc} (h:fn.results = #[.cell p ty]) (ht:tmps.getD p undef = .pointer (some ⟨b,o,none⟩)) (hc:w.rangeAt b o cs) (hu:P.underlying ty = some d) (hd:d.isRow = true) (hi:(P.info? ty).map (·.size) = some cs.length) :
    (results fn tmps).run P w = .ok (.agg cs.toArray) w:=by
 have h1:(asAddr (tmps[p]?.getD undef)).run P w = .ok ⟨b,o,none⟩ w:=by
  rw [Array.getD_eq_getD_getElem?] at ht
  rw [ht]; simp [asAddr]
 simp only [results,h]
 simp only [Sem.run_bind,Result.andThen,List.mapM_toArray,Array.getD_eq_getD_getElem?]
 simp [Sem.run_bind,Result.andThen,h1,run_loadVar_mid w b o ty cs d hc hu hd hi]
theorem res_cell_tmp {fn:Func} {p u:Tmp} {ty:TypeId} {tmps:Array Value} {P:Program} {w:World} {b o:Nat} {cs:List Value} {d:TypeDesc} {x:Value} (h:fn.results = #[.cell p ty,.tmp u]) (ht:tmps.getD p undef = .pointer (some ⟨b,o,none⟩)) (hx:tmps.getD u undef = x) (hc:w.rangeAt b o cs) (hu:P.underlying ty = some d) (hd:d.isRow = true) (hi:(P.info? ty).map (·.size) = some cs.length) :
    (results fn tmps).run P w = .ok (.tuple #[.agg cs.toArray,x]) w:=by
 have h1:(asAddr (tmps.getD p undef)).run P w = .ok ⟨b,o,none⟩ w:=by rw [ht]; simp [asAddr]
 rw [results_cell_tmp h,h1]
 simp [Result.andThen,run_loadVar_mid w b o ty cs d hc hu hd hi,hx]
theorem there_of_block {w:World} {b:Nat} {C:Array Value} {t:TypeId} (hb:w.heap[b]? = some (.cells C t (0,0))) {o n:Nat} (hn:o + n ≤ C.size):w.there b o n:=fun j hj=>by
 refine ⟨?_,by simp [World.frozen?,hb]⟩
 rw [cell_of_row w b (o + j) C t (0,0) hb,Array.getElem?_eq_getElem (by omega)]
 rfl
theorem range_of_block {w:World} {b:Nat} {xs:List Value} {t:TypeId} {fr:Nat × Nat} (hb:w.heap[b]? = some (.cells xs.toArray t fr)) {o:Nat} {cs:List Value} (h:∀ j v,cs[j]? = some v→xs[o + j]? = some v):w.rangeAt b o cs:=fun j v hv=>by
 rw [cell_of_row w b (o + j) _ t fr hb]
 simpa using h j v hv
theorem range_whole {w:World} {b:Nat} {xs:List Value} {t:TypeId} {fr:Nat × Nat} (hb:w.heap[b]? = some (.cells xs.toArray t fr)):w.rangeAt b 0 xs:=range_of_block hb fun j v hv=>by simpa using hv
def setAll:Array Value→Nat→List Value→Array Value
 | C,_,[]=>C
 | C,o,y :: r=>setAll (C.setIfInBounds o y) (o + 1) r
theorem setOne_heap {w:World} {B:Nat} {cs:Array Value} {T:TypeId} (h:w.heap[B]? = some (.cells cs T (0,0))) (o:Nat) (v:Value):(w.setCell ⟨B,o,none⟩ v).heap[B]? = some (.cells (cs.setIfInBounds o v) T (0,0)):=by
 simp only [World.setCell,Array.getElem?_modify]
 rw [if_pos trivial,h]
 rfl
theorem setCells_heap {T:TypeId} {b:Nat}:∀ (ys:List Value) (o:Nat) (w:World) (C:Array Value),w.heap[b]? = some (.cells C T (0,0))→(w.setCells b o ys).heap[b]? = some (.cells (setAll C o ys) T (0,0))
 | [],_,_,_,h=>h
 | y :: r,o,_,_,h=>setCells_heap r (o + 1) _ _ (setOne_heap h o y)
theorem setCells_other {b k:Nat} (hk:k ≠ b):∀ (ys:List Value) (o:Nat) (w:World),(w.setCells b o ys).heap[k]? = w.heap[k]?
 | [],_,_=>rfl
 | y :: r,o,w=>(setCells_other hk r (o + 1) _).trans (Below.heap_setCell w ⟨b,o,none⟩ y k hk)
theorem setCells_below {W:World} {B b:Nat} (hb:B ≤ b):∀ (ys:List Value) (o:Nat) (w:World),Below B W w→Below B W (w.setCells b o ys)
 | [],_,_,h=>h
 | y :: r,o,_,h=>setCells_below hb r (o + 1) _ (h.setCell (p:=⟨b,o,none⟩) hb y)
theorem setAll_get:∀ (ys:List Value) (o:Nat) (C:Array Value) (j:Nat),(setAll C o ys)[j]? = if o ≤ j∧j < o + ys.length∧j < C.size then ys[j - o]? else C[j]?
 | [],o,C,j=>by rw [if_neg (by simp; omega)]; rfl
 | y :: r,o,C,j=>by
  rw [setAll,setAll_get r (o + 1)]
  by_cases h:o = j
  ·subst h
   rw [if_neg (by omega),Array.getElem?_setIfInBounds]
   by_cases h2:o < C.size
   ·have h3:o ≤ o∧o < o + (y :: r).length∧o < C.size:=⟨Nat.le_refl _,by simp,h2⟩
    rw [if_pos (c:=o ≤ o∧o < o + (y :: r).length∧o < C.size) h3]; simp [h2]
   ·rw [if_neg (c:=o ≤ o∧o < o + (y :: r).length∧o < C.size) (fun h=>h2 h.2.2)]; simp [h2]
  ·by_cases h2:o + 1 ≤ j∧j < o + 1 + r.length∧j < C.size
   ·rw [if_pos (by simpa using h2),if_pos ⟨by omega,by simp; omega,h2.2.2⟩,show j - o = (j - (o + 1)) + 1 by omega]
    rfl
   ·rw [if_neg (by simpa using h2),if_neg (by simp; omega),Array.getElem?_setIfInBounds]
    simp [h]
theorem setAll_mid (pre mid post new:List Value) (h:new.length = mid.length):setAll (pre ++ mid ++ post).toArray pre.length new = (pre ++ new ++ post).toArray:=by
 apply Array.ext_getElem?
 intro j
 rw [setAll_get]
 simp only [List.getElem?_toArray,List.size_toArray,List.length_append]
 by_cases h1:j < pre.length
 ·rw [if_neg (by omega),List.append_assoc,List.append_assoc,List.getElem?_append_left h1,List.getElem?_append_left h1]
 ·by_cases h2:j < pre.length + mid.length
  ·rw [if_pos ⟨by omega,by omega,by omega⟩,List.append_assoc,List.getElem?_append_right (by omega),List.getElem?_append_left (by omega)]
  ·rw [if_neg (by omega),List.getElem?_append_right (by simp; omega),List.getElem?_append_right (by simp; omega)]
   simp [h]
theorem setAll_whole (old new:List Value) (h:new.length = old.length):setAll old.toArray 0 new = new.toArray:=by
 have:=setAll_mid [] old [] new h
 simpa using this
end Go.Proofs.YtmfcpbhdggonfaaGreatDoor
namespace RR
open Go Go.RowKit
def readB (c:UInt8):Option (Int × Bool) :=
 if 97 ≤ c.toNat∧c.toNat ≤ 99 then some ((c.toNat:Int) - 97,false)
 else if 65 ≤ c.toNat∧c.toNat ≤ 67 then some ((c.toNat:Int) - 65,true)
 else none
def byteB (s:ByteArray) (k:Nat):UInt8:=if h:k < s.size then s[k] else 0
def followF (p:Plan) (s:ByteArray):Nat→Nat→Cfg→Except Nat Cfg
 | 0,_,c=>.ok c
 | d + 1,k,c =>
  match readB (byteB s k) with
  | none=>.error k
  | some t =>
   match stepF p c t.1 t.2 with
   | none=>.error k
   | some c1=>followF p s d (k + 1) c1
def start1 (p:Plan):Cfg:=startF p p.threads 0 zCfg
structure Vw where
 text:ByteArray
 enabled:ByteArray
 race:Bool
 dead:Bool
def zVw:Vw:=⟨⟨#[]⟩,⟨#[]⟩,false,false⟩
def viewF (p:Plan) (c:Cfg):Vw:=⟨textF p c,enabledF p c,raceF p c,deadF p c⟩
def playP (p:Plan) (s:ByteArray):Vw × Int × Int :=
 if 200 < s.size then (zVw,1,0) else
  match followF p s s.size 0 (start1 p) with
  | .error k=>(zVw,8,k)
  | .ok c=>(viewF p c,0,0)
end RR
namespace Go.Proofs.YtmfcpbhdggonfaaGreatDoor
open Go.RowKit RR
def ndP (n:PNd):List Value:=[.int .i64 n.sign,.int .i64 n.tr.own,.int .i64 n.tr.num,.int .i64 n.left,.int .i64 n.right]
def prP (p:PProc):List Value:=[.int .i64 p.params,.int .i64 p.entry]
def thP (n:Int):List Value:=[.int .i64 n]
def lnL (a:PLine) (v:Value):List Value:=[.int .i64 a.kind,.int .i64 a.at_,.int .i64 a.params,.int .i64 a.next,.int .i64 a.thn,.int .i64 a.els,.int .i64 a.target.own,.int .i64 a.target.num,.int .i64 a.lock,.int .i64 a.proc,v,.bool a.choice,.bool a.r0,.bool a.r1,.bool a.r2,.bool a.r3]
def lnP (x:PLine × Value):List Value:=lnL x.1 x.2
def LnSl (w:World) (ao:Option Addr) (ls:List PLine):Prop:=∃ l:List (PLine × Value),l.map Prod.fst = ls∧Flat w ao (l.flatMap lnP)∧∀ x ∈ l,ExSl w x.2 x.1.vals
theorem LnSl.below {w w':World} {ao:Option Addr} {l:List PLine} (h:LnSl w ao l) (hb:Below w.heap.size w w'):LnSl w' ao l:=by
 obtain ⟨m,h1,h2,h3⟩:=h
 exact ⟨m,h1,h2.below hb,fun x hx=>(h3 x hx).below hb⟩
def PlanAt (w:World) (p:Plan) (a b:Option Addr) (c d:Option Addr):Prop :=
 Flat w a (p.threads.flatMap thP)∧Flat w b (p.procs.flatMap prP)∧LnSl w c p.lines∧Flat w d (p.nodes.flatMap ndP)
theorem PlanAt.below {w w':World} {p:Plan} {a b c d:Option Addr} (h:PlanAt w p a b c d) (hb:Below w.heap.size w w'):PlanAt w' p a b c d :=
 ⟨h.1.below hb,h.2.1.below hb,h.2.2.1.below hb,h.2.2.2.below hb⟩
def frmL (f:Frm):List Value:=[.int .i64 f.line,.bool f.p0,.bool f.p1,.bool f.p2]
def thrL (t:Thr):List Value:=.int .i64 t.count :: (frmL t.f0 ++ frmL t.f1 ++ frmL t.f2 ++ frmL t.f3)
def cfgL (c:Cfg):List Value:=[.bool c.s0,.bool c.s1,.bool c.s2,.bool c.s3,.int .i64 c.h0,.int .i64 c.h1,.int .i64 c.h2] ++ thrL c.t0 ++ thrL c.t1 ++ thrL c.t2
end Go.Proofs.YtmfcpbhdggonfaaGreatDoor
