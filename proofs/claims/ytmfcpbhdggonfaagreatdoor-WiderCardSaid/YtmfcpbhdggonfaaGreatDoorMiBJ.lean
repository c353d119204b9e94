/- Programs of a plain kind: their names may be, and what the plan counts. No Go here. -/
import Derived.Test.YtmfcpbhdggonfaaGreatDoorMiBG
import Derived.Test.YtmfcpbhdggonfaaGreatDoorMiAB
import Derived.Test.YtmfcpbhdggonfaaGreatDoorMiAF
import Derived.Test.YtmfcpbhdggonfaaGreatDoorMiBH
import Derived.Test.YtmfcpbhdggonfaaGreatDoorMiAC
import Derived.Test.YtmfcpbhdggonfaaGreatDoorMiBI
import Derived.Test.YtmfcpbhdggonfaaGreatDoorMiAV
namespace RR
open Go Go.RowKit
theorem many_skip:∀ (us r:List Nm) (c:Cts),(∀ x ∈ us,3 < x.role∧x.role < 7)→c.too = false→manyF2 (us ++ r) c = manyF2 r c
 | [],_,_,_,_=>rfl
 | u :: us,r,c,h,hc=>by
  have e:c.add u.role = c:=by
   have:=h u (List.mem_cons_self ..)
   unfold Cts.add
   rw [if_neg (by omega),if_neg (by omega),if_neg (by omega),if_neg (by omega),if_neg (by omega)]
  show (if (c.add u.role).too then some u.at_ else manyF2 (us ++ r) (c.add u.role)) = _
  rw [e,hc]
  exact many_skip us r c (fun x hx=>h x (List.mem_cons_of_mem _ hx)) hc
theorem many_threads:∀ (ts:List Nm) (c:Cts),(∀ x ∈ ts,x.role = 7)→c.too = false→c.th + ts.length ≤ 3→manyF2 ts c = none
 | [],_,_,_,_=>rfl
 | u :: us,c,h,hc,hl=>by
  have e:c.add u.role = { c with th:=c.th + 1 }:=by rw [h u (List.mem_cons_self ..)]; rfl
  have hc':({ c with th:=c.th + 1 }:Cts).too = false:=by
   unfold Cts.too at hc ⊢
   simp only [Bool.or_eq_false_iff,decide_eq_false_iff_not] at hc ⊢
   simp only [List.length_cons] at hl
   omega
  show (if (c.add u.role).too then some u.at_ else manyF2 us (c.add u.role)) = none
  rw [e,hc']
  exact many_threads us _ (fun x hx=>h x (List.mem_cons_of_mem _ hx)) hc' (by simp only [List.length_cons] at hl; show c.th + 1 + us.length ≤ 3; omega)
theorem first_none {p:Nat→Nm→Bool} {ns:List Nm} (h:∀ k (hk:k < ns.length),p k ns[k] = false):∀ (d k:Nat),ns.length - k = d→firstF p ns k = none
 | 0,k,hd=>firstF_out (by omega)
 | d + 1,k,hd=>by rw [firstF_no (by omega) (h k (by omega))]; exact first_none h d (k + 1) (by omega)
theorem clash_none {ns:List Nm} {i:Nat} {n:Nm} (h:∀ j (hj:j < ns.length),clashB i n j ns[j] = false):∀ (d k:Nat),ns.length - k = d→clashF ns i n k = false
 | 0,k,hd=>clashF_out (by omega)
 | d + 1,k,hd=>by rw [clashF_no (by omega) (h k (by omega))]; exact clash_none h d (k + 1) (by omega)
theorem twice_none {ns:List Nm} (h:ns.Pairwise fun m n=>decide (m.role ≤ 3) = true→decide (n.role ≤ 3) = true→m.word ≠ n.word):twiceP ns = none:=by
 refine first_none (fun i hi=>clash_none (fun j hj=>?_) _ 0 rfl) _ 0 rfl
 have pw:=List.pairwise_iff_getElem.1 h
 unfold clashB
 by_cases hw:ns[j].word = ns[i].word
 ·by_cases hr:ns[i].role ≤ 3∧ns[j].role ≤ 3
  ·rcases Nat.lt_trichotomy j i with hji | hji | hji
   ·exact absurd hw (pw j i hj hi hji (decide_eq_true hr.2) (decide_eq_true hr.1))
   ·subst hji
    have e:decide (j < j) = false:=decide_eq_false (Nat.lt_irrefl _)
    rw [e]
    simp only [Bool.and_false,Bool.false_or,Bool.or_false]
    have:(decide (ns[j].role = 3) && isWholeB ns[j].role) = false:=by
     unfold isWholeB
     by_cases h3:ns[j].role = 3
     ·rw [h3]; rfl
     ·rw [decide_eq_false h3]; rfl
    rw [this,Bool.and_false]
   ·exact absurd hw.symm (pw i j hi hj hji (decide_eq_true hr.1) (decide_eq_true hr.2))
  ·have wh:∀ r:Nat,3 < r→isWholeB r = false∧decide (r = 3) = false:=fun r h=>⟨by unfold isWholeB; rw [decide_eq_false (by omega),decide_eq_false (by omega),decide_eq_false (by omega)]; rfl,decide_eq_false (by omega)⟩
   by_cases h1:3 < ns[i].role
   ·rw [(wh _ h1).1,(wh _ h1).2]; simp
   ·have h2:3 < ns[j].role:=by omega
    rw [(wh _ h2).1,(wh _ h2).2]; simp
 ·rw [decide_eq_false hw]; rfl
theorem param_skip (word:ByteArray):∀ (us:List Nm) (c:Int × Nat),(∀ x ∈ us,3 < x.role)→us.foldl (pstep word) c = c
 | [],_,_=>rfl
 | u :: us,c,h=>by
  have e:pstep word c u = c:=by
   have:=h u (List.mem_cons_self ..)
   unfold pstep
   simp only []
   rw [if_neg (fun q=>by omega),if_neg (fun q=>by omega)]
  show us.foldl (pstep word) (pstep word c u) = c
  rw [e]
  exact param_skip word us c fun x hx=>h x (List.mem_cons_of_mem _ hx)
theorem wrong_none {ns:List Nm}:∀ (cs:List Cl),(∀ c ∈ cs,c.values = paramsP ns c.word)→wrongP ns cs = none
 | [],_=>rfl
 | c :: r,h=>by
  show (if c.values ≠ paramsP ns c.word then some c.at_ else wrongP ns r) = none
  rw [if_neg (by rw [h c (List.mem_cons_self ..)]; exact fun q=>q rfl)]
  exact wrong_none r fun x hx=>h x (List.mem_cons_of_mem _ hx)
theorem nk_is {n:Nm} {w:ByteArray} {r:Nat} {p:Int} (h:nk n = (w,r,p)):∃ q,n = ⟨w,q,r,p⟩:=by
 obtain ⟨a,b,c,d⟩:=n
 have e1:a = w:=congrArg (·.1) h
 have e2:c = r:=congrArg (·.2.1) h
 have e3:d = p:=congrArg (·.2.2) h
 subst e1 e2 e3
 exact ⟨b,rfl⟩
structure NmOk (ns:List Nm) (k:Nat):Prop where
 is:∃ p1 p2 p3 p4 p5 p6 p7 us vs ts,ns = [⟨tX,p1,0,-1⟩,⟨tY,p2,0,-1⟩,⟨tM,p3,1,-1⟩,⟨tN,p4,1,-1⟩,⟨tP,p5,2,0⟩,⟨tV,p6,3,0⟩] ++ (us ++ ([⟨tQ,p7,2,1⟩] ++ (vs ++ ts)))∧(∀ x ∈ us,UseOk true 0 x)∧(∀ x ∈ vs,UseOk false 1 x)∧ts.length = k∧(∀ x ∈ ts,x.role = 7∧(x.word = tP ∨ x.word = tQ))
theorem PgOut.nm {σ:PSt} {k:Nat} (h:PgOut σ k):NmOk σ.names k:=by
 obtain ⟨a,us,b,vs,ts,e,ha,hb,hu,hv,hl,ht⟩:=h.names
 obtain ⟨n1,a,rfl,k1,ha⟩:=List.map_eq_cons_iff.1 ha
 obtain ⟨n2,a,rfl,k2,ha⟩:=List.map_eq_cons_iff.1 ha
 obtain ⟨n3,a,rfl,k3,ha⟩:=List.map_eq_cons_iff.1 ha
 obtain ⟨n4,a,rfl,k4,ha⟩:=List.map_eq_cons_iff.1 ha
 obtain ⟨n5,a,rfl,k5,ha⟩:=List.map_eq_cons_iff.1 ha
 obtain ⟨n6,a,rfl,k6,ha⟩:=List.map_eq_cons_iff.1 ha
 have ha:=List.map_eq_nil_iff.1 ha
 subst ha
 obtain ⟨n7,b,rfl,k7,hb⟩:=List.map_eq_cons_iff.1 hb
 have hb:=List.map_eq_nil_iff.1 hb
 subst hb
 obtain ⟨p1,rfl⟩:=nk_is k1
 obtain ⟨p2,rfl⟩:=nk_is k2
 obtain ⟨p3,rfl⟩:=nk_is k3
 obtain ⟨p4,rfl⟩:=nk_is k4
 obtain ⟨p5,rfl⟩:=nk_is k5
 obtain ⟨p6,rfl⟩:=nk_is k6
 obtain ⟨p7,rfl⟩:=nk_is k7
 exact ⟨p1,p2,p3,p4,p5,p6,p7,us,vs,ts,e,hu,hv,hl,ht⟩
theorem use_role {v:Bool} {P:Int} {n:Nm} (h:UseOk v P n):3 < n.role∧n.role < 7:=by
 rcases h.2 with ⟨e,_⟩ | ⟨e,_⟩ | ⟨e,_⟩ <;> omega
theorem names_ok {ns:List Nm} {cs:List Cl} {k:Nat} (h:NmOk ns k) (hk:k ≤ 3) (hc:∀ c ∈ cs,ClOk c):outCheck ns cs = (0,0):=by
 obtain ⟨p1,p2,p3,p4,p5,p6,p7,us,vs,ts,e,hu,hv,hl,ht⟩:=h.is
 have hu':∀ x ∈ us,3 < x.role∧x.role < 7:=fun x hx=>use_role (hu x hx)
 have hv':∀ x ∈ vs,3 < x.role∧x.role < 7:=fun x hx=>use_role (hv x hx)
 have m1:manyP ns = none:=by
  rw [e]
  unfold manyP
  show manyF2 (us ++ ([⟨tQ,p7,2,1⟩] ++ (vs ++ ts))) ⟨2,2,1,1,0⟩ = none
  rw [many_skip us _ _ hu' (by decide)]
  show manyF2 (vs ++ ts) ⟨2,2,2,0,0⟩ = none
  rw [many_skip vs _ _ hv' (by decide)]
  exact many_threads ts _ (fun x hx=>(ht x hx).1) (by decide) (by show 0 + ts.length ≤ 3; omega)
 have m2:twiceP ns = none:=by
  refine twice_none ?_
  have key:(ns.filter fun n=>decide (n.role ≤ 3)).Pairwise fun m n=>m.word ≠ n.word:=by
   have f1:us.filter (fun n=>decide (n.role ≤ 3)) = []:=List.filter_eq_nil_iff.2 fun x hx=>by have:=hu' x hx; simp; omega
   have f2:vs.filter (fun n=>decide (n.role ≤ 3)) = []:=List.filter_eq_nil_iff.2 fun x hx=>by have:=hv' x hx; simp; omega
   have f3:ts.filter (fun n=>decide (n.role ≤ 3)) = []:=List.filter_eq_nil_iff.2 fun x hx=>by have:=(ht x hx).1; simp; omega
   rw [e,List.filter_append,List.filter_append,List.filter_append,List.filter_append,f1,f2,f3]
   have:([tX,tY,tM,tN,tP,tV,tQ]:List ByteArray).Pairwise fun m n=>m ≠ n:=by decide
   exact (List.pairwise_map (f:=Nm.word)).1 this
  exact List.pairwise_filter.1 key
 have gv:∀ {w:ByteArray} {r:Nat},isGivenB [⟨tX,p1,0,-1⟩,⟨tY,p2,0,-1⟩,⟨tM,p3,1,-1⟩,⟨tN,p4,1,-1⟩,⟨tP,p5,2,0⟩,⟨tV,p6,3,0⟩] w r = true→isGivenB ns w r = true:=fun hg=>by
  unfold isGivenB at hg ⊢
  rw [e,List.any_append,hg]; rfl
 have gq:isGivenB ns tQ 2 = true:=by
  unfold isGivenB
  rw [e,List.any_append,List.any_append,List.any_append]
  simp
 have gpv:isParamB ns tV 0 = true:=by
  unfold isParamB
  rw [e,List.any_append]
  simp
 have m3:misP ns = none:=by
  have all:∀ n ∈ ns,misusedB ns n = false:=by
   intro n hn
   have use:∀ {v:Bool} {P:Int},UseOk v P n→(v = true→P = 0)→misusedB ns n = false:=by
    intro v P hu hP
    unfold misusedB
    rcases hu.2 with ⟨er,ew⟩ | ⟨er,ew⟩ | ⟨er,ew⟩
    ·rw [if_pos er]
     rcases ew with ew | ew | ⟨ev,ew⟩
     ·rw [ew,gv rfl]; rfl
     ·rw [ew,gv rfl]; rfl
     ·rw [ew,hu.1,hP ev,gpv,Bool.not_true,Bool.and_false]
    ·rw [if_neg (by omega),if_pos er]
     rcases ew with ew | ew
     ·rw [ew,gv rfl]; rfl
     ·rw [ew,gv rfl]; rfl
    ·rw [if_neg (by omega),if_neg (by omega),if_pos (.inl er)]
     rcases ew with ew | ew
     ·rw [ew,gv rfl]; rfl
     ·rw [ew,gq]; rfl
   rw [e] at hn
   rcases List.mem_append.1 hn with hn | hn
   ·simp only [List.mem_cons,List.not_mem_nil,or_false] at hn
    rcases hn with hn | hn | hn | hn | hn | hn <;> (rw [hn]; rfl)
   ·rcases List.mem_append.1 hn with hn | hn
    ·exact use (hu n hn) fun _=>rfl
    ·rcases List.mem_append.1 hn with hn | hn
     ·rw [List.mem_singleton.1 hn]; rfl
     ·rcases List.mem_append.1 hn with hn | hn
      ·exact use (hv n hn) fun q=>by cases q
      ·obtain ⟨er,ew⟩:=ht n hn
       unfold misusedB
       rw [if_neg (by omega),if_neg (by omega),if_pos (.inr er)]
       rcases ew with ew | ew
       ·rw [ew,gv rfl]; rfl
       ·rw [ew,gq]; rfl
  exact first_none (fun k hk=>all _ (List.getElem_mem hk)) _ 0 rfl
 have fold:∀ w,paramsP ns w = (List.foldl (pstep w) (List.foldl (pstep w) (-1,0) [⟨tX,p1,0,-1⟩,⟨tY,p2,0,-1⟩,⟨tM,p3,1,-1⟩,⟨tN,p4,1,-1⟩,⟨tP,p5,2,0⟩,⟨tV,p6,3,0⟩]) [⟨tQ,p7,2,1⟩]).2:=fun w=>by
  unfold paramsP
  rw [e,List.foldl_append,List.foldl_append,List.foldl_append,List.foldl_append,param_skip w us _ (fun x hx=>(hu' x hx).1),param_skip w vs _ (fun x hx=>(hv' x hx).1),param_skip w ts _ (fun x hx=>by rw [(ht x hx).1]; decide)]
 have m4:wrongP ns cs = none:=by
  refine wrong_none cs fun c hcc=>?_
  rw [fold]
  rcases hc c hcc with ⟨ew,ev⟩ | ⟨ew,ev⟩
  ·rw [ew,ev]; rfl
  ·rw [ew,ev]; rfl
 unfold outCheck
 rw [m1]
 simp only []
 rw [m2]
 simp only []
 rw [m3]
 simp only []
 rw [m4]
theorem plan_counts (N:List Nm) (S:List Stm):∀ (ns:List Nm) (p:Plan),(ns.foldl (addNameF N S) p).shared = p.shared + ns.countP (fun n=>decide (n.role = 0))∧(ns.foldl (addNameF N S) p).locks = p.locks + ns.countP (fun n=>decide (n.role = 1))∧(ns.foldl (addNameF N S) p).procs.length = p.procs.length + ns.countP (fun n=>decide (n.role = 2))∧(ns.foldl (addNameF N S) p).threads.length = p.threads.length + ns.countP (fun n=>decide (n.role = 7))
 | [],p=>⟨rfl,rfl,rfl,rfl⟩
 | n :: r,p=>by
  have ih:=plan_counts N S r (addNameF N S p n)
  simp only [List.foldl_cons,List.countP_cons]
  rw [ih.1,ih.2.1,ih.2.2.1,ih.2.2.2]
  unfold addNameF
  by_cases h0:n.role = 0
  ·simp [h0]; omega
  ·by_cases h1:n.role = 1
   ·simp [h1]; omega
   ·by_cases h2:n.role = 2
    ·simp [h2]; omega
    ·by_cases h7:n.role = 7
     ·simp [h7]; omega
     ·simp [h0,h1,h2,h7]
theorem count_zero {q:Nat} {us:List Nm} (h:∀ x ∈ us,x.role ≠ q):us.countP (fun n=>decide (n.role = q)) = 0:=List.countP_eq_zero.2 fun x hx=>by simpa using h x hx
theorem names_plan {ns:List Nm} {k:Nat} (h:NmOk ns k) (sts:List Stm) (nds:List Nd):(planF ns sts nds).shared = 2∧(planF ns sts nds).locks = 2∧(planF ns sts nds).procs.length = 2∧(planF ns sts nds).threads.length = k:=by
 obtain ⟨p1,p2,p3,p4,p5,p6,p7,us,vs,ts,e,hu,hv,hl,ht⟩:=h.is
 have hu':∀ x ∈ us,3 < x.role∧x.role < 7:=fun x hx=>use_role (hu x hx)
 have hv':∀ x ∈ vs,3 < x.role∧x.role < 7:=fun x hx=>use_role (hv x hx)
 have pc:=plan_counts ns sts ns emptyPlan
 have cu:∀ q,q ≤ 3 ∨ q = 7→us.countP (fun n=>decide (n.role = q)) = 0:=fun q hq=>count_zero fun x hx=>by have:=hu' x hx; omega
 have cv:∀ q,q ≤ 3 ∨ q = 7→vs.countP (fun n=>decide (n.role = q)) = 0:=fun q hq=>count_zero fun x hx=>by have:=hv' x hx; omega
 have ct:∀ q,q ≤ 3→ts.countP (fun n=>decide (n.role = q)) = 0:=fun q hq=>count_zero fun x hx=>by have:=(ht x hx).1; omega
 have cc:∀ q,ns.countP (fun n=>decide (n.role = q)) = List.countP (fun n:Nm=>decide (n.role = q)) [⟨tX,p1,0,-1⟩,⟨tY,p2,0,-1⟩,⟨tM,p3,1,-1⟩,⟨tN,p4,1,-1⟩,⟨tP,p5,2,0⟩,⟨tV,p6,3,0⟩] + (us.countP (fun n=>decide (n.role = q)) + (List.countP (fun n:Nm=>decide (n.role = q)) [⟨tQ,p7,2,1⟩] + (vs.countP (fun n=>decide (n.role = q)) + ts.countP (fun n=>decide (n.role = q))))):=fun q=>by rw [e]; simp only [List.countP_append]
 refine ⟨?_,?_,?_,?_⟩
 ·show (ns.foldl (addNameF ns sts) emptyPlan).shared = 2
  rw [pc.1,cc,cu 0 (by omega),cv 0 (by omega),ct 0 (by omega)]; rfl
 ·show (ns.foldl (addNameF ns sts) emptyPlan).locks = 2
  rw [pc.2.1,cc,cu 1 (by omega),cv 1 (by omega),ct 1 (by omega)]; rfl
 ·show (ns.foldl (addNameF ns sts) emptyPlan).procs.length = 2
  rw [pc.2.2.1,cc,cu 2 (by omega),cv 2 (by omega),ct 2 (by omega)]; rfl
 ·show (ns.foldl (addNameF ns sts) emptyPlan).threads.length = k
  rw [pc.2.2.2,cc,cu 7 (by omega),cv 7 (by omega)]
  have:ts.countP (fun n=>decide (n.role = 7)) = ts.length:=List.countP_eq_length.2 fun x hx=>decide_eq_true (ht x hx).1
  have e0:List.countP (fun n:Nm=>decide (n.role = 7)) [⟨tX,p1,0,-1⟩,⟨tY,p2,0,-1⟩,⟨tM,p3,1,-1⟩,⟨tN,p4,1,-1⟩,⟨tP,p5,2,0⟩,⟨tV,p6,3,0⟩] = 0:=rfl
  have e1:List.countP (fun n:Nm=>decide (n.role = 7)) [⟨tQ,p7,2,1⟩] = 0:=rfl
  have e2:emptyPlan.threads.length = 0:=rfl
  omega
end RR
namespace RR
open Go Go.RowKit
def StB (M F:Nat) (σ:QSt):Prop:=∀ s ∈ σ.sts,s.at_ ≤ M∧s.vals.length ≤ F + 1
theorem StB.same {M F:Nat} {σ τ:QSt} (h:StB M F σ) (e:τ.sts = σ.sts):StB M F τ:=by unfold StB; rw [e]; exact h
theorem StB.add {M F:Nat} {σ:QSt} (h:StB M F σ) {s:Stm} (h1:s.at_ ≤ M) (h2:s.vals.length ≤ F + 1):StB M F (σ.add s):=by
 intro x hx
 rcases List.mem_append.1 hx with hx | hx
 ·exact h x hx
 ·rw [List.mem_singleton.1 hx]; exact ⟨h1,h2⟩
theorem ahead_small {L:List Tk} {M:Nat} (hM:∀ t ∈ L,t.p ≤ M) (σ:PSt) (n:Nat):(σ.ahead L n).p ≤ M:=by
 unfold PSt.ahead
 split
 ·exact hM _ (List.getElem_mem _)
 ·exact Nat.zero_le _
theorem values_small (L:List Tk):∀ (f:Nat) (σ:QSt) (v:List (Int × Int)) (r:QSt × List (Int × Int)),valuesQ L f σ v = some r→r.2.length ≤ v.length + f
 | 0,σ,v,r,h=>by rw [valuesQ] at h; cases h
 | f + 1,σ,v,r,h=>by
  rw [valuesQ] at h
  split at h
  ·obtain ⟨a,h1,h2⟩:=bindS h
   have:=values_small L f _ _ _ h2
   have:=value_len h1
   omega
  ·rw [← Option.some.inj h]; exact Nat.le_add_right _ _
theorem call_small {L:List Tk} {f:Nat} {σ:QSt} {s:Stm} {r:QSt × Stm} (h:callQ L f σ s = some r) (hs:s.vals = []):r.2.at_ = s.at_∧r.2.vals.length ≤ f + 1:=by
 unfold callQ at h
 obtain ⟨a,h1,h2⟩:=Option.map_eq_some_iff.1 h
 rw [← h2]
 refine ⟨rfl,?_⟩
 show a.2.length ≤ f + 1
 split at h1
 ·rw [← Option.some.inj h1,hs]; exact Nat.zero_le _
 ·obtain ⟨b,h3,h4⟩:=bindS h1
  have:=values_small L f _ _ _ h4
  have:=value_len h3
  rw [hs] at this
  simp only [List.length_nil] at this
  omega
theorem assigned_small {L:List Tk} {f:Nat} {σ:QSt} {s:Stm} {r:QSt × Stm} (h:assignedQ L f σ s = some r) (hs:s.vals = []):r.2.at_ = s.at_∧r.2.vals.length ≤ f + 1:=by
 unfold assignedQ at h
 split at h
 ·exact call_small h hs
 ·obtain ⟨a,h1,rfl⟩:=Option.map_eq_some_iff.1 h
  refine ⟨rfl,?_⟩
  have:=value_len h1
  rw [hs] at this
  show a.2.length ≤ f + 1
  rw [this]; exact Nat.succ_le_succ (Nat.zero_le _)
theorem aoc_small {L:List Tk} {M F f:Nat} {σ τ:QSt} {s:Stm} (hb:StB M F σ) (h:aocQ L f σ s = some τ) (hs:s.vals = []) (ha:s.at_ ≤ M) (hf:f ≤ F):StB M F τ:=by
 unfold aocQ at h
 obtain ⟨r,h1,h2⟩:=Option.map_eq_some_iff.1 h
 rw [← h2]
 split at h1
 ·have g:=call_small h1 hs
  exact (hb.same (by show r.1.sts = σ.sts; exact (xg_call h1).sts)).add (by rw [g.1]; exact ha) (by omega)
 ·have g:=assigned_small h1 hs
  exact (hb.same (by show r.1.sts = σ.sts; exact (xg_assigned h1).sts)).add (by rw [g.1]; exact ha) (by omega)
theorem cond_small {L:List Tk} {f:Nat} {σ:QSt} {v:List (Int × Int)} {r:QSt × List (Int × Int)} (h:condQ L f σ v = some r):r.2.length = v.length + 1:=by
 cases f with
 | zero=>rw [condQ] at h; cases h
 | succ f =>
  rw [condQ] at h
  obtain ⟨a,h1,h2⟩:=Option.map_eq_some_iff.1 h
  have:=value_len h1
  rw [← h2]
  exact this
theorem stb_blocks {L:List Tk} {M F:Nat} (hM:∀ t ∈ L,t.p ≤ M):∀ f:Nat,f ≤ F →
    (∀ σ b r,blockQ L f σ b = some r→StB M F σ→StB M F r.1∧r.2 ≤ M) ∧
    (∀ σ b r,stmtsQ L f σ b = some r→StB M F σ→StB M F r.1) ∧
    (∀ σ b r,statementQ L f σ b = some r→StB M F σ→StB M F r.1) ∧
    (∀ σ b r,branchQ L f σ b = some r→StB M F σ→StB M F r.1):=by
 intro f
 induction f with
 | zero =>
  intro _
  refine ⟨?_,?_,?_,?_⟩ <;> intro σ b r h
  ·rw [blockQ_zero] at h; cases h
  ·rw [stmtsQ_zero] at h; cases h
  ·rw [statementQ_zero] at h; cases h
  ·rw [branchQ_zero] at h; cases h
 | succ f ih =>
  intro hf
  obtain ⟨i1,i2,i3,i4⟩:=ih (by omega)
  have nw:∀ (σ:QSt) (b:Blk),(newStm L σ b).at_ ≤ M:=fun σ b=>ahead_small hM σ.p 0
  refine ⟨?_,?_,?_,?_⟩ <;> intro σ b r h hb
  ·rw [blockQ_succ] at h
   obtain ⟨a,h1,rfl⟩:=Option.map_eq_some_iff.1 h
   exact ⟨(i2 _ _ _ h1 (hb.same rfl)).same rfl,ahead_small hM _ _⟩
  ·rw [stmtsQ_succ] at h
   split at h
   ·obtain ⟨a,h1,h2⟩:=bindS h
    exact i2 _ _ _ h2 (i3 _ _ _ h1 hb)
   ·rw [← Option.some.inj h]; exact hb
  ·rw [statementQ_succ] at h
   split at h
   ·exact i4 _ _ _ h hb
   split at h
   ·unfold loopQ at h
    obtain ⟨a,h1,h2⟩:=bindS h
    obtain ⟨c,h3,rfl⟩:=Option.map_eq_some_iff.1 h2
    have g:=cond_small h1
    refine (i1 _ _ _ h3 ((hb.same (by exact (xg_cond h1).sts)).add (nw σ b) ?_)).1
    show a.2.length ≤ F + 1
    rw [g]; simp
   split at h
   ·obtain ⟨c,h1,rfl⟩:=Option.map_eq_some_iff.1 h
    unfold assumeQ at h1
    obtain ⟨a,h2,rfl⟩:=Option.map_eq_some_iff.1 h1
    have g:=value_len h2
    refine (hb.same (by exact (xg_value h2).sts)).add (nw σ b) ?_
    show a.2.length ≤ F + 1
    rw [g]; show 0 + 1 ≤ F + 1; omega
   split at h
   ·rw [← Option.some.inj h]
    exact (hb.same rfl).add (nw σ b) (Nat.zero_le _)
   split at h
   ·rw [← Option.some.inj h]
    exact (hb.same rfl).add (nw σ b) (Nat.zero_le _)
   split at h
   ·obtain ⟨c,h1,rfl⟩:=Option.map_eq_some_iff.1 h
    unfold giveBackQ at h1
    obtain ⟨a,h2,rfl⟩:=Option.map_eq_some_iff.1 h1
    split at h2
    ·rw [← Option.some.inj h2]
     exact (hb.same rfl).add (nw σ b) (Nat.zero_le _)
    ·have g:=value_len h2
     refine (hb.same (by exact (xg_value h2).sts)).add (nw σ b) ?_
     show a.2.length ≤ F + 1
     rw [g]; show 0 + 1 ≤ F + 1; omega
   split at h
   ·rw [← Option.some.inj h]
    exact (hb.same rfl).add (nw σ b) (Nat.zero_le _)
   ·obtain ⟨c,h1,rfl⟩:=Option.map_eq_some_iff.1 h
    exact aoc_small hb h1 rfl (nw σ b) (by omega)
  ·rw [branchQ_succ] at h
   obtain ⟨a,h1,h2⟩:=bindS h
   obtain ⟨c,h3,h4⟩:=bindS h2
   have g:=cond_small h1
   have k1:=(i1 _ _ _ h3 ((hb.same (by exact (xg_cond h1).sts)).add (nw σ b) (by show a.2.length ≤ F + 1; rw [g]; simp))).1
   split at h4
   ·obtain ⟨d,h5,rfl⟩:=Option.map_eq_some_iff.1 h4
    exact (i1 _ _ _ h5 (k1.same rfl)).1
   ·rw [← Option.some.inj h4]; exact k1
theorem stb_procedure {L:List Tk} {M F:Nat} (hM:∀ t ∈ L,t.p ≤ M) {f:Nat} (hf:f ≤ F) {σ τ:QSt} (h:procedureQ L f σ = some τ) (hb:StB M F σ):StB M F τ:=by
 unfold procedureQ at h
 simp only at h
 obtain ⟨e,h1,h2⟩:=bindS h
 obtain ⟨r,h3,h4⟩:=Option.map_eq_some_iff.1 h2
 rw [← h4]
 have k:=(stb_blocks hM f hf).1 _ _ _ h3 (hb.same rfl)
 exact k.1.add k.2 (Nat.zero_le _)
theorem stb_procs {L:List Tk} {M F:Nat} (hM:∀ t ∈ L,t.p ≤ M):∀ (f:Nat),f ≤ F→∀ (σ τ:QSt),procsQ L f σ = some τ→StB M F σ→StB M F τ
 | 0,_,σ,τ,h,_=>by rw [procsQ] at h; cases h
 | f + 1,hf,σ,τ,h,hb=>by
  rw [procsQ] at h
  split at h
  ·obtain ⟨a,h1,h2⟩:=bindS h
   exact stb_procs hM f (by omega) _ _ h2 (stb_procedure hM (by omega) h1 hb)
  ·rw [← Option.some.inj h]; exact hb
theorem stb_program {L:List Tk} {M:Nat} (hM:∀ t ∈ L,t.p ≤ M) {f:Nat} {σ τ:QSt} (h:programQ L f σ = some τ) (h2:σ.sts = []):StB M f τ:=by
 unfold programQ at h
 obtain ⟨a,k1,h⟩:=bindS h
 obtain ⟨b,k2,h⟩:=bindS h
 obtain ⟨c,k3,h⟩:=bindS h
 obtain ⟨d,k4,h⟩:=bindS h
 obtain ⟨e,k5,k6⟩:=Option.map_eq_some_iff.1 h
 rw [← k6]
 have h0:StB M f (σ.setp b):=fun s hs=>by
  have hs:s ∈ σ.sts:=hs
  rw [h2] at hs; cases hs
 exact (stb_procs hM f (Nat.le_refl _) _ _ k4 (stb_procedure hM (Nat.le_refl _) k3 h0)).same rfl
theorem read_vals (a:PLine) (n:Nat):(a.read n).vals = a.vals∧(a.read n).at_ = a.at_:=by
 unfold PLine.read
 split <;> exact ⟨rfl,rfl⟩
theorem look1_vals (a:PLine) (n:PNd):(look1 a n).vals = a.vals∧(look1 a n).at_ = a.at_:=by
 unfold look1
 simp only []
 split
 ·have:=read_vals (if n.sign = 2 then { a with choice:=true } else a) n.tr.num.toNat
  rw [this.1,this.2]
  split <;> exact ⟨rfl,rfl⟩
 ·split <;> exact ⟨rfl,rfl⟩
theorem lookG_vals (nodes:List PNd) (last:Int):∀ (f:Nat) (i:Int) (a:PLine),(lookG nodes last f i a).vals = a.vals∧(lookG nodes last f i a).at_ = a.at_
 | 0,_,_=>⟨rfl,rfl⟩
 | f + 1,i,a=>by
  rw [lookG]
  split
  ·have:=lookG_vals nodes last f (i + 1) (look1 a (pnAt nodes i.toNat))
   rw [this.1,this.2]
   exact look1_vals _ _
  ·exact ⟨rfl,rfl⟩
theorem vals_vals (nodes:List PNd):∀ (l:List (Int × Int)) (a:PLine),(l.foldl (valF nodes) a).vals.length = a.vals.length + l.length∧(l.foldl (valF nodes) a).at_ = a.at_
 | [],_=>⟨rfl,rfl⟩
 | e :: r,a=>by
  have ih:=vals_vals nodes r (valF nodes a e)
  have k:=lookG_vals nodes e.2 (nodes.length + 1) e.1 { a with vals:=a.vals ++ [e] }
  have k1:(valF nodes a e).vals = a.vals ++ [e]:=k.1
  have k2:(valF nodes a e).at_ = a.at_:=k.2
  rw [List.foldl_cons,ih.1,ih.2,k1,k2]
  refine ⟨?_,rfl⟩
  rw [List.length_append,List.length_cons,List.length_cons,List.length_nil]; omega
theorem head_vals (ns:List Nm) (sts:List Stm) (i:Nat) (s:Stm):(headF ns sts i s).vals = []∧(headF ns sts i s).at_ = s.at_:=by
 unfold headF
 simp only []
 split
 ·exact ⟨rfl,rfl⟩
 split
 ·exact ⟨rfl,rfl⟩
 split
 ·exact ⟨rfl,rfl⟩
 split
 ·exact ⟨rfl,rfl⟩
 ·exact ⟨rfl,rfl⟩
theorem lines_small {M F:Nat} (ns:List Nm) (sts:List Stm) (nodes:List PNd):∀ (l:List Stm) (i:Nat),(∀ s ∈ l,s.at_ ≤ M∧s.vals.length ≤ F)→(linesF ns sts nodes l i).length = l.length∧∀ a ∈ linesF ns sts nodes l i,a.at_ ≤ M∧a.vals.length ≤ F
 | [],_,_=>⟨rfl,fun _ h=>by cases h⟩
 | s :: r,i,h=>by
  have ih:=lines_small (M:=M) (F:=F) ns sts nodes r (i + 1) fun x hx=>h x (List.mem_cons_of_mem _ hx)
  refine ⟨by show (linesF ns sts nodes r (i + 1)).length + 1 = _; rw [ih.1]; rfl,fun a ha=>?_⟩
  rcases List.mem_cons.1 ha with ha | ha
  ·rw [ha]
   have g:=vals_vals nodes s.vals (headF ns sts i s)
   have k:=head_vals ns sts i s
   have:=h s (List.mem_cons_self ..)
   unfold lineF
   rw [g.1,g.2,k.1,k.2]
   simp only [List.length_nil]
   omega
  ·exact ih.2 a ha
theorem plan_small {M F:Nat} {ns:List Nm} {sts:List Stm} {nds:List Nd} (h:∀ s ∈ sts,s.at_ ≤ M∧s.vals.length ≤ F):(planF ns sts nds).lines.length = sts.length∧(planF ns sts nds).nodes.length = nds.length∧∀ a ∈ (planF ns sts nds).lines,a.at_ ≤ M∧a.vals.length ≤ F:=by
 have:=lines_small (M:=M) (F:=F) ns sts (nds.map (nodeF ns)) sts 0 h
 exact ⟨this.1,List.length_map _,this.2⟩
end RR
namespace RR
open Go Go.RowKit
def progS (raw:ByteArray):ByteArray:=flat (progW raw).ps
structure ProgOk (s:ByteArray) (L:List Tk) (τ:QSt):Prop where
 lex:lexF s 0 = (L,none)
 size:s.size ≤ 450
 len:L.length ≤ 450
 run:programQ L 600 ⟨⟨0,0,-1,false,[],[]⟩,[],[]⟩ = some τ
 ok:τ.p.failed = false
 check:outCheck τ.p.names τ.p.calls = (0,0)
 names:τ.p.names.length ≤ 450
 sts:τ.sts.length ≤ 1502
 nds:τ.nds.length ≤ 2001
 vals:∀ s ∈ τ.sts,s.at_ ≤ 450∧s.vals.length ≤ 601
 shared:(planF τ.p.names τ.sts τ.nds).shared = 2
 locks:(planF τ.p.names τ.sts τ.nds).locks = 2
 procs:(planF τ.p.names τ.sts τ.nds).procs.length = 2
 threads:(planF τ.p.names τ.sts τ.nds).threads.length ≤ 3∧1 ≤ (planF τ.p.names τ.sts τ.nds).threads.length
 lines:(planF τ.p.names τ.sts τ.nds).lines.length ≤ 1502∧(planF τ.p.names τ.sts τ.nds).nodes.length ≤ 2001
 each:∀ a ∈ (planF τ.p.names τ.sts τ.nds).lines,a.at_ ≤ 450∧a.vals.length ≤ 601
theorem progS_ok (raw:ByteArray):∃ L τ,ProgOk (progS raw) L τ:=by
 obtain ⟨b1,b2,h,th,ha,ht,w1,w2,hh,hth,hl,hs⟩:=prog_ok raw
 obtain ⟨l1,l2⟩:=lex_all ha
 have hs:(progS raw).size ≤ 450:=hs
 have hlen:=lexF_len (progS raw) 0
 have hpl:=lex_places (progS raw) (progS raw).size 0 (by omega)
 have hlex:lexF (progS raw) 0 = ((lexF (progS raw) 0).1,none):=by rw [← l2]; rfl
 have l1:(lexF (progS raw) 0).1.map Tk.t = progT b1 b2 h th:=l1.trans ht
 generalize (lexF (progS raw) 0).1 = L at *
 obtain ⟨σ,e,ho,hn⟩:=prog_reads 600 l1 w1 w2 hh hth (by omega)
 have hp:=program_proj L 600 ⟨⟨0,0,-1,false,[],[]⟩,[],[]⟩
 rw [e] at hp
 obtain ⟨τ,hτ,hσ⟩:=Option.map_eq_some_iff.1 hp
 have sm:=program_small (by omega) hτ rfl rfl rfl
 have sb:=stb_program (M:=450) (fun t ht=>by have:=hpl t ht; omega) hτ rfl
 have hnm:=ho.nm
 rw [← hσ] at hnm
 have pl:=names_plan hnm τ.sts τ.nds
 have ps:=plan_small (ns:=τ.p.names) (nds:=τ.nds) sb
 refine ⟨L,τ,hlex,hs,by omega,hτ,by rw [hσ]; exact ho.ok,?_,by rw [hσ]; omega,sm.2,sm.1,sb,pl.1,pl.2.1,pl.2.2.1,by rw [pl.2.2.2]; omega,by rw [ps.1,ps.2.1]; exact ⟨sm.2,sm.1⟩,ps.2.2⟩
 have:=names_ok hnm (cs:=τ.p.calls) (by omega) (by rw [hσ]; exact ho.calls)
 exact this
theorem start_same (p:Plan):∀ (l:List Int) (i:Nat) (c:Cfg),(startF p l i c).s = c.s∧(startF p l i c).h = c.h
 | [],_,_=>⟨rfl,rfl⟩
 | n :: r,i,c=>by
  have ih:=start_same p r (i + 1) (if i < 3 then c.setT ((pushF (c.t i) ⟨(procAt p n).entry,false,false,false⟩).getD (c.t i)) i else c)
  have k:∀ (t:Thr) (j:Nat),(c.setT t j).s = c.s∧(c.setT t j).h = c.h:=fun t j=>by
   unfold Cfg.setT
   split <;> exact ⟨rfl,rfl⟩
  show (startF p r (i + 1) _).s = c.s∧(startF p r (i + 1) _).h = c.h
  rw [ih.1,ih.2]
  split
  ·exact k _ _
  ·exact ⟨rfl,rfl⟩
theorem threadsG_pre (p:Plan) (c:Cfg):∀ (d i:Nat) (s:ByteArray),∃ r,threadsG p c d i s = s ++ r
 | 0,_,s=>⟨⟨#[]⟩,by show s = s ++ ByteArray.empty; rw [ByteArray.append_empty]⟩
 | d + 1,i,s=>by
  obtain ⟨r,e⟩:=threadsG_pre p c d (i + 1) ((s ++ ⟨#[47]⟩) ++ framesTextF p (threadF c i))
  refine ⟨⟨#[47]⟩ ++ (framesTextF p (threadF c i) ++ r),?_⟩
  rw [threadsG,e]
  simp only [ByteArray.append_assoc]
theorem text_head {p:Plan} (hs:p.shared = 2) (hk:p.locks = 2) (ht:1 ≤ p.threads.length):6 ≤ (textF p (start1 p)).size∧(textF p (start1 p)).extract 0 6 = ⟨#[48,48,47,45,45,47]⟩:=by
 have e:=start_same p p.threads 0 zCfg
 have e1:(start1 p).s = zCfg.s:=e.1
 have e2:(start1 p).h = zCfg.h:=e.2
 unfold textF
 rw [hs,hk,e1,e2]
 have z:locksF zCfg.h ((2:Nat):Int) 4 0 (bitsF zCfg.s ((2:Nat):Int) 4 5 0 ⟨#[]⟩ ++ ⟨#[47]⟩) = ⟨#[48,48,47,45,45]⟩:=by kernel_rfl
 rw [z]
 obtain ⟨d,hd⟩:∃ d,p.threads.length = d + 1:=⟨p.threads.length - 1,by omega⟩
 rw [hd,threadsG]
 obtain ⟨r,er⟩:=threadsG_pre p (start1 p) d (0 + 1) ((⟨#[48,48,47,45,45]⟩ ++ ⟨#[47]⟩) ++ framesTextF p (threadF (start1 p) (0:Nat)))
 rw [er,ByteArray.append_assoc]
 have z2:(⟨#[48,48,47,45,45]⟩ ++ ⟨#[47]⟩:ByteArray) = ⟨#[48,48,47,45,45,47]⟩:=by kernel_rfl
 rw [z2]
 refine ⟨?_,?_⟩
 ·rw [ByteArray.size_append]
  show 6 ≤ 6 + _
  omega
 ·exact ByteArray.extract_append_eq_left rfl
end RR
namespace Go.Proofs.YtmfcpbhdggonfaaGreatDoor
open Go.RowKit RR
def thrT:Nat→ByteArray
 | 0=>⟨#[112,44,32,113]⟩
 | 1=>⟨#[113,44,32,113]⟩
 | 2=>⟨#[112,44,32,112]⟩
 | _=>⟨#[112,44,32,113,44,32,113]⟩
theorem thr_cell (k:Nat) (h:k < 4):(#[.string ⟨#[112,44,32,113]⟩,.string ⟨#[113,44,32,113]⟩,.string ⟨#[112,44,32,112]⟩,.string ⟨#[112,44,32,113,44,32,113]⟩]:Array Value)[k]? = some (.string (thrT k))∧flat (threadsW k) = (⟨#[116,104,114,101,97,100,115,32]⟩ ++ thrT k) ++ ⟨#[59]⟩∧(thrT k).size ≤ 7:=by
 match k,h with
 | 0,_=>exact ⟨rfl,by kernel_rfl,by decide⟩
 | 1,_=>exact ⟨rfl,by kernel_rfl,by decide⟩
 | 2,_=>exact ⟨rfl,by kernel_rfl,by decide⟩
 | 3,_=>exact ⟨rfl,by kernel_rfl,by decide⟩
 | k + 4,h=>omega
theorem WAt.flag {F B:Nat} {raw:ByteArray} {v:Bool} {ws:WS} {w:World} (h:WAt F B raw v ws w) (hne:B ≠ F) (u:Bool):WAt F B raw u ws (w.setCell ⟨B,2,none⟩ (.bool u)):=⟨(wset_ne _ _ _ _ _ (Ne.symm hne)).trans h.feed,wset h.wrt 2 _,h.fit⟩
theorem WAt.free {F B:Nat} {raw:ByteArray} {v:Bool} {ws:WS} {w:World} (h:WAt F B raw v ws w) (i:Nat):w.frozen? ⟨B,i,none⟩ = false:=by have:=h.wrt; unfold WrtAt at this; simp [World.frozen?,this]
theorem WAt.cell2 {F B:Nat} {raw:ByteArray} {v:Bool} {ws:WS} {w:World} (h:WAt F B raw v ws w):w.cell? ⟨B,2,none⟩ = some (.bool v):=by have:=h.wrt; unfold WrtAt at this; simp [World.cell?,this]
theorem WAt.cell1 {F B:Nat} {raw:ByteArray} {v:Bool} {ws:WS} {w:World} (h:WAt F B raw v ws w):w.cell? ⟨B,1,none⟩ = some (.string (flat ws.ps)):=by have:=h.wrt; unfold WrtAt at this; simp [World.cell?,this]
set_option maxRecDepth 100000 in
set_option maxHeartbeats 2000000 in
theorem k_program (raw:ByteArray) (hr:raw.size ≤ 9223372036854775807) (w:World) :
    Calls Tryz.prog 17 #[.string raw] w fun e w'=>e = .returned (.string (progS raw))∧Below w.heap.size w w':=by
 go_enter Tryz.func17,Tryz.ntmps17
 go_upto_region 2 with fail
 have HA0:Hid (WAt w.heap.size (w.heap.size + 1) raw false ⟨0,400,[]⟩ ((w.alloc (.cells #[.string raw,.int .i64 0] 55)).alloc (.cells #[.pointer (some ⟨w.heap.size,0,none⟩),.string ⟨#[]⟩,.bool false,.int .i64 400] 79))):=by
  have e:(w.alloc (.cells #[.string raw,.int .i64 0] 55)).heap.size = w.heap.size + 1:=by simp
  refine ⟨(Below.heap_alloc _ _ _ (by omega)).trans (heap_alloc_new _ _),?_,⟨Nat.zero_le _,by decide,by decide⟩⟩
  have:=heap_alloc_new (w.alloc (.cells #[.string raw,.int .i64 0] 55)) (.cells #[.pointer (some ⟨w.heap.size,0,none⟩),.string ⟨#[]⟩,.bool false,.int .i64 400] 79)
  rw [e] at this
  exact this
 have HK0:Hid (Kw w.heap.size w.heap.size (w.heap.size + 1) w ((w.alloc (.cells #[.string raw,.int .i64 0] 55)).alloc (.cells #[.pointer (some ⟨w.heap.size,0,none⟩),.string ⟨#[]⟩,.bool false,.int .i64 400] 79))):=⟨((Below.refl _ _).alloc (Nat.le_refl _) _).alloc (by simp) _,fun j hj _ _=>(Below.heap_alloc _ _ _ (by simp; omega)).trans (Below.heap_alloc _ _ _ hj)⟩
 have HL:Hid (Lay w.heap.size w.heap.size (w.heap.size + 1) raw):=⟨hr,Nat.le_refl _,Nat.le_succ _,Nat.succ_ne_self _⟩
 generalize ((w.alloc (.cells #[.string raw,.int .i64 0] 55)).alloc (.cells #[.pointer (some ⟨w.heap.size,0,none⟩),.string ⟨#[]⟩,.bool false,.int .i64 400] 79)) = w0 at *
 generalize w.heap.size + 1 = B at *
 have HFN:Hid (∃ N,N = w.heap.size):=⟨_,rfl⟩
 obtain ⟨N,hN⟩:=HFN.out
 rw [← hN] at HA0 HK0 HL ⊢
 have HN:=hide hN
 clear HFN hN
 go_wp2_with fail
 refine (w_put HL.out firstW (t:=⟨#[115,104,97,114,101,100,32,120,44,32,121,59,32,108,111,99,107,115,32,109,44,32,110,59,32,112,114,111,99,32,112,40,118,41,32]⟩) (by kernel_rfl) (by decide) (by decide) _ HA0.out).mono ?_
 rintro e w1 ⟨rfl,a1,k1⟩
 have HQ1:Hid (progW1 raw = blockW raw (stmtW raw true 2) ((⟨0,400,[]⟩:WS).put firstW)):=rfl
 have z0:(flat firstW).size = 35:=by kernel_rfl
 have r1:((⟨0,400,[]⟩:WS).put firstW).room = 365:=by show (400:Int) - ((flat firstW).size:Nat) = 365; rw [z0]; rfl
 have c2:=a1.cell2
 have f2:=a1.free 2
 generalize (⟨0,400,[]⟩:WS).put firstW = ws1 at *
 have HA1:=hide a1
 have HK1:=hide (HK0.out.trans k1)
 have HR1:=hide r1
 clear a1 k1 HA0 HK0 r1 z0
 go_upto_region 4 with fail
 have HA2:Hid (WAt N B raw true ws1 (w1.setCell ⟨B,2,none⟩ (.bool true))):=HA1.out.flag HL.out.ne true
 have HK2:Hid (Kw N N B w (w1.setCell ⟨B,2,none⟩ (.bool true))):=HK1.out.trans ⟨(Below.refl _ _).setCell (p:=⟨B,2,none⟩) HL.out.nb _,fun j _ _ h2=>wset_ne _ _ _ _ _ h2⟩
 generalize w1.setCell ⟨B,2,none⟩ (.bool true) = w2 at *
 clear HA1 HK1 c2 f2
 go_wp2_with fail
 refine (k_block HL.out (Nat.le_refl _) (k_stmts HL.out true 2 (Nat.le_refl _)) ws1 _ HA2.out (by rw [HR1.out]; decide)).mono ?_
 rintro e w3 ⟨rfl,a3,k3⟩
 have r3:=(HA2.out.fit.block true 2 (Nat.le_refl _) (by rw [HR1.out]; decide)).2
 rw [HR1.out] at r3
 rw [← HQ1.out] at a3 r3
 have HQ2:Hid (progW2 raw = blockW raw (stmtW raw false 2) ((progW1 raw).put secondW)):=rfl
 generalize progW1 raw = ws3 at *
 have hr3:10 ≤ ws3.room:=by omega
 have HA3:=hide a3
 have HK3:=hide (HK2.out.trans k3)
 clear a3 k3 r3 HA2 HK2 HQ1 HR1
 go_wp2_with fail
 refine (w_put HL.out secondW (t:=⟨#[112,114,111,99,32,113,40,41,32]⟩) (by kernel_rfl) (by decide) (by omega) _ HA3.out).mono ?_
 rintro e w4 ⟨rfl,a4,k4⟩
 have r4:(ws3.put secondW).room = ws3.room - 9:=rfl
 have c2:=a4.cell2
 have f2:=a4.free 2
 generalize ws3.put secondW = ws4 at *
 have HA4:=hide a4
 have HK4:=hide (HK3.out.trans k4)
 have hr4:1 ≤ ws4.room:=by omega
 clear a4 k4 HA3 HK3 hr3 r4
 go_upto_region 7 with fail
 have HA5:Hid (WAt N B raw false ws4 (w4.setCell ⟨B,2,none⟩ (.bool false))):=HA4.out.flag HL.out.ne false
 have HK5:Hid (Kw N N B w (w4.setCell ⟨B,2,none⟩ (.bool false))):=HK4.out.trans ⟨(Below.refl _ _).setCell (p:=⟨B,2,none⟩) HL.out.nb _,fun j _ _ h2=>wset_ne _ _ _ _ _ h2⟩
 generalize w4.setCell ⟨B,2,none⟩ (.bool false) = w5 at *
 clear HA4 HK4 c2 f2
 go_wp2_with fail
 refine (k_block HL.out (Nat.le_refl _) (k_stmts HL.out false 2 (Nat.le_refl _)) ws4 _ HA5.out (by omega)).mono ?_
 rintro e w6 ⟨rfl,a6,k6⟩
 have r6:=(HA5.out.fit.block false 2 (Nat.le_refl _) (by omega)).2
 rw [← HQ2.out] at a6 r6
 have HQ3:Hid (progW raw = ((progW2 raw).to_ (nxW raw 4 (progW2 raw).at_).2).put (threadsW (nxW raw 4 (progW2 raw).at_).1)):=rfl
 generalize progW2 raw = ws6 at *
 have hr6:-10 ≤ ws6.room:=by omega
 have HA6:=hide a6
 have HK6:=hide (HK5.out.trans k6)
 clear a6 k6 r6 HA5 HK5 HQ2 hr4
 go_upto_region 9 with fail
 have hlt:=HA6.out.lt
 have hz:=World.size_alloc w6 (.cells #[.string ⟨#[112,44,32,113]⟩,.string ⟨#[113,44,32,113]⟩,.string ⟨#[112,44,32,112]⟩,.string ⟨#[112,44,32,113,44,32,113]⟩] 9)
 have hS:(w6.alloc (.cells #[.string ⟨#[112,44,32,113]⟩,.string ⟨#[113,44,32,113]⟩,.string ⟨#[112,44,32,112]⟩,.string ⟨#[112,44,32,113,44,32,113]⟩] 9)).heap[w6.heap.size]? = some (.cells #[.string ⟨#[112,44,32,113]⟩,.string ⟨#[113,44,32,113]⟩,.string ⟨#[112,44,32,112]⟩,.string ⟨#[112,44,32,113,44,32,113]⟩] 9 (0,0)):=heap_alloc_new _ _
 have HA7:=hide (HA6.out.alloc (.cells #[.string ⟨#[112,44,32,113]⟩,.string ⟨#[113,44,32,113]⟩,.string ⟨#[112,44,32,112]⟩,.string ⟨#[112,44,32,113,44,32,113]⟩] 9))
 have HK7:=hide (HK6.out.alloc (Nat.le_of_lt hlt.1) (.cells #[.string ⟨#[112,44,32,113]⟩,.string ⟨#[113,44,32,113]⟩,.string ⟨#[112,44,32,112]⟩,.string ⟨#[112,44,32,113,44,32,113]⟩] 9))
 clear HA6 HK6
 generalize (w6.alloc (.cells #[.string ⟨#[112,44,32,113]⟩,.string ⟨#[113,44,32,113]⟩,.string ⟨#[112,44,32,112]⟩,.string ⟨#[112,44,32,113,44,32,113]⟩] 9)) = w7 at *
 have hne:w6.heap.size ≠ N∧w6.heap.size ≠ B:=by omega
 have hl7:w6.heap.size < w7.heap.size:=by omega
 clear hz hlt
 generalize w6.heap.size = S at *
 have c0:=HA7.out.ptr
 go_wp2_with fail
 refine (w_next HL.out 4 (by decide) _ HA7.out).mono ?_
 rintro e w8 ⟨rfl,a8,k8⟩
 have hk:=nxW_lt raw ws6.at_ (n:=4) (by decide)
 have hr8:-10 ≤ (ws6.to_ (nxW raw 4 ws6.at_).2).room:=hr6
 generalize ws6.to_ (nxW raw 4 ws6.at_).2 = ws8 at *
 generalize (nxW raw 4 ws6.at_).1 = k at *
 have hS8:=(k8.keep S hl7 hne.1 hne.2).trans hS
 have tc:=thr_cell k hk
 have cS:w8.cell? ⟨S,k,none⟩ = some (.string (thrT k)):=by
  simp only [World.cell?,hS8]
  exact tc.1
 have HT:=hide tc.2.1
 have hsz:=tc.2.2
 have hk':(k:Int) < 4:=by omega
 have HA8:=hide a8
 have HK8:=hide (HK7.out.trans k8)
 clear a8 k8 hS hS8 HA7 HK7 c0 tc hr6
 generalize thrT k = tt at *
 go_wp2_with fail
 refine (w_put HL.out (threadsW k) HT.out (by rw [ByteArray.size_append,ByteArray.size_append]; show 8 + tt.size + 1 ≤ 50; omega) (by omega) _ HA8.out).mono ?_
 rintro e w9 ⟨rfl,a9,k9⟩
 rw [← HQ3.out] at a9
 have c1:=a9.cell1
 have HK9:=hide (HK8.out.trans k9)
 clear a9 k9 HA8 HK8 cS HT
 have HP:Hid (flat (progW raw).ps = progS raw):=rfl
 generalize flat (progW raw).ps = tx at *
 go_wp2_with fail
 go_ret
 exact ⟨congrArg (fun x=>Ending.returned (.string x)) HP.out,by have:=HK9.out.below; rw [HN.out] at this; exact this⟩
end Go.Proofs.YtmfcpbhdggonfaaGreatDoor
namespace RR
open Go Go.RowKit
theorem follow_succ (p:Plan) (s:ByteArray) (d k:Nat) (c:Cfg):followF p s (d + 1) k c = match readB (byteB s k) with
    | none=>.error k
    | some t =>
     match stepF p c t.1 t.2 with
     | none=>.error k
     | some c1=>followF p s d (k + 1) c1:=rfl
theorem follow_cut (p:Plan) (s:ByteArray):∀ (d e k:Nat) (c:Cfg),followF p s (d + e) k c = match followF p s d k c with
    | .error j=>.error j
    | .ok c1=>followF p s e (k + d) c1
 | 0,e,k,c=>by rw [Nat.zero_add]; rfl
 | d + 1,e,k,c=>by
  rw [show d + 1 + e = (d + e) + 1 by omega,follow_succ,follow_succ]
  cases readB (byteB s k) with
  | none=>rfl
  | some t =>
   cases hs:stepF p c t.1 t.2 with
   | none=>simp only [hs]
   | some c1 =>
    simp only [hs]
    rw [follow_cut p s d e (k + 1) c1,show k + 1 + d = k + (d + 1) by omega]
theorem follow_same (p:Plan) (s t:ByteArray):∀ (d k:Nat) (c:Cfg),(∀ j,k ≤ j→j < k + d→byteB s j = byteB t j)→followF p s d k c = followF p t d k c
 | 0,_,_,_=>rfl
 | d + 1,k,c,h=>by
  rw [follow_succ,follow_succ,h k (Nat.le_refl _) (by omega)]
  cases readB (byteB t k) with
  | none=>rfl
  | some x =>
   cases hs:stepF p c x.1 x.2 with
   | none=>simp only [hs]
   | some c1 =>
    simp only [hs]
    exact follow_same p s t d (k + 1) c1 fun j h1 h2=>h j (by omega) (by omega)
theorem size_list (s:ByteArray):s.size = s.data.toList.length:=(Array.length_toList (xs:=s.data)).symm
theorem byte_list (s:ByteArray) (k:Nat):byteB s k = s.data.toList[k]?.getD 0:=by
 unfold byteB
 split
 ·rename_i h
  have h2:k < s.data.toList.length:=by rw [← size_list]; exact h
  rw [List.getElem?_eq_getElem h2]
  rfl
 ·rename_i h
  have h2:¬ k < s.data.toList.length:=by rw [← size_list]; exact h
  rw [List.getElem?_eq_none (by omega)]
  rfl
theorem app_list (s t:ByteArray):(s ++ t).data.toList = s.data.toList ++ t.data.toList:=by
 rw [ByteArray.data_append,Array.toList_append]
theorem byte_left (s t:ByteArray) (k:Nat) (h:k < s.size):byteB (s ++ t) k = byteB s k:=by
 rw [byte_list,byte_list,app_list,List.getElem?_append_left (by rw [← size_list]; exact h)]
theorem byte_mid (s:ByteArray) (b:UInt8) (t:ByteArray):byteB (s ++ (⟨#[b]⟩ ++ t)) s.size = b:=by
 rw [byte_list,app_list,app_list,List.getElem?_append_right (by rw [← size_list]; exact Nat.le_refl _),← size_list,Nat.sub_self]
 rfl
theorem follow_step {p:Plan} {s:ByteArray} {c:Cfg} (h:followF p s s.size 0 (start1 p) = .ok c) (b:UInt8) (t:ByteArray):followF p (s ++ (⟨#[b]⟩ ++ t)) (s.size + (1 + t.size)) 0 (start1 p) = match (readB b).bind fun x=>stepF p c x.1 x.2 with
    | none=>.error s.size
    | some c1=>followF p (s ++ (⟨#[b]⟩ ++ t)) t.size (s.size + 1) c1:=by
 rw [follow_cut,follow_same p (s ++ (⟨#[b]⟩ ++ t)) s s.size 0 (start1 p) (fun j _ h2=>byte_left _ _ _ (by omega)),h]
 simp only []
 rw [show 1 + t.size = t.size + 1 by omega,Nat.zero_add]
 rw [follow_succ,byte_mid]
 cases readB b with
 | none=>rfl
 | some x=>cases hs:stepF p c x.1 x.2 <;> simp [hs]
theorem follow_more {p:Plan} {s:ByteArray} {c c1:Cfg} (h:followF p s s.size 0 (start1 p) = .ok c) {b:UInt8} (hb:((readB b).bind fun x=>stepF p c x.1 x.2) = some c1):followF p (s ++ ⟨#[b]⟩) (s ++ ⟨#[b]⟩).size 0 (start1 p) = .ok c1:=by
 have e:s ++ ⟨#[b]⟩ = s ++ (⟨#[b]⟩ ++ ⟨#[]⟩):=by rw [show (⟨#[b]⟩:ByteArray) ++ ⟨#[]⟩ = ⟨#[b]⟩ from rfl]
 have hz:(s ++ (⟨#[b]⟩ ++ (⟨#[]⟩:ByteArray))).size = s.size + (1 + (⟨#[]⟩:ByteArray).size):=by rw [ByteArray.size_append,ByteArray.size_append]; rfl
 rw [e,hz,follow_step h b ⟨#[]⟩,hb]
 rfl
end RR
namespace Go.Proofs.YtmfcpbhdggonfaaGreatDoor
open Go.RowKit
def atB (s:ByteArray) (k:Nat):UInt8:=if h:k < s.size then s[k] else 0
def lastB (s:ByteArray):Nat→Int
 | 0=>-1
 | k + 1=>thr (atB s k)
def cntB (s:ByteArray):Nat→Nat
 | 0=>0
 | k + 1=>cntB s k + (if thr (atB s k) = lastB s k then 0 else 1)
end Go.Proofs.YtmfcpbhdggonfaaGreatDoor
namespace Go.Proofs.YtmfcpbhdggonfaaGreatDoor
open Go.RowKit RR
end Go.Proofs.YtmfcpbhdggonfaaGreatDoor
namespace Go.Proofs.YtmfcpbhdggonfaaGreatDoor
open Go.RowKit RR
structure Wk where
 s:ByteArray
 ctx:Nat
 last:Int
 race:Int
 dead:Int
def zWk:Wk:=⟨⟨#[]⟩,0,-1,-1,-1⟩
def seenW (p:Plan) (most:Int) (i:Nat) (c:Cfg) (w:Wk):Wk :=
 let w1:Wk:=if decide ((w.ctx:Int) ≤ most) && raceF p c && decide (w.race < 0) then { w with race:=i } else w
 if decide ((w1.ctx:Int) ≤ most) && deadF p c && decide (w1.dead < 0) then { w1 with dead:=i } else w1
def stepW (b:UInt8) (t:Int) (w:Wk):Wk:={ w with s:=w.s ++ ⟨#[b]⟩,ctx:=if t ≠ w.last then w.ctx + 1 else w.ctx,last:=t }
theorem seenW_s (p:Plan) (most:Int) (i:Nat) (c:Cfg) (w:Wk):(seenW p most i c w).s = w.s∧(seenW p most i c w).ctx = w.ctx∧(seenW p most i c w).last = w.last:=by
 unfold seenW
 simp only []
 split <;> split <;> exact ⟨rfl,rfl,rfl⟩
end Go.Proofs.YtmfcpbhdggonfaaGreatDoor
namespace Go.Proofs.YtmfcpbhdggonfaaGreatDoor
open Go.RowKit RR
theorem cnt_app (s t:ByteArray):∀ k,k ≤ s.size→cntB (s ++ t) k = cntB s k∧lastB (s ++ t) k = lastB s k
 | 0,_=>⟨rfl,rfl⟩
 | k + 1,h=>by
  have ih:=cnt_app s t k (by omega)
  have hb:atB (s ++ t) k = atB s k:=byte_left s t k (by omega)
  refine ⟨?_,?_⟩
  ·show cntB (s ++ t) k + (if thr (atB (s ++ t) k) = lastB (s ++ t) k then 0 else 1) = cntB s k + (if thr (atB s k) = lastB s k then 0 else 1)
   rw [hb,ih.1,ih.2]
  ·show thr (atB (s ++ t) k) = thr (atB s k)
   rw [hb]
theorem thr_read {b:UInt8} {x:Int × Bool} (h:readB b = some x):thr b = x.1∧0 ≤ thr b:=by
 unfold readB at h
 unfold thr
 split at h
 ·rename_i hb
  rw [if_pos hb]
  have h1:=congrArg Prod.fst (Option.some.inj h)
  exact ⟨h1,by omega⟩
 ·rename_i hb
  rw [if_neg hb]
  split at h
  ·rename_i hc
   rw [if_pos hc]
   have h1:=congrArg Prod.fst (Option.some.inj h)
   exact ⟨h1,by omega⟩
  ·cases h
structure WkOk (w:Wk):Prop where
 all:∀ j,j < w.s.size→0 ≤ thr (atB w.s j)
 ctx:w.ctx = cntB w.s w.s.size
 last:w.last = lastB w.s w.s.size
theorem WkOk.zero:WkOk zWk:=⟨fun _ hj=>absurd hj (Nat.not_lt_zero _),rfl,rfl⟩
theorem WkOk.seen {w:Wk} (h:WkOk w) (p:Plan) (most:Int) (i:Nat) (c:Cfg):WkOk (seenW p most i c w):=by
 obtain ⟨h1,h2,h3⟩:=seenW_s p most i c w
 exact ⟨by rw [h1]; exact h.all,by rw [h1,h2]; exact h.ctx,by rw [h1,h3]; exact h.last⟩
theorem WkOk.step {w:Wk} (h:WkOk w) {b:UInt8} {x:Int × Bool} (hb:readB b = some x):WkOk (stepW b x.1 w):=by
 have hz:(w.s ++ ⟨#[b]⟩).size = w.s.size + 1:=by rw [ByteArray.size_append]; rfl
 have hm:atB (w.s ++ ⟨#[b]⟩) w.s.size = b:=by
  have:=byte_mid w.s b ⟨#[]⟩
  rwa [show (⟨#[b]⟩:ByteArray) ++ ⟨#[]⟩ = ⟨#[b]⟩ from rfl] at this
 obtain ⟨t1,t2⟩:=thr_read hb
 have hq:=cnt_app w.s ⟨#[b]⟩ w.s.size (Nat.le_refl _)
 refine ⟨fun j hj=>?_,?_,?_⟩
 ·have hj:j < (w.s ++ ⟨#[b]⟩).size:=hj
  show 0 ≤ thr (atB (w.s ++ ⟨#[b]⟩) j)
  by_cases e:j = w.s.size
  ·subst e; rw [hm]; exact t2
  ·rw [show atB (w.s ++ ⟨#[b]⟩) j = atB w.s j from byte_left _ _ _ (by omega)]
   exact h.all j (by omega)
 ·show (if x.1 ≠ w.last then w.ctx + 1 else w.ctx) = cntB (w.s ++ ⟨#[b]⟩) (w.s ++ ⟨#[b]⟩).size
  rw [hz,cntB,hq.1,hq.2,hm,t1,← h.ctx,← h.last]
  by_cases e:x.1 = w.last
  ·rw [if_neg (fun hne=>hne e),if_pos e,Nat.add_zero]
  ·rw [if_pos e,if_neg e]
 ·show x.1 = lastB (w.s ++ ⟨#[b]⟩) (w.s ++ ⟨#[b]⟩).size
  rw [hz,lastB,hm,t1]
end Go.Proofs.YtmfcpbhdggonfaaGreatDoor
