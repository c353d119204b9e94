/- The program that the statement Worth makes: its names may be; its plan. No Go here. -/
import Derived.Test.YtmfcpbhdggonfaaGreatDoorMjAK
import Derived.Test.YtmfcpbhdggonfaaGreatDoorMjAF
import Derived.Test.YtmfcpbhdggonfaaGreatDoorMjAB
import Derived.Test.YtmfcpbhdggonfaaGreatDoorMjAE
namespace RR
open Go Go.RowKit
theorem num_skip (w:ByteArray) (q:Nat):∀ (us r:List Nm) (k:Nat),(∀ x ∈ us,x.role ≠ q)→numF w q (us ++ r) k = numF w q r k
 | [],_,_,_=>rfl
 | u :: us,r,k,h=>by
  show (if u.role = q then (if u.word = w then (k:Int) else numF w q (us ++ r) (k + 1)) else numF w q (us ++ r) k) = _
  rw [if_neg (h u (List.mem_cons_self ..))]
  exact num_skip w q us r k fun x hx=>h x (List.mem_cons_of_mem _ hx)
theorem par_skip (w:ByteArray) (P:Int):∀ (us r:List Nm) (k:Nat),(∀ x ∈ us,x.role ≠ 3)→parF w P (us ++ r) k = parF w P r k
 | [],_,_,_=>rfl
 | u :: us,r,k,h=>by
  show (if u.role = 3∧u.proc = P then (if u.word = w then (k:Int) else parF w P (us ++ r) (k + 1)) else parF w P (us ++ r) k) = _
  rw [if_neg (fun q=>h u (List.mem_cons_self ..) q.1)]
  exact par_skip w P us r k fun x hx=>h x (List.mem_cons_of_mem _ hx)
theorem cnt_skip (P:Int):∀ (us r:List Nm) (k:Nat),(∀ x ∈ us,x.role ≠ 3)→cntF P (us ++ r) k = cntF P r k
 | [],_,_,_=>rfl
 | u :: us,r,k,h=>by
  show (if u.role = 3∧u.proc = P then cntF P (us ++ r) (k + 1) else cntF P (us ++ r) k) = _
  rw [if_neg (fun q=>h u (List.mem_cons_self ..) q.1)]
  exact cnt_skip P us r k fun x hx=>h x (List.mem_cons_of_mem _ hx)
theorem add_skip (N:List Nm) (S:List Stm):∀ (us:List Nm) (p:Plan),(∀ x ∈ us,3 < x.role∧x.role < 7)→us.foldl (addNameF N S) p = p
 | [],_,_=>rfl
 | u :: us,p,h=>by
  have e:addNameF N S p u = p:=by
   have:=h u (List.mem_cons_self ..)
   unfold addNameF
   rw [if_neg (by omega),if_neg (by omega),if_neg (by omega),if_neg (by omega)]
  rw [List.foldl_cons,e]
  exact add_skip N S us p fun x hx=>h x (List.mem_cons_of_mem _ hx)
structure WNm (L:List Tk) (NS us vs:List Nm):Prop where
 is:∃ p2 p7,NS = nm7 L ++ (us ++ ([⟨tP,p2,2,1⟩] ++ (vs ++ [⟨tP,p7,7,1⟩])))
 us:∀ x ∈ us,x.role = 4∧x.proc = 0∧(x.word = tW ∨ x.word = tX ∨ x.word = tY ∨ x.word = tA ∨ x.word = tBb)
 vs:∀ x ∈ vs,x.proc = 1∧((x.role = 4∧(x.word = tW ∨ x.word = tX ∨ x.word = tY ∨ x.word = tZ)) ∨ (x.role = 6∧x.word = tF))
theorem WNm.us4 {L:List Tk} {NS us vs:List Nm} (h:WNm L NS us vs):∀ x ∈ us,3 < x.role∧x.role < 7:=fun x hx=>by have:=(h.us x hx).1; omega
theorem WNm.vs4 {L:List Tk} {NS us vs:List Nm} (h:WNm L NS us vs):∀ x ∈ vs,3 < x.role∧x.role < 7:=fun x hx=>by
 rcases (h.vs x hx).2 with ⟨e,_⟩ | ⟨e,_⟩ <;> omega
theorem WNm.num0 {L:List Tk} {NS us vs:List Nm} (h:WNm L NS us vs) (w:ByteArray):numF w 0 NS 0 = if tW = w then 0 else if tX = w then 1 else if tY = w then 2 else if tZ = w then 3 else -1:=by
 obtain ⟨p2,p7,e⟩:=h.is
 have f:∀ k,numF w 0 (us ++ ([⟨tP,p2,2,1⟩] ++ (vs ++ [⟨tP,p7,7,1⟩]))) k = -1:=fun k=>by
  rw [num_skip w 0 us _ _ (fun x hx=>by have:=h.us4 x hx; omega)]
  show numF w 0 (vs ++ [⟨tP,p7,7,1⟩]) k = -1
  rw [num_skip w 0 vs _ _ (fun x hx=>by have:=h.vs4 x hx; omega)]; rfl
 rw [e]
 show (if tW = w then ((0:Nat):Int) else if tX = w then ((1:Nat):Int) else if tY = w then ((2:Nat):Int) else if tZ = w then ((3:Nat):Int) else numF w 0 (us ++ ([⟨tP,p2,2,1⟩] ++ (vs ++ [⟨tP,p7,7,1⟩]))) 4) = _
 rw [f]; rfl
theorem WNm.num2 {L:List Tk} {NS us vs:List Nm} (h:WNm L NS us vs):numF tP 2 NS 0 = 1∧numF tF 2 NS 0 = 0:=by
 obtain ⟨p2,p7,e⟩:=h.is
 rw [e]
 constructor
 ·show numF tP 2 (us ++ ([⟨tP,p2,2,1⟩] ++ (vs ++ [⟨tP,p7,7,1⟩]))) 1 = 1
  rw [num_skip tP 2 us _ _ (fun x hx=>by have:=h.us4 x hx; omega)]; rfl
 ·rfl
theorem WNm.par {L:List Tk} {NS us vs:List Nm} (h:WNm L NS us vs) (w:ByteArray):parF w 0 NS 0 = if tA = w then 0 else if tBb = w then 1 else -1:=by
 obtain ⟨p2,p7,e⟩:=h.is
 have f:∀ k,parF w 0 (us ++ ([⟨tP,p2,2,1⟩] ++ (vs ++ [⟨tP,p7,7,1⟩]))) k = -1:=fun k=>by
  rw [par_skip w 0 us _ _ (fun x hx=>by have:=h.us4 x hx; omega)]
  show parF w 0 (vs ++ [⟨tP,p7,7,1⟩]) k = -1
  rw [par_skip w 0 vs _ _ (fun x hx=>by have:=h.vs4 x hx; omega)]; rfl
 rw [e]
 show (if tA = w then ((0:Nat):Int) else if tBb = w then ((1:Nat):Int) else parF w 0 (us ++ ([⟨tP,p2,2,1⟩] ++ (vs ++ [⟨tP,p7,7,1⟩]))) 2) = _
 rw [f]; rfl
theorem WNm.cnt {L:List Tk} {NS us vs:List Nm} (h:WNm L NS us vs):cntF 0 NS 0 = 2∧cntF 1 NS 0 = 0:=by
 obtain ⟨p2,p7,e⟩:=h.is
 have f:∀ P k,cntF P (us ++ ([⟨tP,p2,2,1⟩] ++ (vs ++ [⟨tP,p7,7,1⟩]))) k = k:=fun P k=>by
  rw [cnt_skip P us _ _ (fun x hx=>by have:=h.us4 x hx; omega)]
  show cntF P (vs ++ [⟨tP,p7,7,1⟩]) k = k
  rw [cnt_skip P vs _ _ (fun x hx=>by have:=h.vs4 x hx; omega)]; rfl
 rw [e]
 exact ⟨f 0 2,f 1 0⟩
def trW (w:ByteArray) (P:Int):Tru :=
 if w = tW then ⟨1,0⟩ else if w = tX then ⟨1,1⟩ else if w = tY then ⟨1,2⟩ else if w = tZ then ⟨1,3⟩ else if P = 0∧w = tA then ⟨2,0⟩ else if P = 0∧w = tBb then ⟨2,1⟩ else ⟨0,0⟩
theorem WNm.truth {L:List Tk} {NS us vs:List Nm} (h:WNm L NS us vs) {i:Nat} {n:Nm} (hi:NS[i]? = some n) (hw:n.word = tW ∨ n.word = tX ∨ n.word = tY ∨ n.word = tZ ∨ (n.proc = 0∧(n.word = tA ∨ n.word = tBb))):truthF NS (i:Int) = trW n.word n.proc:=by
 have hl:=(List.getElem?_eq_some_iff.1 hi).1
 have e:nmAt NS i = n:=by unfold nmAt; rw [hi]; rfl
 unfold truthF
 rw [if_pos ⟨by omega,by omega⟩,Int.toNat_natCast,e,h.num0 n.word]
 rcases hw with hw | hw | hw | hw | ⟨hp,hw | hw⟩
 ·rw [hw]; rfl
 ·rw [hw]; rfl
 ·rw [hw]; rfl
 ·rw [hw]; rfl
 ·rw [hp,h.par n.word,hw]; rfl
 ·rw [hp,h.par n.word,hw]; rfl
theorem WNm.ok {L:List Tk} {NS us vs:List Nm} (h:WNm L NS us vs) (q:Nat):outCheck NS [⟨tF,q,2⟩] = (0,0):=by
 obtain ⟨p2,p7,e⟩:=h.is
 have hu:=h.us4
 have hv:=h.vs4
 have m1:manyP NS = none:=by
  rw [e]
  unfold manyP
  show manyF2 (us ++ ([⟨tP,p2,2,1⟩] ++ (vs ++ [⟨tP,p7,7,1⟩]))) ⟨4,0,1,2,0⟩ = none
  rw [many_skip us _ _ hu (by decide)]
  show manyF2 (vs ++ [⟨tP,p7,7,1⟩]) ⟨4,0,2,0,0⟩ = none
  rw [many_skip vs _ _ hv (by decide)]
  rfl
 have m2:twiceP NS = none:=by
  refine twice_none ?_
  have key:(NS.filter fun n=>decide (n.role ≤ 3)).Pairwise fun m n=>m.word ≠ n.word:=by
   have f1:us.filter (fun n=>decide (n.role ≤ 3)) = []:=List.filter_eq_nil_iff.2 fun x hx=>by have:=hu x hx; simp; omega
   have f2:vs.filter (fun n=>decide (n.role ≤ 3)) = []:=List.filter_eq_nil_iff.2 fun x hx=>by have:=hv x hx; simp; omega
   rw [e,List.filter_append,List.filter_append,List.filter_append,List.filter_append,f1,f2]
   have:([tW,tX,tY,tZ,tF,tA,tBb,tP]:List ByteArray).Pairwise fun m n=>m ≠ n:=by decide
   exact (List.pairwise_map (f:=Nm.word)).1 this
  exact List.pairwise_filter.1 key
 have gv:∀ {w:ByteArray} {r:Nat},isGivenB (nm7 L) w r = true→isGivenB NS w r = true:=fun hg=>by
  unfold isGivenB at hg ⊢
  rw [e,List.any_append,hg]; rfl
 have gp:isGivenB NS tP 2 = true:=by
  unfold isGivenB
  rw [e,List.any_append,List.any_append,List.any_append]
  simp
 have ga:isParamB NS tA 0 = true∧isParamB NS tBb 0 = true:=by
  unfold isParamB
  rw [e,List.any_append,List.any_append]
  exact ⟨rfl,rfl⟩
 have m3:misP NS = none:=by
  have all:∀ n ∈ NS,misusedB NS n = false:=by
   intro n hn
   rw [e] at hn
   rcases List.mem_append.1 hn with hn | hn
   ·unfold nm7 at hn
    simp only [List.mem_cons,List.not_mem_nil,or_false] at hn
    rcases hn with hn | hn | hn | hn | hn | hn | hn <;> (rw [hn]; rfl)
   ·rcases List.mem_append.1 hn with hn | hn
    ·obtain ⟨er,ep,ew⟩:=h.us n hn
     unfold misusedB
     rw [if_pos er,ep]
     rcases ew with ew | ew | ew | ew | ew
     ·rw [ew,gv rfl]; rfl
     ·rw [ew,gv rfl]; rfl
     ·rw [ew,gv rfl]; rfl
     ·rw [ew,ga.1,Bool.not_true,Bool.and_false]
     ·rw [ew,ga.2,Bool.not_true,Bool.and_false]
    ·rcases List.mem_append.1 hn with hn | hn
     ·rw [List.mem_singleton.1 hn]; rfl
     ·rcases List.mem_append.1 hn with hn | hn
      ·obtain ⟨ep,⟨er,ew⟩ | ⟨er,ew⟩⟩:=h.vs n hn
       ·unfold misusedB
        rw [if_pos er]
        rcases ew with ew | ew | ew | ew <;> (rw [ew,gv rfl]; rfl)
       ·unfold misusedB
        rw [if_neg (by omega),if_neg (by omega),if_pos (.inl er),ew,gv rfl]; rfl
      ·rw [List.mem_singleton.1 hn]
       unfold misusedB
       rw [if_neg (show ¬ (7 = 4) by decide),if_neg (show ¬ (7 = 5) by decide),if_pos (.inr rfl),gp]; rfl
  exact first_none (fun k hk=>all _ (List.getElem_mem hk)) _ 0 rfl
 have m4:wrongP NS [⟨tF,q,2⟩] = none:=by
  refine wrong_none _ fun c hc=>?_
  rw [List.mem_singleton.1 hc]
  show 2 = paramsP NS tF
  unfold paramsP
  rw [e,List.foldl_append,List.foldl_append,List.foldl_append,List.foldl_append,param_skip tF us _ (fun x hx=>(hu x hx).1),param_skip tF vs _ (fun x hx=>(hv x hx).1)]
  rfl
 unfold outCheck
 rw [m1]
 simp only []
 rw [m2]
 simp only []
 rw [m3]
 simp only []
 rw [m4]
theorem WNm.plan {L:List Tk} {NS us vs:List Nm} (h:WNm L NS us vs) (S:List Stm) (nds:List Nd):(planF NS S nds).shared = 4∧(planF NS S nds).locks = 0∧(planF NS S nds).threads = [1]∧(planF NS S nds).procs = [⟨2,enteredF S ⟨0,-1,false⟩⟩,⟨0,enteredF S ⟨1,-1,false⟩⟩]:=by
 obtain ⟨p2,p7,e⟩:=h.is
 have key:NS.foldl (addNameF NS S) emptyPlan = ⟨4,0,[1],[⟨2,enteredF S ⟨0,-1,false⟩⟩,⟨0,enteredF S ⟨1,-1,false⟩⟩],[],[]⟩:=by
  have k:∀ l,l = NS→l.foldl (addNameF NS S) emptyPlan = ⟨4,0,[1],[⟨2,enteredF S ⟨0,-1,false⟩⟩,⟨0,enteredF S ⟨1,-1,false⟩⟩],[],[]⟩:=by
   intro l hl
   rw [hl.trans e,List.foldl_append,List.foldl_append,List.foldl_append,List.foldl_append,add_skip NS S us _ h.us4,add_skip NS S vs _ h.vs4]
   show (⟨4,0,[numF tP 2 NS 0],[⟨(cntF 0 NS 0:Nat),enteredF S ⟨0,-1,false⟩⟩,⟨(cntF 1 NS 0:Nat),enteredF S ⟨1,-1,false⟩⟩],[],[]⟩:Plan) = _
   rw [h.num2.1,h.cnt.1,h.cnt.2]; rfl
  exact k NS rfl
 unfold planF
 simp only []
 rw [key]
 exact ⟨rfl,rfl,rfl,rfl⟩
theorem pn_mid (g:Nd→PNd) (A:List Nd) (x:Nd) (B:List Nd):pnAt ((A ++ x :: B).map g) ((A.length:Nat):Int).toNat = g x:=by
 unfold pnAt
 rw [Int.toNat_natCast,List.getElem?_map,List.getElem?_append_right (Nat.le_refl _),Nat.sub_self]; rfl
theorem look_run (g:Nd→PNd):∀ (xs A B:List Nd) (f:Nat) (a:PLine) (l:Int),l = ((A.length + xs.length:Nat):Int) - 1→xs.length < f→lookG ((A ++ (xs ++ B)).map g) l f A.length a = (xs.map g).foldl look1 a
 | [],A,B,f,a,l,hl,hf=>by
  obtain ⟨f,rfl⟩:∃ k,f = k + 1:=⟨f - 1,by omega⟩
  rw [lookG,if_neg (by simp only [List.length_nil] at hl; omega)]; rfl
 | x :: xs,A,B,f,a,l,hl,hf=>by
  obtain ⟨f,rfl⟩:∃ k,f = k + 1:=⟨f - 1,by omega⟩
  simp only [List.length_cons] at hl hf
  rw [lookG,if_pos ⟨by omega,by omega,by rw [List.length_map]; simp only [List.length_append,List.length_cons]; omega⟩]
  rw [show A ++ (x :: xs ++ B) = A ++ x :: (xs ++ B) from rfl,pn_mid]
  have:=look_run g xs (A ++ [x]) B f (look1 a (g x)) l (by rw [hl,List.length_append,List.length_singleton]; omega) (by omega)
  rw [List.append_assoc,List.length_append] at this
  exact this
theorem work_run (s:Sight) (NS:List Nm) (first:Int):∀ (xs A B:List Nd) (f:Nat) (v:List Bool) (l:Int),l = ((A.length + xs.length:Nat):Int) - 1→xs.length < f→workG s ((A ++ (xs ++ B)).map (nodeF NS)) first l f A.length v = xs.foldl (stepN s NS first) v
 | [],A,B,f,v,l,hl,hf=>by
  obtain ⟨f,rfl⟩:∃ k,f = k + 1:=⟨f - 1,by omega⟩
  rw [workG,if_neg (by simp only [List.length_nil] at hl; omega)]; rfl
 | x :: xs,A,B,f,v,l,hl,hf=>by
  obtain ⟨f,rfl⟩:∃ k,f = k + 1:=⟨f - 1,by omega⟩
  simp only [List.length_cons] at hl hf
  rw [workG,if_pos ⟨by omega,by omega,by rw [List.length_map]; simp only [List.length_append,List.length_cons]; omega⟩]
  rw [show A ++ (x :: xs ++ B) = A ++ x :: (xs ++ B) from rfl,pn_mid]
  have:=work_run s NS first xs (A ++ [x]) B f (stepN s NS first v x) l (by rw [hl,List.length_append,List.length_singleton]; omega) (by omega)
  rw [List.append_assoc,List.length_append] at this
  exact this
theorem Wrt.work {E:List (ByteArray × Bool)} {ch v a:Bool} {P:Int} {i:Nat} {nn:List Nm} {xs A B:List Nd} {NS:List Nm} {s:Sight} (h:Wrt E ch v a P i A.length nn xs) (hn:∀ (k:Nat) (x:Nm),nn[k]? = some x→∀ c,(x.word,c) ∈ E→seeF s (truthF NS ((i + k:Nat):Int)) = c) (hc:a = true→s.choice = ch) (hl:A.length + xs.length ≤ 100000):workF s ((A ++ (xs ++ B)).map (nodeF NS)) (vOf A xs) = v:=by
 obtain ⟨us,e,l1,l2⟩:=h.val NS s A.length [] hn hc (by omega) (by simp) hl
 have hp:=h.pos
 unfold workF vOf
 simp only []
 rw [work_run s NS A.length xs A B _ [] _ rfl (by rw [List.length_map]; simp only [List.length_append]; omega),e,wrap_mid (by omega) (by omega)]
 refine valAt_is (k:=us.length - 1) (by omega) ?_
 have:=last_at (vs:=[]) l2
 simpa using this
structure LnIs (a:PLine) (k at_:Nat) (par next:Int) (tg:Tru) (pr:Int) (vals:List (Int × Int)) (chs:Bool):Prop where
 kind:a.kind = k
 place:a.at_ = at_
 params:a.params = par
 next:a.next = next
 target:a.target = tg
 proc:a.proc = pr
 vals:a.vals = vals
 choice:a.choice = chs
theorem LnIs.read {a:PLine} {k at_:Nat} {par next:Int} {tg:Tru} {pr:Int} {vals:List (Int × Int)} {chs:Bool} (h:LnIs a k at_ par next tg pr vals chs) (n:Nat):LnIs (a.read n) k at_ par next tg pr vals chs:=by
 unfold PLine.read
 split <;> exact ⟨h.kind,h.place,h.params,h.next,h.target,h.proc,h.vals,h.choice⟩
theorem LnIs.look1 {a:PLine} {k at_:Nat} {par next:Int} {tg:Tru} {pr:Int} {vals:List (Int × Int)} {chs:Bool} (h:LnIs a k at_ par next tg pr vals chs) (n:PNd):LnIs (RR.look1 a n) k at_ par next tg pr vals (chs || decide (n.sign = 2)):=by
 unfold RR.look1
 simp only []
 have h2:LnIs (if n.sign = 2 then { a with choice:=true } else a) k at_ par next tg pr vals (chs || decide (n.sign = 2)):=by
  by_cases hs:n.sign = 2
  ·rw [if_pos hs,decide_eq_true hs,Bool.or_true]
   exact ⟨h.kind,h.place,h.params,h.next,h.target,h.proc,h.vals,rfl⟩
  ·rw [if_neg hs,decide_eq_false hs,Bool.or_false]; exact h
 split
 ·exact h2.read _
 ·exact h2
theorem LnIs.looks {k at_:Nat} {par next:Int} {tg:Tru} {pr:Int} {vals:List (Int × Int)}:∀ (l:List PNd) {a:PLine} {chs:Bool},LnIs a k at_ par next tg pr vals chs→LnIs (l.foldl RR.look1 a) k at_ par next tg pr vals (chs || l.any fun n=>decide (n.sign = 2))
 | [],a,chs,h=>by rw [List.any_nil,Bool.or_false]; exact h
 | n :: r,a,chs,h=>by
  have:=LnIs.looks r (h.look1 n)
  rw [List.any_cons,← Bool.or_assoc]
  exact this
theorem LnIs.val {a:PLine} {k at_:Nat} {par next:Int} {tg:Tru} {pr:Int} {vals:List (Int × Int)} {chs:Bool} (h:LnIs a k at_ par next tg pr vals chs) (NS:List Nm) (A xs B:List Nd):LnIs (valF ((A ++ (xs ++ B)).map (nodeF NS)) a (vOf A xs)) k at_ par next tg pr (vals ++ [vOf A xs]) (chs || xs.any fun n=>decide (n.sign = 2)):=by
 unfold valF lookF vOf
 simp only []
 rw [look_run (nodeF NS) xs A B _ _ _ rfl (by rw [List.length_map]; simp only [List.length_append]; omega)]
 have h2:LnIs { a with vals:=a.vals ++ [vOf A xs] } k at_ par next tg pr (vals ++ [vOf A xs]) chs:=⟨h.kind,h.place,h.params,h.next,h.target,h.proc,by show a.vals ++ _ = _; rw [h.vals],h.choice⟩
 have:=LnIs.looks (xs.map (nodeF NS)) h2
 rw [List.any_map] at this
 exact this
end RR
namespace RR
open Go Go.RowKit
structure WPl (P:Plan) (at0 at5 at6:Nat) (e2 e3 e4 ea eb ez:Int × Int) (c2 c3 c4 c5 c0:Bool):Prop where
 shared:P.shared = 4
 locks:P.locks = 0
 threads:P.threads = [1]
 procs:P.procs = [⟨2,0⟩,⟨0,2⟩]
 l0:∃ q,LnIs (lineAt P 0) 7 at0 2 q ⟨0,0⟩ 0 [ez] c0
 l2:∃ q,LnIs (lineAt P 2) 0 q 0 3 ⟨1,0⟩ 0 [e2] c2
 l3:∃ q,LnIs (lineAt P 3) 0 q 0 4 ⟨1,1⟩ 0 [e3] c3
 l4:∃ q,LnIs (lineAt P 4) 0 q 0 5 ⟨1,2⟩ 0 [e4] c4
 l5:LnIs (lineAt P 5) 1 at5 0 6 ⟨1,3⟩ 0 [ea,eb] c5
 l6:∃ q,LnIs (lineAt P 6) 9 at6 0 q ⟨0,0⟩ 0 [] false
def cW (b0 b1 b2 b3:Bool) (t:Thr):Cfg:=⟨b0,b1,b2,b3,0,0,0,t,zThr,zThr⟩
def th1 (k:Int):Thr:=⟨1,⟨k,false,false,false⟩,zFrm,zFrm,zFrm⟩
def th2 (va vb:Bool):Thr:=⟨2,⟨5,false,false,false⟩,⟨0,va,vb,false⟩,zFrm,zFrm⟩
theorem fr1 (k:Int):frameF (th1 k) 0 = some ⟨k,false,false,false⟩:=by kernel_rfl
theorem fr2 (va vb:Bool):frameF (th2 va vb) 0 = some ⟨0,va,vb,false⟩:=by kernel_rfl
theorem fr0:frameF zThr 0 = none:=by kernel_rfl
theorem start_w {P:Plan} {at0 at5 at6:Nat} {e2 e3 e4 ea eb ez:Int × Int} {c2 c3 c4 c5 c0:Bool} (h:WPl P at0 at5 at6 e2 e3 e4 ea eb ez c2 c3 c4 c5 c0):start1 P = cW false false false false (th1 2):=by
 unfold start1
 rw [h.threads]
 unfold startF procAt
 rw [h.procs]
 kernel_rfl
theorem step_set {P:Plan} {k n:Int} {j q:Nat} {e:Int × Int} {c ch v:Bool} {b0 b1 b2 b3:Bool} (hl:LnIs (lineAt P k) 0 q 0 n ⟨1,(j:Int)⟩ 0 [e] c) (hw:workF ⟨b0,b1,b2,b3,false,false,false,ch⟩ P.nodes e = v) (hc:ch = true→c = true) (hj:j < 4):stepF P (cW b0 b1 b2 b3 (th1 k)) 0 ch = some ((cW b0 b1 b2 b3 (th1 n)).setS v j):=by
 unfold stepF
 rw [if_pos (by decide)]
 have hf:frameF ((cW b0 b1 b2 b3 (th1 k)).t (0:Int).toNat) 0 = some ⟨k,false,false,false⟩:=fr1 k
 rw [hf]
 have hq:(ch && !(lineAt P k).choice) = false:=by
  rw [hl.choice]
  cases ch
  ·rfl
  ·rw [hc rfl]; rfl
 simp only []
 rw [hq,if_neg (by decide),hl.vals]
 have hv:workAllF ⟨(cW b0 b1 b2 b3 (th1 k)).s0,(cW b0 b1 b2 b3 (th1 k)).s1,(cW b0 b1 b2 b3 (th1 k)).s2,(cW b0 b1 b2 b3 (th1 k)).s3,false,false,false,ch⟩ P.nodes [e] = [v]:=by
  show [workF ⟨b0,b1,b2,b3,false,false,false,ch⟩ P.nodes e] = [v]
  rw [hw]
 rw [hv]
 unfold walkF
 rw [hl.kind,if_neg (by decide),if_neg (by decide),if_neg (by decide)]
 unfold actF
 rw [hl.kind,if_pos rfl,hl.target,hl.next]
 match j,hj with
 | 0,_=>show _ = _; kernel_rfl
 | 1,_=>show _ = _; kernel_rfl
 | 2,_=>show _ = _; kernel_rfl
 | 3,_=>show _ = _; kernel_rfl
theorem step_call {P:Plan} {at5:Nat} {ea eb:Int × Int} {c ch va vb:Bool} {b0 b1 b2 b3:Bool} (hp:procAt P 0 = ⟨2,0⟩) (hl:LnIs (lineAt P 5) 1 at5 0 6 ⟨1,3⟩ 0 [ea,eb] c) (hw:workF ⟨b0,b1,b2,b3,false,false,false,ch⟩ P.nodes ea = va) (hw2:workF ⟨b0,b1,b2,b3,false,false,false,ch⟩ P.nodes eb = vb) (hc:ch = true→c = true):stepF P (cW b0 b1 b2 b3 (th1 5)) 0 ch = some (cW b0 b1 b2 b3 (th2 va vb)):=by
 unfold stepF
 rw [if_pos (by decide)]
 have hf:frameF ((cW b0 b1 b2 b3 (th1 5)).t (0:Int).toNat) 0 = some ⟨5,false,false,false⟩:=fr1 5
 rw [hf]
 have hq:(ch && !(lineAt P 5).choice) = false:=by
  rw [hl.choice]
  cases ch
  ·rfl
  ·rw [hc rfl]; rfl
 simp only []
 rw [hq,if_neg (by decide),hl.vals]
 have hv:workAllF ⟨(cW b0 b1 b2 b3 (th1 5)).s0,(cW b0 b1 b2 b3 (th1 5)).s1,(cW b0 b1 b2 b3 (th1 5)).s2,(cW b0 b1 b2 b3 (th1 5)).s3,false,false,false,ch⟩ P.nodes [ea,eb] = [va,vb]:=by
  show [workF ⟨b0,b1,b2,b3,false,false,false,ch⟩ P.nodes ea,workF ⟨b0,b1,b2,b3,false,false,false,ch⟩ P.nodes eb] = [va,vb]
  rw [hw,hw2]
 rw [hv]
 unfold walkF
 rw [hl.kind,if_pos rfl]
 unfold callF
 rw [hl.proc,hp]
 show _ = _
 kernel_rfl
theorem step_back {P:Plan} {at0 at5:Nat} {ea eb ez:Int × Int} {c c' ch va vb vz:Bool} {b0 b1 b2 b3:Bool} {q:Int} (h5:LnIs (lineAt P 5) 1 at5 0 6 ⟨1,3⟩ 0 [ea,eb] c') (hl:LnIs (lineAt P 0) 7 at0 2 q ⟨0,0⟩ 0 [ez] c) (hw:workF ⟨b0,b1,b2,b3,va,vb,false,ch⟩ P.nodes ez = vz) (hc:ch = true→c = true):stepF P (cW b0 b1 b2 b3 (th2 va vb)) 0 ch = some (cW b0 b1 b2 vz (th1 6)):=by
 unfold stepF
 rw [if_pos (by decide)]
 have hf:frameF ((cW b0 b1 b2 b3 (th2 va vb)).t (0:Int).toNat) 0 = some ⟨0,va,vb,false⟩:=fr2 va vb
 rw [hf]
 have hq:(ch && !(lineAt P 0).choice) = false:=by
  rw [hl.choice]
  cases ch
  ·rfl
  ·rw [hc rfl]; rfl
 simp only []
 rw [hq,if_neg (by decide),hl.vals]
 have hv:workAllF ⟨(cW b0 b1 b2 b3 (th2 va vb)).s0,(cW b0 b1 b2 b3 (th2 va vb)).s1,(cW b0 b1 b2 b3 (th2 va vb)).s2,(cW b0 b1 b2 b3 (th2 va vb)).s3,va,vb,false,ch⟩ P.nodes [ez] = [vz]:=by
  show [workF ⟨b0,b1,b2,b3,va,vb,false,ch⟩ P.nodes ez] = [vz]
  rw [hw]
 rw [hv]
 unfold walkF
 rw [hl.kind,if_neg (by decide),if_pos (.inl rfl)]
 unfold giveBackF
 have hp:popF (th2 va vb) = th1 5:=by kernel_rfl
 simp only [show ((cW b0 b1 b2 b3 (th2 va vb)).t (0:Int).toNat) = th2 va vb from rfl]
 rw [hp,fr1]
 simp only []
 rw [h5.target,h5.next]
 show _ = _
 kernel_rfl
theorem step_end {P:Plan} {at6:Nat} {b0 b1 b2 b3:Bool} {q:Int} (hl:LnIs (lineAt P 6) 9 at6 0 q ⟨0,0⟩ 0 [] false):stepF P (cW b0 b1 b2 b3 (th1 6)) 0 false = some (cW b0 b1 b2 b3 zThr):=by
 unfold stepF
 rw [if_pos (by decide)]
 have hf:frameF ((cW b0 b1 b2 b3 (th1 6)).t (0:Int).toNat) 0 = some ⟨6,false,false,false⟩:=fr1 6
 rw [hf]
 simp only []
 rw [Bool.false_and,if_neg (by decide),hl.vals]
 unfold walkF
 rw [hl.kind,if_neg (by decide),if_pos (.inr rfl)]
 show _ = _
 kernel_rfl
theorem step_none {P:Plan} {b0 b1 b2 b3:Bool} (i:Int) (ch:Bool):stepF P (cW b0 b1 b2 b3 zThr) i ch = none:=by
 unfold stepF
 by_cases h:0 ≤ i∧i < 3
 ·rw [if_pos h]
  have ht:(cW b0 b1 b2 b3 zThr).t i.toNat = zThr:=by
   obtain ⟨n,rfl⟩:∃ n:Nat,i = n:=⟨i.toNat,by omega⟩
   rw [Int.toNat_natCast]
   match n,(by omega:n < 3) with
   | 0,_=>rfl
   | 1,_=>rfl
   | 2,_=>rfl
  rw [ht,fr0]
 ·rw [if_neg h]
def blc (c:Bool):UInt8:=if c then 65 else 97
theorem read_blc (c:Bool):readB (blc c) = some (0,c):=by cases c <;> kernel_rfl
theorem follow_stepW {P:Plan} {s:ByteArray} {d k:Nat} {c c1:Cfg} {b:Bool} (hb:byteB s k = blc b) (hs:stepF P c 0 b = some c1):followF P s (d + 1) k c = followF P s d (k + 1) c1:=by
 rw [followF,hb,read_blc]
 simp only []
 rw [hs]
theorem follow_stop {P:Plan} {s:ByteArray} {d k:Nat} {c:Cfg} {b:Bool} (hb:byteB s k = blc b) (hs:stepF P c 0 b = none):followF P s (d + 1) k c = .error k:=by
 rw [followF,hb,read_blc]
 simp only []
 rw [hs]
structure WPlays (P:Plan) (vp vq vr va vb vz:Bool) (g2 g3 g4 g5 g0:Bool):Prop where
 s2:stepF P (cW false false false false (th1 2)) 0 g2 = some (cW vp false false false (th1 3))
 s3:stepF P (cW vp false false false (th1 3)) 0 g3 = some (cW vp vq false false (th1 4))
 s4:stepF P (cW vp vq false false (th1 4)) 0 g4 = some (cW vp vq vr false (th1 5))
 s5:stepF P (cW vp vq vr false (th1 5)) 0 g5 = some (cW vp vq vr false (th2 va vb))
 s0:stepF P (cW vp vq vr false (th2 va vb)) 0 g0 = some (cW vp vq vr vz (th1 6))
 s6:stepF P (cW vp vq vr vz (th1 6)) 0 false = some (cW vp vq vr vz zThr)
 start:start1 P = cW false false false false (th1 2)
theorem plays_w {P:Plan} {vp vq vr va vb vz g2 g3 g4 g5 g0:Bool} (h:WPlays P vp vq vr va vb vz g2 g3 g4 g5 g0) :
    playP P ⟨#[blc g2,blc g3,blc g4]⟩ = (viewF P (cW vp vq vr false (th1 5)),0,0) ∧
    playP P ⟨#[blc g2,blc g3,blc g4,blc g5]⟩ = (viewF P (cW vp vq vr false (th2 va vb)),0,0) ∧
    playP P ⟨#[blc g2,blc g3,blc g4,blc g5,blc g0]⟩ = (viewF P (cW vp vq vr vz (th1 6)),0,0) ∧
    playP P ⟨#[blc g2,blc g3,blc g4,blc g5,blc g0,97]⟩ = (viewF P (cW vp vq vr vz zThr),0,0) ∧
    playP P ⟨#[blc g2,blc g3,blc g4,blc g5,blc g0,97,97]⟩ = (zVw,8,6):=by
 have pl:∀ {s:ByteArray} {c:Cfg},s.size ≤ 200→followF P s s.size 0 (start1 P) = .ok c→playP P s = (viewF P c,0,0):=fun h1 h2=>by
  unfold playP
  rw [if_neg (by omega),h2]
 refine ⟨pl (by show 3 ≤ 200; decide) ?_,pl (by show 4 ≤ 200; decide) ?_,pl (by show 5 ≤ 200; decide) ?_,pl (by show 6 ≤ 200; decide) ?_,?_⟩
 ·rw [h.start]
  show followF P _ (2 + 1) 0 _ = _
  rw [follow_stepW (b:=g2) (by rfl) h.s2,follow_stepW (b:=g3) (by rfl) h.s3,follow_stepW (b:=g4) (by rfl) h.s4]; rfl
 ·rw [h.start]
  show followF P _ (3 + 1) 0 _ = _
  rw [follow_stepW (b:=g2) (by rfl) h.s2,follow_stepW (b:=g3) (by rfl) h.s3,follow_stepW (b:=g4) (by rfl) h.s4,follow_stepW (b:=g5) (by rfl) h.s5]; rfl
 ·rw [h.start]
  show followF P _ (4 + 1) 0 _ = _
  rw [follow_stepW (b:=g2) (by rfl) h.s2,follow_stepW (b:=g3) (by rfl) h.s3,follow_stepW (b:=g4) (by rfl) h.s4,follow_stepW (b:=g5) (by rfl) h.s5,follow_stepW (b:=g0) (by rfl) h.s0]; rfl
 ·rw [h.start]
  show followF P _ (5 + 1) 0 _ = _
  rw [follow_stepW (b:=g2) (by rfl) h.s2,follow_stepW (b:=g3) (by rfl) h.s3,follow_stepW (b:=g4) (by rfl) h.s4,follow_stepW (b:=g5) (by rfl) h.s5,follow_stepW (b:=g0) (by rfl) h.s0,follow_stepW (b:=false) (by rfl) h.s6]; rfl
 ·unfold playP
  rw [if_neg (by show ¬ 200 < 7; decide),h.start]
  have:followF P ⟨#[blc g2,blc g3,blc g4,blc g5,blc g0,97,97]⟩ (⟨#[blc g2,blc g3,blc g4,blc g5,blc g0,97,97]⟩:ByteArray).size 0 (cW false false false false (th1 2)) = .error 6:=by
   show followF P _ (6 + 1) 0 _ = _
   rw [follow_stepW (b:=g2) (by rfl) h.s2,follow_stepW (b:=g3) (by rfl) h.s3,follow_stepW (b:=g4) (by rfl) h.s4,follow_stepW (b:=g5) (by rfl) h.s5,follow_stepW (b:=g0) (by rfl) h.s0,follow_stepW (b:=false) (by rfl) h.s6,follow_stop (b:=false) (by rfl) (step_none 0 false)]
  rw [this]; rfl
theorem plays_of {P:Plan} {at0 at5 at6:Nat} {e2 e3 e4 ea eb ez:Int × Int} {c2 c3 c4 c5 c0:Bool} (h:WPl P at0 at5 at6 e2 e3 e4 ea eb ez c2 c3 c4 c5 c0) {vp vq vr va vb vz g2 g3 g4 g5 g0:Bool}
    (w2:workF ⟨false,false,false,false,false,false,false,g2⟩ P.nodes e2 = vp) (w3:workF ⟨vp,false,false,false,false,false,false,g3⟩ P.nodes e3 = vq) (w4:workF ⟨vp,vq,false,false,false,false,false,g4⟩ P.nodes e4 = vr)
    (wa:workF ⟨vp,vq,vr,false,false,false,false,g5⟩ P.nodes ea = va) (wb:workF ⟨vp,vq,vr,false,false,false,false,g5⟩ P.nodes eb = vb) (wz:workF ⟨vp,vq,vr,false,va,vb,false,g0⟩ P.nodes ez = vz)
    (i2:g2 = true→c2 = true) (i3:g3 = true→c3 = true) (i4:g4 = true→c4 = true) (i5:g5 = true→c5 = true) (i0:g0 = true→c0 = true):WPlays P vp vq vr va vb vz g2 g3 g4 g5 g0:=by
 obtain ⟨_,l0⟩:=h.l0
 obtain ⟨_,l2⟩:=h.l2
 obtain ⟨_,l3⟩:=h.l3
 obtain ⟨_,l4⟩:=h.l4
 obtain ⟨_,l6⟩:=h.l6
 have hp:procAt P 0 = ⟨2,0⟩:=by unfold procAt; rw [h.procs]; rfl
 exact ⟨step_set (j:=0) l2 w2 i2 (by decide),step_set (j:=1) l3 w3 i3 (by decide),step_set (j:=2) l4 w4 i4 (by decide),step_call hp h.l5 wa wb i5,step_back h.l5 l0 wz i0,step_end l6,start_w h⟩
theorem text_1 {P:Plan} {b0 b1 b2 b3:Bool} {k:Int} {q:Nat} (hs:P.shared = 4) (hk:P.locks = 0) (ht:P.threads = [1]) (ha:(lineAt P k).at_ = q) (hp:(lineAt P k).params = 0):textF P (cW b0 b1 b2 b3 (th1 k)) = bitF b0 ++ (bitF b1 ++ (bitF b2 ++ (bitF b3 ++ (⟨#[47,47]⟩ ++ (itoaF q ++ ⟨#[58]⟩))))):=by
 unfold textF
 rw [hs,hk,ht]
 show threadsG P (cW b0 b1 b2 b3 (th1 k)) 1 0 _ = _
 unfold threadsG threadsG
 have e1:framesTextF P (threadF (cW b0 b1 b2 b3 (th1 k)) ((0:Nat):Int)) = itoaF q ++ ⟨#[58]⟩:=by
  show framesTextF P (th1 k) = _
  unfold framesTextF framesG
  rw [if_pos ⟨show ((0:Nat):Int) < 1 by decide,by decide⟩,if_neg (by decide)]
  unfold framesG
  rw [if_neg (fun h=>absurd h.1 (show ¬ ((1:Nat):Int) < 1 by decide))]
  show (⟨#[]⟩:ByteArray) ++ frameTextF P ⟨k,false,false,false⟩ = _
  unfold frameTextF
  rw [ha,hp]
  unfold bitsF
  rw [if_neg (fun h=>absurd h.1 (by decide))]
  exact ByteArray.empty_append
 rw [e1]
 have e2:locksF (cW b0 b1 b2 b3 (th1 k)).h ((0:Nat):Int) 4 0 (bitsF (cW b0 b1 b2 b3 (th1 k)).s ((4:Nat):Int) 4 5 0 ⟨#[]⟩ ++ ⟨#[47]⟩) = bitF b0 ++ (bitF b1 ++ (bitF b2 ++ (bitF b3 ++ ⟨#[47]⟩))):=by
  cases b0 <;> cases b1 <;> cases b2 <;> cases b3 <;> kernel_rfl
 rw [e2]
 simp only [ByteArray.append_assoc]
 rw [← ByteArray.append_assoc (a:=⟨#[47]⟩) (b:=⟨#[47]⟩)]
 rfl
theorem text_2 {P:Plan} {b0 b1 b2 b3 va vb:Bool} {q r:Nat} (hs:P.shared = 4) (hk:P.locks = 0) (ht:P.threads = [1]) (ha:(lineAt P 5).at_ = q) (hp:(lineAt P 5).params = 0) (ha2:(lineAt P 0).at_ = r) (hp2:(lineAt P 0).params = 2):textF P (cW b0 b1 b2 b3 (th2 va vb)) = bitF b0 ++ (bitF b1 ++ (bitF b2 ++ (bitF b3 ++ (⟨#[47,47]⟩ ++ (itoaF q ++ (⟨#[58,44]⟩ ++ (itoaF r ++ (⟨#[58]⟩ ++ (bitF va ++ bitF vb))))))))):=by
 unfold textF
 rw [hs,hk,ht]
 show threadsG P (cW b0 b1 b2 b3 (th2 va vb)) 1 0 _ = _
 unfold threadsG threadsG
 have e1:framesTextF P (threadF (cW b0 b1 b2 b3 (th2 va vb)) ((0:Nat):Int)) = itoaF q ++ (⟨#[58,44]⟩ ++ (itoaF r ++ (⟨#[58]⟩ ++ (bitF va ++ bitF vb)))):=by
  show framesTextF P (th2 va vb) = _
  unfold framesTextF framesG
  rw [if_pos ⟨show ((0:Nat):Int) < 2 by decide,by decide⟩,if_neg (by decide)]
  unfold framesG
  rw [if_pos ⟨show ((1:Nat):Int) < 2 by decide,by decide⟩,if_pos (by decide)]
  unfold framesG
  rw [if_neg (fun h=>absurd h.1 (show ¬ ((2:Nat):Int) < 2 by decide))]
  show (((⟨#[]⟩:ByteArray) ++ frameTextF P ⟨5,false,false,false⟩) ++ ⟨#[44]⟩) ++ frameTextF P ⟨0,va,vb,false⟩ = _
  unfold frameTextF
  rw [ha,hp,ha2,hp2]
  have f1:∀ (f:Frm) (s:ByteArray),bitsF f.p 0 3 4 0 s = s:=fun f s=>by
   unfold bitsF
   rw [if_neg (fun h=>absurd h.1 (by decide))]
  have f2:∀ (s:ByteArray),bitsF (⟨0,va,vb,false⟩:Frm).p 2 3 4 0 s = s ++ bitF va ++ bitF vb:=fun s=>by
   unfold bitsF
   rw [if_pos (by constructor <;> decide)]
   unfold bitsF
   rw [if_pos (by constructor <;> decide)]
   unfold bitsF
   rw [if_neg (fun h=>absurd h.1 (by decide))]
   rfl
  rw [f1,f2,show (⟨#[]⟩:ByteArray) ++ (itoaF q ++ ⟨#[58]⟩) = itoaF q ++ ⟨#[58]⟩ from ByteArray.empty_append]
  simp only [ByteArray.append_assoc]
  rw [← ByteArray.append_assoc (a:=⟨#[58]⟩) (b:=⟨#[44]⟩)]
  rfl
 rw [e1]
 have e2:locksF (cW b0 b1 b2 b3 (th2 va vb)).h ((0:Nat):Int) 4 0 (bitsF (cW b0 b1 b2 b3 (th2 va vb)).s ((4:Nat):Int) 4 5 0 ⟨#[]⟩ ++ ⟨#[47]⟩) = bitF b0 ++ (bitF b1 ++ (bitF b2 ++ (bitF b3 ++ ⟨#[47]⟩))):=by
  cases b0 <;> cases b1 <;> cases b2 <;> cases b3 <;> kernel_rfl
 rw [e2]
 simp only [ByteArray.append_assoc]
 rw [← ByteArray.append_assoc (a:=⟨#[47]⟩) (b:=⟨#[47]⟩)]
 rfl
theorem text_0 {P:Plan} {b0 b1 b2 b3:Bool} (hs:P.shared = 4) (hk:P.locks = 0) (ht:P.threads = [1]):viewF P (cW b0 b1 b2 b3 zThr) = ⟨bitF b0 ++ (bitF b1 ++ (bitF b2 ++ (bitF b3 ++ ⟨#[47,47]⟩))),⟨#[]⟩,false,false⟩:=by
 have en:enabledF P (cW b0 b1 b2 b3 zThr) = ⟨#[]⟩:=by
  unfold enabledF letterIfF
  rw [step_none,step_none,step_none,step_none,step_none,step_none]; kernel_rfl
 have e1:textF P (cW b0 b1 b2 b3 zThr) = bitF b0 ++ (bitF b1 ++ (bitF b2 ++ (bitF b3 ++ ⟨#[47,47]⟩))):=by
  unfold textF
  rw [hs,hk,ht]
  cases b0 <;> cases b1 <;> cases b2 <;> cases b3 <;> kernel_rfl
 unfold viewF
 rw [e1,en]
 have e2:raceF P (cW b0 b1 b2 b3 zThr) = false:=by kernel_rfl
 have e3:deadF P (cW b0 b1 b2 b3 zThr) = false:=by
  unfold deadF
  have:(atAcqF P (cW b0 b1 b2 b3 zThr).t0 || atAcqF P (cW b0 b1 b2 b3 zThr).t1 || atAcqF P (cW b0 b1 b2 b3 zThr).t2) = false:=by kernel_rfl
  rw [this]; rfl
 rw [e2,e3]
end RR
namespace RR
open Go Go.RowKit
theorem get_mid {A nn B:List Nm} {k:Nat} {x:Nm} (h:nn[k]? = some x):(A ++ (nn ++ B))[A.length + k]? = some x:=by
 have hk:=(List.getElem?_eq_some_iff.1 h).1
 rw [List.getElem?_append_right (by omega),show A.length + k - A.length = k by omega,List.getElem?_append_left hk,h]
def SeeE (s:Sight) (E:List (ByteArray × Bool)) (P:Int):Prop:=∀ x ∈ E,(x.1 = tW ∨ x.1 = tX ∨ x.1 = tY ∨ x.1 = tZ ∨ (P = 0∧(x.1 = tA ∨ x.1 = tBb)))∧seeF s (trW x.1 P) = x.2
theorem Wrt.at_ {E:List (ByteArray × Bool)} {ch v a:Bool} {P:Int} {nn A' B' us vs:List Nm} {xs A B:List Nd} {NS:List Nm} {L:List Tk} {s:Sight} {i b:Nat} {nds:List Nd} (h:Wrt E ch v a P i b nn xs) (hN:WNm L NS us vs) (hi:i = A'.length) (hb:b = A.length) (hn:NS = A' ++ (nn ++ B')) (hd:nds = A ++ (xs ++ B)) (hs:SeeE s E P) (hc:a = true→s.choice = ch) (hl:A.length + xs.length ≤ 100000):workF s (nds.map (nodeF NS)) (vOf A xs) = v:=by
 subst hi hb hd
 refine h.work (fun k x hx c hm=>?_) hc hl
 have hg:NS[A'.length + k]? = some x:=by rw [hn]; exact get_mid hx
 have hp:=(h.use x (List.mem_of_getElem? hx)).2.1
 obtain ⟨h1,h2⟩:=hs _ hm
 rw [hN.truth hg (by rw [hp]; exact h1),hp]
 exact h2
theorem head_is {NS:List Nm} {S:List Stm} {i:Nat} {s:Stm} (h:s.kind = 0 ∨ s.kind = 7 ∨ s.kind = 9):LnIs (headF NS S i s) s.kind s.at_ (cntF s.blk.proc NS 0) (comesF S s.blk ((i:Int) + 1)) (truthF NS s.target) 0 [] false:=by
 unfold headF
 simp only []
 rw [if_neg (by omega),if_neg (by omega),if_neg (by omega),if_neg (by omega)]
 exact ⟨rfl,rfl,rfl,rfl,rfl,rfl,rfl,rfl⟩
theorem head_call {NS:List Nm} {S:List Stm} {i:Nat} {s:Stm} (h:s.kind = 1):LnIs (headF NS S i s) 1 s.at_ (cntF s.blk.proc NS 0) (comesF S s.blk ((i:Int) + 1)) (truthF NS s.target) (numF (nwordF NS s.name) 2 NS 0) [] false:=by
 unfold headF
 simp only []
 rw [if_neg (by omega),if_neg (by omega),if_neg (by omega),if_pos h]
 exact ⟨h,rfl,rfl,rfl,rfl,rfl,rfl,rfl⟩
theorem LnIs.of {a:PLine} {k k' at_ at_':Nat} {par next par' next':Int} {tg tg':Tru} {pr pr':Int} {vals vals':List (Int × Int)} {chs chs':Bool} (h:LnIs a k at_ par next tg pr vals chs) (e1:k = k') (e2:at_ = at_') (e3:par = par') (e4:next = next') (e5:tg = tg') (e6:pr = pr') (e7:vals = vals') (e8:chs = chs'):LnIs a k' at_' par' next' tg' pr' vals' chs':=by
 subst e1 e2 e3 e4 e5 e6 e7 e8; exact h
def stW (q0 q1 q2 q3 q4 q5 q6:Nat) (i2 i3 i4 i5 j5:Int) (ez e2 e3 e4 ea eb:Int × Int):List Stm:=[⟨7,q0,⟨0,-1,false⟩,-1,-1,[ez]⟩,⟨9,q1,⟨0,-1,false⟩,-1,-1,[]⟩,⟨0,q2,⟨1,-1,false⟩,i2,-1,[e2]⟩,⟨0,q3,⟨1,-1,false⟩,i3,-1,[e3]⟩,⟨0,q4,⟨1,-1,false⟩,i4,-1,[e4]⟩,⟨1,q5,⟨1,-1,false⟩,i5,j5,[ea,eb]⟩,⟨9,q6,⟨1,-1,false⟩,-1,-1,[]⟩]
theorem wpl_of {NS us vs:List Nm} {L:List Tk} (hN:WNm L NS us vs) {q0 q1 q2 q3 q4 q5 q6:Nat} {i2 i3 i4 i5:Nat} {xz xp xq xr xa xb:List Nd} {a2 a3 a4 aa ab a0:Bool} {n2 n3 n4 n5 n6:Nm}
    (t2:NS[i2]? = some n2) (w2:n2.word = tW) (t3:NS[i3]? = some n3) (w3:n3.word = tX) (t4:NS[i4]? = some n4) (w4:n4.word = tY) (t5:NS[i5]? = some n5) (w5:n5.word = tZ) (t6:NS[i5 + 1]? = some n6) (w6:n6.word = tF)
    (k0:xz.any (fun n=>decide (n.sign = 2)) = a0) (k2:xp.any (fun n=>decide (n.sign = 2)) = a2) (k3:xq.any (fun n=>decide (n.sign = 2)) = a3) (k4:xr.any (fun n=>decide (n.sign = 2)) = a4) (ka:xa.any (fun n=>decide (n.sign = 2)) = aa) (kb:xb.any (fun n=>decide (n.sign = 2)) = ab)
    {S:List Stm} (hS:S = stW q0 q1 q2 q3 q4 q5 q6 i2 i3 i4 i5 ((i5 + 1:Nat):Int) (vOf [] xz) (vOf xz xp) (vOf (xz ++ xp) xq) (vOf (xz ++ xp ++ xq) xr) (vOf (xz ++ xp ++ xq ++ xr) xa) (vOf (xz ++ xp ++ xq ++ xr ++ xa) xb))
    {nds:List Nd} (hd:nds = xz ++ xp ++ xq ++ xr ++ xa ++ xb) :
    WPl (planF NS S nds) q0 q5 q6 (vOf xz xp) (vOf (xz ++ xp) xq) (vOf (xz ++ xp ++ xq) xr) (vOf (xz ++ xp ++ xq ++ xr) xa) (vOf (xz ++ xp ++ xq ++ xr ++ xa) xb) (vOf [] xz) a2 a3 a4 (aa || ab) a0:=by
 obtain ⟨p1,p2,p3,p4⟩:=hN.plan S nds
 have en:enteredF S ⟨0,-1,false⟩ = 0∧enteredF S ⟨1,-1,false⟩ = 2:=by subst hS; exact ⟨by kernel_rfl,by kernel_rfl⟩
 have cm:comesF S ⟨1,-1,false⟩ 3 = 3∧comesF S ⟨1,-1,false⟩ 4 = 4∧comesF S ⟨1,-1,false⟩ 5 = 5∧comesF S ⟨1,-1,false⟩ 6 = 6:=by subst hS; exact ⟨by kernel_rfl,by kernel_rfl,by kernel_rfl,by kernel_rfl⟩
 have tn:truthF NS (-1) = ⟨0,0⟩:=by unfold truthF; rw [if_neg (by omega)]
 have d0:nds = [] ++ (xz ++ (xp ++ xq ++ xr ++ xa ++ xb)):=by rw [hd]; simp only [List.append_assoc,List.nil_append]
 have d2:nds = xz ++ (xp ++ (xq ++ xr ++ xa ++ xb)):=by rw [hd]; simp only [List.append_assoc]
 have d3:nds = (xz ++ xp) ++ (xq ++ (xr ++ xa ++ xb)):=by rw [hd]; simp only [List.append_assoc]
 have d4:nds = (xz ++ xp ++ xq) ++ (xr ++ (xa ++ xb)):=by rw [hd]; simp only [List.append_assoc]
 have d5:nds = (xz ++ xp ++ xq ++ xr) ++ (xa ++ xb):=by rw [hd]; simp only [List.append_assoc]
 have d6:nds = (xz ++ xp ++ xq ++ xr ++ xa) ++ (xb ++ []):=by rw [hd,List.append_nil]
 have ln:∀ (k:Nat) (s:Stm),S[k]? = some s→lineAt (planF NS S nds) (k:Int) = lineF NS S (nds.map (nodeF NS)) k s:=by
  have key:∀ (l:List Stm) (i k:Nat) (s:Stm),l[k]? = some s→(linesF NS S (nds.map (nodeF NS)) l i)[k]? = some (lineF NS S (nds.map (nodeF NS)) (i + k) s):=by
   intro l
   induction l with
   | nil=>intro i k s h; cases h
   | cons x r ih =>
    intro i k s h
    cases k with
    | zero =>
     have:x = s:=by simpa using h
     subst this; rfl
    | succ k =>
     have:=ih (i + 1) k s (by simpa using h)
     rw [show i + (k + 1) = i + 1 + k by omega]
     exact this
  intro k s h
  have g:=key S 0 k s h
  rw [Nat.zero_add] at g
  have gl:=(List.getElem?_eq_some_iff.1 g).1
  unfold lineAt
  show (if 0 ≤ (k:Int)∧(k:Int) < ((linesF NS S (nds.map (nodeF NS)) S 0).length:Nat) then (linesF NS S (nds.map (nodeF NS)) S 0)[(k:Int).toNat]?.getD endLine else endLine) = _
  rw [if_pos ⟨by omega,by omega⟩,Int.toNat_natCast,g]; rfl
 have ec:=hN.cnt
 have tr:∀ {i:Nat} {n:Nm},NS[i]? = some n→(n.word = tW ∨ n.word = tX ∨ n.word = tY ∨ n.word = tZ)→truthF NS (i:Int) = trW n.word n.proc:=fun h hw=>hN.truth h (by rcases hw with hw | hw | hw | hw <;> simp [hw])
 have r2:truthF NS (i2:Int) = ⟨1,0⟩:=by rw [tr t2 (.inl w2),w2]; rfl
 have r3:truthF NS (i3:Int) = ⟨1,1⟩:=by rw [tr t3 (.inr (.inl w3)),w3]; rfl
 have r4:truthF NS (i4:Int) = ⟨1,2⟩:=by rw [tr t4 (.inr (.inr (.inl w4))),w4]; rfl
 have r5:truthF NS (i5:Int) = ⟨1,3⟩:=by rw [tr t5 (.inr (.inr (.inr w5))),w5]; rfl
 have nw:nwordF NS ((i5 + 1:Nat):Int) = tF:=by
  unfold nwordF nmAt
  have hl:=(List.getElem?_eq_some_iff.1 t6).1
  rw [if_pos ⟨by omega,by omega⟩,Int.toNat_natCast,t6]
  exact w6
 refine ⟨p1,p2,p3,by rw [p4,en.1,en.2],?_,?_,?_,?_,?_,?_⟩
 ·have e:=ln 0 _ (by rw [hS]; rfl)
  refine ⟨comesF S ⟨0,-1,false⟩ (((0:Nat):Int) + 1),?_⟩
  rw [show (0:Int) = ((0:Nat):Int) from rfl,e]
  unfold lineF
  rw [d0]
  refine ((head_is (.inr (.inl rfl))).val NS [] xz _).of rfl rfl (by rw [show cntF (0:Int) NS 0 = 2 from ec.1]; rfl) rfl tn rfl rfl (by rw [Bool.false_or,k0])
 ·have e:=ln 2 _ (by rw [hS]; rfl)
  refine ⟨q2,?_⟩
  rw [show (2:Int) = ((2:Nat):Int) from rfl,e]
  unfold lineF
  rw [d2]
  refine ((head_is (.inl rfl)).val NS xz xp _).of rfl rfl (by rw [show cntF (1:Int) NS 0 = 0 from ec.2]; rfl) cm.1 r2 rfl rfl (by rw [Bool.false_or,k2])
 ·have e:=ln 3 _ (by rw [hS]; rfl)
  refine ⟨q3,?_⟩
  rw [show (3:Int) = ((3:Nat):Int) from rfl,e]
  unfold lineF
  rw [d3]
  refine ((head_is (.inl rfl)).val NS (xz ++ xp) xq _).of rfl rfl (by rw [show cntF (1:Int) NS 0 = 0 from ec.2]; rfl) cm.2.1 r3 rfl rfl (by rw [Bool.false_or,k3])
 ·have e:=ln 4 _ (by rw [hS]; rfl)
  refine ⟨q4,?_⟩
  rw [show (4:Int) = ((4:Nat):Int) from rfl,e]
  unfold lineF
  rw [d4]
  refine ((head_is (.inl rfl)).val NS (xz ++ xp ++ xq) xr _).of rfl rfl (by rw [show cntF (1:Int) NS 0 = 0 from ec.2]; rfl) cm.2.2.1 r4 rfl rfl (by rw [Bool.false_or,k4])
 ·have e:=ln 5 _ (by rw [hS]; rfl)
  rw [show (5:Int) = ((5:Nat):Int) from rfl,e]
  unfold lineF
  have h1:=(head_call (NS:=NS) (S:=S) (i:=5) (s:=⟨1,q5,⟨1,-1,false⟩,i5,((i5 + 1:Nat):Int),[vOf (xz ++ xp ++ xq ++ xr) xa,vOf (xz ++ xp ++ xq ++ xr ++ xa) xb]⟩) rfl).val NS (xz ++ xp ++ xq ++ xr) xa xb
  rw [← d5] at h1
  have h2:=h1.val NS (xz ++ xp ++ xq ++ xr ++ xa) xb []
  rw [← d6] at h2
  exact h2.of rfl rfl (by rw [show cntF (1:Int) NS 0 = 0 from ec.2]; rfl) cm.2.2.2 r5 (by rw [nw]; exact hN.num2.2) rfl (by rw [Bool.false_or,ka,kb])
 ·have e:=ln 6 _ (by rw [hS]; rfl)
  refine ⟨comesF S ⟨1,-1,false⟩ (((6:Nat):Int) + 1),?_⟩
  rw [show (6:Int) = ((6:Nat):Int) from rfl,e]
  unfold lineF
  exact (head_is (.inr (.inr rfl))).of rfl rfl (by rw [show cntF (1:Int) NS 0 = 0 from ec.2]; rfl) rfl tn rfl rfl rfl
end RR
namespace RR
open Go Go.RowKit
def StB (M F:Nat) (σ:QSt):Prop:=∀ s ∈ σ.sts,s.at_ ≤ M∧s.vals.length ≤ F + 1
theorem StB.same {M F:Nat} {σ τ:QSt} (h:StB M F σ) (e:τ.sts = σ.sts):StB M F τ:=by unfold StB; rw [e]; exact h
theorem StB.add {M F:Nat} {σ:QSt} (h:StB M F σ) {s:Stm} (h1:s.at_ ≤ M) (h2:s.vals.length ≤ F + 1):StB M F (σ.add s):=by
 intro x hx
 rcases List.mem_append.1 hx with hx | hx
 ·exact h x hx
 ·rw [List.mem_singleton.1 hx]; exact ⟨h1,h2⟩
theorem ahead_small {L:List Tk} {M:Nat} (hM:∀ t ∈ L,t.p ≤ M) (σ:PSt) (n:Nat):(σ.ahead L n).p ≤ M:=by
 unfold PSt.ahead
 split
 ·exact hM _ (List.getElem_mem _)
 ·exact Nat.zero_le _
theorem values_small (L:List Tk):∀ (f:Nat) (σ:QSt) (v:List (Int × Int)) (r:QSt × List (Int × Int)),valuesQ L f σ v = some r→r.2.length ≤ v.length + f
 | 0,σ,v,r,h=>by rw [valuesQ] at h; cases h
 | f + 1,σ,v,r,h=>by
  rw [valuesQ] at h
  split at h
  ·obtain ⟨a,h1,h2⟩:=bindS h
   have:=values_small L f _ _ _ h2
   have:=value_len h1
   omega
  ·rw [← Option.some.inj h]; exact Nat.le_add_right _ _
theorem call_small {L:List Tk} {f:Nat} {σ:QSt} {s:Stm} {r:QSt × Stm} (h:callQ L f σ s = some r) (hs:s.vals = []):r.2.at_ = s.at_∧r.2.vals.length ≤ f + 1:=by
 unfold callQ at h
 obtain ⟨a,h1,h2⟩:=Option.map_eq_some_iff.1 h
 rw [← h2]
 refine ⟨rfl,?_⟩
 show a.2.length ≤ f + 1
 split at h1
 ·rw [← Option.some.inj h1,hs]; exact Nat.zero_le _
 ·obtain ⟨b,h3,h4⟩:=bindS h1
  have:=values_small L f _ _ _ h4
  have:=value_len h3
  rw [hs] at this
  simp only [List.length_nil] at this
  omega
theorem assigned_small {L:List Tk} {f:Nat} {σ:QSt} {s:Stm} {r:QSt × Stm} (h:assignedQ L f σ s = some r) (hs:s.vals = []):r.2.at_ = s.at_∧r.2.vals.length ≤ f + 1:=by
 unfold assignedQ at h
 split at h
 ·exact call_small h hs
 ·obtain ⟨a,h1,rfl⟩:=Option.map_eq_some_iff.1 h
  refine ⟨rfl,?_⟩
  have:=value_len h1
  rw [hs] at this
  show a.2.length ≤ f + 1
  rw [this]; exact Nat.succ_le_succ (Nat.zero_le _)
theorem aoc_small {L:List Tk} {M F f:Nat} {σ τ:QSt} {s:Stm} (hb:StB M F σ) (h:aocQ L f σ s = some τ) (hs:s.vals = []) (ha:s.at_ ≤ M) (hf:f ≤ F):StB M F τ:=by
 unfold aocQ at h
 obtain ⟨r,h1,h2⟩:=Option.map_eq_some_iff.1 h
 rw [← h2]
 split at h1
 ·have g:=call_small h1 hs
  exact (hb.same (by show r.1.sts = σ.sts; exact (xg_call h1).sts)).add (by rw [g.1]; exact ha) (by omega)
 ·have g:=assigned_small h1 hs
  exact (hb.same (by show r.1.sts = σ.sts; exact (xg_assigned h1).sts)).add (by rw [g.1]; exact ha) (by omega)
theorem cond_small {L:List Tk} {f:Nat} {σ:QSt} {v:List (Int × Int)} {r:QSt × List (Int × Int)} (h:condQ L f σ v = some r):r.2.length = v.length + 1:=by
 cases f with
 | zero=>rw [condQ] at h; cases h
 | succ f =>
  rw [condQ] at h
  obtain ⟨a,h1,h2⟩:=Option.map_eq_some_iff.1 h
  have:=value_len h1
  rw [← h2]
  exact this
theorem stb_blocks {L:List Tk} {M F:Nat} (hM:∀ t ∈ L,t.p ≤ M):∀ f:Nat,f ≤ F →
    (∀ σ b r,blockQ L f σ b = some r→StB M F σ→StB M F r.1∧r.2 ≤ M) ∧
    (∀ σ b r,stmtsQ L f σ b = some r→StB M F σ→StB M F r.1) ∧
    (∀ σ b r,statementQ L f σ b = some r→StB M F σ→StB M F r.1) ∧
    (∀ σ b r,branchQ L f σ b = some r→StB M F σ→StB M F r.1):=by
 intro f
 induction f with
 | zero =>
  intro _
  refine ⟨?_,?_,?_,?_⟩ <;> intro σ b r h
  ·rw [blockQ_zero] at h; cases h
  ·rw [stmtsQ_zero] at h; cases h
  ·rw [statementQ_zero] at h; cases h
  ·rw [branchQ_zero] at h; cases h
 | succ f ih =>
  intro hf
  obtain ⟨i1,i2,i3,i4⟩:=ih (by omega)
  have nw:∀ (σ:QSt) (b:Blk),(newStm L σ b).at_ ≤ M:=fun σ b=>ahead_small hM σ.p 0
  refine ⟨?_,?_,?_,?_⟩ <;> intro σ b r h hb
  ·rw [blockQ_succ] at h
   obtain ⟨a,h1,rfl⟩:=Option.map_eq_some_iff.1 h
   exact ⟨(i2 _ _ _ h1 (hb.same rfl)).same rfl,ahead_small hM _ _⟩
  ·rw [stmtsQ_succ] at h
   split at h
   ·obtain ⟨a,h1,h2⟩:=bindS h
    exact i2 _ _ _ h2 (i3 _ _ _ h1 hb)
   ·rw [← Option.some.inj h]; exact hb
  ·rw [statementQ_succ] at h
   split at h
   ·exact i4 _ _ _ h hb
   split at h
   ·unfold loopQ at h
    obtain ⟨a,h1,h2⟩:=bindS h
    obtain ⟨c,h3,rfl⟩:=Option.map_eq_some_iff.1 h2
    have g:=cond_small h1
    refine (i1 _ _ _ h3 ((hb.same (by exact (xg_cond h1).sts)).add (nw σ b) ?_)).1
    show a.2.length ≤ F + 1
    rw [g]; simp
   split at h
   ·obtain ⟨c,h1,rfl⟩:=Option.map_eq_some_iff.1 h
    unfold assumeQ at h1
    obtain ⟨a,h2,rfl⟩:=Option.map_eq_some_iff.1 h1
    have g:=value_len h2
    refine (hb.same (by exact (xg_value h2).sts)).add (nw σ b) ?_
    show a.2.length ≤ F + 1
    rw [g]; show 0 + 1 ≤ F + 1; omega
   split at h
   ·rw [← Option.some.inj h]
    exact (hb.same rfl).add (nw σ b) (Nat.zero_le _)
   split at h
   ·rw [← Option.some.inj h]
    exact (hb.same rfl).add (nw σ b) (Nat.zero_le _)
   split at h
   ·obtain ⟨c,h1,rfl⟩:=Option.map_eq_some_iff.1 h
    unfold giveBackQ at h1
    obtain ⟨a,h2,rfl⟩:=Option.map_eq_some_iff.1 h1
    split at h2
    ·rw [← Option.some.inj h2]
     exact (hb.same rfl).add (nw σ b) (Nat.zero_le _)
    ·have g:=value_len h2
     refine (hb.same (by exact (xg_value h2).sts)).add (nw σ b) ?_
     show a.2.length ≤ F + 1
     rw [g]; show 0 + 1 ≤ F + 1; omega
   split at h
   ·rw [← Option.some.inj h]
    exact (hb.same rfl).add (nw σ b) (Nat.zero_le _)
   ·obtain ⟨c,h1,rfl⟩:=Option.map_eq_some_iff.1 h
    exact aoc_small hb h1 rfl (nw σ b) (by omega)
  ·rw [branchQ_succ] at h
   obtain ⟨a,h1,h2⟩:=bindS h
   obtain ⟨c,h3,h4⟩:=bindS h2
   have g:=cond_small h1
   have k1:=(i1 _ _ _ h3 ((hb.same (by exact (xg_cond h1).sts)).add (nw σ b) (by show a.2.length ≤ F + 1; rw [g]; simp))).1
   split at h4
   ·obtain ⟨d,h5,rfl⟩:=Option.map_eq_some_iff.1 h4
    exact (i1 _ _ _ h5 (k1.same rfl)).1
   ·rw [← Option.some.inj h4]; exact k1
theorem stb_procedure {L:List Tk} {M F:Nat} (hM:∀ t ∈ L,t.p ≤ M) {f:Nat} (hf:f ≤ F) {σ τ:QSt} (h:procedureQ L f σ = some τ) (hb:StB M F σ):StB M F τ:=by
 unfold procedureQ at h
 simp only at h
 obtain ⟨e,h1,h2⟩:=bindS h
 obtain ⟨r,h3,h4⟩:=Option.map_eq_some_iff.1 h2
 rw [← h4]
 have k:=(stb_blocks hM f hf).1 _ _ _ h3 (hb.same rfl)
 exact k.1.add k.2 (Nat.zero_le _)
theorem stb_procs {L:List Tk} {M F:Nat} (hM:∀ t ∈ L,t.p ≤ M):∀ (f:Nat),f ≤ F→∀ (σ τ:QSt),procsQ L f σ = some τ→StB M F σ→StB M F τ
 | 0,_,σ,τ,h,_=>by rw [procsQ] at h; cases h
 | f + 1,hf,σ,τ,h,hb=>by
  rw [procsQ] at h
  split at h
  ·obtain ⟨a,h1,h2⟩:=bindS h
   exact stb_procs hM f (by omega) _ _ h2 (stb_procedure hM (by omega) h1 hb)
  ·rw [← Option.some.inj h]; exact hb
theorem stb_program {L:List Tk} {M:Nat} (hM:∀ t ∈ L,t.p ≤ M) {f:Nat} {σ τ:QSt} (h:programQ L f σ = some τ) (h2:σ.sts = []):StB M f τ:=by
 unfold programQ at h
 obtain ⟨a,k1,h⟩:=bindS h
 obtain ⟨b,k2,h⟩:=bindS h
 obtain ⟨c,k3,h⟩:=bindS h
 obtain ⟨d,k4,h⟩:=bindS h
 obtain ⟨e,k5,k6⟩:=Option.map_eq_some_iff.1 h
 rw [← k6]
 have h0:StB M f (σ.setp b):=fun s hs=>by
  have hs:s ∈ σ.sts:=hs
  rw [h2] at hs; cases hs
 exact (stb_procs hM f (Nat.le_refl _) _ _ k4 (stb_procedure hM (Nat.le_refl _) k3 h0)).same rfl
theorem read_vals (a:PLine) (n:Nat):(a.read n).vals = a.vals∧(a.read n).at_ = a.at_:=by
 unfold PLine.read
 split <;> exact ⟨rfl,rfl⟩
theorem look1_vals (a:PLine) (n:PNd):(look1 a n).vals = a.vals∧(look1 a n).at_ = a.at_:=by
 unfold look1
 simp only []
 split
 ·have:=read_vals (if n.sign = 2 then { a with choice:=true } else a) n.tr.num.toNat
  rw [this.1,this.2]
  split <;> exact ⟨rfl,rfl⟩
 ·split <;> exact ⟨rfl,rfl⟩
theorem lookG_vals (nodes:List PNd) (last:Int):∀ (f:Nat) (i:Int) (a:PLine),(lookG nodes last f i a).vals = a.vals∧(lookG nodes last f i a).at_ = a.at_
 | 0,_,_=>⟨rfl,rfl⟩
 | f + 1,i,a=>by
  rw [lookG]
  split
  ·have:=lookG_vals nodes last f (i + 1) (look1 a (pnAt nodes i.toNat))
   rw [this.1,this.2]
   exact look1_vals _ _
  ·exact ⟨rfl,rfl⟩
theorem vals_vals (nodes:List PNd):∀ (l:List (Int × Int)) (a:PLine),(l.foldl (valF nodes) a).vals.length = a.vals.length + l.length∧(l.foldl (valF nodes) a).at_ = a.at_
 | [],_=>⟨rfl,rfl⟩
 | e :: r,a=>by
  have ih:=vals_vals nodes r (valF nodes a e)
  have k:=lookG_vals nodes e.2 (nodes.length + 1) e.1 { a with vals:=a.vals ++ [e] }
  have k1:(valF nodes a e).vals = a.vals ++ [e]:=k.1
  have k2:(valF nodes a e).at_ = a.at_:=k.2
  rw [List.foldl_cons,ih.1,ih.2,k1,k2]
  refine ⟨?_,rfl⟩
  rw [List.length_append,List.length_cons,List.length_cons,List.length_nil]; omega
theorem head_vals (ns:List Nm) (sts:List Stm) (i:Nat) (s:Stm):(headF ns sts i s).vals = []∧(headF ns sts i s).at_ = s.at_:=by
 unfold headF
 simp only []
 split
 ·exact ⟨rfl,rfl⟩
 split
 ·exact ⟨rfl,rfl⟩
 split
 ·exact ⟨rfl,rfl⟩
 split
 ·exact ⟨rfl,rfl⟩
 ·exact ⟨rfl,rfl⟩
theorem lines_small {M F:Nat} (ns:List Nm) (sts:List Stm) (nodes:List PNd):∀ (l:List Stm) (i:Nat),(∀ s ∈ l,s.at_ ≤ M∧s.vals.length ≤ F)→(linesF ns sts nodes l i).length = l.length∧∀ a ∈ linesF ns sts nodes l i,a.at_ ≤ M∧a.vals.length ≤ F
 | [],_,_=>⟨rfl,fun _ h=>by cases h⟩
 | s :: r,i,h=>by
  have ih:=lines_small (M:=M) (F:=F) ns sts nodes r (i + 1) fun x hx=>h x (List.mem_cons_of_mem _ hx)
  refine ⟨by show (linesF ns sts nodes r (i + 1)).length + 1 = _; rw [ih.1]; rfl,fun a ha=>?_⟩
  rcases List.mem_cons.1 ha with ha | ha
  ·rw [ha]
   have g:=vals_vals nodes s.vals (headF ns sts i s)
   have k:=head_vals ns sts i s
   have:=h s (List.mem_cons_self ..)
   unfold lineF
   rw [g.1,g.2,k.1,k.2]
   simp only [List.length_nil]
   omega
  ·exact ih.2 a ha
theorem plan_small {M F:Nat} {ns:List Nm} {sts:List Stm} {nds:List Nd} (h:∀ s ∈ sts,s.at_ ≤ M∧s.vals.length ≤ F):(planF ns sts nds).lines.length = sts.length∧(planF ns sts nds).nodes.length = nds.length∧∀ a ∈ (planF ns sts nds).lines,a.at_ ≤ M∧a.vals.length ≤ F:=by
 have:=lines_small (M:=M) (F:=F) ns sts (nds.map (nodeF ns)) sts 0 h
 exact ⟨this.1,List.length_map _,this.2⟩
end RR
