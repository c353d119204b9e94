/- Places of any length in a text: strconv.Itoa with its table. -/
import Derived.Test.YtmfcpbhdggonfaaGreatDoorMiBD
import Derived.Test.YtmfcpbhdggonfaaGreatDoorMiBE
import Derived.Lib.AppendIntMem
import Derived.Test.YtmfcpbhdggonfaaGreatDoorMiAD
import Derived.Test.YtmfcpbhdggonfaaGreatDoorMiAF
import Derived.Test.YtmfcpbhdggonfaaGreatDoorMiAE
namespace Go.Proofs.YtmfcpbhdggonfaaGreatDoor
open Go.RowKit RR
def TabOk (w:World):Prop:=Lib.TabIs Tryz.prog w "internal/strconv.uint64pow10" .u64 Lib.pow10Tab
theorem TabOk.below {w w':World} (h:TabOk w) (hb:Below w.heap.size w w'):TabOk w':=Lib.tabBelow_of_tabIs h w' hb
theorem below_grow (w:World) (k:Nat) (os:Array Obj):Below w.heap.size w (Go.Sort.grow (w.drewN k) os):=by
 refine ⟨rfl,rfl,rfl,?_,fun b hb=>?_⟩
 ·show w.heap.size ≤ (w.heap ++ os).size
  simp
 ·show (w.heap ++ os)[b]? = w.heap[b]?
  rw [Array.getElem?_append_left hb]
theorem ItOk.tab {w:World} (h:TabOk w) (i:Nat) (hi:i ≤ 9223372036854775807):ItOk w i:=fun w' hb=>by
 refine (Tryz.strconv_Itoa i (by omega) (by omega) w' (h.below hb)).mono ?_
 rintro e w'' ⟨rfl,k,os,rfl⟩
 refine ⟨?_,below_grow _ _ _⟩
 have e:Lib.itoa (i:Int) = Lib.decDigits i:=by
  unfold Lib.itoa
  rw [if_neg (by omega),Int.toNat_natCast]
 rw [e]; rfl
def atsM (p:Plan):Bool:=p.lines.all fun a=>decide (a.at_ < 1000)
theorem itoa_mid {i:Nat} (h:i < 1000):(itoaF i).size ≤ 1000:=by
 have hall:(List.range 1000).all (fun i=>decide ((itoaF i).size ≤ 1000)) = true:=by kernel_rfl
 rw [List.all_eq_true] at hall
 exact of_decide_eq_true (hall i (List.mem_range.2 h))
theorem pit_tab {p:Plan} (h:atsM p = true) {w:World} (ht:TabOk w):PIt p w:=by
 have hs:∀ n,(lineAt p n).at_ < 1000:=by
  intro n
  unfold atsM at h
  rw [List.all_eq_true] at h
  unfold lineAt
  split
  ·cases hq:p.lines[n.toNat]? with
   | none=>decide
   | some a=>exact of_decide_eq_true (h a (List.mem_of_getElem? hq))
  ·decide
 exact fun n=>⟨ItOk.tab ht _ (by have:=hs n; omega),itoa_mid (hs n)⟩
theorem play_tab {text s:ByteArray} {r:Vw × Int × Int} (hg:goodB text = true) (ha:atsM (planOf text) = true) (hs:s.size ≤ 200) (hr:playP (planOf text) s = r) {w:World} (ht:TabOk w):Calls Tryz.prog 22 #[.string text,.string s] w fun e w'=>PlP r w e w':=by
 rw [← hr]
 exact m_Play text s _ _ _ w (good_of hg) (pit_tab ha ht) hs
end Go.Proofs.YtmfcpbhdggonfaaGreatDoor
namespace RR
def flat:List ByteArray→ByteArray
 | []=>⟨#[]⟩
 | p :: r=>p ++ flat r
theorem flat_app (a b:List ByteArray):flat (a ++ b) = flat a ++ flat b:=by
 induction a with
 | nil=>exact (ByteArray.ext (by show (flat b).data = (⟨#[]⟩ ++ flat b:ByteArray).data; rw [ByteArray.data_append]; simp))
 | cons p r ih=>show p ++ flat (r ++ b) = p ++ flat r ++ flat b; rw [ih,ByteArray.append_assoc]
def isBlankP (p:ByteArray):Bool:=decide (p = ⟨#[32]⟩)
def isWordP (p:ByteArray):Bool:=p.data.toList.all isLetterB && decide (0 < p.size) && decide (p.size ≤ 8)
def adj:Bool→List ByteArray→Option Bool
 | c,[]=>some c
 | c,p :: r=>if isBlankP p || memB signs p then adj false r else if isWordP p && !c then adj true r else none
theorem adj_app (c:Bool) (a b:List ByteArray):adj c (a ++ b) = (adj c a).bind fun d=>adj d b:=by
 induction a generalizing c with
 | nil=>rfl
 | cons p r ih =>
  show (if isBlankP p || memB signs p then adj false (r ++ b) else if isWordP p && !c then adj true (r ++ b) else none) = (if isBlankP p || memB signs p then adj false r else if isWordP p && !c then adj true r else none).bind fun d=>adj d b
  split
  ·exact ih false
  ·split
   ·exact ih true
   ·rfl
def toksP (ps:List ByteArray):List ByteArray:=ps.filter fun p=>!isBlankP p
theorem toksP_app (a b:List ByteArray):toksP (a ++ b) = toksP a ++ toksP b:=List.filter_append ..
theorem ext_app {s a b:ByteArray} {i:Nat} (h:s.extract i s.size = a ++ b) (hi:i ≤ s.size):s.size = i + a.size + b.size∧s.extract i (i + a.size) = a∧s.extract (i + a.size) s.size = b:=by
 have hs:(s.extract i s.size).size = a.size + b.size:=by rw [h,ByteArray.size_append]
 rw [ByteArray.size_extract] at hs
 have h0:s.size = i + a.size + b.size:=by omega
 refine ⟨h0,?_,?_⟩
 ·have e:(s.extract i s.size).extract 0 a.size = s.extract i (i + a.size):=by
    rw [ByteArray.extract_extract]; congr 1; omega
  rw [← e,h,ByteArray.extract_append_eq_left rfl]
 ·have e:(s.extract i s.size).extract a.size (a.size + b.size) = s.extract (i + a.size) s.size:=by
    rw [ByteArray.extract_extract]; congr 1; omega
  rw [← e,h,ByteArray.extract_append_eq_right rfl rfl]
theorem get_of_ext {s p:ByteArray} {i:Nat} (h:s.extract i (i + p.size) = p) (hi:i + p.size ≤ s.size) {j:Nat} (hj:j < p.size):s[i + j]'(by omega) = p[j]:=by
 have:(s.extract i (i + p.size))[j]'(by rw [h]; exact hj) = p[j]:=by congr 1
 rw [← this,ByteArray.getElem_extract]
theorem runF_to {s:ByteArray} {e:Nat} (he:e ≤ s.size) (hn:∀ h:e < s.size,isLetterB s[e] = false):∀ (d k:Nat),k + d = e→(∀ j (h:j < s.size),k ≤ j→j < e→isLetterB s[j] = true)→runF s k = e
 | 0,k,hk,_=>by
  have:k = e:=by omega
  subst this
  by_cases h:k < s.size
  ·exact runF_no h (hn h)
  ·exact runF_out h
 | d + 1,k,hk,hl=>by
  have h:k < s.size:=by omega
  rw [runF_yes h (hl k h (Nat.le_refl _) (by omega))]
  exact runF_to he hn d (k + 1) (by omega) fun j hj h1 h2=>hl j hj (by omega) h2
theorem sign_first {p:ByteArray} (h:memB signs p = true):p.size = 1∧∀ h:0 < p.size,isLetterB p[0] = false∧blankB p[0] = false:=by
 unfold memB signs at h
 simp only [List.any_cons,List.any_nil,Bool.or_eq_true,decide_eq_true_eq,Bool.or_false] at h
 rcases h with h | h | h | h | h | h | h | h | h | h | h <;> (subst h; exact ⟨rfl,fun _=>⟨rfl,rfl⟩⟩)
theorem blank_is {p:ByteArray} (h:isBlankP p = true):p = ⟨#[32]⟩:=of_decide_eq_true h
theorem word_is {p:ByteArray} (h:isWordP p = true):0 < p.size∧p.size ≤ 8∧∀ j (h:j < p.size),isLetterB p[j] = true:=by
 unfold isWordP at h
 simp only [Bool.and_eq_true,decide_eq_true_eq,List.all_eq_true] at h
 exact ⟨h.1.2,h.2,fun j hj=>h.1.1 _ (by simp only [Array.mem_toList_iff]; exact Array.getElem_mem hj)⟩
theorem letter_blank {c:UInt8} (h:isLetterB c = true):blankB c = false:=by
 unfold isLetterB at h
 unfold blankB
 simp only [Bool.and_eq_true,decide_eq_true_eq] at h
 rw [decide_eq_false (by omega),decide_eq_false (by omega)]; rfl
theorem blank_bytes:isLetterB 32 = false∧blankB 32 = true:=by decide
theorem adj_true {r:List ByteArray} {d:Bool} (h:adj true r = some d) (hf:0 < (flat r).size):isLetterB (flat r)[0] = false:=by
 cases r with
 | nil=>exact absurd hf (Nat.lt_irrefl _)
 | cons p r =>
  have e:adj true (p :: r) = if isBlankP p || memB signs p then adj false r else if isWordP p && !true then adj true r else none:=rfl
  rw [e] at h
  have key:∀ (hp:0 < p.size),(flat (p :: r))[0] = p[0]:=fun hp=>by
   show (p ++ flat r)[0] = p[0]
   exact ByteArray.getElem_append_left hp
  split at h
  ·next hb =>
   rw [Bool.or_eq_true] at hb
   rcases hb with hb | hb
   ·have:=blank_is hb
    subst this
    rw [key (by decide)]; exact blank_bytes.1
   ·have q:=sign_first hb
    rw [key (by omega)]; exact (q.2 (by omega)).1
  ·simp at h
theorem lex_flat (s:ByteArray):∀ (ps:List ByteArray) (c d:Bool) (i:Nat),adj c ps = some d→i ≤ s.size→s.extract i s.size = flat ps→(lexF s i).1.map Tk.t = toksP ps∧(lexF s i).2 = none
 | [],c,d,i,_,hi,he=>by
  have hs:(s.extract i s.size).size = 0:=by rw [he]; rfl
  rw [ByteArray.size_extract] at hs
  rw [lexF_out (by omega)]
  exact ⟨rfl,rfl⟩
 | p :: r,c,d,i,ha,hi,he=>by
  have he:s.extract i s.size = p ++ flat r:=he
  obtain ⟨z,e1,e2⟩:=ext_app he hi
  have e:adj c (p :: r) = if isBlankP p || memB signs p then adj false r else if isWordP p && !c then adj true r else none:=rfl
  rw [e] at ha
  cases hb:isBlankP p
  ·have ht:toksP (p :: r) = p :: toksP r:=by unfold toksP; rw [List.filter_cons,hb]; rfl
   rw [ht]
   cases hg:memB signs p
   ·rw [hb,hg] at ha
    cases hw:isWordP p
    ·rw [hw] at ha; simp at ha
    ·rw [hw] at ha
     have ha:adj true r = some d:=by cases c with | false=>exact ha | true=>simp at ha
     obtain ⟨w1,w2,w3⟩:=word_is hw
     have hlt:i < s.size:=by omega
     have g:∀ j (hj:j < p.size),isLetterB (s[i + j]'(by omega)) = true:=fun j hj=>by rw [get_of_ext e1 (by omega) hj]; exact w3 j hj
     have g0:isLetterB s[i] = true:=g 0 w1
     have hr:endAt s i hlt = i + p.size:=by
      unfold endAt
      rw [if_pos g0]
      refine runF_to (by omega) (fun h=>?_) (p.size - 1) (i + 1) (by omega) (fun j hj h1 h2=>?_)
      ·have q0:0 < (flat r).size:=by omega
       have:=adj_true ha q0
       have h5:(s.extract (i + p.size) s.size)[0]'(by rw [e2]; exact q0) = (flat r)[0]:=by congr 1
       rw [← h5,ByteArray.getElem_extract] at this
       exact this
      ·have:=g (j - i) (by omega)
       have ej:i + (j - i) = j:=by omega
       simp only [ej] at this
       exact this
     have ho:okAt s i hlt = true:=by unfold okAt; rw [g0,hr,decide_eq_true (by omega)]; rfl
     rw [lexF_ok hlt (letter_blank g0) ho,hr]
     have ih:=lex_flat s r true d (i + p.size) ha (by omega) e2
     refine ⟨?_,ih.2⟩
     show s.extract i (i + p.size) :: (lexF s (i + p.size)).1.map Tk.t = p :: toksP r
     rw [ih.1,e1]
   ·rw [hb,hg] at ha
    obtain ⟨q1,q2⟩:=sign_first hg
    have hlt:i < s.size:=by omega
    have g0:s[i] = p[0]'(by omega):=get_of_ext e1 (by omega) (j:=0) (by omega)
    obtain ⟨q3,q4⟩:=q2 (by omega)
    have hr:endAt s i hlt = i + p.size:=by unfold endAt; rw [g0,q3,q1]; rfl
    have ho:okAt s i hlt = true:=by unfold okAt; rw [hr,e1,hg,Bool.or_true]
    rw [lexF_ok hlt (by rw [g0]; exact q4) ho,hr]
    have ih:=lex_flat s r false d (i + p.size) ha (by omega) e2
    refine ⟨?_,ih.2⟩
    show s.extract i (i + p.size) :: (lexF s (i + p.size)).1.map Tk.t = p :: toksP r
    rw [ih.1,e1]
  ·have ht:toksP (p :: r) = toksP r:=by unfold toksP; rw [List.filter_cons,hb]; rfl
   rw [hb] at ha
   rw [ht]
   have:=blank_is hb
   subst this
   have z1:(⟨#[32]⟩:ByteArray).size = 1:=rfl
   rw [z1] at z e1 e2
   have hlt:i < s.size:=by omega
   have g0:s[i] = 32:=get_of_ext (p:=⟨#[32]⟩) e1 (by rw [z1]; omega) (j:=0) (by decide)
   rw [lexF_blank hlt (by rw [g0]; exact blank_bytes.2)]
   exact lex_flat s r false d (i + 1) ha (by omega) e2
theorem lex_places (s:ByteArray):∀ (n i:Nat),s.size - i ≤ n→∀ t ∈ (lexF s i).1,t.p < s.size
 | 0,i,h,t,ht=>by rw [lexF_out (by omega)] at ht; cases ht
 | n + 1,i,h,t,ht=>by
  by_cases hi:i < s.size
  ·cases hb:blankB s[i]
   ·cases ho:okAt s i hi
    ·rw [lexF_bad hi hb ho] at ht; cases ht
    ·rw [lexF_ok hi hb ho] at ht
     rcases List.mem_cons.1 ht with h1 | h1
     ·subst h1; exact hi
     ·have:=endAt_gt s i hi
      exact lex_places s n _ (by omega) t h1
   ·rw [lexF_blank hi hb] at ht
    exact lex_places s n _ (by omega) t ht
  ·rw [lexF_out hi] at ht; cases ht
theorem lex_all {ps:List ByteArray} {d:Bool} (h:adj false ps = some d):(lexF (flat ps) 0).1.map Tk.t = toksP ps∧(lexF (flat ps) 0).2 = none :=
 lex_flat (flat ps) ps false d 0 h (Nat.zero_le _) ByteArray.extract_zero_size
end RR
namespace RR
open Go Go.RowKit
abbrev tX:ByteArray:=⟨#[120]⟩
abbrev tY:ByteArray:=⟨#[121]⟩
abbrev tM:ByteArray:=⟨#[109]⟩
abbrev tN:ByteArray:=⟨#[110]⟩
abbrev tP:ByteArray:=⟨#[112]⟩
abbrev tQ:ByteArray:=⟨#[113]⟩
abbrev tV:ByteArray:=⟨#[118]⟩
abbrev tBang:ByteArray:=⟨#[33]⟩
abbrev tAnd:ByteArray:=⟨#[38]⟩
abbrev tOr:ByteArray:=⟨#[124]⟩
abbrev tAsk:ByteArray:=⟨#[63]⟩
abbrev tOpen:ByteArray:=⟨#[40]⟩
abbrev tShut:ByteArray:=⟨#[41]⟩
abbrev tBO:ByteArray:=⟨#[123]⟩
abbrev tBS:ByteArray:=⟨#[125]⟩
abbrev tSemi:ByteArray:=⟨#[59]⟩
abbrev tComma:ByteArray:=⟨#[44]⟩
abbrev tEq:ByteArray:=⟨#[61]⟩
abbrev tTrue:ByteArray:=⟨#[116,114,117,101]⟩
abbrev tFalse:ByteArray:=⟨#[102,97,108,115,101]⟩
abbrev tIf:ByteArray:=⟨#[105,102]⟩
abbrev tElse:ByteArray:=⟨#[101,108,115,101]⟩
abbrev tWhile:ByteArray:=⟨#[119,104,105,108,101]⟩
abbrev tAssume:ByteArray:=⟨#[97,115,115,117,109,101]⟩
abbrev tAcq:ByteArray:=⟨#[97,99,113,117,105,114,101]⟩
abbrev tRel:ByteArray:=⟨#[114,101,108,101,97,115,101]⟩
abbrev tRet:ByteArray:=⟨#[114,101,116,117,114,110]⟩
abbrev tSkip:ByteArray:=⟨#[115,107,105,112]⟩
abbrev tProc:ByteArray:=⟨#[112,114,111,99]⟩
abbrev tShared:ByteArray:=⟨#[115,104,97,114,101,100]⟩
abbrev tLocks:ByteArray:=⟨#[108,111,99,107,115]⟩
abbrev tThreads:ByteArray:=⟨#[116,104,114,101,97,100,115]⟩
def Lies (L:List Tk):Nat→List ByteArray→Prop
 | _,[]=>True
 | i,t :: r=>tAt L i = t∧Lies L (i + 1) r
theorem lies_app {L:List Tk}:∀ {a b:List ByteArray} {i:Nat},Lies L i (a ++ b) ↔ Lies L i a∧Lies L (i + a.length) b
 | [],b,i=>by simp [Lies]
 | t :: r,b,i=>by
  show tAt L i = t∧Lies L (i + 1) (r ++ b) ↔ (tAt L i = t∧Lies L (i + 1) r)∧Lies L (i + (r.length + 1)) b
  rw [lies_app,and_assoc,show i + 1 + r.length = i + (r.length + 1) by omega]
theorem lies_drop {L:List Tk}:∀ (l:List ByteArray) (i:Nat),(∀ j,tAt L (i + j) = l[j]?.getD ⟨#[]⟩)→Lies L i l
 | [],_,_=>trivial
 | t :: r,i,h=>⟨by have:=h 0; simpa using this,lies_drop r (i + 1) fun j=>by have:=h (j + 1); rw [show i + 1 + j = i + (j + 1) by omega,this]; rfl⟩
theorem ahead_t {L:List Tk} {σ:PSt} (hf:σ.failed = false) (n:Nat):(σ.ahead L n).t = tAt L (σ.next + n):=by
 by_cases h:σ.next + n < L.length
 ·rw [ahead_in hf h,tAt_in h]
 ·rw [ahead_out h,tAt_out h]
theorem ahead_is {L:List Tk} {σ:PSt} {t:ByteArray} (hf:σ.failed = false) (h:tAt L σ.next = t):(σ.ahead L 0).t = t:=(ahead_t hf 0).trans h
theorem sees_at {L:List Tk} {σ:PSt} {t:ByteArray} (hf:σ.failed = false) (h:tAt L σ.next = t) (u:ByteArray):σ.sees L u = decide (t = u):=by unfold PSt.sees; rw [ahead_is hf h]
theorem take_is {L:List Tk} {σ:PSt} {t:ByteArray} (hf:σ.failed = false) (h:tAt L σ.next = t):σ.take L t = σ.step:=by unfold PSt.take; rw [sees_at hf h,decide_eq_true rfl]; rfl
def UseOk (v:Bool) (P:Int) (n:Nm):Prop:=n.proc = P∧((n.role = 4∧(n.word = tX ∨ n.word = tY ∨ (v = true∧n.word = tV))) ∨ (n.role = 5∧(n.word = tM ∨ n.word = tN)) ∨ (n.role = 6∧(n.word = tP ∨ n.word = tQ)))
def ClOk (c:Cl):Prop:=(c.word = tP∧c.values = 1) ∨ (c.word = tQ∧c.values = 0)
structure Ad (v:Bool) (n:Nat) (σ σ':PSt):Prop where
 next:σ'.next = σ.next + n
 ok:σ'.failed = false
 depth:σ'.depth = σ.depth
 proc:σ'.proc = σ.proc
 names:∃ ns,σ'.names = σ.names ++ ns∧∀ x ∈ ns,UseOk v σ.proc x
 calls:∃ cs,σ'.calls = σ.calls ++ cs∧∀ x ∈ cs,ClOk x
 len:σ'.names.length ≤ σ.names.length + n
theorem Ad.refl (v:Bool) {σ:PSt} (h:σ.failed = false):Ad v 0 σ σ:=⟨rfl,h,rfl,rfl,⟨[],(List.append_nil _).symm,fun _ h=>by cases h⟩,⟨[],(List.append_nil _).symm,fun _ h=>by cases h⟩,Nat.le_refl _⟩
theorem Ad.trans {v:Bool} {n m:Nat} {a b c:PSt} (h:Ad v n a b) (k:Ad v m b c):Ad v (n + m) a c:=by
 obtain ⟨ns,e1,p1⟩:=h.names
 obtain ⟨ms,e2,p2⟩:=k.names
 obtain ⟨cs,e3,p3⟩:=h.calls
 obtain ⟨ds,e4,p4⟩:=k.calls
 refine ⟨by rw [k.next,h.next]; omega,k.ok,k.depth.trans h.depth,k.proc.trans h.proc,⟨ns ++ ms,by rw [e2,e1,List.append_assoc],fun x hx=>?_⟩,⟨cs ++ ds,by rw [e4,e3,List.append_assoc],fun x hx=>?_⟩,by have:=h.len; have:=k.len; omega⟩
 ·rcases List.mem_append.1 hx with hx | hx
  ·exact p1 x hx
  ·have:=p2 x hx
   rw [h.proc] at this
   exact this
 ·rcases List.mem_append.1 hx with hx | hx
  ·exact p3 x hx
  ·exact p4 x hx
theorem Ad.of_eq {v:Bool} {n m:Nat} {a b:PSt} (h:Ad v n a b) (e:n = m):Ad v m a b:=e ▸ h
theorem Ad.step (v:Bool) {σ:PSt} (h:σ.failed = false):Ad v 1 σ σ.step:=⟨rfl,h,rfl,rfl,⟨[],(List.append_nil _).symm,fun _ h=>by cases h⟩,⟨[],(List.append_nil _).symm,fun _ h=>by cases h⟩,Nat.le_succ _⟩
theorem Ad.name {v:Bool} {L:List Tk} {σ:PSt} {t:ByteArray} {role:Nat} (hf:σ.failed = false) (h:tAt L σ.next = t) (hn:isNameB t = true) (hu:∀ q,UseOk v σ.proc ⟨t,q,role,σ.proc⟩):Ad v 1 σ (σ.takeName L role):=by
 unfold PSt.takeName
 rw [ahead_is hf h,if_pos hn]
 refine ⟨rfl,hf,rfl,rfl,⟨[_],rfl,fun x hx=>?_⟩,⟨[],(List.append_nil _).symm,fun _ h=>by cases h⟩,by show (σ.names ++ [_]).length ≤ _; rw [List.length_append]; exact Nat.le_refl _⟩
 rw [List.mem_singleton.1 hx]
 exact hu _
def PSt.deep (σ:PSt) (d:Int):PSt:={ σ.step with depth:=d }
theorem wrap_hd {z:Int} (h:-100 ≤ z) (h2:z ≤ 100):wrap64 z = z:=by
 unfold wrap64
 omega
theorem enter_is {L:List Tk} {σ:PSt} {t:ByteArray} (hf:σ.failed = false) (h:tAt L σ.next = t) (h0:0 ≤ σ.depth) (h6:σ.depth < 6):enterP L σ t = σ.deep (σ.depth + 1):=by
 unfold enterP
 rw [if_neg (by omega),take_is hf h,show wrap64 (σ.step.depth + 1) = σ.depth + 1 from wrap_hd (by show (-100:Int) ≤ σ.depth + 1; omega) (by show σ.depth + 1 ≤ 100; omega)]; rfl
theorem leave_is {L:List Tk} {σ:PSt} {t:ByteArray} (hf:σ.failed = false) (h:tAt L σ.next = t) (h0:0 ≤ σ.depth) (h6:σ.depth ≤ 7):leaveP L σ t = σ.deep (σ.depth - 1):=by
 unfold leaveP
 rw [take_is hf h,show wrap64 (σ.step.depth - 1) = σ.depth - 1 from wrap_hd (by show (-100:Int) ≤ σ.depth - 1; omega) (by show σ.depth - 1 ≤ 100; omega)]; rfl
theorem Ad.bracket {v:Bool} {n:Nat} {σ σ1:PSt} (h:Ad v n (σ.deep (σ.depth + 1)) σ1):Ad v (n + 2) σ (σ1.deep (σ1.depth - 1)):=by
 refine ⟨?_,h.ok,?_,h.proc,h.names,h.calls,by have e:σ1.names.length ≤ σ.names.length + n:=h.len; show σ1.names.length ≤ _; omega⟩
 ·show σ1.next + 1 = σ.next + (n + 2)
  rw [h.next]; show σ.next + 1 + n + 1 = _; omega
 ·show σ1.depth - 1 = σ.depth
  rw [h.depth]; show σ.depth + 1 - 1 = σ.depth; omega
def IsAtom (v:Bool) (t:ByteArray):Prop:=t = tX ∨ t = tY ∨ (v = true∧t = tV) ∨ t = tAsk ∨ t = tTrue ∨ t = tFalse
def IsLeaf (v:Bool) (ts:List ByteArray):Prop:=(∃ t,IsAtom v t∧ts = [t]) ∨ ∃ t,IsAtom v t∧ts = [tBang,t]
theorem IsLeaf.plain {v:Bool} {t:ByteArray} (h:IsAtom v t):IsLeaf v [t]:=.inl ⟨t,h,rfl⟩
theorem IsLeaf.neg {v:Bool} {t:ByteArray} (h:IsAtom v t):IsLeaf v [tBang,t]:=.inr ⟨t,h,rfl⟩
def IsExpr (v:Bool) (ts:List ByteArray):Prop:=IsLeaf v ts ∨ (∃ a b,IsLeaf v a∧IsLeaf v b∧ts = a ++ tAnd :: b) ∨ (∃ a b,IsLeaf v a∧IsLeaf v b∧ts = a ++ tOr :: b) ∨ ∃ a b c,IsLeaf v a∧IsLeaf v b∧IsLeaf v c∧ts = tOpen :: (a ++ tOr :: (b ++ tShut :: tAnd :: c))
theorem IsExpr.leaf {v:Bool} {a:List ByteArray} (h:IsLeaf v a):IsExpr v a:=.inl h
theorem IsExpr.conj {v:Bool} {a b:List ByteArray} (h:IsLeaf v a) (k:IsLeaf v b):IsExpr v (a ++ tAnd :: b):=.inr (.inl ⟨a,b,h,k,rfl⟩)
theorem IsExpr.disj {v:Bool} {a b:List ByteArray} (h:IsLeaf v a) (k:IsLeaf v b):IsExpr v (a ++ tOr :: b):=.inr (.inr (.inl ⟨a,b,h,k,rfl⟩))
theorem IsExpr.both {v:Bool} {a b c:List ByteArray} (h:IsLeaf v a) (k:IsLeaf v b) (l:IsLeaf v c):IsExpr v (tOpen :: (a ++ tOr :: (b ++ tShut :: tAnd :: c))):=.inr (.inr (.inr ⟨a,b,c,h,k,l,rfl⟩))
theorem atom_facts {v:Bool} {t:ByteArray} (h:IsAtom v t):(t = tOpen→False)∧(t = tBang→False)∧(t = tSemi→False)∧(t = tShut→False):=by
 rcases h with h | h | ⟨_,h⟩ | h | h | h <;> (subst h; exact ⟨by decide,by decide,by decide,by decide⟩)
theorem atom_reads {v:Bool} {L:List Tk} {σ:PSt} {t:ByteArray} (f:Nat) (hf:σ.failed = false) (h:tAt L σ.next = t) (ha:IsAtom v t) :
    ∃ σ',(if (σ.ahead L 0).t = ⟨#[40]⟩ then bracketedP L f σ else if (σ.ahead L 0).t = ⟨#[116,114,117,101]⟩ ∨ (σ.ahead L 0).t = ⟨#[102,97,108,115,101]⟩ ∨ (σ.ahead L 0).t = ⟨#[63]⟩ then some (σ.take L (σ.ahead L 0).t) else some (σ.takeName L 4)) = some σ'∧Ad v 1 σ σ':=by
 rw [ahead_is hf h]
 have nm:∀ {t:ByteArray},tAt L σ.next = t→isNameB t = true→(t = tX ∨ t = tY ∨ (v = true∧t = tV))→Ad v 1 σ (σ.takeName L 4):=fun h hn hu=>Ad.name hf h hn fun q=>⟨rfl,.inl ⟨rfl,hu⟩⟩
 rcases ha with e | e | ⟨hv,e⟩ | e | e | e
 ·subst e; exact ⟨_,rfl,nm h (by kernel_rfl) (.inl rfl)⟩
 ·subst e; exact ⟨_,rfl,nm h (by kernel_rfl) (.inr (.inl rfl))⟩
 ·subst e; exact ⟨_,rfl,nm h (by kernel_rfl) (.inr (.inr ⟨hv,rfl⟩))⟩
 ·subst e; exact ⟨_,rfl,by rw [take_is hf h]; exact Ad.step v hf⟩
 ·subst e; exact ⟨_,rfl,by rw [take_is hf h]; exact Ad.step v hf⟩
 ·subst e; exact ⟨_,rfl,by rw [take_is hf h]; exact Ad.step v hf⟩
theorem leaf_factor {v:Bool} {L:List Tk} {σ:PSt} {ts:List ByteArray} (f:Nat) (hf:σ.failed = false) (h:Lies L σ.next ts) (ha:IsLeaf v ts):∃ σ',factorP L (f + 3) σ = some σ'∧Ad v ts.length σ σ':=by
 rw [factorP_succ]
 rcases ha with ⟨t,ha,rfl⟩ | ⟨t,ha,rfl⟩
 ·have e:notsP L (f + 2) σ = some σ:=by
    rw [notsP,sees_at hf h.1,decide_eq_false (atom_facts ha).2.1]; rfl
  rw [e]
  exact atom_reads _ hf h.1 ha
 ·have h2:tAt L σ.step.next = t:=h.2.1
  have e:notsP L (f + 2) σ = some σ.step:=by
   rw [notsP,sees_at hf h.1,decide_eq_true rfl,if_pos rfl,take_is hf h.1,notsP,sees_at (σ:=σ.step) hf h2,decide_eq_false (atom_facts ha).2.1]; rfl
  rw [e]
  obtain ⟨σ',e1,a1⟩:=atom_reads (L:=L) (σ:=σ.step) (f + 2) hf h2 ha
  exact ⟨σ',e1,((Ad.step v hf).trans a1).of_eq rfl⟩
theorem and_stops {L:List Tk} {σ:PSt} (f:Nat) (hf:σ.failed = false) {u:ByteArray} (h:tAt L σ.next = u) (hu:u = tAnd→False):andP L (f + 1) σ = some σ:=by
 rw [andP_succ,sees_at hf h,decide_eq_false hu]; rfl
theorem or_stops {L:List Tk} {σ:PSt} (f:Nat) (hf:σ.failed = false) {u:ByteArray} (h:tAt L σ.next = u) (hu:u = tOr→False):orP L (f + 1) σ = some σ:=by
 rw [orP_succ,sees_at hf h,decide_eq_false hu]; rfl
theorem leaf_term {v:Bool} {L:List Tk} {σ:PSt} {ts:List ByteArray} (f:Nat) (hf:σ.failed = false) {u:ByteArray} (h:Lies L σ.next (ts ++ [u])) (hu:u = tAnd→False) (ha:IsLeaf v ts):∃ σ',termP L (f + 4) σ = some σ'∧Ad v ts.length σ σ':=by
 obtain ⟨h1,h2⟩:=lies_app.1 h
 obtain ⟨σ',e,a⟩:=leaf_factor f hf h1 ha
 refine ⟨σ',?_,a⟩
 rw [termP_succ,e]
 exact and_stops _ a.ok (by rw [a.next]; exact h2.1) hu
theorem conj_term {v:Bool} {L:List Tk} {σ:PSt} {a b:List ByteArray} (f:Nat) {u:ByteArray} (h:Lies L σ.next (a ++ tAnd :: (b ++ [u]))) (hu:u = tAnd→False) (ha:∃ σ',factorP L (f + 4) σ = some σ'∧Ad v a.length σ σ') (hb:IsLeaf v b):∃ σ',termP L (f + 5) σ = some σ'∧Ad v (a.length + (b.length + 1)) σ σ':=by
 obtain ⟨h1,h2⟩:=lies_app.1 h
 obtain ⟨σ1,e1,a1⟩:=ha
 have h2':tAt L σ1.next = tAnd:=by rw [a1.next]; exact h2.1
 have a2:=Ad.step v a1.ok
 have h3:Lies L σ1.step.next (b ++ [u]):=by rw [show σ1.step.next = σ.next + a.length + 1 by show σ1.next + 1 = _; rw [a1.next]]; exact h2.2
 obtain ⟨h4,h5⟩:=lies_app.1 h3
 obtain ⟨σ3,e3,a3⟩:=leaf_factor (v:=v) f (a2.ok) h4 hb
 refine ⟨σ3,?_,((a1.trans a2).trans a3).of_eq (by omega)⟩
 rw [termP_succ,e1]
 show andP L (f + 4) σ1 = some σ3
 rw [andP_succ,sees_at a1.ok h2',decide_eq_true rfl,if_pos rfl,e3]
 exact and_stops _ a3.ok (by rw [a3.next]; exact h5.1) hu
theorem disj_expr {v:Bool} {L:List Tk} {σ:PSt} {a b:List ByteArray} (f:Nat) (hf:σ.failed = false) {u:ByteArray} (h:Lies L σ.next (a ++ tOr :: (b ++ [u]))) (hu:u = tAnd→False) (hu2:u = tOr→False) (ha:IsLeaf v a) (hb:IsLeaf v b):∃ σ',exprP L (f + 6) σ = some σ'∧Ad v (a.length + (b.length + 1)) σ σ':=by
 have h':Lies L σ.next ((a ++ [tOr]) ++ (b ++ [u])):=by rw [List.append_assoc]; exact h
 obtain ⟨h1,h2⟩:=lies_app.1 h'
 obtain ⟨σ1,e1,a1⟩:=leaf_term (f + 1) hf h1 (by decide) ha
 have h3:tAt L σ1.next = tOr:=by rw [a1.next]; exact (lies_app.1 h1).2.1
 have h4:Lies L σ1.step.next (b ++ [u]):=by
  rw [show σ1.step.next = σ.next + (a ++ [tOr]).length by show σ1.next + 1 = _; rw [a1.next,List.length_append]; rfl]
  exact h2
 obtain ⟨σ3,e3,a3⟩:=leaf_term (v:=v) (σ:=σ1.step) f (a1.ok) h4 hu hb
 refine ⟨σ3,?_,((a1.trans (Ad.step v a1.ok)).trans a3).of_eq (by omega)⟩
 rw [exprP_succ,e1]
 show orP L (f + 5) σ1 = some σ3
 rw [orP_succ,sees_at a1.ok h3,decide_eq_true rfl,if_pos rfl,e3]
 exact or_stops _ a3.ok (by rw [a3.next]; exact (lies_app.1 h4).2.1) hu2
theorem of_term {v:Bool} {L:List Tk} {σ:PSt} {n f:Nat} {u:ByteArray} (h:∃ σ',termP L (f + 1) σ = some σ'∧Ad v n σ σ') (hl:tAt L (σ.next + n) = u) (hu:u = tOr→False):∃ σ',exprP L (f + 2) σ = some σ'∧Ad v n σ σ':=by
 obtain ⟨σ',e,a⟩:=h
 refine ⟨σ',?_,a⟩
 rw [exprP_succ,e]
 exact or_stops _ a.ok (by rw [a.next]; exact hl) hu
theorem expr_reads {v:Bool} {L:List Tk} {σ:PSt} {ts:List ByteArray} (f:Nat) (hf:σ.failed = false) {u:ByteArray} (h:Lies L σ.next (ts ++ [u])) (hu:u = tAnd→False) (hu2:u = tOr→False) (he:IsExpr v ts) (h0:0 ≤ σ.depth) (h6:σ.depth < 6):∃ σ',exprP L (f + 12) σ = some σ'∧Ad v ts.length σ σ':=by
 have hl:tAt L (σ.next + ts.length) = u:=(lies_app.1 h).2.1
 rcases he with ha | ⟨a,b,ha,hb,rfl⟩ | ⟨a,b,ha,hb,rfl⟩ | ⟨a,b,c,ha,hb,hc,rfl⟩
 ·exact of_term (leaf_term (f + 7) hf h hu ha) hl hu2
 ·have h':Lies L σ.next (a ++ tAnd :: (b ++ [u])):=by rw [List.append_assoc] at h; exact h
  have:=of_term (conj_term (f + 6) h' hu (leaf_factor (f + 7) hf (lies_app.1 h').1 ha) hb) (u:=u) (by rw [← hl,List.length_append]; rfl) hu2
  rw [List.length_append]
  exact this
 ·have h':Lies L σ.next (a ++ tOr :: (b ++ [u])):=by rw [List.append_assoc] at h; exact h
  rw [List.length_append]
  exact disj_expr (f + 6) hf h' hu hu2 ha hb
 ·have h':Lies L σ.next ((tOpen :: (a ++ tOr :: (b ++ [tShut]))) ++ tAnd :: (c ++ [u])):=by simpa [List.append_assoc] using h
  obtain ⟨h1,h2⟩:=lies_app.1 h'
  have hO:tAt L σ.next = tOpen:=h1.1
  have hin:Lies L (σ.deep (σ.depth + 1)).next (a ++ tOr :: (b ++ [tShut])):=h1.2
  obtain ⟨σ1,e1,a1⟩:=disj_expr (v:=v) (f + 2) (σ:=σ.deep (σ.depth + 1)) hf hin (by decide) (by decide) ha hb
  have hS:tAt L σ1.next = tShut:=by
   have:=(lies_app.1 hin).2.2
   have:=(lies_app.1 this).2.1
   rw [a1.next,← this]; congr 1; omega
  have hd:σ1.depth = σ.depth + 1:=a1.depth
  have key:∃ σ',factorP L (f + 10) σ = some σ'∧Ad v (tOpen :: (a ++ tOr :: (b ++ [tShut]))).length σ σ':=by
   refine ⟨σ1.deep (σ1.depth - 1),?_,a1.bracket.of_eq ?_⟩
   ·rw [factorP_succ,notsP,sees_at hf hO,decide_eq_false (by decide)]
    show (if (σ.ahead L 0).t = ⟨#[40]⟩ then bracketedP L (f + 9) σ else _) = _
    rw [if_pos (ahead_is hf hO),bracketedP_succ,enter_is hf hO h0 h6,e1]
    show some (leaveP L σ1 ⟨#[41]⟩) = _
    rw [leave_is a1.ok hS (by omega) (by omega)]
   ·simp only [List.length_cons,List.length_append,List.length_nil]; omega
  have:=of_term (conj_term (f + 6) h' hu key hc) (u:=u) (by rw [← hl]; congr 1; simp only [List.length_cons,List.length_append,List.length_nil]; omega) hu2
  obtain ⟨σ',e,ad⟩:=this
  exact ⟨σ',e,ad.of_eq (by simp only [List.length_cons,List.length_append,List.length_nil]; omega)⟩
theorem expr_nocall {v:Bool} {L:List Tk} {σ:PSt} {ts:List ByteArray} (hf:σ.failed = false) (h:Lies L σ.next (ts ++ [tSemi])) (he:IsExpr v ts):σ.seesCall L = false:=by
 unfold PSt.seesCall
 rw [ahead_t hf,ahead_t hf]
 have lf:∀ {a r:List ByteArray} {u:ByteArray},IsLeaf v a→(u = tOpen→False)→Lies L σ.next (a ++ u :: r)→(isNameB (tAt L (σ.next + 0)) && decide (tAt L (σ.next + 1) = ⟨#[40]⟩)) = false:=by
  intro a r u ha hu hl
  rcases ha with ⟨t,ha,rfl⟩ | ⟨t,ha,rfl⟩
  ·rw [show tAt L (σ.next + 1) = u from hl.2.1,decide_eq_false hu,Bool.and_false]
  ·rw [show tAt L (σ.next + 0) = tBang from hl.1,show isNameB tBang = false by kernel_rfl]; rfl
 rcases he with ha | ⟨a,b,ha,hb,rfl⟩ | ⟨a,b,ha,hb,rfl⟩ | ⟨a,b,c,ha,hb,hc,rfl⟩
 ·exact lf ha (u:=tSemi) (r:=[]) (by decide) h
 ·exact lf ha (u:=tAnd) (by decide) (by rw [List.append_assoc] at h; exact h)
 ·exact lf ha (u:=tOr) (by decide) (by rw [List.append_assoc] at h; exact h)
 ·rw [show tAt L (σ.next + 0) = tOpen from h.1,show isNameB tOpen = false by kernel_rfl]; rfl
theorem expr_first {v:Bool} {ts:List ByteArray} (he:IsExpr v ts):∃ t r,ts = t :: r∧(t = tShut→False)∧(t = tSemi→False):=by
 have lf:∀ {a r:List ByteArray},IsLeaf v a→∃ t q,a ++ r = t :: q∧(t = tShut→False)∧(t = tSemi→False):=by
  intro a r ha
  rcases ha with ⟨t,ha,rfl⟩ | ⟨t,ha,rfl⟩
  ·exact ⟨_,_,rfl,(atom_facts ha).2.2.2,(atom_facts ha).2.2.1⟩
  ·exact ⟨_,_,rfl,by decide,by decide⟩
 rcases he with ha | ⟨a,b,ha,hb,rfl⟩ | ⟨a,b,ha,hb,rfl⟩ | ⟨a,b,c,ha,hb,hc,rfl⟩
 ·have:=lf (r:=[]) ha; rwa [List.append_nil] at this
 ·exact lf ha
 ·exact lf ha
 ·exact ⟨_,_,rfl,by decide,by decide⟩
end RR
