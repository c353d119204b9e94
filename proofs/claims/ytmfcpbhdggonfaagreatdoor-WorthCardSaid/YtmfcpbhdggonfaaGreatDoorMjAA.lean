/- Small words that all texts use. -/
import Derived.Test.YtmfcpbhdggonfaaGreatDoorRows
import Derived.WalkKit
import Derived.WalkSpells
import Derived.WalkLawsBesides
import Derived.Laws.Strings
namespace Go.Proofs.YtmfcpbhdggonfaaGreatDoor
open Go.RowKit
theorem ret_bool {a b:Bool} (h:a = b):Ending.returned (.bool a) = .returned (.bool b):=by rw [h]
theorem ret_int {k:IntKind} {a b:Int} (h:a = b):Ending.returned (.int k a) = .returned (.int k b):=by rw [h]
theorem hide {p:Prop} (h:p):Hid p:=h
end Go.Proofs.YtmfcpbhdggonfaaGreatDoor
namespace RR
def isLetterB (c:UInt8):Bool:=decide (97 ≤ c.toNat) && decide (c.toNat ≤ 122)
structure Tk where
 t:ByteArray
 p:Nat
theorem bl (b:ByteArray):b.toList = b.data.toList:=by
 exact Go.ByteArray.toList_eq b
theorem toList_inj {a b:ByteArray}:a.toList = b.toList ↔ a = b:=by
 rw [bl,bl]
 constructor
 ·intro h
  cases a; cases b; simp_all
 ·intro h; rw [h]
theorem seq_comm (a b:ByteArray):(a.toList == b.toList) = decide (a = b):=by
 rw [Bool.eq_iff_iff]; simp [toList_inj]
def kws:List ByteArray:=[⟨#[115,104,97,114,101,100]⟩,⟨#[108,111,99,107,115]⟩,⟨#[112,114,111,99]⟩,⟨#[116,104,114,101,97,100,115]⟩,⟨#[105,102]⟩,⟨#[101,108,115,101]⟩,⟨#[119,104,105,108,101]⟩,⟨#[97,115,115,117,109,101]⟩,⟨#[97,99,113,117,105,114,101]⟩,⟨#[114,101,108,101,97,115,101]⟩,⟨#[114,101,116,117,114,110]⟩,⟨#[115,107,105,112]⟩,⟨#[116,114,117,101]⟩,⟨#[102,97,108,115,101]⟩]
def memB (l:List ByteArray) (t:ByteArray):Bool:=l.any fun x=>decide (x = t)
def isNameB (t:ByteArray):Bool:=(match t.toList with | []=>false | c :: _=>isLetterB c) && !(memB kws t)
theorem len_toList (t:ByteArray):t.toList.length = t.size:=by rw [bl]; rfl
theorem empty_of {t:ByteArray} (h:t.size = 0):t.toList = []:=List.length_eq_zero_iff.1 ((len_toList t).trans h)
theorem cons_list (l:List UInt8) (h:0 < l.length):l = l[0] :: l.tail:=by
 cases l with
 | nil=>exact absurd h (by decide)
 | cons c r=>rfl
theorem cons_of {t:ByteArray} (h:0 < t.size):t.toList = t[0] :: t.toList.tail:=by
 rw [bl]; exact cons_list _ h
theorem isName_empty {t:ByteArray} (h:t.size = 0):isNameB t = false:=by unfold isNameB; rw [empty_of h]; rfl
theorem isName_pos {t:ByteArray} (h:0 < t.size):isNameB t = (isLetterB t[0] && !(memB kws t)):=by
 unfold isNameB; rw [cons_of h]
def tk (L:List Tk) (i:Nat):Tk:=L[i]?.getD ⟨⟨#[]⟩,0⟩
theorem tk_eq {L:List Tk} {i:Nat} (h:i < L.length):tk L i = L[i]:=by unfold tk; rw [List.getElem?_eq_getElem h]; rfl
def isB (L:List Tk) (i:Int) (t:ByteArray):Bool:=decide (0 ≤ i) && decide (i < L.length) && decide ((tk L i.toNat).t = t)
theorem isB_in {L:List Tk} {k:Nat} (h:k < L.length) (t:ByteArray):isB L k t = (L[k].t.toList == t.toList):=by
 unfold isB
 rw [seq_comm,decide_eq_true (by omega),decide_eq_true (by omega),Int.toNat_natCast,tk_eq h]
 rfl
theorem isB_out {L:List Tk} {i:Int} (h:i < 0 ∨ (L.length:Int) ≤ i) (t:ByteArray):isB L i t = false:=by
 unfold isB
 rcases h with h | h
 ·rw [decide_eq_false (by omega)]; rfl
 ·rw [decide_eq_false (p:=i < L.length) (by omega),Bool.and_false]; rfl
def kProc:ByteArray:=⟨#[112,114,111,99]⟩
def homeB (L:List Tk):Nat→Nat
 | 0=>0
 | k + 1=>if isB L k kProc then k + 1 else homeB L k
def namesG (L:List Tk):Nat→List Nat
 | 0=>[]
 | 1=>if isNameB (tk L (L.length - 1)).t then [L.length - 1] else []
 | d + 2=>if isNameB (tk L (L.length - (d + 2))).t then (L.length - (d + 2)) :: (if isB L (L.length - (d + 2) + 1:Nat) ⟨#[44]⟩ then namesG L d else []) else []
def namesF (L:List Tk) (k:Nat):List Nat:=namesG L (L.length - k)
def mateF (L:List Tk) (st:Int) (d:Int):Nat→Int→Int→Int
 | 0,_,_=>d
 | f + 1,k,n =>
  if 0 ≤ k∧k < L.length then
   let t:=(tk L k.toNat).t
   let n1:=if t = ⟨#[40]⟩ ∨ t = ⟨#[123]⟩ then n + 1 else n
   let n2:=if t = ⟨#[41]⟩ ∨ t = ⟨#[125]⟩ then n1 - 1 else n1
   if n2 = 0 then k else mateF L st d f (k + st) n2
  else d
def wordG (L:List Tk) (t:ByteArray):Nat→List Nat
 | 0=>[]
 | d + 1=>if isB L (L.length - (d + 1):Nat) t then namesF L (L.length - (d + 1) + 1) else wordG L t d
def wordF (L:List Tk) (t:ByteArray) (k:Nat):List Nat:=wordG L t (L.length - k)
def procsG (L:List Tk):Nat→List Nat
 | 0=>[]
 | d + 1=>if isB L (L.length - (d + 1):Nat) ⟨#[112,114,111,99]⟩ then (L.length - (d + 1) + 1) :: procsG L d else procsG L d
def procsF (L:List Tk) (k:Nat):List Nat:=procsG L (L.length - k)
def wordB (L:List Tk) (t:ByteArray):List Nat:=wordF L t 0
def procsB (L:List Tk):List Nat:=procsF L 0
def paramsB (L:List Tk) (i:Nat):List Nat:=namesF L (i + 2)
def valuesF (L:List Tk) (e:Int):Nat→Nat→Int→Int→Int
 | 0,_,_,n=>n
 | f + 1,k,op,n =>
  if (k:Int) < e then
   let op1:=if isB L k ⟨#[40]⟩ then op + 1 else op
   let op2:=if isB L k ⟨#[41]⟩ then op1 - 1 else op1
   let n1:=if isB L k ⟨#[44]⟩ && decide (op2 = 1) then n + 1 else n
   valuesF L e f (k + 1) op2 n1
  else n
def mateB (L:List Tk) (i:Nat):Int:=mateF L (if isB L i ⟨#[41]⟩ || isB L i ⟨#[125]⟩ then -1 else 1) i (L.length + 1) i 0
def valuesB (L:List Tk) (i:Nat):Int:=if mateB L i = i + 1 then 0 else valuesF L (mateB L i) (L.length + 1) i 0 1
end RR
/- More plain functions: the checks on names. No Go here. -/
namespace RR
end RR
/- More plain functions: is a name given,is it right. No Go here. -/
namespace RR
end RR
/- More plain functions: the reference's check as a whole. No Go here. -/
namespace RR
end RR
namespace RR
def byteAt (s:ByteArray) (k:Nat):UInt8:=if h:k < s.size then s[k] else 0
theorem byteAt_eq {s:ByteArray} {k:Nat} (h:k < s.size):byteAt s k = s[k]:=by unfold byteAt; rw [dif_pos h]
def runG (s:ByteArray):Nat→Nat
 | 0=>s.size
 | d + 1=>if isLetterB (byteAt s (s.size - (d + 1))) then runG s d else s.size - (d + 1)
def runF (s:ByteArray) (k:Nat):Nat:=if k < s.size then runG s (s.size - k) else k
theorem runF_eq (s:ByteArray) (k:Nat):runF s k = if h:k < s.size then if isLetterB s[k] then runF s (k + 1) else k else k:=by
 unfold runF
 by_cases hk:k < s.size
 ·have e:s.size - k = (s.size - (k + 1)) + 1:=by omega
  have e2:s.size - ((s.size - (k + 1)) + 1) = k:=by omega
  rw [if_pos hk,dif_pos hk,e,runG,e2,byteAt_eq hk]
  by_cases hk2:k + 1 < s.size
  ·rw [if_pos hk2]
  ·rw [if_neg hk2,show s.size - (k + 1) = 0 by omega,show k + 1 = s.size by omega]; rfl
 ·rw [if_neg hk,dif_neg hk]
theorem runF_le (s:ByteArray) (k:Nat) (h:k ≤ s.size):k ≤ runF s k∧runF s k ≤ s.size:=by
 induction hn:s.size - k using Nat.strongRecOn generalizing k with
 | ind n ih =>
  rw [runF_eq]
  by_cases h1:k < s.size
  ·rw [dif_pos h1]
   by_cases h2:isLetterB s[k]
   ·rw [if_pos h2]
    have:=ih (s.size - (k + 1)) (by omega) (k + 1) (by omega) rfl
    omega
   ·rw [if_neg h2]; omega
  ·rw [dif_neg h1]; omega
def signs:List ByteArray:=[⟨#[59]⟩,⟨#[44]⟩,⟨#[61]⟩,⟨#[33]⟩,⟨#[38]⟩,⟨#[124]⟩,⟨#[63]⟩,⟨#[40]⟩,⟨#[41]⟩,⟨#[123]⟩,⟨#[125]⟩]
def endAt (s:ByteArray) (i:Nat) (h:i < s.size):Nat:=if isLetterB s[i] then runF s (i + 1) else i + 1
theorem endAt_gt (s:ByteArray) (i:Nat) (h:i < s.size):i < endAt s i h∧endAt s i h ≤ s.size:=by
 unfold endAt
 by_cases h2:isLetterB s[i]
 ·rw [if_pos h2]; have:=runF_le s (i + 1) (by omega); omega
 ·rw [if_neg h2]; omega
def okAt (s:ByteArray) (i:Nat) (h:i < s.size):Bool:=(isLetterB s[i] && decide (endAt s i h - i ≤ 8)) || memB signs (s.extract i (endAt s i h))
def blankB (c:UInt8):Bool:=decide (c.toNat = 32) || decide (c.toNat = 10)
def lexN (s:ByteArray):Nat→Nat→List Tk × Option Nat
 | 0,_=>([],none)
 | n + 1,i =>
  if h:i < s.size then
   if blankB s[i] then lexN s n (i + 1)
   else if okAt s i h then (⟨s.extract i (endAt s i h),i⟩ :: (lexN s n (endAt s i h)).1,(lexN s n (endAt s i h)).2)
   else ([],some i)
  else ([],none)
theorem lexN_fuel (s:ByteArray):∀ n m i,s.size - i ≤ n→s.size - i ≤ m→lexN s n i = lexN s m i:=by
 intro n
 induction n with
 | zero =>
  intro m i h1 _
  cases m with
  | zero=>rfl
  | succ m=>rw [lexN,lexN,dif_neg (by omega)]
 | succ n ih =>
  intro m i h1 h2
  cases m with
  | zero=>rw [lexN,lexN,dif_neg (by omega)]
  | succ m =>
   rw [lexN,lexN]
   by_cases h:i < s.size
   ·have hg:=endAt_gt s i h
    rw [dif_pos h,dif_pos h,ih m (i + 1) (by omega) (by omega),ih m (endAt s i h) (by omega) (by omega)]
   ·rw [dif_neg h,dif_neg h]
def lexF (s:ByteArray) (i:Nat):List Tk × Option Nat:=lexN s (s.size - i) i
theorem lexF_eq (s:ByteArray) (i:Nat):lexF s i = if h:i < s.size then
    if blankB s[i] then lexF s (i + 1)
    else if okAt s i h then (⟨s.extract i (endAt s i h),i⟩ :: (lexF s (endAt s i h)).1,(lexF s (endAt s i h)).2)
    else ([],some i)
 else ([],none):=by
 unfold lexF
 by_cases h:i < s.size
 ·have hg:=endAt_gt s i h
  have e:s.size - i = (s.size - i - 1) + 1:=by omega
  rw [dif_pos h,e,lexN,dif_pos h,lexN_fuel s (s.size - i - 1) (s.size - (i + 1)) (i + 1) (by omega) (by omega),lexN_fuel s (s.size - i - 1) (s.size - endAt s i h) (endAt s i h) (by omega) (by omega)]
 ·rw [dif_neg h,show s.size - i = 0 by omega,lexN]
theorem lexF_out {s:ByteArray} {i:Nat} (h:¬ i < s.size):lexF s i = ([],none):=by rw [lexF_eq,dif_neg h]
theorem lexF_blank {s:ByteArray} {i:Nat} (h:i < s.size) (hb:blankB s[i] = true):lexF s i = lexF s (i + 1):=by rw [lexF_eq,dif_pos h,if_pos hb]
theorem lexF_bad {s:ByteArray} {i:Nat} (h:i < s.size) (hb:blankB s[i] = false) (ho:okAt s i h = false):lexF s i = ([],some i):=by rw [lexF_eq,dif_pos h,hb,ho]; rfl
theorem lexF_ok {s:ByteArray} {i:Nat} (h:i < s.size) (hb:blankB s[i] = false) (ho:okAt s i h = true):lexF s i = (⟨s.extract i (endAt s i h),i⟩ :: (lexF s (endAt s i h)).1,(lexF s (endAt s i h)).2):=by
 rw [lexF_eq,dif_pos h,hb,ho]; rfl
theorem ext_size (s:ByteArray) (i k:Nat) (h:i ≤ k) (hk:k ≤ s.size):(s.extract i k).size = k - i:=by
 rw [ByteArray.size_extract]; omega
theorem ext_first (s:ByteArray) (i k:Nat) (h:i < k) (hk:k ≤ s.size) (h':0 < (s.extract i k).size):(s.extract i k)[0] = s[i]:=by
 rw [ByteArray.getElem_extract]; rfl
theorem runF_yes {s:ByteArray} {k:Nat} (h:k < s.size) (h2:isLetterB s[k] = true):runF s k = runF s (k + 1):=by rw [runF_eq,dif_pos h,if_pos h2]
theorem runF_no {s:ByteArray} {k:Nat} (h:k < s.size) (h2:isLetterB s[k] = false):runF s k = k:=by rw [runF_eq,dif_pos h,h2]; rfl
theorem runF_out {s:ByteArray} {k:Nat} (h:¬ k < s.size):runF s k = k:=by rw [runF_eq,dif_neg h]
theorem lexF_len (s:ByteArray) (i:Nat):(lexF s i).1.length ≤ s.size - i:=by
 induction hn:s.size - i using Nat.strongRecOn generalizing i with
 | ind n ih =>
  by_cases h:i < s.size
  ·cases hb:blankB s[i]
   ·cases ho:okAt s i h
    ·rw [lexF_bad h hb ho]; exact Nat.zero_le _
    ·rw [lexF_ok h hb ho]
     have:=endAt_gt s i h
     have:=ih (s.size - endAt s i h) (by omega) (endAt s i h) rfl
     show (_ :: _).length ≤ _
     rw [List.length_cons]; omega
   ·rw [lexF_blank h hb]
    have:=ih (s.size - (i + 1)) (by omega) (i + 1) rfl
    omega
  ·rw [lexF_out h]; exact Nat.zero_le _
end RR
namespace RR
def flat:List ByteArray→ByteArray
 | []=>⟨#[]⟩
 | p :: r=>p ++ flat r
theorem flat_app (a b:List ByteArray):flat (a ++ b) = flat a ++ flat b:=by
 induction a with
 | nil=>exact (ByteArray.ext (by show (flat b).data = (⟨#[]⟩ ++ flat b:ByteArray).data; rw [ByteArray.data_append]; simp))
 | cons p r ih=>show p ++ flat (r ++ b) = p ++ flat r ++ flat b; rw [ih,ByteArray.append_assoc]
def isBlankP (p:ByteArray):Bool:=decide (p = ⟨#[32]⟩)
def isWordP (p:ByteArray):Bool:=p.data.toList.all isLetterB && decide (0 < p.size) && decide (p.size ≤ 8)
def adj:Bool→List ByteArray→Option Bool
 | c,[]=>some c
 | c,p :: r=>if isBlankP p || memB signs p then adj false r else if isWordP p && !c then adj true r else none
theorem adj_app (c:Bool) (a b:List ByteArray):adj c (a ++ b) = (adj c a).bind fun d=>adj d b:=by
 induction a generalizing c with
 | nil=>rfl
 | cons p r ih =>
  show (if isBlankP p || memB signs p then adj false (r ++ b) else if isWordP p && !c then adj true (r ++ b) else none) = (if isBlankP p || memB signs p then adj false r else if isWordP p && !c then adj true r else none).bind fun d=>adj d b
  split
  ·exact ih false
  ·split
   ·exact ih true
   ·rfl
def toksP (ps:List ByteArray):List ByteArray:=ps.filter fun p=>!isBlankP p
theorem toksP_app (a b:List ByteArray):toksP (a ++ b) = toksP a ++ toksP b:=List.filter_append ..
theorem ext_app {s a b:ByteArray} {i:Nat} (h:s.extract i s.size = a ++ b) (hi:i ≤ s.size):s.size = i + a.size + b.size∧s.extract i (i + a.size) = a∧s.extract (i + a.size) s.size = b:=by
 have hs:(s.extract i s.size).size = a.size + b.size:=by rw [h,ByteArray.size_append]
 rw [ByteArray.size_extract] at hs
 have h0:s.size = i + a.size + b.size:=by omega
 refine ⟨h0,?_,?_⟩
 ·have e:(s.extract i s.size).extract 0 a.size = s.extract i (i + a.size):=by
    rw [ByteArray.extract_extract]; congr 1; omega
  rw [← e,h,ByteArray.extract_append_eq_left rfl]
 ·have e:(s.extract i s.size).extract a.size (a.size + b.size) = s.extract (i + a.size) s.size:=by
    rw [ByteArray.extract_extract]; congr 1; omega
  rw [← e,h,ByteArray.extract_append_eq_right rfl rfl]
theorem get_of_ext {s p:ByteArray} {i:Nat} (h:s.extract i (i + p.size) = p) (hi:i + p.size ≤ s.size) {j:Nat} (hj:j < p.size):s[i + j]'(by omega) = p[j]:=by
 have:(s.extract i (i + p.size))[j]'(by rw [h]; exact hj) = p[j]:=by congr 1
 rw [← this,ByteArray.getElem_extract]
theorem runF_to {s:ByteArray} {e:Nat} (he:e ≤ s.size) (hn:∀ h:e < s.size,isLetterB s[e] = false):∀ (d k:Nat),k + d = e→(∀ j (h:j < s.size),k ≤ j→j < e→isLetterB s[j] = true)→runF s k = e
 | 0,k,hk,_=>by
  have:k = e:=by omega
  subst this
  by_cases h:k < s.size
  ·exact runF_no h (hn h)
  ·exact runF_out h
 | d + 1,k,hk,hl=>by
  have h:k < s.size:=by omega
  rw [runF_yes h (hl k h (Nat.le_refl _) (by omega))]
  exact runF_to he hn d (k + 1) (by omega) fun j hj h1 h2=>hl j hj (by omega) h2
theorem sign_first {p:ByteArray} (h:memB signs p = true):p.size = 1∧∀ h:0 < p.size,isLetterB p[0] = false∧blankB p[0] = false:=by
 unfold memB signs at h
 simp only [List.any_cons,List.any_nil,Bool.or_eq_true,decide_eq_true_eq,Bool.or_false] at h
 rcases h with h | h | h | h | h | h | h | h | h | h | h <;> (subst h; exact ⟨rfl,fun _=>⟨rfl,rfl⟩⟩)
theorem blank_is {p:ByteArray} (h:isBlankP p = true):p = ⟨#[32]⟩:=of_decide_eq_true h
theorem word_is {p:ByteArray} (h:isWordP p = true):0 < p.size∧p.size ≤ 8∧∀ j (h:j < p.size),isLetterB p[j] = true:=by
 unfold isWordP at h
 simp only [Bool.and_eq_true,decide_eq_true_eq,List.all_eq_true] at h
 exact ⟨h.1.2,h.2,fun j hj=>h.1.1 _ (by simp only [Array.mem_toList_iff]; exact Array.getElem_mem hj)⟩
theorem letter_blank {c:UInt8} (h:isLetterB c = true):blankB c = false:=by
 unfold isLetterB at h
 unfold blankB
 simp only [Bool.and_eq_true,decide_eq_true_eq] at h
 rw [decide_eq_false (by omega),decide_eq_false (by omega)]; rfl
theorem blank_bytes:isLetterB 32 = false∧blankB 32 = true:=by decide
theorem adj_true {r:List ByteArray} {d:Bool} (h:adj true r = some d) (hf:0 < (flat r).size):isLetterB (flat r)[0] = false:=by
 cases r with
 | nil=>exact absurd hf (Nat.lt_irrefl _)
 | cons p r =>
  have e:adj true (p :: r) = if isBlankP p || memB signs p then adj false r else if isWordP p && !true then adj true r else none:=rfl
  rw [e] at h
  have key:∀ (hp:0 < p.size),(flat (p :: r))[0] = p[0]:=fun hp=>by
   show (p ++ flat r)[0] = p[0]
   exact ByteArray.getElem_append_left hp
  split at h
  ·next hb =>
   rw [Bool.or_eq_true] at hb
   rcases hb with hb | hb
   ·have:=blank_is hb
    subst this
    rw [key (by decide)]; exact blank_bytes.1
   ·have q:=sign_first hb
    rw [key (by omega)]; exact (q.2 (by omega)).1
  ·simp at h
theorem lex_flat (s:ByteArray):∀ (ps:List ByteArray) (c d:Bool) (i:Nat),adj c ps = some d→i ≤ s.size→s.extract i s.size = flat ps→(lexF s i).1.map Tk.t = toksP ps∧(lexF s i).2 = none
 | [],c,d,i,_,hi,he=>by
  have hs:(s.extract i s.size).size = 0:=by rw [he]; rfl
  rw [ByteArray.size_extract] at hs
  rw [lexF_out (by omega)]
  exact ⟨rfl,rfl⟩
 | p :: r,c,d,i,ha,hi,he=>by
  have he:s.extract i s.size = p ++ flat r:=he
  obtain ⟨z,e1,e2⟩:=ext_app he hi
  have e:adj c (p :: r) = if isBlankP p || memB signs p then adj false r else if isWordP p && !c then adj true r else none:=rfl
  rw [e] at ha
  cases hb:isBlankP p
  ·have ht:toksP (p :: r) = p :: toksP r:=by unfold toksP; rw [List.filter_cons,hb]; rfl
   rw [ht]
   cases hg:memB signs p
   ·rw [hb,hg] at ha
    cases hw:isWordP p
    ·rw [hw] at ha; simp at ha
    ·rw [hw] at ha
     have ha:adj true r = some d:=by cases c with | false=>exact ha | true=>simp at ha
     obtain ⟨w1,w2,w3⟩:=word_is hw
     have hlt:i < s.size:=by omega
     have g:∀ j (hj:j < p.size),isLetterB (s[i + j]'(by omega)) = true:=fun j hj=>by rw [get_of_ext e1 (by omega) hj]; exact w3 j hj
     have g0:isLetterB s[i] = true:=g 0 w1
     have hr:endAt s i hlt = i + p.size:=by
      unfold endAt
      rw [if_pos g0]
      refine runF_to (by omega) (fun h=>?_) (p.size - 1) (i + 1) (by omega) (fun j hj h1 h2=>?_)
      ·have q0:0 < (flat r).size:=by omega
       have:=adj_true ha q0
       have h5:(s.extract (i + p.size) s.size)[0]'(by rw [e2]; exact q0) = (flat r)[0]:=by congr 1
       rw [← h5,ByteArray.getElem_extract] at this
       exact this
      ·have:=g (j - i) (by omega)
       have ej:i + (j - i) = j:=by omega
       simp only [ej] at this
       exact this
     have ho:okAt s i hlt = true:=by unfold okAt; rw [g0,hr,decide_eq_true (by omega)]; rfl
     rw [lexF_ok hlt (letter_blank g0) ho,hr]
     have ih:=lex_flat s r true d (i + p.size) ha (by omega) e2
     refine ⟨?_,ih.2⟩
     show s.extract i (i + p.size) :: (lexF s (i + p.size)).1.map Tk.t = p :: toksP r
     rw [ih.1,e1]
   ·rw [hb,hg] at ha
    obtain ⟨q1,q2⟩:=sign_first hg
    have hlt:i < s.size:=by omega
    have g0:s[i] = p[0]'(by omega):=get_of_ext e1 (by omega) (j:=0) (by omega)
    obtain ⟨q3,q4⟩:=q2 (by omega)
    have hr:endAt s i hlt = i + p.size:=by unfold endAt; rw [g0,q3,q1]; rfl
    have ho:okAt s i hlt = true:=by unfold okAt; rw [hr,e1,hg,Bool.or_true]
    rw [lexF_ok hlt (by rw [g0]; exact q4) ho,hr]
    have ih:=lex_flat s r false d (i + p.size) ha (by omega) e2
    refine ⟨?_,ih.2⟩
    show s.extract i (i + p.size) :: (lexF s (i + p.size)).1.map Tk.t = p :: toksP r
    rw [ih.1,e1]
  ·have ht:toksP (p :: r) = toksP r:=by unfold toksP; rw [List.filter_cons,hb]; rfl
   rw [hb] at ha
   rw [ht]
   have:=blank_is hb
   subst this
   have z1:(⟨#[32]⟩:ByteArray).size = 1:=rfl
   rw [z1] at z e1 e2
   have hlt:i < s.size:=by omega
   have g0:s[i] = 32:=get_of_ext (p:=⟨#[32]⟩) e1 (by rw [z1]; omega) (j:=0) (by decide)
   rw [lexF_blank hlt (by rw [g0]; exact blank_bytes.2)]
   exact lex_flat s r false d (i + 1) ha (by omega) e2
theorem lex_places (s:ByteArray):∀ (n i:Nat),s.size - i ≤ n→∀ t ∈ (lexF s i).1,t.p < s.size
 | 0,i,h,t,ht=>by rw [lexF_out (by omega)] at ht; cases ht
 | n + 1,i,h,t,ht=>by
  by_cases hi:i < s.size
  ·cases hb:blankB s[i]
   ·cases ho:okAt s i hi
    ·rw [lexF_bad hi hb ho] at ht; cases ht
    ·rw [lexF_ok hi hb ho] at ht
     rcases List.mem_cons.1 ht with h1 | h1
     ·subst h1; exact hi
     ·have:=endAt_gt s i hi
      exact lex_places s n _ (by omega) t h1
   ·rw [lexF_blank hi hb] at ht
    exact lex_places s n _ (by omega) t ht
  ·rw [lexF_out hi] at ht; cases ht
theorem lex_all {ps:List ByteArray} {d:Bool} (h:adj false ps = some d):(lexF (flat ps) 0).1.map Tk.t = toksP ps∧(lexF (flat ps) 0).2 = none :=
 lex_flat (flat ps) ps false d 0 h (Nat.zero_le _) ByteArray.extract_zero_size
end RR
namespace RR
structure Nm where
 word:ByteArray
 at_:Nat
 role:Nat
 proc:Int
structure Cl where
 word:ByteArray
 at_:Nat
 values:Nat
def isWholeB (r:Nat):Bool:=decide (r = 0) || decide (r = 1) || decide (r = 2)
def isGivenB (ns:List Nm) (word:ByteArray) (role:Nat):Bool:=ns.any fun n=>decide (n.role = role) && decide (n.word = word)
def isParamB (ns:List Nm) (word:ByteArray) (proc:Int):Bool:=ns.any fun n=>decide (n.role = 3) && decide (n.proc = proc) && decide (n.word = word)
theorem any_snoc {α:Type} (p:α→Bool) (l:List α) (k:Nat) (h:k < l.length):(l.take (k + 1)).any p = ((l.take k).any p || p l[k]):=by
 rw [List.take_succ_eq_append_getElem h,List.any_append]; simp
theorem any_get {α:Type} (p:α→Bool) (l:List α) (k:Nat) (h:k < l.length) (e:p l[k] = true):l.any p = true :=
 List.any_eq_true.2 ⟨l[k],List.getElem_mem _,e⟩
def misusedB (ns:List Nm) (n:Nm):Bool :=
 if n.role = 4 then !isGivenB ns n.word 0 && !isParamB ns n.word n.proc
 else if n.role = 5 then !isGivenB ns n.word 1
 else if n.role = 6 ∨ n.role = 7 then !isGivenB ns n.word 2
 else false
def clashB (i:Nat) (n:Nm) (j:Nat) (m:Nm):Bool :=
 decide (m.word = n.word) && ((isWholeB n.role && isWholeB m.role && decide (j < i)) || (decide (n.role = 3) && isWholeB m.role) || (decide (n.role = 3) && decide (m.role = 3) && decide (m.proc = n.proc) && decide (j < i)))
def nmAt (ns:List Nm) (k:Nat):Nm:=ns[k]?.getD ⟨⟨#[]⟩,0,0,0⟩
theorem nmAt_eq {ns:List Nm} {k:Nat} (h:k < ns.length):nmAt ns k = ns[k]:=by unfold nmAt; rw [List.getElem?_eq_getElem h]; rfl
def clashG (ns:List Nm) (i:Nat) (n:Nm):Nat→Bool
 | 0=>false
 | d + 1=>clashB i n (ns.length - (d + 1)) (nmAt ns (ns.length - (d + 1))) || clashG ns i n d
def clashF (ns:List Nm) (i:Nat) (n:Nm) (j:Nat):Bool:=clashG ns i n (ns.length - j)
theorem clashF_eq (ns:List Nm) (i:Nat) (n:Nm) (j:Nat):clashF ns i n j = if h:j < ns.length then clashB i n j ns[j] || clashF ns i n (j + 1) else false:=by
 unfold clashF
 by_cases hk:j < ns.length
 ·have e:ns.length - j = (ns.length - (j + 1)) + 1:=by omega
  have e2:ns.length - ((ns.length - (j + 1)) + 1) = j:=by omega
  rw [dif_pos hk,e,clashG,e2,nmAt_eq hk]
 ·rw [dif_neg hk,show ns.length - j = 0 by omega]; rfl
theorem clashF_out {ns:List Nm} {i:Nat} {n:Nm} {j:Nat} (h:¬ j < ns.length):clashF ns i n j = false:=by rw [clashF_eq,dif_neg h]
theorem clashF_yes {ns:List Nm} {i:Nat} {n:Nm} {j:Nat} (h:j < ns.length) (e:clashB i n j ns[j] = true):clashF ns i n j = true:=by rw [clashF_eq,dif_pos h,e]; rfl
theorem clashF_no {ns:List Nm} {i:Nat} {n:Nm} {j:Nat} (h:j < ns.length) (e:clashB i n j ns[j] = false):clashF ns i n j = clashF ns i n (j + 1):=by rw [clashF_eq,dif_pos h,e]; rfl
def firstG (p:Nat→Nm→Bool) (ns:List Nm):Nat→Option Nat
 | 0=>none
 | d + 1=>if p (ns.length - (d + 1)) (nmAt ns (ns.length - (d + 1))) then some (nmAt ns (ns.length - (d + 1))).at_ else firstG p ns d
def firstF (p:Nat→Nm→Bool) (ns:List Nm) (k:Nat):Option Nat:=firstG p ns (ns.length - k)
theorem firstF_eq (p:Nat→Nm→Bool) (ns:List Nm) (k:Nat):firstF p ns k = if h:k < ns.length then if p k ns[k] then some ns[k].at_ else firstF p ns (k + 1) else none:=by
 unfold firstF
 by_cases hk:k < ns.length
 ·have e:ns.length - k = (ns.length - (k + 1)) + 1:=by omega
  have e2:ns.length - ((ns.length - (k + 1)) + 1) = k:=by omega
  rw [dif_pos hk,e,firstG,e2,nmAt_eq hk]
 ·rw [dif_neg hk,show ns.length - k = 0 by omega]; rfl
theorem firstF_out {p:Nat→Nm→Bool} {ns:List Nm} {k:Nat} (h:¬ k < ns.length):firstF p ns k = none:=by rw [firstF_eq,dif_neg h]
theorem firstF_yes {p:Nat→Nm→Bool} {ns:List Nm} {k:Nat} (h:k < ns.length) (e:p k ns[k] = true):firstF p ns k = some ns[k].at_:=by rw [firstF_eq,dif_pos h,if_pos e]
theorem firstF_no {p:Nat→Nm→Bool} {ns:List Nm} {k:Nat} (h:k < ns.length) (e:p k ns[k] = false):firstF p ns k = firstF p ns (k + 1):=by rw [firstF_eq,dif_pos h,e]; rfl
def twiceP (ns:List Nm):Option Nat:=firstF (fun i n=>clashF ns i n 0) ns 0
def misP (ns:List Nm):Option Nat:=firstF (fun _ n=>misusedB ns n) ns 0
end RR
/- The checks on names as the program makes them,more: too many,calls. No Go here. -/
namespace RR
def pstep (word:ByteArray) (pc:Int × Nat) (n:Nm):Int × Nat :=
 let p:=if n.role = 2∧n.word = word then n.proc else pc.1
 (p,if n.role = 3∧n.proc = p then pc.2 + 1 else pc.2)
def paramsP (ns:List Nm) (word:ByteArray):Nat:=(ns.foldl (pstep word) (-1,0)).2
theorem foldl_snoc {α β:Type} (f:β→α→β) (b:β) (l:List α) (k:Nat) (h:k < l.length):(l.take (k + 1)).foldl f b = f ((l.take k).foldl f b) l[k]:=by
 rw [List.take_succ_eq_append_getElem h,List.foldl_append]; rfl
structure Cts where
 sh:Nat
 lo:Nat
 pr:Nat
 pa:Nat
 th:Nat
def Cts.add (c:Cts) (r:Nat):Cts :=
 if r = 0 then { c with sh:=c.sh + 1 } else if r = 1 then { c with lo:=c.lo + 1 } else if r = 2 then { c with pr:=c.pr + 1,pa:=0 } else if r = 3 then { c with pa:=c.pa + 1 } else if r = 7 then { c with th:=c.th + 1 } else c
def Cts.too (c:Cts):Bool:=decide (4 < c.sh) || decide (3 < c.lo) || decide (4 < c.pr) || decide (3 < c.pa) || decide (3 < c.th)
def manyF2 (ns:List Nm) (c:Cts):Option Nat :=
 match ns with
 | []=>none
 | n :: r=>if (c.add n.role).too then some n.at_ else manyF2 r (c.add n.role)
def manyP (ns:List Nm):Option Nat:=manyF2 ns ⟨0,0,0,0,0⟩
def wrongP (ns:List Nm):List Cl→Option Nat
 | []=>none
 | c :: r=>if c.values ≠ paramsP ns c.word then some c.at_ else wrongP ns r
def outCheck (ns:List Nm) (cs:List Cl):Int × Int :=
 match manyP ns with
 | some p=>(4,p)
 | none=>match twiceP ns with
  | some p=>(5,p)
  | none=>match misP ns with
   | some p=>(5,p)
   | none=>match wrongP ns cs with
    | some p=>(6,p)
    | none=>(0,0)
end RR
namespace RR
structure PSt where
 next:Nat
 depth:Int
 proc:Int
 failed:Bool
 names:List Nm
 calls:List Cl
def PSt.fail (σ:PSt):PSt:={ σ with failed:=true }
def PSt.step (σ:PSt):PSt:={ σ with next:=σ.next + 1 }
def PSt.ahead (L:List Tk) (σ:PSt) (n:Nat):Tk:=if h:σ.failed = false∧σ.next + n < L.length then L[σ.next + n] else ⟨⟨#[]⟩,0⟩
def PSt.sees (L:List Tk) (σ:PSt) (t:ByteArray):Bool:=decide ((σ.ahead L 0).t = t)
def PSt.take (L:List Tk) (σ:PSt) (t:ByteArray):PSt:=if σ.sees L t then σ.step else σ.fail
def PSt.seesCall (L:List Tk) (σ:PSt):Bool:=isNameB (σ.ahead L 0).t && decide ((σ.ahead L 1).t = ⟨#[40]⟩)
def PSt.takeName (L:List Tk) (σ:PSt) (role:Nat):PSt :=
 if isNameB (σ.ahead L 0).t then { σ with next:=σ.next + 1,names:=σ.names ++ [⟨(σ.ahead L 0).t,(σ.ahead L 0).p,role,σ.proc⟩] } else σ.fail
theorem ahead_in {L:List Tk} {σ:PSt} {n:Nat} (h:σ.failed = false) (h2:σ.next + n < L.length):σ.ahead L n = L[σ.next + n]:=by unfold PSt.ahead; rw [dif_pos ⟨h,h2⟩]
theorem ahead_failed {L:List Tk} {σ:PSt} {n:Nat} (h:σ.failed = true):σ.ahead L n = ⟨⟨#[]⟩,0⟩:=by unfold PSt.ahead; rw [dif_neg (by rw [h]; simp)]
theorem ahead_out {L:List Tk} {σ:PSt} {n:Nat} (h2:¬ σ.next + n < L.length):σ.ahead L n = ⟨⟨#[]⟩,0⟩:=by unfold PSt.ahead; rw [dif_neg (fun h=>h2 h.2)]
def Inv (σ:PSt):Prop:=σ.names.length ≤ σ.next∧σ.calls.length ≤ σ.next + (if σ.failed then 1 else 0)
theorem inv_fail {σ:PSt} (h:Inv σ):Inv σ.fail:=by
 refine ⟨h.1,?_⟩
 have:=h.2
 show σ.calls.length ≤ σ.next + 1
 split at this <;> omega
theorem inv_step {σ:PSt} (h:Inv σ):Inv σ.step:=by
 refine ⟨Nat.le_succ_of_le h.1,?_⟩
 have:=h.2
 show σ.calls.length ≤ σ.next + 1 + (if σ.failed then 1 else 0)
 omega
theorem inv_name {σ:PSt} (h:Inv σ) (n:Nm):Inv { σ with next:=σ.next + 1,names:=σ.names ++ [n] }:=by
 refine ⟨?_,?_⟩
 ·show (σ.names ++ [n]).length ≤ σ.next + 1
  rw [List.length_append]; exact Nat.succ_le_succ h.1
 ·have:=h.2
  show σ.calls.length ≤ σ.next + 1 + (if σ.failed then 1 else 0)
  omega
theorem Inv.small {σ:PSt} (h:Inv σ):σ.names.length ≤ σ.next∧σ.calls.length ≤ σ.next + 1:=by
 refine ⟨h.1,?_⟩
 have:=h.2
 split at this <;> omega
theorem sees_lt {L:List Tk} {σ:PSt} {t:ByteArray} (ht:t ≠ ⟨#[]⟩) (h:σ.sees L t = true):σ.next < L.length∧σ.failed = false:=by
 unfold PSt.sees at h
 rw [decide_eq_true_iff] at h
 cases hf:σ.failed
 ·by_cases h2:σ.next + 0 < L.length
  ·exact ⟨h2,rfl⟩
  ·rw [ahead_out h2] at h; exact absurd h.symm ht
 ·rw [ahead_failed hf] at h; exact absurd h.symm ht
theorem name_lt {L:List Tk} {σ:PSt} (h:isNameB (σ.ahead L 0).t = true):σ.next < L.length∧σ.failed = false:=by
 have he:isNameB (⟨#[]⟩:ByteArray) = false:=isName_empty rfl
 cases hf:σ.failed
 ·by_cases h2:σ.next + 0 < L.length
  ·exact ⟨h2,rfl⟩
  ·rw [ahead_out h2,he] at h; cases h
 ·rw [ahead_failed hf,he] at h; cases h
end RR
/- The program's parser,its recursive functions,with so much fuel. Plain functions. No Go here. -/
namespace RR
open Go Go.RowKit
def enterP (L:List Tk) (σ:PSt) (t:ByteArray):PSt:=if 6 ≤ σ.depth then σ.fail else { σ.take L t with depth:=wrap64 ((σ.take L t).depth + 1) }
def leaveP (L:List Tk) (σ:PSt) (t:ByteArray):PSt:={ σ.take L t with depth:=wrap64 ((σ.take L t).depth - 1) }
def takeEndP (L:List Tk) (σ:PSt):PSt:=if σ.next < L.length then σ.fail else σ
def notsP (L:List Tk):Nat→PSt→Option PSt
 | 0,_=>none
 | f + 1,σ=>if σ.sees L ⟨#[33]⟩ then notsP L f (σ.take L ⟨#[33]⟩) else some σ
def exprsP (L:List Tk):Nat→Nat→PSt→Option PSt
 | 0,_,_=>none
 | f + 1,0,σ=>(exprsP L f 2 σ).bind (exprsP L f 1)
 | f + 1,1,σ=>if σ.sees L ⟨#[124]⟩ then (exprsP L f 2 σ.step).bind (exprsP L f 1) else some σ
 | f + 1,2,σ=>(exprsP L f 4 σ).bind (exprsP L f 3)
 | f + 1,3,σ=>if σ.sees L ⟨#[38]⟩ then (exprsP L f 4 σ.step).bind (exprsP L f 3) else some σ
 | f + 1,4,σ=>(notsP L f σ).bind fun σ1 =>
     if (σ1.ahead L 0).t = ⟨#[40]⟩ then exprsP L f 5 σ1
     else if (σ1.ahead L 0).t = ⟨#[116,114,117,101]⟩ ∨ (σ1.ahead L 0).t = ⟨#[102,97,108,115,101]⟩ ∨ (σ1.ahead L 0).t = ⟨#[63]⟩ then some (σ1.take L (σ1.ahead L 0).t)
     else some (σ1.takeName L 4)
 | f + 1,_,σ=>(exprsP L f 0 (enterP L σ ⟨#[40]⟩)).map fun σ1=>leaveP L σ1 ⟨#[41]⟩
def exprP (L:List Tk) (f:Nat) (σ:PSt):Option PSt:=exprsP L f 0 σ
def orP (L:List Tk) (f:Nat) (σ:PSt):Option PSt:=exprsP L f 1 σ
def termP (L:List Tk) (f:Nat) (σ:PSt):Option PSt:=exprsP L f 2 σ
def andP (L:List Tk) (f:Nat) (σ:PSt):Option PSt:=exprsP L f 3 σ
def factorP (L:List Tk) (f:Nat) (σ:PSt):Option PSt:=exprsP L f 4 σ
def bracketedP (L:List Tk) (f:Nat) (σ:PSt):Option PSt:=exprsP L f 5 σ
theorem exprP_zero (L:List Tk) (σ:PSt):exprP L 0 σ = none:=rfl
theorem orP_zero (L:List Tk) (σ:PSt):orP L 0 σ = none:=rfl
theorem termP_zero (L:List Tk) (σ:PSt):termP L 0 σ = none:=rfl
theorem andP_zero (L:List Tk) (σ:PSt):andP L 0 σ = none:=rfl
theorem factorP_zero (L:List Tk) (σ:PSt):factorP L 0 σ = none:=rfl
theorem bracketedP_zero (L:List Tk) (σ:PSt):bracketedP L 0 σ = none:=rfl
theorem exprP_succ (L:List Tk) (f:Nat) (σ:PSt):exprP L (f + 1) σ = (termP L f σ).bind (orP L f):=rfl
theorem orP_succ (L:List Tk) (f:Nat) (σ:PSt):orP L (f + 1) σ = if σ.sees L ⟨#[124]⟩ then (termP L f σ.step).bind (orP L f) else some σ:=rfl
theorem termP_succ (L:List Tk) (f:Nat) (σ:PSt):termP L (f + 1) σ = (factorP L f σ).bind (andP L f):=rfl
theorem andP_succ (L:List Tk) (f:Nat) (σ:PSt):andP L (f + 1) σ = if σ.sees L ⟨#[38]⟩ then (factorP L f σ.step).bind (andP L f) else some σ:=rfl
theorem factorP_succ (L:List Tk) (f:Nat) (σ:PSt):factorP L (f + 1) σ = (notsP L f σ).bind fun σ1 =>
      if (σ1.ahead L 0).t = ⟨#[40]⟩ then bracketedP L f σ1
      else if (σ1.ahead L 0).t = ⟨#[116,114,117,101]⟩ ∨ (σ1.ahead L 0).t = ⟨#[102,97,108,115,101]⟩ ∨ (σ1.ahead L 0).t = ⟨#[63]⟩ then some (σ1.take L (σ1.ahead L 0).t)
      else some (σ1.takeName L 4):=rfl
theorem bracketedP_succ (L:List Tk) (f:Nat) (σ:PSt):bracketedP L (f + 1) σ = (exprP L f (enterP L σ ⟨#[40]⟩)).map fun σ1=>leaveP L σ1 ⟨#[41]⟩:=rfl
def moreP (L:List Tk) (role:Nat):Nat→PSt→Option PSt
 | 0,_=>none
 | f + 1,σ=>if σ.sees L ⟨#[44]⟩ then moreP L role f (σ.step.takeName L role) else some σ
def valuesP (L:List Tk):Nat→PSt→Nat→Option (PSt × Nat)
 | 0,_,_=>none
 | f + 1,σ,n=>if σ.sees L ⟨#[44]⟩ then (exprP L f σ.step).bind fun σ1=>valuesP L f σ1 (n + 1) else some (σ,n)
end RR
/- The program's parser: what expressions leave as it was; values,calls. Plain functions. No Go here. -/
namespace RR
open Go Go.RowKit
def Good (σ σ':PSt):Prop:=σ'.calls = σ.calls∧σ.next ≤ σ'.next∧σ'.proc = σ.proc
theorem Good.refl (σ:PSt):Good σ σ:=⟨rfl,Nat.le_refl _,rfl⟩
theorem Good.trans {a b c:PSt} (h:Good a b) (k:Good b c):Good a c:=⟨k.1.trans h.1,Nat.le_trans h.2.1 k.2.1,k.2.2.trans h.2.2⟩
theorem good_fail (σ:PSt):Good σ σ.fail:=⟨rfl,Nat.le_refl _,rfl⟩
theorem good_step (σ:PSt):Good σ σ.step:=⟨rfl,Nat.le_succ _,rfl⟩
theorem good_take (L:List Tk) (σ:PSt) (t:ByteArray):Good σ (σ.take L t):=by
 unfold PSt.take; split
 ·exact good_step σ
 ·exact good_fail σ
theorem good_takeName (L:List Tk) (σ:PSt) (r:Nat):Good σ (σ.takeName L r):=by
 unfold PSt.takeName; split
 ·exact ⟨rfl,Nat.le_succ _,rfl⟩
 ·exact good_fail σ
theorem good_enter (L:List Tk) (σ:PSt) (t:ByteArray):Good σ (enterP L σ t):=by
 unfold enterP; split
 ·exact good_fail σ
 ·have:=good_take L σ t
  exact ⟨this.1,this.2.1,this.2.2⟩
theorem good_leave (L:List Tk) (σ:PSt) (t:ByteArray):Good σ (leaveP L σ t):=by
 have:=good_take L σ t
 exact ⟨this.1,this.2.1,this.2.2⟩
theorem good_nots (L:List Tk):∀ (f:Nat) (σ σ':PSt),notsP L f σ = some σ'→Good σ σ':=by
 intro f
 induction f with
 | zero=>intro σ σ' h; rw [notsP] at h; cases h
 | succ f ih =>
  intro σ σ' h
  rw [notsP] at h
  split at h
  ·exact (good_take L σ _).trans (ih _ _ h)
  ·rw [← Option.some.inj h]; exact Good.refl _
theorem bindS {α β:Type} {o:Option α} {g:α→Option β} {b:β} (h:o.bind g = some b):∃ a,o = some a∧g a = some b:=by
 cases o with
 | none=>cases h
 | some a=>exact ⟨a,rfl,h⟩
theorem good_exprs (L:List Tk):∀ f:Nat,(∀ σ σ',exprP L f σ = some σ'→Good σ σ')∧(∀ σ σ',orP L f σ = some σ'→Good σ σ')∧(∀ σ σ',termP L f σ = some σ'→Good σ σ')∧(∀ σ σ',andP L f σ = some σ'→Good σ σ')∧(∀ σ σ',factorP L f σ = some σ'→Good σ σ')∧(∀ σ σ',bracketedP L f σ = some σ'→Good σ σ'):=by
 intro f
 induction f with
 | zero =>
  refine ⟨?_,?_,?_,?_,?_,?_⟩ <;> intro σ σ' h
  ·rw [exprP_zero] at h; cases h
  ·rw [orP_zero] at h; cases h
  ·rw [termP_zero] at h; cases h
  ·rw [andP_zero] at h; cases h
  ·rw [factorP_zero] at h; cases h
  ·rw [bracketedP_zero] at h; cases h
 | succ f ih =>
  obtain ⟨i1,i2,i3,i4,i5,i6⟩:=ih
  refine ⟨?_,?_,?_,?_,?_,?_⟩ <;> intro σ σ' h
  ·rw [exprP_succ] at h
   obtain ⟨a,h1,h2⟩:=bindS h
   exact (i3 _ _ h1).trans (i2 _ _ h2)
  ·rw [orP_succ] at h
   split at h
   ·obtain ⟨a,h1,h2⟩:=bindS h
    exact (good_step σ).trans ((i3 _ _ h1).trans (i2 _ _ h2))
   ·rw [← Option.some.inj h]; exact Good.refl _
  ·rw [termP_succ] at h
   obtain ⟨a,h1,h2⟩:=bindS h
   exact (i5 _ _ h1).trans (i4 _ _ h2)
  ·rw [andP_succ] at h
   split at h
   ·obtain ⟨a,h1,h2⟩:=bindS h
    exact (good_step σ).trans ((i5 _ _ h1).trans (i4 _ _ h2))
   ·rw [← Option.some.inj h]; exact Good.refl _
  ·rw [factorP_succ] at h
   obtain ⟨a,h1,h2⟩:=bindS h
   refine (good_nots L f _ _ h1).trans ?_
   split at h2
   ·exact i6 _ _ h2
   ·split at h2
    ·rw [← Option.some.inj h2]; exact good_take L a _
    ·rw [← Option.some.inj h2]; exact good_takeName L a 4
  ·rw [bracketedP_succ] at h
   obtain ⟨a,h1,h2⟩:=Option.map_eq_some_iff.1 h
   rw [← h2]
   exact ((good_enter L σ _).trans (i1 _ _ h1)).trans (good_leave L a _)
theorem good_expr {L:List Tk} {f:Nat} {σ σ':PSt} (h:exprP L f σ = some σ'):Good σ σ':=(good_exprs L f).1 σ σ' h
theorem good_values (L:List Tk):∀ (f:Nat) (σ:PSt) (n:Nat) (r:PSt × Nat),valuesP L f σ n = some r→n ≤ σ.next + 1→Good σ r.1∧r.2 ≤ r.1.next + 1:=by
 intro f
 induction f with
 | zero=>intro σ n r h; rw [valuesP] at h; cases h
 | succ f ih =>
  intro σ n r h hn
  rw [valuesP] at h
  split at h
  ·obtain ⟨a,h1,h2⟩:=bindS h
   have g:=(good_step σ).trans (good_expr h1)
   have:=ih a (n + 1) r h2 (by have:=(good_expr h1).2.1; have e:σ.step.next = σ.next + 1:=rfl; omega)
   exact ⟨g.trans this.1,this.2⟩
  ·rw [← Option.some.inj h]; exact ⟨Good.refl _,hn⟩
def callP (L:List Tk) (f:Nat) (σ:PSt):Option PSt :=
 (if (enterP L (σ.takeName L 6) ⟨#[40]⟩).sees L ⟨#[41]⟩ then some (enterP L (σ.takeName L 6) ⟨#[40]⟩,0)
  else (exprP L f (enterP L (σ.takeName L 6) ⟨#[40]⟩)).bind fun τ=>valuesP L f τ 1).map fun r =>
   { leaveP L r.1 ⟨#[41]⟩ with calls:=(leaveP L r.1 ⟨#[41]⟩).calls ++ [⟨(σ.ahead L 0).t,(σ.ahead L 0).p,r.2⟩] }
end RR
/- The program's parser: statements,procedures,the program. Plain functions. No Go here. -/
namespace RR
open Go Go.RowKit
def listP (L:List Tk) (f:Nat) (t:ByteArray) (role:Nat) (σ:PSt):Option PSt :=
 if σ.sees L t then (moreP L role f (σ.step.takeName L role)).map fun τ=>τ.take L ⟨#[59]⟩ else some σ
end RR
namespace RR
open Go Go.RowKit
structure Nd where
 sign:Nat
 name:Int
 left:Int
 right:Int
structure Blk where
 proc:Int
 owner:Int
 els:Bool
structure Stm where
 kind:Nat
 at_:Nat
 blk:Blk
 target:Int
 name:Int
 vals:List (Int × Int)
structure QSt where
 p:PSt
 sts:List Stm
 nds:List Nd
def QSt.setp (σ:QSt) (q:PSt):QSt:={ σ with p:=q }
def QSt.node (σ:QSt) (n:Nd):QSt:={ σ with nds:=σ.nds ++ [n] }
def QSt.add (σ:QSt) (s:Stm):QSt:={ σ with sts:=σ.sts ++ [s] }
def nameIx (L:List Tk) (σ:PSt):Int:=if isNameB (σ.ahead L 0).t then σ.names.length else -1
def notsQ (L:List Tk):Nat→QSt→Nat→Option (QSt × Nat)
 | 0,_,_=>none
 | f + 1,σ,n=>if σ.p.sees L ⟨#[33]⟩ then notsQ L f (σ.setp σ.p.step) (n + 1) else some (σ,n)
def addNots:Nat→QSt→Int→QSt × Int
 | 0,σ,w=>(σ,w)
 | n + 1,σ,w=>addNots n (σ.node ⟨4,-1,0,w⟩) σ.nds.length
def constQ (L:List Tk) (σ:QSt) (t:ByteArray) (sign:Nat):QSt × Int:=((σ.setp (σ.p.take L t)).node ⟨sign,-1,0,0⟩,σ.nds.length)
def plainQ (L:List Tk) (br:QSt→Option (QSt × Int)) (σ:QSt):Option (QSt × Int) :=
 if (σ.p.ahead L 0).t = ⟨#[40]⟩ then br σ
 else if (σ.p.ahead L 0).t = ⟨#[116,114,117,101]⟩ then some (constQ L σ ⟨#[116,114,117,101]⟩ 1)
 else if (σ.p.ahead L 0).t = ⟨#[102,97,108,115,101]⟩ then some (constQ L σ ⟨#[102,97,108,115,101]⟩ 0)
 else if (σ.p.ahead L 0).t = ⟨#[63]⟩ then some (constQ L σ ⟨#[63]⟩ 2)
 else some ((σ.setp (σ.p.takeName L 4)).node ⟨3,nameIx L σ.p,0,0⟩,σ.nds.length)
def exprsQ (L:List Tk):Nat→Nat→QSt→Int→Option (QSt × Int)
 | 0,_,_,_=>none
 | f + 1,0,σ,_=>(exprsQ L f 2 σ 0).bind fun r=>exprsQ L f 1 r.1 r.2
 | f + 1,1,σ,w=>if σ.p.sees L ⟨#[124]⟩ then (exprsQ L f 2 (σ.setp σ.p.step) 0).bind fun r=>exprsQ L f 1 (r.1.node ⟨6,-1,w,r.2⟩) r.1.nds.length else some (σ,w)
 | f + 1,2,σ,_=>(exprsQ L f 4 σ 0).bind fun r=>exprsQ L f 3 r.1 r.2
 | f + 1,3,σ,w=>if σ.p.sees L ⟨#[38]⟩ then (exprsQ L f 4 (σ.setp σ.p.step) 0).bind fun r=>exprsQ L f 3 (r.1.node ⟨5,-1,w,r.2⟩) r.1.nds.length else some (σ,w)
 | f + 1,4,σ,_=>(notsQ L f σ 0).bind fun r=>(plainQ L (fun τ=>exprsQ L f 5 τ 0) r.1).map fun q=>addNots r.2 q.1 q.2
 | f + 1,_,σ,_=>(exprsQ L f 0 (σ.setp (enterP L σ.p ⟨#[40]⟩)) 0).map fun r=>(r.1.setp (leaveP L r.1.p ⟨#[41]⟩),r.2)
def exprQ (L:List Tk) (f:Nat) (σ:QSt):Option (QSt × Int):=exprsQ L f 0 σ 0
def orQ (L:List Tk) (f:Nat) (σ:QSt) (w:Int):Option (QSt × Int):=exprsQ L f 1 σ w
def termQ (L:List Tk) (f:Nat) (σ:QSt):Option (QSt × Int):=exprsQ L f 2 σ 0
def andQ (L:List Tk) (f:Nat) (σ:QSt) (w:Int):Option (QSt × Int):=exprsQ L f 3 σ w
def factorQ (L:List Tk) (f:Nat) (σ:QSt):Option (QSt × Int):=exprsQ L f 4 σ 0
def bracketedQ (L:List Tk) (f:Nat) (σ:QSt):Option (QSt × Int):=exprsQ L f 5 σ 0
theorem exprQ_zero (L:List Tk) (σ:QSt):exprQ L 0 σ = none:=rfl
theorem orQ_zero (L:List Tk) (σ:QSt) (w:Int):orQ L 0 σ w = none:=rfl
theorem termQ_zero (L:List Tk) (σ:QSt):termQ L 0 σ = none:=rfl
theorem andQ_zero (L:List Tk) (σ:QSt) (w:Int):andQ L 0 σ w = none:=rfl
theorem factorQ_zero (L:List Tk) (σ:QSt):factorQ L 0 σ = none:=rfl
theorem bracketedQ_zero (L:List Tk) (σ:QSt):bracketedQ L 0 σ = none:=rfl
theorem exprQ_succ (L:List Tk) (f:Nat) (σ:QSt):exprQ L (f + 1) σ = (termQ L f σ).bind fun r=>orQ L f r.1 r.2:=rfl
theorem orQ_succ (L:List Tk) (f:Nat) (σ:QSt) (w:Int):orQ L (f + 1) σ w = if σ.p.sees L ⟨#[124]⟩ then (termQ L f (σ.setp σ.p.step)).bind fun r=>orQ L f (r.1.node ⟨6,-1,w,r.2⟩) r.1.nds.length else some (σ,w):=rfl
theorem termQ_succ (L:List Tk) (f:Nat) (σ:QSt):termQ L (f + 1) σ = (factorQ L f σ).bind fun r=>andQ L f r.1 r.2:=rfl
theorem andQ_succ (L:List Tk) (f:Nat) (σ:QSt) (w:Int):andQ L (f + 1) σ w = if σ.p.sees L ⟨#[38]⟩ then (factorQ L f (σ.setp σ.p.step)).bind fun r=>andQ L f (r.1.node ⟨5,-1,w,r.2⟩) r.1.nds.length else some (σ,w):=rfl
theorem factorQ_succ (L:List Tk) (f:Nat) (σ:QSt):factorQ L (f + 1) σ = (notsQ L f σ 0).bind fun r=>(plainQ L (bracketedQ L f) r.1).map fun q=>addNots r.2 q.1 q.2:=rfl
theorem bracketedQ_succ (L:List Tk) (f:Nat) (σ:QSt):bracketedQ L (f + 1) σ = (exprQ L f (σ.setp (enterP L σ.p ⟨#[40]⟩))).map fun r=>(r.1.setp (leaveP L r.1.p ⟨#[41]⟩),r.2):=rfl
def valueQ (L:List Tk) (f:Nat) (σ:QSt) (v:List (Int × Int)):Option (QSt × List (Int × Int)):=(exprQ L f σ).map fun r=>(r.1,v ++ [((σ.nds.length:Int),r.2)])
def valuesQ (L:List Tk):Nat→QSt→List (Int × Int)→Option (QSt × List (Int × Int))
 | 0,_,_=>none
 | f + 1,σ,v=>if σ.p.sees L ⟨#[44]⟩ then (valueQ L f (σ.setp σ.p.step) v).bind fun r=>valuesQ L f r.1 r.2 else some (σ,v)
def condQ (L:List Tk):Nat→QSt→List (Int × Int)→Option (QSt × List (Int × Int))
 | 0,_,_=>none
 | f + 1,σ,v=>(valueQ L f (σ.setp (enterP L σ.p ⟨#[40]⟩)) v).map fun r=>(r.1.setp (leaveP L r.1.p ⟨#[41]⟩),r.2)
def callQ (L:List Tk) (f:Nat) (σ:QSt) (s:Stm):Option (QSt × Stm) :=
 (if (enterP L (σ.p.takeName L 6) ⟨#[40]⟩).sees L ⟨#[41]⟩ then some (σ.setp (enterP L (σ.p.takeName L 6) ⟨#[40]⟩),s.vals)
  else (valueQ L f (σ.setp (enterP L (σ.p.takeName L 6) ⟨#[40]⟩)) s.vals).bind fun r=>valuesQ L f r.1 r.2).map fun r =>
   (r.1.setp { leaveP L r.1.p ⟨#[41]⟩ with calls:=(leaveP L r.1.p ⟨#[41]⟩).calls ++ [⟨(σ.p.ahead L 0).t,(σ.p.ahead L 0).p,r.2.length⟩] },{ s with name:=nameIx L σ.p,vals:=r.2 })
def assignedQ (L:List Tk) (f:Nat) (σ:QSt) (s:Stm):Option (QSt × Stm) :=
 if σ.p.seesCall L then callQ L f σ s else (valueQ L f σ s.vals).map fun r=>(r.1,{ s with kind:=0,vals:=r.2 })
def aocQ (L:List Tk) (f:Nat) (σ:QSt) (s:Stm):Option QSt :=
 (if σ.p.seesCall L then callQ L f σ { s with kind:=1 } else assignedQ L f (σ.setp ((σ.p.takeName L 4).take L ⟨#[61]⟩)) { s with kind:=1,target:=nameIx L σ.p }).map fun r=>(r.1.setp (r.1.p.take L ⟨#[59]⟩)).add r.2
def giveBackQ (L:List Tk) (f:Nat) (σ:QSt) (s:Stm):Option QSt :=
 (if (σ.p.take L ⟨#[114,101,116,117,114,110]⟩).sees L ⟨#[59]⟩ then some (σ.setp (σ.p.take L ⟨#[114,101,116,117,114,110]⟩),s.vals) else valueQ L f (σ.setp (σ.p.take L ⟨#[114,101,116,117,114,110]⟩)) s.vals).map fun r =>
  (r.1.setp (r.1.p.take L ⟨#[59]⟩)).add { s with kind:=7,vals:=r.2 }
def assumeQ (L:List Tk) (f:Nat) (σ:QSt) (s:Stm):Option QSt :=
 (valueQ L f (σ.setp (σ.p.take L ⟨#[97,115,115,117,109,101]⟩)) s.vals).map fun r=>(r.1.setp (r.1.p.take L ⟨#[59]⟩)).add { s with kind:=4,vals:=r.2 }
def lockUseQ (L:List Tk) (σ:QSt) (s:Stm) (t:ByteArray):QSt :=
 (σ.setp (((σ.p.take L t).takeName L 5).take L ⟨#[59]⟩)).add { s with name:=nameIx L (σ.p.take L t) }
def skipQ (L:List Tk) (σ:QSt) (s:Stm):QSt:=(σ.setp ((σ.p.take L ⟨#[115,107,105,112]⟩).take L ⟨#[59]⟩)).add { s with kind:=8 }
def newStm (L:List Tk) (σ:QSt) (b:Blk):Stm:=⟨0,(σ.p.ahead L 0).p,b,-1,-1,[]⟩
def blocksQ (L:List Tk):Nat→Nat→QSt→Blk→Option (QSt × Nat)
 | 0,_,_,_=>none
 | f + 1,0,σ,b=>(blocksQ L f 1 (σ.setp (enterP L σ.p ⟨#[123]⟩)) b).map fun τ=>(τ.1.setp (leaveP L τ.1.p ⟨#[125]⟩),(τ.1.p.ahead L 0).p)
 | f + 1,1,σ,b=>if σ.p.failed = false∧σ.p.sees L ⟨#[125]⟩ = false then (blocksQ L f 2 σ b).bind fun τ=>blocksQ L f 1 τ.1 b else some (σ,0)
 | f + 1,2,σ,b =>
  if (σ.p.ahead L 0).t = ⟨#[105,102]⟩ then blocksQ L f 3 σ b
  else if (σ.p.ahead L 0).t = ⟨#[119,104,105,108,101]⟩ then (condQ L f (σ.setp (σ.p.take L ⟨#[119,104,105,108,101]⟩)) []).bind fun a=>(blocksQ L f 0 (a.1.add { newStm L σ b with kind:=3,vals:=a.2 }) ⟨b.proc,a.1.sts.length,false⟩).map fun c=>(c.1,0)
  else if (σ.p.ahead L 0).t = ⟨#[97,115,115,117,109,101]⟩ then (assumeQ L f σ (newStm L σ b)).map fun c=>(c,0)
  else if (σ.p.ahead L 0).t = ⟨#[97,99,113,117,105,114,101]⟩ then some (lockUseQ L σ { newStm L σ b with kind:=5 } (σ.p.ahead L 0).t,0)
  else if (σ.p.ahead L 0).t = ⟨#[114,101,108,101,97,115,101]⟩ then some (lockUseQ L σ { newStm L σ b with kind:=6 } (σ.p.ahead L 0).t,0)
  else if (σ.p.ahead L 0).t = ⟨#[114,101,116,117,114,110]⟩ then (giveBackQ L f σ (newStm L σ b)).map fun c=>(c,0)
  else if (σ.p.ahead L 0).t = ⟨#[115,107,105,112]⟩ then some (skipQ L σ (newStm L σ b),0)
  else (aocQ L f σ (newStm L σ b)).map fun c=>(c,0)
 | f + 1,_,σ,b=>(condQ L f (σ.setp (σ.p.take L ⟨#[105,102]⟩)) []).bind fun a =>
     (blocksQ L f 0 (a.1.add { newStm L σ b with kind:=2,vals:=a.2 }) ⟨b.proc,a.1.sts.length,false⟩).bind fun c =>
      if c.1.p.sees L ⟨#[101,108,115,101]⟩ then (blocksQ L f 0 (c.1.setp c.1.p.step) ⟨b.proc,a.1.sts.length,true⟩).map fun d=>(d.1,0) else some (c.1,0)
def blockQ (L:List Tk) (f:Nat) (σ:QSt) (b:Blk):Option (QSt × Nat):=blocksQ L f 0 σ b
def stmtsQ (L:List Tk) (f:Nat) (σ:QSt) (b:Blk):Option (QSt × Nat):=blocksQ L f 1 σ b
def statementQ (L:List Tk) (f:Nat) (σ:QSt) (b:Blk):Option (QSt × Nat):=blocksQ L f 2 σ b
def branchQ (L:List Tk) (f:Nat) (σ:QSt) (b:Blk):Option (QSt × Nat):=blocksQ L f 3 σ b
def loopQ (L:List Tk) (f:Nat) (σ:QSt) (b:Blk):Option (QSt × Nat):=(condQ L f (σ.setp (σ.p.take L ⟨#[119,104,105,108,101]⟩)) []).bind fun a=>(blockQ L f (a.1.add { newStm L σ b with kind:=3,vals:=a.2 }) ⟨b.proc,a.1.sts.length,false⟩).map fun c=>(c.1,0)
theorem blockQ_zero (L:List Tk) (σ:QSt) (b:Blk):blockQ L 0 σ b = none:=rfl
theorem stmtsQ_zero (L:List Tk) (σ:QSt) (b:Blk):stmtsQ L 0 σ b = none:=rfl
theorem statementQ_zero (L:List Tk) (σ:QSt) (b:Blk):statementQ L 0 σ b = none:=rfl
theorem branchQ_zero (L:List Tk) (σ:QSt) (b:Blk):branchQ L 0 σ b = none:=rfl
theorem blockQ_succ (L:List Tk) (f:Nat) (σ:QSt) (b:Blk):blockQ L (f + 1) σ b = (stmtsQ L f (σ.setp (enterP L σ.p ⟨#[123]⟩)) b).map fun τ=>(τ.1.setp (leaveP L τ.1.p ⟨#[125]⟩),(τ.1.p.ahead L 0).p):=rfl
theorem stmtsQ_succ (L:List Tk) (f:Nat) (σ:QSt) (b:Blk):stmtsQ L (f + 1) σ b = if σ.p.failed = false∧σ.p.sees L ⟨#[125]⟩ = false then (statementQ L f σ b).bind fun τ=>stmtsQ L f τ.1 b else some (σ,0):=rfl
theorem statementQ_succ (L:List Tk) (f:Nat) (σ:QSt) (b:Blk):statementQ L (f + 1) σ b =
    if (σ.p.ahead L 0).t = ⟨#[105,102]⟩ then branchQ L f σ b
    else if (σ.p.ahead L 0).t = ⟨#[119,104,105,108,101]⟩ then loopQ L f σ b
    else if (σ.p.ahead L 0).t = ⟨#[97,115,115,117,109,101]⟩ then (assumeQ L f σ (newStm L σ b)).map fun c=>(c,0)
    else if (σ.p.ahead L 0).t = ⟨#[97,99,113,117,105,114,101]⟩ then some (lockUseQ L σ { newStm L σ b with kind:=5 } (σ.p.ahead L 0).t,0)
    else if (σ.p.ahead L 0).t = ⟨#[114,101,108,101,97,115,101]⟩ then some (lockUseQ L σ { newStm L σ b with kind:=6 } (σ.p.ahead L 0).t,0)
    else if (σ.p.ahead L 0).t = ⟨#[114,101,116,117,114,110]⟩ then (giveBackQ L f σ (newStm L σ b)).map fun c=>(c,0)
    else if (σ.p.ahead L 0).t = ⟨#[115,107,105,112]⟩ then some (skipQ L σ (newStm L σ b),0)
    else (aocQ L f σ (newStm L σ b)).map fun c=>(c,0):=rfl
theorem branchQ_succ (L:List Tk) (f:Nat) (σ:QSt) (b:Blk):branchQ L (f + 1) σ b = (condQ L f (σ.setp (σ.p.take L ⟨#[105,102]⟩)) []).bind fun a =>
      (blockQ L f (a.1.add { newStm L σ b with kind:=2,vals:=a.2 }) ⟨b.proc,a.1.sts.length,false⟩).bind fun c =>
       if c.1.p.sees L ⟨#[101,108,115,101]⟩ then (blockQ L f (c.1.setp c.1.p.step) ⟨b.proc,a.1.sts.length,true⟩).map fun d=>(d.1,0) else some (c.1,0):=rfl
def procedureQ (L:List Tk) (f:Nat) (σ:QSt):Option QSt :=
 let a:=σ.p.take L ⟨#[112,114,111,99]⟩
 let d:=enterP L (({ a with proc:=wrap64 (a.proc + 1) }:PSt).takeName L 2) ⟨#[40]⟩
 (if d.sees L ⟨#[41]⟩ then some d else moreP L 3 f (d.takeName L 3)).bind fun e =>
  (blockQ L f (σ.setp (leaveP L e ⟨#[41]⟩)) ⟨(leaveP L e ⟨#[41]⟩).proc,-1,false⟩).map fun r=>r.1.add ⟨9,r.2,⟨(leaveP L e ⟨#[41]⟩).proc,-1,false⟩,-1,-1,[]⟩
def procsQ (L:List Tk):Nat→QSt→Option QSt
 | 0,_=>none
 | f + 1,σ=>if σ.p.sees L ⟨#[112,114,111,99]⟩ then (procedureQ L f σ).bind (procsQ L f) else some σ
def programQ (L:List Tk) (f:Nat) (σ:QSt):Option QSt :=
 (listP L f ⟨#[115,104,97,114,101,100]⟩ 0 σ.p).bind fun a=>(listP L f ⟨#[108,111,99,107,115]⟩ 1 a).bind fun b=>(procedureQ L f (σ.setp b)).bind fun c=>(procsQ L f c).bind fun d =>
  (moreP L 7 f ((d.p.take L ⟨#[116,104,114,101,97,100,115]⟩).takeName L 7)).map fun e=>d.setp (takeEndP L (e.take L ⟨#[59]⟩))
end RR
