/- Small words that all texts use. -/
import Derived.Test.YtmfcpbhdggonfaaGreatDoorRows
import Derived.WalkKit
import Derived.WalkSpells
import Derived.WalkLawsBesides
import Derived.Laws.Strings
import Derived.Deep.QuietTactic
import Derived.BigQuiet
import Derived.Laws.AppendOwnNone
import Derived.Deep.RegionWith
import Derived.Deep.RegionHeld
namespace Go.Proofs.YtmfcpbhdggonfaaGreatDoor
open Go.RowKit
theorem ret_bool {a b:Bool} (h:a = b):Ending.returned (.bool a) = .returned (.bool b):=by rw [h]
theorem ret_int {k:IntKind} {a b:Int} (h:a = b):Ending.returned (.int k a) = .returned (.int k b):=by rw [h]
theorem hide {p:Prop} (h:p):Hid p:=h
end Go.Proofs.YtmfcpbhdggonfaaGreatDoor
namespace RR
def isLetterB (c:UInt8):Bool:=decide (97 ≤ c.toNat) && decide (c.toNat ≤ 122)
structure Tk where
 t:ByteArray
 p:Nat
theorem bl (b:ByteArray):b.toList = b.data.toList:=by
 exact Go.ByteArray.toList_eq b
theorem toList_inj {a b:ByteArray}:a.toList = b.toList ↔ a = b:=by
 rw [bl,bl]
 constructor
 ·intro h
  cases a; cases b; simp_all
 ·intro h; rw [h]
theorem seq_comm (a b:ByteArray):(a.toList == b.toList) = decide (a = b):=by
 rw [Bool.eq_iff_iff]; simp [toList_inj]
def kws:List ByteArray:=[⟨#[115,104,97,114,101,100]⟩,⟨#[108,111,99,107,115]⟩,⟨#[112,114,111,99]⟩,⟨#[116,104,114,101,97,100,115]⟩,⟨#[105,102]⟩,⟨#[101,108,115,101]⟩,⟨#[119,104,105,108,101]⟩,⟨#[97,115,115,117,109,101]⟩,⟨#[97,99,113,117,105,114,101]⟩,⟨#[114,101,108,101,97,115,101]⟩,⟨#[114,101,116,117,114,110]⟩,⟨#[115,107,105,112]⟩,⟨#[116,114,117,101]⟩,⟨#[102,97,108,115,101]⟩]
def memB (l:List ByteArray) (t:ByteArray):Bool:=l.any fun x=>decide (x = t)
def isNameB (t:ByteArray):Bool:=(match t.toList with | []=>false | c :: _=>isLetterB c) && !(memB kws t)
theorem len_toList (t:ByteArray):t.toList.length = t.size:=by rw [bl]; rfl
theorem empty_of {t:ByteArray} (h:t.size = 0):t.toList = []:=List.length_eq_zero_iff.1 ((len_toList t).trans h)
theorem cons_list (l:List UInt8) (h:0 < l.length):l = l[0] :: l.tail:=by
 cases l with
 | nil=>exact absurd h (by decide)
 | cons c r=>rfl
theorem cons_of {t:ByteArray} (h:0 < t.size):t.toList = t[0] :: t.toList.tail:=by
 rw [bl]; exact cons_list _ h
theorem isName_empty {t:ByteArray} (h:t.size = 0):isNameB t = false:=by unfold isNameB; rw [empty_of h]; rfl
theorem isName_pos {t:ByteArray} (h:0 < t.size):isNameB t = (isLetterB t[0] && !(memB kws t)):=by
 unfold isNameB; rw [cons_of h]
def tk (L:List Tk) (i:Nat):Tk:=L[i]?.getD ⟨⟨#[]⟩,0⟩
theorem tk_eq {L:List Tk} {i:Nat} (h:i < L.length):tk L i = L[i]:=by unfold tk; rw [List.getElem?_eq_getElem h]; rfl
def isB (L:List Tk) (i:Int) (t:ByteArray):Bool:=decide (0 ≤ i) && decide (i < L.length) && decide ((tk L i.toNat).t = t)
theorem isB_in {L:List Tk} {k:Nat} (h:k < L.length) (t:ByteArray):isB L k t = (L[k].t.toList == t.toList):=by
 unfold isB
 rw [seq_comm,decide_eq_true (by omega),decide_eq_true (by omega),Int.toNat_natCast,tk_eq h]
 rfl
theorem isB_out {L:List Tk} {i:Int} (h:i < 0 ∨ (L.length:Int) ≤ i) (t:ByteArray):isB L i t = false:=by
 unfold isB
 rcases h with h | h
 ·rw [decide_eq_false (by omega)]; rfl
 ·rw [decide_eq_false (p:=i < L.length) (by omega),Bool.and_false]; rfl
def kProc:ByteArray:=⟨#[112,114,111,99]⟩
def homeB (L:List Tk):Nat→Nat
 | 0=>0
 | k + 1=>if isB L k kProc then k + 1 else homeB L k
def namesG (L:List Tk):Nat→List Nat
 | 0=>[]
 | 1=>if isNameB (tk L (L.length - 1)).t then [L.length - 1] else []
 | d + 2=>if isNameB (tk L (L.length - (d + 2))).t then (L.length - (d + 2)) :: (if isB L (L.length - (d + 2) + 1:Nat) ⟨#[44]⟩ then namesG L d else []) else []
def namesF (L:List Tk) (k:Nat):List Nat:=namesG L (L.length - k)
def mateF (L:List Tk) (st:Int) (d:Int):Nat→Int→Int→Int
 | 0,_,_=>d
 | f + 1,k,n =>
  if 0 ≤ k∧k < L.length then
   let t:=(tk L k.toNat).t
   let n1:=if t = ⟨#[40]⟩ ∨ t = ⟨#[123]⟩ then n + 1 else n
   let n2:=if t = ⟨#[41]⟩ ∨ t = ⟨#[125]⟩ then n1 - 1 else n1
   if n2 = 0 then k else mateF L st d f (k + st) n2
  else d
def wordG (L:List Tk) (t:ByteArray):Nat→List Nat
 | 0=>[]
 | d + 1=>if isB L (L.length - (d + 1):Nat) t then namesF L (L.length - (d + 1) + 1) else wordG L t d
def wordF (L:List Tk) (t:ByteArray) (k:Nat):List Nat:=wordG L t (L.length - k)
def procsG (L:List Tk):Nat→List Nat
 | 0=>[]
 | d + 1=>if isB L (L.length - (d + 1):Nat) ⟨#[112,114,111,99]⟩ then (L.length - (d + 1) + 1) :: procsG L d else procsG L d
def procsF (L:List Tk) (k:Nat):List Nat:=procsG L (L.length - k)
def wordB (L:List Tk) (t:ByteArray):List Nat:=wordF L t 0
def procsB (L:List Tk):List Nat:=procsF L 0
def paramsB (L:List Tk) (i:Nat):List Nat:=namesF L (i + 2)
def valuesF (L:List Tk) (e:Int):Nat→Nat→Int→Int→Int
 | 0,_,_,n=>n
 | f + 1,k,op,n =>
  if (k:Int) < e then
   let op1:=if isB L k ⟨#[40]⟩ then op + 1 else op
   let op2:=if isB L k ⟨#[41]⟩ then op1 - 1 else op1
   let n1:=if isB L k ⟨#[44]⟩ && decide (op2 = 1) then n + 1 else n
   valuesF L e f (k + 1) op2 n1
  else n
def mateB (L:List Tk) (i:Nat):Int:=mateF L (if isB L i ⟨#[41]⟩ || isB L i ⟨#[125]⟩ then -1 else 1) i (L.length + 1) i 0
def valuesB (L:List Tk) (i:Nat):Int:=if mateB L i = i + 1 then 0 else valuesF L (mateB L i) (L.length + 1) i 0 1
end RR
/- More plain functions: the checks on names. No Go here. -/
namespace RR
end RR
/- More plain functions: is a name given,is it right. No Go here. -/
namespace RR
end RR
/- More plain functions: the reference's check as a whole. No Go here. -/
namespace RR
end RR
namespace Go.Proofs.YtmfcpbhdggonfaaGreatDoor
open Go.RowKit RR
end Go.Proofs.YtmfcpbhdggonfaaGreatDoor
namespace Go.Proofs.YtmfcpbhdggonfaaGreatDoor
open Go.RowKit RR
def ToksAt (w:World) (b o:Nat) (L:List Tk):Prop :=
 b < w.heap.size∧∀ i,(h:i < L.length)→w.cell? ⟨b,o + i * 2,none⟩ = some (.string L[i].t)∧w.cell? ⟨b,o + i * 2 + 1,none⟩ = some (.int .i64 L[i].p)
theorem ToksAt.below {w w':World} {b o:Nat} {L:List Tk} (h:ToksAt w b o L) (hb:Below w.heap.size w w'):ToksAt w' b o L :=
 ⟨Nat.lt_of_lt_of_le h.1 hb.size,fun i hi=>⟨(hb.cell (p:=⟨b,o + i * 2,none⟩) h.1).trans (h.2 i hi).1,(hb.cell (p:=⟨b,o + i * 2 + 1,none⟩) h.1).trans (h.2 i hi).2⟩⟩
theorem below_drewN (B:Nat) (w:World) (n:Nat):Below B w (w.drewN n):=⟨rfl,rfl,rfl,Nat.le_refl _,fun _ _=>rfl⟩
def IntSl (w:World) (ao:Option Addr) (cap:Nat) (l:List Nat):Prop:=(ao = none→cap = 0)∧l.length ≤ cap∧∀ i,(h:i < l.length)→∃ b o,b < w.heap.size∧ao = some ⟨b,o,none⟩∧w.cell? ⟨b,o + i,none⟩ = some (.int .i64 l[i])
theorem IntSl.below {w w':World} {ao:Option Addr} {cap:Nat} {l:List Nat} (h:IntSl w ao cap l) (hb:Below w.heap.size w w'):IntSl w' ao cap l:=⟨h.1,h.2.1,fun i hi=>by
 obtain ⟨b,o,h1,h2,h3⟩:=h.2.2 i hi
 exact ⟨b,o,Nat.lt_of_lt_of_le h1 hb.size,h2,(hb.cell (p:=⟨b,o + i,none⟩) h1).trans h3⟩⟩
end Go.Proofs.YtmfcpbhdggonfaaGreatDoor
namespace Go.Proofs.YtmfcpbhdggonfaaGreatDoor
open Go.RowKit RR
theorem bx {w wr:World} {T:TypeId} {v:Value} (hb:Below (w.heap.size + 1) (w.alloc (.cells #[v] T)) wr):wr.cell? ⟨w.heap.size,0,none⟩ = some v∧w.heap.size < wr.heap.size∧Below w.heap.size w wr:=by
 have h1:(w.alloc (.cells #[v] T)).cell? ⟨w.heap.size,0,none⟩ = some v:=by simp
 have h2:=hb.size
 refine ⟨(hb.cell (p:=⟨w.heap.size,0,none⟩) (Nat.lt_succ_self _)).trans h1,?_,((Below.refl _ _).alloc (Nat.le_refl _) _).trans (hb.mono (Nat.le_succ _))⟩
 simp at h2; omega
theorem Tryz.infoInt:(Tryz.prog.info? 3).map (fun i=>(i.zero,i.size,i.bytes)) = some (some (.int .i64 0),1,8):=by kernel_rfl
theorem owns_below {w w':World} {base:Nat} {e:TypeId} {size:Nat} {v:Value} {n:Nat} {xs:List Value} (h:w.ownsRow base e size v n xs) (hb:Below w.heap.size w w'):w'.ownsRow base e size v n xs:=by
 refine ⟨h.1,?_⟩
 rcases h.2 with h2 | ⟨g,cap,cur,hv,hg,hh,r⟩
 ·exact .inl h2
 ·exact .inr ⟨g,cap,cur,hv,hg,by rw [hb.block g (Array.getElem?_eq_some_iff.1 hh).1]; exact hh,r⟩
theorem int_one {k:Int}:∀ u ∈ [Value.int .i64 k],u.oneCell' = true:=by intro u hu; simp at hu; subst hu; rfl
end Go.Proofs.YtmfcpbhdggonfaaGreatDoor
namespace Go.Proofs.YtmfcpbhdggonfaaGreatDoor
open Go.RowKit RR
theorem addr_add (b o j:Nat):(⟨b,o,none⟩:Addr).add j = ⟨b,o + j,none⟩:=by
 unfold Addr.add
 by_cases h:j = 0
 ·rw [if_pos h,h]; rfl
 ·rw [if_neg h]
theorem lit_eq (t:ByteArray) (c:ByteArray) (l:List UInt8) (h:c.toList = l):(t.toList == l) = decide (t = c):=by rw [← h,seq_comm]
theorem l40:(⟨#[40]⟩:ByteArray).toList = [40]:=by rw [bl]
theorem l41:(⟨#[41]⟩:ByteArray).toList = [41]:=by rw [bl]
theorem l123:(⟨#[123]⟩:ByteArray).toList = [123]:=by rw [bl]
theorem l125:(⟨#[125]⟩:ByteArray).toList = [125]:=by rw [bl]
theorem mate_step {L:List Tk} {st d:Int} {f k:Nat} {n:Int} (h:k < L.length):∃ δ:Int,-1 ≤ δ∧δ ≤ 1∧mateF L st d (f + 1) k n = (if n + δ = 0 then (k:Int) else mateF L st d f (k + st) (n + δ)) ∧
    (((L[k].t.toList == [40]) = true∧(L[k].t.toList == [41]) = false∧(L[k].t.toList == [125]) = false∧δ = 1) ∨ ((L[k].t.toList == [40]) = false∧(L[k].t.toList == [123]) = true∧(L[k].t.toList == [41]) = false∧(L[k].t.toList == [125]) = false∧δ = 1) ∨
     ((L[k].t.toList == [40]) = false∧(L[k].t.toList == [123]) = false∧(L[k].t.toList == [41]) = true∧δ = -1) ∨ ((L[k].t.toList == [40]) = false∧(L[k].t.toList == [123]) = false∧(L[k].t.toList == [41]) = false∧(L[k].t.toList == [125]) = true∧δ = -1) ∨
     ((L[k].t.toList == [40]) = false∧(L[k].t.toList == [123]) = false∧(L[k].t.toList == [41]) = false∧(L[k].t.toList == [125]) = false∧δ = 0)):=by
 have e:mateF L st d (f + 1) k n = (let n1:=if L[k].t = ⟨#[40]⟩ ∨ L[k].t = ⟨#[123]⟩ then n + 1 else n
     let n2:=if L[k].t = ⟨#[41]⟩ ∨ L[k].t = ⟨#[125]⟩ then n1 - 1 else n1
     if n2 = 0 then (k:Int) else mateF L st d f (k + st) n2):=by
  rw [mateF,if_pos ⟨by omega,by omega⟩,Int.toNat_natCast,tk_eq h]
 rw [e,lit_eq _ _ _ l40,lit_eq _ _ _ l41,lit_eq _ _ _ l123,lit_eq _ _ _ l125]
 generalize L[k].t = t
 by_cases a1:t = ⟨#[40]⟩
 ·subst a1
  exact ⟨1,by omega,by omega,by rfl,.inl ⟨by decide,by decide,by decide,rfl⟩⟩
 by_cases a2:t = ⟨#[123]⟩
 ·subst a2
  exact ⟨1,by omega,by omega,by rfl,.inr (.inl ⟨by decide,by decide,by decide,by decide,rfl⟩)⟩
 by_cases a3:t = ⟨#[41]⟩
 ·subst a3
  exact ⟨-1,by omega,by omega,by rfl,.inr (.inr (.inl ⟨by decide,by decide,by decide,rfl⟩))⟩
 by_cases a4:t = ⟨#[125]⟩
 ·subst a4
  exact ⟨-1,by omega,by omega,by rfl,.inr (.inr (.inr (.inl ⟨by decide,by decide,by decide,by decide,rfl⟩)))⟩
 refine ⟨0,by omega,by omega,?_,.inr (.inr (.inr (.inr ⟨decide_eq_false a1,decide_eq_false a2,decide_eq_false a3,decide_eq_false a4,rfl⟩)))⟩
 simp only [a1,a2,a3,a4,or_self,if_false,Int.add_zero]
end Go.Proofs.YtmfcpbhdggonfaaGreatDoor
namespace Go.Proofs.YtmfcpbhdggonfaaGreatDoor
open Go.RowKit RR
theorem keep2 {wr W w1:World} {a c:Addr} {x y:Value} (ha:a.block < wr.heap.size) (hc:c.block < wr.heap.size) (h:W.cell? a = some x∧W.cell? c = some y∧Below wr.heap.size wr W) (hb:Below W.heap.size W w1):w1.cell? a = some x∧w1.cell? c = some y∧Below wr.heap.size wr w1 :=
 ⟨(hb.cell (Nat.lt_of_lt_of_le ha h.2.2.size)).trans h.1,(hb.cell (Nat.lt_of_lt_of_le hc h.2.2.size)).trans h.2.1,h.2.2.trans (hb.mono h.2.2.size)⟩
end Go.Proofs.YtmfcpbhdggonfaaGreatDoor
namespace RR
structure Nm where
 word:ByteArray
 at_:Nat
 role:Nat
 proc:Int
structure Cl where
 word:ByteArray
 at_:Nat
 values:Nat
def isWholeB (r:Nat):Bool:=decide (r = 0) || decide (r = 1) || decide (r = 2)
def isGivenB (ns:List Nm) (word:ByteArray) (role:Nat):Bool:=ns.any fun n=>decide (n.role = role) && decide (n.word = word)
def isParamB (ns:List Nm) (word:ByteArray) (proc:Int):Bool:=ns.any fun n=>decide (n.role = 3) && decide (n.proc = proc) && decide (n.word = word)
theorem any_snoc {α:Type} (p:α→Bool) (l:List α) (k:Nat) (h:k < l.length):(l.take (k + 1)).any p = ((l.take k).any p || p l[k]):=by
 rw [List.take_succ_eq_append_getElem h,List.any_append]; simp
theorem any_get {α:Type} (p:α→Bool) (l:List α) (k:Nat) (h:k < l.length) (e:p l[k] = true):l.any p = true :=
 List.any_eq_true.2 ⟨l[k],List.getElem_mem _,e⟩
def misusedB (ns:List Nm) (n:Nm):Bool :=
 if n.role = 4 then !isGivenB ns n.word 0 && !isParamB ns n.word n.proc
 else if n.role = 5 then !isGivenB ns n.word 1
 else if n.role = 6 ∨ n.role = 7 then !isGivenB ns n.word 2
 else false
def clashB (i:Nat) (n:Nm) (j:Nat) (m:Nm):Bool :=
 decide (m.word = n.word) && ((isWholeB n.role && isWholeB m.role && decide (j < i)) || (decide (n.role = 3) && isWholeB m.role) || (decide (n.role = 3) && decide (m.role = 3) && decide (m.proc = n.proc) && decide (j < i)))
def nmAt (ns:List Nm) (k:Nat):Nm:=ns[k]?.getD ⟨⟨#[]⟩,0,0,0⟩
theorem nmAt_eq {ns:List Nm} {k:Nat} (h:k < ns.length):nmAt ns k = ns[k]:=by unfold nmAt; rw [List.getElem?_eq_getElem h]; rfl
def clashG (ns:List Nm) (i:Nat) (n:Nm):Nat→Bool
 | 0=>false
 | d + 1=>clashB i n (ns.length - (d + 1)) (nmAt ns (ns.length - (d + 1))) || clashG ns i n d
def clashF (ns:List Nm) (i:Nat) (n:Nm) (j:Nat):Bool:=clashG ns i n (ns.length - j)
theorem clashF_eq (ns:List Nm) (i:Nat) (n:Nm) (j:Nat):clashF ns i n j = if h:j < ns.length then clashB i n j ns[j] || clashF ns i n (j + 1) else false:=by
 unfold clashF
 by_cases hk:j < ns.length
 ·have e:ns.length - j = (ns.length - (j + 1)) + 1:=by omega
  have e2:ns.length - ((ns.length - (j + 1)) + 1) = j:=by omega
  rw [dif_pos hk,e,clashG,e2,nmAt_eq hk]
 ·rw [dif_neg hk,show ns.length - j = 0 by omega]; rfl
theorem clashF_out {ns:List Nm} {i:Nat} {n:Nm} {j:Nat} (h:¬ j < ns.length):clashF ns i n j = false:=by rw [clashF_eq,dif_neg h]
theorem clashF_yes {ns:List Nm} {i:Nat} {n:Nm} {j:Nat} (h:j < ns.length) (e:clashB i n j ns[j] = true):clashF ns i n j = true:=by rw [clashF_eq,dif_pos h,e]; rfl
theorem clashF_no {ns:List Nm} {i:Nat} {n:Nm} {j:Nat} (h:j < ns.length) (e:clashB i n j ns[j] = false):clashF ns i n j = clashF ns i n (j + 1):=by rw [clashF_eq,dif_pos h,e]; rfl
def firstG (p:Nat→Nm→Bool) (ns:List Nm):Nat→Option Nat
 | 0=>none
 | d + 1=>if p (ns.length - (d + 1)) (nmAt ns (ns.length - (d + 1))) then some (nmAt ns (ns.length - (d + 1))).at_ else firstG p ns d
def firstF (p:Nat→Nm→Bool) (ns:List Nm) (k:Nat):Option Nat:=firstG p ns (ns.length - k)
theorem firstF_eq (p:Nat→Nm→Bool) (ns:List Nm) (k:Nat):firstF p ns k = if h:k < ns.length then if p k ns[k] then some ns[k].at_ else firstF p ns (k + 1) else none:=by
 unfold firstF
 by_cases hk:k < ns.length
 ·have e:ns.length - k = (ns.length - (k + 1)) + 1:=by omega
  have e2:ns.length - ((ns.length - (k + 1)) + 1) = k:=by omega
  rw [dif_pos hk,e,firstG,e2,nmAt_eq hk]
 ·rw [dif_neg hk,show ns.length - k = 0 by omega]; rfl
theorem firstF_out {p:Nat→Nm→Bool} {ns:List Nm} {k:Nat} (h:¬ k < ns.length):firstF p ns k = none:=by rw [firstF_eq,dif_neg h]
theorem firstF_yes {p:Nat→Nm→Bool} {ns:List Nm} {k:Nat} (h:k < ns.length) (e:p k ns[k] = true):firstF p ns k = some ns[k].at_:=by rw [firstF_eq,dif_pos h,if_pos e]
theorem firstF_no {p:Nat→Nm→Bool} {ns:List Nm} {k:Nat} (h:k < ns.length) (e:p k ns[k] = false):firstF p ns k = firstF p ns (k + 1):=by rw [firstF_eq,dif_pos h,e]; rfl
def twiceP (ns:List Nm):Option Nat:=firstF (fun i n=>clashF ns i n 0) ns 0
def misP (ns:List Nm):Option Nat:=firstF (fun _ n=>misusedB ns n) ns 0
end RR
/- The checks on names as the program makes them,more: too many,calls. No Go here. -/
namespace RR
def pstep (word:ByteArray) (pc:Int × Nat) (n:Nm):Int × Nat :=
 let p:=if n.role = 2∧n.word = word then n.proc else pc.1
 (p,if n.role = 3∧n.proc = p then pc.2 + 1 else pc.2)
def paramsP (ns:List Nm) (word:ByteArray):Nat:=(ns.foldl (pstep word) (-1,0)).2
theorem foldl_snoc {α β:Type} (f:β→α→β) (b:β) (l:List α) (k:Nat) (h:k < l.length):(l.take (k + 1)).foldl f b = f ((l.take k).foldl f b) l[k]:=by
 rw [List.take_succ_eq_append_getElem h,List.foldl_append]; rfl
structure Cts where
 sh:Nat
 lo:Nat
 pr:Nat
 pa:Nat
 th:Nat
def Cts.add (c:Cts) (r:Nat):Cts :=
 if r = 0 then { c with sh:=c.sh + 1 } else if r = 1 then { c with lo:=c.lo + 1 } else if r = 2 then { c with pr:=c.pr + 1,pa:=0 } else if r = 3 then { c with pa:=c.pa + 1 } else if r = 7 then { c with th:=c.th + 1 } else c
def Cts.too (c:Cts):Bool:=decide (4 < c.sh) || decide (3 < c.lo) || decide (4 < c.pr) || decide (3 < c.pa) || decide (3 < c.th)
def manyF2 (ns:List Nm) (c:Cts):Option Nat :=
 match ns with
 | []=>none
 | n :: r=>if (c.add n.role).too then some n.at_ else manyF2 r (c.add n.role)
def manyP (ns:List Nm):Option Nat:=manyF2 ns ⟨0,0,0,0,0⟩
def wrongP (ns:List Nm):List Cl→Option Nat
 | []=>none
 | c :: r=>if c.values ≠ paramsP ns c.word then some c.at_ else wrongP ns r
def outCheck (ns:List Nm) (cs:List Cl):Int × Int :=
 match manyP ns with
 | some p=>(4,p)
 | none=>match twiceP ns with
  | some p=>(5,p)
  | none=>match misP ns with
   | some p=>(5,p)
   | none=>match wrongP ns cs with
    | some p=>(6,p)
    | none=>(0,0)
end RR
namespace Go.Proofs.YtmfcpbhdggonfaaGreatDoor
open Go.RowKit RR
def NmSl (w:World) (ao:Option Addr) (l:List Nm):Prop:=∀ i,(h:i < l.length)→∃ b o,b < w.heap.size∧ao = some ⟨b,o,none⟩∧w.cell? ⟨b,o + i * 4,none⟩ = some (.string l[i].word)∧w.cell? ⟨b,o + i * 4 + 1,none⟩ = some (.int .i64 l[i].at_)∧w.cell? ⟨b,o + i * 4 + 2,none⟩ = some (.int .i64 l[i].role)∧w.cell? ⟨b,o + i * 4 + 3,none⟩ = some (.int .i64 l[i].proc)
theorem NmSl.below {w w':World} {ao:Option Addr} {l:List Nm} (h:NmSl w ao l) (hb:Below w.heap.size w w'):NmSl w' ao l:=fun i hi=>by
 obtain ⟨b,o,h1,h2,h3,h4,h5,h6⟩:=h i hi
 exact ⟨b,o,Nat.lt_of_lt_of_le h1 hb.size,h2,(hb.cell (p:=⟨b,o + i * 4,none⟩) h1).trans h3,(hb.cell (p:=⟨b,o + i * 4 + 1,none⟩) h1).trans h4,(hb.cell (p:=⟨b,o + i * 4 + 2,none⟩) h1).trans h5,(hb.cell (p:=⟨b,o + i * 4 + 3,none⟩) h1).trans h6⟩
set_option maxHeartbeats 400000 in
theorem c_isWhole (r:Nat) (w:World) :
    Calls Tryz.prog 208 #[.int .i64 r] w fun e w'=>e = .returned (.bool (isWholeB r))∧w' = w:=by
 have H:∀ a b c:Bool,((r:Int) == 0) = a→((r:Int) == 1) = b→((r:Int) == 2) = c→isWholeB r = (a || b || c):=by
  intro a b c ha hb hc
  subst ha; subst hb; subst hc
  unfold isWholeB
  rw [Bool.eq_iff_iff]; simp; omega
 cases h0:((r:Int) == 0)
 ·cases h1:((r:Int) == 1)
  ·cases h2:((r:Int) == 2)
   all_goals
    have HE:=hide (H _ _ _ h0 h1 h2)
    clear H
    go_enter Tryz.func208,Tryz.ntmps208
    go_wp2
    go_ret
    exact ⟨ret_bool (by rw [HE.out]; rfl),rfl⟩
  ·have HE:=hide (H _ _ _ h0 h1 rfl)
   clear H
   go_enter Tryz.func208,Tryz.ntmps208
   go_wp2
   go_ret
   exact ⟨ret_bool (by rw [HE.out]; rfl),rfl⟩
 ·have HE:=hide (H _ _ _ h0 rfl rfl)
  clear H
  go_enter Tryz.func208,Tryz.ntmps208
  go_wp2
  go_ret
  exact ⟨ret_bool (by rw [HE.out]; rfl),rfl⟩
set_option maxRecDepth 100000 in
set_option maxHeartbeats 1000000 in
theorem c_isGiven (ao:Option Addr) (cap:Nat) (l:List Nm) (t:ByteArray) (r:Nat) (w:World) (hl:l.length ≤ 1000) (hi:NmSl w ao l) :
    Calls Tryz.prog 209 #[.slice ao l.length cap,.string t,.int .i64 r] w fun e w'=>e = .returned (.bool (isGivenB l t r))∧Below w.heap.size w w':=by
 go_enter Tryz.func209,Tryz.ntmps209
 go_wp2
 go_loopw [11] (fun u wr=>∃ k:Nat,u = .int .i64 k∧k ≤ l.length∧isGivenB (l.take k) t r = false∧Below w.heap.size w wr) (fun u _=>l.length - (intOf u).toNat)
 case atStart=>exact ⟨0,rfl,Nat.zero_le _,rfl,Below.refl _ _⟩
 case round =>
  obtain ⟨k,rfl,hk,hn,hbel⟩:=hrel
  by_cases hlt:k < l.length
  ·obtain ⟨b,o,hb,hao,c1,c2,c3,c4⟩:=(hi.below hbel) k hlt
   subst hao
   have HS:Hid (isGivenB (l.take (k + 1)) t r = (isGivenB (l.take k) t r || (decide (l[k].role = r) && decide (l[k].word = t)))):=any_snoc _ l k hlt
   have HN:=hide hn
   clear hn
   by_cases hr:(l[k].role:Int) = r
   ·have hr':((l[k].role:Int) == r) = true:=beq_iff_eq.2 hr
    have HR:Hid (l[k].role = r):=by show _ = _; omega
    cases hw:(l[k].word.toList == t.toList)
    ·have HW:Hid (¬ l[k].word = t):=fun e=>by rw [e] at hw; simp at hw
     clear hr
     go_wp2
     go_roundw
     case rel=>exact ⟨k + 1,by go_num,by omega,by rw [HS.out,HN.out,decide_eq_false HW.out,Bool.and_false]; rfl,hbel.alloc hbel.size _⟩
     case measure=>simp [intOf]; omega
    ·have HW:Hid (l[k].word = t):=toList_inj.1 (by simpa using hw)
     clear hr
     go_wp2
     go_ret
     exact ⟨ret_bool (any_get _ l k hlt (by show (decide _ && decide _) = true; rw [decide_eq_true HR.out,decide_eq_true HW.out]; rfl)).symm,hbel.alloc hbel.size _⟩
   ·have hr':((l[k].role:Int) == r) = false:=beq_eq_false_iff_ne.2 hr
    have HR:Hid (¬ l[k].role = r):=fun e=>hr (by omega)
    clear hr
    go_wp2
    go_roundw
    case rel=>exact ⟨k + 1,by go_num,by omega,by rw [HS.out,HN.out,decide_eq_false HR.out]; rfl,hbel.alloc hbel.size _⟩
    case measure=>simp [intOf]; omega
  ·go_wp2
   go_ret
   exact ⟨ret_bool (by rw [← hn,List.take_of_length_le (by omega)]),hbel⟩
set_option maxRecDepth 100000 in
set_option maxHeartbeats 1000000 in
theorem c_isParam (ao:Option Addr) (cap:Nat) (l:List Nm) (t:ByteArray) (r:Int) (w:World) (hl:l.length ≤ 1000) (hi:NmSl w ao l) :
    Calls Tryz.prog 210 #[.slice ao l.length cap,.string t,.int .i64 r] w fun e w'=>e = .returned (.bool (isParamB l t r))∧Below w.heap.size w w':=by
 go_enter Tryz.func210,Tryz.ntmps210
 go_wp2
 go_loopw [11] (fun u wr=>∃ k:Nat,u = .int .i64 k∧k ≤ l.length∧isParamB (l.take k) t r = false∧Below w.heap.size w wr) (fun u _=>l.length - (intOf u).toNat)
 case atStart=>exact ⟨0,rfl,Nat.zero_le _,rfl,Below.refl _ _⟩
 case round =>
  obtain ⟨k,rfl,hk,hn,hbel⟩:=hrel
  by_cases hlt:k < l.length
  ·obtain ⟨b,o,hb,hao,c1,c2,c3,c4⟩:=(hi.below hbel) k hlt
   subst hao
   have HS:Hid (isParamB (l.take (k + 1)) t r = (isParamB (l.take k) t r || (decide (l[k].role = 3) && decide (l[k].proc = r) && decide (l[k].word = t)))):=any_snoc _ l k hlt
   have HN:=hide hn
   clear hn
   by_cases hr:(l[k].role:Int) = 3
   ·have hr':((l[k].role:Int) == 3) = true:=beq_iff_eq.2 hr
    have HR:Hid (l[k].role = 3):=by show _ = _; omega
    by_cases hq:l[k].proc = r
    ·have hq':(l[k].proc == r) = true:=beq_iff_eq.2 hq
     have HQ:=hide hq
     cases hw:(l[k].word.toList == t.toList)
     ·have HW:Hid (¬ l[k].word = t):=fun e=>by rw [e] at hw; simp at hw
      clear hr hq
      go_wp2
      go_roundw
      case rel=>exact ⟨k + 1,by go_num,by omega,by rw [HS.out,HN.out,decide_eq_false HW.out,Bool.and_false]; rfl,hbel.alloc hbel.size _⟩
      case measure=>simp [intOf]; omega
     ·have HW:Hid (l[k].word = t):=toList_inj.1 (by simpa using hw)
      clear hr hq
      go_wp2
      go_ret
      exact ⟨ret_bool (any_get _ l k hlt (by show (decide _ && decide _ && decide _) = true; rw [decide_eq_true HR.out,decide_eq_true HQ.out,decide_eq_true HW.out]; rfl)).symm,hbel.alloc hbel.size _⟩
    ·have hq':(l[k].proc == r) = false:=beq_eq_false_iff_ne.2 hq
     have HQ:=hide hq
     clear hr hq
     go_wp2
     go_roundw
     case rel=>exact ⟨k + 1,by go_num,by omega,by rw [HS.out,HN.out,decide_eq_false HQ.out,Bool.and_false]; rfl,hbel.alloc hbel.size _⟩
     case measure=>simp [intOf]; omega
   ·have hr':((l[k].role:Int) == 3) = false:=beq_eq_false_iff_ne.2 hr
    have HR:Hid (¬ l[k].role = 3):=fun e=>hr (by omega)
    clear hr
    go_wp2
    go_roundw
    case rel=>exact ⟨k + 1,by go_num,by omega,by rw [HS.out,HN.out,decide_eq_false HR.out]; rfl,hbel.alloc hbel.size _⟩
    case measure=>simp [intOf]; omega
  ·go_wp2
   go_ret
   exact ⟨ret_bool (by rw [← hn,List.take_of_length_le (by omega)]),hbel⟩
end Go.Proofs.YtmfcpbhdggonfaaGreatDoor
namespace Go.Proofs.YtmfcpbhdggonfaaGreatDoor
open Go.RowKit RR
theorem nb {w wr:World} {T:TypeId} {x0 x1 x2 x3:Value} (hb:Below (w.heap.size + 1) (w.alloc (.cells #[x0,x1,x2,x3] T)) wr):wr.cell? ⟨w.heap.size,0,none⟩ = some x0∧wr.cell? ⟨w.heap.size,1,none⟩ = some x1∧wr.cell? ⟨w.heap.size,2,none⟩ = some x2∧wr.cell? ⟨w.heap.size,3,none⟩ = some x3∧w.heap.size < wr.heap.size∧Below w.heap.size w wr:=by
 have h2:=hb.size
 refine ⟨(hb.cell (p:=⟨w.heap.size,0,none⟩) (Nat.lt_succ_self _)).trans (by simp),(hb.cell (p:=⟨w.heap.size,1,none⟩) (Nat.lt_succ_self _)).trans (by simp),(hb.cell (p:=⟨w.heap.size,2,none⟩) (Nat.lt_succ_self _)).trans (by simp),(hb.cell (p:=⟨w.heap.size,3,none⟩) (Nat.lt_succ_self _)).trans (by simp),?_,((Below.refl _ _).alloc (Nat.le_refl _) _).trans (hb.mono (Nat.le_succ _))⟩
 simp at h2; omega
set_option maxRecDepth 100000 in
set_option maxHeartbeats 4000000 in
theorem c_givenTwice (ao:Option Addr) (cap:Nat) (l:List Nm) (i:Nat) (n:Nm) (w:World) (hl:l.length ≤ 1000) (hi:NmSl w ao l) :
    Calls Tryz.prog 185 #[.slice ao l.length cap,.int .i64 i,(.agg #[.string n.word,.int .i64 n.at_,.int .i64 n.role,.int .i64 n.proc])] w fun e w'=>e = .returned (.bool (clashF l i n 0))∧Below w.heap.size w w':=by
 go_enter Tryz.func185,Tryz.ntmps185
 go_wp2
 go_loopw [11] (fun u wr=>∃ k:Nat,u = .int .i64 k∧k ≤ l.length∧clashF l i n k = clashF l i n 0∧Below (w.heap.size + 1) (w.alloc (.cells #[.string n.word,.int .i64 n.at_,.int .i64 n.role,.int .i64 n.proc] 186)) wr) (fun u _=>l.length - (intOf u).toNat)
 case atStart=>exact ⟨0,rfl,Nat.zero_le _,rfl,Below.refl _ _⟩
 case round =>
  obtain ⟨k,rfl,hk,hn,hbx⟩:=hrel
  have HN:=hide hn
  have HB:=hide hbx
  obtain ⟨n0,n1,n2,n3,hsz,hbel⟩:=nb hbx
  clear hn hbx
  by_cases hlt:k < l.length
  ·obtain ⟨b,o,hb,hao,c1,c2,c3,c4⟩:=(hi.below hbel) k hlt
   subst hao
   clear hbel
   by_cases eW:l[k].word = n.word
   ·have fW:(l[k].word.toList == n.word.toList) = true:=by rw [eW]; simp
    cases eA:isWholeB n.role
    ·by_cases eP:n.role = 3
     ·have fP:((n.role:Int) == 3) = true:=beq_iff_eq.2 (by omega)
      cases eB:isWholeB l[k].role
      ·by_cases eQ:l[k].role = 3
       ·have fQ:((l[k].role:Int) == 3) = true:=beq_iff_eq.2 (by omega)
        by_cases eR:l[k].proc = n.proc
        ·have fR:(l[k].proc == n.proc) = true:=beq_iff_eq.2 (by omega)
         by_cases eJ:k < i
         ·have fJ:(k:Int) < i:=by omega
          have HC:Hid (clashB i n k l[k] = true):=by show _ = _; unfold clashB; first | (rw [decide_eq_true eW,eA,decide_eq_true eP,eB,decide_eq_true eQ,decide_eq_true eR,decide_eq_true eJ]; done) | (rw [decide_eq_true eW,eA,decide_eq_true eP,eB,decide_eq_true eQ,decide_eq_true eR,decide_eq_true eJ]; rfl)
          clear eP eQ eR eW
          go_wp2_with (first | (go_at_call 208; refine (c_isWhole _ _).mono ?_; rintro e w' ⟨rfl,rfl⟩))
          go_ret
          exact ⟨ret_bool (by rw [← HN.out,clashF_yes hlt HC.out]),(nb HB.out).2.2.2.2.2.alloc (nb HB.out).2.2.2.2.2.size _⟩
         ·have fJ:i ≤ k:=by omega
          have HC:Hid (clashB i n k l[k] = false):=by show _ = _; unfold clashB; first | (rw [decide_eq_true eW,eA,decide_eq_true eP,eB,decide_eq_true eQ,decide_eq_true eR,decide_eq_false eJ]; done) | (rw [decide_eq_true eW,eA,decide_eq_true eP,eB,decide_eq_true eQ,decide_eq_true eR,decide_eq_false eJ]; rfl)
          clear eP eQ eR eW
          go_wp2_with (first | (go_at_call 208; refine (c_isWhole _ _).mono ?_; rintro e w' ⟨rfl,rfl⟩))
          go_roundw
          case rel=>exact ⟨k + 1,by go_num,by omega,by rw [← HN.out,clashF_no hlt HC.out],HB.out.alloc (nb HB.out).2.2.2.2.1 _⟩
          case measure=>simp [intOf]; omega
        ·have fR:(l[k].proc == n.proc) = false:=beq_eq_false_iff_ne.2 (by omega)
         have HC:Hid (clashB i n k l[k] = false):=by show _ = _; unfold clashB; first | (rw [decide_eq_true eW,eA,decide_eq_true eP,eB,decide_eq_true eQ,decide_eq_false eR]; done) | (rw [decide_eq_true eW,eA,decide_eq_true eP,eB,decide_eq_true eQ,decide_eq_false eR]; rfl)
         clear eP eQ eR eW
         go_wp2_with (first | (go_at_call 208; refine (c_isWhole _ _).mono ?_; rintro e w' ⟨rfl,rfl⟩))
         go_roundw
         case rel=>exact ⟨k + 1,by go_num,by omega,by rw [← HN.out,clashF_no hlt HC.out],HB.out.alloc (nb HB.out).2.2.2.2.1 _⟩
         case measure=>simp [intOf]; omega
       ·have fQ:((l[k].role:Int) == 3) = false:=beq_eq_false_iff_ne.2 (by omega)
        have HC:Hid (clashB i n k l[k] = false):=by show _ = _; unfold clashB; first | (rw [decide_eq_true eW,eA,decide_eq_true eP,eB,decide_eq_false eQ]; done) | (rw [decide_eq_true eW,eA,decide_eq_true eP,eB,decide_eq_false eQ]; rfl)
        clear eP eQ eW
        go_wp2_with (first | (go_at_call 208; refine (c_isWhole _ _).mono ?_; rintro e w' ⟨rfl,rfl⟩))
        go_roundw
        case rel=>exact ⟨k + 1,by go_num,by omega,by rw [← HN.out,clashF_no hlt HC.out],HB.out.alloc (nb HB.out).2.2.2.2.1 _⟩
        case measure=>simp [intOf]; omega
      ·have HC:Hid (clashB i n k l[k] = true):=by show _ = _; unfold clashB; first | (rw [decide_eq_true eW,eA,decide_eq_true eP,eB]; done) | (rw [decide_eq_true eW,eA,decide_eq_true eP,eB]; rfl)
       clear eP eW
       go_wp2_with (first | (go_at_call 208; refine (c_isWhole _ _).mono ?_; rintro e w' ⟨rfl,rfl⟩))
       go_ret
       exact ⟨ret_bool (by rw [← HN.out,clashF_yes hlt HC.out]),(nb HB.out).2.2.2.2.2.alloc (nb HB.out).2.2.2.2.2.size _⟩
     ·have fP:((n.role:Int) == 3) = false:=beq_eq_false_iff_ne.2 (by omega)
      have HC:Hid (clashB i n k l[k] = false):=by show _ = _; unfold clashB; first | (rw [decide_eq_true eW,eA,decide_eq_false eP]; done) | (rw [decide_eq_true eW,eA,decide_eq_false eP]; rfl)
      clear eP eW
      go_wp2_with (first | (go_at_call 208; refine (c_isWhole _ _).mono ?_; rintro e w' ⟨rfl,rfl⟩))
      go_roundw
      case rel=>exact ⟨k + 1,by go_num,by omega,by rw [← HN.out,clashF_no hlt HC.out],HB.out.alloc (nb HB.out).2.2.2.2.1 _⟩
      case measure=>simp [intOf]; omega
    ·cases eB:isWholeB l[k].role
     ·by_cases eP:n.role = 3
      ·have fP:((n.role:Int) == 3) = true:=beq_iff_eq.2 (by omega)
       by_cases eQ:l[k].role = 3
       ·have fQ:((l[k].role:Int) == 3) = true:=beq_iff_eq.2 (by omega)
        by_cases eR:l[k].proc = n.proc
        ·have fR:(l[k].proc == n.proc) = true:=beq_iff_eq.2 (by omega)
         by_cases eJ:k < i
         ·have fJ:(k:Int) < i:=by omega
          have HC:Hid (clashB i n k l[k] = true):=by show _ = _; unfold clashB; first | (rw [decide_eq_true eW,eA,eB,decide_eq_true eP,decide_eq_true eQ,decide_eq_true eR,decide_eq_true eJ]; done) | (rw [decide_eq_true eW,eA,eB,decide_eq_true eP,decide_eq_true eQ,decide_eq_true eR,decide_eq_true eJ]; rfl)
          clear eP eQ eR eW
          go_wp2_with (first | (go_at_call 208; refine (c_isWhole _ _).mono ?_; rintro e w' ⟨rfl,rfl⟩))
          go_ret
          exact ⟨ret_bool (by rw [← HN.out,clashF_yes hlt HC.out]),(nb HB.out).2.2.2.2.2.alloc (nb HB.out).2.2.2.2.2.size _⟩
         ·have fJ:i ≤ k:=by omega
          have HC:Hid (clashB i n k l[k] = false):=by show _ = _; unfold clashB; first | (rw [decide_eq_true eW,eA,eB,decide_eq_true eP,decide_eq_true eQ,decide_eq_true eR,decide_eq_false eJ]; done) | (rw [decide_eq_true eW,eA,eB,decide_eq_true eP,decide_eq_true eQ,decide_eq_true eR,decide_eq_false eJ]; rfl)
          clear eP eQ eR eW
          go_wp2_with (first | (go_at_call 208; refine (c_isWhole _ _).mono ?_; rintro e w' ⟨rfl,rfl⟩))
          go_roundw
          case rel=>exact ⟨k + 1,by go_num,by omega,by rw [← HN.out,clashF_no hlt HC.out],HB.out.alloc (nb HB.out).2.2.2.2.1 _⟩
          case measure=>simp [intOf]; omega
        ·have fR:(l[k].proc == n.proc) = false:=beq_eq_false_iff_ne.2 (by omega)
         have HC:Hid (clashB i n k l[k] = false):=by show _ = _; unfold clashB; first | (rw [decide_eq_true eW,eA,eB,decide_eq_true eP,decide_eq_true eQ,decide_eq_false eR]; done) | (rw [decide_eq_true eW,eA,eB,decide_eq_true eP,decide_eq_true eQ,decide_eq_false eR]; rfl)
         clear eP eQ eR eW
         go_wp2_with (first | (go_at_call 208; refine (c_isWhole _ _).mono ?_; rintro e w' ⟨rfl,rfl⟩))
         go_roundw
         case rel=>exact ⟨k + 1,by go_num,by omega,by rw [← HN.out,clashF_no hlt HC.out],HB.out.alloc (nb HB.out).2.2.2.2.1 _⟩
         case measure=>simp [intOf]; omega
       ·have fQ:((l[k].role:Int) == 3) = false:=beq_eq_false_iff_ne.2 (by omega)
        have HC:Hid (clashB i n k l[k] = false):=by show _ = _; unfold clashB; first | (rw [decide_eq_true eW,eA,eB,decide_eq_true eP,decide_eq_false eQ]; done) | (rw [decide_eq_true eW,eA,eB,decide_eq_true eP,decide_eq_false eQ]; rfl)
        clear eP eQ eW
        go_wp2_with (first | (go_at_call 208; refine (c_isWhole _ _).mono ?_; rintro e w' ⟨rfl,rfl⟩))
        go_roundw
        case rel=>exact ⟨k + 1,by go_num,by omega,by rw [← HN.out,clashF_no hlt HC.out],HB.out.alloc (nb HB.out).2.2.2.2.1 _⟩
        case measure=>simp [intOf]; omega
      ·have fP:((n.role:Int) == 3) = false:=beq_eq_false_iff_ne.2 (by omega)
       have HC:Hid (clashB i n k l[k] = false):=by show _ = _; unfold clashB; first | (rw [decide_eq_true eW,eA,eB,decide_eq_false eP]; done) | (rw [decide_eq_true eW,eA,eB,decide_eq_false eP]; rfl)
       clear eP eW
       go_wp2_with (first | (go_at_call 208; refine (c_isWhole _ _).mono ?_; rintro e w' ⟨rfl,rfl⟩))
       go_roundw
       case rel=>exact ⟨k + 1,by go_num,by omega,by rw [← HN.out,clashF_no hlt HC.out],HB.out.alloc (nb HB.out).2.2.2.2.1 _⟩
       case measure=>simp [intOf]; omega
     ·by_cases eJ:k < i
      ·have fJ:(k:Int) < i:=by omega
       have HC:Hid (clashB i n k l[k] = true):=by show _ = _; unfold clashB; first | (rw [decide_eq_true eW,eA,eB,decide_eq_true eJ]; done) | (rw [decide_eq_true eW,eA,eB,decide_eq_true eJ]; rfl)
       clear eW
       go_wp2_with (first | (go_at_call 208; refine (c_isWhole _ _).mono ?_; rintro e w' ⟨rfl,rfl⟩))
       go_ret
       exact ⟨ret_bool (by rw [← HN.out,clashF_yes hlt HC.out]),(nb HB.out).2.2.2.2.2.alloc (nb HB.out).2.2.2.2.2.size _⟩
      ·have fJ:i ≤ k:=by omega
       by_cases eP:n.role = 3
       ·have fP:((n.role:Int) == 3) = true:=beq_iff_eq.2 (by omega)
        have HC:Hid (clashB i n k l[k] = true):=by show _ = _; unfold clashB; first | (rw [decide_eq_true eW,eA,eB,decide_eq_false eJ,decide_eq_true eP]; done) | (rw [decide_eq_true eW,eA,eB,decide_eq_false eJ,decide_eq_true eP]; rfl)
        clear eP eW
        go_wp2_with (first | (go_at_call 208; refine (c_isWhole _ _).mono ?_; rintro e w' ⟨rfl,rfl⟩))
        go_ret
        exact ⟨ret_bool (by rw [← HN.out,clashF_yes hlt HC.out]),(nb HB.out).2.2.2.2.2.alloc (nb HB.out).2.2.2.2.2.size _⟩
       ·have fP:((n.role:Int) == 3) = false:=beq_eq_false_iff_ne.2 (by omega)
        have HC:Hid (clashB i n k l[k] = false):=by show _ = _; unfold clashB; first | (rw [decide_eq_true eW,eA,eB,decide_eq_false eJ,decide_eq_false eP]; done) | (rw [decide_eq_true eW,eA,eB,decide_eq_false eJ,decide_eq_false eP]; rfl)
        clear eP eW
        go_wp2_with (first | (go_at_call 208; refine (c_isWhole _ _).mono ?_; rintro e w' ⟨rfl,rfl⟩))
        go_roundw
        case rel=>exact ⟨k + 1,by go_num,by omega,by rw [← HN.out,clashF_no hlt HC.out],HB.out.alloc (nb HB.out).2.2.2.2.1 _⟩
        case measure=>simp [intOf]; omega
   ·have fW:(l[k].word.toList == n.word.toList) = false:=by rw [seq_comm]; exact decide_eq_false eW
    have HC:Hid (clashB i n k l[k] = false):=by show _ = _; unfold clashB; first | (rw [decide_eq_false eW]; done) | (rw [decide_eq_false eW]; rfl)
    clear eW
    go_wp2_with (first | (go_at_call 208; refine (c_isWhole _ _).mono ?_; rintro e w' ⟨rfl,rfl⟩))
    go_roundw
    case rel=>exact ⟨k + 1,by go_num,by omega,by rw [← HN.out,clashF_no hlt HC.out],HB.out.alloc (nb HB.out).2.2.2.2.1 _⟩
    case measure=>simp [intOf]; omega
  ·go_wp2
   go_ret
   exact ⟨ret_bool (by rw [← HN.out,clashF_out hlt]),hbel⟩
end Go.Proofs.YtmfcpbhdggonfaaGreatDoor
namespace Go.Proofs.YtmfcpbhdggonfaaGreatDoor
open Go.RowKit RR
def optOut:Option Nat→Value
 | some p=>.tuple #[.int .i64 p,.bool true]
 | none=>.tuple #[.int .i64 0,.bool false]
set_option maxRecDepth 100000 in
set_option maxHeartbeats 1000000 in
theorem c_misused (ao:Option Addr) (cap:Nat) (l:List Nm) (n:Nm) (w:World) (hl:l.length ≤ 1000) (hi:NmSl w ao l) :
    Calls Tryz.prog 186 #[.slice ao l.length cap,(.agg #[.string n.word,.int .i64 n.at_,.int .i64 n.role,.int .i64 n.proc])] w fun e w'=>e = .returned (.bool (misusedB l n))∧Below w.heap.size w w':=by
 have hx0:=(Below.refl (w.heap.size + 1) (w.alloc (.cells #[.string n.word,.int .i64 n.at_,.int .i64 n.role,.int .i64 n.proc] 186)))
 obtain ⟨n0,n1,n2,n3,hsz,hbel⟩:=nb hx0
 have hsl:=hi.below hbel
 by_cases h4:n.role = 4
 ·have f4:((n.role:Int) == 4) = true:=beq_iff_eq.2 (by omega)
  cases hg:isGivenB l n.word 0
  ·have HE:Hid (misusedB l n = !isParamB l n.word n.proc):=by show _ = _; unfold misusedB; rw [if_pos h4,hg]; rfl
   clear h4
   go_enter Tryz.func186,Tryz.ntmps186
   go_wp2_with fail
   refine (c_isGiven _ _ l _ 0 _ hl hsl).mono ?_
   rintro e w1 ⟨rfl,hb1⟩
   have hx1:=hx0.trans (hb1.mono hsz)
   obtain ⟨m0,m1,m2,m3,hsz1,hbel1⟩:=nb hx1
   have hsl1:=hi.below hbel1
   go_wp2_with fail
   refine (c_isParam _ _ l _ _ _ hl hsl1).mono ?_
   rintro e w2 ⟨rfl,hb2⟩
   go_wp2_with fail
   go_ret
   exact ⟨ret_bool HE.out.symm,hbel1.trans (hb2.mono (Nat.le_of_lt hsz1))⟩
  ·have HE:Hid (misusedB l n = false):=by show _ = _; unfold misusedB; rw [if_pos h4,hg]; rfl
   clear h4
   go_enter Tryz.func186,Tryz.ntmps186
   go_wp2_with fail
   refine (c_isGiven _ _ l _ 0 _ hl hsl).mono ?_
   rintro e w1 ⟨rfl,hb1⟩
   go_wp2_with fail
   go_ret
   exact ⟨ret_bool HE.out.symm,hbel.trans (hb1.mono (Nat.le_of_lt hsz))⟩
 have f4:((n.role:Int) == 4) = false:=beq_eq_false_iff_ne.2 (by omega)
 by_cases h5:n.role = 5
 ·have f5:((n.role:Int) == 5) = true:=beq_iff_eq.2 (by omega)
  have HE:Hid (misusedB l n = !isGivenB l n.word 1):=by show _ = _; unfold misusedB; rw [if_neg h4,if_pos h5]
  clear h4 h5
  go_enter Tryz.func186,Tryz.ntmps186
  go_wp2_with fail
  refine (c_isGiven _ _ l _ 1 _ hl hsl).mono ?_
  rintro e w1 ⟨rfl,hb1⟩
  go_wp2_with fail
  go_ret
  exact ⟨ret_bool HE.out.symm,hbel.trans (hb1.mono (Nat.le_of_lt hsz))⟩
 have f5:((n.role:Int) == 5) = false:=beq_eq_false_iff_ne.2 (by omega)
 by_cases h6:n.role = 6
 ·have f6:((n.role:Int) == 6) = true:=beq_iff_eq.2 (by omega)
  have HE:Hid (misusedB l n = !isGivenB l n.word 2):=by show _ = _; unfold misusedB; rw [if_neg h4,if_neg h5,if_pos (.inl h6)]
  clear h4 h5 h6
  go_enter Tryz.func186,Tryz.ntmps186
  go_wp2_with fail
  refine (c_isGiven _ _ l _ 2 _ hl hsl).mono ?_
  rintro e w1 ⟨rfl,hb1⟩
  go_wp2_with fail
  go_ret
  exact ⟨ret_bool HE.out.symm,hbel.trans (hb1.mono (Nat.le_of_lt hsz))⟩
 have f6:((n.role:Int) == 6) = false:=beq_eq_false_iff_ne.2 (by omega)
 by_cases h7:n.role = 7
 ·have f7:((n.role:Int) == 7) = true:=beq_iff_eq.2 (by omega)
  have HE:Hid (misusedB l n = !isGivenB l n.word 2):=by show _ = _; unfold misusedB; rw [if_neg h4,if_neg h5,if_pos (.inr h7)]
  clear h4 h5 h6 h7
  go_enter Tryz.func186,Tryz.ntmps186
  go_wp2_with fail
  refine (c_isGiven _ _ l _ 2 _ hl hsl).mono ?_
  rintro e w1 ⟨rfl,hb1⟩
  go_wp2_with fail
  go_ret
  exact ⟨ret_bool HE.out.symm,hbel.trans (hb1.mono (Nat.le_of_lt hsz))⟩
 have f7:((n.role:Int) == 7) = false:=beq_eq_false_iff_ne.2 (by omega)
 have HE:Hid (misusedB l n = false):=by show _ = _; unfold misusedB; rw [if_neg h4,if_neg h5,if_neg (fun h=>h.elim h6 h7)]
 clear h4 h5 h6 h7
 go_enter Tryz.func186,Tryz.ntmps186
 go_wp2_with fail
 go_ret
 exact ⟨ret_bool HE.out.symm,hbel⟩
set_option maxRecDepth 100000 in
set_option maxHeartbeats 1000000 in
theorem c_firstGivenTwice (ao:Option Addr) (cap:Nat) (l:List Nm) (w:World) (hl:l.length ≤ 1000) (hi:NmSl w ao l) :
    Calls Tryz.prog 138 #[.slice ao l.length cap] w fun e w'=>e = .returned (optOut (twiceP l))∧Below w.heap.size w w':=by
 go_enter Tryz.func138,Tryz.ntmps138
 go_wp2
 go_loopw [8] (fun u wr=>∃ k:Nat,u = .int .i64 k∧k ≤ l.length∧firstF (fun i n=>clashF l i n 0) l k = twiceP l∧Below w.heap.size w wr) (fun u _=>l.length - (intOf u).toNat)
 case atStart=>exact ⟨0,rfl,Nat.zero_le _,rfl,Below.refl _ _⟩
 case round =>
  obtain ⟨k,rfl,hk,hn,hbel⟩:=hrel
  have HN:=hide hn
  clear hn
  by_cases hlt:k < l.length
  ·have hsl:=hi.below hbel
   obtain ⟨b,o,hb,hao,c1,c2,c3,c4⟩:=hsl k hlt
   subst hao
   have hsl2:=fun ob=>hsl.below ((Below.refl _ _).alloc (Nat.le_refl _) ob)
   cases hc:clashF l k l[k] 0
   ·have HE:=hide (firstF_no (p:=fun i n=>clashF l i n 0) hlt hc)
    go_wp2_with fail
    refine (c_givenTwice _ _ l k l[k] _ hl (hsl2 _)).mono ?_
    rintro e w1 ⟨rfl,hb1⟩
    go_wp2_with fail
    go_roundw
    case rel=>exact ⟨k + 1,by go_num,by omega,by rw [← HN.out,HE.out],(hbel.alloc hbel.size _).trans (hb1.mono (Nat.le_trans hbel.size (by simp)))⟩
    case measure=>simp [intOf]; omega
   ·have HE:=hide (firstF_yes (p:=fun i n=>clashF l i n 0) hlt hc)
    go_wp2_with fail
    refine (c_givenTwice _ _ l k l[k] _ hl (hsl2 _)).mono ?_
    rintro e w1 ⟨rfl,hb1⟩
    have hc1:=(hb1.cell (p:=⟨wr.heap.size,1,none⟩) (by simp))
    simp at hc1
    go_wp2_with fail
    go_ret2
    exact ⟨by rw [← HN.out,HE.out]; rfl,(hbel.alloc hbel.size _).trans (hb1.mono (Nat.le_trans hbel.size (by simp)))⟩
  ·go_wp2
   go_ret2
   exact ⟨by rw [← HN.out,firstF_out hlt]; rfl,hbel⟩
set_option maxRecDepth 100000 in
set_option maxHeartbeats 1000000 in
theorem c_firstMisused (ao:Option Addr) (cap:Nat) (l:List Nm) (w:World) (hl:l.length ≤ 1000) (hi:NmSl w ao l) :
    Calls Tryz.prog 139 #[.slice ao l.length cap] w fun e w'=>e = .returned (optOut (misP l))∧Below w.heap.size w w':=by
 go_enter Tryz.func139,Tryz.ntmps139
 go_wp2
 go_loopw [8] (fun u wr=>∃ k:Nat,u = .int .i64 k∧k ≤ l.length∧firstF (fun _ n=>misusedB l n) l k = misP l∧Below w.heap.size w wr) (fun u _=>l.length - (intOf u).toNat)
 case atStart=>exact ⟨0,rfl,Nat.zero_le _,rfl,Below.refl _ _⟩
 case round =>
  obtain ⟨k,rfl,hk,hn,hbel⟩:=hrel
  have HN:=hide hn
  clear hn
  by_cases hlt:k < l.length
  ·have hsl:=hi.below hbel
   obtain ⟨b,o,hb,hao,c1,c2,c3,c4⟩:=hsl k hlt
   subst hao
   have hsl2:=fun ob=>hsl.below ((Below.refl _ _).alloc (Nat.le_refl _) ob)
   cases hc:misusedB l l[k]
   ·have HE:=hide (firstF_no (p:=fun _ n=>misusedB l n) hlt hc)
    go_wp2_with fail
    refine (c_misused _ _ l l[k] _ hl (hsl2 _)).mono ?_
    rintro e w1 ⟨rfl,hb1⟩
    go_wp2_with fail
    go_roundw
    case rel=>exact ⟨k + 1,by go_num,by omega,by rw [← HN.out,HE.out],(hbel.alloc hbel.size _).trans (hb1.mono (Nat.le_trans hbel.size (by simp)))⟩
    case measure=>simp [intOf]; omega
   ·have HE:=hide (firstF_yes (p:=fun _ n=>misusedB l n) hlt hc)
    go_wp2_with fail
    refine (c_misused _ _ l l[k] _ hl (hsl2 _)).mono ?_
    rintro e w1 ⟨rfl,hb1⟩
    have hc1:=(hb1.cell (p:=⟨wr.heap.size,1,none⟩) (by simp))
    simp at hc1
    go_wp2_with fail
    go_ret2
    exact ⟨by rw [← HN.out,HE.out]; rfl,(hbel.alloc hbel.size _).trans (hb1.mono (Nat.le_trans hbel.size (by simp)))⟩
  ·go_wp2
   go_ret2
   exact ⟨by rw [← HN.out,firstF_out hlt]; rfl,hbel⟩
end Go.Proofs.YtmfcpbhdggonfaaGreatDoor
namespace Go.Proofs.YtmfcpbhdggonfaaGreatDoor
open Go.RowKit RR
def CtsAt (w:World) (B:Nat) (c:Cts):Prop:=w.heap[B]? = some (.cells #[.int .i64 c.sh,.int .i64 c.lo,.int .i64 c.pr,.int .i64 c.pa,.int .i64 c.th] 282 (0,0))
theorem CtsAt.cells {w:World} {B:Nat} {c:Cts} (h:CtsAt w B c):w.cell? ⟨B,0,none⟩ = some (.int .i64 c.sh)∧w.cell? ⟨B,1,none⟩ = some (.int .i64 c.lo)∧w.cell? ⟨B,2,none⟩ = some (.int .i64 c.pr)∧w.cell? ⟨B,3,none⟩ = some (.int .i64 c.pa)∧w.cell? ⟨B,4,none⟩ = some (.int .i64 c.th)∧(∀ i,w.frozen? ⟨B,i,none⟩ = false):=by
 unfold CtsAt at h
 refine ⟨?_,?_,?_,?_,?_,fun i=>?_⟩ <;> simp [World.cell?,World.frozen?,h]
set_option maxRecDepth 100000 in
set_option maxHeartbeats 1000000 in
theorem c_tooMany (w:World) (B:Nat) (c:Cts) (h:CtsAt w B c) :
    Calls Tryz.prog 184 #[.pointer (some ⟨B,0,none⟩)] w fun e w'=>e = .returned (.bool c.too)∧w' = w:=by
 obtain ⟨c0,c1,c2,c3,c4,_⟩:=h.cells
 by_cases h0:4 < c.sh
 ·have HE:Hid (c.too = true):=by show _ = _; unfold Cts.too; simp; omega
  have g0:(4:Int) < c.sh:=by omega
  have d0:decide ((4:Int) < c.sh) = true:=decide_eq_true (by omega)
  go_enter Tryz.func184,Tryz.ntmps184
  go_wp2_with fail
  go_ret
  exact ⟨ret_bool (by rw [HE.out]),rfl⟩
 by_cases h1:3 < c.lo
 ·have HE:Hid (c.too = true):=by show _ = _; unfold Cts.too; simp; omega
  have g0:(c.sh:Int) ≤ 4:=by omega
  have d0:decide ((4:Int) < c.sh) = false:=decide_eq_false (by omega)
  have g1:(3:Int) < c.lo:=by omega
  have d1:decide ((3:Int) < c.lo) = true:=decide_eq_true (by omega)
  go_enter Tryz.func184,Tryz.ntmps184
  go_wp2_with fail
  go_ret
  exact ⟨ret_bool (by rw [HE.out]),rfl⟩
 by_cases h2:4 < c.pr
 ·have HE:Hid (c.too = true):=by show _ = _; unfold Cts.too; simp; omega
  have g0:(c.sh:Int) ≤ 4:=by omega
  have d0:decide ((4:Int) < c.sh) = false:=decide_eq_false (by omega)
  have g1:(c.lo:Int) ≤ 3:=by omega
  have d1:decide ((3:Int) < c.lo) = false:=decide_eq_false (by omega)
  have g2:(4:Int) < c.pr:=by omega
  have d2:decide ((4:Int) < c.pr) = true:=decide_eq_true (by omega)
  go_enter Tryz.func184,Tryz.ntmps184
  go_wp2_with fail
  go_ret
  exact ⟨ret_bool (by rw [HE.out]),rfl⟩
 by_cases h3:3 < c.pa
 ·have HE:Hid (c.too = true):=by show _ = _; unfold Cts.too; simp; omega
  have g0:(c.sh:Int) ≤ 4:=by omega
  have d0:decide ((4:Int) < c.sh) = false:=decide_eq_false (by omega)
  have g1:(c.lo:Int) ≤ 3:=by omega
  have d1:decide ((3:Int) < c.lo) = false:=decide_eq_false (by omega)
  have g2:(c.pr:Int) ≤ 4:=by omega
  have d2:decide ((4:Int) < c.pr) = false:=decide_eq_false (by omega)
  have g3:(3:Int) < c.pa:=by omega
  have d3:decide ((3:Int) < c.pa) = true:=decide_eq_true (by omega)
  go_enter Tryz.func184,Tryz.ntmps184
  go_wp2_with fail
  go_ret
  exact ⟨ret_bool (by rw [HE.out]),rfl⟩
 by_cases h4:3 < c.th
 ·have HE:Hid (c.too = true):=by show _ = _; unfold Cts.too; simp; omega
  have g0:(c.sh:Int) ≤ 4:=by omega
  have d0:decide ((4:Int) < c.sh) = false:=decide_eq_false (by omega)
  have g1:(c.lo:Int) ≤ 3:=by omega
  have d1:decide ((3:Int) < c.lo) = false:=decide_eq_false (by omega)
  have g2:(c.pr:Int) ≤ 4:=by omega
  have d2:decide ((4:Int) < c.pr) = false:=decide_eq_false (by omega)
  have g3:(c.pa:Int) ≤ 3:=by omega
  have d3:decide ((3:Int) < c.pa) = false:=decide_eq_false (by omega)
  have g4:(3:Int) < c.th:=by omega
  have d4:decide ((3:Int) < c.th) = true:=decide_eq_true (by omega)
  go_enter Tryz.func184,Tryz.ntmps184
  go_wp2_with fail
  go_ret
  exact ⟨ret_bool (by rw [HE.out]),rfl⟩
 have g0:(c.sh:Int) ≤ 4:=by omega
 have d0:decide ((4:Int) < c.sh) = false:=decide_eq_false (by omega)
 have g1:(c.lo:Int) ≤ 3:=by omega
 have d1:decide ((3:Int) < c.lo) = false:=decide_eq_false (by omega)
 have g2:(c.pr:Int) ≤ 4:=by omega
 have d2:decide ((4:Int) < c.pr) = false:=decide_eq_false (by omega)
 have g3:(c.pa:Int) ≤ 3:=by omega
 have d3:decide ((3:Int) < c.pa) = false:=decide_eq_false (by omega)
 have g4:(c.th:Int) ≤ 3:=by omega
 have d4:decide ((3:Int) < c.th) = false:=decide_eq_false (by omega)
 have HE:Hid (c.too = false):=by show _ = _; unfold Cts.too; simp; omega
 go_enter Tryz.func184,Tryz.ntmps184
 go_wp2_with fail
 go_ret
 exact ⟨ret_bool (by rw [HE.out]),rfl⟩
end Go.Proofs.YtmfcpbhdggonfaaGreatDoor
