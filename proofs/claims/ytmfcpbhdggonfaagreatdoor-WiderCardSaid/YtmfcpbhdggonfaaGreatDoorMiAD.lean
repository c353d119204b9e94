/- How a text is cut into tokens: plain functions. No Go here. -/
import Derived.Test.YtmfcpbhdggonfaaGreatDoorMiAA
import Derived.Test.YtmfcpbhdggonfaaGreatDoorMiAC
import Derived.Test.YtmfcpbhdggonfaaGreatDoorMiAB
namespace RR
def byteAt (s:ByteArray) (k:Nat):UInt8:=if h:k < s.size then s[k] else 0
theorem byteAt_eq {s:ByteArray} {k:Nat} (h:k < s.size):byteAt s k = s[k]:=by unfold byteAt; rw [dif_pos h]
def runG (s:ByteArray):Nat→Nat
 | 0=>s.size
 | d + 1=>if isLetterB (byteAt s (s.size - (d + 1))) then runG s d else s.size - (d + 1)
def runF (s:ByteArray) (k:Nat):Nat:=if k < s.size then runG s (s.size - k) else k
theorem runF_eq (s:ByteArray) (k:Nat):runF s k = if h:k < s.size then if isLetterB s[k] then runF s (k + 1) else k else k:=by
 unfold runF
 by_cases hk:k < s.size
 ·have e:s.size - k = (s.size - (k + 1)) + 1:=by omega
  have e2:s.size - ((s.size - (k + 1)) + 1) = k:=by omega
  rw [if_pos hk,dif_pos hk,e,runG,e2,byteAt_eq hk]
  by_cases hk2:k + 1 < s.size
  ·rw [if_pos hk2]
  ·rw [if_neg hk2,show s.size - (k + 1) = 0 by omega,show k + 1 = s.size by omega]; rfl
 ·rw [if_neg hk,dif_neg hk]
theorem runF_le (s:ByteArray) (k:Nat) (h:k ≤ s.size):k ≤ runF s k∧runF s k ≤ s.size:=by
 induction hn:s.size - k using Nat.strongRecOn generalizing k with
 | ind n ih =>
  rw [runF_eq]
  by_cases h1:k < s.size
  ·rw [dif_pos h1]
   by_cases h2:isLetterB s[k]
   ·rw [if_pos h2]
    have:=ih (s.size - (k + 1)) (by omega) (k + 1) (by omega) rfl
    omega
   ·rw [if_neg h2]; omega
  ·rw [dif_neg h1]; omega
def signs:List ByteArray:=[⟨#[59]⟩,⟨#[44]⟩,⟨#[61]⟩,⟨#[33]⟩,⟨#[38]⟩,⟨#[124]⟩,⟨#[63]⟩,⟨#[40]⟩,⟨#[41]⟩,⟨#[123]⟩,⟨#[125]⟩]
def endAt (s:ByteArray) (i:Nat) (h:i < s.size):Nat:=if isLetterB s[i] then runF s (i + 1) else i + 1
theorem endAt_gt (s:ByteArray) (i:Nat) (h:i < s.size):i < endAt s i h∧endAt s i h ≤ s.size:=by
 unfold endAt
 by_cases h2:isLetterB s[i]
 ·rw [if_pos h2]; have:=runF_le s (i + 1) (by omega); omega
 ·rw [if_neg h2]; omega
def okAt (s:ByteArray) (i:Nat) (h:i < s.size):Bool:=(isLetterB s[i] && decide (endAt s i h - i ≤ 8)) || memB signs (s.extract i (endAt s i h))
def blankB (c:UInt8):Bool:=decide (c.toNat = 32) || decide (c.toNat = 10)
def lexN (s:ByteArray):Nat→Nat→List Tk × Option Nat
 | 0,_=>([],none)
 | n + 1,i =>
  if h:i < s.size then
   if blankB s[i] then lexN s n (i + 1)
   else if okAt s i h then (⟨s.extract i (endAt s i h),i⟩ :: (lexN s n (endAt s i h)).1,(lexN s n (endAt s i h)).2)
   else ([],some i)
  else ([],none)
theorem lexN_fuel (s:ByteArray):∀ n m i,s.size - i ≤ n→s.size - i ≤ m→lexN s n i = lexN s m i:=by
 intro n
 induction n with
 | zero =>
  intro m i h1 _
  cases m with
  | zero=>rfl
  | succ m=>rw [lexN,lexN,dif_neg (by omega)]
 | succ n ih =>
  intro m i h1 h2
  cases m with
  | zero=>rw [lexN,lexN,dif_neg (by omega)]
  | succ m =>
   rw [lexN,lexN]
   by_cases h:i < s.size
   ·have hg:=endAt_gt s i h
    rw [dif_pos h,dif_pos h,ih m (i + 1) (by omega) (by omega),ih m (endAt s i h) (by omega) (by omega)]
   ·rw [dif_neg h,dif_neg h]
def lexF (s:ByteArray) (i:Nat):List Tk × Option Nat:=lexN s (s.size - i) i
theorem lexF_eq (s:ByteArray) (i:Nat):lexF s i = if h:i < s.size then
    if blankB s[i] then lexF s (i + 1)
    else if okAt s i h then (⟨s.extract i (endAt s i h),i⟩ :: (lexF s (endAt s i h)).1,(lexF s (endAt s i h)).2)
    else ([],some i)
 else ([],none):=by
 unfold lexF
 by_cases h:i < s.size
 ·have hg:=endAt_gt s i h
  have e:s.size - i = (s.size - i - 1) + 1:=by omega
  rw [dif_pos h,e,lexN,dif_pos h,lexN_fuel s (s.size - i - 1) (s.size - (i + 1)) (i + 1) (by omega) (by omega),lexN_fuel s (s.size - i - 1) (s.size - endAt s i h) (endAt s i h) (by omega) (by omega)]
 ·rw [dif_neg h,show s.size - i = 0 by omega,lexN]
theorem lexF_out {s:ByteArray} {i:Nat} (h:¬ i < s.size):lexF s i = ([],none):=by rw [lexF_eq,dif_neg h]
theorem lexF_blank {s:ByteArray} {i:Nat} (h:i < s.size) (hb:blankB s[i] = true):lexF s i = lexF s (i + 1):=by rw [lexF_eq,dif_pos h,if_pos hb]
theorem lexF_bad {s:ByteArray} {i:Nat} (h:i < s.size) (hb:blankB s[i] = false) (ho:okAt s i h = false):lexF s i = ([],some i):=by rw [lexF_eq,dif_pos h,hb,ho]; rfl
theorem lexF_ok {s:ByteArray} {i:Nat} (h:i < s.size) (hb:blankB s[i] = false) (ho:okAt s i h = true):lexF s i = (⟨s.extract i (endAt s i h),i⟩ :: (lexF s (endAt s i h)).1,(lexF s (endAt s i h)).2):=by
 rw [lexF_eq,dif_pos h,hb,ho]; rfl
theorem ext_size (s:ByteArray) (i k:Nat) (h:i ≤ k) (hk:k ≤ s.size):(s.extract i k).size = k - i:=by
 rw [ByteArray.size_extract]; omega
theorem ext_first (s:ByteArray) (i k:Nat) (h:i < k) (hk:k ≤ s.size) (h':0 < (s.extract i k).size):(s.extract i k)[0] = s[i]:=by
 rw [ByteArray.getElem_extract]; rfl
theorem runF_yes {s:ByteArray} {k:Nat} (h:k < s.size) (h2:isLetterB s[k] = true):runF s k = runF s (k + 1):=by rw [runF_eq,dif_pos h,if_pos h2]
theorem runF_no {s:ByteArray} {k:Nat} (h:k < s.size) (h2:isLetterB s[k] = false):runF s k = k:=by rw [runF_eq,dif_pos h,h2]; rfl
theorem runF_out {s:ByteArray} {k:Nat} (h:¬ k < s.size):runF s k = k:=by rw [runF_eq,dif_neg h]
theorem lexF_len (s:ByteArray) (i:Nat):(lexF s i).1.length ≤ s.size - i:=by
 induction hn:s.size - i using Nat.strongRecOn generalizing i with
 | ind n ih =>
  by_cases h:i < s.size
  ·cases hb:blankB s[i]
   ·cases ho:okAt s i h
    ·rw [lexF_bad h hb ho]; exact Nat.zero_le _
    ·rw [lexF_ok h hb ho]
     have:=endAt_gt s i h
     have:=ih (s.size - endAt s i h) (by omega) (endAt s i h) rfl
     show (_ :: _).length ≤ _
     rw [List.length_cons]; omega
   ·rw [lexF_blank h hb]
    have:=ih (s.size - (i + 1)) (by omega) (i + 1) rfl
    omega
  ·rw [lexF_out h]; exact Nat.zero_le _
end RR
namespace Go.Proofs.YtmfcpbhdggonfaaGreatDoor
open Go.RowKit RR
theorem Tryz.infoTok:(Tryz.prog.info? 90).map (fun i=>(i.zero,i.size,i.bytes)) = some (some (.agg #[.string ⟨#[]⟩,.int .i64 0]),2,24):=by kernel_rfl
def toks:List Tk→List Value
 | []=>[]
 | t :: r=>.string t.t :: .int .i64 t.p :: toks r
theorem endAt_letter {s:ByteArray} {i:Nat} (h:i < s.size) (hL:isLetterB s[i] = true):endAt s i h = runF s (i + 1):=by unfold endAt; rw [if_pos hL]
theorem endAt_other {s:ByteArray} {i:Nat} (h:i < s.size) (hL:isLetterB s[i] = false):endAt s i h = i + 1:=by unfold endAt; rw [hL]; rfl
end Go.Proofs.YtmfcpbhdggonfaaGreatDoor
namespace Go.Proofs.YtmfcpbhdggonfaaGreatDoor
open Go.RowKit RR
set_option maxHeartbeats 400000 in
theorem t_isLetter (c:UInt8) (w:World) :
    Calls Tryz.prog 175 #[.int .u8 c.toNat] w fun e w'=>e = .returned (.bool (isLetterB c))∧w' = w:=by
 go_enter Tryz.func175,Tryz.ntmps175
 go_wp2
 all_goals
  go_ret
  refine ⟨ret_bool ?_,rfl⟩
  unfold isLetterB
  rw [Bool.eq_iff_iff]; simp; try omega
set_option maxHeartbeats 400000 in
theorem t_isBlank (c:UInt8) (w:World) :
    Calls Tryz.prog 133 #[.int .u8 c.toNat] w fun e w'=>e = .returned (.bool (blankB c))∧w' = w:=by
 go_enter Tryz.func133,Tryz.ntmps133
 by_cases h:(c.toNat:Int) = 32
 ·have h':((c.toNat:Int) == 32) = true:=beq_iff_eq.2 h
  have HB:Hid (blankB c = true):=by show _ = _; unfold blankB; rw [decide_eq_true (by omega:c.toNat = 32)]; rfl
  clear h
  go_wp2
  go_ret
  exact ⟨ret_bool HB.out.symm,rfl⟩
 ·have h':((c.toNat:Int) == 32) = false:=beq_eq_false_iff_ne.2 h
  by_cases h2:(c.toNat:Int) = 10
  ·have h2':((c.toNat:Int) == 10) = true:=beq_iff_eq.2 h2
   have HB:Hid (blankB c = true):=by show _ = _; unfold blankB; rw [decide_eq_true (by omega:c.toNat = 10),Bool.or_true]
   clear h h2
   go_wp2
   go_ret
   exact ⟨ret_bool HB.out.symm,rfl⟩
  ·have h2':((c.toNat:Int) == 10) = false:=beq_eq_false_iff_ne.2 h2
   have HB:Hid (blankB c = false):=by show _ = _; unfold blankB; rw [decide_eq_false (by omega:¬ c.toNat = 32),decide_eq_false (by omega:¬ c.toNat = 10)]; rfl
   clear h h2
   go_wp2
   go_ret
   exact ⟨ret_bool HB.out.symm,rfl⟩
def signB (c:UInt8):Bool:=decide (c.toNat = 59) || decide (c.toNat = 44) || decide (c.toNat = 61) || decide (c.toNat = 33) || decide (c.toNat = 38) || decide (c.toNat = 124) || decide (c.toNat = 63) || decide (c.toNat = 40) || decide (c.toNat = 41) || decide (c.toNat = 123) || decide (c.toNat = 125)
set_option maxRecDepth 100000 in
set_option maxHeartbeats 2000000 in
theorem t_isSign (s:ByteArray) (i:Nat) (w:World) (_hs:s.size ≤ 500) (hi:i < s.size) :
    Calls Tryz.prog 174 #[.string s,.int .i64 i] w fun e w'=>e = .returned (.bool (signB s[i]))∧w' = w:=by
 have hi':(i:Int) < s.size:=by omega
 by_cases e0:(s[i].toNat:Int) = 59
 ·have f0:((s[i].toNat:Int) == 59) = true:=beq_iff_eq.2 e0
  have HB:Hid (signB s[i] = true):=by show _ = _; unfold signB; simp; omega
  clear e0
  go_enter Tryz.func174,Tryz.ntmps174
  go_wp2
  go_ret
  exact ⟨ret_bool HB.out.symm,rfl⟩
 by_cases e1:(s[i].toNat:Int) = 44
 ·have f1:((s[i].toNat:Int) == 44) = true:=beq_iff_eq.2 e1
  have HB:Hid (signB s[i] = true):=by show _ = _; unfold signB; simp; omega
  have f0:((s[i].toNat:Int) == 59) = false:=beq_eq_false_iff_ne.2 e0
  clear e0 e1
  go_enter Tryz.func174,Tryz.ntmps174
  go_wp2
  go_ret
  exact ⟨ret_bool HB.out.symm,rfl⟩
 by_cases e2:(s[i].toNat:Int) = 61
 ·have f2:((s[i].toNat:Int) == 61) = true:=beq_iff_eq.2 e2
  have HB:Hid (signB s[i] = true):=by show _ = _; unfold signB; simp; omega
  have f0:((s[i].toNat:Int) == 59) = false:=beq_eq_false_iff_ne.2 e0
  have f1:((s[i].toNat:Int) == 44) = false:=beq_eq_false_iff_ne.2 e1
  clear e0 e1 e2
  go_enter Tryz.func174,Tryz.ntmps174
  go_wp2
  go_ret
  exact ⟨ret_bool HB.out.symm,rfl⟩
 by_cases e3:(s[i].toNat:Int) = 33
 ·have f3:((s[i].toNat:Int) == 33) = true:=beq_iff_eq.2 e3
  have HB:Hid (signB s[i] = true):=by show _ = _; unfold signB; simp; omega
  have f0:((s[i].toNat:Int) == 59) = false:=beq_eq_false_iff_ne.2 e0
  have f1:((s[i].toNat:Int) == 44) = false:=beq_eq_false_iff_ne.2 e1
  have f2:((s[i].toNat:Int) == 61) = false:=beq_eq_false_iff_ne.2 e2
  clear e0 e1 e2 e3
  go_enter Tryz.func174,Tryz.ntmps174
  go_wp2
  go_ret
  exact ⟨ret_bool HB.out.symm,rfl⟩
 by_cases e4:(s[i].toNat:Int) = 38
 ·have f4:((s[i].toNat:Int) == 38) = true:=beq_iff_eq.2 e4
  have HB:Hid (signB s[i] = true):=by show _ = _; unfold signB; simp; omega
  have f0:((s[i].toNat:Int) == 59) = false:=beq_eq_false_iff_ne.2 e0
  have f1:((s[i].toNat:Int) == 44) = false:=beq_eq_false_iff_ne.2 e1
  have f2:((s[i].toNat:Int) == 61) = false:=beq_eq_false_iff_ne.2 e2
  have f3:((s[i].toNat:Int) == 33) = false:=beq_eq_false_iff_ne.2 e3
  clear e0 e1 e2 e3 e4
  go_enter Tryz.func174,Tryz.ntmps174
  go_wp2
  go_ret
  exact ⟨ret_bool HB.out.symm,rfl⟩
 by_cases e5:(s[i].toNat:Int) = 124
 ·have f5:((s[i].toNat:Int) == 124) = true:=beq_iff_eq.2 e5
  have HB:Hid (signB s[i] = true):=by show _ = _; unfold signB; simp; omega
  have f0:((s[i].toNat:Int) == 59) = false:=beq_eq_false_iff_ne.2 e0
  have f1:((s[i].toNat:Int) == 44) = false:=beq_eq_false_iff_ne.2 e1
  have f2:((s[i].toNat:Int) == 61) = false:=beq_eq_false_iff_ne.2 e2
  have f3:((s[i].toNat:Int) == 33) = false:=beq_eq_false_iff_ne.2 e3
  have f4:((s[i].toNat:Int) == 38) = false:=beq_eq_false_iff_ne.2 e4
  clear e0 e1 e2 e3 e4 e5
  go_enter Tryz.func174,Tryz.ntmps174
  go_wp2
  go_ret
  exact ⟨ret_bool HB.out.symm,rfl⟩
 by_cases e6:(s[i].toNat:Int) = 63
 ·have f6:((s[i].toNat:Int) == 63) = true:=beq_iff_eq.2 e6
  have HB:Hid (signB s[i] = true):=by show _ = _; unfold signB; simp; omega
  have f0:((s[i].toNat:Int) == 59) = false:=beq_eq_false_iff_ne.2 e0
  have f1:((s[i].toNat:Int) == 44) = false:=beq_eq_false_iff_ne.2 e1
  have f2:((s[i].toNat:Int) == 61) = false:=beq_eq_false_iff_ne.2 e2
  have f3:((s[i].toNat:Int) == 33) = false:=beq_eq_false_iff_ne.2 e3
  have f4:((s[i].toNat:Int) == 38) = false:=beq_eq_false_iff_ne.2 e4
  have f5:((s[i].toNat:Int) == 124) = false:=beq_eq_false_iff_ne.2 e5
  clear e0 e1 e2 e3 e4 e5 e6
  go_enter Tryz.func174,Tryz.ntmps174
  go_wp2
  go_ret
  exact ⟨ret_bool HB.out.symm,rfl⟩
 by_cases e7:(s[i].toNat:Int) = 40
 ·have f7:((s[i].toNat:Int) == 40) = true:=beq_iff_eq.2 e7
  have HB:Hid (signB s[i] = true):=by show _ = _; unfold signB; simp; omega
  have f0:((s[i].toNat:Int) == 59) = false:=beq_eq_false_iff_ne.2 e0
  have f1:((s[i].toNat:Int) == 44) = false:=beq_eq_false_iff_ne.2 e1
  have f2:((s[i].toNat:Int) == 61) = false:=beq_eq_false_iff_ne.2 e2
  have f3:((s[i].toNat:Int) == 33) = false:=beq_eq_false_iff_ne.2 e3
  have f4:((s[i].toNat:Int) == 38) = false:=beq_eq_false_iff_ne.2 e4
  have f5:((s[i].toNat:Int) == 124) = false:=beq_eq_false_iff_ne.2 e5
  have f6:((s[i].toNat:Int) == 63) = false:=beq_eq_false_iff_ne.2 e6
  clear e0 e1 e2 e3 e4 e5 e6 e7
  go_enter Tryz.func174,Tryz.ntmps174
  go_wp2
  go_ret
  exact ⟨ret_bool HB.out.symm,rfl⟩
 by_cases e8:(s[i].toNat:Int) = 41
 ·have f8:((s[i].toNat:Int) == 41) = true:=beq_iff_eq.2 e8
  have HB:Hid (signB s[i] = true):=by show _ = _; unfold signB; simp; omega
  have f0:((s[i].toNat:Int) == 59) = false:=beq_eq_false_iff_ne.2 e0
  have f1:((s[i].toNat:Int) == 44) = false:=beq_eq_false_iff_ne.2 e1
  have f2:((s[i].toNat:Int) == 61) = false:=beq_eq_false_iff_ne.2 e2
  have f3:((s[i].toNat:Int) == 33) = false:=beq_eq_false_iff_ne.2 e3
  have f4:((s[i].toNat:Int) == 38) = false:=beq_eq_false_iff_ne.2 e4
  have f5:((s[i].toNat:Int) == 124) = false:=beq_eq_false_iff_ne.2 e5
  have f6:((s[i].toNat:Int) == 63) = false:=beq_eq_false_iff_ne.2 e6
  have f7:((s[i].toNat:Int) == 40) = false:=beq_eq_false_iff_ne.2 e7
  clear e0 e1 e2 e3 e4 e5 e6 e7 e8
  go_enter Tryz.func174,Tryz.ntmps174
  go_wp2
  go_ret
  exact ⟨ret_bool HB.out.symm,rfl⟩
 by_cases e9:(s[i].toNat:Int) = 123
 ·have f9:((s[i].toNat:Int) == 123) = true:=beq_iff_eq.2 e9
  have HB:Hid (signB s[i] = true):=by show _ = _; unfold signB; simp; omega
  have f0:((s[i].toNat:Int) == 59) = false:=beq_eq_false_iff_ne.2 e0
  have f1:((s[i].toNat:Int) == 44) = false:=beq_eq_false_iff_ne.2 e1
  have f2:((s[i].toNat:Int) == 61) = false:=beq_eq_false_iff_ne.2 e2
  have f3:((s[i].toNat:Int) == 33) = false:=beq_eq_false_iff_ne.2 e3
  have f4:((s[i].toNat:Int) == 38) = false:=beq_eq_false_iff_ne.2 e4
  have f5:((s[i].toNat:Int) == 124) = false:=beq_eq_false_iff_ne.2 e5
  have f6:((s[i].toNat:Int) == 63) = false:=beq_eq_false_iff_ne.2 e6
  have f7:((s[i].toNat:Int) == 40) = false:=beq_eq_false_iff_ne.2 e7
  have f8:((s[i].toNat:Int) == 41) = false:=beq_eq_false_iff_ne.2 e8
  clear e0 e1 e2 e3 e4 e5 e6 e7 e8 e9
  go_enter Tryz.func174,Tryz.ntmps174
  go_wp2
  go_ret
  exact ⟨ret_bool HB.out.symm,rfl⟩
 by_cases e10:(s[i].toNat:Int) = 125
 ·have f10:((s[i].toNat:Int) == 125) = true:=beq_iff_eq.2 e10
  have HB:Hid (signB s[i] = true):=by show _ = _; unfold signB; simp; omega
  have f0:((s[i].toNat:Int) == 59) = false:=beq_eq_false_iff_ne.2 e0
  have f1:((s[i].toNat:Int) == 44) = false:=beq_eq_false_iff_ne.2 e1
  have f2:((s[i].toNat:Int) == 61) = false:=beq_eq_false_iff_ne.2 e2
  have f3:((s[i].toNat:Int) == 33) = false:=beq_eq_false_iff_ne.2 e3
  have f4:((s[i].toNat:Int) == 38) = false:=beq_eq_false_iff_ne.2 e4
  have f5:((s[i].toNat:Int) == 124) = false:=beq_eq_false_iff_ne.2 e5
  have f6:((s[i].toNat:Int) == 63) = false:=beq_eq_false_iff_ne.2 e6
  have f7:((s[i].toNat:Int) == 40) = false:=beq_eq_false_iff_ne.2 e7
  have f8:((s[i].toNat:Int) == 41) = false:=beq_eq_false_iff_ne.2 e8
  have f9:((s[i].toNat:Int) == 123) = false:=beq_eq_false_iff_ne.2 e9
  clear e0 e1 e2 e3 e4 e5 e6 e7 e8 e9 e10
  go_enter Tryz.func174,Tryz.ntmps174
  go_wp2
  go_ret
  exact ⟨ret_bool HB.out.symm,rfl⟩
 have f0:((s[i].toNat:Int) == 59) = false:=beq_eq_false_iff_ne.2 e0
 have f1:((s[i].toNat:Int) == 44) = false:=beq_eq_false_iff_ne.2 e1
 have f2:((s[i].toNat:Int) == 61) = false:=beq_eq_false_iff_ne.2 e2
 have f3:((s[i].toNat:Int) == 33) = false:=beq_eq_false_iff_ne.2 e3
 have f4:((s[i].toNat:Int) == 38) = false:=beq_eq_false_iff_ne.2 e4
 have f5:((s[i].toNat:Int) == 124) = false:=beq_eq_false_iff_ne.2 e5
 have f6:((s[i].toNat:Int) == 63) = false:=beq_eq_false_iff_ne.2 e6
 have f7:((s[i].toNat:Int) == 40) = false:=beq_eq_false_iff_ne.2 e7
 have f8:((s[i].toNat:Int) == 41) = false:=beq_eq_false_iff_ne.2 e8
 have f9:((s[i].toNat:Int) == 123) = false:=beq_eq_false_iff_ne.2 e9
 have f10:((s[i].toNat:Int) == 125) = false:=beq_eq_false_iff_ne.2 e10
 have HB:Hid (signB s[i] = false):=by show _ = _; unfold signB; simp; omega
 clear e0 e1 e2 e3 e4 e5 e6 e7 e8 e9 e10
 go_enter Tryz.func174,Tryz.ntmps174
 go_wp2
 go_ret
 exact ⟨ret_bool HB.out.symm,rfl⟩
set_option maxRecDepth 100000 in
set_option maxHeartbeats 2000000 in
theorem t_hasMeaning (t:ByteArray) (w:World) :
    Calls Tryz.prog 176 #[.string t] w fun e w'=>e = .returned (.bool (memB kws t))∧w' = w:=by
 by_cases e0:t = ⟨#[115,104,97,114,101,100]⟩
 ·subst e0
  have HB:Hid (memB kws ⟨#[115,104,97,114,101,100]⟩ = true):=by show _ = _; decide
  go_enter Tryz.func176,Tryz.ntmps176
  go_wp2
  go_ret
  exact ⟨ret_bool HB.out.symm,rfl⟩
 have f0:(t.toList == [115,104,97,114,101,100]) = false:=lit_ne e0 (by rw [bl])
 by_cases e1:t = ⟨#[108,111,99,107,115]⟩
 ·subst e1
  have HB:Hid (memB kws ⟨#[108,111,99,107,115]⟩ = true):=by show _ = _; decide
  go_enter Tryz.func176,Tryz.ntmps176
  go_wp2
  go_ret
  exact ⟨ret_bool HB.out.symm,rfl⟩
 have f1:(t.toList == [108,111,99,107,115]) = false:=lit_ne e1 (by rw [bl])
 by_cases e2:t = ⟨#[112,114,111,99]⟩
 ·subst e2
  have HB:Hid (memB kws ⟨#[112,114,111,99]⟩ = true):=by show _ = _; decide
  go_enter Tryz.func176,Tryz.ntmps176
  go_wp2
  go_ret
  exact ⟨ret_bool HB.out.symm,rfl⟩
 have f2:(t.toList == [112,114,111,99]) = false:=lit_ne e2 (by rw [bl])
 by_cases e3:t = ⟨#[116,104,114,101,97,100,115]⟩
 ·subst e3
  have HB:Hid (memB kws ⟨#[116,104,114,101,97,100,115]⟩ = true):=by show _ = _; decide
  go_enter Tryz.func176,Tryz.ntmps176
  go_wp2
  go_ret
  exact ⟨ret_bool HB.out.symm,rfl⟩
 have f3:(t.toList == [116,104,114,101,97,100,115]) = false:=lit_ne e3 (by rw [bl])
 by_cases e4:t = ⟨#[105,102]⟩
 ·subst e4
  have HB:Hid (memB kws ⟨#[105,102]⟩ = true):=by show _ = _; decide
  go_enter Tryz.func176,Tryz.ntmps176
  go_wp2
  go_ret
  exact ⟨ret_bool HB.out.symm,rfl⟩
 have f4:(t.toList == [105,102]) = false:=lit_ne e4 (by rw [bl])
 by_cases e5:t = ⟨#[101,108,115,101]⟩
 ·subst e5
  have HB:Hid (memB kws ⟨#[101,108,115,101]⟩ = true):=by show _ = _; decide
  go_enter Tryz.func176,Tryz.ntmps176
  go_wp2
  go_ret
  exact ⟨ret_bool HB.out.symm,rfl⟩
 have f5:(t.toList == [101,108,115,101]) = false:=lit_ne e5 (by rw [bl])
 by_cases e6:t = ⟨#[119,104,105,108,101]⟩
 ·subst e6
  have HB:Hid (memB kws ⟨#[119,104,105,108,101]⟩ = true):=by show _ = _; decide
  go_enter Tryz.func176,Tryz.ntmps176
  go_wp2
  go_ret
  exact ⟨ret_bool HB.out.symm,rfl⟩
 have f6:(t.toList == [119,104,105,108,101]) = false:=lit_ne e6 (by rw [bl])
 by_cases e7:t = ⟨#[97,115,115,117,109,101]⟩
 ·subst e7
  have HB:Hid (memB kws ⟨#[97,115,115,117,109,101]⟩ = true):=by show _ = _; decide
  go_enter Tryz.func176,Tryz.ntmps176
  go_wp2
  go_ret
  exact ⟨ret_bool HB.out.symm,rfl⟩
 have f7:(t.toList == [97,115,115,117,109,101]) = false:=lit_ne e7 (by rw [bl])
 by_cases e8:t = ⟨#[97,99,113,117,105,114,101]⟩
 ·subst e8
  have HB:Hid (memB kws ⟨#[97,99,113,117,105,114,101]⟩ = true):=by show _ = _; decide
  go_enter Tryz.func176,Tryz.ntmps176
  go_wp2
  go_ret
  exact ⟨ret_bool HB.out.symm,rfl⟩
 have f8:(t.toList == [97,99,113,117,105,114,101]) = false:=lit_ne e8 (by rw [bl])
 by_cases e9:t = ⟨#[114,101,108,101,97,115,101]⟩
 ·subst e9
  have HB:Hid (memB kws ⟨#[114,101,108,101,97,115,101]⟩ = true):=by show _ = _; decide
  go_enter Tryz.func176,Tryz.ntmps176
  go_wp2
  go_ret
  exact ⟨ret_bool HB.out.symm,rfl⟩
 have f9:(t.toList == [114,101,108,101,97,115,101]) = false:=lit_ne e9 (by rw [bl])
 by_cases e10:t = ⟨#[114,101,116,117,114,110]⟩
 ·subst e10
  have HB:Hid (memB kws ⟨#[114,101,116,117,114,110]⟩ = true):=by show _ = _; decide
  go_enter Tryz.func176,Tryz.ntmps176
  go_wp2
  go_ret
  exact ⟨ret_bool HB.out.symm,rfl⟩
 have f10:(t.toList == [114,101,116,117,114,110]) = false:=lit_ne e10 (by rw [bl])
 by_cases e11:t = ⟨#[115,107,105,112]⟩
 ·subst e11
  have HB:Hid (memB kws ⟨#[115,107,105,112]⟩ = true):=by show _ = _; decide
  go_enter Tryz.func176,Tryz.ntmps176
  go_wp2
  go_ret
  exact ⟨ret_bool HB.out.symm,rfl⟩
 have f11:(t.toList == [115,107,105,112]) = false:=lit_ne e11 (by rw [bl])
 by_cases e12:t = ⟨#[116,114,117,101]⟩
 ·subst e12
  have HB:Hid (memB kws ⟨#[116,114,117,101]⟩ = true):=by show _ = _; decide
  go_enter Tryz.func176,Tryz.ntmps176
  go_wp2
  go_ret
  exact ⟨ret_bool HB.out.symm,rfl⟩
 have f12:(t.toList == [116,114,117,101]) = false:=lit_ne e12 (by rw [bl])
 by_cases e13:t = ⟨#[102,97,108,115,101]⟩
 ·subst e13
  have HB:Hid (memB kws ⟨#[102,97,108,115,101]⟩ = true):=by show _ = _; decide
  go_enter Tryz.func176,Tryz.ntmps176
  go_wp2
  go_ret
  exact ⟨ret_bool HB.out.symm,rfl⟩
 have f13:(t.toList == [102,97,108,115,101]) = false:=lit_ne e13 (by rw [bl])
 have HB:Hid (memB kws t = false):=by
  show _ = _
  unfold memB kws
  simp only [List.any_cons,List.any_nil,Bool.or_false]
  rw [decide_eq_false (fun h=>e0 h.symm),decide_eq_false (fun h=>e1 h.symm),decide_eq_false (fun h=>e2 h.symm),decide_eq_false (fun h=>e3 h.symm),decide_eq_false (fun h=>e4 h.symm),decide_eq_false (fun h=>e5 h.symm),decide_eq_false (fun h=>e6 h.symm),decide_eq_false (fun h=>e7 h.symm),decide_eq_false (fun h=>e8 h.symm),decide_eq_false (fun h=>e9 h.symm),decide_eq_false (fun h=>e10 h.symm),decide_eq_false (fun h=>e11 h.symm),decide_eq_false (fun h=>e12 h.symm),decide_eq_false (fun h=>e13 h.symm)]
  rfl
 clear e0 e1 e2 e3 e4 e5 e6 e7 e8 e9 e10 e11 e12 e13
 go_enter Tryz.func176,Tryz.ntmps176
 go_wp2
 go_ret
 exact ⟨ret_bool HB.out.symm,rfl⟩
set_option maxRecDepth 100000 in
set_option maxHeartbeats 1000000 in
theorem t_lettersAt (s:ByteArray) (i:Nat) (w:World) (hs:s.size ≤ 500) (hi:i < s.size) :
    Calls Tryz.prog 173 #[.string s,.int .i64 i] w fun e w'=>e = .returned (.int .i64 ((runF s i - i:Nat):Int))∧w' = w:=by
 go_enter Tryz.func173,Tryz.ntmps173
 go_wp2
 go_loop [5,6] (fun v u=>∃ k:Nat,u = .int .i64 k∧v = .int .i64 ((k - i:Nat):Int)∧i ≤ k∧k ≤ s.size∧runF s i = runF s k) (fun _ u=>s.size - (intOf u).toNat)
 case atStart=>exact ⟨i,rfl,by rw [Nat.sub_self]; rfl,Nat.le_refl _,by omega,rfl⟩
 case round =>
  obtain ⟨k,rfl,rfl,h1,h2,h3⟩:=hrel
  have H3:=hide h3
  clear h3
  by_cases hk:k < s.size
  ·cases hL:isLetterB s[k]
   ·have HE:=hide (runF_no hk hL)
    go_wp2_with (go_at_call 175; refine (t_isLetter s[k] _).mono ?_; rintro e w' ⟨rfl,hw'⟩; subst hw')
    go_ret
    exact ⟨ret_int (by rw [H3.out,HE.out]),rfl⟩
   ·have HE:=hide (runF_yes hk hL)
    go_wp2_with (go_at_call 175; refine (t_isLetter s[k] _).mono ?_; rintro e w' ⟨rfl,hw'⟩; subst hw')
    go_round
    case rel=>exact ⟨k + 1,by go_num,by congr 1; omega,by omega,by omega,by rw [H3.out,HE.out]⟩
    case measure=>simp [intOf]; omega
  ·have HE:=hide (runF_out hk)
   go_wp2
   go_ret
   exact ⟨ret_int (by rw [H3.out,HE.out]),rfl⟩
end Go.Proofs.YtmfcpbhdggonfaaGreatDoor
namespace Go.Proofs.YtmfcpbhdggonfaaGreatDoor
open Go.RowKit RR
def sizeB (s:ByteArray) (i:Nat) (h:i < s.size):Nat :=
 if 8 < runF s i - i then 0 else if runF s i - i = 0∧signB s[i] = true then 1 else runF s i - i
set_option maxRecDepth 100000 in
set_option maxHeartbeats 1000000 in
theorem t_sizeAt (s:ByteArray) (i:Nat) (w:World) (hs:s.size ≤ 500) (hi:i < s.size) :
    Calls Tryz.prog 134 #[.string s,.int .i64 i] w fun e w'=>e = .returned (.int .i64 (sizeB s i hi))∧w' = w:=by
 have hr:=runF_le s i (by omega)
 by_cases h8:8 < runF s i - i
 ·have HR:Hid (sizeB s i hi = 0):=by show _ = _; unfold sizeB; rw [if_pos h8]
  go_enter Tryz.func134,Tryz.ntmps134
  go_wp2_with fail
  refine (t_lettersAt s i _ hs hi).mono ?_
  rintro e w' ⟨rfl,hw'⟩
  subst hw'
  generalize runF s i - i = m at *
  have h8':(8:Int) < m:=by omega
  go_wp2
  go_ret
  exact ⟨ret_int (by rw [HR.out]; rfl),rfl⟩
 ·by_cases h0:runF s i - i = 0
  ·cases hS:signB s[i]
   ·have HR:Hid (sizeB s i hi = 0):=by show _ = _; unfold sizeB; rw [if_neg h8,if_neg (by rw [hS]; simp)]; exact h0
    go_enter Tryz.func134,Tryz.ntmps134
    go_wp2_with fail
    refine (t_lettersAt s i _ hs hi).mono ?_
    rintro e w' ⟨rfl,hw'⟩
    subst hw'
    rw [h0]
    clear h8 h0 hr
    go_wp2_with fail
    refine (t_isSign s i _ hs hi).mono ?_
    rintro e w' ⟨rfl,hw'⟩
    subst hw'
    go_wp2_with fail
    go_ret
    exact ⟨ret_int (by rw [HR.out]; rfl),rfl⟩
   ·have HR:Hid (sizeB s i hi = 1):=by show _ = _; unfold sizeB; rw [if_neg h8,if_pos ⟨h0,hS⟩]
    go_enter Tryz.func134,Tryz.ntmps134
    go_wp2_with fail
    refine (t_lettersAt s i _ hs hi).mono ?_
    rintro e w' ⟨rfl,hw'⟩
    subst hw'
    rw [h0]
    clear h8 h0 hr
    go_wp2_with fail
    refine (t_isSign s i _ hs hi).mono ?_
    rintro e w' ⟨rfl,hw'⟩
    subst hw'
    go_wp2_with fail
    go_ret
    exact ⟨ret_int (by rw [HR.out]; rfl),rfl⟩
  ·have HR:Hid (sizeB s i hi = runF s i - i):=by show _ = _; unfold sizeB; rw [if_neg h8,if_neg (fun h=>h0 h.1)]
   go_enter Tryz.func134,Tryz.ntmps134
   go_wp2_with fail
   refine (t_lettersAt s i _ hs hi).mono ?_
   rintro e w' ⟨rfl,hw'⟩
   subst hw'
   generalize runF s i - i = m at *
   have h8':(m:Int) ≤ 8:=by omega
   have h0':((m:Int) == 0) = false:=beq_eq_false_iff_ne.2 (by omega)
   clear h0
   go_wp2_with fail
   go_ret
   exact ⟨ret_int (by rw [HR.out]),rfl⟩
set_option maxRecDepth 100000 in
set_option maxHeartbeats 1000000 in
theorem t_tokenAt (s:ByteArray) (i n:Nat) (w:World) (hs:s.size ≤ 500) (hi:i < s.size) (hn:1 ≤ n) (hin:i + n ≤ s.size) :
    Calls Tryz.prog 135 #[.string s,.int .i64 i,.int .i64 n] w fun e w'=>e = .returned (.agg #[.string (s.extract i (i + n)),.int .i64 i,.bool (isLetterB s[i] && !(memB kws (s.extract i (i + n))))])∧Below w.heap.size w w':=by
 have a1:(n:Int) ≤ s.size - i:=by omega
 have a2:((i + n:Nat):Int) ≤ s.size:=by omega
 go_enter Tryz.func135,Tryz.ntmps135
 cases hL:isLetterB s[i]
 ·go_wp2_with fail
  refine (t_isLetter s[i] _).mono ?_
  rintro e w' ⟨rfl,hw'⟩
  subst hw'
  go_wp2_with fail
  exact bodyPost_ret (v:=.agg #[.string (s.extract i (i + n)),.int .i64 i,.bool false]) (by simp [results,Tryz.results135,go_sem]) rfl ⟨rfl,(Below.refl _ _).alloc (Nat.le_refl _) _⟩
 ·go_wp2_with fail
  refine (t_isLetter s[i] _).mono ?_
  rintro e w' ⟨rfl,hw'⟩
  subst hw'
  go_wp2_with fail
  refine (t_hasMeaning _ _).mono ?_
  rintro e w' ⟨rfl,hw'⟩
  subst hw'
  go_wp2_with fail
  exact bodyPost_ret (v:=.agg #[.string (s.extract i (i + n)),.int .i64 i,.bool !memB kws (s.extract i (i + n))]) (by simp [results,Tryz.results135,go_sem]) rfl ⟨by rw [Bool.true_and],(Below.refl _ _).alloc (Nat.le_refl _) _⟩
theorem ext_one (s:ByteArray) (i:Nat) (h:i < s.size):s.extract i (i + 1) = ⟨#[s[i]]⟩:=by
 apply toList_inj.1
 rw [bl,bl]
 apply List.ext_getElem?
 intro k
 have h1:(s.extract i (i + 1)).size = 1:=by rw [ext_size s i (i + 1) (by omega) (by omega)]; omega
 cases k with
 | zero =>
  have h2:0 < (s.extract i (i + 1)).size:=by omega
  have e:=ext_first s i (i + 1) (by omega) (by omega) h2
  have e2:(s.extract i (i + 1)).data.toList[0]? = some (s.extract i (i + 1))[0]:=List.getElem?_eq_getElem (l:=(s.extract i (i + 1)).data.toList) (i:=0) h2
  rw [e2,e]; rfl
 | succ k =>
  rw [List.getElem?_eq_none (by have:(s.extract i (i + 1)).data.toList.length = 1:=h1
                                omega)]
  rfl
theorem sign_one (s:ByteArray) (i:Nat) (h:i < s.size):memB signs (s.extract i (i + 1)) = signB s[i]:=by
 rw [ext_one s i h]
 generalize s[i] = c
 have key:∀ d:UInt8,decide ((⟨#[d]⟩:ByteArray) = ⟨#[c]⟩) = decide (c.toNat = d.toNat):=by
  intro d
  rw [Bool.eq_iff_iff,decide_eq_true_iff,decide_eq_true_iff]
  constructor
  ·intro e; injection e with e; simp at e; rw [e]
  ·intro e
   have:c = d:=UInt8.toNat_inj.1 e
   rw [this]
 unfold memB signs signB
 simp only [List.any_cons,List.any_nil,Bool.or_false,key,Bool.or_assoc]
 rfl
theorem size_ok (s:ByteArray) (i:Nat) (h:i < s.size):(okAt s i h = true∧sizeB s i h ≠ 0∧endAt s i h = i + sizeB s i h) ∨ (okAt s i h = false∧sizeB s i h = 0):=by
 have hg:=endAt_gt s i h
 cases hL:isLetterB s[i]
 ·have he:=endAt_other h hL
  have hr:=runF_no h hL
  have hs:=sign_one s i h
  unfold okAt sizeB
  rw [hL,he,hr,hs,Nat.sub_self]
  cases hS:signB s[i]
  ·right; simp
  ·left; simp
 ·have he:=endAt_letter h hL
  have hr:runF s i = endAt s i h:=by rw [he,runF_yes h hL]
  unfold okAt sizeB
  rw [hL,hr]
  by_cases h8:8 < endAt s i h - i
  ·right
   rw [if_pos h8,decide_eq_false (by omega)]
   refine ⟨?_,rfl⟩
   have:memB signs (s.extract i (endAt s i h)) = false:=by
    unfold memB
    rw [List.any_eq_false]
    intro x hx
    rw [decide_eq_true_iff]
    intro e
    have h1:x.size = endAt s i h - i:=by rw [e]; exact ext_size s i _ (by omega) (by omega)
    have h2:x.size = 1:=by
     simp only [signs,List.mem_cons,List.not_mem_nil,or_false] at hx
     rcases hx with rfl | rfl | rfl | rfl | rfl | rfl | rfl | rfl | rfl | rfl | rfl <;> rfl
    omega
   rw [this]; rfl
  ·left
   rw [if_neg h8,if_neg (by omega),decide_eq_true (by omega)]
   exact ⟨rfl,by omega,by omega⟩
theorem name_ok (s:ByteArray) (i n:Nat) (h:i < s.size) (hn:1 ≤ n) (hin:i + n ≤ s.size):(isLetterB s[i] && !(memB kws (s.extract i (i + n)))) = isNameB (s.extract i (i + n)):=by
 have h1:0 < (s.extract i (i + n)).size:=by rw [ext_size s i (i + n) (by omega) hin]; omega
 rw [isName_pos h1,ext_first s i (i + n) (by omega) hin h1]
theorem Tryz.infoTok3:(Tryz.prog.info? 228).map (fun i=>(i.zero,i.size,i.bytes)) = some (some (.agg #[.string ⟨#[]⟩,.int .i64 0,.bool false]),3,32):=by kernel_rfl
def toks3:List Tk→List Value
 | []=>[]
 | t :: r=>.string t.t :: .int .i64 t.p :: .bool (isNameB t.t) :: toks3 r
theorem toks3_append (a b:List Tk):toks3 (a ++ b) = toks3 a ++ toks3 b:=by
 induction a with
 | nil=>rfl
 | cons t r ih=>show _ :: _ :: _ :: toks3 (r ++ b) = _; rw [ih]; rfl
theorem toks3_get (a:List Tk) (i:Nat) (h:i < a.length):(toks3 a)[i * 3]? = some (.string a[i].t)∧(toks3 a)[i * 3 + 1]? = some (.int .i64 a[i].p)∧(toks3 a)[i * 3 + 2]? = some (.bool (isNameB a[i].t)):=by
 induction a generalizing i with
 | nil=>cases h
 | cons t r ih =>
  cases i with
  | zero=>exact ⟨rfl,rfl,rfl⟩
  | succ k =>
   have:=ih k (by simpa using h)
   rw [show (k + 1) * 3 = k * 3 + 1 + 1 + 1 from by omega]
   exact this
theorem three_cells {w:World} {T:TypeId} {x y z:Value}:∀ (j:Nat) (u:Value),[x,y,z][j]? = some u→(w.alloc (.cells #[x,y,z] T)).cell? ((⟨w.heap.size,0,none⟩:Addr).add j) = some u:=by
 intro j u hj
 have hh:(w.alloc (.cells #[x,y,z] T)).heap[w.heap.size]? = some (.cells #[x,y,z] T):=heap_alloc_new w _
 rw [addr_add]
 match j,hj with
 | 0,hj=>simp only [World.cell?,hh]; exact hj
 | 1,hj=>simp only [World.cell?,hh]; exact hj
 | 2,hj=>simp only [World.cell?,hh]; exact hj
theorem app_tok3 {ops:Array Oper} {rest:List Oper} {o:Oper} {a:Act} {Q:Exit→Act→World→Prop} {w0:World} {B:Nat} {v:Value} {l:List Tk} (t:ByteArray) (p:Nat)
    (hown:w0.ownsRow B 228 3 v l.length (toks3 l)) (hl:l.length ≤ 100000) (hB:B ≤ w0.heap.size) (hgd:o.guard = none) (s x:Operand)
    (ho:o.op = .call { callee:=.builtin .append,args:=#[s,x],argTypes:=#[174,174] }) (hs:a.eval s = v) {nb:Nat}
    (hx:a.eval x = .slice (some ⟨nb,0,none⟩) 1 1) (hnb:nb = w0.heap.size)
    (h:∀ v' w',w'.ownsRow B 228 3 v' (l ++ [(⟨t,p⟩:Tk)]).length (toks3 (l ++ [(⟨t,p⟩:Tk)]))→(∀ a0,Below B a0 w0→Below B a0 w')→wpList Tryz.prog ops Q rest (a.put o.dst v') w') :
    wpList Tryz.prog ops Q (o :: rest) a (w0.alloc (.cells #[.string t,.int .i64 p,.bool (isNameB t)] 228)):=by
 obtain ⟨i0,hi0,hz0,hz1,hz2⟩:=info_parts Tryz.infoTok3
 subst hnb
 refine wpList_append_own _ hgd s x 174 ho B 228 i0 (.agg #[.string ⟨#[]⟩,.int .i64 0,.bool false]) 3 32 Tryz.underlying174 hi0 hz0 hz1 hz2 rfl (by decide) v l.length (toks3 l) hs (hown.alloc _) ⟨w0.heap.size,0,none⟩ 1 1 [.string t,.int .i64 p,.bool (isNameB t)] hx rfl three_cells ?_ (by unfold maxLen; omega) (by omega) (by simp; omega) ?_
 ·intro u hu
  rcases List.mem_cons.1 hu with rfl | hu
  ·rfl
  ·rcases List.mem_cons.1 hu with rfl | hu
   ·rfl
   ·rcases List.mem_cons.1 hu with rfl | hu
    ·rfl
    ·cases hu
 ·intro v' w' h1 h2 _
  refine h v' w' ?_ fun a0 h0=>(h0.alloc hB _).grown h2 (by simp; omega) fun k hk=>(hown.lt k hk).1
  rw [toks3_append,List.length_append]; exact h1
set_option maxRecDepth 100000 in
set_option maxHeartbeats 1000000 in
theorem t_cut (s:ByteArray) (w:World) (hs:s.size ≤ 500) :
    Calls Tryz.prog 99 #[.string s] w fun e w'=>((lexF s 0).2 = none∧∃ v,e = .returned (.tuple #[v,.int .i64 0,.bool true])∧w'.ownsRow w.heap.size 228 3 v (lexF s 0).1.length (toks3 (lexF s 0).1)∧Below w.heap.size w w') ∨ (∃ p:Nat,(lexF s 0).2 = some p∧e = .returned (.tuple #[.slice none 0 0,.int .i64 p,.bool false])∧Below w.heap.size w w'):=by
 go_enter Tryz.func99,Tryz.ntmps99
 go_wp2_with fail
 go_loopw [5,6] (fun v u wr=>∃ (i:Nat) (acc:List Tk),u = .int .i64 i∧i ≤ s.size∧acc.length ≤ i∧(acc ++ (lexF s i).1,(lexF s i).2) = lexF s 0∧wr.ownsRow w.heap.size 228 3 v acc.length (toks3 acc)∧Below w.heap.size w wr) (fun _ u _=>s.size - (intOf u).toNat)
 case atStart=>exact ⟨0,[],rfl,Nat.zero_le _,Nat.zero_le _,rfl,World.ownsRow_nil _ _ _ _,Below.refl _ _⟩
 case round =>
  obtain ⟨i,acc,rfl,hi,hacc,hn,hown,hbel⟩:=hrel
  have HN:=hide hn
  clear hn
  by_cases hlt:i < s.size
  ·cases hB:blankB s[i]
   ·rcases size_ok s i hlt with ⟨ho,hz,he⟩ | ⟨ho,hz⟩
    ·have hg:=endAt_gt s i hlt
     have HE:Hid (lexF s i = (⟨s.extract i (i + sizeB s i hlt),i⟩ :: (lexF s (i + sizeB s i hlt)).1,(lexF s (i + sizeB s i hlt)).2)):=by show _ = _; rw [lexF_ok hlt hB ho,he]
     have hin:i + sizeB s i hlt ≤ s.size:=by omega
     go_wp2_with fail
     refine (t_isBlank s[i] _).mono ?_
     rintro e w1 ⟨rfl,hw1⟩
     subst hw1
     go_wp2_with fail
     refine (t_sizeAt s i _ hs hlt).mono ?_
     rintro e w1 ⟨rfl,hw1⟩
     subst hw1
     generalize sizeB s i hlt = m at *
     have hm1:1 ≤ m:=by omega
     have hm0:((m:Int) == 0) = false:=beq_eq_false_iff_ne.2 (by omega)
     have HNM:=hide (name_ok s i m hlt hm1 hin)
     clear he hz hg
     go_wp2_with fail
     refine (t_tokenAt s i m _ hs hlt hm1 hin).mono ?_
     rintro e w2 ⟨rfl,hb2⟩
     rw [HNM.out]
     have hown2:=owns_below hown hb2
     have hbel2:=hbel.trans (hb2.mono hbel.size)
     go_wp2_with (at_builtin; refine app_tok3 (s.extract i (i + m)) i (hown2.alloc _) (by omega) (Nat.le_trans hbel2.size (by simp)) rfl _ _ rfl rfl rfl (by simp) ?_; intro v3 w3 hown3 hb3)
     go_roundw
     case rel=>exact ⟨i + m,acc ++ [⟨s.extract i (i + m),i⟩],by go_num,by omega,by simp; omega,by rw [← HN.out,HE.out,List.append_assoc]; rfl,hown3,hb3 _ (hbel2.alloc hbel2.size _)⟩
     case measure=>simp [intOf]; omega
    ·have HE:=hide (lexF_bad hlt hB ho)
     go_wp2_with fail
     refine (t_isBlank s[i] _).mono ?_
     rintro e w1 ⟨rfl,hw1⟩
     subst hw1
     go_wp2_with fail
     refine (t_sizeAt s i _ hs hlt).mono ?_
     rintro e w1 ⟨rfl,hw1⟩
     subst hw1
     rw [hz]
     go_wp2_with fail
     go_ret3
     exact .inr ⟨i,by rw [← HN.out,HE.out],rfl,hbel⟩
   ·have HE:=hide (lexF_blank hlt hB)
    go_wp2_with fail
    refine (t_isBlank s[i] _).mono ?_
    rintro e w1 ⟨rfl,hw1⟩
    subst hw1
    go_wp2_with fail
    go_roundw
    case rel=>exact ⟨i + 1,acc,by go_num,by omega,by omega,by rw [← HN.out,HE.out],hown,hbel⟩
    case measure=>simp [intOf]; omega
  ·have HE:=hide (lexF_out hlt)
   go_wp2_with fail
   go_ret3
   have he:lexF s 0 = (acc,none):=by rw [← HN.out,HE.out,List.append_nil]
   exact .inl ⟨by rw [he],_,rfl,by rw [he]; exact hown,hbel⟩
end Go.Proofs.YtmfcpbhdggonfaaGreatDoor
namespace Go.Proofs.YtmfcpbhdggonfaaGreatDoor
open Go.RowKit RR
set_option maxRecDepth 100000 in
set_option maxHeartbeats 2000000 in
theorem c_paramsOf (ao:Option Addr) (cap:Nat) (l:List Nm) (t:ByteArray) (w:World) (hl:l.length ≤ 1000) (hi:NmSl w ao l) :
    Calls Tryz.prog 187 #[.slice ao l.length cap,.string t] w fun e w'=>e = .returned (.int .i64 (paramsP l t))∧Below w.heap.size w w':=by
 go_enter Tryz.func187,Tryz.ntmps187
 go_wp2
 go_loopw [5,6,11] (fun v5 v6 u wr=>∃ (k:Nat) (p:Int) (q:Nat),v5 = .int .i64 p∧v6 = .int .i64 q∧u = .int .i64 k∧k ≤ l.length∧q ≤ k∧(l.take k).foldl (pstep t) (-1,0) = (p,q)∧Below w.heap.size w wr) (fun _ _ u _=>l.length - (intOf u).toNat)
 case atStart=>exact ⟨0,-1,0,rfl,rfl,rfl,Nat.zero_le _,Nat.zero_le _,rfl,Below.refl _ _⟩
 case round =>
  obtain ⟨k,p,q,rfl,rfl,rfl,hk,hq,hn,hbel⟩:=hrel
  by_cases hlt:k < l.length
  ·obtain ⟨b,o,hb,hao,c1,c2,c3,c4⟩:=(hi.below hbel) k hlt
   subst hao
   have HS:Hid ((l.take (k + 1)).foldl (pstep t) (-1,0) = pstep t (p,q) l[k]):=by show _ = _; rw [foldl_snoc _ _ l k hlt,hn]
   clear hn
   by_cases h2:l[k].role = 2
   ·have e2:((l[k].role:Int) == 2) = true:=beq_iff_eq.2 (by omega)
    have e3:((l[k].role:Int) == 3) = false:=beq_eq_false_iff_ne.2 (by omega)
    cases hw:(l[k].word.toList == t.toList)
    ·have HW:Hid (¬ l[k].word = t):=fun e=>by rw [e] at hw; simp at hw
     have HE:Hid (pstep t (p,q) l[k] = (p,q)):=by show _ = _; unfold pstep; dsimp only; rw [if_neg (fun h=>HW.out h.2),if_neg (by omega)]
     clear h2
     go_wp2_with fail
     go_roundw
     case rel=>exact ⟨k + 1,p,q,rfl,rfl,by go_num,by omega,by omega,by rw [HS.out,HE.out],hbel.alloc hbel.size _⟩
     case measure=>simp [intOf]; omega
    ·have HW:Hid (l[k].word = t):=toList_inj.1 (by simpa using hw)
     have HE:Hid (pstep t (p,q) l[k] = (l[k].proc,q)):=by show _ = _; unfold pstep; dsimp only; rw [if_pos ⟨h2,HW.out⟩,if_neg (by omega)]
     clear h2
     go_wp2_with fail
     go_roundw
     case rel=>exact ⟨k + 1,l[k].proc,q,rfl,rfl,by go_num,by omega,by omega,by rw [HS.out,HE.out],hbel.alloc hbel.size _⟩
     case measure=>simp [intOf]; omega
   ·have e2:((l[k].role:Int) == 2) = false:=beq_eq_false_iff_ne.2 (by omega)
    by_cases h3:l[k].role = 3
    ·have e3:((l[k].role:Int) == 3) = true:=beq_iff_eq.2 (by omega)
     by_cases hp:l[k].proc = p
     ·have ep:(l[k].proc == p) = true:=beq_iff_eq.2 hp
      have HE:Hid (pstep t (p,q) l[k] = (p,q + 1)):=by show _ = _; unfold pstep; dsimp only; rw [if_neg (fun h=>h2 h.1),if_pos ⟨h3,hp⟩]
      clear h2 h3 hp
      go_wp2_with fail
      go_roundw
      case rel=>exact ⟨k + 1,p,q + 1,rfl,by go_num,by go_num,by omega,by omega,by rw [HS.out,HE.out],hbel.alloc hbel.size _⟩
      case measure=>simp [intOf]; omega
     ·have ep:(l[k].proc == p) = false:=beq_eq_false_iff_ne.2 hp
      have HE:Hid (pstep t (p,q) l[k] = (p,q)):=by show _ = _; unfold pstep; dsimp only; rw [if_neg (fun h=>h2 h.1),if_neg (fun h=>hp h.2)]
      clear h2 h3 hp
      go_wp2_with fail
      go_roundw
      case rel=>exact ⟨k + 1,p,q,rfl,rfl,by go_num,by omega,by omega,by rw [HS.out,HE.out],hbel.alloc hbel.size _⟩
      case measure=>simp [intOf]; omega
    ·have e3:((l[k].role:Int) == 3) = false:=beq_eq_false_iff_ne.2 (by omega)
     have HE:Hid (pstep t (p,q) l[k] = (p,q)):=by show _ = _; unfold pstep; dsimp only; rw [if_neg (fun h=>h2 h.1),if_neg (fun h=>h3 h.1)]
     clear h2 h3
     go_wp2_with fail
     go_roundw
     case rel=>exact ⟨k + 1,p,q,rfl,rfl,by go_num,by omega,by omega,by rw [HS.out,HE.out],hbel.alloc hbel.size _⟩
     case measure=>simp [intOf]; omega
  ·have HE:Hid (paramsP l t = q):=by show _ = _; unfold paramsP; rw [← List.take_of_length_le (l:=l) (i:=k) (by omega),hn]
   clear hn
   go_wp2_with fail
   go_ret
   exact ⟨ret_int (by rw [HE.out]),hbel⟩
def ClSl (w:World) (ao:Option Addr) (l:List Cl):Prop:=∀ i,(h:i < l.length)→∃ b o,b < w.heap.size∧ao = some ⟨b,o,none⟩∧w.cell? ⟨b,o + i * 3,none⟩ = some (.string l[i].word)∧w.cell? ⟨b,o + i * 3 + 1,none⟩ = some (.int .i64 l[i].at_)∧w.cell? ⟨b,o + i * 3 + 2,none⟩ = some (.int .i64 l[i].values)
theorem ClSl.below {w w':World} {ao:Option Addr} {l:List Cl} (h:ClSl w ao l) (hb:Below w.heap.size w w'):ClSl w' ao l:=fun i hi=>by
 obtain ⟨b,o,h1,h2,h3,h4,h5⟩:=h i hi
 exact ⟨b,o,Nat.lt_of_lt_of_le h1 hb.size,h2,(hb.cell (p:=⟨b,o + i * 3,none⟩) h1).trans h3,(hb.cell (p:=⟨b,o + i * 3 + 1,none⟩) h1).trans h4,(hb.cell (p:=⟨b,o + i * 3 + 2,none⟩) h1).trans h5⟩
theorem ob {w wr:World} {T:TypeId} {x0 x1 x2 x3:Value} (hb:Below (w.heap.size + 1) (w.alloc (.cells #[x0,x1,x2,x3] T)) wr):wr.cell? ⟨w.heap.size,0,none⟩ = some x0∧wr.cell? ⟨w.heap.size,1,none⟩ = some x1∧wr.cell? ⟨w.heap.size,2,none⟩ = some x2∧wr.cell? ⟨w.heap.size,3,none⟩ = some x3∧w.heap.size < wr.heap.size∧Below w.heap.size w wr:=by
 have h2:=hb.size
 refine ⟨(hb.cell (p:=⟨w.heap.size,0,none⟩) (Nat.lt_succ_self _)).trans (by simp),(hb.cell (p:=⟨w.heap.size,1,none⟩) (Nat.lt_succ_self _)).trans (by simp),(hb.cell (p:=⟨w.heap.size,2,none⟩) (Nat.lt_succ_self _)).trans (by simp),(hb.cell (p:=⟨w.heap.size,3,none⟩) (Nat.lt_succ_self _)).trans (by simp),?_,((Below.refl _ _).alloc (Nat.le_refl _) _).trans (hb.mono (Nat.le_succ _))⟩
 simp at h2; omega
theorem keep5 {wr W w1:World} {a c d:Addr} {x y z:Value} (ha:a.block < wr.heap.size) (hc:c.block < wr.heap.size) (hd:d.block < wr.heap.size) (h:W.cell? a = some x∧W.cell? c = some y∧W.cell? d = some z∧Below wr.heap.size wr W) (hb:Below W.heap.size W w1):w1.cell? a = some x∧w1.cell? c = some y∧w1.cell? d = some z∧Below wr.heap.size wr w1 :=
 ⟨(hb.cell (Nat.lt_of_lt_of_le ha h.2.2.2.size)).trans h.1,(hb.cell (Nat.lt_of_lt_of_le hc h.2.2.2.size)).trans h.2.1,(hb.cell (Nat.lt_of_lt_of_le hd h.2.2.2.size)).trans h.2.2.1,h.2.2.2.trans (hb.mono h.2.2.2.size)⟩
set_option maxRecDepth 100000 in
set_option maxHeartbeats 2000000 in
theorem c_firstWrongCall (ao ac:Option Addr) (cap capc:Nat) (a2 a3:Option Addr) (n2 c2 n3 c3:Nat) (l:List Nm) (cs:List Cl) (w:World) (hl:l.length ≤ 1000) (hcs:cs.length ≤ 1000) (hi:NmSl w ao l) (hc:ClSl w ac cs) :
    Calls Tryz.prog 140 #[.agg #[.slice ao l.length cap,.slice ac cs.length capc,.slice a2 n2 c2,.slice a3 n3 c3]] w fun e w'=>e = .returned (optOut (wrongP l cs))∧Below w.heap.size w w':=by
 have hx0:=Below.refl (w.heap.size + 1) (w.alloc (.cells #[.slice ao l.length cap,.slice ac cs.length capc,.slice a2 n2 c2,.slice a3 n3 c3] 116))
 obtain ⟨o0,o1,o2,o3,hsz0,hbel0⟩:=ob hx0
 go_enter Tryz.func140,Tryz.ntmps140
 go_wp2_with fail
 go_loopw [9] (fun u wr=>∃ (k:Nat),u = .int .i64 k∧k ≤ cs.length∧wrongP l (cs.drop k) = wrongP l cs∧Below (w.heap.size + 1) (w.alloc (.cells #[.slice ao l.length cap,.slice ac cs.length capc,.slice a2 n2 c2,.slice a3 n3 c3] 116)) wr) (fun u _=>cs.length - (intOf u).toNat)
 case atStart=>exact ⟨0,rfl,Nat.zero_le _,rfl,hx0⟩
 case round =>
  obtain ⟨k,rfl,hk,hn,hbx⟩:=hrel
  have HN:=hide hn
  have HB:=hide hbx
  obtain ⟨q0,q1,q2,q3,hsz,hbel⟩:=ob hbx
  clear hn hbx o0 o1 hsz0 hbel0 hx0
  by_cases hlt:k < cs.length
  ·obtain ⟨b,o,hb,hao,c1,c2,c3⟩:=(hc.below hbel) k hlt
   subst hao
   have hsl:=hi.below hbel
   have HD:Hid (cs.drop k = cs[k] :: cs.drop (k + 1)):=List.drop_eq_getElem_cons hlt
   by_cases hv:(cs[k].values:Int) = paramsP l cs[k].word
   ·have hv':((cs[k].values:Int) != (paramsP l cs[k].word:Int)) = false:=by rw [hv]; simp
    have HE:Hid (wrongP l (cs.drop k) = wrongP l (cs.drop (k + 1))):=by show _ = _; rw [HD.out,wrongP,if_neg (by omega)]
    clear hv
    have x0:(wr.alloc (.cells #[.string cs[k].word,.int .i64 cs[k].at_,.int .i64 cs[k].values] 286)).cell? ⟨wr.heap.size,0,none⟩ = some (.string cs[k].word):=by simp
    have x1:(wr.alloc (.cells #[.string cs[k].word,.int .i64 cs[k].at_,.int .i64 cs[k].values] 286)).cell? ⟨wr.heap.size,1,none⟩ = some (.int .i64 cs[k].at_):=by simp
    have x2:(wr.alloc (.cells #[.string cs[k].word,.int .i64 cs[k].at_,.int .i64 cs[k].values] 286)).cell? ⟨wr.heap.size,2,none⟩ = some (.int .i64 cs[k].values):=by simp
    have xq:(wr.alloc (.cells #[.string cs[k].word,.int .i64 cs[k].at_,.int .i64 cs[k].values] 286)).cell? ⟨w.heap.size,0,none⟩ = some (.slice ao l.length cap):=by rw [World.cell?_alloc_lt _ _ _ hsz]; exact q0
    have hbX:Below wr.heap.size wr (wr.alloc (.cells #[.string cs[k].word,.int .i64 cs[k].at_,.int .i64 cs[k].values] 286)):=(Below.refl _ _).alloc (Nat.le_refl _) _
    have hzX:wr.heap.size < (wr.alloc (.cells #[.string cs[k].word,.int .i64 cs[k].at_,.int .i64 cs[k].values] 286)).heap.size:=by simp
    go_wp2_with fail
    generalize (wr.alloc (.cells #[.string cs[k].word,.int .i64 cs[k].at_,.int .i64 cs[k].values] 286)) = wx at *
    have hslx:=hsl.below hbX
    have hqX:w.heap.size < wx.heap.size:=by omega
    go_region_held (fun w'=>w'.cell? ⟨w.heap.size,0,none⟩ = some (.slice ao l.length cap)∧w'.cell? ⟨wr.heap.size,0,none⟩ = some (.string cs[k].word)∧w'.cell? ⟨wr.heap.size,2,none⟩ = some (.int .i64 cs[k].values)∧Below wx.heap.size wx w') (first | exact ⟨xq,x0,x2,(Below.refl _ _).drew⟩ | exact keep5 hqX hzX hzX (by assumption) (by assumption)) (first | (go_at_call 187; refine (c_paramsOf _ _ l _ _ hl ?_).mono ?_; exact hslx.below (Below.refl _ _).drew; rintro e w2 ⟨rfl,hb2⟩))
    have hb3:Below wx.heap.size wx w2:=(Below.refl _ _).drew.trans hb2
    have hx3:=(hb3.cell (p:=⟨wr.heap.size,1,none⟩) hzX).trans x1
    have hfin:=(HB.out.trans (hbX.mono hsz)).trans (hb3.mono hqX)
    clear hb2
    go_wp2_with fail
    go_roundw
    case rel=>exact ⟨k + 1,by go_num,by omega,by rw [← HN.out,HE.out],hfin⟩
    case measure=>simp [intOf]; omega
   ·have hv':((cs[k].values:Int) != (paramsP l cs[k].word:Int)) = true:=bne_iff_ne.2 hv
    have HE:Hid (wrongP l (cs.drop k) = some cs[k].at_):=by show _ = _; rw [HD.out,wrongP,if_pos (by omega)]
    clear hv
    have x0:(wr.alloc (.cells #[.string cs[k].word,.int .i64 cs[k].at_,.int .i64 cs[k].values] 286)).cell? ⟨wr.heap.size,0,none⟩ = some (.string cs[k].word):=by simp
    have x1:(wr.alloc (.cells #[.string cs[k].word,.int .i64 cs[k].at_,.int .i64 cs[k].values] 286)).cell? ⟨wr.heap.size,1,none⟩ = some (.int .i64 cs[k].at_):=by simp
    have x2:(wr.alloc (.cells #[.string cs[k].word,.int .i64 cs[k].at_,.int .i64 cs[k].values] 286)).cell? ⟨wr.heap.size,2,none⟩ = some (.int .i64 cs[k].values):=by simp
    have xq:(wr.alloc (.cells #[.string cs[k].word,.int .i64 cs[k].at_,.int .i64 cs[k].values] 286)).cell? ⟨w.heap.size,0,none⟩ = some (.slice ao l.length cap):=by rw [World.cell?_alloc_lt _ _ _ hsz]; exact q0
    have hbX:Below wr.heap.size wr (wr.alloc (.cells #[.string cs[k].word,.int .i64 cs[k].at_,.int .i64 cs[k].values] 286)):=(Below.refl _ _).alloc (Nat.le_refl _) _
    have hzX:wr.heap.size < (wr.alloc (.cells #[.string cs[k].word,.int .i64 cs[k].at_,.int .i64 cs[k].values] 286)).heap.size:=by simp
    go_wp2_with fail
    generalize (wr.alloc (.cells #[.string cs[k].word,.int .i64 cs[k].at_,.int .i64 cs[k].values] 286)) = wx at *
    have hslx:=hsl.below hbX
    have hqX:w.heap.size < wx.heap.size:=by omega
    go_region_held (fun w'=>w'.cell? ⟨w.heap.size,0,none⟩ = some (.slice ao l.length cap)∧w'.cell? ⟨wr.heap.size,0,none⟩ = some (.string cs[k].word)∧w'.cell? ⟨wr.heap.size,2,none⟩ = some (.int .i64 cs[k].values)∧Below wx.heap.size wx w') (first | exact ⟨xq,x0,x2,(Below.refl _ _).drew⟩ | exact keep5 hqX hzX hzX (by assumption) (by assumption)) (first | (go_at_call 187; refine (c_paramsOf _ _ l _ _ hl ?_).mono ?_; exact hslx.below (Below.refl _ _).drew; rintro e w2 ⟨rfl,hb2⟩))
    have hb3:Below wx.heap.size wx w2:=(Below.refl _ _).drew.trans hb2
    have hx3:=(hb3.cell (p:=⟨wr.heap.size,1,none⟩) hzX).trans x1
    have hfin:=(HB.out.trans (hbX.mono hsz)).trans (hb3.mono hqX)
    clear hb2
    go_wp2_with fail
    go_ret2
    exact ⟨by rw [← HN.out,HE.out]; rfl,(ob hfin).2.2.2.2.2⟩
  ·go_wp2
   go_ret2
   exact ⟨by rw [← HN.out,List.drop_of_length_le (by omega)]; rfl,hbel⟩
theorem outCheck1 {ns:List Nm} {cs:List Cl} {p:Nat} (h:manyP ns = some p):outCheck ns cs = (4,(p:Int)):=by unfold outCheck; rw [h]
theorem outCheck2 {ns:List Nm} {cs:List Cl} {p:Nat} (h:manyP ns = none) (h2:twiceP ns = some p):outCheck ns cs = (5,(p:Int)):=by unfold outCheck; rw [h,h2]
theorem outCheck3 {ns:List Nm} {cs:List Cl} {p:Nat} (h:manyP ns = none) (h2:twiceP ns = none) (h3:misP ns = some p):outCheck ns cs = (5,(p:Int)):=by unfold outCheck; rw [h,h2,h3]
theorem outCheck4 {ns:List Nm} {cs:List Cl} {p:Nat} (h:manyP ns = none) (h2:twiceP ns = none) (h3:misP ns = none) (h4:wrongP ns cs = some p):outCheck ns cs = (6,(p:Int)):=by unfold outCheck; rw [h,h2,h3,h4]
theorem outCheck5 {ns:List Nm} {cs:List Cl} (h:manyP ns = none) (h2:twiceP ns = none) (h3:misP ns = none) (h4:wrongP ns cs = none):outCheck ns cs = (0,0):=by unfold outCheck; rw [h,h2,h3,h4]
set_option maxRecDepth 100000 in
set_option maxHeartbeats 2000000 in
theorem c_checkOutline (ao ac:Option Addr) (cap capc:Nat) (a2 a3:Option Addr) (n2 c2 n3 c3:Nat) (l:List Nm) (cs:List Cl) (w:World) (hl:l.length ≤ 999) (hcs:cs.length ≤ 1000) (hi:NmSl w ao l) (hc:ClSl w ac cs) :
    Calls Tryz.prog 101 #[.agg #[.slice ao l.length cap,.slice ac cs.length capc,.slice a2 n2 c2,.slice a3 n3 c3]] w fun e w'=>e = .returned (.tuple #[.int .i64 (outCheck l cs).1,.int .i64 (outCheck l cs).2])∧Below w.heap.size w w':=by
 have hx0:=Below.refl (w.heap.size + 1) (w.alloc (.cells #[.slice ao l.length cap,.slice ac cs.length capc,.slice a2 n2 c2,.slice a3 n3 c3] 116))
 obtain ⟨o0,o1,o2,o3,hsz0,hbel0⟩:=ob hx0
 have hi0:=hi.below hbel0
 go_enter Tryz.func101,Tryz.ntmps101
 go_wp2_with fail
 refine (c_firstTooMany _ _ l _ hl hi0).mono ?_
 rintro e w1 ⟨rfl,hb1⟩
 have hx1:=hx0.trans (hb1.mono hsz0)
 obtain ⟨p0,p1,p2,p3,hsz1,hbel1⟩:=ob hx1
 have hi1:=hi.below hbel1
 clear o0 o1 hbel0 hx0 hi0 hb1
 cases h1:manyP l with
 | some p =>
  have HE:=hide (outCheck1 (cs:=cs) h1)
  unfold optOut
  go_wp2_with fail
  go_ret2
  exact ⟨by rw [HE.out]; rfl,hbel1⟩
 | none =>
 unfold optOut
 go_wp2_with fail
 refine (c_firstGivenTwice _ _ l _ (by omega) hi1).mono ?_
 rintro e w2 ⟨rfl,hb2⟩
 have hx2:=hx1.trans (hb2.mono hsz1)
 obtain ⟨q0,q1,q2,q3,hsz2,hbel2⟩:=ob hx2
 have hi2:=hi.below hbel2
 clear p0 p1 hbel1 hx1 hi1 hb2
 cases h2:twiceP l with
 | some p =>
  have HE:=hide (outCheck2 (cs:=cs) h1 h2)
  unfold optOut
  go_wp2_with fail
  go_ret2
  exact ⟨by rw [HE.out]; rfl,hbel2⟩
 | none =>
 unfold optOut
 go_wp2_with fail
 refine (c_firstMisused _ _ l _ (by omega) hi2).mono ?_
 rintro e w3 ⟨rfl,hb3⟩
 have hx3:=hx2.trans (hb3.mono hsz2)
 obtain ⟨r0,r1,r2,r3,hsz3,hbel3⟩:=ob hx3
 have hi3:=hi.below hbel3
 have hc3:=hc.below hbel3
 clear q0 q1 hbel2 hx2 hi2 hb3
 cases h3:misP l with
 | some p =>
  have HE:=hide (outCheck3 (cs:=cs) h1 h2 h3)
  unfold optOut
  go_wp2_with fail
  go_ret2
  exact ⟨by rw [HE.out]; rfl,hbel3⟩
 | none =>
 unfold optOut
 go_wp2_with fail
 refine (c_firstWrongCall _ _ _ _ _ _ _ _ _ _ l cs _ (by omega) hcs hi3 hc3).mono ?_
 rintro e w4 ⟨rfl,hb4⟩
 have hbel4:=hbel3.trans (hb4.mono hbel3.size)
 clear hb4
 cases h4:wrongP l cs with
 | some p =>
  have HE:=hide (outCheck4 (cs:=cs) h1 h2 h3 h4)
  unfold optOut
  go_wp2_with fail
  go_ret2
  exact ⟨by rw [HE.out]; rfl,hbel4⟩
 | none =>
 have HE:=hide (outCheck5 (cs:=cs) h1 h2 h3 h4)
 unfold optOut
 go_wp2_with fail
 go_ret2
 exact ⟨by rw [HE.out]; rfl,hbel4⟩
end Go.Proofs.YtmfcpbhdggonfaaGreatDoor
