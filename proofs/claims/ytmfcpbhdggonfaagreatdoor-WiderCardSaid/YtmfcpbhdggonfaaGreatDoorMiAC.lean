/- Contracts of the program's package plan: names by their numbers. -/
import Derived.Test.YtmfcpbhdggonfaaGreatDoorMiAB
import Derived.Lib.ItoaNum
import Derived.Laws.ResultCell
import Derived.Test.YtmfcpbhdggonfaaGreatDoorMiAA
namespace Go.Proofs.YtmfcpbhdggonfaaGreatDoor
open Go.RowKit RR
theorem ret_str {a b:ByteArray} (h:a = b):Ending.returned (.string a) = .returned (.string b):=by rw [h]
theorem numF_drop {t:ByteArray} {r:Nat} {l:List Nm} {k c:Nat} (h:k < l.length):numF t r (l.drop k) c = if l[k].role = r then (if l[k].word = t then (c:Int) else numF t r (l.drop (k + 1)) (c + 1)) else numF t r (l.drop (k + 1)) c:=by
 rw [List.drop_eq_getElem_cons h]; rfl
theorem parF_drop {t:ByteArray} {q:Int} {l:List Nm} {k c:Nat} (h:k < l.length):parF t q (l.drop k) c = if l[k].role = 3∧l[k].proc = q then (if l[k].word = t then (c:Int) else parF t q (l.drop (k + 1)) (c + 1)) else parF t q (l.drop (k + 1)) c:=by
 rw [List.drop_eq_getElem_cons h]; rfl
theorem cntF_drop {q:Int} {l:List Nm} {k c:Nat} (h:k < l.length):cntF q (l.drop k) c = if l[k].role = 3∧l[k].proc = q then cntF q (l.drop (k + 1)) (c + 1) else cntF q (l.drop (k + 1)) c:=by
 rw [List.drop_eq_getElem_cons h]; rfl
set_option maxRecDepth 100000 in
set_option maxHeartbeats 1000000 in
theorem pn_numberOf (ao:Option Addr) (cap:Nat) (l:List Nm) (t:ByteArray) (r:Nat) (w:World) (hl:l.length ≤ 1000) (hi:NmSl w ao l) :
    Calls Tryz.prog 145 #[.slice ao l.length cap,.string t,.int .i64 r] w fun e w'=>e = .returned (.int .i64 (numF t r l 0))∧Below w.heap.size w w':=by
 go_enter Tryz.func145,Tryz.ntmps145
 go_wp2
 go_loopw [7,12] (fun v u wr=>∃ k c:Nat,u = .int .i64 k∧v = .int .i64 c∧k ≤ l.length∧c ≤ k∧numF t r (l.drop k) c = numF t r l 0∧Below w.heap.size w wr) (fun _ u _=>l.length - (intOf u).toNat)
 case atStart=>exact ⟨0,0,rfl,rfl,Nat.zero_le _,Nat.le_refl _,rfl,Below.refl _ _⟩
 case round =>
  obtain ⟨k,c,rfl,rfl,hk,hc,hn,hbel⟩:=hrel
  have HN:=hide hn
  clear hn
  by_cases hlt:k < l.length
  ·obtain ⟨b,o,hb,hao,c1,c2,c3,c4⟩:=(hi.below hbel) k hlt
   subst hao
   have HS:=hide (numF_drop (t:=t) (r:=r) (c:=c) hlt)
   by_cases hr:(l[k].role:Int) = r
   ·have hr':((l[k].role:Int) == r) = true:=beq_iff_eq.2 hr
    have HR:Hid (l[k].role = r):=by show _ = _; omega
    cases hw:(l[k].word.toList == t.toList)
    ·have HW:Hid (¬ l[k].word = t):=fun e=>by rw [e] at hw; simp at hw
     clear hr
     go_wp2
     go_roundw
     case rel=>exact ⟨k + 1,c + 1,by go_num,by go_num,by omega,by omega,by rw [← HN.out,HS.out,if_pos HR.out,if_neg HW.out],hbel.alloc hbel.size _⟩
     case measure=>simp [intOf]; omega
    ·have HW:Hid (l[k].word = t):=toList_inj.1 (by simpa using hw)
     clear hr
     go_wp2
     go_ret
     exact ⟨ret_int (by rw [← HN.out,HS.out,if_pos HR.out,if_pos HW.out]),hbel.alloc hbel.size _⟩
   ·have hr':((l[k].role:Int) == r) = false:=beq_eq_false_iff_ne.2 hr
    have HR:Hid (¬ l[k].role = r):=fun e=>hr (by omega)
    clear hr
    go_wp2
    go_roundw
    case rel=>exact ⟨k + 1,c,by go_num,rfl,by omega,by omega,by rw [← HN.out,HS.out,if_neg HR.out],hbel.alloc hbel.size _⟩
    case measure=>simp [intOf]; omega
  ·go_wp2
   go_ret
   exact ⟨ret_int (by rw [← HN.out,List.drop_of_length_le (by omega)]; rfl),hbel⟩
set_option maxRecDepth 100000 in
set_option maxHeartbeats 1000000 in
theorem pn_paramOf (ao:Option Addr) (cap:Nat) (l:List Nm) (t:ByteArray) (q:Int) (w:World) (hl:l.length ≤ 1000) (hi:NmSl w ao l) :
    Calls Tryz.prog 146 #[.slice ao l.length cap,.string t,.int .i64 q] w fun e w'=>e = .returned (.int .i64 (parF t q l 0))∧Below w.heap.size w w':=by
 go_enter Tryz.func146,Tryz.ntmps146
 go_wp2
 go_loopw [7,13] (fun v u wr=>∃ k c:Nat,u = .int .i64 k∧v = .int .i64 c∧k ≤ l.length∧c ≤ k∧parF t q (l.drop k) c = parF t q l 0∧Below w.heap.size w wr) (fun _ u _=>l.length - (intOf u).toNat)
 case atStart=>exact ⟨0,0,rfl,rfl,Nat.zero_le _,Nat.le_refl _,rfl,Below.refl _ _⟩
 case round =>
  obtain ⟨k,c,rfl,rfl,hk,hc,hn,hbel⟩:=hrel
  have HN:=hide hn
  clear hn
  by_cases hlt:k < l.length
  ·obtain ⟨b,o,hb,hao,c1,c2,c3,c4⟩:=(hi.below hbel) k hlt
   subst hao
   have HS:=hide (parF_drop (t:=t) (q:=q) (c:=c) hlt)
   by_cases hr:(l[k].role:Int) = 3
   ·have hr':((l[k].role:Int) == 3) = true:=beq_iff_eq.2 hr
    have HR:Hid (l[k].role = 3):=by show _ = _; omega
    by_cases hq:l[k].proc = q
    ·have hq':(l[k].proc == q) = true:=beq_iff_eq.2 hq
     have HQ:=hide hq
     cases hw:(l[k].word.toList == t.toList)
     ·have HW:Hid (¬ l[k].word = t):=fun e=>by rw [e] at hw; simp at hw
      clear hr hq
      go_wp2
      go_roundw
      case rel=>exact ⟨k + 1,c + 1,by go_num,by go_num,by omega,by omega,by rw [← HN.out,HS.out,if_pos ⟨HR.out,HQ.out⟩,if_neg HW.out],hbel.alloc hbel.size _⟩
      case measure=>simp [intOf]; omega
     ·have HW:Hid (l[k].word = t):=toList_inj.1 (by simpa using hw)
      clear hr hq
      go_wp2
      go_ret
      exact ⟨ret_int (by rw [← HN.out,HS.out,if_pos ⟨HR.out,HQ.out⟩,if_pos HW.out]),hbel.alloc hbel.size _⟩
    ·have hq':(l[k].proc == q) = false:=beq_eq_false_iff_ne.2 hq
     have HQ:Hid (¬ (l[k].role = 3∧l[k].proc = q)):=fun e=>hq e.2
     clear hr hq
     go_wp2
     go_roundw
     case rel=>exact ⟨k + 1,c,by go_num,rfl,by omega,by omega,by rw [← HN.out,HS.out,if_neg HQ.out],hbel.alloc hbel.size _⟩
     case measure=>simp [intOf]; omega
   ·have hr':((l[k].role:Int) == 3) = false:=beq_eq_false_iff_ne.2 hr
    have HR:Hid (¬ (l[k].role = 3∧l[k].proc = q)):=fun e=>hr (by omega)
    clear hr
    go_wp2
    go_roundw
    case rel=>exact ⟨k + 1,c,by go_num,rfl,by omega,by omega,by rw [← HN.out,HS.out,if_neg HR.out],hbel.alloc hbel.size _⟩
    case measure=>simp [intOf]; omega
  ·go_wp2
   go_ret
   exact ⟨ret_int (by rw [← HN.out,List.drop_of_length_le (by omega)]; rfl),hbel⟩
set_option maxRecDepth 100000 in
set_option maxHeartbeats 1000000 in
theorem pn_paramsOf (ao:Option Addr) (cap:Nat) (l:List Nm) (q:Int) (w:World) (hl:l.length ≤ 1000) (hi:NmSl w ao l) :
    Calls Tryz.prog 143 #[.slice ao l.length cap,.int .i64 q] w fun e w'=>e = .returned (.int .i64 (cntF q l 0))∧Below w.heap.size w w':=by
 go_enter Tryz.func143,Tryz.ntmps143
 go_wp2
 go_loopw [5,10] (fun v u wr=>∃ k c:Nat,u = .int .i64 k∧v = .int .i64 c∧k ≤ l.length∧c ≤ k∧cntF q (l.drop k) c = cntF q l 0∧Below w.heap.size w wr) (fun _ u _=>l.length - (intOf u).toNat)
 case atStart=>exact ⟨0,0,rfl,rfl,Nat.zero_le _,Nat.le_refl _,rfl,Below.refl _ _⟩
 case round =>
  obtain ⟨k,c,rfl,rfl,hk,hc,hn,hbel⟩:=hrel
  have HN:=hide hn
  clear hn
  by_cases hlt:k < l.length
  ·obtain ⟨b,o,hb,hao,c1,c2,c3,c4⟩:=(hi.below hbel) k hlt
   subst hao
   have HS:=hide (cntF_drop (q:=q) (c:=c) hlt)
   by_cases hr:(l[k].role:Int) = 3
   ·have hr':((l[k].role:Int) == 3) = true:=beq_iff_eq.2 hr
    have HR:Hid (l[k].role = 3):=by show _ = _; omega
    by_cases hq:l[k].proc = q
    ·have hq':(l[k].proc == q) = true:=beq_iff_eq.2 hq
     have HQ:=hide hq
     clear hr hq
     go_wp2
     go_roundw
     case rel=>exact ⟨k + 1,c + 1,by go_num,by go_num,by omega,by omega,by rw [← HN.out,HS.out,if_pos ⟨HR.out,HQ.out⟩],hbel.alloc hbel.size _⟩
     case measure=>simp [intOf]; omega
    ·have hq':(l[k].proc == q) = false:=beq_eq_false_iff_ne.2 hq
     have HQ:Hid (¬ (l[k].role = 3∧l[k].proc = q)):=fun e=>hq e.2
     clear hr hq
     go_wp2
     go_roundw
     case rel=>exact ⟨k + 1,c,by go_num,rfl,by omega,by omega,by rw [← HN.out,HS.out,if_neg HQ.out],hbel.alloc hbel.size _⟩
     case measure=>simp [intOf]; omega
   ·have hr':((l[k].role:Int) == 3) = false:=beq_eq_false_iff_ne.2 hr
    have HR:Hid (¬ (l[k].role = 3∧l[k].proc = q)):=fun e=>hr (by omega)
    clear hr
    go_wp2
    go_roundw
    case rel=>exact ⟨k + 1,c,by go_num,rfl,by omega,by omega,by rw [← HN.out,HS.out,if_neg HR.out],hbel.alloc hbel.size _⟩
    case measure=>simp [intOf]; omega
  ·go_wp2
   go_ret
   exact ⟨ret_int (by rw [← HN.out,List.drop_of_length_le (by omega)]; rfl),hbel⟩
theorem nmAt_eq {ns:List Nm} {k:Nat} (h:k < ns.length):nmAt ns k = ns[k]:=by unfold nmAt; rw [List.getElem?_eq_getElem h]; rfl
set_option maxRecDepth 100000 in
set_option maxHeartbeats 1000000 in
theorem pn_wordOf (ao:Option Addr) (cap:Nat) (l:List Nm) (i:Int) (w:World) (hi:NmSl w ao l) :
    Calls Tryz.prog 148 #[.slice ao l.length cap,.int .i64 i] w fun e w'=>e = .returned (.string (nwordF l i))∧w' = w:=by
 by_cases h:0 ≤ i∧i < l.length
 ·obtain ⟨k,rfl⟩:=Int.eq_ofNat_of_zero_le h.1
  have hlt:k < l.length:=by omega
  obtain ⟨b,o,hb,hao,c1,c2,c3,c4⟩:=hi k hlt
  subst hao
  have HE:Hid (nwordF l (k:Int) = l[k].word):=by show _ = _; unfold nwordF; rw [if_pos h,Int.toNat_natCast,nmAt_eq hlt]
  clear h
  go_enter Tryz.func148,Tryz.ntmps148
  go_wp2
  go_ret
  exact ⟨ret_str HE.out.symm,rfl⟩
 ·have HE:Hid (nwordF l i = ⟨#[]⟩):=by show _ = _; unfold nwordF; rw [if_neg h]
  by_cases h0:i < 0
  ·clear h
   go_enter Tryz.func148,Tryz.ntmps148
   go_wp2
   go_ret
   exact ⟨ret_str HE.out.symm,rfl⟩
  ·have h1:(l.length:Int) ≤ i:=by omega
   clear h
   go_enter Tryz.func148,Tryz.ntmps148
   go_wp2
   go_ret
   exact ⟨ret_str HE.out.symm,rfl⟩
def set2 (w:World) (A:Nat) (x y:Value):World:=(w.setCell ⟨A,0,none⟩ x).setCell ⟨A,1,none⟩ y
theorem two_heap {w:World} {A:Nat} {a b x y:Value} {T:TypeId} (hA:w.heap[A]? = some (.cells #[a,b] T (0,0))):(set2 w A x y).heap[A]? = some (.cells #[x,y] T (0,0)):=cts_set (cts_set hA 0 x) 1 y
theorem set2_below {W w:World} {A:Nat} (h:Below A W w) (x y:Value):Below A W (set2 w A x y):=(h.setCell (p:=⟨A,0,none⟩) (Nat.le_refl _) _).setCell (p:=⟨A,1,none⟩) (Nat.le_refl _) _
theorem two_set {w:World} {A:Nat} {a b x y:Value} {T:TypeId} (hA:w.heap[A]? = some (.cells #[a,b] T (0,0))):(set2 w A x y).cell? ⟨A,0,none⟩ = some x∧(set2 w A x y).cell? ⟨A,1,none⟩ = some y:=by
 have h:=two_heap (x:=x) (y:=y) hA
 generalize set2 w A x y = v at *
 exact ⟨by simp [World.cell?,h],by simp [World.cell?,h]⟩
def truV (t:Tru):Value:=.agg #[.int .i64 t.own,.int .i64 t.num]
set_option maxRecDepth 100000 in
set_option maxHeartbeats 2000000 in
theorem pn_truthOf (ao:Option Addr) (cap:Nat) (l:List Nm) (i:Int) (w:World) (hl:l.length ≤ 1000) (hi:NmSl w ao l) :
    Calls Tryz.prog 105 #[.slice ao l.length cap,.int .i64 i] w fun e w'=>e = .returned (truV (truthF l i))∧Below w.heap.size w w':=by
 have hA0:=heap_alloc_new w (.cells #[.int .i64 0,.int .i64 0] 193)
 have hb0:Below w.heap.size w (w.alloc (.cells #[.int .i64 0,.int .i64 0] 193)):=(Below.refl _ _).alloc (Nat.le_refl _) _
 by_cases h:0 ≤ i∧i < l.length
 ·obtain ⟨k,rfl⟩:=Int.eq_ofNat_of_zero_le h.1
  have hlt:k < l.length:=by omega
  obtain ⟨b,o,hb,hao,c1,c2,c3,c4⟩:=hi k hlt
  subst hao
  have HE:Hid (truthF l (k:Int) = if 0 ≤ numF l[k].word 0 l 0 then ⟨1,numF l[k].word 0 l 0⟩ else if 0 ≤ parF l[k].word l[k].proc l 0 then ⟨2,parF l[k].word l[k].proc l 0⟩ else ⟨0,0⟩):=by show _ = _; unfold truthF; rw [if_pos h,Int.toNat_natCast,nmAt_eq hlt]
  clear h
  go_enter Tryz.func105,Tryz.ntmps105
  go_wp2_with fail
  refine (pn_numberOf _ cap l l[k].word 0 _ hl (hi.below hb0)).mono ?_
  rintro e w1 ⟨rfl,hb1⟩
  have hA1:=(hb1.block w.heap.size (by simp)).trans hA0
  have hbel1:=hb0.trans (hb1.mono hb0.size)
  have hz1:w.heap.size < w1.heap.size:=(Array.getElem?_eq_some_iff.1 hA1).1
  clear hA0 hb0 hb1
  have a0:w1.cell? ⟨w.heap.size,0,none⟩ = some (.int .i64 0):=by simp [World.cell?,hA1]
  have a1:w1.cell? ⟨w.heap.size,1,none⟩ = some (.int .i64 0):=by simp [World.cell?,hA1]
  have g0:w1.frozen? ⟨w.heap.size,0,none⟩ = false:=by simp [World.frozen?,hA1]
  have g1:w1.frozen? ⟨w.heap.size,1,none⟩ = false:=by simp [World.frozen?,hA1]
  generalize hN:numF l[k].word 0 l 0 = n at HE
  have HN:=hide hN
  clear hN
  by_cases hn:0 ≤ n
  ·have HE2:Hid (truthF l (k:Int) = ⟨1,n⟩):=by show _ = _; rw [HE.out,if_pos hn]
   have hr:=two_set (x:=.int .i64 1) (y:=.int .i64 n) hA1
   have hset:=set2_below hbel1 (.int .i64 1) (.int .i64 n)
   unfold set2 at hr hset
   have HR:=hide hr
   have HS:=hide hset
   clear HE hr hset
   go_wp2
   refine bodyPost_ret (v:=truV (truthF l (k:Int))) ?_ rfl ⟨rfl,HS.out⟩
   rw [HE2.out]
   simp [results,Tryz.results105,go_sem,HR.out.1,HR.out.2,truV]
  ·have hn2:n < 0:=by omega
   have d1:=(hbel1.cell (p:=⟨b,o + k * 4,none⟩) hb).trans c1
   have d4:=(hbel1.cell (p:=⟨b,o + k * 4 + 3,none⟩) hb).trans c4
   have hb2:b < w1.heap.size:=Nat.lt_trans hb hz1
   have hi1:=hi.below hbel1
   go_wp2_with fail
   go_region_held (fun w'=>w'.cell? ⟨b,o + k * 4,none⟩ = some (.string l[k].word)∧w'.cell? ⟨b,o + k * 4 + 3,none⟩ = some (.int .i64 l[k].proc)∧Below w1.heap.size w1 w') (first | exact ⟨d1,d4,(Below.refl _ _).drew⟩ | exact keep2 hb2 hb2 (by assumption) (by assumption)) (first | (go_at_call 146; refine (pn_paramOf _ cap l _ _ _ hl ?_).mono ?_; exact hi1.below (Below.refl _ _).drew; rintro e w3 ⟨rfl,hb3⟩))
   have hb13:Below w1.heap.size w1 w3:=(Below.refl _ _).drew.trans hb3
   have hA3:=(hb13.block w.heap.size hz1).trans hA1
   have hbel3:=hbel1.trans (hb13.mono (Nat.le_of_lt hz1))
   clear a0 a1 g0 g1 hA1 hbel1 hb3 hb13 d1 d4 hi1 hb2
   have a0:w3.cell? ⟨w.heap.size,0,none⟩ = some (.int .i64 0):=by simp [World.cell?,hA3]
   have a1:w3.cell? ⟨w.heap.size,1,none⟩ = some (.int .i64 0):=by simp [World.cell?,hA3]
   have g0:w3.frozen? ⟨w.heap.size,0,none⟩ = false:=by simp [World.frozen?,hA3]
   have g1:w3.frozen? ⟨w.heap.size,1,none⟩ = false:=by simp [World.frozen?,hA3]
   generalize hM:parF l[k].word l[k].proc l 0 = m at HE
   have HM:=hide hM
   clear hM
   by_cases hm:0 ≤ m
   ·have HE2:Hid (truthF l (k:Int) = ⟨2,m⟩):=by show _ = _; rw [HE.out,if_neg (by omega),if_pos hm]
    have hr:=two_set (x:=.int .i64 2) (y:=.int .i64 m) hA3
    have hset:=set2_below hbel3 (.int .i64 2) (.int .i64 m)
    unfold set2 at hr hset
    have HR:=hide hr
    have HS:=hide hset
    clear HE hr hset
    go_wp2
    refine bodyPost_ret (v:=truV (truthF l (k:Int))) ?_ rfl ⟨rfl,HS.out⟩
    rw [HE2.out]
    simp [results,Tryz.results105,go_sem,HR.out.1,HR.out.2,truV]
   ·have HE2:Hid (truthF l (k:Int) = ⟨0,0⟩):=by show _ = _; rw [HE.out,if_neg (by omega),if_neg hm]
    have hm2:m < 0:=by omega
    have hr:=two_set (x:=.int .i64 0) (y:=.int .i64 0) hA3
    have hset:=set2_below hbel3 (.int .i64 0) (.int .i64 0)
    unfold set2 at hr hset
    have HR:=hide hr
    have HS:=hide hset
    clear HE hr hset
    go_wp2
    refine bodyPost_ret (v:=truV (truthF l (k:Int))) ?_ rfl ⟨rfl,HS.out⟩
    rw [HE2.out]
    simp [results,Tryz.results105,go_sem,HR.out.1,HR.out.2,truV]
 ·have HE:Hid (truthF l i = ⟨0,0⟩):=by show _ = _; unfold truthF; rw [if_neg h]
  by_cases h0:i < 0
  ·clear h
   go_enter Tryz.func105,Tryz.ntmps105
   go_wp2
   refine bodyPost_ret (v:=truV (truthF l i)) ?_ rfl ⟨rfl,hb0⟩
   rw [HE.out]
   simp [results,Tryz.results105,go_sem,truV]
  ·have h1:(l.length:Int) ≤ i:=by omega
   clear h
   go_enter Tryz.func105,Tryz.ntmps105
   go_wp2
   refine bodyPost_ret (v:=truV (truthF l i)) ?_ rfl ⟨rfl,hb0⟩
   rw [HE.out]
   simp [results,Tryz.results105,go_sem,truV]
end Go.Proofs.YtmfcpbhdggonfaaGreatDoor
namespace RR
open Go Go.RowKit
structure Frm where
 line:Int
 p0:Bool
 p1:Bool
 p2:Bool
structure Thr where
 count:Int
 f0:Frm
 f1:Frm
 f2:Frm
 f3:Frm
structure Cfg where
 s0:Bool
 s1:Bool
 s2:Bool
 s3:Bool
 h0:Int
 h1:Int
 h2:Int
 t0:Thr
 t1:Thr
 t2:Thr
def zFrm:Frm:=⟨0,false,false,false⟩
def zThr:Thr:=⟨0,zFrm,zFrm,zFrm,zFrm⟩
def zCfg:Cfg:=⟨false,false,false,false,0,0,0,zThr,zThr,zThr⟩
def Frm.p (f:Frm):Nat→Bool
 | 0=>f.p0
 | 1=>f.p1
 | _=>f.p2
def Frm.setP (f:Frm) (v:Bool):Nat→Frm
 | 0=>{ f with p0:=v }
 | 1=>{ f with p1:=v }
 | _=>{ f with p2:=v }
def Thr.f (t:Thr):Nat→Frm
 | 0=>t.f0
 | 1=>t.f1
 | 2=>t.f2
 | _=>t.f3
def Thr.setF (t:Thr) (v:Frm):Nat→Thr
 | 0=>{ t with f0:=v }
 | 1=>{ t with f1:=v }
 | 2=>{ t with f2:=v }
 | _=>{ t with f3:=v }
def Cfg.s (c:Cfg):Nat→Bool
 | 0=>c.s0
 | 1=>c.s1
 | 2=>c.s2
 | _=>c.s3
def Cfg.setS (c:Cfg) (v:Bool):Nat→Cfg
 | 0=>{ c with s0:=v }
 | 1=>{ c with s1:=v }
 | 2=>{ c with s2:=v }
 | _=>{ c with s3:=v }
def Cfg.h (c:Cfg):Nat→Int
 | 0=>c.h0
 | 1=>c.h1
 | _=>c.h2
def Cfg.setH (c:Cfg) (v:Int):Nat→Cfg
 | 0=>{ c with h0:=v }
 | 1=>{ c with h1:=v }
 | _=>{ c with h2:=v }
def Cfg.t (c:Cfg):Nat→Thr
 | 0=>c.t0
 | 1=>c.t1
 | _=>c.t2
def Cfg.setT (c:Cfg) (v:Thr):Nat→Cfg
 | 0=>{ c with t0:=v }
 | 1=>{ c with t1:=v }
 | _=>{ c with t2:=v }
def threadF (c:Cfg) (i:Int):Thr:=if 0 ≤ i∧i < 3 then c.t i.toNat else zThr
def frameF (t:Thr) (above:Int):Option Frm :=
 if 0 ≤ wrap64 (wrap64 (t.count - 1) - above)∧wrap64 (wrap64 (t.count - 1) - above) < 4 then some (t.f (wrap64 (wrap64 (t.count - 1) - above)).toNat) else none
def pushF (t:Thr) (f:Frm):Option Thr:=if 0 ≤ t.count∧t.count < 4 then some { t.setF f t.count.toNat with count:=t.count + 1 } else none
def popF (t:Thr):Thr:=if 1 ≤ t.count∧t.count ≤ 4 then { t.setF zFrm (t.count - 1).toNat with count:=t.count - 1 } else t
def setLastF (t:Thr) (f:Frm):Thr:=if 1 ≤ t.count∧t.count ≤ 4 then t.setF f (t.count - 1).toNat else t
def endLine:PLine:=⟨9,0,0,0,0,0,⟨0,0⟩,0,0,[],false,false,false,false,false⟩
def lineAt (p:Plan) (n:Int):PLine:=if 0 ≤ n∧n < p.lines.length then p.lines[n.toNat]?.getD endLine else endLine
def procAt (p:Plan) (n:Int):PProc:=if 0 ≤ n∧n < p.procs.length then p.procs[n.toNat]?.getD ⟨0,0⟩ else ⟨0,0⟩
def startF (p:Plan):List Int→Nat→Cfg→Cfg
 | [],_,c=>c
 | n :: r,i,c=>startF p r (i + 1) (if i < 3 then c.setT ((pushF (c.t i) ⟨(procAt p n).entry,false,false,false⟩).getD (c.t i)) i else c)
structure Sight where
 s0:Bool
 s1:Bool
 s2:Bool
 s3:Bool
 p0:Bool
 p1:Bool
 p2:Bool
 choice:Bool
def Sight.s (c:Sight):Nat→Bool
 | 0=>c.s0
 | 1=>c.s1
 | 2=>c.s2
 | _=>c.s3
def Sight.p (f:Sight):Nat→Bool
 | 0=>f.p0
 | 1=>f.p1
 | _=>f.p2
def valAt (v:List Bool) (i:Int):Bool:=if 0 ≤ i∧i < v.length then v[i.toNat]?.getD false else false
def seeF (s:Sight) (t:Tru):Bool :=
 if t.own = 1∧0 ≤ t.num∧t.num < 4 then s.s t.num.toNat
 else if t.own = 2∧0 ≤ t.num∧t.num < 3 then s.p t.num.toNat
 else false
def signF (s:Sight) (n:PNd) (l r:Bool):Bool :=
 if n.sign = 1 then true else if n.sign = 2 then s.choice else if n.sign = 3 then seeF s n.tr else if n.sign = 4 then !r else if n.sign = 5 then l && r else if n.sign = 6 then l || r else false
def workG (s:Sight) (nodes:List PNd) (first last:Int):Nat→Int→List Bool→List Bool
 | 0,_,v=>v
 | f + 1,i,v=>if 0 ≤ i∧i ≤ last∧i < nodes.length then workG s nodes first last f (i + 1) (v ++ [signF s (pnAt nodes i.toNat) (valAt v (wrap64 ((pnAt nodes i.toNat).left - first))) (valAt v (wrap64 ((pnAt nodes i.toNat).right - first)))]) else v
def workF (s:Sight) (nodes:List PNd) (e:Int × Int):Bool:=valAt (workG s nodes e.1 e.2 (nodes.length + 1) e.1 []) (wrap64 (e.2 - e.1))
def workAllF (s:Sight) (nodes:List PNd) (l:List (Int × Int)):List Bool:=l.map (workF s nodes)
structure Wlk where
 c:Cfg
 f:Thr
 holder:Int
def goToF (w:Wlk) (line:Int):Wlk :=
 match frameF w.f 0 with
 | some f=>{ w with f:=setLastF w.f { f with line:=line } }
 | none=>w
def giveF (w:Wlk) (to:Tru) (v:Bool):Wlk :=
 if to.num < 0 then w else
  let w1:Wlk:=if to.own = 1∧to.num < 4 then { w with c:=w.c.setS v to.num.toNat } else w
  match frameF w1.f 0 with
  | some f=>if to.own = 2∧to.num < 3 then { w1 with f:=setLastF w1.f (f.setP v to.num.toNat) } else w1
  | none=>w1
def giveBackF (p:Plan) (w:Wlk) (v:Bool):Wlk :=
 let w1:Wlk:={ w with f:=popF w.f }
 match frameF w1.f 0 with
 | some b=>goToF (giveF w1 (lineAt p b.line).target v) (lineAt p b.line).next
 | none=>w1
def passF (w:Wlk) (lock frm to:Int):Option Wlk :=
 if 0 ≤ lock∧lock < 3 then (if w.c.h lock.toNat = frm then some { w with c:=w.c.setH to lock.toNat } else none) else none
def parsF (v:List Bool) (n:Int):Nat→Nat→Frm→Frm
 | 0,_,f=>f
 | d + 1,i,f=>if (i:Int) < n∧i < 3 then parsF v n d (i + 1) (f.setP (valAt v i) i) else f
def callF (p:Plan) (w:Wlk) (ln:PLine) (v:List Bool):Option Wlk :=
 (pushF w.f (parsF v (procAt p ln.proc).params 4 0 ⟨(procAt p ln.proc).entry,false,false,false⟩)).map fun t=>{ w with f:=t }
def actF (w:Wlk) (ln:PLine) (v:Bool):Option Wlk :=
 if ln.kind = 0 then some (giveF w ln.target v)
 else if ln.kind = 4 then (if v then some w else none)
 else if ln.kind = 5 then passF w ln.lock 0 w.holder
 else if ln.kind = 6 then passF w ln.lock w.holder 0
 else some w
def walkF (p:Plan) (w:Wlk) (ln:PLine) (v:List Bool):Option Wlk :=
 if ln.kind = 1 then callF p w ln v
 else if ln.kind = 7 ∨ ln.kind = 9 then some (giveBackF p w (valAt v 0))
 else if ln.kind = 2 ∨ ln.kind = 3 then some (goToF w (if valAt v 0 then ln.thn else ln.els))
 else (actF w ln (valAt v 0)).map fun w1=>goToF w1 ln.next
def stepF (p:Plan) (c:Cfg) (i:Int) (ch:Bool):Option Cfg :=
 if 0 ≤ i∧i < 3 then
  match frameF (c.t i.toNat) 0 with
  | none=>none
  | some f =>
   if ch && !(lineAt p f.line).choice then none
   else (walkF p ⟨c,c.t i.toNat,i + 1⟩ (lineAt p f.line) (workAllF ⟨c.s0,c.s1,c.s2,c.s3,f.p0,f.p1,f.p2,ch⟩ p.nodes (lineAt p f.line).vals)).map fun w=>w.c.setT w.f i.toNat
 else none
def letterF (i:Int) (ch:Bool):ByteArray :=
 if i = 0 then (if ch then ⟨#[65]⟩ else ⟨#[97]⟩) else if i = 1 then (if ch then ⟨#[66]⟩ else ⟨#[98]⟩) else if i = 2 then (if ch then ⟨#[67]⟩ else ⟨#[99]⟩) else ⟨#[]⟩
def letterIfF (p:Plan) (c:Cfg) (i:Int) (ch:Bool):ByteArray:=if (stepF p c i ch).isSome then letterF i ch else ⟨#[]⟩
def enabledF (p:Plan) (c:Cfg):ByteArray :=
 (((((((⟨#[]⟩:ByteArray) ++ letterIfF p c 0 false) ++ letterIfF p c 0 true) ++ letterIfF p c 1 false) ++ letterIfF p c 1 true) ++ letterIfF p c 2 false) ++ letterIfF p c 2 true)
def atAcqF (p:Plan) (t:Thr):Bool :=
 match frameF t 0 with
 | some f=>(lineAt p f.line).kind == 5
 | none=>false
def deadF (p:Plan) (c:Cfg):Bool:=(atAcqF p c.t0 || atAcqF p c.t1 || atAcqF p c.t2) && (enabledF p c).size == 0
structure Tch where
 r0:Bool
 r1:Bool
 r2:Bool
 r3:Bool
 w0:Bool
 w1:Bool
 w2:Bool
 w3:Bool
def Tch.r (c:Tch):Nat→Bool
 | 0=>c.r0
 | 1=>c.r1
 | 2=>c.r2
 | _=>c.r3
def Tch.w (c:Tch):Nat→Bool
 | 0=>c.w0
 | 1=>c.w1
 | 2=>c.w2
 | _=>c.w3
def Tch.setW (c:Tch):Nat→Tch
 | 0=>{ c with w0:=true }
 | 1=>{ c with w1:=true }
 | 2=>{ c with w2:=true }
 | _=>{ c with w3:=true }
def zTch:Tch:=⟨false,false,false,false,false,false,false,false⟩
def writtenF (p:Plan) (t:Thr) (ln:PLine):Tru :=
 if ln.kind = 0 then ln.target
 else match frameF t 1 with
  | some b=>if ln.kind = 7 ∨ ln.kind = 9 then (lineAt p b.line).target else ⟨0,0⟩
  | none=>⟨0,0⟩
def touchF (p:Plan) (t:Thr):Tch :=
 match frameF t 0 with
 | none=>zTch
 | some f =>
  let ln:=lineAt p f.line
  let a:Tch:=⟨ln.r0,ln.r1,ln.r2,ln.r3,false,false,false,false⟩
  if (writtenF p t ln).own = 1∧0 ≤ (writtenF p t ln).num∧(writtenF p t ln).num < 4 then a.setW (writtenF p t ln).num.toNat else a
def spoilsF (a b:Tch):Bool:=(a.w0 && (b.w0 || b.r0)) || (a.w1 && (b.w1 || b.r1)) || (a.w2 && (b.w2 || b.r2)) || (a.w3 && (b.w3 || b.r3))
def clashT (p:Plan) (a b:Thr):Bool:=spoilsF (touchF p a) (touchF p b) || spoilsF (touchF p b) (touchF p a)
def raceF (p:Plan) (c:Cfg):Bool:=clashT p c.t1 c.t0 || (clashT p c.t2 c.t0 || clashT p c.t2 c.t1)
def bitF (b:Bool):ByteArray:=if b then ⟨#[49]⟩ else ⟨#[48]⟩
def holderF (h:Int):ByteArray:=if h = 0 then ⟨#[45]⟩ else letterF (wrap64 (h - 1)) false
def bitsF (g:Nat→Bool) (n:Int) (m:Nat):Nat→Nat→ByteArray→ByteArray
 | 0,_,s=>s
 | d + 1,i,s=>if (i:Int) < n∧i < m then bitsF g n m d (i + 1) (s ++ bitF (g i)) else s
def locksF (g:Nat→Int) (n:Int):Nat→Nat→ByteArray→ByteArray
 | 0,_,s=>s
 | d + 1,i,s=>if (i:Int) < n∧i < 3 then locksF g n d (i + 1) (s ++ holderF (g i)) else s
def itoaF (n:Nat):ByteArray:=⟨(Lib.decDigits n).toArray⟩
def frameTextF (p:Plan) (f:Frm):ByteArray:=bitsF f.p (lineAt p f.line).params 3 4 0 (itoaF (lineAt p f.line).at_ ++ ⟨#[58]⟩)
def framesG (p:Plan) (t:Thr):Nat→Nat→ByteArray→ByteArray
 | 0,_,s=>s
 | d + 1,i,s=>if (i:Int) < t.count∧i < 4 then framesG p t d (i + 1) ((if 0 < i then s ++ ⟨#[44]⟩ else s) ++ frameTextF p (t.f i)) else s
def framesTextF (p:Plan) (t:Thr):ByteArray:=framesG p t 5 0 ⟨#[]⟩
def threadsG (p:Plan) (c:Cfg):Nat→Nat→ByteArray→ByteArray
 | 0,_,s=>s
 | d + 1,i,s=>threadsG p c d (i + 1) ((s ++ ⟨#[47]⟩) ++ framesTextF p (threadF c i))
def textF (p:Plan) (c:Cfg):ByteArray :=
 threadsG p c p.threads.length 0 (locksF c.h p.locks 4 0 (bitsF c.s p.shared 4 5 0 ⟨#[]⟩ ++ ⟨#[47]⟩))
end RR
namespace RR
open Go Go.RowKit
def readB (c:UInt8):Option (Int × Bool) :=
 if 97 ≤ c.toNat∧c.toNat ≤ 99 then some ((c.toNat:Int) - 97,false)
 else if 65 ≤ c.toNat∧c.toNat ≤ 67 then some ((c.toNat:Int) - 65,true)
 else none
def byteB (s:ByteArray) (k:Nat):UInt8:=if h:k < s.size then s[k] else 0
def followF (p:Plan) (s:ByteArray):Nat→Nat→Cfg→Except Nat Cfg
 | 0,_,c=>.ok c
 | d + 1,k,c =>
  match readB (byteB s k) with
  | none=>.error k
  | some t =>
   match stepF p c t.1 t.2 with
   | none=>.error k
   | some c1=>followF p s d (k + 1) c1
def start1 (p:Plan):Cfg:=startF p p.threads 0 zCfg
structure Vw where
 text:ByteArray
 enabled:ByteArray
 race:Bool
 dead:Bool
def zVw:Vw:=⟨⟨#[]⟩,⟨#[]⟩,false,false⟩
def viewF (p:Plan) (c:Cfg):Vw:=⟨textF p c,enabledF p c,raceF p c,deadF p c⟩
def playP (p:Plan) (s:ByteArray):Vw × Int × Int :=
 if 200 < s.size then (zVw,1,0) else
  match followF p s s.size 0 (start1 p) with
  | .error k=>(zVw,8,k)
  | .ok c=>(viewF p c,0,0)
def frmEq (a b:Frm):Bool:=decide (a.line = b.line) && (a.p0 == b.p0) && (a.p1 == b.p1) && (a.p2 == b.p2)
def thrEq (a b:Thr):Bool:=decide (a.count = b.count) && frmEq a.f0 b.f0 && frmEq a.f1 b.f1 && frmEq a.f2 b.f2 && frmEq a.f3 b.f3
def cfgEq (a b:Cfg):Bool :=
 (a.s0 == b.s0) && (a.s1 == b.s1) && (a.s2 == b.s2) && (a.s3 == b.s3) && decide (a.h0 = b.h0) && decide (a.h1 = b.h1) && decide (a.h2 = b.h2)
  && thrEq a.t0 b.t0 && thrEq a.t1 b.t1 && thrEq a.t2 b.t2
structure Pt where
 ctx:Int
 last:Int
 cfg:Cfg
def ptEq (a b:Pt):Bool:=decide (a.ctx = b.ctx) && decide (a.last = b.last) && cfgEq a.cfg b.cfg
structure Sg where
 pt:Pt
 by_:ByteArray
structure Rp where
 race:Bool
 dead:Bool
 raceBy:ByteArray
 deadBy:ByteArray
 whole:Bool
 points:Nat
def zRp:Rp:=⟨false,false,⟨#[]⟩,⟨#[]⟩,false,0⟩
structure Sr where
 seen:List Pt
 fresh:List Sg
 rep:Rp
def seeP (p:Plan) (s:Sr) (x:Pt) (b:ByteArray):Sr :=
 let r1:Rp:={ s.rep with points:=s.seen.length + 1 }
 let r2:Rp:=if !r1.race && raceF p x.cfg then { r1 with race:=true,raceBy:=b } else r1
 let r3:Rp:=if !r2.dead && deadF p x.cfg then { r2 with dead:=true,deadBy:=b } else r2
 ⟨s.seen ++ [x],s.fresh ++ [⟨x,b⟩],r3⟩
def tryF (p:Plan) (most:Int) (s:Sr) (f:Sg) (i:Int) (ch:Bool):Sr :=
 let n:Int:=if i ≠ f.pt.last then f.pt.ctx + 1 else f.pt.ctx
 if most < n then s else
  match stepF p f.pt.cfg i ch with
  | none=>s
  | some c=>if s.seen.any (ptEq · ⟨n,i,c⟩) then s else seeP p s ⟨n,i,c⟩ (f.by_ ++ letterF i ch)
def behindP (p:Plan) (most:Int) (s:Sr) (f:Sg):Sr :=
 tryF p most (tryF p most (tryF p most (tryF p most (tryF p most (tryF p most s f 0 false) f 0 true) f 1 false) f 1 true) f 2 false) f 2 true
def roundG (p:Plan) (most:Int):List Sg→Sr→Option Sr
 | [],s=>some { s with rep:={ s.rep with whole:=s.fresh.isEmpty } }
 | f :: r,s=>if 600 < (behindP p most s f).seen.length then none else roundG p most r (behindP p most s f)
def roundF (p:Plan) (most:Int) (s:Sr):Option Sr:=roundG p most s.fresh { s with fresh:=[] }
def endedF (s:Sr):Bool:=(s.rep.race && s.rep.dead) || s.rep.whole
def roundsF (p:Plan) (most:Int):Nat→Sr→Option Sr
 | 0,s=>some s
 | n + 1,s=>if endedF s then some s else (roundF p most s).bind (roundsF p most n)
def beginF (p:Plan):Sr:=seeP p ⟨[],[],zRp⟩ ⟨0,-1,start1 p⟩ ⟨#[]⟩
def searchP (p:Plan) (most steps:Int):Rp × Int :=
 if most < 1 ∨ 6 < most ∨ steps < 0 ∨ 60 < steps then (zRp,7) else
  match roundsF p most steps.toNat (beginF p) with
  | none=>(zRp,9)
  | some s=>(s.rep,0)
end RR
namespace Go.Proofs.YtmfcpbhdggonfaaGreatDoor
open Go.RowKit RR
def ndP (n:PNd):List Value:=[.int .i64 n.sign,.int .i64 n.tr.own,.int .i64 n.tr.num,.int .i64 n.left,.int .i64 n.right]
def prP (p:PProc):List Value:=[.int .i64 p.params,.int .i64 p.entry]
def thP (n:Int):List Value:=[.int .i64 n]
def lnL (a:PLine) (v:Value):List Value:=[.int .i64 a.kind,.int .i64 a.at_,.int .i64 a.params,.int .i64 a.next,.int .i64 a.thn,.int .i64 a.els,.int .i64 a.target.own,.int .i64 a.target.num,.int .i64 a.lock,.int .i64 a.proc,v,.bool a.choice,.bool a.r0,.bool a.r1,.bool a.r2,.bool a.r3]
def lnP (x:PLine × Value):List Value:=lnL x.1 x.2
def LnSl (w:World) (ao:Option Addr) (ls:List PLine):Prop:=∃ l:List (PLine × Value),l.map Prod.fst = ls∧Flat w ao (l.flatMap lnP)∧∀ x ∈ l,ExSl w x.2 x.1.vals
theorem LnSl.below {w w':World} {ao:Option Addr} {l:List PLine} (h:LnSl w ao l) (hb:Below w.heap.size w w'):LnSl w' ao l:=by
 obtain ⟨m,h1,h2,h3⟩:=h
 exact ⟨m,h1,h2.below hb,fun x hx=>(h3 x hx).below hb⟩
def PlanAt (w:World) (p:Plan) (a b:Option Addr) (c d:Option Addr):Prop :=
 Flat w a (p.threads.flatMap thP)∧Flat w b (p.procs.flatMap prP)∧LnSl w c p.lines∧Flat w d (p.nodes.flatMap ndP)
theorem PlanAt.below {w w':World} {p:Plan} {a b c d:Option Addr} (h:PlanAt w p a b c d) (hb:Below w.heap.size w w'):PlanAt w' p a b c d :=
 ⟨h.1.below hb,h.2.1.below hb,h.2.2.1.below hb,h.2.2.2.below hb⟩
def frmL (f:Frm):List Value:=[.int .i64 f.line,.bool f.p0,.bool f.p1,.bool f.p2]
def thrL (t:Thr):List Value:=.int .i64 t.count :: (frmL t.f0 ++ frmL t.f1 ++ frmL t.f2 ++ frmL t.f3)
def cfgL (c:Cfg):List Value:=[.bool c.s0,.bool c.s1,.bool c.s2,.bool c.s3,.int .i64 c.h0,.int .i64 c.h1,.int .i64 c.h2] ++ thrL c.t0 ++ thrL c.t1 ++ thrL c.t2
end Go.Proofs.YtmfcpbhdggonfaaGreatDoor
namespace Go.Proofs.YtmfcpbhdggonfaaGreatDoor
open Go.RowKit
theorem res_cell {fn:Func} {p:Tmp} {ty:TypeId} {tmps:Array Value} {P:Program} {w:World} {b o:Nat} {cs:List Value} {d:TypeDesc} (h:fn.results = #[.cell p ty]) (ht:tmps.getD p undef = .pointer (some ⟨b,o,none⟩)) (hc:w.rangeAt b o cs) (hu:P.underlying ty = some d) (hd:d.isRow = true) (hi:(P.info? ty).map (·.size) = some cs.length) :
    (results fn tmps).run P w = .ok (.agg cs.toArray) w:=by
 have h1:(asAddr (tmps[p]?.getD undef)).run P w = .ok ⟨b,o,none⟩ w:=by
  rw [Array.getD_eq_getD_getElem?] at ht
  rw [ht]; simp [asAddr]
 simp only [results,h]
 simp only [Sem.run_bind,Result.andThen,List.mapM_toArray,Array.getD_eq_getD_getElem?]
 simp [Sem.run_bind,Result.andThen,h1,run_loadVar_mid w b o ty cs d hc hu hd hi]
theorem res_cell_tmp {fn:Func} {p u:Tmp} {ty:TypeId} {tmps:Array Value} {P:Program} {w:World} {b o:Nat} {cs:List Value} {d:TypeDesc} {x:Value} (h:fn.results = #[.cell p ty,.tmp u]) (ht:tmps.getD p undef = .pointer (some ⟨b,o,none⟩)) (hx:tmps.getD u undef = x) (hc:w.rangeAt b o cs) (hu:P.underlying ty = some d) (hd:d.isRow = true) (hi:(P.info? ty).map (·.size) = some cs.length) :
    (results fn tmps).run P w = .ok (.tuple #[.agg cs.toArray,x]) w:=by
 have h1:(asAddr (tmps.getD p undef)).run P w = .ok ⟨b,o,none⟩ w:=by rw [ht]; simp [asAddr]
 rw [results_cell_tmp h,h1]
 simp [Result.andThen,run_loadVar_mid w b o ty cs d hc hu hd hi,hx]
theorem there_of_block {w:World} {b:Nat} {C:Array Value} {t:TypeId} (hb:w.heap[b]? = some (.cells C t (0,0))) {o n:Nat} (hn:o + n ≤ C.size):w.there b o n:=fun j hj=>by
 refine ⟨?_,by simp [World.frozen?,hb]⟩
 rw [cell_of_row w b (o + j) C t (0,0) hb,Array.getElem?_eq_getElem (by omega)]
 rfl
theorem range_of_block {w:World} {b:Nat} {xs:List Value} {t:TypeId} {fr:Nat × Nat} (hb:w.heap[b]? = some (.cells xs.toArray t fr)) {o:Nat} {cs:List Value} (h:∀ j v,cs[j]? = some v→xs[o + j]? = some v):w.rangeAt b o cs:=fun j v hv=>by
 rw [cell_of_row w b (o + j) _ t fr hb]
 simpa using h j v hv
theorem range_whole {w:World} {b:Nat} {xs:List Value} {t:TypeId} {fr:Nat × Nat} (hb:w.heap[b]? = some (.cells xs.toArray t fr)):w.rangeAt b 0 xs:=range_of_block hb fun j v hv=>by simpa using hv
def setAll:Array Value→Nat→List Value→Array Value
 | C,_,[]=>C
 | C,o,y :: r=>setAll (C.setIfInBounds o y) (o + 1) r
theorem setOne_heap {w:World} {B:Nat} {cs:Array Value} {T:TypeId} (h:w.heap[B]? = some (.cells cs T (0,0))) (o:Nat) (v:Value):(w.setCell ⟨B,o,none⟩ v).heap[B]? = some (.cells (cs.setIfInBounds o v) T (0,0)):=by
 simp only [World.setCell,Array.getElem?_modify]
 rw [if_pos trivial,h]
 rfl
theorem setCells_heap {T:TypeId} {b:Nat}:∀ (ys:List Value) (o:Nat) (w:World) (C:Array Value),w.heap[b]? = some (.cells C T (0,0))→(w.setCells b o ys).heap[b]? = some (.cells (setAll C o ys) T (0,0))
 | [],_,_,_,h=>h
 | y :: r,o,_,_,h=>setCells_heap r (o + 1) _ _ (setOne_heap h o y)
theorem setCells_other {b k:Nat} (hk:k ≠ b):∀ (ys:List Value) (o:Nat) (w:World),(w.setCells b o ys).heap[k]? = w.heap[k]?
 | [],_,_=>rfl
 | y :: r,o,w=>(setCells_other hk r (o + 1) _).trans (Below.heap_setCell w ⟨b,o,none⟩ y k hk)
theorem setCells_below {W:World} {B b:Nat} (hb:B ≤ b):∀ (ys:List Value) (o:Nat) (w:World),Below B W w→Below B W (w.setCells b o ys)
 | [],_,_,h=>h
 | y :: r,o,_,h=>setCells_below hb r (o + 1) _ (h.setCell (p:=⟨b,o,none⟩) hb y)
theorem setAll_get:∀ (ys:List Value) (o:Nat) (C:Array Value) (j:Nat),(setAll C o ys)[j]? = if o ≤ j∧j < o + ys.length∧j < C.size then ys[j - o]? else C[j]?
 | [],o,C,j=>by rw [if_neg (by simp; omega)]; rfl
 | y :: r,o,C,j=>by
  rw [setAll,setAll_get r (o + 1)]
  by_cases h:o = j
  ·subst h
   rw [if_neg (by omega),Array.getElem?_setIfInBounds]
   by_cases h2:o < C.size
   ·have h3:o ≤ o∧o < o + (y :: r).length∧o < C.size:=⟨Nat.le_refl _,by simp,h2⟩
    rw [if_pos (c:=o ≤ o∧o < o + (y :: r).length∧o < C.size) h3]; simp [h2]
   ·rw [if_neg (c:=o ≤ o∧o < o + (y :: r).length∧o < C.size) (fun h=>h2 h.2.2)]; simp [h2]
  ·by_cases h2:o + 1 ≤ j∧j < o + 1 + r.length∧j < C.size
   ·rw [if_pos (by simpa using h2),if_pos ⟨by omega,by simp; omega,h2.2.2⟩,show j - o = (j - (o + 1)) + 1 by omega]
    rfl
   ·rw [if_neg (by simpa using h2),if_neg (by simp; omega),Array.getElem?_setIfInBounds]
    simp [h]
theorem setAll_mid (pre mid post new:List Value) (h:new.length = mid.length):setAll (pre ++ mid ++ post).toArray pre.length new = (pre ++ new ++ post).toArray:=by
 apply Array.ext_getElem?
 intro j
 rw [setAll_get]
 simp only [List.getElem?_toArray,List.size_toArray,List.length_append]
 by_cases h1:j < pre.length
 ·rw [if_neg (by omega),List.append_assoc,List.append_assoc,List.getElem?_append_left h1,List.getElem?_append_left h1]
 ·by_cases h2:j < pre.length + mid.length
  ·rw [if_pos ⟨by omega,by omega,by omega⟩,List.append_assoc,List.getElem?_append_right (by omega),List.getElem?_append_left (by omega)]
  ·rw [if_neg (by omega),List.getElem?_append_right (by simp; omega),List.getElem?_append_right (by simp; omega)]
   simp [h]
theorem setAll_whole (old new:List Value) (h:new.length = old.length):setAll old.toArray 0 new = new.toArray:=by
 have:=setAll_mid [] old [] new h
 simpa using this
end Go.Proofs.YtmfcpbhdggonfaaGreatDoor
namespace Go.Proofs.YtmfcpbhdggonfaaGreatDoor
open Go.RowKit RR
set_option maxHeartbeats 1000000 in
theorem st_Letter (i:Int) (ch:Bool) (w:World) :
    Calls Tryz.prog 197 #[.int .i64 i,.bool ch] w fun e w'=>e = .returned (.string (letterF i ch))∧w' = w:=by
 by_cases h0:i = 0
 ·subst h0
  cases ch
  all_goals
   go_enter Tryz.func197,Tryz.ntmps197
   go_wp2
   go_ret
   exact ⟨rfl,rfl⟩
 by_cases h1:i = 1
 ·subst h1
  cases ch
  all_goals
   go_enter Tryz.func197,Tryz.ntmps197
   go_wp2
   go_ret
   exact ⟨rfl,rfl⟩
 by_cases h2:i = 2
 ·subst h2
  cases ch
  all_goals
   go_enter Tryz.func197,Tryz.ntmps197
   go_wp2
   go_ret
   exact ⟨rfl,rfl⟩
 ·have HE:Hid (letterF i ch = ⟨#[]⟩):=by show _ = _; unfold letterF; rw [if_neg h0,if_neg h1,if_neg h2]
  by_cases hn:i < 0
  ·clear h0 h1 h2
   go_enter Tryz.func197,Tryz.ntmps197
   go_wp2
   go_ret
   exact ⟨ret_str HE.out.symm,rfl⟩
  ·have hp:3 ≤ i:=by omega
   clear h0 h1 h2
   go_enter Tryz.func197,Tryz.ntmps197
   go_wp2
   go_ret
   exact ⟨ret_str HE.out.symm,rfl⟩
def boL (b:Bool):List Value:=[.bool b]
set_option maxHeartbeats 1000000 in
theorem py_valueAt (ao:Option Addr) (cap:Nat) (vs:List Bool) (i:Int) (w:World) (hi:Flat w ao (vs.flatMap boL)) :
    Calls Tryz.prog 191 #[.slice ao vs.length cap,.int .i64 i] w fun e w'=>e = .returned (.bool (valAt vs i))∧w' = w:=by
 by_cases h:0 ≤ i∧i < vs.length
 ·obtain ⟨k,rfl⟩:=Int.eq_ofNat_of_zero_le h.1
  have hlt:k < vs.length:=by omega
  obtain ⟨b,o,hb,hao,hr⟩:=hi.get (f:=boL) (n:=1) (fun _=>rfl) (by decide) k hlt
  subst hao
  have c0:w.cell? ⟨b,o + k * 1,none⟩ = some (.bool vs[k]):=hr 0 _ rfl
  rw [Nat.mul_one] at c0
  have HE:Hid (valAt vs (k:Int) = vs[k]):=by show _ = _; unfold valAt; rw [if_pos h,Int.toNat_natCast,List.getElem?_eq_getElem hlt]; rfl
  clear h hr
  go_enter Tryz.func191,Tryz.ntmps191
  go_wp2
  go_ret
  exact ⟨ret_bool HE.out.symm,rfl⟩
 ·have HE:Hid (valAt vs i = false):=by show _ = _; unfold valAt; rw [if_neg h]
  by_cases h0:i < 0
  ·clear h
   go_enter Tryz.func191,Tryz.ntmps191
   go_wp2
   go_ret
   exact ⟨ret_bool HE.out.symm,rfl⟩
  ·have h1:(vs.length:Int) ≤ i:=by omega
   clear h
   go_enter Tryz.func191,Tryz.ntmps191
   go_wp2
   go_ret
   exact ⟨ret_bool HE.out.symm,rfl⟩
set_option maxHeartbeats 1000000 in
theorem py_bit (b:Bool) (w:World):Calls Tryz.prog 155 #[.bool b] w fun e w'=>e = .returned (.string (bitF b))∧w' = w:=by
 cases b
 all_goals
  go_enter Tryz.func155,Tryz.ntmps155
  go_wp2
  go_ret
  exact ⟨rfl,rfl⟩
set_option maxHeartbeats 1000000 in
theorem py_holderText (h:Int) (w:World):Calls Tryz.prog 156 #[.int .i64 h] w fun e w'=>e = .returned (.string (holderF h))∧w' = w:=by
 by_cases h0:h = 0
 ·subst h0
  go_enter Tryz.func156,Tryz.ntmps156
  go_wp2
  go_ret
  exact ⟨rfl,rfl⟩
 ·have h1:(h == 0) = false:=beq_eq_false_iff_ne.2 h0
  have HE:Hid (holderF h = letterF (wrap64 (h - 1)) false):=by show _ = _; unfold holderF; rw [if_neg h0]
  clear h0
  go_enter Tryz.func156,Tryz.ntmps156
  go_wp2_with (go_at_call 197; refine (st_Letter _ _ _).mono ?_; rintro e w1 ⟨rfl,rfl⟩)
  go_ret
  exact ⟨ret_str (by rw [HE.out]),rfl⟩
def thrA (t:Thr):Value:=.agg #[.int .i64 t.count,.int .i64 t.f0.line,.bool t.f0.p0,.bool t.f0.p1,.bool t.f0.p2,.int .i64 t.f1.line,.bool t.f1.p0,.bool t.f1.p1,.bool t.f1.p2,.int .i64 t.f2.line,.bool t.f2.p0,.bool t.f2.p1,.bool t.f2.p2,.int .i64 t.f3.line,.bool t.f3.p0,.bool t.f3.p1,.bool t.f3.p2]
def frmA (f:Frm):Value:=.agg #[.int .i64 f.line,.bool f.p0,.bool f.p1,.bool f.p2]
def frmV:Option Frm→Value
 | some f=>.tuple #[.agg #[.int .i64 f.line,.bool f.p0,.bool f.p1,.bool f.p2],.bool true]
 | none=>.tuple #[.agg #[.int .i64 0,.bool false,.bool false,.bool false],.bool false]
set_option maxRecDepth 100000 in
set_option maxHeartbeats 2000000 in
theorem py_frame (t:Thr) (above:Int) (w:World) :
    Calls Tryz.prog 151 #[thrA t,.int .i64 above] w fun e w'=>e = .returned (frmV (frameF t above))∧Below w.heap.size w w':=by
 unfold thrA
 by_cases h:0 ≤ wrap64 (wrap64 (t.count - 1) - above)∧wrap64 (wrap64 (t.count - 1) - above) < 4
 ·have HE:Hid (frameF t above = some (t.f (wrap64 (wrap64 (t.count - 1) - above)).toNat)):=by show _ = _; unfold frameF; rw [if_pos h]
  have h4:wrap64 (wrap64 (t.count - 1) - above) = 0 ∨ wrap64 (wrap64 (t.count - 1) - above) = 1 ∨ wrap64 (wrap64 (t.count - 1) - above) = 2 ∨ wrap64 (wrap64 (t.count - 1) - above) = 3:=by omega
  clear h
  rcases h4 with h | h | h | h
  all_goals
   rw [h] at HE
   go_enter Tryz.func151,Tryz.ntmps151
   go_wp2
   refine bodyPost_ret (v:=frmV (frameF t above)) ?_ rfl ⟨rfl,((Below.refl _ _).alloc (Nat.le_refl _) _).alloc (by simp) _⟩
   rw [HE.out]
   simp [results,Tryz.results151,go_sem,frmV,Thr.f]
 ·have HE:Hid (frameF t above = none):=by show _ = _; unfold frameF; rw [if_neg h]
  by_cases h0:wrap64 (wrap64 (t.count - 1) - above) < 0
  ·clear h
   go_enter Tryz.func151,Tryz.ntmps151
   go_wp2
   refine bodyPost_ret (v:=frmV (frameF t above)) ?_ rfl ⟨rfl,((Below.refl _ _).alloc (Nat.le_refl _) _).alloc (by simp) _⟩
   rw [HE.out]
   simp [results,Tryz.results151,go_sem,frmV]
  ·have h1:4 ≤ wrap64 (wrap64 (t.count - 1) - above):=by omega
   clear h
   go_enter Tryz.func151,Tryz.ntmps151
   go_wp2
   refine bodyPost_ret (v:=frmV (frameF t above)) ?_ rfl ⟨rfl,((Below.refl _ _).alloc (Nat.le_refl _) _).alloc (by simp) _⟩
   rw [HE.out]
   simp [results,Tryz.results151,go_sem,frmV]
end Go.Proofs.YtmfcpbhdggonfaaGreatDoor
namespace RR
abbrev NT:=Nat
abbrev NT.nNames:NT:=0
abbrev NT.nMore:NT:=1
abbrev NT.nProcs:NT:=2
abbrev NT.nProc:NT:=3
abbrev NT.nParams:NT:=4
abbrev NT.nBlock:NT:=5
abbrev NT.nStmts:NT:=6
abbrev NT.nValues:NT:=7
abbrev NT.nValue:NT:=8
abbrev NT.nShared:NT:=9
abbrev NT.nLocks:NT:=10
abbrev NT.nExpr:NT:=11
abbrev NT.nOr:NT:=12
abbrev NT.nTerm:NT:=13
abbrev NT.nAnd:NT:=14
abbrev NT.nFactor:NT:=15
abbrev NT.nStmt:NT:=16
abbrev NT.nBehind:NT:=17
abbrev NT.nRight:NT:=18
abbrev NT.nLater:NT:=19
abbrev NT.nElse:NT:=20
abbrev NT.nResult:NT:=21
def NT.enc (x:NT):ByteArray :=
 match x with
 | 0=>⟨#[78,65,77,69,83]⟩
 | 1=>⟨#[77,79,82,69]⟩
 | 2=>⟨#[80,82,79,67,83]⟩
 | 3=>⟨#[80,82,79,67]⟩
 | 4=>⟨#[80,65,82,65,77,83]⟩
 | 5=>⟨#[66,76,79,67,75]⟩
 | 6=>⟨#[83,84,77,84,83]⟩
 | 7=>⟨#[86,65,76,85,69,83]⟩
 | 8=>⟨#[86,65,76,85,69]⟩
 | 9=>⟨#[83,72,65,82,69,68]⟩
 | 10=>⟨#[76,79,67,75,83]⟩
 | 11=>⟨#[69,88,80,82]⟩
 | 12=>⟨#[79,82]⟩
 | 13=>⟨#[84,69,82,77]⟩
 | 14=>⟨#[65,78,68]⟩
 | 15=>⟨#[70,65,67,84,79,82]⟩
 | 16=>⟨#[83,84,77,84]⟩
 | 17=>⟨#[66,69,72,73,78,68]⟩
 | 18=>⟨#[82,73,71,72,84]⟩
 | 19=>⟨#[76,65,84,69,82]⟩
 | 20=>⟨#[69,76,83,69]⟩
 | _=>⟨#[82,69,83,85,76,84]⟩
def becB (x:NT) (t:ByteArray):List ByteArray :=
 match x with
 | 0=>[⟨#[78,65,77,69]⟩,⟨#[77,79,82,69]⟩]
 | 1=>if t = ⟨#[44]⟩ then [⟨#[44]⟩,⟨#[78,65,77,69]⟩,⟨#[77,79,82,69]⟩] else []
 | 2=>if t = ⟨#[112,114,111,99]⟩ then [⟨#[80,82,79,67]⟩,⟨#[80,82,79,67,83]⟩] else []
 | 3=>[⟨#[112,114,111,99]⟩,⟨#[78,65,77,69]⟩,⟨#[40]⟩,⟨#[80,65,82,65,77,83]⟩,⟨#[41]⟩,⟨#[66,76,79,67,75]⟩]
 | 4=>if t = ⟨#[41]⟩ then [] else [⟨#[78,65,77,69,83]⟩]
 | 5=>[⟨#[123]⟩,⟨#[83,84,77,84,83]⟩,⟨#[125]⟩]
 | 6=>if t = ⟨#[125]⟩ then [] else [⟨#[83,84,77,84]⟩,⟨#[83,84,77,84,83]⟩]
 | 7=>if t = ⟨#[41]⟩ then [] else [⟨#[69,88,80,82]⟩,⟨#[86,65,76,85,69]⟩]
 | 8=>if t = ⟨#[44]⟩ then [⟨#[44]⟩,⟨#[69,88,80,82]⟩,⟨#[86,65,76,85,69]⟩] else []
 | 9=>if t = ⟨#[115,104,97,114,101,100]⟩ then [⟨#[115,104,97,114,101,100]⟩,⟨#[78,65,77,69,83]⟩,⟨#[59]⟩] else []
 | 10=>if t = ⟨#[108,111,99,107,115]⟩ then [⟨#[108,111,99,107,115]⟩,⟨#[78,65,77,69,83]⟩,⟨#[59]⟩] else []
 | 11=>[⟨#[84,69,82,77]⟩,⟨#[79,82]⟩]
 | 12=>if t = ⟨#[124]⟩ then [⟨#[124]⟩,⟨#[84,69,82,77]⟩,⟨#[79,82]⟩] else []
 | 13=>[⟨#[70,65,67,84,79,82]⟩,⟨#[65,78,68]⟩]
 | 14=>if t = ⟨#[38]⟩ then [⟨#[38]⟩,⟨#[70,65,67,84,79,82]⟩,⟨#[65,78,68]⟩] else []
 | 15=>if t = ⟨#[33]⟩ then [⟨#[33]⟩,⟨#[70,65,67,84,79,82]⟩] else if t = ⟨#[40]⟩ then [⟨#[40]⟩,⟨#[69,88,80,82]⟩,⟨#[41]⟩] else if isNameB t = true then [t] else if t = ⟨#[116,114,117,101]⟩ then [⟨#[116,114,117,101]⟩] else if t = ⟨#[102,97,108,115,101]⟩ then [⟨#[102,97,108,115,101]⟩] else if t = ⟨#[63]⟩ then [⟨#[63]⟩] else [⟨#[78,65,77,69]⟩]
 | 16=>if isNameB t = true then [⟨#[78,65,77,69]⟩,⟨#[66,69,72,73,78,68]⟩] else if t = ⟨#[105,102]⟩ then [⟨#[105,102]⟩,⟨#[40]⟩,⟨#[69,88,80,82]⟩,⟨#[41]⟩,⟨#[66,76,79,67,75]⟩,⟨#[69,76,83,69]⟩] else if t = ⟨#[119,104,105,108,101]⟩ then [⟨#[119,104,105,108,101]⟩,⟨#[40]⟩,⟨#[69,88,80,82]⟩,⟨#[41]⟩,⟨#[66,76,79,67,75]⟩] else if t = ⟨#[97,115,115,117,109,101]⟩ then [⟨#[97,115,115,117,109,101]⟩,⟨#[69,88,80,82]⟩,⟨#[59]⟩] else if t = ⟨#[97,99,113,117,105,114,101]⟩ then [⟨#[97,99,113,117,105,114,101]⟩,⟨#[78,65,77,69]⟩,⟨#[59]⟩] else if t = ⟨#[114,101,108,101,97,115,101]⟩ then [⟨#[114,101,108,101,97,115,101]⟩,⟨#[78,65,77,69]⟩,⟨#[59]⟩] else if t = ⟨#[114,101,116,117,114,110]⟩ then [⟨#[114,101,116,117,114,110]⟩,⟨#[82,69,83,85,76,84]⟩,⟨#[59]⟩] else [⟨#[115,107,105,112]⟩,⟨#[59]⟩]
 | 17=>if t = ⟨#[40]⟩ then [⟨#[40]⟩,⟨#[86,65,76,85,69,83]⟩,⟨#[41]⟩,⟨#[59]⟩] else [⟨#[61]⟩,⟨#[82,73,71,72,84]⟩,⟨#[59]⟩]
 | 18=>if isNameB t = true then [⟨#[78,65,77,69]⟩,⟨#[76,65,84,69,82]⟩] else [⟨#[69,88,80,82]⟩]
 | 19=>if t = ⟨#[40]⟩ then [⟨#[40]⟩,⟨#[86,65,76,85,69,83]⟩,⟨#[41]⟩] else [⟨#[65,78,68]⟩,⟨#[79,82]⟩]
 | 20=>if t = ⟨#[101,108,115,101]⟩ then [⟨#[101,108,115,101]⟩,⟨#[66,76,79,67,75]⟩] else []
 | _=>if t = ⟨#[59]⟩ then [] else [⟨#[69,88,80,82]⟩]
def NT.all:List NT:=[.nNames,.nMore,.nProcs,.nProc,.nParams,.nBlock,.nStmts,.nValues,.nValue,.nShared,.nLocks,.nExpr,.nOr,.nTerm,.nAnd,.nFactor,.nStmt,.nBehind,.nRight,.nLater,.nElse,.nResult]
def ntOf (s:ByteArray):Option NT:=NT.all.find? fun n=>decide (n.enc = s)
end RR
namespace Go.Proofs.YtmfcpbhdggonfaaGreatDoor
open Go.RowKit RR
def StrSl (w:World) (ao:Option Addr) (cap:Nat) (l:List ByteArray):Prop:=(ao = none→cap = 0)∧l.length ≤ cap∧∀ i,(h:i < l.length)→∃ b o,b < w.heap.size∧ao = some ⟨b,o,none⟩∧w.cell? ⟨b,o + i,none⟩ = some (.string l[i])
theorem StrSl.below {w w':World} {ao:Option Addr} {cap:Nat} {l:List ByteArray} (h:StrSl w ao cap l) (hb:Below w.heap.size w w'):StrSl w' ao cap l:=⟨h.1,h.2.1,fun i hi=>by
 obtain ⟨b,o,h1,h2,h3⟩:=h.2.2 i hi
 exact ⟨b,o,Nat.lt_of_lt_of_le h1 hb.size,h2,(hb.cell (p:=⟨b,o + i,none⟩) h1).trans h3⟩⟩
theorem lit_ne {t c:ByteArray} (h:¬ t = c) {l:List UInt8} (hc:c.toList = l):(t.toList == l) = false:=by
 rw [← hc,seq_comm]; exact decide_eq_false h
end Go.Proofs.YtmfcpbhdggonfaaGreatDoor
namespace Go.Proofs.YtmfcpbhdggonfaaGreatDoor
open Go.RowKit RR
theorem Tryz.infoStr:(Tryz.prog.info? 9).map (fun i=>(i.zero,i.size,i.bytes)) = some (some (.string ⟨#[]⟩),1,16):=by kernel_rfl
end Go.Proofs.YtmfcpbhdggonfaaGreatDoor
