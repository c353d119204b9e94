/- Contracts of the program's package plan: names by their numbers. -/
import Derived.Test.YtmfcpbhdggonfaaGreatDoorMjAO
import Derived.Test.YtmfcpbhdggonfaaGreatDoorMjAE
import Derived.Test.YtmfcpbhdggonfaaGreatDoorMjAF
import Derived.Test.YtmfcpbhdggonfaaGreatDoorMjAB
import Derived.Test.YtmfcpbhdggonfaaGreatDoorMjAA
namespace Go.Proofs.YtmfcpbhdggonfaaGreatDoor
open Go.RowKit RR
theorem ret_str {a b:ByteArray} (h:a = b):Ending.returned (.string a) = .returned (.string b):=by rw [h]
theorem numF_drop {t:ByteArray} {r:Nat} {l:List Nm} {k c:Nat} (h:k < l.length):numF t r (l.drop k) c = if l[k].role = r then (if l[k].word = t then (c:Int) else numF t r (l.drop (k + 1)) (c + 1)) else numF t r (l.drop (k + 1)) c:=by
 rw [List.drop_eq_getElem_cons h]; rfl
theorem parF_drop {t:ByteArray} {q:Int} {l:List Nm} {k c:Nat} (h:k < l.length):parF t q (l.drop k) c = if l[k].role = 3∧l[k].proc = q then (if l[k].word = t then (c:Int) else parF t q (l.drop (k + 1)) (c + 1)) else parF t q (l.drop (k + 1)) c:=by
 rw [List.drop_eq_getElem_cons h]; rfl
theorem cntF_drop {q:Int} {l:List Nm} {k c:Nat} (h:k < l.length):cntF q (l.drop k) c = if l[k].role = 3∧l[k].proc = q then cntF q (l.drop (k + 1)) (c + 1) else cntF q (l.drop (k + 1)) c:=by
 rw [List.drop_eq_getElem_cons h]; rfl
set_option maxRecDepth 100000 in
set_option maxHeartbeats 1000000 in
theorem pn_numberOf (ao:Option Addr) (cap:Nat) (l:List Nm) (t:ByteArray) (r:Nat) (w:World) (hl:l.length ≤ 1000) (hi:NmSl w ao l) :
    Calls Tryz.prog 145 #[.slice ao l.length cap,.string t,.int .i64 r] w fun e w'=>e = .returned (.int .i64 (numF t r l 0))∧Below w.heap.size w w':=by
 go_enter Tryz.func145,Tryz.ntmps145
 go_wp2
 go_loopw [7,12] (fun v u wr=>∃ k c:Nat,u = .int .i64 k∧v = .int .i64 c∧k ≤ l.length∧c ≤ k∧numF t r (l.drop k) c = numF t r l 0∧Below w.heap.size w wr) (fun _ u _=>l.length - (intOf u).toNat)
 case atStart=>exact ⟨0,0,rfl,rfl,Nat.zero_le _,Nat.le_refl _,rfl,Below.refl _ _⟩
 case round =>
  obtain ⟨k,c,rfl,rfl,hk,hc,hn,hbel⟩:=hrel
  have HN:=hide hn
  clear hn
  by_cases hlt:k < l.length
  ·obtain ⟨b,o,hb,hao,c1,c2,c3,c4⟩:=(hi.below hbel) k hlt
   subst hao
   have HS:=hide (numF_drop (t:=t) (r:=r) (c:=c) hlt)
   by_cases hr:(l[k].role:Int) = r
   ·have hr':((l[k].role:Int) == r) = true:=beq_iff_eq.2 hr
    have HR:Hid (l[k].role = r):=by show _ = _; omega
    cases hw:(l[k].word.toList == t.toList)
    ·have HW:Hid (¬ l[k].word = t):=fun e=>by rw [e] at hw; simp at hw
     clear hr
     go_wp2
     go_roundw
     case rel=>exact ⟨k + 1,c + 1,by go_num,by go_num,by omega,by omega,by rw [← HN.out,HS.out,if_pos HR.out,if_neg HW.out],hbel.alloc hbel.size _⟩
     case measure=>simp [intOf]; omega
    ·have HW:Hid (l[k].word = t):=toList_inj.1 (by simpa using hw)
     clear hr
     go_wp2
     go_ret
     exact ⟨ret_int (by rw [← HN.out,HS.out,if_pos HR.out,if_pos HW.out]),hbel.alloc hbel.size _⟩
   ·have hr':((l[k].role:Int) == r) = false:=beq_eq_false_iff_ne.2 hr
    have HR:Hid (¬ l[k].role = r):=fun e=>hr (by omega)
    clear hr
    go_wp2
    go_roundw
    case rel=>exact ⟨k + 1,c,by go_num,rfl,by omega,by omega,by rw [← HN.out,HS.out,if_neg HR.out],hbel.alloc hbel.size _⟩
    case measure=>simp [intOf]; omega
  ·go_wp2
   go_ret
   exact ⟨ret_int (by rw [← HN.out,List.drop_of_length_le (by omega)]; rfl),hbel⟩
set_option maxRecDepth 100000 in
set_option maxHeartbeats 1000000 in
theorem pn_paramOf (ao:Option Addr) (cap:Nat) (l:List Nm) (t:ByteArray) (q:Int) (w:World) (hl:l.length ≤ 1000) (hi:NmSl w ao l) :
    Calls Tryz.prog 146 #[.slice ao l.length cap,.string t,.int .i64 q] w fun e w'=>e = .returned (.int .i64 (parF t q l 0))∧Below w.heap.size w w':=by
 go_enter Tryz.func146,Tryz.ntmps146
 go_wp2
 go_loopw [7,13] (fun v u wr=>∃ k c:Nat,u = .int .i64 k∧v = .int .i64 c∧k ≤ l.length∧c ≤ k∧parF t q (l.drop k) c = parF t q l 0∧Below w.heap.size w wr) (fun _ u _=>l.length - (intOf u).toNat)
 case atStart=>exact ⟨0,0,rfl,rfl,Nat.zero_le _,Nat.le_refl _,rfl,Below.refl _ _⟩
 case round =>
  obtain ⟨k,c,rfl,rfl,hk,hc,hn,hbel⟩:=hrel
  have HN:=hide hn
  clear hn
  by_cases hlt:k < l.length
  ·obtain ⟨b,o,hb,hao,c1,c2,c3,c4⟩:=(hi.below hbel) k hlt
   subst hao
   have HS:=hide (parF_drop (t:=t) (q:=q) (c:=c) hlt)
   by_cases hr:(l[k].role:Int) = 3
   ·have hr':((l[k].role:Int) == 3) = true:=beq_iff_eq.2 hr
    have HR:Hid (l[k].role = 3):=by show _ = _; omega
    by_cases hq:l[k].proc = q
    ·have hq':(l[k].proc == q) = true:=beq_iff_eq.2 hq
     have HQ:=hide hq
     cases hw:(l[k].word.toList == t.toList)
     ·have HW:Hid (¬ l[k].word = t):=fun e=>by rw [e] at hw; simp at hw
      clear hr hq
      go_wp2
      go_roundw
      case rel=>exact ⟨k + 1,c + 1,by go_num,by go_num,by omega,by omega,by rw [← HN.out,HS.out,if_pos ⟨HR.out,HQ.out⟩,if_neg HW.out],hbel.alloc hbel.size _⟩
      case measure=>simp [intOf]; omega
     ·have HW:Hid (l[k].word = t):=toList_inj.1 (by simpa using hw)
      clear hr hq
      go_wp2
      go_ret
      exact ⟨ret_int (by rw [← HN.out,HS.out,if_pos ⟨HR.out,HQ.out⟩,if_pos HW.out]),hbel.alloc hbel.size _⟩
    ·have hq':(l[k].proc == q) = false:=beq_eq_false_iff_ne.2 hq
     have HQ:Hid (¬ (l[k].role = 3∧l[k].proc = q)):=fun e=>hq e.2
     clear hr hq
     go_wp2
     go_roundw
     case rel=>exact ⟨k + 1,c,by go_num,rfl,by omega,by omega,by rw [← HN.out,HS.out,if_neg HQ.out],hbel.alloc hbel.size _⟩
     case measure=>simp [intOf]; omega
   ·have hr':((l[k].role:Int) == 3) = false:=beq_eq_false_iff_ne.2 hr
    have HR:Hid (¬ (l[k].role = 3∧l[k].proc = q)):=fun e=>hr (by omega)
    clear hr
    go_wp2
    go_roundw
    case rel=>exact ⟨k + 1,c,by go_num,rfl,by omega,by omega,by rw [← HN.out,HS.out,if_neg HR.out],hbel.alloc hbel.size _⟩
    case measure=>simp [intOf]; omega
  ·go_wp2
   go_ret
   exact ⟨ret_int (by rw [← HN.out,List.drop_of_length_le (by omega)]; rfl),hbel⟩
set_option maxRecDepth 100000 in
set_option maxHeartbeats 1000000 in
theorem pn_paramsOf (ao:Option Addr) (cap:Nat) (l:List Nm) (q:Int) (w:World) (hl:l.length ≤ 1000) (hi:NmSl w ao l) :
    Calls Tryz.prog 143 #[.slice ao l.length cap,.int .i64 q] w fun e w'=>e = .returned (.int .i64 (cntF q l 0))∧Below w.heap.size w w':=by
 go_enter Tryz.func143,Tryz.ntmps143
 go_wp2
 go_loopw [5,10] (fun v u wr=>∃ k c:Nat,u = .int .i64 k∧v = .int .i64 c∧k ≤ l.length∧c ≤ k∧cntF q (l.drop k) c = cntF q l 0∧Below w.heap.size w wr) (fun _ u _=>l.length - (intOf u).toNat)
 case atStart=>exact ⟨0,0,rfl,rfl,Nat.zero_le _,Nat.le_refl _,rfl,Below.refl _ _⟩
 case round =>
  obtain ⟨k,c,rfl,rfl,hk,hc,hn,hbel⟩:=hrel
  have HN:=hide hn
  clear hn
  by_cases hlt:k < l.length
  ·obtain ⟨b,o,hb,hao,c1,c2,c3,c4⟩:=(hi.below hbel) k hlt
   subst hao
   have HS:=hide (cntF_drop (q:=q) (c:=c) hlt)
   by_cases hr:(l[k].role:Int) = 3
   ·have hr':((l[k].role:Int) == 3) = true:=beq_iff_eq.2 hr
    have HR:Hid (l[k].role = 3):=by show _ = _; omega
    by_cases hq:l[k].proc = q
    ·have hq':(l[k].proc == q) = true:=beq_iff_eq.2 hq
     have HQ:=hide hq
     clear hr hq
     go_wp2
     go_roundw
     case rel=>exact ⟨k + 1,c + 1,by go_num,by go_num,by omega,by omega,by rw [← HN.out,HS.out,if_pos ⟨HR.out,HQ.out⟩],hbel.alloc hbel.size _⟩
     case measure=>simp [intOf]; omega
    ·have hq':(l[k].proc == q) = false:=beq_eq_false_iff_ne.2 hq
     have HQ:Hid (¬ (l[k].role = 3∧l[k].proc = q)):=fun e=>hq e.2
     clear hr hq
     go_wp2
     go_roundw
     case rel=>exact ⟨k + 1,c,by go_num,rfl,by omega,by omega,by rw [← HN.out,HS.out,if_neg HQ.out],hbel.alloc hbel.size _⟩
     case measure=>simp [intOf]; omega
   ·have hr':((l[k].role:Int) == 3) = false:=beq_eq_false_iff_ne.2 hr
    have HR:Hid (¬ (l[k].role = 3∧l[k].proc = q)):=fun e=>hr (by omega)
    clear hr
    go_wp2
    go_roundw
    case rel=>exact ⟨k + 1,c,by go_num,rfl,by omega,by omega,by rw [← HN.out,HS.out,if_neg HR.out],hbel.alloc hbel.size _⟩
    case measure=>simp [intOf]; omega
  ·go_wp2
   go_ret
   exact ⟨ret_int (by rw [← HN.out,List.drop_of_length_le (by omega)]; rfl),hbel⟩
theorem nmAt_eq {ns:List Nm} {k:Nat} (h:k < ns.length):nmAt ns k = ns[k]:=by unfold nmAt; rw [List.getElem?_eq_getElem h]; rfl
set_option maxRecDepth 100000 in
set_option maxHeartbeats 1000000 in
theorem pn_wordOf (ao:Option Addr) (cap:Nat) (l:List Nm) (i:Int) (w:World) (hi:NmSl w ao l) :
    Calls Tryz.prog 148 #[.slice ao l.length cap,.int .i64 i] w fun e w'=>e = .returned (.string (nwordF l i))∧w' = w:=by
 by_cases h:0 ≤ i∧i < l.length
 ·obtain ⟨k,rfl⟩:=Int.eq_ofNat_of_zero_le h.1
  have hlt:k < l.length:=by omega
  obtain ⟨b,o,hb,hao,c1,c2,c3,c4⟩:=hi k hlt
  subst hao
  have HE:Hid (nwordF l (k:Int) = l[k].word):=by show _ = _; unfold nwordF; rw [if_pos h,Int.toNat_natCast,nmAt_eq hlt]
  clear h
  go_enter Tryz.func148,Tryz.ntmps148
  go_wp2
  go_ret
  exact ⟨ret_str HE.out.symm,rfl⟩
 ·have HE:Hid (nwordF l i = ⟨#[]⟩):=by show _ = _; unfold nwordF; rw [if_neg h]
  by_cases h0:i < 0
  ·clear h
   go_enter Tryz.func148,Tryz.ntmps148
   go_wp2
   go_ret
   exact ⟨ret_str HE.out.symm,rfl⟩
  ·have h1:(l.length:Int) ≤ i:=by omega
   clear h
   go_enter Tryz.func148,Tryz.ntmps148
   go_wp2
   go_ret
   exact ⟨ret_str HE.out.symm,rfl⟩
def set2 (w:World) (A:Nat) (x y:Value):World:=(w.setCell ⟨A,0,none⟩ x).setCell ⟨A,1,none⟩ y
theorem two_heap {w:World} {A:Nat} {a b x y:Value} {T:TypeId} (hA:w.heap[A]? = some (.cells #[a,b] T (0,0))):(set2 w A x y).heap[A]? = some (.cells #[x,y] T (0,0)):=cts_set (cts_set hA 0 x) 1 y
theorem set2_below {W w:World} {A:Nat} (h:Below A W w) (x y:Value):Below A W (set2 w A x y):=(h.setCell (p:=⟨A,0,none⟩) (Nat.le_refl _) _).setCell (p:=⟨A,1,none⟩) (Nat.le_refl _) _
theorem two_set {w:World} {A:Nat} {a b x y:Value} {T:TypeId} (hA:w.heap[A]? = some (.cells #[a,b] T (0,0))):(set2 w A x y).cell? ⟨A,0,none⟩ = some x∧(set2 w A x y).cell? ⟨A,1,none⟩ = some y:=by
 have h:=two_heap (x:=x) (y:=y) hA
 generalize set2 w A x y = v at *
 exact ⟨by simp [World.cell?,h],by simp [World.cell?,h]⟩
def truV (t:Tru):Value:=.agg #[.int .i64 t.own,.int .i64 t.num]
set_option maxRecDepth 100000 in
set_option maxHeartbeats 2000000 in
theorem pn_truthOf (ao:Option Addr) (cap:Nat) (l:List Nm) (i:Int) (w:World) (hl:l.length ≤ 1000) (hi:NmSl w ao l) :
    Calls Tryz.prog 105 #[.slice ao l.length cap,.int .i64 i] w fun e w'=>e = .returned (truV (truthF l i))∧Below w.heap.size w w':=by
 have hA0:=heap_alloc_new w (.cells #[.int .i64 0,.int .i64 0] 193)
 have hb0:Below w.heap.size w (w.alloc (.cells #[.int .i64 0,.int .i64 0] 193)):=(Below.refl _ _).alloc (Nat.le_refl _) _
 by_cases h:0 ≤ i∧i < l.length
 ·obtain ⟨k,rfl⟩:=Int.eq_ofNat_of_zero_le h.1
  have hlt:k < l.length:=by omega
  obtain ⟨b,o,hb,hao,c1,c2,c3,c4⟩:=hi k hlt
  subst hao
  have HE:Hid (truthF l (k:Int) = if 0 ≤ numF l[k].word 0 l 0 then ⟨1,numF l[k].word 0 l 0⟩ else if 0 ≤ parF l[k].word l[k].proc l 0 then ⟨2,parF l[k].word l[k].proc l 0⟩ else ⟨0,0⟩):=by show _ = _; unfold truthF; rw [if_pos h,Int.toNat_natCast,nmAt_eq hlt]
  clear h
  go_enter Tryz.func105,Tryz.ntmps105
  go_wp2_with fail
  refine (pn_numberOf _ cap l l[k].word 0 _ hl (hi.below hb0)).mono ?_
  rintro e w1 ⟨rfl,hb1⟩
  have hA1:=(hb1.block w.heap.size (by simp)).trans hA0
  have hbel1:=hb0.trans (hb1.mono hb0.size)
  have hz1:w.heap.size < w1.heap.size:=(Array.getElem?_eq_some_iff.1 hA1).1
  clear hA0 hb0 hb1
  have a0:w1.cell? ⟨w.heap.size,0,none⟩ = some (.int .i64 0):=by simp [World.cell?,hA1]
  have a1:w1.cell? ⟨w.heap.size,1,none⟩ = some (.int .i64 0):=by simp [World.cell?,hA1]
  have g0:w1.frozen? ⟨w.heap.size,0,none⟩ = false:=by simp [World.frozen?,hA1]
  have g1:w1.frozen? ⟨w.heap.size,1,none⟩ = false:=by simp [World.frozen?,hA1]
  generalize hN:numF l[k].word 0 l 0 = n at HE
  have HN:=hide hN
  clear hN
  by_cases hn:0 ≤ n
  ·have HE2:Hid (truthF l (k:Int) = ⟨1,n⟩):=by show _ = _; rw [HE.out,if_pos hn]
   have hr:=two_set (x:=.int .i64 1) (y:=.int .i64 n) hA1
   have hset:=set2_below hbel1 (.int .i64 1) (.int .i64 n)
   unfold set2 at hr hset
   have HR:=hide hr
   have HS:=hide hset
   clear HE hr hset
   go_wp2
   refine bodyPost_ret (v:=truV (truthF l (k:Int))) ?_ rfl ⟨rfl,HS.out⟩
   rw [HE2.out]
   simp [results,Tryz.results105,go_sem,HR.out.1,HR.out.2,truV]
  ·have hn2:n < 0:=by omega
   have d1:=(hbel1.cell (p:=⟨b,o + k * 4,none⟩) hb).trans c1
   have d4:=(hbel1.cell (p:=⟨b,o + k * 4 + 3,none⟩) hb).trans c4
   have hb2:b < w1.heap.size:=Nat.lt_trans hb hz1
   have hi1:=hi.below hbel1
   go_wp2_with fail
   go_region_held (fun w'=>w'.cell? ⟨b,o + k * 4,none⟩ = some (.string l[k].word)∧w'.cell? ⟨b,o + k * 4 + 3,none⟩ = some (.int .i64 l[k].proc)∧Below w1.heap.size w1 w') (first | exact ⟨d1,d4,(Below.refl _ _).drew⟩ | exact keep2 hb2 hb2 (by assumption) (by assumption)) (first | (go_at_call 146; refine (pn_paramOf _ cap l _ _ _ hl ?_).mono ?_; exact hi1.below (Below.refl _ _).drew; rintro e w3 ⟨rfl,hb3⟩))
   have hb13:Below w1.heap.size w1 w3:=(Below.refl _ _).drew.trans hb3
   have hA3:=(hb13.block w.heap.size hz1).trans hA1
   have hbel3:=hbel1.trans (hb13.mono (Nat.le_of_lt hz1))
   clear a0 a1 g0 g1 hA1 hbel1 hb3 hb13 d1 d4 hi1 hb2
   have a0:w3.cell? ⟨w.heap.size,0,none⟩ = some (.int .i64 0):=by simp [World.cell?,hA3]
   have a1:w3.cell? ⟨w.heap.size,1,none⟩ = some (.int .i64 0):=by simp [World.cell?,hA3]
   have g0:w3.frozen? ⟨w.heap.size,0,none⟩ = false:=by simp [World.frozen?,hA3]
   have g1:w3.frozen? ⟨w.heap.size,1,none⟩ = false:=by simp [World.frozen?,hA3]
   generalize hM:parF l[k].word l[k].proc l 0 = m at HE
   have HM:=hide hM
   clear hM
   by_cases hm:0 ≤ m
   ·have HE2:Hid (truthF l (k:Int) = ⟨2,m⟩):=by show _ = _; rw [HE.out,if_neg (by omega),if_pos hm]
    have hr:=two_set (x:=.int .i64 2) (y:=.int .i64 m) hA3
    have hset:=set2_below hbel3 (.int .i64 2) (.int .i64 m)
    unfold set2 at hr hset
    have HR:=hide hr
    have HS:=hide hset
    clear HE hr hset
    go_wp2
    refine bodyPost_ret (v:=truV (truthF l (k:Int))) ?_ rfl ⟨rfl,HS.out⟩
    rw [HE2.out]
    simp [results,Tryz.results105,go_sem,HR.out.1,HR.out.2,truV]
   ·have HE2:Hid (truthF l (k:Int) = ⟨0,0⟩):=by show _ = _; rw [HE.out,if_neg (by omega),if_neg hm]
    have hm2:m < 0:=by omega
    have hr:=two_set (x:=.int .i64 0) (y:=.int .i64 0) hA3
    have hset:=set2_below hbel3 (.int .i64 0) (.int .i64 0)
    unfold set2 at hr hset
    have HR:=hide hr
    have HS:=hide hset
    clear HE hr hset
    go_wp2
    refine bodyPost_ret (v:=truV (truthF l (k:Int))) ?_ rfl ⟨rfl,HS.out⟩
    rw [HE2.out]
    simp [results,Tryz.results105,go_sem,HR.out.1,HR.out.2,truV]
 ·have HE:Hid (truthF l i = ⟨0,0⟩):=by show _ = _; unfold truthF; rw [if_neg h]
  by_cases h0:i < 0
  ·clear h
   go_enter Tryz.func105,Tryz.ntmps105
   go_wp2
   refine bodyPost_ret (v:=truV (truthF l i)) ?_ rfl ⟨rfl,hb0⟩
   rw [HE.out]
   simp [results,Tryz.results105,go_sem,truV]
  ·have h1:(l.length:Int) ≤ i:=by omega
   clear h
   go_enter Tryz.func105,Tryz.ntmps105
   go_wp2
   refine bodyPost_ret (v:=truV (truthF l i)) ?_ rfl ⟨rfl,hb0⟩
   rw [HE.out]
   simp [results,Tryz.results105,go_sem,truV]
end Go.Proofs.YtmfcpbhdggonfaaGreatDoor
namespace Go.Proofs.YtmfcpbhdggonfaaGreatDoor
open Go.RowKit RR
set_option maxHeartbeats 1000000 in
theorem st_Letter (i:Int) (ch:Bool) (w:World) :
    Calls Tryz.prog 197 #[.int .i64 i,.bool ch] w fun e w'=>e = .returned (.string (letterF i ch))∧w' = w:=by
 by_cases h0:i = 0
 ·subst h0
  cases ch
  all_goals
   go_enter Tryz.func197,Tryz.ntmps197
   go_wp2
   go_ret
   exact ⟨rfl,rfl⟩
 by_cases h1:i = 1
 ·subst h1
  cases ch
  all_goals
   go_enter Tryz.func197,Tryz.ntmps197
   go_wp2
   go_ret
   exact ⟨rfl,rfl⟩
 by_cases h2:i = 2
 ·subst h2
  cases ch
  all_goals
   go_enter Tryz.func197,Tryz.ntmps197
   go_wp2
   go_ret
   exact ⟨rfl,rfl⟩
 ·have HE:Hid (letterF i ch = ⟨#[]⟩):=by show _ = _; unfold letterF; rw [if_neg h0,if_neg h1,if_neg h2]
  by_cases hn:i < 0
  ·clear h0 h1 h2
   go_enter Tryz.func197,Tryz.ntmps197
   go_wp2
   go_ret
   exact ⟨ret_str HE.out.symm,rfl⟩
  ·have hp:3 ≤ i:=by omega
   clear h0 h1 h2
   go_enter Tryz.func197,Tryz.ntmps197
   go_wp2
   go_ret
   exact ⟨ret_str HE.out.symm,rfl⟩
def boL (b:Bool):List Value:=[.bool b]
set_option maxHeartbeats 1000000 in
theorem py_valueAt (ao:Option Addr) (cap:Nat) (vs:List Bool) (i:Int) (w:World) (hi:Flat w ao (vs.flatMap boL)) :
    Calls Tryz.prog 191 #[.slice ao vs.length cap,.int .i64 i] w fun e w'=>e = .returned (.bool (valAt vs i))∧w' = w:=by
 by_cases h:0 ≤ i∧i < vs.length
 ·obtain ⟨k,rfl⟩:=Int.eq_ofNat_of_zero_le h.1
  have hlt:k < vs.length:=by omega
  obtain ⟨b,o,hb,hao,hr⟩:=hi.get (f:=boL) (n:=1) (fun _=>rfl) (by decide) k hlt
  subst hao
  have c0:w.cell? ⟨b,o + k * 1,none⟩ = some (.bool vs[k]):=hr 0 _ rfl
  rw [Nat.mul_one] at c0
  have HE:Hid (valAt vs (k:Int) = vs[k]):=by show _ = _; unfold valAt; rw [if_pos h,Int.toNat_natCast,List.getElem?_eq_getElem hlt]; rfl
  clear h hr
  go_enter Tryz.func191,Tryz.ntmps191
  go_wp2
  go_ret
  exact ⟨ret_bool HE.out.symm,rfl⟩
 ·have HE:Hid (valAt vs i = false):=by show _ = _; unfold valAt; rw [if_neg h]
  by_cases h0:i < 0
  ·clear h
   go_enter Tryz.func191,Tryz.ntmps191
   go_wp2
   go_ret
   exact ⟨ret_bool HE.out.symm,rfl⟩
  ·have h1:(vs.length:Int) ≤ i:=by omega
   clear h
   go_enter Tryz.func191,Tryz.ntmps191
   go_wp2
   go_ret
   exact ⟨ret_bool HE.out.symm,rfl⟩
set_option maxHeartbeats 1000000 in
theorem py_bit (b:Bool) (w:World):Calls Tryz.prog 155 #[.bool b] w fun e w'=>e = .returned (.string (bitF b))∧w' = w:=by
 cases b
 all_goals
  go_enter Tryz.func155,Tryz.ntmps155
  go_wp2
  go_ret
  exact ⟨rfl,rfl⟩
set_option maxHeartbeats 1000000 in
theorem py_holderText (h:Int) (w:World):Calls Tryz.prog 156 #[.int .i64 h] w fun e w'=>e = .returned (.string (holderF h))∧w' = w:=by
 by_cases h0:h = 0
 ·subst h0
  go_enter Tryz.func156,Tryz.ntmps156
  go_wp2
  go_ret
  exact ⟨rfl,rfl⟩
 ·have h1:(h == 0) = false:=beq_eq_false_iff_ne.2 h0
  have HE:Hid (holderF h = letterF (wrap64 (h - 1)) false):=by show _ = _; unfold holderF; rw [if_neg h0]
  clear h0
  go_enter Tryz.func156,Tryz.ntmps156
  go_wp2_with (go_at_call 197; refine (st_Letter _ _ _).mono ?_; rintro e w1 ⟨rfl,rfl⟩)
  go_ret
  exact ⟨ret_str (by rw [HE.out]),rfl⟩
def thrA (t:Thr):Value:=.agg #[.int .i64 t.count,.int .i64 t.f0.line,.bool t.f0.p0,.bool t.f0.p1,.bool t.f0.p2,.int .i64 t.f1.line,.bool t.f1.p0,.bool t.f1.p1,.bool t.f1.p2,.int .i64 t.f2.line,.bool t.f2.p0,.bool t.f2.p1,.bool t.f2.p2,.int .i64 t.f3.line,.bool t.f3.p0,.bool t.f3.p1,.bool t.f3.p2]
def frmA (f:Frm):Value:=.agg #[.int .i64 f.line,.bool f.p0,.bool f.p1,.bool f.p2]
def frmV:Option Frm→Value
 | some f=>.tuple #[.agg #[.int .i64 f.line,.bool f.p0,.bool f.p1,.bool f.p2],.bool true]
 | none=>.tuple #[.agg #[.int .i64 0,.bool false,.bool false,.bool false],.bool false]
set_option maxRecDepth 100000 in
set_option maxHeartbeats 2000000 in
theorem py_frame (t:Thr) (above:Int) (w:World) :
    Calls Tryz.prog 151 #[thrA t,.int .i64 above] w fun e w'=>e = .returned (frmV (frameF t above))∧Below w.heap.size w w':=by
 unfold thrA
 by_cases h:0 ≤ wrap64 (wrap64 (t.count - 1) - above)∧wrap64 (wrap64 (t.count - 1) - above) < 4
 ·have HE:Hid (frameF t above = some (t.f (wrap64 (wrap64 (t.count - 1) - above)).toNat)):=by show _ = _; unfold frameF; rw [if_pos h]
  have h4:wrap64 (wrap64 (t.count - 1) - above) = 0 ∨ wrap64 (wrap64 (t.count - 1) - above) = 1 ∨ wrap64 (wrap64 (t.count - 1) - above) = 2 ∨ wrap64 (wrap64 (t.count - 1) - above) = 3:=by omega
  clear h
  rcases h4 with h | h | h | h
  all_goals
   rw [h] at HE
   go_enter Tryz.func151,Tryz.ntmps151
   go_wp2
   refine bodyPost_ret (v:=frmV (frameF t above)) ?_ rfl ⟨rfl,((Below.refl _ _).alloc (Nat.le_refl _) _).alloc (by simp) _⟩
   rw [HE.out]
   simp [results,Tryz.results151,go_sem,frmV,Thr.f]
 ·have HE:Hid (frameF t above = none):=by show _ = _; unfold frameF; rw [if_neg h]
  by_cases h0:wrap64 (wrap64 (t.count - 1) - above) < 0
  ·clear h
   go_enter Tryz.func151,Tryz.ntmps151
   go_wp2
   refine bodyPost_ret (v:=frmV (frameF t above)) ?_ rfl ⟨rfl,((Below.refl _ _).alloc (Nat.le_refl _) _).alloc (by simp) _⟩
   rw [HE.out]
   simp [results,Tryz.results151,go_sem,frmV]
  ·have h1:4 ≤ wrap64 (wrap64 (t.count - 1) - above):=by omega
   clear h
   go_enter Tryz.func151,Tryz.ntmps151
   go_wp2
   refine bodyPost_ret (v:=frmV (frameF t above)) ?_ rfl ⟨rfl,((Below.refl _ _).alloc (Nat.le_refl _) _).alloc (by simp) _⟩
   rw [HE.out]
   simp [results,Tryz.results151,go_sem,frmV]
end Go.Proofs.YtmfcpbhdggonfaaGreatDoor
namespace Go.Proofs.YtmfcpbhdggonfaaGreatDoor
open Go.RowKit RR
def StrSl (w:World) (ao:Option Addr) (cap:Nat) (l:List ByteArray):Prop:=(ao = none→cap = 0)∧l.length ≤ cap∧∀ i,(h:i < l.length)→∃ b o,b < w.heap.size∧ao = some ⟨b,o,none⟩∧w.cell? ⟨b,o + i,none⟩ = some (.string l[i])
theorem StrSl.below {w w':World} {ao:Option Addr} {cap:Nat} {l:List ByteArray} (h:StrSl w ao cap l) (hb:Below w.heap.size w w'):StrSl w' ao cap l:=⟨h.1,h.2.1,fun i hi=>by
 obtain ⟨b,o,h1,h2,h3⟩:=h.2.2 i hi
 exact ⟨b,o,Nat.lt_of_lt_of_le h1 hb.size,h2,(hb.cell (p:=⟨b,o + i,none⟩) h1).trans h3⟩⟩
theorem lit_ne {t c:ByteArray} (h:¬ t = c) {l:List UInt8} (hc:c.toList = l):(t.toList == l) = false:=by
 rw [← hc,seq_comm]; exact decide_eq_false h
end Go.Proofs.YtmfcpbhdggonfaaGreatDoor
namespace Go.Proofs.YtmfcpbhdggonfaaGreatDoor
open Go.RowKit RR
theorem Tryz.infoStr:(Tryz.prog.info? 9).map (fun i=>(i.zero,i.size,i.bytes)) = some (some (.string ⟨#[]⟩),1,16):=by kernel_rfl
end Go.Proofs.YtmfcpbhdggonfaaGreatDoor
namespace Go.Proofs.YtmfcpbhdggonfaaGreatDoor
open Go.RowKit RR
theorem Tryz.infoTok:(Tryz.prog.info? 90).map (fun i=>(i.zero,i.size,i.bytes)) = some (some (.agg #[.string ⟨#[]⟩,.int .i64 0]),2,24):=by kernel_rfl
def toks:List Tk→List Value
 | []=>[]
 | t :: r=>.string t.t :: .int .i64 t.p :: toks r
theorem endAt_letter {s:ByteArray} {i:Nat} (h:i < s.size) (hL:isLetterB s[i] = true):endAt s i h = runF s (i + 1):=by unfold endAt; rw [if_pos hL]
theorem endAt_other {s:ByteArray} {i:Nat} (h:i < s.size) (hL:isLetterB s[i] = false):endAt s i h = i + 1:=by unfold endAt; rw [hL]; rfl
end Go.Proofs.YtmfcpbhdggonfaaGreatDoor
namespace Go.Proofs.YtmfcpbhdggonfaaGreatDoor
open Go.RowKit RR
set_option maxHeartbeats 400000 in
theorem t_isLetter (c:UInt8) (w:World) :
    Calls Tryz.prog 175 #[.int .u8 c.toNat] w fun e w'=>e = .returned (.bool (isLetterB c))∧w' = w:=by
 go_enter Tryz.func175,Tryz.ntmps175
 go_wp2
 all_goals
  go_ret
  refine ⟨ret_bool ?_,rfl⟩
  unfold isLetterB
  rw [Bool.eq_iff_iff]; simp; try omega
set_option maxHeartbeats 400000 in
theorem t_isBlank (c:UInt8) (w:World) :
    Calls Tryz.prog 133 #[.int .u8 c.toNat] w fun e w'=>e = .returned (.bool (blankB c))∧w' = w:=by
 go_enter Tryz.func133,Tryz.ntmps133
 by_cases h:(c.toNat:Int) = 32
 ·have h':((c.toNat:Int) == 32) = true:=beq_iff_eq.2 h
  have HB:Hid (blankB c = true):=by show _ = _; unfold blankB; rw [decide_eq_true (by omega:c.toNat = 32)]; rfl
  clear h
  go_wp2
  go_ret
  exact ⟨ret_bool HB.out.symm,rfl⟩
 ·have h':((c.toNat:Int) == 32) = false:=beq_eq_false_iff_ne.2 h
  by_cases h2:(c.toNat:Int) = 10
  ·have h2':((c.toNat:Int) == 10) = true:=beq_iff_eq.2 h2
   have HB:Hid (blankB c = true):=by show _ = _; unfold blankB; rw [decide_eq_true (by omega:c.toNat = 10),Bool.or_true]
   clear h h2
   go_wp2
   go_ret
   exact ⟨ret_bool HB.out.symm,rfl⟩
  ·have h2':((c.toNat:Int) == 10) = false:=beq_eq_false_iff_ne.2 h2
   have HB:Hid (blankB c = false):=by show _ = _; unfold blankB; rw [decide_eq_false (by omega:¬ c.toNat = 32),decide_eq_false (by omega:¬ c.toNat = 10)]; rfl
   clear h h2
   go_wp2
   go_ret
   exact ⟨ret_bool HB.out.symm,rfl⟩
def signB (c:UInt8):Bool:=decide (c.toNat = 59) || decide (c.toNat = 44) || decide (c.toNat = 61) || decide (c.toNat = 33) || decide (c.toNat = 38) || decide (c.toNat = 124) || decide (c.toNat = 63) || decide (c.toNat = 40) || decide (c.toNat = 41) || decide (c.toNat = 123) || decide (c.toNat = 125)
set_option maxRecDepth 100000 in
set_option maxHeartbeats 2000000 in
theorem t_isSign (s:ByteArray) (i:Nat) (w:World) (_hs:s.size ≤ 500) (hi:i < s.size) :
    Calls Tryz.prog 174 #[.string s,.int .i64 i] w fun e w'=>e = .returned (.bool (signB s[i]))∧w' = w:=by
 have hi':(i:Int) < s.size:=by omega
 by_cases e0:(s[i].toNat:Int) = 59
 ·have f0:((s[i].toNat:Int) == 59) = true:=beq_iff_eq.2 e0
  have HB:Hid (signB s[i] = true):=by show _ = _; unfold signB; simp; omega
  clear e0
  go_enter Tryz.func174,Tryz.ntmps174
  go_wp2
  go_ret
  exact ⟨ret_bool HB.out.symm,rfl⟩
 by_cases e1:(s[i].toNat:Int) = 44
 ·have f1:((s[i].toNat:Int) == 44) = true:=beq_iff_eq.2 e1
  have HB:Hid (signB s[i] = true):=by show _ = _; unfold signB; simp; omega
  have f0:((s[i].toNat:Int) == 59) = false:=beq_eq_false_iff_ne.2 e0
  clear e0 e1
  go_enter Tryz.func174,Tryz.ntmps174
  go_wp2
  go_ret
  exact ⟨ret_bool HB.out.symm,rfl⟩
 by_cases e2:(s[i].toNat:Int) = 61
 ·have f2:((s[i].toNat:Int) == 61) = true:=beq_iff_eq.2 e2
  have HB:Hid (signB s[i] = true):=by show _ = _; unfold signB; simp; omega
  have f0:((s[i].toNat:Int) == 59) = false:=beq_eq_false_iff_ne.2 e0
  have f1:((s[i].toNat:Int) == 44) = false:=beq_eq_false_iff_ne.2 e1
  clear e0 e1 e2
  go_enter Tryz.func174,Tryz.ntmps174
  go_wp2
  go_ret
  exact ⟨ret_bool HB.out.symm,rfl⟩
 by_cases e3:(s[i].toNat:Int) = 33
 ·have f3:((s[i].toNat:Int) == 33) = true:=beq_iff_eq.2 e3
  have HB:Hid (signB s[i] = true):=by show _ = _; unfold signB; simp; omega
  have f0:((s[i].toNat:Int) == 59) = false:=beq_eq_false_iff_ne.2 e0
  have f1:((s[i].toNat:Int) == 44) = false:=beq_eq_false_iff_ne.2 e1
  have f2:((s[i].toNat:Int) == 61) = false:=beq_eq_false_iff_ne.2 e2
  clear e0 e1 e2 e3
  go_enter Tryz.func174,Tryz.ntmps174
  go_wp2
  go_ret
  exact ⟨ret_bool HB.out.symm,rfl⟩
 by_cases e4:(s[i].toNat:Int) = 38
 ·have f4:((s[i].toNat:Int) == 38) = true:=beq_iff_eq.2 e4
  have HB:Hid (signB s[i] = true):=by show _ = _; unfold signB; simp; omega
  have f0:((s[i].toNat:Int) == 59) = false:=beq_eq_false_iff_ne.2 e0
  have f1:((s[i].toNat:Int) == 44) = false:=beq_eq_false_iff_ne.2 e1
  have f2:((s[i].toNat:Int) == 61) = false:=beq_eq_false_iff_ne.2 e2
  have f3:((s[i].toNat:Int) == 33) = false:=beq_eq_false_iff_ne.2 e3
  clear e0 e1 e2 e3 e4
  go_enter Tryz.func174,Tryz.ntmps174
  go_wp2
  go_ret
  exact ⟨ret_bool HB.out.symm,rfl⟩
 by_cases e5:(s[i].toNat:Int) = 124
 ·have f5:((s[i].toNat:Int) == 124) = true:=beq_iff_eq.2 e5
  have HB:Hid (signB s[i] = true):=by show _ = _; unfold signB; simp; omega
  have f0:((s[i].toNat:Int) == 59) = false:=beq_eq_false_iff_ne.2 e0
  have f1:((s[i].toNat:Int) == 44) = false:=beq_eq_false_iff_ne.2 e1
  have f2:((s[i].toNat:Int) == 61) = false:=beq_eq_false_iff_ne.2 e2
  have f3:((s[i].toNat:Int) == 33) = false:=beq_eq_false_iff_ne.2 e3
  have f4:((s[i].toNat:Int) == 38) = false:=beq_eq_false_iff_ne.2 e4
  clear e0 e1 e2 e3 e4 e5
  go_enter Tryz.func174,Tryz.ntmps174
  go_wp2
  go_ret
  exact ⟨ret_bool HB.out.symm,rfl⟩
 by_cases e6:(s[i].toNat:Int) = 63
 ·have f6:((s[i].toNat:Int) == 63) = true:=beq_iff_eq.2 e6
  have HB:Hid (signB s[i] = true):=by show _ = _; unfold signB; simp; omega
  have f0:((s[i].toNat:Int) == 59) = false:=beq_eq_false_iff_ne.2 e0
  have f1:((s[i].toNat:Int) == 44) = false:=beq_eq_false_iff_ne.2 e1
  have f2:((s[i].toNat:Int) == 61) = false:=beq_eq_false_iff_ne.2 e2
  have f3:((s[i].toNat:Int) == 33) = false:=beq_eq_false_iff_ne.2 e3
  have f4:((s[i].toNat:Int) == 38) = false:=beq_eq_false_iff_ne.2 e4
  have f5:((s[i].toNat:Int) == 124) = false:=beq_eq_false_iff_ne.2 e5
  clear e0 e1 e2 e3 e4 e5 e6
  go_enter Tryz.func174,Tryz.ntmps174
  go_wp2
  go_ret
  exact ⟨ret_bool HB.out.symm,rfl⟩
 by_cases e7:(s[i].toNat:Int) = 40
 ·have f7:((s[i].toNat:Int) == 40) = true:=beq_iff_eq.2 e7
  have HB:Hid (signB s[i] = true):=by show _ = _; unfold signB; simp; omega
  have f0:((s[i].toNat:Int) == 59) = false:=beq_eq_false_iff_ne.2 e0
  have f1:((s[i].toNat:Int) == 44) = false:=beq_eq_false_iff_ne.2 e1
  have f2:((s[i].toNat:Int) == 61) = false:=beq_eq_false_iff_ne.2 e2
  have f3:((s[i].toNat:Int) == 33) = false:=beq_eq_false_iff_ne.2 e3
  have f4:((s[i].toNat:Int) == 38) = false:=beq_eq_false_iff_ne.2 e4
  have f5:((s[i].toNat:Int) == 124) = false:=beq_eq_false_iff_ne.2 e5
  have f6:((s[i].toNat:Int) == 63) = false:=beq_eq_false_iff_ne.2 e6
  clear e0 e1 e2 e3 e4 e5 e6 e7
  go_enter Tryz.func174,Tryz.ntmps174
  go_wp2
  go_ret
  exact ⟨ret_bool HB.out.symm,rfl⟩
 by_cases e8:(s[i].toNat:Int) = 41
 ·have f8:((s[i].toNat:Int) == 41) = true:=beq_iff_eq.2 e8
  have HB:Hid (signB s[i] = true):=by show _ = _; unfold signB; simp; omega
  have f0:((s[i].toNat:Int) == 59) = false:=beq_eq_false_iff_ne.2 e0
  have f1:((s[i].toNat:Int) == 44) = false:=beq_eq_false_iff_ne.2 e1
  have f2:((s[i].toNat:Int) == 61) = false:=beq_eq_false_iff_ne.2 e2
  have f3:((s[i].toNat:Int) == 33) = false:=beq_eq_false_iff_ne.2 e3
  have f4:((s[i].toNat:Int) == 38) = false:=beq_eq_false_iff_ne.2 e4
  have f5:((s[i].toNat:Int) == 124) = false:=beq_eq_false_iff_ne.2 e5
  have f6:((s[i].toNat:Int) == 63) = false:=beq_eq_false_iff_ne.2 e6
  have f7:((s[i].toNat:Int) == 40) = false:=beq_eq_false_iff_ne.2 e7
  clear e0 e1 e2 e3 e4 e5 e6 e7 e8
  go_enter Tryz.func174,Tryz.ntmps174
  go_wp2
  go_ret
  exact ⟨ret_bool HB.out.symm,rfl⟩
 by_cases e9:(s[i].toNat:Int) = 123
 ·have f9:((s[i].toNat:Int) == 123) = true:=beq_iff_eq.2 e9
  have HB:Hid (signB s[i] = true):=by show _ = _; unfold signB; simp; omega
  have f0:((s[i].toNat:Int) == 59) = false:=beq_eq_false_iff_ne.2 e0
  have f1:((s[i].toNat:Int) == 44) = false:=beq_eq_false_iff_ne.2 e1
  have f2:((s[i].toNat:Int) == 61) = false:=beq_eq_false_iff_ne.2 e2
  have f3:((s[i].toNat:Int) == 33) = false:=beq_eq_false_iff_ne.2 e3
  have f4:((s[i].toNat:Int) == 38) = false:=beq_eq_false_iff_ne.2 e4
  have f5:((s[i].toNat:Int) == 124) = false:=beq_eq_false_iff_ne.2 e5
  have f6:((s[i].toNat:Int) == 63) = false:=beq_eq_false_iff_ne.2 e6
  have f7:((s[i].toNat:Int) == 40) = false:=beq_eq_false_iff_ne.2 e7
  have f8:((s[i].toNat:Int) == 41) = false:=beq_eq_false_iff_ne.2 e8
  clear e0 e1 e2 e3 e4 e5 e6 e7 e8 e9
  go_enter Tryz.func174,Tryz.ntmps174
  go_wp2
  go_ret
  exact ⟨ret_bool HB.out.symm,rfl⟩
 by_cases e10:(s[i].toNat:Int) = 125
 ·have f10:((s[i].toNat:Int) == 125) = true:=beq_iff_eq.2 e10
  have HB:Hid (signB s[i] = true):=by show _ = _; unfold signB; simp; omega
  have f0:((s[i].toNat:Int) == 59) = false:=beq_eq_false_iff_ne.2 e0
  have f1:((s[i].toNat:Int) == 44) = false:=beq_eq_false_iff_ne.2 e1
  have f2:((s[i].toNat:Int) == 61) = false:=beq_eq_false_iff_ne.2 e2
  have f3:((s[i].toNat:Int) == 33) = false:=beq_eq_false_iff_ne.2 e3
  have f4:((s[i].toNat:Int) == 38) = false:=beq_eq_false_iff_ne.2 e4
  have f5:((s[i].toNat:Int) == 124) = false:=beq_eq_false_iff_ne.2 e5
  have f6:((s[i].toNat:Int) == 63) = false:=beq_eq_false_iff_ne.2 e6
  have f7:((s[i].toNat:Int) == 40) = false:=beq_eq_false_iff_ne.2 e7
  have f8:((s[i].toNat:Int) == 41) = false:=beq_eq_false_iff_ne.2 e8
  have f9:((s[i].toNat:Int) == 123) = false:=beq_eq_false_iff_ne.2 e9
  clear e0 e1 e2 e3 e4 e5 e6 e7 e8 e9 e10
  go_enter Tryz.func174,Tryz.ntmps174
  go_wp2
  go_ret
  exact ⟨ret_bool HB.out.symm,rfl⟩
 have f0:((s[i].toNat:Int) == 59) = false:=beq_eq_false_iff_ne.2 e0
 have f1:((s[i].toNat:Int) == 44) = false:=beq_eq_false_iff_ne.2 e1
 have f2:((s[i].toNat:Int) == 61) = false:=beq_eq_false_iff_ne.2 e2
 have f3:((s[i].toNat:Int) == 33) = false:=beq_eq_false_iff_ne.2 e3
 have f4:((s[i].toNat:Int) == 38) = false:=beq_eq_false_iff_ne.2 e4
 have f5:((s[i].toNat:Int) == 124) = false:=beq_eq_false_iff_ne.2 e5
 have f6:((s[i].toNat:Int) == 63) = false:=beq_eq_false_iff_ne.2 e6
 have f7:((s[i].toNat:Int) == 40) = false:=beq_eq_false_iff_ne.2 e7
 have f8:((s[i].toNat:Int) == 41) = false:=beq_eq_false_iff_ne.2 e8
 have f9:((s[i].toNat:Int) == 123) = false:=beq_eq_false_iff_ne.2 e9
 have f10:((s[i].toNat:Int) == 125) = false:=beq_eq_false_iff_ne.2 e10
 have HB:Hid (signB s[i] = false):=by show _ = _; unfold signB; simp; omega
 clear e0 e1 e2 e3 e4 e5 e6 e7 e8 e9 e10
 go_enter Tryz.func174,Tryz.ntmps174
 go_wp2
 go_ret
 exact ⟨ret_bool HB.out.symm,rfl⟩
set_option maxRecDepth 100000 in
set_option maxHeartbeats 2000000 in
theorem t_hasMeaning (t:ByteArray) (w:World) :
    Calls Tryz.prog 176 #[.string t] w fun e w'=>e = .returned (.bool (memB kws t))∧w' = w:=by
 by_cases e0:t = ⟨#[115,104,97,114,101,100]⟩
 ·subst e0
  have HB:Hid (memB kws ⟨#[115,104,97,114,101,100]⟩ = true):=by show _ = _; decide
  go_enter Tryz.func176,Tryz.ntmps176
  go_wp2
  go_ret
  exact ⟨ret_bool HB.out.symm,rfl⟩
 have f0:(t.toList == [115,104,97,114,101,100]) = false:=lit_ne e0 (by rw [bl])
 by_cases e1:t = ⟨#[108,111,99,107,115]⟩
 ·subst e1
  have HB:Hid (memB kws ⟨#[108,111,99,107,115]⟩ = true):=by show _ = _; decide
  go_enter Tryz.func176,Tryz.ntmps176
  go_wp2
  go_ret
  exact ⟨ret_bool HB.out.symm,rfl⟩
 have f1:(t.toList == [108,111,99,107,115]) = false:=lit_ne e1 (by rw [bl])
 by_cases e2:t = ⟨#[112,114,111,99]⟩
 ·subst e2
  have HB:Hid (memB kws ⟨#[112,114,111,99]⟩ = true):=by show _ = _; decide
  go_enter Tryz.func176,Tryz.ntmps176
  go_wp2
  go_ret
  exact ⟨ret_bool HB.out.symm,rfl⟩
 have f2:(t.toList == [112,114,111,99]) = false:=lit_ne e2 (by rw [bl])
 by_cases e3:t = ⟨#[116,104,114,101,97,100,115]⟩
 ·subst e3
  have HB:Hid (memB kws ⟨#[116,104,114,101,97,100,115]⟩ = true):=by show _ = _; decide
  go_enter Tryz.func176,Tryz.ntmps176
  go_wp2
  go_ret
  exact ⟨ret_bool HB.out.symm,rfl⟩
 have f3:(t.toList == [116,104,114,101,97,100,115]) = false:=lit_ne e3 (by rw [bl])
 by_cases e4:t = ⟨#[105,102]⟩
 ·subst e4
  have HB:Hid (memB kws ⟨#[105,102]⟩ = true):=by show _ = _; decide
  go_enter Tryz.func176,Tryz.ntmps176
  go_wp2
  go_ret
  exact ⟨ret_bool HB.out.symm,rfl⟩
 have f4:(t.toList == [105,102]) = false:=lit_ne e4 (by rw [bl])
 by_cases e5:t = ⟨#[101,108,115,101]⟩
 ·subst e5
  have HB:Hid (memB kws ⟨#[101,108,115,101]⟩ = true):=by show _ = _; decide
  go_enter Tryz.func176,Tryz.ntmps176
  go_wp2
  go_ret
  exact ⟨ret_bool HB.out.symm,rfl⟩
 have f5:(t.toList == [101,108,115,101]) = false:=lit_ne e5 (by rw [bl])
 by_cases e6:t = ⟨#[119,104,105,108,101]⟩
 ·subst e6
  have HB:Hid (memB kws ⟨#[119,104,105,108,101]⟩ = true):=by show _ = _; decide
  go_enter Tryz.func176,Tryz.ntmps176
  go_wp2
  go_ret
  exact ⟨ret_bool HB.out.symm,rfl⟩
 have f6:(t.toList == [119,104,105,108,101]) = false:=lit_ne e6 (by rw [bl])
 by_cases e7:t = ⟨#[97,115,115,117,109,101]⟩
 ·subst e7
  have HB:Hid (memB kws ⟨#[97,115,115,117,109,101]⟩ = true):=by show _ = _; decide
  go_enter Tryz.func176,Tryz.ntmps176
  go_wp2
  go_ret
  exact ⟨ret_bool HB.out.symm,rfl⟩
 have f7:(t.toList == [97,115,115,117,109,101]) = false:=lit_ne e7 (by rw [bl])
 by_cases e8:t = ⟨#[97,99,113,117,105,114,101]⟩
 ·subst e8
  have HB:Hid (memB kws ⟨#[97,99,113,117,105,114,101]⟩ = true):=by show _ = _; decide
  go_enter Tryz.func176,Tryz.ntmps176
  go_wp2
  go_ret
  exact ⟨ret_bool HB.out.symm,rfl⟩
 have f8:(t.toList == [97,99,113,117,105,114,101]) = false:=lit_ne e8 (by rw [bl])
 by_cases e9:t = ⟨#[114,101,108,101,97,115,101]⟩
 ·subst e9
  have HB:Hid (memB kws ⟨#[114,101,108,101,97,115,101]⟩ = true):=by show _ = _; decide
  go_enter Tryz.func176,Tryz.ntmps176
  go_wp2
  go_ret
  exact ⟨ret_bool HB.out.symm,rfl⟩
 have f9:(t.toList == [114,101,108,101,97,115,101]) = false:=lit_ne e9 (by rw [bl])
 by_cases e10:t = ⟨#[114,101,116,117,114,110]⟩
 ·subst e10
  have HB:Hid (memB kws ⟨#[114,101,116,117,114,110]⟩ = true):=by show _ = _; decide
  go_enter Tryz.func176,Tryz.ntmps176
  go_wp2
  go_ret
  exact ⟨ret_bool HB.out.symm,rfl⟩
 have f10:(t.toList == [114,101,116,117,114,110]) = false:=lit_ne e10 (by rw [bl])
 by_cases e11:t = ⟨#[115,107,105,112]⟩
 ·subst e11
  have HB:Hid (memB kws ⟨#[115,107,105,112]⟩ = true):=by show _ = _; decide
  go_enter Tryz.func176,Tryz.ntmps176
  go_wp2
  go_ret
  exact ⟨ret_bool HB.out.symm,rfl⟩
 have f11:(t.toList == [115,107,105,112]) = false:=lit_ne e11 (by rw [bl])
 by_cases e12:t = ⟨#[116,114,117,101]⟩
 ·subst e12
  have HB:Hid (memB kws ⟨#[116,114,117,101]⟩ = true):=by show _ = _; decide
  go_enter Tryz.func176,Tryz.ntmps176
  go_wp2
  go_ret
  exact ⟨ret_bool HB.out.symm,rfl⟩
 have f12:(t.toList == [116,114,117,101]) = false:=lit_ne e12 (by rw [bl])
 by_cases e13:t = ⟨#[102,97,108,115,101]⟩
 ·subst e13
  have HB:Hid (memB kws ⟨#[102,97,108,115,101]⟩ = true):=by show _ = _; decide
  go_enter Tryz.func176,Tryz.ntmps176
  go_wp2
  go_ret
  exact ⟨ret_bool HB.out.symm,rfl⟩
 have f13:(t.toList == [102,97,108,115,101]) = false:=lit_ne e13 (by rw [bl])
 have HB:Hid (memB kws t = false):=by
  show _ = _
  unfold memB kws
  simp only [List.any_cons,List.any_nil,Bool.or_false]
  rw [decide_eq_false (fun h=>e0 h.symm),decide_eq_false (fun h=>e1 h.symm),decide_eq_false (fun h=>e2 h.symm),decide_eq_false (fun h=>e3 h.symm),decide_eq_false (fun h=>e4 h.symm),decide_eq_false (fun h=>e5 h.symm),decide_eq_false (fun h=>e6 h.symm),decide_eq_false (fun h=>e7 h.symm),decide_eq_false (fun h=>e8 h.symm),decide_eq_false (fun h=>e9 h.symm),decide_eq_false (fun h=>e10 h.symm),decide_eq_false (fun h=>e11 h.symm),decide_eq_false (fun h=>e12 h.symm),decide_eq_false (fun h=>e13 h.symm)]
  rfl
 clear e0 e1 e2 e3 e4 e5 e6 e7 e8 e9 e10 e11 e12 e13
 go_enter Tryz.func176,Tryz.ntmps176
 go_wp2
 go_ret
 exact ⟨ret_bool HB.out.symm,rfl⟩
set_option maxRecDepth 100000 in
set_option maxHeartbeats 1000000 in
theorem t_lettersAt (s:ByteArray) (i:Nat) (w:World) (hs:s.size ≤ 500) (hi:i < s.size) :
    Calls Tryz.prog 173 #[.string s,.int .i64 i] w fun e w'=>e = .returned (.int .i64 ((runF s i - i:Nat):Int))∧w' = w:=by
 go_enter Tryz.func173,Tryz.ntmps173
 go_wp2
 go_loop [5,6] (fun v u=>∃ k:Nat,u = .int .i64 k∧v = .int .i64 ((k - i:Nat):Int)∧i ≤ k∧k ≤ s.size∧runF s i = runF s k) (fun _ u=>s.size - (intOf u).toNat)
 case atStart=>exact ⟨i,rfl,by rw [Nat.sub_self]; rfl,Nat.le_refl _,by omega,rfl⟩
 case round =>
  obtain ⟨k,rfl,rfl,h1,h2,h3⟩:=hrel
  have H3:=hide h3
  clear h3
  by_cases hk:k < s.size
  ·cases hL:isLetterB s[k]
   ·have HE:=hide (runF_no hk hL)
    go_wp2_with (go_at_call 175; refine (t_isLetter s[k] _).mono ?_; rintro e w' ⟨rfl,hw'⟩; subst hw')
    go_ret
    exact ⟨ret_int (by rw [H3.out,HE.out]),rfl⟩
   ·have HE:=hide (runF_yes hk hL)
    go_wp2_with (go_at_call 175; refine (t_isLetter s[k] _).mono ?_; rintro e w' ⟨rfl,hw'⟩; subst hw')
    go_round
    case rel=>exact ⟨k + 1,by go_num,by congr 1; omega,by omega,by omega,by rw [H3.out,HE.out]⟩
    case measure=>simp [intOf]; omega
  ·have HE:=hide (runF_out hk)
   go_wp2
   go_ret
   exact ⟨ret_int (by rw [H3.out,HE.out]),rfl⟩
end Go.Proofs.YtmfcpbhdggonfaaGreatDoor
namespace Go.Proofs.YtmfcpbhdggonfaaGreatDoor
open Go.RowKit RR
def sizeB (s:ByteArray) (i:Nat) (h:i < s.size):Nat :=
 if 8 < runF s i - i then 0 else if runF s i - i = 0∧signB s[i] = true then 1 else runF s i - i
set_option maxRecDepth 100000 in
set_option maxHeartbeats 1000000 in
theorem t_sizeAt (s:ByteArray) (i:Nat) (w:World) (hs:s.size ≤ 500) (hi:i < s.size) :
    Calls Tryz.prog 134 #[.string s,.int .i64 i] w fun e w'=>e = .returned (.int .i64 (sizeB s i hi))∧w' = w:=by
 have hr:=runF_le s i (by omega)
 by_cases h8:8 < runF s i - i
 ·have HR:Hid (sizeB s i hi = 0):=by show _ = _; unfold sizeB; rw [if_pos h8]
  go_enter Tryz.func134,Tryz.ntmps134
  go_wp2_with fail
  refine (t_lettersAt s i _ hs hi).mono ?_
  rintro e w' ⟨rfl,hw'⟩
  subst hw'
  generalize runF s i - i = m at *
  have h8':(8:Int) < m:=by omega
  go_wp2
  go_ret
  exact ⟨ret_int (by rw [HR.out]; rfl),rfl⟩
 ·by_cases h0:runF s i - i = 0
  ·cases hS:signB s[i]
   ·have HR:Hid (sizeB s i hi = 0):=by show _ = _; unfold sizeB; rw [if_neg h8,if_neg (by rw [hS]; simp)]; exact h0
    go_enter Tryz.func134,Tryz.ntmps134
    go_wp2_with fail
    refine (t_lettersAt s i _ hs hi).mono ?_
    rintro e w' ⟨rfl,hw'⟩
    subst hw'
    rw [h0]
    clear h8 h0 hr
    go_wp2_with fail
    refine (t_isSign s i _ hs hi).mono ?_
    rintro e w' ⟨rfl,hw'⟩
    subst hw'
    go_wp2_with fail
    go_ret
    exact ⟨ret_int (by rw [HR.out]; rfl),rfl⟩
   ·have HR:Hid (sizeB s i hi = 1):=by show _ = _; unfold sizeB; rw [if_neg h8,if_pos ⟨h0,hS⟩]
    go_enter Tryz.func134,Tryz.ntmps134
    go_wp2_with fail
    refine (t_lettersAt s i _ hs hi).mono ?_
    rintro e w' ⟨rfl,hw'⟩
    subst hw'
    rw [h0]
    clear h8 h0 hr
    go_wp2_with fail
    refine (t_isSign s i _ hs hi).mono ?_
    rintro e w' ⟨rfl,hw'⟩
    subst hw'
    go_wp2_with fail
    go_ret
    exact ⟨ret_int (by rw [HR.out]; rfl),rfl⟩
  ·have HR:Hid (sizeB s i hi = runF s i - i):=by show _ = _; unfold sizeB; rw [if_neg h8,if_neg (fun h=>h0 h.1)]
   go_enter Tryz.func134,Tryz.ntmps134
   go_wp2_with fail
   refine (t_lettersAt s i _ hs hi).mono ?_
   rintro e w' ⟨rfl,hw'⟩
   subst hw'
   generalize runF s i - i = m at *
   have h8':(m:Int) ≤ 8:=by omega
   have h0':((m:Int) == 0) = false:=beq_eq_false_iff_ne.2 (by omega)
   clear h0
   go_wp2_with fail
   go_ret
   exact ⟨ret_int (by rw [HR.out]),rfl⟩
set_option maxRecDepth 100000 in
set_option maxHeartbeats 1000000 in
theorem t_tokenAt (s:ByteArray) (i n:Nat) (w:World) (hs:s.size ≤ 500) (hi:i < s.size) (hn:1 ≤ n) (hin:i + n ≤ s.size) :
    Calls Tryz.prog 135 #[.string s,.int .i64 i,.int .i64 n] w fun e w'=>e = .returned (.agg #[.string (s.extract i (i + n)),.int .i64 i,.bool (isLetterB s[i] && !(memB kws (s.extract i (i + n))))])∧Below w.heap.size w w':=by
 have a1:(n:Int) ≤ s.size - i:=by omega
 have a2:((i + n:Nat):Int) ≤ s.size:=by omega
 go_enter Tryz.func135,Tryz.ntmps135
 cases hL:isLetterB s[i]
 ·go_wp2_with fail
  refine (t_isLetter s[i] _).mono ?_
  rintro e w' ⟨rfl,hw'⟩
  subst hw'
  go_wp2_with fail
  exact bodyPost_ret (v:=.agg #[.string (s.extract i (i + n)),.int .i64 i,.bool false]) (by simp [results,Tryz.results135,go_sem]) rfl ⟨rfl,(Below.refl _ _).alloc (Nat.le_refl _) _⟩
 ·go_wp2_with fail
  refine (t_isLetter s[i] _).mono ?_
  rintro e w' ⟨rfl,hw'⟩
  subst hw'
  go_wp2_with fail
  refine (t_hasMeaning _ _).mono ?_
  rintro e w' ⟨rfl,hw'⟩
  subst hw'
  go_wp2_with fail
  exact bodyPost_ret (v:=.agg #[.string (s.extract i (i + n)),.int .i64 i,.bool !memB kws (s.extract i (i + n))]) (by simp [results,Tryz.results135,go_sem]) rfl ⟨by rw [Bool.true_and],(Below.refl _ _).alloc (Nat.le_refl _) _⟩
theorem ext_one (s:ByteArray) (i:Nat) (h:i < s.size):s.extract i (i + 1) = ⟨#[s[i]]⟩:=by
 apply toList_inj.1
 rw [bl,bl]
 apply List.ext_getElem?
 intro k
 have h1:(s.extract i (i + 1)).size = 1:=by rw [ext_size s i (i + 1) (by omega) (by omega)]; omega
 cases k with
 | zero =>
  have h2:0 < (s.extract i (i + 1)).size:=by omega
  have e:=ext_first s i (i + 1) (by omega) (by omega) h2
  have e2:(s.extract i (i + 1)).data.toList[0]? = some (s.extract i (i + 1))[0]:=List.getElem?_eq_getElem (l:=(s.extract i (i + 1)).data.toList) (i:=0) h2
  rw [e2,e]; rfl
 | succ k =>
  rw [List.getElem?_eq_none (by have:(s.extract i (i + 1)).data.toList.length = 1:=h1
                                omega)]
  rfl
theorem sign_one (s:ByteArray) (i:Nat) (h:i < s.size):memB signs (s.extract i (i + 1)) = signB s[i]:=by
 rw [ext_one s i h]
 generalize s[i] = c
 have key:∀ d:UInt8,decide ((⟨#[d]⟩:ByteArray) = ⟨#[c]⟩) = decide (c.toNat = d.toNat):=by
  intro d
  rw [Bool.eq_iff_iff,decide_eq_true_iff,decide_eq_true_iff]
  constructor
  ·intro e; injection e with e; simp at e; rw [e]
  ·intro e
   have:c = d:=UInt8.toNat_inj.1 e
   rw [this]
 unfold memB signs signB
 simp only [List.any_cons,List.any_nil,Bool.or_false,key,Bool.or_assoc]
 rfl
theorem size_ok (s:ByteArray) (i:Nat) (h:i < s.size):(okAt s i h = true∧sizeB s i h ≠ 0∧endAt s i h = i + sizeB s i h) ∨ (okAt s i h = false∧sizeB s i h = 0):=by
 have hg:=endAt_gt s i h
 cases hL:isLetterB s[i]
 ·have he:=endAt_other h hL
  have hr:=runF_no h hL
  have hs:=sign_one s i h
  unfold okAt sizeB
  rw [hL,he,hr,hs,Nat.sub_self]
  cases hS:signB s[i]
  ·right; simp
  ·left; simp
 ·have he:=endAt_letter h hL
  have hr:runF s i = endAt s i h:=by rw [he,runF_yes h hL]
  unfold okAt sizeB
  rw [hL,hr]
  by_cases h8:8 < endAt s i h - i
  ·right
   rw [if_pos h8,decide_eq_false (by omega)]
   refine ⟨?_,rfl⟩
   have:memB signs (s.extract i (endAt s i h)) = false:=by
    unfold memB
    rw [List.any_eq_false]
    intro x hx
    rw [decide_eq_true_iff]
    intro e
    have h1:x.size = endAt s i h - i:=by rw [e]; exact ext_size s i _ (by omega) (by omega)
    have h2:x.size = 1:=by
     simp only [signs,List.mem_cons,List.not_mem_nil,or_false] at hx
     rcases hx with rfl | rfl | rfl | rfl | rfl | rfl | rfl | rfl | rfl | rfl | rfl <;> rfl
    omega
   rw [this]; rfl
  ·left
   rw [if_neg h8,if_neg (by omega),decide_eq_true (by omega)]
   exact ⟨rfl,by omega,by omega⟩
theorem name_ok (s:ByteArray) (i n:Nat) (h:i < s.size) (hn:1 ≤ n) (hin:i + n ≤ s.size):(isLetterB s[i] && !(memB kws (s.extract i (i + n)))) = isNameB (s.extract i (i + n)):=by
 have h1:0 < (s.extract i (i + n)).size:=by rw [ext_size s i (i + n) (by omega) hin]; omega
 rw [isName_pos h1,ext_first s i (i + n) (by omega) hin h1]
theorem Tryz.infoTok3:(Tryz.prog.info? 228).map (fun i=>(i.zero,i.size,i.bytes)) = some (some (.agg #[.string ⟨#[]⟩,.int .i64 0,.bool false]),3,32):=by kernel_rfl
def toks3:List Tk→List Value
 | []=>[]
 | t :: r=>.string t.t :: .int .i64 t.p :: .bool (isNameB t.t) :: toks3 r
theorem toks3_append (a b:List Tk):toks3 (a ++ b) = toks3 a ++ toks3 b:=by
 induction a with
 | nil=>rfl
 | cons t r ih=>show _ :: _ :: _ :: toks3 (r ++ b) = _; rw [ih]; rfl
theorem toks3_get (a:List Tk) (i:Nat) (h:i < a.length):(toks3 a)[i * 3]? = some (.string a[i].t)∧(toks3 a)[i * 3 + 1]? = some (.int .i64 a[i].p)∧(toks3 a)[i * 3 + 2]? = some (.bool (isNameB a[i].t)):=by
 induction a generalizing i with
 | nil=>cases h
 | cons t r ih =>
  cases i with
  | zero=>exact ⟨rfl,rfl,rfl⟩
  | succ k =>
   have:=ih k (by simpa using h)
   rw [show (k + 1) * 3 = k * 3 + 1 + 1 + 1 from by omega]
   exact this
theorem three_cells {w:World} {T:TypeId} {x y z:Value}:∀ (j:Nat) (u:Value),[x,y,z][j]? = some u→(w.alloc (.cells #[x,y,z] T)).cell? ((⟨w.heap.size,0,none⟩:Addr).add j) = some u:=by
 intro j u hj
 have hh:(w.alloc (.cells #[x,y,z] T)).heap[w.heap.size]? = some (.cells #[x,y,z] T):=heap_alloc_new w _
 rw [addr_add]
 match j,hj with
 | 0,hj=>simp only [World.cell?,hh]; exact hj
 | 1,hj=>simp only [World.cell?,hh]; exact hj
 | 2,hj=>simp only [World.cell?,hh]; exact hj
theorem app_tok3 {ops:Array Oper} {rest:List Oper} {o:Oper} {a:Act} {Q:Exit→Act→World→Prop} {w0:World} {B:Nat} {v:Value} {l:List Tk} (t:ByteArray) (p:Nat)
    (hown:w0.ownsRow B 228 3 v l.length (toks3 l)) (hl:l.length ≤ 100000) (hB:B ≤ w0.heap.size) (hgd:o.guard = none) (s x:Operand)
    (ho:o.op = .call { callee:=.builtin .append,args:=#[s,x],argTypes:=#[174,174] }) (hs:a.eval s = v) {nb:Nat}
    (hx:a.eval x = .slice (some ⟨nb,0,none⟩) 1 1) (hnb:nb = w0.heap.size)
    (h:∀ v' w',w'.ownsRow B 228 3 v' (l ++ [(⟨t,p⟩:Tk)]).length (toks3 (l ++ [(⟨t,p⟩:Tk)]))→(∀ a0,Below B a0 w0→Below B a0 w')→wpList Tryz.prog ops Q rest (a.put o.dst v') w') :
    wpList Tryz.prog ops Q (o :: rest) a (w0.alloc (.cells #[.string t,.int .i64 p,.bool (isNameB t)] 228)):=by
 obtain ⟨i0,hi0,hz0,hz1,hz2⟩:=info_parts Tryz.infoTok3
 subst hnb
 refine wpList_append_own _ hgd s x 174 ho B 228 i0 (.agg #[.string ⟨#[]⟩,.int .i64 0,.bool false]) 3 32 Tryz.underlying174 hi0 hz0 hz1 hz2 rfl (by decide) v l.length (toks3 l) hs (hown.alloc _) ⟨w0.heap.size,0,none⟩ 1 1 [.string t,.int .i64 p,.bool (isNameB t)] hx rfl three_cells ?_ (by unfold maxLen; omega) (by omega) (by simp; omega) ?_
 ·intro u hu
  rcases List.mem_cons.1 hu with rfl | hu
  ·rfl
  ·rcases List.mem_cons.1 hu with rfl | hu
   ·rfl
   ·rcases List.mem_cons.1 hu with rfl | hu
    ·rfl
    ·cases hu
 ·intro v' w' h1 h2 _
  refine h v' w' ?_ fun a0 h0=>(h0.alloc hB _).grown h2 (by simp; omega) fun k hk=>(hown.lt k hk).1
  rw [toks3_append,List.length_append]; exact h1
set_option maxRecDepth 100000 in
set_option maxHeartbeats 1000000 in
theorem t_cut (s:ByteArray) (w:World) (hs:s.size ≤ 500) :
    Calls Tryz.prog 99 #[.string s] w fun e w'=>((lexF s 0).2 = none∧∃ v,e = .returned (.tuple #[v,.int .i64 0,.bool true])∧w'.ownsRow w.heap.size 228 3 v (lexF s 0).1.length (toks3 (lexF s 0).1)∧Below w.heap.size w w') ∨ (∃ p:Nat,(lexF s 0).2 = some p∧e = .returned (.tuple #[.slice none 0 0,.int .i64 p,.bool false])∧Below w.heap.size w w'):=by
 go_enter Tryz.func99,Tryz.ntmps99
 go_wp2_with fail
 go_loopw [5,6] (fun v u wr=>∃ (i:Nat) (acc:List Tk),u = .int .i64 i∧i ≤ s.size∧acc.length ≤ i∧(acc ++ (lexF s i).1,(lexF s i).2) = lexF s 0∧wr.ownsRow w.heap.size 228 3 v acc.length (toks3 acc)∧Below w.heap.size w wr) (fun _ u _=>s.size - (intOf u).toNat)
 case atStart=>exact ⟨0,[],rfl,Nat.zero_le _,Nat.zero_le _,rfl,World.ownsRow_nil _ _ _ _,Below.refl _ _⟩
 case round =>
  obtain ⟨i,acc,rfl,hi,hacc,hn,hown,hbel⟩:=hrel
  have HN:=hide hn
  clear hn
  by_cases hlt:i < s.size
  ·cases hB:blankB s[i]
   ·rcases size_ok s i hlt with ⟨ho,hz,he⟩ | ⟨ho,hz⟩
    ·have hg:=endAt_gt s i hlt
     have HE:Hid (lexF s i = (⟨s.extract i (i + sizeB s i hlt),i⟩ :: (lexF s (i + sizeB s i hlt)).1,(lexF s (i + sizeB s i hlt)).2)):=by show _ = _; rw [lexF_ok hlt hB ho,he]
     have hin:i + sizeB s i hlt ≤ s.size:=by omega
     go_wp2_with fail
     refine (t_isBlank s[i] _).mono ?_
     rintro e w1 ⟨rfl,hw1⟩
     subst hw1
     go_wp2_with fail
     refine (t_sizeAt s i _ hs hlt).mono ?_
     rintro e w1 ⟨rfl,hw1⟩
     subst hw1
     generalize sizeB s i hlt = m at *
     have hm1:1 ≤ m:=by omega
     have hm0:((m:Int) == 0) = false:=beq_eq_false_iff_ne.2 (by omega)
     have HNM:=hide (name_ok s i m hlt hm1 hin)
     clear he hz hg
     go_wp2_with fail
     refine (t_tokenAt s i m _ hs hlt hm1 hin).mono ?_
     rintro e w2 ⟨rfl,hb2⟩
     rw [HNM.out]
     have hown2:=owns_below hown hb2
     have hbel2:=hbel.trans (hb2.mono hbel.size)
     go_wp2_with (at_builtin; refine app_tok3 (s.extract i (i + m)) i (hown2.alloc _) (by omega) (Nat.le_trans hbel2.size (by simp)) rfl _ _ rfl rfl rfl (by simp) ?_; intro v3 w3 hown3 hb3)
     go_roundw
     case rel=>exact ⟨i + m,acc ++ [⟨s.extract i (i + m),i⟩],by go_num,by omega,by simp; omega,by rw [← HN.out,HE.out,List.append_assoc]; rfl,hown3,hb3 _ (hbel2.alloc hbel2.size _)⟩
     case measure=>simp [intOf]; omega
    ·have HE:=hide (lexF_bad hlt hB ho)
     go_wp2_with fail
     refine (t_isBlank s[i] _).mono ?_
     rintro e w1 ⟨rfl,hw1⟩
     subst hw1
     go_wp2_with fail
     refine (t_sizeAt s i _ hs hlt).mono ?_
     rintro e w1 ⟨rfl,hw1⟩
     subst hw1
     rw [hz]
     go_wp2_with fail
     go_ret3
     exact .inr ⟨i,by rw [← HN.out,HE.out],rfl,hbel⟩
   ·have HE:=hide (lexF_blank hlt hB)
    go_wp2_with fail
    refine (t_isBlank s[i] _).mono ?_
    rintro e w1 ⟨rfl,hw1⟩
    subst hw1
    go_wp2_with fail
    go_roundw
    case rel=>exact ⟨i + 1,acc,by go_num,by omega,by omega,by rw [← HN.out,HE.out],hown,hbel⟩
    case measure=>simp [intOf]; omega
  ·have HE:=hide (lexF_out hlt)
   go_wp2_with fail
   go_ret3
   have he:lexF s 0 = (acc,none):=by rw [← HN.out,HE.out,List.append_nil]
   exact .inl ⟨by rw [he],_,rfl,by rw [he]; exact hown,hbel⟩
end Go.Proofs.YtmfcpbhdggonfaaGreatDoor
