/- Contracts of the program's package plan: what an EXPR reads. -/
import Derived.Test.YtmfcpbhdggonfaaGreatDoorMiAG
import Derived.Test.YtmfcpbhdggonfaaGreatDoorMiAC
import Derived.Deep.RegionHeld
namespace Go.Proofs.YtmfcpbhdggonfaaGreatDoor
open Go.RowKit RR
structure Fr1 (L:Nat) (w w':World):Prop where
 bel:Below L w w'
 blk:∀ k,k < w.heap.size→k ≠ L→w'.heap[k]? = w.heap[k]?
theorem Fr1.refl (L:Nat) (w:World):Fr1 L w w:=⟨Below.refl _ _,fun _ _ _=>rfl⟩
theorem Fr1.trans {L:Nat} {a b c:World} (h:Fr1 L a b) (k:Fr1 L b c):Fr1 L a c:=⟨h.bel.trans k.bel,fun n hn hL=>(k.blk n (Nat.lt_of_lt_of_le hn h.bel.size) hL).trans (h.blk n hn hL)⟩
theorem Fr1.alloc {L:Nat} {a b:World} (h:Fr1 L a b) (hL:L ≤ b.heap.size) (ob:Obj):Fr1 L a (b.alloc ob):=⟨h.bel.alloc hL ob,fun n hn hL=>(Below.heap_alloc b ob n (Nat.lt_of_lt_of_le hn h.bel.size)).trans (h.blk n hn hL)⟩
theorem Fr1.setCell {L:Nat} {a b:World} (h:Fr1 L a b) (i:Nat) (v:Value):Fr1 L a (b.setCell ⟨L,i,none⟩ v):=⟨h.bel.setCell (p:=⟨L,i,none⟩) (Nat.le_refl _) v,fun n hn hL=>(Below.heap_setCell b ⟨L,i,none⟩ v n hL).trans (h.blk n hn hL)⟩
theorem Fr1.drew {L:Nat} {a b:World} (h:Fr1 L a b):Fr1 L a b.drew:=⟨h.bel.drew,h.blk⟩
theorem Fr1.of_below {L:Nat} {w w':World} (h:Below w.heap.size w w') (hL:L ≤ w.heap.size):Fr1 L w w':=⟨h.mono hL,fun k hk _=>h.block k hk⟩
theorem PB.fr1 {B L:Nat} {p:Plan} {vT vP vL vN:Value} {w w':World} {cs:Array Value} (h:PB B p vT vP vL vN w) (hL:w.heap[L]? = some (.cells cs 204 (0,0))) (hv:vL.ownBlock ≠ some L) (hf:Fr1 L w w'):PB B p vT vP vL vN w':=by
 have lt:∀ {k:Nat} {c:Array Value} {T:TypeId} {f:Nat × Nat},w.heap[k]? = some (Obj.cells c T f)→k < w.heap.size:=fun hk=>(Array.getElem?_eq_some_iff.1 hk).1
 have hk:∀ (k:Nat) (c:Array Value) (e:TypeId) (f:Nat × Nat),e ≠ 204→w.heap[k]? = some (Obj.cells c e f)→w'.heap[k]? = some (Obj.cells c e f):=fun k c e f hne hh=>by
  rw [hf.blk k (lt hh) (fun e2=>?_)]
  ·exact hh
  ·rw [e2,hL] at hh
   simp at hh
   exact hne hh.2.1.symm
 refine ⟨hk B _ _ _ (by decide) h.blk,owns_keep h.th (fun k c f hh _=>hk k c _ f (by decide) hh),owns_keep h.pr (fun k c f hh _=>hk k c _ f (by decide) hh),owns_keep h.nd (fun k c f hh _=>hk k c _ f (by decide) hh),?_⟩
 obtain ⟨l,h1,h2,h3⟩:=h.ln
 refine ⟨l,h1,owns_keep h2 (fun k c f hh e=>?_),fun x hx=>owns_keep (h3 x hx) (fun k c f hh _=>hk k c _ f (by decide) hh)⟩
 rw [hf.blk k (lt hh) (fun e2=>hv (by rw [← e,e2]))]
 exact hh
theorem pnAt_eq {l:List PNd} {k:Nat} (h:k < l.length):pnAt l k = l[k]:=by unfold pnAt; rw [List.getElem?_eq_getElem h]; rfl
theorem lookG_out {ns:List PNd} {last i:Int} {f:Nat} {a:PLine} (h:¬ (0 ≤ i∧i ≤ last∧i < ns.length)):lookG ns last f i a = a:=by
 cases f with
 | zero=>rfl
 | succ f=>exact if_neg h
theorem lookG_in {ns:List PNd} {last:Int} {f k:Nat} {a:PLine} (hk:k < ns.length) (hl:(k:Int) ≤ last):lookG ns last (f + 1) k a = lookG ns last f ((k:Int) + 1) (look1 a ns[k]):=by
 rw [lookG,if_pos ⟨by omega,hl,by omega⟩,Int.toNat_natCast,pnAt_eq hk]
theorem range5 {w:World} {b o:Nat} {n:PNd} (h:w.rangeAt b o (ndP n)):w.cell? ⟨b,o,none⟩ = some (.int .i64 n.sign)∧w.cell? ⟨b,o + 1,none⟩ = some (.int .i64 n.tr.own)∧w.cell? ⟨b,o + 2,none⟩ = some (.int .i64 n.tr.num)∧w.cell? ⟨b,o + 3,none⟩ = some (.int .i64 n.left)∧w.cell? ⟨b,o + 4,none⟩ = some (.int .i64 n.right) :=
 ⟨h 0 _ rfl,h 1 _ rfl,h 2 _ rfl,h 3 _ rfl,h 4 _ rfl⟩
def LB (L:Nat) (a:PLine) (v:Value) (w:World):Prop:=w.heap[L]? = some (.cells (lnL a v).toArray 204 (0,0))
theorem LB.alloc {L:Nat} {a:PLine} {v:Value} {w:World} (h:LB L a v w) (hz:L < w.heap.size) (ob:Obj):LB L a v (w.alloc ob):=(Below.heap_alloc _ ob L hz).trans h
theorem LB.choice {L:Nat} {a:PLine} {v:Value} {w:World} (h:LB L a v w):LB L { a with choice:=true } v (w.setCell ⟨L,11,none⟩ (.bool true)):=by
 unfold LB at h ⊢
 rw [cts_set h 11 (.bool true)]; rfl
theorem LB.read {L:Nat} {a:PLine} {v:Value} {w:World} (h:LB L a v w) {m:Nat} (hm:m < 4):LB L (a.read m) v (w.setCell ⟨L,12 + m,none⟩ (.bool true)):=by
 unfold LB at h ⊢
 rw [cts_set h (12 + m) (.bool true)]
 match m,hm with
 | 0,_=>rfl
 | 1,_=>rfl
 | 2,_=>rfl
 | 3,_=>rfl
theorem LB.cells {L:Nat} {a:PLine} {v:Value} {w:World} (h:LB L a v w):w.cell? ⟨L,11,none⟩ = some (.bool a.choice)∧(∀ m,m < 4→∃ y,w.cell? ⟨L,12 + m,none⟩ = some y)∧∀ i,w.frozen? ⟨L,i,none⟩ = false:=by
 unfold LB at h
 refine ⟨by simp [World.cell?,h,lnL],fun m hm=>?_,fun i=>by simp [World.frozen?,h]⟩
 match m,hm with
 | 0,_=>exact ⟨_,by simp [World.cell?,h,lnL]; rfl⟩
 | 1,_=>exact ⟨_,by simp [World.cell?,h,lnL]; rfl⟩
 | 2,_=>exact ⟨_,by simp [World.cell?,h,lnL]; rfl⟩
 | 3,_=>exact ⟨_,by simp [World.cell?,h,lnL]; rfl⟩
set_option maxRecDepth 100000 in
set_option maxHeartbeats 4000000 in
theorem pn_look (B L:Nat) (p:Plan) (vT vP vL vN:Value) (a:PLine) (v:Value) (first last:Int) (w:World)
    (hB:PB B p vT vP vL vN w) (hL:LB L a v w) (hv:vL.ownBlock ≠ some L) (hl:p.nodes.length ≤ 10000) :
    Calls Tryz.prog 149 #[.pointer (some ⟨B,0,none⟩),.pointer (some ⟨L,0,none⟩),.agg #[.int .i64 first,.int .i64 last]] w fun e w'=>e = .returned (.tuple #[])∧LB L (lookF p.nodes a (first,last)) v w'∧Fr1 L w w':=by
 have hzL:L < w.heap.size:=(Array.getElem?_eq_some_iff.1 hL).1
 obtain ⟨aN,cN,hvN,_⟩:=flat_of_owns hB.nd
 subst hvN
 go_enter Tryz.func149,Tryz.ntmps149
 go_wp2
 go_loopw [6] (fun u wr=>∃ (i:Int) (f:Nat) (a':PLine),u = .int .i64 i∧((p.nodes.length:Int) < f + i ∨ i < 0)∧lookG p.nodes last f i a' = lookF p.nodes a (first,last)∧LB L a' v wr∧Fr1 L w wr∧wr.heap[w.heap.size]? = some (.cells #[.int .i64 first,.int .i64 last] 248 (0,0))) (fun u _=>(p.nodes.length - intOf u).toNat)
 case atStart=>exact ⟨first,p.nodes.length + 1,a,rfl,by omega,rfl,(Below.heap_alloc _ _ L hzL).trans hL,(Fr1.refl _ _).alloc (Nat.le_of_lt hzL) _,heap_alloc_new _ _⟩
 case round =>
  obtain ⟨i,f,a',rfl,hf,hn,hL',hfr,hE⟩:=hrel
  have HN:=hide hn
  have HL':=hide hL'
  have HF:=hide hfr
  have HEx:=hide hE
  have e0:wr.cell? ⟨w.heap.size,0,none⟩ = some (.int .i64 first):=by simp [World.cell?,hE]
  have e1:wr.cell? ⟨w.heap.size,1,none⟩ = some (.int .i64 last):=by simp [World.cell?,hE]
  have hzE:w.heap.size < wr.heap.size:=(Array.getElem?_eq_some_iff.1 hE).1
  have hB':=hB.fr1 hL hv hfr
  have hzB:=hB'.lt
  have hzL':L < wr.heap.size:=by omega
  obtain ⟨_,_,_,_,_,p5,_⟩:=hB'.cells
  clear hn hE
  by_cases h0:0 ≤ i
  ·by_cases h1:i ≤ last
   ·by_cases h2:i < p.nodes.length
    ·obtain ⟨k,rfl⟩:=Int.eq_ofNat_of_zero_le h0
     have hk:k < p.nodes.length:=by omega
     obtain ⟨aN',cN',q1,q2⟩:=flat_of_owns hB'.nd
     cases q1
     obtain ⟨b,o,hb,hao,hr5⟩:=q2.get (f:=ndP) (n:=5) (fun _=>rfl) (by decide) k hk
     obtain ⟨n0,n1,n2,n3,n4⟩:=range5 hr5
     subst hao
     obtain ⟨f,rfl⟩:∃ g,f = g + 1:=⟨f - 1,by omega⟩
     have HS:=hide (lookG_in (f:=f) (a:=a') hk h1)
     obtain ⟨l11,lm,lf⟩:=hL'.cells
     have lf11:=lf 11
     clear hr5 q2 hB' hL' hfr
     generalize hN:p.nodes[k] = n at *
     have HNd:=hide hN
     clear hN
     have hne:w.heap.size ≠ L:=by omega
     by_cases hs:n.sign = 2
     ·have hs':((n.sign:Int) == 2) = true:=beq_iff_eq.2 (by omega)
      by_cases ho:n.tr.own = 1
      ·have ho':((n.tr.own:Int) == 1) = true:=beq_iff_eq.2 (by omega)
       by_cases hm0:0 ≤ n.tr.num
       ·by_cases hm4:n.tr.num < 4
        ·obtain ⟨m,hm⟩:=Int.eq_ofNat_of_zero_le hm0
         have hm4':m < 4:=by omega
         obtain ⟨y,hy⟩:=lm m hm4'
         have lfm:=lf (12 + m)
         have HM:Hid (look1 a' n = ({ a' with choice:=true }:PLine).read m):=by show _ = _; unfold look1; rw [if_pos hs]; simp only; rw [if_pos ⟨ho,hm0,hm4⟩,hm]; rfl
         rw [hm] at n2 hm0 hm4
         clear lm lf hs ho hm
         have h11:¬ (11 = 12 + m):=by omega
         have h12:¬ (12 + m = 11):=by omega
         go_wp2_with fail
         go_region
         go_wp2
         go_roundw
         case rel=>exact ⟨(k:Int) + 1,f,({ a' with choice:=true }:PLine).read m,by go_num,by omega,by rw [← HN.out,HS.out,HM.out],(LB.alloc ((HL'.out.choice.read hm4')) (by first | omega | (simp; omega)) _),(((HF.out.setCell 11 (.bool true)).setCell (12 + m) (.bool true)).alloc (by first | omega | (simp; omega)) _).drew,((Below.heap_alloc _ _ w.heap.size (by first | omega | (simp; omega))).trans ((Below.heap_setCell _ ⟨L,12 + m,none⟩ _ w.heap.size hne).trans ((Below.heap_setCell _ ⟨L,11,none⟩ _ w.heap.size hne).trans HEx.out)))⟩
         case measure=>simp [intOf]; omega
        ·have hm5:4 ≤ n.tr.num:=by omega
         have HM:Hid (look1 a' n = ({ a' with choice:=true }:PLine)):=by show _ = _; unfold look1; rw [if_pos hs]; simp only; rw [if_neg (fun h=>hm4 h.2.2)]
         clear lm lf hs ho hm4
         go_wp2
         go_roundw
         case rel=>exact ⟨(k:Int) + 1,f,({ a' with choice:=true }:PLine),by go_num,by omega,by rw [← HN.out,HS.out,HM.out],(LB.alloc (HL'.out.choice) (by first | omega | (simp; omega)) _),((HF.out.setCell 11 (.bool true)).alloc (by first | omega | (simp; omega)) _),((Below.heap_alloc _ _ w.heap.size (by first | omega | (simp; omega))).trans ((Below.heap_setCell _ ⟨L,11,none⟩ _ w.heap.size hne).trans HEx.out))⟩
         case measure=>simp [intOf]; omega
       ·have hm5:n.tr.num < 0:=by omega
        have HM:Hid (look1 a' n = ({ a' with choice:=true }:PLine)):=by show _ = _; unfold look1; rw [if_pos hs]; simp only; rw [if_neg (fun h=>hm0 h.2.1)]
        clear lm lf hs ho hm0
        go_wp2
        go_roundw
        case rel=>exact ⟨(k:Int) + 1,f,({ a' with choice:=true }:PLine),by go_num,by omega,by rw [← HN.out,HS.out,HM.out],(LB.alloc (HL'.out.choice) (by first | omega | (simp; omega)) _),((HF.out.setCell 11 (.bool true)).alloc (by first | omega | (simp; omega)) _),((Below.heap_alloc _ _ w.heap.size (by first | omega | (simp; omega))).trans ((Below.heap_setCell _ ⟨L,11,none⟩ _ w.heap.size hne).trans HEx.out))⟩
        case measure=>simp [intOf]; omega
      ·have ho':((n.tr.own:Int) == 1) = false:=beq_eq_false_iff_ne.2 (by omega)
       have HM:Hid (look1 a' n = ({ a' with choice:=true }:PLine)):=by show _ = _; unfold look1; rw [if_pos hs]; simp only; rw [if_neg (fun h=>ho h.1)]
       clear lm lf hs ho
       go_wp2
       go_roundw
       case rel=>exact ⟨(k:Int) + 1,f,({ a' with choice:=true }:PLine),by go_num,by omega,by rw [← HN.out,HS.out,HM.out],(LB.alloc (HL'.out.choice) (by first | omega | (simp; omega)) _),((HF.out.setCell 11 (.bool true)).alloc (by first | omega | (simp; omega)) _),((Below.heap_alloc _ _ w.heap.size (by first | omega | (simp; omega))).trans ((Below.heap_setCell _ ⟨L,11,none⟩ _ w.heap.size hne).trans HEx.out))⟩
       case measure=>simp [intOf]; omega
     ·have hs':((n.sign:Int) == 2) = false:=beq_eq_false_iff_ne.2 (by omega)
      by_cases ho:n.tr.own = 1
      ·have ho':((n.tr.own:Int) == 1) = true:=beq_iff_eq.2 (by omega)
       by_cases hm0:0 ≤ n.tr.num
       ·by_cases hm4:n.tr.num < 4
        ·obtain ⟨m,hm⟩:=Int.eq_ofNat_of_zero_le hm0
         have hm4':m < 4:=by omega
         obtain ⟨y,hy⟩:=lm m hm4'
         have lfm:=lf (12 + m)
         have HM:Hid (look1 a' n = a'.read m):=by show _ = _; unfold look1; rw [if_neg hs]; simp only; rw [if_pos ⟨ho,hm0,hm4⟩,hm]; rfl
         rw [hm] at n2 hm0 hm4
         clear lm lf hs ho hm
         have h11:¬ (11 = 12 + m):=by omega
         have h12:¬ (12 + m = 11):=by omega
         go_wp2_with fail
         go_region
         go_wp2
         go_roundw
         case rel=>exact ⟨(k:Int) + 1,f,a'.read m,by go_num,by omega,by rw [← HN.out,HS.out,HM.out],(LB.alloc ((HL'.out.read hm4')) (by first | omega | (simp; omega)) _),((HF.out.setCell (12 + m) (.bool true)).alloc (by first | omega | (simp; omega)) _).drew,((Below.heap_alloc _ _ w.heap.size (by first | omega | (simp; omega))).trans ((Below.heap_setCell _ ⟨L,12 + m,none⟩ _ w.heap.size hne).trans HEx.out))⟩
         case measure=>simp [intOf]; omega
        ·have hm5:4 ≤ n.tr.num:=by omega
         have HM:Hid (look1 a' n = a'):=by show _ = _; unfold look1; rw [if_neg hs]; simp only; rw [if_neg (fun h=>hm4 h.2.2)]
         clear lm lf hs ho hm4
         go_wp2
         go_roundw
         case rel=>exact ⟨(k:Int) + 1,f,a',by go_num,by omega,by rw [← HN.out,HS.out,HM.out],(LB.alloc (HL'.out) (by first | omega | (simp; omega)) _),(HF.out.alloc (by first | omega | (simp; omega)) _),((Below.heap_alloc _ _ w.heap.size (by first | omega | (simp; omega))).trans HEx.out)⟩
         case measure=>simp [intOf]; omega
       ·have hm5:n.tr.num < 0:=by omega
        have HM:Hid (look1 a' n = a'):=by show _ = _; unfold look1; rw [if_neg hs]; simp only; rw [if_neg (fun h=>hm0 h.2.1)]
        clear lm lf hs ho hm0
        go_wp2
        go_roundw
        case rel=>exact ⟨(k:Int) + 1,f,a',by go_num,by omega,by rw [← HN.out,HS.out,HM.out],(LB.alloc (HL'.out) (by first | omega | (simp; omega)) _),(HF.out.alloc (by first | omega | (simp; omega)) _),((Below.heap_alloc _ _ w.heap.size (by first | omega | (simp; omega))).trans HEx.out)⟩
        case measure=>simp [intOf]; omega
      ·have ho':((n.tr.own:Int) == 1) = false:=beq_eq_false_iff_ne.2 (by omega)
       have HM:Hid (look1 a' n = a'):=by show _ = _; unfold look1; rw [if_neg hs]; simp only; rw [if_neg (fun h=>ho h.1)]
       clear lm lf hs ho
       go_wp2
       go_roundw
       case rel=>exact ⟨(k:Int) + 1,f,a',by go_num,by omega,by rw [← HN.out,HS.out,HM.out],(LB.alloc (HL'.out) (by first | omega | (simp; omega)) _),(HF.out.alloc (by first | omega | (simp; omega)) _),((Below.heap_alloc _ _ w.heap.size (by first | omega | (simp; omega))).trans HEx.out)⟩
       case measure=>simp [intOf]; omega
    ·have h3:(p.nodes.length:Int) ≤ i:=by omega
     have HE:Hid (a' = lookF p.nodes a (first,last)):=(lookG_out (f:=f) (by omega)).symm.trans HN.out
     clear hL'
     go_wp2
     go_end0
     exact ⟨rfl,by rw [← HE.out]; exact HL'.out,HF.out⟩
   ·have h3:last < i:=by omega
    have HE:Hid (a' = lookF p.nodes a (first,last)):=(lookG_out (f:=f) (by omega)).symm.trans HN.out
    clear hL'
    go_wp2
    go_end0
    exact ⟨rfl,by rw [← HE.out]; exact HL'.out,HF.out⟩
  ·have h3:i < 0:=by omega
   have HE:Hid (a' = lookF p.nodes a (first,last)):=(lookG_out (f:=f) (by omega)).symm.trans HN.out
   clear hL'
   go_wp2
   go_end0
   exact ⟨rfl,by rw [← HE.out]; exact HL'.out,HF.out⟩
end Go.Proofs.YtmfcpbhdggonfaaGreatDoor
namespace Go.Proofs.YtmfcpbhdggonfaaGreatDoor
open Go.RowKit RR
def TX (b:Nat) (pre post:List Value) (T:TypeId) (mid:List Value) (w:World):Prop:=w.heap[b]? = some (.cells (pre ++ mid ++ post).toArray T (0,0))
def TB (b:Nat) (pre post:List Value) (T:TypeId) (t:Thr) (w:World):Prop:=TX b pre post T (thrL t) w
theorem set_mid (pre mid post:List Value) (j:Nat) (v:Value) (hj:j < mid.length):(pre ++ mid ++ post).toArray.setIfInBounds (pre.length + j) v = (pre ++ mid.set j v ++ post).toArray:=by
 apply Array.ext_getElem?
 intro k
 rw [Array.getElem?_setIfInBounds]
 simp only [List.getElem?_toArray,List.size_toArray,List.length_append]
 by_cases h:pre.length + j = k
 ·subst h
  rw [if_pos rfl,if_pos (by omega),List.append_assoc,List.getElem?_append_right (by omega),List.getElem?_append_left (by simp; omega),Nat.add_sub_cancel_left,List.getElem?_set_self hj]
 ·rw [if_neg h,List.append_assoc,List.append_assoc]
  by_cases h1:k < pre.length
  ·rw [List.getElem?_append_left h1,List.getElem?_append_left h1]
  ·rw [List.getElem?_append_right (l₁:=pre) (by omega),List.getElem?_append_right (l₁:=pre) (by omega)]
   by_cases h2:k - pre.length < mid.length
   ·rw [List.getElem?_append_left h2,List.getElem?_append_left (by simpa using h2),List.getElem?_set_ne (by omega)]
   ·rw [List.getElem?_append_right (l₁:=mid) (by omega),List.getElem?_append_right (l₁:=mid.set j v) (by simp; omega),List.length_set]
theorem TX.cell {b:Nat} {pre post mid:List Value} {T:TypeId} {w:World} (h:TX b pre post T mid w) (j:Nat) (hj:j < mid.length):w.cell? ⟨b,pre.length + j,none⟩ = mid[j]?:=by
 rw [cell_of_row w b (pre.length + j) _ T (0,0) h]
 simp only [List.getElem?_toArray]
 rw [List.append_assoc,List.getElem?_append_right (by omega),List.getElem?_append_left (by rw [Nat.add_sub_cancel_left]; exact hj),Nat.add_sub_cancel_left]
theorem TX.set {b:Nat} {pre post mid:List Value} {T:TypeId} {w:World} (h:TX b pre post T mid w) (j:Nat) (v:Value) (hj:j < mid.length):TX b pre post T (mid.set j v) (w.setCell ⟨b,pre.length + j,none⟩ v):=by
 unfold TX at h ⊢
 rw [setOne_heap h (pre.length + j) v,set_mid pre mid post j v hj]
theorem TX.lt {b:Nat} {pre post mid:List Value} {T:TypeId} {w:World} (h:TX b pre post T mid w):b < w.heap.size:=(Array.getElem?_eq_some_iff.1 h).1
theorem TX.fz {b:Nat} {pre post mid:List Value} {T:TypeId} {w:World} (h:TX b pre post T mid w) (i:Nat):w.frozen? ⟨b,i,none⟩ = false:=by
 unfold TX at h
 simp [World.frozen?,h]
theorem TX.alloc {b:Nat} {pre post mid:List Value} {T:TypeId} {w:World} (h:TX b pre post T mid w) (ob:Obj):TX b pre post T mid (w.alloc ob):=(Below.heap_alloc _ ob b h.lt).trans h
theorem TX.drew {b:Nat} {pre post mid:List Value} {T:TypeId} {w:World} (h:TX b pre post T mid w):TX b pre post T mid w.drew:=h
theorem TX.tb {b:Nat} {pre post mid:List Value} {T:TypeId} {w:World} (h:TX b pre post T mid w) {t:Thr} (e:mid = thrL t):TB b pre post T t w:=by unfold TB; rw [← e]; exact h
theorem TB.cells {b o:Nat} {pre post:List Value} {T:TypeId} {t:Thr} {w:World} (h0:TB b pre post T t w) (ho:o = pre.length):w.cell? ⟨b,o,none⟩ = some (.int .i64 t.count)∧(w.cell? ⟨b,o + 1,none⟩ = some (.int .i64 t.f0.line)∧w.cell? ⟨b,o + 2,none⟩ = some (.bool t.f0.p0)∧w.cell? ⟨b,o + 3,none⟩ = some (.bool t.f0.p1)∧w.cell? ⟨b,o + 4,none⟩ = some (.bool t.f0.p2))∧(w.cell? ⟨b,o + 5,none⟩ = some (.int .i64 t.f1.line)∧w.cell? ⟨b,o + 6,none⟩ = some (.bool t.f1.p0)∧w.cell? ⟨b,o + 7,none⟩ = some (.bool t.f1.p1)∧w.cell? ⟨b,o + 8,none⟩ = some (.bool t.f1.p2))∧(w.cell? ⟨b,o + 9,none⟩ = some (.int .i64 t.f2.line)∧w.cell? ⟨b,o + 10,none⟩ = some (.bool t.f2.p0)∧w.cell? ⟨b,o + 11,none⟩ = some (.bool t.f2.p1)∧w.cell? ⟨b,o + 12,none⟩ = some (.bool t.f2.p2))∧(w.cell? ⟨b,o + 13,none⟩ = some (.int .i64 t.f3.line)∧w.cell? ⟨b,o + 14,none⟩ = some (.bool t.f3.p0)∧w.cell? ⟨b,o + 15,none⟩ = some (.bool t.f3.p1)∧w.cell? ⟨b,o + 16,none⟩ = some (.bool t.f3.p2)):=by
 subst ho
 have h:TX b pre post T (thrL t) w:=h0
 exact ⟨h.cell 0 (show 0 < 17 by decide),⟨h.cell 1 (show 1 < 17 by decide),h.cell 2 (show 2 < 17 by decide),h.cell 3 (show 3 < 17 by decide),h.cell 4 (show 4 < 17 by decide)⟩,⟨h.cell 5 (show 5 < 17 by decide),h.cell 6 (show 6 < 17 by decide),h.cell 7 (show 7 < 17 by decide),h.cell 8 (show 8 < 17 by decide)⟩,⟨h.cell 9 (show 9 < 17 by decide),h.cell 10 (show 10 < 17 by decide),h.cell 11 (show 11 < 17 by decide),h.cell 12 (show 12 < 17 by decide)⟩,⟨h.cell 13 (show 13 < 17 by decide),h.cell 14 (show 14 < 17 by decide),h.cell 15 (show 15 < 17 by decide),h.cell 16 (show 16 < 17 by decide)⟩⟩
theorem TB.lt {b:Nat} {pre post:List Value} {T:TypeId} {t:Thr} {w:World} (h:TB b pre post T t w):b < w.heap.size:=TX.lt h
def PuP (b:Nat) (pre post:List Value) (T:TypeId) (t:Thr) (r:Option Thr) (w:World) (e:Ending) (w':World):Prop:=e = .returned (.bool r.isSome)∧TB b pre post T (r.getD t) w'∧Fr1 b w w'
def ThP (b:Nat) (pre post:List Value) (T:TypeId) (t:Thr) (w:World) (e:Ending) (w':World):Prop:=e = .returned (.tuple #[])∧TB b pre post T t w'∧Fr1 b w w'
set_option maxRecDepth 100000 in
set_option maxHeartbeats 4000000 in
theorem py_push (b o:Nat) (pre post:List Value) (T:TypeId) (t:Thr) (f:Frm) (w:World) (ho:o = pre.length) (h:TB b pre post T t w) :
    Calls Tryz.prog 142 #[.pointer (some ⟨b,o,none⟩),frmA f] w fun e w'=>PuP b pre post T t (pushF t f) w e w':=by
 have hz:=h.lt
 have HT:Hid (TX b pre post T (thrL t) w):=h
 have HO:=hide ho
 have hLen:∀ t:Thr,(thrL t).length = 17:=fun _=>rfl
 obtain ⟨c,⟨a1,a2,a3,a4⟩,⟨b1,b2,b3,b4⟩,⟨d1,d2,d3,d4⟩,⟨e1,e2,e3,e4⟩⟩:=h.cells ho
 have hfz:=TX.fz h
 unfold frmA
 by_cases hc:0 ≤ t.count∧t.count < 4
 ·have h4:t.count = 0 ∨ t.count = 1 ∨ t.count = 2 ∨ t.count = 3:=by omega
  rcases h4 with h0 | h0 | h0 | h0
  ·have HE:Hid (pushF t f = some { t with f0:=f,count:=1 }):=by show _ = _; unfold pushF; rw [if_pos hc,h0]; rfl
   have fz0:=hfz o
   have fz1:=hfz (o + 1)
   have fz2:=hfz (o + 2)
   have fz3:=hfz (o + 3)
   have fz4:=hfz (o + 4)
   rw [h0] at c
   clear hc h hfz ho b1 b2 b3 b4 d1 d2 d3 d4 e1 e2 e3 e4
   go_enter Tryz.func142,Tryz.ntmps142
   go_wp2_with fail
   go_region
   go_wp2_with fail
   go_ret
   have ho:=HO.out
   subst ho
   exact ⟨by rw [HE.out]; rfl,by rw [HE.out]; exact TX.tb ((((((HT.out.set 1 (.int .i64 f.line) (by simp [hLen])).set 2 (.bool f.p0) (by simp [hLen])).set 3 (.bool f.p1) (by simp [hLen])).set 4 (.bool f.p2) (by simp [hLen])).set 0 (.int .i64 1) (by simp [hLen])).alloc _).drew (by rw [show thrL t = thrL { t with count:=0 } by rw [← h0]]; rfl),(((((((Fr1.refl b w).setCell (pre.length + 1) (.int .i64 f.line)).setCell (pre.length + 2) (.bool f.p0)).setCell (pre.length + 3) (.bool f.p1)).setCell (pre.length + 4) (.bool f.p2)).setCell (pre.length + 0) (.int .i64 1)).alloc (by simp; omega) _).drew⟩
  ·have HE:Hid (pushF t f = some { t with f1:=f,count:=2 }):=by show _ = _; unfold pushF; rw [if_pos hc,h0]; rfl
   have fz0:=hfz o
   have fz1:=hfz (o + 5)
   have fz2:=hfz (o + 6)
   have fz3:=hfz (o + 7)
   have fz4:=hfz (o + 8)
   rw [h0] at c
   clear hc h hfz ho a1 a2 a3 a4 d1 d2 d3 d4 e1 e2 e3 e4
   go_enter Tryz.func142,Tryz.ntmps142
   go_wp2_with fail
   go_region
   go_wp2_with fail
   go_ret
   have ho:=HO.out
   subst ho
   exact ⟨by rw [HE.out]; rfl,by rw [HE.out]; exact TX.tb ((((((HT.out.set 5 (.int .i64 f.line) (by simp [hLen])).set 6 (.bool f.p0) (by simp [hLen])).set 7 (.bool f.p1) (by simp [hLen])).set 8 (.bool f.p2) (by simp [hLen])).set 0 (.int .i64 2) (by simp [hLen])).alloc _).drew (by rw [show thrL t = thrL { t with count:=1 } by rw [← h0]]; rfl),(((((((Fr1.refl b w).setCell (pre.length + 5) (.int .i64 f.line)).setCell (pre.length + 6) (.bool f.p0)).setCell (pre.length + 7) (.bool f.p1)).setCell (pre.length + 8) (.bool f.p2)).setCell (pre.length + 0) (.int .i64 2)).alloc (by simp; omega) _).drew⟩
  ·have HE:Hid (pushF t f = some { t with f2:=f,count:=3 }):=by show _ = _; unfold pushF; rw [if_pos hc,h0]; rfl
   have fz0:=hfz o
   have fz1:=hfz (o + 9)
   have fz2:=hfz (o + 10)
   have fz3:=hfz (o + 11)
   have fz4:=hfz (o + 12)
   rw [h0] at c
   clear hc h hfz ho a1 a2 a3 a4 b1 b2 b3 b4 e1 e2 e3 e4
   go_enter Tryz.func142,Tryz.ntmps142
   go_wp2_with fail
   go_region
   go_wp2_with fail
   go_ret
   have ho:=HO.out
   subst ho
   exact ⟨by rw [HE.out]; rfl,by rw [HE.out]; exact TX.tb ((((((HT.out.set 9 (.int .i64 f.line) (by simp [hLen])).set 10 (.bool f.p0) (by simp [hLen])).set 11 (.bool f.p1) (by simp [hLen])).set 12 (.bool f.p2) (by simp [hLen])).set 0 (.int .i64 3) (by simp [hLen])).alloc _).drew (by rw [show thrL t = thrL { t with count:=2 } by rw [← h0]]; rfl),(((((((Fr1.refl b w).setCell (pre.length + 9) (.int .i64 f.line)).setCell (pre.length + 10) (.bool f.p0)).setCell (pre.length + 11) (.bool f.p1)).setCell (pre.length + 12) (.bool f.p2)).setCell (pre.length + 0) (.int .i64 3)).alloc (by simp; omega) _).drew⟩
  ·have HE:Hid (pushF t f = some { t with f3:=f,count:=4 }):=by show _ = _; unfold pushF; rw [if_pos hc,h0]; rfl
   have fz0:=hfz o
   have fz1:=hfz (o + 13)
   have fz2:=hfz (o + 14)
   have fz3:=hfz (o + 15)
   have fz4:=hfz (o + 16)
   rw [h0] at c
   clear hc h hfz ho a1 a2 a3 a4 b1 b2 b3 b4 d1 d2 d3 d4
   go_enter Tryz.func142,Tryz.ntmps142
   go_wp2_with fail
   go_region
   go_wp2_with fail
   go_ret
   have ho:=HO.out
   subst ho
   exact ⟨by rw [HE.out]; rfl,by rw [HE.out]; exact TX.tb ((((((HT.out.set 13 (.int .i64 f.line) (by simp [hLen])).set 14 (.bool f.p0) (by simp [hLen])).set 15 (.bool f.p1) (by simp [hLen])).set 16 (.bool f.p2) (by simp [hLen])).set 0 (.int .i64 4) (by simp [hLen])).alloc _).drew (by rw [show thrL t = thrL { t with count:=3 } by rw [← h0]]; rfl),(((((((Fr1.refl b w).setCell (pre.length + 13) (.int .i64 f.line)).setCell (pre.length + 14) (.bool f.p0)).setCell (pre.length + 15) (.bool f.p1)).setCell (pre.length + 16) (.bool f.p2)).setCell (pre.length + 0) (.int .i64 4)).alloc (by simp; omega) _).drew⟩
 ·have HE:Hid (pushF t f = none):=by show _ = _; unfold pushF; rw [if_neg hc]
  by_cases hn:t.count < 0
  ·skip
   clear hc h hfz ho a1 a2 a3 a4 b1 b2 b3 b4 d1 d2 d3 d4 e1 e2 e3 e4
   go_enter Tryz.func142,Tryz.ntmps142
   go_wp2
   go_ret
   exact ⟨by rw [HE.out]; rfl,by rw [HE.out]; exact TX.alloc HT.out _,(Fr1.refl b w).alloc (Nat.le_of_lt hz) _⟩
  ·have hp:4 ≤ t.count:=by omega
   clear hc h hfz ho a1 a2 a3 a4 b1 b2 b3 b4 d1 d2 d3 d4 e1 e2 e3 e4
   go_enter Tryz.func142,Tryz.ntmps142
   go_wp2
   go_ret
   exact ⟨by rw [HE.out]; rfl,by rw [HE.out]; exact TX.alloc HT.out _,(Fr1.refl b w).alloc (Nat.le_of_lt hz) _⟩
set_option maxRecDepth 100000 in
set_option maxHeartbeats 4000000 in
theorem py_pop (b o:Nat) (pre post:List Value) (T:TypeId) (t:Thr) (w:World) (ho:o = pre.length) (h:TB b pre post T t w) :
    Calls Tryz.prog 213 #[.pointer (some ⟨b,o,none⟩)] w fun e w'=>ThP b pre post T (popF t) w e w':=by
 have hz:=h.lt
 have HT:Hid (TX b pre post T (thrL t) w):=h
 have HO:=hide ho
 have hLen:∀ t:Thr,(thrL t).length = 17:=fun _=>rfl
 obtain ⟨c,⟨a1,a2,a3,a4⟩,⟨b1,b2,b3,b4⟩,⟨d1,d2,d3,d4⟩,⟨e1,e2,e3,e4⟩⟩:=h.cells ho
 have hfz:=TX.fz h
 by_cases hc:1 ≤ t.count∧t.count ≤ 4
 ·have h4:t.count = 1 ∨ t.count = 2 ∨ t.count = 3 ∨ t.count = 4:=by omega
  rcases h4 with h0 | h0 | h0 | h0
  ·have HE:Hid (popF t = { t with f0:=zFrm,count:=0 }):=by show _ = _; unfold popF; rw [if_pos hc,h0]; rfl
   have fz0:=hfz o
   have fz1:=hfz (o + 1)
   have fz2:=hfz (o + 2)
   have fz3:=hfz (o + 3)
   have fz4:=hfz (o + 4)
   rw [h0] at c
   clear hc h hfz ho b1 b2 b3 b4 d1 d2 d3 d4 e1 e2 e3 e4
   go_enter Tryz.func213,Tryz.ntmps213
   go_wp2_with fail
   go_region
   go_wp2_with fail
   go_end0
   have ho:=HO.out
   subst ho
   exact ⟨rfl,by rw [HE.out]; exact TX.tb (((((HT.out.set 0 (.int .i64 0) (by simp [hLen])).set 1 (.int .i64 0) (by simp [hLen])).set 2 (.bool false) (by simp [hLen])).set 3 (.bool false) (by simp [hLen])).set 4 (.bool false) (by simp [hLen])).drew rfl,((((((Fr1.refl b w).setCell (pre.length + 0) (.int .i64 0)).setCell (pre.length + 1) (.int .i64 0)).setCell (pre.length + 2) (.bool false)).setCell (pre.length + 3) (.bool false)).setCell (pre.length + 4) (.bool false)).drew⟩
  ·have HE:Hid (popF t = { t with f1:=zFrm,count:=1 }):=by show _ = _; unfold popF; rw [if_pos hc,h0]; rfl
   have fz0:=hfz o
   have fz1:=hfz (o + 5)
   have fz2:=hfz (o + 6)
   have fz3:=hfz (o + 7)
   have fz4:=hfz (o + 8)
   rw [h0] at c
   clear hc h hfz ho a1 a2 a3 a4 d1 d2 d3 d4 e1 e2 e3 e4
   go_enter Tryz.func213,Tryz.ntmps213
   go_wp2_with fail
   go_region
   go_wp2_with fail
   go_end0
   have ho:=HO.out
   subst ho
   exact ⟨rfl,by rw [HE.out]; exact TX.tb (((((HT.out.set 0 (.int .i64 1) (by simp [hLen])).set 5 (.int .i64 0) (by simp [hLen])).set 6 (.bool false) (by simp [hLen])).set 7 (.bool false) (by simp [hLen])).set 8 (.bool false) (by simp [hLen])).drew rfl,((((((Fr1.refl b w).setCell (pre.length + 0) (.int .i64 1)).setCell (pre.length + 5) (.int .i64 0)).setCell (pre.length + 6) (.bool false)).setCell (pre.length + 7) (.bool false)).setCell (pre.length + 8) (.bool false)).drew⟩
  ·have HE:Hid (popF t = { t with f2:=zFrm,count:=2 }):=by show _ = _; unfold popF; rw [if_pos hc,h0]; rfl
   have fz0:=hfz o
   have fz1:=hfz (o + 9)
   have fz2:=hfz (o + 10)
   have fz3:=hfz (o + 11)
   have fz4:=hfz (o + 12)
   rw [h0] at c
   clear hc h hfz ho a1 a2 a3 a4 b1 b2 b3 b4 e1 e2 e3 e4
   go_enter Tryz.func213,Tryz.ntmps213
   go_wp2_with fail
   go_region
   go_wp2_with fail
   go_end0
   have ho:=HO.out
   subst ho
   exact ⟨rfl,by rw [HE.out]; exact TX.tb (((((HT.out.set 0 (.int .i64 2) (by simp [hLen])).set 9 (.int .i64 0) (by simp [hLen])).set 10 (.bool false) (by simp [hLen])).set 11 (.bool false) (by simp [hLen])).set 12 (.bool false) (by simp [hLen])).drew rfl,((((((Fr1.refl b w).setCell (pre.length + 0) (.int .i64 2)).setCell (pre.length + 9) (.int .i64 0)).setCell (pre.length + 10) (.bool false)).setCell (pre.length + 11) (.bool false)).setCell (pre.length + 12) (.bool false)).drew⟩
  ·have HE:Hid (popF t = { t with f3:=zFrm,count:=3 }):=by show _ = _; unfold popF; rw [if_pos hc,h0]; rfl
   have fz0:=hfz o
   have fz1:=hfz (o + 13)
   have fz2:=hfz (o + 14)
   have fz3:=hfz (o + 15)
   have fz4:=hfz (o + 16)
   rw [h0] at c
   clear hc h hfz ho a1 a2 a3 a4 b1 b2 b3 b4 d1 d2 d3 d4
   go_enter Tryz.func213,Tryz.ntmps213
   go_wp2_with fail
   go_region
   go_wp2_with fail
   go_end0
   have ho:=HO.out
   subst ho
   exact ⟨rfl,by rw [HE.out]; exact TX.tb (((((HT.out.set 0 (.int .i64 3) (by simp [hLen])).set 13 (.int .i64 0) (by simp [hLen])).set 14 (.bool false) (by simp [hLen])).set 15 (.bool false) (by simp [hLen])).set 16 (.bool false) (by simp [hLen])).drew rfl,((((((Fr1.refl b w).setCell (pre.length + 0) (.int .i64 3)).setCell (pre.length + 13) (.int .i64 0)).setCell (pre.length + 14) (.bool false)).setCell (pre.length + 15) (.bool false)).setCell (pre.length + 16) (.bool false)).drew⟩
 ·have HE:Hid (popF t = t):=by show _ = _; unfold popF; rw [if_neg hc]
  by_cases hn:t.count < 1
  ·skip
   clear hc h hfz ho a1 a2 a3 a4 b1 b2 b3 b4 d1 d2 d3 d4 e1 e2 e3 e4
   go_enter Tryz.func213,Tryz.ntmps213
   go_wp2
   refine bodyPost_ret (v:=.tuple #[]) ?_ rfl ?_
   ·simp [results,Tryz.results213,go_sem]
   ·exact ⟨rfl,by rw [HE.out]; exact HT.out,Fr1.refl b w⟩
  ·have hp:4 < t.count:=by omega
   clear hc h hfz ho a1 a2 a3 a4 b1 b2 b3 b4 d1 d2 d3 d4 e1 e2 e3 e4
   go_enter Tryz.func213,Tryz.ntmps213
   go_wp2
   refine bodyPost_ret (v:=.tuple #[]) ?_ rfl ?_
   ·simp [results,Tryz.results213,go_sem]
   ·exact ⟨rfl,by rw [HE.out]; exact HT.out,Fr1.refl b w⟩
set_option maxRecDepth 100000 in
set_option maxHeartbeats 4000000 in
theorem py_setLast (b o:Nat) (pre post:List Value) (T:TypeId) (t:Thr) (f:Frm) (w:World) (ho:o = pre.length) (h:TB b pre post T t w) :
    Calls Tryz.prog 216 #[.pointer (some ⟨b,o,none⟩),frmA f] w fun e w'=>ThP b pre post T (setLastF t f) w e w':=by
 have hz:=h.lt
 have HT:Hid (TX b pre post T (thrL t) w):=h
 have HO:=hide ho
 have hLen:∀ t:Thr,(thrL t).length = 17:=fun _=>rfl
 obtain ⟨c,⟨a1,a2,a3,a4⟩,⟨b1,b2,b3,b4⟩,⟨d1,d2,d3,d4⟩,⟨e1,e2,e3,e4⟩⟩:=h.cells ho
 have hfz:=TX.fz h
 unfold frmA
 by_cases hc:1 ≤ t.count∧t.count ≤ 4
 ·have h4:t.count = 1 ∨ t.count = 2 ∨ t.count = 3 ∨ t.count = 4:=by omega
  rcases h4 with h0 | h0 | h0 | h0
  ·have HE:Hid (setLastF t f = { t with f0:=f }):=by show _ = _; unfold setLastF; rw [if_pos hc,show (t.count - 1).toNat = 0 by omega]; rfl
   have fz0:=hfz o
   have fz1:=hfz (o + 1)
   have fz2:=hfz (o + 2)
   have fz3:=hfz (o + 3)
   have fz4:=hfz (o + 4)
   rw [h0] at c
   clear hc h hfz ho b1 b2 b3 b4 d1 d2 d3 d4 e1 e2 e3 e4
   go_enter Tryz.func216,Tryz.ntmps216
   go_wp2_with fail
   go_region
   go_wp2_with fail
   go_end0
   have ho:=HO.out
   subst ho
   exact ⟨rfl,by rw [HE.out]; exact TX.tb (((((HT.out.set 1 (.int .i64 f.line) (by simp [hLen])).set 2 (.bool f.p0) (by simp [hLen])).set 3 (.bool f.p1) (by simp [hLen])).set 4 (.bool f.p2) (by simp [hLen])).alloc _).drew rfl,((((((Fr1.refl b w).setCell (pre.length + 1) (.int .i64 f.line)).setCell (pre.length + 2) (.bool f.p0)).setCell (pre.length + 3) (.bool f.p1)).setCell (pre.length + 4) (.bool f.p2)).alloc (by simp; omega) _).drew⟩
  ·have HE:Hid (setLastF t f = { t with f1:=f }):=by show _ = _; unfold setLastF; rw [if_pos hc,show (t.count - 1).toNat = 1 by omega]; rfl
   have fz0:=hfz o
   have fz1:=hfz (o + 5)
   have fz2:=hfz (o + 6)
   have fz3:=hfz (o + 7)
   have fz4:=hfz (o + 8)
   rw [h0] at c
   clear hc h hfz ho a1 a2 a3 a4 d1 d2 d3 d4 e1 e2 e3 e4
   go_enter Tryz.func216,Tryz.ntmps216
   go_wp2_with fail
   go_region
   go_wp2_with fail
   go_end0
   have ho:=HO.out
   subst ho
   exact ⟨rfl,by rw [HE.out]; exact TX.tb (((((HT.out.set 5 (.int .i64 f.line) (by simp [hLen])).set 6 (.bool f.p0) (by simp [hLen])).set 7 (.bool f.p1) (by simp [hLen])).set 8 (.bool f.p2) (by simp [hLen])).alloc _).drew rfl,((((((Fr1.refl b w).setCell (pre.length + 5) (.int .i64 f.line)).setCell (pre.length + 6) (.bool f.p0)).setCell (pre.length + 7) (.bool f.p1)).setCell (pre.length + 8) (.bool f.p2)).alloc (by simp; omega) _).drew⟩
  ·have HE:Hid (setLastF t f = { t with f2:=f }):=by show _ = _; unfold setLastF; rw [if_pos hc,show (t.count - 1).toNat = 2 by omega]; rfl
   have fz0:=hfz o
   have fz1:=hfz (o + 9)
   have fz2:=hfz (o + 10)
   have fz3:=hfz (o + 11)
   have fz4:=hfz (o + 12)
   rw [h0] at c
   clear hc h hfz ho a1 a2 a3 a4 b1 b2 b3 b4 e1 e2 e3 e4
   go_enter Tryz.func216,Tryz.ntmps216
   go_wp2_with fail
   go_region
   go_wp2_with fail
   go_end0
   have ho:=HO.out
   subst ho
   exact ⟨rfl,by rw [HE.out]; exact TX.tb (((((HT.out.set 9 (.int .i64 f.line) (by simp [hLen])).set 10 (.bool f.p0) (by simp [hLen])).set 11 (.bool f.p1) (by simp [hLen])).set 12 (.bool f.p2) (by simp [hLen])).alloc _).drew rfl,((((((Fr1.refl b w).setCell (pre.length + 9) (.int .i64 f.line)).setCell (pre.length + 10) (.bool f.p0)).setCell (pre.length + 11) (.bool f.p1)).setCell (pre.length + 12) (.bool f.p2)).alloc (by simp; omega) _).drew⟩
  ·have HE:Hid (setLastF t f = { t with f3:=f }):=by show _ = _; unfold setLastF; rw [if_pos hc,show (t.count - 1).toNat = 3 by omega]; rfl
   have fz0:=hfz o
   have fz1:=hfz (o + 13)
   have fz2:=hfz (o + 14)
   have fz3:=hfz (o + 15)
   have fz4:=hfz (o + 16)
   rw [h0] at c
   clear hc h hfz ho a1 a2 a3 a4 b1 b2 b3 b4 d1 d2 d3 d4
   go_enter Tryz.func216,Tryz.ntmps216
   go_wp2_with fail
   go_region
   go_wp2_with fail
   go_end0
   have ho:=HO.out
   subst ho
   exact ⟨rfl,by rw [HE.out]; exact TX.tb (((((HT.out.set 13 (.int .i64 f.line) (by simp [hLen])).set 14 (.bool f.p0) (by simp [hLen])).set 15 (.bool f.p1) (by simp [hLen])).set 16 (.bool f.p2) (by simp [hLen])).alloc _).drew rfl,((((((Fr1.refl b w).setCell (pre.length + 13) (.int .i64 f.line)).setCell (pre.length + 14) (.bool f.p0)).setCell (pre.length + 15) (.bool f.p1)).setCell (pre.length + 16) (.bool f.p2)).alloc (by simp; omega) _).drew⟩
 ·have HE:Hid (setLastF t f = t):=by show _ = _; unfold setLastF; rw [if_neg hc]
  by_cases hn:t.count < 1
  ·skip
   clear hc h hfz ho a1 a2 a3 a4 b1 b2 b3 b4 d1 d2 d3 d4 e1 e2 e3 e4
   go_enter Tryz.func216,Tryz.ntmps216
   go_wp2
   refine bodyPost_ret (v:=.tuple #[]) ?_ rfl ?_
   ·simp [results,Tryz.results216,go_sem]
   ·exact ⟨rfl,by rw [HE.out]; exact TX.alloc HT.out _,(Fr1.refl b w).alloc (Nat.le_of_lt hz) _⟩
  ·have hp:4 < t.count:=by omega
   clear hc h hfz ho a1 a2 a3 a4 b1 b2 b3 b4 d1 d2 d3 d4 e1 e2 e3 e4
   go_enter Tryz.func216,Tryz.ntmps216
   go_wp2
   refine bodyPost_ret (v:=.tuple #[]) ?_ rfl ?_
   ·simp [results,Tryz.results216,go_sem]
   ·exact ⟨rfl,by rw [HE.out]; exact TX.alloc HT.out _,(Fr1.refl b w).alloc (Nat.le_of_lt hz) _⟩
end Go.Proofs.YtmfcpbhdggonfaaGreatDoor
namespace Go.Proofs.YtmfcpbhdggonfaaGreatDoor
open Go.RowKit RR
theorem wpo_box {P:Program} {o:Oper} {a:Act} {w:World} {K:Act→World→Prop} {Q:Exit→Act→World→Prop} (t:TypeId) (x:Operand) (ho:o.op = .box t x) (cs:List Value) (hx:a.eval x = .agg cs.toArray)
    (h:K (a.put o.dst (.pointer (some ⟨w.heap.size,0,none⟩))) (w.alloc (.cells cs.toArray t))):o.wp P a w K Q:=by
 unfold Oper.wp execOp
 simp only [ho,hx]
 simpa [go_sem] using h
theorem wpo_alloc {P:Program} {o:Oper} {a:Act} {w:World} {K:Act→World→Prop} {Q:Exit→Act→World→Prop} (t:TypeId) (ho:o.op = .alloc t) (cs:List Value) (hz:(P.info? t).bind (·.zero) = some (.agg cs.toArray))
    (h:K (a.put o.dst (.pointer (some ⟨w.heap.size,0,none⟩))) (w.alloc (.cells cs.toArray t))):o.wp P a w K Q:=by
 obtain ⟨i,h1,h2⟩:=Option.bind_eq_some_iff.1 hz
 unfold Oper.wp execOp
 simp only [ho,Instr.alloc,zeroValue,typeInfo]
 simpa [go_sem,h1,h2] using h
theorem setRow_new {w:World} {z cs:Array Value} {t:TypeId}:(w.alloc (.cells z t)).setRow w.heap.size cs = w.alloc (.cells cs t):=by
 unfold World.setRow World.alloc
 congr 1
 apply Array.ext_getElem?
 intro k
 rw [Array.getElem?_modify]
 by_cases hk:w.heap.size = k
 ·subst hk
  simp
 ·rw [if_neg hk,Array.getElem?_push,Array.getElem?_push]
  rw [if_neg (fun e=>hk e.symm),if_neg (fun e=>hk e.symm)]
theorem wpo_store_new {P:Program} {o:Oper} {a:Act} {w:World} {K:Act→World→Prop} {Q:Exit→Act→World→Prop} (ty:TypeId) (x y:Operand) (ho:o.op = .store ty x y) (b:Nat) (z:Array Value) (cs:List Value) (t:TypeId)
    (hx:a.eval x = .pointer (some ⟨b,0,none⟩)) (hy:a.eval y = .agg cs.toArray) (hb:b = w.heap.size) (hi:(P.info? ty).map (·.size) = some cs.length) (hz:z.size = cs.length) (h1:cs.all (·.oneCell') = true)
    (h:K (a.put o.dst undef) (w.alloc (.cells cs.toArray t))):o.wp P a (w.alloc (.cells z t)) K Q:=by
 subst hb
 refine wp_store_row ty x y ho w.heap.size cs.toArray hx hy t z (heap_alloc_new w _) (by simpa using hi) (by simpa using hz) (by simpa using h1) ?_
 rw [setRow_new]
 exact h
theorem wpo_zero {P:Program} {o:Oper} {a:Act} {w:World} {K:Act→World→Prop} {Q:Exit→Act→World→Prop} (t:TypeId) (ho:o.op = .build t #[]) (cs:List Value) (hz:P.built t [] = some cs.toArray)
    (h:K (a.put o.dst (.agg cs.toArray)) w):o.wp P a w K Q:=by
 refine wp_build t #[] ho (by simp [hz]) ?_
 simpa [hz] using h
/-! The same of the first operation of a list. -/
theorem wpl_box {P:Program} {ops:Array Oper} {rest:List Oper} {o:Oper} {a:Act} {w:World} {Q:Exit→Act→World→Prop} (hg:o.guard = none) (t:TypeId) (x:Operand) (ho:o.op = .box t x) (cs:List Value) (hx:a.eval x = .agg cs.toArray)
    (h:wpList P ops Q rest (a.put o.dst (.pointer (some ⟨w.heap.size,0,none⟩))) (w.alloc (.cells cs.toArray t))):wpList P ops Q (o :: rest) a w:=wpList_plain hg fun _ hK=>wpo_box t x ho cs hx (hK _ _ h)
theorem wpl_alloc {P:Program} {ops:Array Oper} {rest:List Oper} {o:Oper} {a:Act} {w:World} {Q:Exit→Act→World→Prop} (hg:o.guard = none) (t:TypeId) (ho:o.op = .alloc t) (cs:List Value) (hz:(P.info? t).bind (·.zero) = some (.agg cs.toArray))
    (h:wpList P ops Q rest (a.put o.dst (.pointer (some ⟨w.heap.size,0,none⟩))) (w.alloc (.cells cs.toArray t))):wpList P ops Q (o :: rest) a w:=wpList_plain hg fun _ hK=>wpo_alloc t ho cs hz (hK _ _ h)
theorem wpl_store_new {P:Program} {ops:Array Oper} {rest:List Oper} {o:Oper} {a:Act} {w:World} {Q:Exit→Act→World→Prop} (hg:o.guard = none) (ty:TypeId) (x y:Operand) (ho:o.op = .store ty x y) (b:Nat) (z:Array Value) (cs:List Value) (t:TypeId)
    (hx:a.eval x = .pointer (some ⟨b,0,none⟩)) (hy:a.eval y = .agg cs.toArray) (hb:b = w.heap.size) (hi:(P.info? ty).map (·.size) = some cs.length) (hz:z.size = cs.length) (h1:cs.all (·.oneCell') = true)
    (h:wpList P ops Q rest (a.put o.dst undef) (w.alloc (.cells cs.toArray t))):wpList P ops Q (o :: rest) a (w.alloc (.cells z t)):=wpList_plain hg fun _ hK=>wpo_store_new ty x y ho b z cs t hx hy hb hi hz h1 (hK _ _ h)
theorem wpl_zero {P:Program} {ops:Array Oper} {rest:List Oper} {o:Oper} {a:Act} {w:World} {Q:Exit→Act→World→Prop} (hg:o.guard = none) (t:TypeId) (ho:o.op = .build t #[]) (cs:List Value) (hz:P.built t [] = some cs.toArray)
    (h:wpList P ops Q rest (a.put o.dst (.agg cs.toArray)) w):wpList P ops Q (o :: rest) a w:=wpList_plain hg fun _ hK=>wpo_zero t ho cs hz (hK _ _ h)
theorem rg_new {w:World} {cs:List Value} {t:TypeId} {b:Nat} (hb:b = w.heap.size):(w.alloc (.cells cs.toArray t)).rangeAt b 0 cs:=by
 subst hb
 exact range_whole (heap_alloc_new w _)
theorem rg_alloc {w:World} {cs:List Value} {b o:Nat} {ob:Obj} (h:w.rangeAt b o cs):(w.alloc ob).rangeAt b o cs:=fun j v hv=>by
 have h1:=h j v hv
 rw [World.cell?_alloc_lt _ _ _ (World.block_lt_of_cell? w _ h1)]
 exact h1
theorem rg_below {w w':World} {cs:List Value} {b o:Nat} (h:w.rangeAt b o cs) (hb:Below w.heap.size w w'):w'.rangeAt b o cs:=fun j v hv=>by
 have h1:=h j v hv
 rw [← h1]
 simp only [World.cell?,hb.block b (World.block_lt_of_cell? w _ h1)]
theorem rg_drew {w:World} {cs:List Value} {b o:Nat} (h:w.rangeAt b o cs):w.drew.rangeAt b o cs:=h
theorem rg_sub {w:World} {b o:Nat} {pre mid post:List Value} (h:w.rangeAt b o (pre ++ mid ++ post)):w.rangeAt b (o + pre.length) mid:=fun j v hv=>by
 have:=h (pre.length + j) v (by rw [List.append_assoc,List.getElem?_append_right (by omega),Nat.add_sub_cancel_left,List.getElem?_append_left (List.getElem?_eq_some_iff.1 hv).1]; exact hv)
 rw [Nat.add_assoc]
 exact this
theorem cfg_sub (c:Cfg) (i:Nat) (hi:i < 3):∃ pre post,cfgL c = pre ++ thrL (c.t i) ++ post∧pre.length = 7 + i * 17:=by
 rcases i with _ | _ | _ | i
 ·exact ⟨[.bool c.s0,.bool c.s1,.bool c.s2,.bool c.s3,.int .i64 c.h0,.int .i64 c.h1,.int .i64 c.h2],thrL c.t1 ++ thrL c.t2,by unfold cfgL; simp [Cfg.t],rfl⟩
 ·exact ⟨[.bool c.s0,.bool c.s1,.bool c.s2,.bool c.s3,.int .i64 c.h0,.int .i64 c.h1,.int .i64 c.h2] ++ thrL c.t0,thrL c.t2,by unfold cfgL; simp [Cfg.t],rfl⟩
 ·exact ⟨[.bool c.s0,.bool c.s1,.bool c.s2,.bool c.s3,.int .i64 c.h0,.int .i64 c.h1,.int .i64 c.h2] ++ thrL c.t0 ++ thrL c.t1,[],by unfold cfgL; simp [Cfg.t],rfl⟩
 ·omega
theorem cfg_thr {w:World} {b o:Nat} {c:Cfg} (h:w.rangeAt b o (cfgL c)) (i:Nat) (hi:i < 3):w.rangeAt b (o + (7 + i * 17)) (thrL (c.t i)):=by
 obtain ⟨pre,post,h1,h2⟩:=cfg_sub c i hi
 rw [h1] at h
 rw [← h2]
 exact rg_sub h
theorem cfg_thr0 {w:World} {b:Nat} {c:Cfg} (h:w.rangeAt b 0 (cfgL c)) (i:Nat) (hi:i < 3):w.rangeAt b (7 + i * 17) (thrL (c.t i)):=by
 have:=cfg_thr h i hi
 rwa [Nat.zero_add] at this
theorem ret_agg {xs ys:List Value} (h:xs = ys):Ending.returned (.agg xs.toArray) = .returned (.agg ys.toArray):=by rw [h]
theorem setRow_heap {w:World} {g:Nat} {old cs:Array Value} {t:TypeId} (h:w.heap[g]? = some (.cells old t (0,0))):(w.setRow g cs).heap[g]? = some (.cells cs t (0,0)):=by
 unfold World.setRow
 simp only [Array.getElem?_modify]
 rw [if_pos trivial,h]
 rfl
theorem setRow_other {w:World} {g k:Nat} {cs:Array Value} (hk:k ≠ g):(w.setRow g cs).heap[k]? = w.heap[k]?:=by
 unfold World.setRow
 simp only [Array.getElem?_modify]
 rw [if_neg (fun e=>hk e.symm)]
theorem setRow_size {w:World} {g:Nat} {cs:Array Value}:(w.setRow g cs).heap.size = w.heap.size:=by
 unfold World.setRow
 simp
theorem setRow_below {n:Nat} {w0 w:World} {g:Nat} {cs:Array Value} (hb:Below n w0 w) (hg:n ≤ g):Below n w0 (w.setRow g cs) :=
 ⟨hb.os,hb.tape,hb.output,Nat.le_trans hb.size (Nat.le_of_eq setRow_size.symm),fun k hk=>(setRow_other (by omega)).trans (hb.block k hk)⟩
theorem wpo_store_box {P:Program} {o:Oper} {a:Act} {w:World} {K:Act→World→Prop} {Q:Exit→Act→World→Prop} (ty:TypeId) (x y:Operand) (ho:o.op = .store ty x y) (b:Nat) (old:Array Value) (cs:List Value) (t:TypeId)
    (hx:a.eval x = .pointer (some ⟨b,0,none⟩)) (hy:a.eval y = .agg cs.toArray) (hb:w.heap[b]? = some (.cells old t (0,0))) (hi:(P.info? ty).map (·.size) = some cs.length) (hz:old.size = cs.length) (h1:cs.all (·.oneCell') = true)
    (h:K (a.put o.dst undef) (w.setRow b cs.toArray)):o.wp P a w K Q :=
 wp_store_row ty x y ho b cs.toArray hx hy t old hb (by simpa using hi) (by simpa using hz) (by simpa using h1) h
theorem heap_new {w:World} {ob:Obj} {n:Nat} (h:n = w.heap.size):(w.alloc ob).heap[n]? = some ob:=by
 subst h
 exact heap_alloc_new _ _
theorem bigs2 (w:World) (x y:Obj):((w.alloc x).alloc y).heap[w.heap.size]? = some x∧((w.alloc x).alloc y).heap[w.heap.size + 1]? = some y∧Below w.heap.size w ((w.alloc x).alloc y)∧((w.alloc x).alloc y).heap.size = w.heap.size + 2 :=
 ⟨(Below.heap_alloc _ _ _ (by simp)).trans (heap_new rfl),heap_new (by simp),((Below.refl _ _).alloc (Nat.le_refl _) _).alloc (by simp) _,by simp⟩
theorem bigs3 (w:World) (x y z:Obj):(((w.alloc x).alloc y).alloc z).heap[w.heap.size]? = some x∧(((w.alloc x).alloc y).alloc z).heap[w.heap.size + 1]? = some y∧(((w.alloc x).alloc y).alloc z).heap[w.heap.size + 2]? = some z∧Below w.heap.size w (((w.alloc x).alloc y).alloc z)∧(((w.alloc x).alloc y).alloc z).heap.size = w.heap.size + 3 :=
 ⟨(Below.heap_alloc _ _ _ (by simp; omega)).trans (bigs2 w x y).1,(Below.heap_alloc _ _ _ (by simp)).trans (bigs2 w x y).2.1,heap_new (by simp),(bigs2 w x y).2.2.1.alloc (by simp; omega) _,by simp⟩
theorem yieldsIf_build {P:Program} {ops:Array Oper} {S:World→Prop} {op:Oper} {a:Act} (hw:Region.wanted op (yielded ops a.tmps) = true) (t:TypeId) (parts:Array (Nat × Operand)) (ho:op.op = .build t parts) (cs:List Value) (hb:P.built t (parts.map fun (i,x)=>(i,a.eval x)).toList = some cs.toArray):YieldsIf P ops S op (.agg cs.toArray) a :=
 .inl ⟨hw,fun w _=>by
  unfold execOp
  simp only [ho,Sem.run_bind,run_build w t _ _ hb,Result.andThen_ok,Sem.run_pure]⟩
theorem wpl_store_box {P:Program} {ops:Array Oper} {rest:List Oper} {o:Oper} {a:Act} {w:World} {Q:Exit→Act→World→Prop} (hg:o.guard = none) (ty:TypeId) (x y:Operand) (ho:o.op = .store ty x y) (b:Nat) (old:Array Value) (cs:List Value) (t:TypeId)
    (hx:a.eval x = .pointer (some ⟨b,0,none⟩)) (hy:a.eval y = .agg cs.toArray) (hb:w.heap[b]? = some (.cells old t (0,0))) (hi:(P.info? ty).map (·.size) = some cs.length) (hz:old.size = cs.length) (h1:cs.all (·.oneCell') = true)
    (h:wpList P ops Q rest (a.put o.dst undef) (w.setRow b cs.toArray)):wpList P ops Q (o :: rest) a w:=wpList_plain hg fun _ hK=>wpo_store_box ty x y ho b old cs t hx hy hb hi hz h1 (hK _ _ h)
theorem setAll_cfg (pre post:List Value) (c:Cfg) (t:Thr) (k:Nat) (hk:k < 3) (hp:pre.length = 6):setAll (pre ++ cfgL c ++ post).toArray (13 + k * 17) (thrL t) = (pre ++ cfgL (c.setT t k) ++ post).toArray:=by
 match pre,hp with
 | [a,b,d,e,f,g],_ =>
  rcases k with _ | _ | _ | k
  ·simp [setAll,thrL,frmL,cfgL,Cfg.setT]
  ·simp [setAll,thrL,frmL,cfgL,Cfg.setT]
  ·simp [setAll,thrL,frmL,cfgL,Cfg.setT]
  ·omega
theorem put_laws:(∀ (ts:List Value) (ds:List Deferred) (i:Nat) (v:Value),(Act.mk ts.toArray ds).put (some i) v = ⟨(ts.set i v).toArray,ds⟩)∧(∀ (a:Act) (v:Value),a.put none v = a)∧(∀ (a:Value) (l:List Value) (v:Value),(a :: l).set 0 v = v :: l)∧(∀ (a:Value) (l:List Value) (n:Nat) (v:Value),(a :: l).set (n + 1) v = a :: l.set n v)∧(∀ (l:List Oper) (i:Nat) (h:i < l.toArray.size),l.toArray[i] = l[i]'(by simpa using h))∧(∀ (a:Oper) (l:List Oper) (h:0 < (a :: l).length),(a :: l)[0] = a)∧(∀ (a:Oper) (l:List Oper) (n:Nat) (h:n + 1 < (a :: l).length),(a :: l)[n + 1] = l[n]'(by simpa using h)) :=
 ⟨fun _ _ _ _=>by simp [Act.put],fun _ _=>rfl,fun _ _ _=>rfl,fun _ _ _ _=>rfl,fun _ _ _=>rfl,fun _ _ _=>rfl,fun _ _ _ _=>rfl⟩
theorem Tryz.sizeProgram:(Tryz.prog.info? 123).map (·.size) = some 6:=by kernel_rfl
theorem Tryz.sizeConfig:(Tryz.prog.info? 140).map (·.size) = some 58:=by kernel_rfl
theorem Tryz.sizeLine:(Tryz.prog.info? 204).map (·.size) = some 16:=by kernel_rfl
theorem Tryz.sizeThr:(Tryz.prog.info? 137).map (·.size) = some 17:=by kernel_rfl
theorem Tryz.sizeWalker:(Tryz.prog.info? 259).map (·.size) = some 82:=by kernel_rfl
theorem Tryz.zeroConfig:(Tryz.prog.info? 140).bind (·.zero) = some (.agg (cfgL zCfg).toArray):=by kernel_rfl
theorem Tryz.zeroThread:(Tryz.prog.info? 137).bind (·.zero) = some (.agg (thrL zThr).toArray):=by kernel_rfl
def zLine:PLine:=⟨0,0,0,0,0,0,⟨0,0⟩,0,0,[],false,false,false,false,false⟩
theorem Tryz.zeroLine:(Tryz.prog.info? 204).bind (·.zero) = some (.agg (lnL zLine (.slice none 0 0)).toArray):=by kernel_rfl
theorem Tryz.buildConfig:Tryz.prog.built 140 [] = some (cfgL zCfg).toArray:=by kernel_rfl
theorem Tryz.buildThread:Tryz.prog.built 137 [] = some (thrL zThr).toArray:=by kernel_rfl
theorem one_cfg (c:Cfg):(cfgL c).all (·.oneCell') = true:=rfl
theorem one_thr (t:Thr):(thrL t).all (·.oneCell') = true:=rfl
theorem Tryz.buildWalker (x0 x1 x2 x3 x4 x5:Value) (c:Cfg) (t:Thr) (h:Int):Tryz.prog.built 259 [(0,.agg ([x0,x1,x2,x3,x4,x5]:List Value).toArray),(1,.agg (cfgL c).toArray),(2,.agg (thrL t).toArray),(3,.int .i64 h)] = some ([x0,x1,x2,x3,x4,x5] ++ cfgL c ++ thrL t ++ [Value.int .i64 h]).toArray:=by kernel_rfl
end Go.Proofs.YtmfcpbhdggonfaaGreatDoor
