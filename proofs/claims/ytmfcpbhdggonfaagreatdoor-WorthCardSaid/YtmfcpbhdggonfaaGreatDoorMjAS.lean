/- Contracts of the program's package plan: what an EXPR reads. -/
import Derived.Test.YtmfcpbhdggonfaaGreatDoorMjAR
import Derived.Test.YtmfcpbhdggonfaaGreatDoorMjAP
import Derived.Test.YtmfcpbhdggonfaaGreatDoorMjAF
import Derived.Deep.DeepCutAuto
import Derived.Deep.CutBlock
namespace Go.Proofs.YtmfcpbhdggonfaaGreatDoor
open Go.RowKit RR
structure Fr1 (L:Nat) (w w':World):Prop where
 bel:Below L w w'
 blk:∀ k,k < w.heap.size→k ≠ L→w'.heap[k]? = w.heap[k]?
theorem Fr1.refl (L:Nat) (w:World):Fr1 L w w:=⟨Below.refl _ _,fun _ _ _=>rfl⟩
theorem Fr1.trans {L:Nat} {a b c:World} (h:Fr1 L a b) (k:Fr1 L b c):Fr1 L a c:=⟨h.bel.trans k.bel,fun n hn hL=>(k.blk n (Nat.lt_of_lt_of_le hn h.bel.size) hL).trans (h.blk n hn hL)⟩
theorem Fr1.alloc {L:Nat} {a b:World} (h:Fr1 L a b) (hL:L ≤ b.heap.size) (ob:Obj):Fr1 L a (b.alloc ob):=⟨h.bel.alloc hL ob,fun n hn hL=>(Below.heap_alloc b ob n (Nat.lt_of_lt_of_le hn h.bel.size)).trans (h.blk n hn hL)⟩
theorem Fr1.setCell {L:Nat} {a b:World} (h:Fr1 L a b) (i:Nat) (v:Value):Fr1 L a (b.setCell ⟨L,i,none⟩ v):=⟨h.bel.setCell (p:=⟨L,i,none⟩) (Nat.le_refl _) v,fun n hn hL=>(Below.heap_setCell b ⟨L,i,none⟩ v n hL).trans (h.blk n hn hL)⟩
theorem Fr1.drew {L:Nat} {a b:World} (h:Fr1 L a b):Fr1 L a b.drew:=⟨h.bel.drew,h.blk⟩
theorem Fr1.of_below {L:Nat} {w w':World} (h:Below w.heap.size w w') (hL:L ≤ w.heap.size):Fr1 L w w':=⟨h.mono hL,fun k hk _=>h.block k hk⟩
theorem PB.fr1 {B L:Nat} {p:Plan} {vT vP vL vN:Value} {w w':World} {cs:Array Value} (h:PB B p vT vP vL vN w) (hL:w.heap[L]? = some (.cells cs 204 (0,0))) (hv:vL.ownBlock ≠ some L) (hf:Fr1 L w w'):PB B p vT vP vL vN w':=by
 have lt:∀ {k:Nat} {c:Array Value} {T:TypeId} {f:Nat × Nat},w.heap[k]? = some (Obj.cells c T f)→k < w.heap.size:=fun hk=>(Array.getElem?_eq_some_iff.1 hk).1
 have hk:∀ (k:Nat) (c:Array Value) (e:TypeId) (f:Nat × Nat),e ≠ 204→w.heap[k]? = some (Obj.cells c e f)→w'.heap[k]? = some (Obj.cells c e f):=fun k c e f hne hh=>by
  rw [hf.blk k (lt hh) (fun e2=>?_)]
  ·exact hh
  ·rw [e2,hL] at hh
   simp at hh
   exact hne hh.2.1.symm
 refine ⟨hk B _ _ _ (by decide) h.blk,owns_keep h.th (fun k c f hh _=>hk k c _ f (by decide) hh),owns_keep h.pr (fun k c f hh _=>hk k c _ f (by decide) hh),owns_keep h.nd (fun k c f hh _=>hk k c _ f (by decide) hh),?_⟩
 obtain ⟨l,h1,h2,h3⟩:=h.ln
 refine ⟨l,h1,owns_keep h2 (fun k c f hh e=>?_),fun x hx=>owns_keep (h3 x hx) (fun k c f hh _=>hk k c _ f (by decide) hh)⟩
 rw [hf.blk k (lt hh) (fun e2=>hv (by rw [← e,e2]))]
 exact hh
theorem pnAt_eq {l:List PNd} {k:Nat} (h:k < l.length):pnAt l k = l[k]:=by unfold pnAt; rw [List.getElem?_eq_getElem h]; rfl
theorem lookG_out {ns:List PNd} {last i:Int} {f:Nat} {a:PLine} (h:¬ (0 ≤ i∧i ≤ last∧i < ns.length)):lookG ns last f i a = a:=by
 cases f with
 | zero=>rfl
 | succ f=>exact if_neg h
theorem lookG_in {ns:List PNd} {last:Int} {f k:Nat} {a:PLine} (hk:k < ns.length) (hl:(k:Int) ≤ last):lookG ns last (f + 1) k a = lookG ns last f ((k:Int) + 1) (look1 a ns[k]):=by
 rw [lookG,if_pos ⟨by omega,hl,by omega⟩,Int.toNat_natCast,pnAt_eq hk]
theorem range5 {w:World} {b o:Nat} {n:PNd} (h:w.rangeAt b o (ndP n)):w.cell? ⟨b,o,none⟩ = some (.int .i64 n.sign)∧w.cell? ⟨b,o + 1,none⟩ = some (.int .i64 n.tr.own)∧w.cell? ⟨b,o + 2,none⟩ = some (.int .i64 n.tr.num)∧w.cell? ⟨b,o + 3,none⟩ = some (.int .i64 n.left)∧w.cell? ⟨b,o + 4,none⟩ = some (.int .i64 n.right) :=
 ⟨h 0 _ rfl,h 1 _ rfl,h 2 _ rfl,h 3 _ rfl,h 4 _ rfl⟩
def LB (L:Nat) (a:PLine) (v:Value) (w:World):Prop:=w.heap[L]? = some (.cells (lnL a v).toArray 204 (0,0))
theorem LB.alloc {L:Nat} {a:PLine} {v:Value} {w:World} (h:LB L a v w) (hz:L < w.heap.size) (ob:Obj):LB L a v (w.alloc ob):=(Below.heap_alloc _ ob L hz).trans h
theorem LB.choice {L:Nat} {a:PLine} {v:Value} {w:World} (h:LB L a v w):LB L { a with choice:=true } v (w.setCell ⟨L,11,none⟩ (.bool true)):=by
 unfold LB at h ⊢
 rw [cts_set h 11 (.bool true)]; rfl
theorem LB.read {L:Nat} {a:PLine} {v:Value} {w:World} (h:LB L a v w) {m:Nat} (hm:m < 4):LB L (a.read m) v (w.setCell ⟨L,12 + m,none⟩ (.bool true)):=by
 unfold LB at h ⊢
 rw [cts_set h (12 + m) (.bool true)]
 match m,hm with
 | 0,_=>rfl
 | 1,_=>rfl
 | 2,_=>rfl
 | 3,_=>rfl
theorem LB.cells {L:Nat} {a:PLine} {v:Value} {w:World} (h:LB L a v w):w.cell? ⟨L,11,none⟩ = some (.bool a.choice)∧(∀ m,m < 4→∃ y,w.cell? ⟨L,12 + m,none⟩ = some y)∧∀ i,w.frozen? ⟨L,i,none⟩ = false:=by
 unfold LB at h
 refine ⟨by simp [World.cell?,h,lnL],fun m hm=>?_,fun i=>by simp [World.frozen?,h]⟩
 match m,hm with
 | 0,_=>exact ⟨_,by simp [World.cell?,h,lnL]; rfl⟩
 | 1,_=>exact ⟨_,by simp [World.cell?,h,lnL]; rfl⟩
 | 2,_=>exact ⟨_,by simp [World.cell?,h,lnL]; rfl⟩
 | 3,_=>exact ⟨_,by simp [World.cell?,h,lnL]; rfl⟩
set_option maxRecDepth 100000 in
set_option maxHeartbeats 4000000 in
theorem pn_look (B L:Nat) (p:Plan) (vT vP vL vN:Value) (a:PLine) (v:Value) (first last:Int) (w:World)
    (hB:PB B p vT vP vL vN w) (hL:LB L a v w) (hv:vL.ownBlock ≠ some L) (hl:p.nodes.length ≤ 10000) :
    Calls Tryz.prog 149 #[.pointer (some ⟨B,0,none⟩),.pointer (some ⟨L,0,none⟩),.agg #[.int .i64 first,.int .i64 last]] w fun e w'=>e = .returned (.tuple #[])∧LB L (lookF p.nodes a (first,last)) v w'∧Fr1 L w w':=by
 have hzL:L < w.heap.size:=(Array.getElem?_eq_some_iff.1 hL).1
 obtain ⟨aN,cN,hvN,_⟩:=flat_of_owns hB.nd
 subst hvN
 go_enter Tryz.func149,Tryz.ntmps149
 go_wp2
 go_loopw [6] (fun u wr=>∃ (i:Int) (f:Nat) (a':PLine),u = .int .i64 i∧((p.nodes.length:Int) < f + i ∨ i < 0)∧lookG p.nodes last f i a' = lookF p.nodes a (first,last)∧LB L a' v wr∧Fr1 L w wr∧wr.heap[w.heap.size]? = some (.cells #[.int .i64 first,.int .i64 last] 248 (0,0))) (fun u _=>(p.nodes.length - intOf u).toNat)
 case atStart=>exact ⟨first,p.nodes.length + 1,a,rfl,by omega,rfl,(Below.heap_alloc _ _ L hzL).trans hL,(Fr1.refl _ _).alloc (Nat.le_of_lt hzL) _,heap_alloc_new _ _⟩
 case round =>
  obtain ⟨i,f,a',rfl,hf,hn,hL',hfr,hE⟩:=hrel
  have HN:=hide hn
  have HL':=hide hL'
  have HF:=hide hfr
  have HEx:=hide hE
  have e0:wr.cell? ⟨w.heap.size,0,none⟩ = some (.int .i64 first):=by simp [World.cell?,hE]
  have e1:wr.cell? ⟨w.heap.size,1,none⟩ = some (.int .i64 last):=by simp [World.cell?,hE]
  have hzE:w.heap.size < wr.heap.size:=(Array.getElem?_eq_some_iff.1 hE).1
  have hB':=hB.fr1 hL hv hfr
  have hzB:=hB'.lt
  have hzL':L < wr.heap.size:=by omega
  obtain ⟨_,_,_,_,_,p5,_⟩:=hB'.cells
  clear hn hE
  by_cases h0:0 ≤ i
  ·by_cases h1:i ≤ last
   ·by_cases h2:i < p.nodes.length
    ·obtain ⟨k,rfl⟩:=Int.eq_ofNat_of_zero_le h0
     have hk:k < p.nodes.length:=by omega
     obtain ⟨aN',cN',q1,q2⟩:=flat_of_owns hB'.nd
     cases q1
     obtain ⟨b,o,hb,hao,hr5⟩:=q2.get (f:=ndP) (n:=5) (fun _=>rfl) (by decide) k hk
     obtain ⟨n0,n1,n2,n3,n4⟩:=range5 hr5
     subst hao
     obtain ⟨f,rfl⟩:∃ g,f = g + 1:=⟨f - 1,by omega⟩
     have HS:=hide (lookG_in (f:=f) (a:=a') hk h1)
     obtain ⟨l11,lm,lf⟩:=hL'.cells
     have lf11:=lf 11
     clear hr5 q2 hB' hL' hfr
     generalize hN:p.nodes[k] = n at *
     have HNd:=hide hN
     clear hN
     have hne:w.heap.size ≠ L:=by omega
     by_cases hs:n.sign = 2
     ·have hs':((n.sign:Int) == 2) = true:=beq_iff_eq.2 (by omega)
      by_cases ho:n.tr.own = 1
      ·have ho':((n.tr.own:Int) == 1) = true:=beq_iff_eq.2 (by omega)
       by_cases hm0:0 ≤ n.tr.num
       ·by_cases hm4:n.tr.num < 4
        ·obtain ⟨m,hm⟩:=Int.eq_ofNat_of_zero_le hm0
         have hm4':m < 4:=by omega
         obtain ⟨y,hy⟩:=lm m hm4'
         have lfm:=lf (12 + m)
         have HM:Hid (look1 a' n = ({ a' with choice:=true }:PLine).read m):=by show _ = _; unfold look1; rw [if_pos hs]; simp only; rw [if_pos ⟨ho,hm0,hm4⟩,hm]; rfl
         rw [hm] at n2 hm0 hm4
         clear lm lf hs ho hm
         have h11:¬ (11 = 12 + m):=by omega
         have h12:¬ (12 + m = 11):=by omega
         go_wp2_with fail
         go_region
         go_wp2
         go_roundw
         case rel=>exact ⟨(k:Int) + 1,f,({ a' with choice:=true }:PLine).read m,by go_num,by omega,by rw [← HN.out,HS.out,HM.out],(LB.alloc ((HL'.out.choice.read hm4')) (by first | omega | (simp; omega)) _),(((HF.out.setCell 11 (.bool true)).setCell (12 + m) (.bool true)).alloc (by first | omega | (simp; omega)) _).drew,((Below.heap_alloc _ _ w.heap.size (by first | omega | (simp; omega))).trans ((Below.heap_setCell _ ⟨L,12 + m,none⟩ _ w.heap.size hne).trans ((Below.heap_setCell _ ⟨L,11,none⟩ _ w.heap.size hne).trans HEx.out)))⟩
         case measure=>simp [intOf]; omega
        ·have hm5:4 ≤ n.tr.num:=by omega
         have HM:Hid (look1 a' n = ({ a' with choice:=true }:PLine)):=by show _ = _; unfold look1; rw [if_pos hs]; simp only; rw [if_neg (fun h=>hm4 h.2.2)]
         clear lm lf hs ho hm4
         go_wp2
         go_roundw
         case rel=>exact ⟨(k:Int) + 1,f,({ a' with choice:=true }:PLine),by go_num,by omega,by rw [← HN.out,HS.out,HM.out],(LB.alloc (HL'.out.choice) (by first | omega | (simp; omega)) _),((HF.out.setCell 11 (.bool true)).alloc (by first | omega | (simp; omega)) _),((Below.heap_alloc _ _ w.heap.size (by first | omega | (simp; omega))).trans ((Below.heap_setCell _ ⟨L,11,none⟩ _ w.heap.size hne).trans HEx.out))⟩
         case measure=>simp [intOf]; omega
       ·have hm5:n.tr.num < 0:=by omega
        have HM:Hid (look1 a' n = ({ a' with choice:=true }:PLine)):=by show _ = _; unfold look1; rw [if_pos hs]; simp only; rw [if_neg (fun h=>hm0 h.2.1)]
        clear lm lf hs ho hm0
        go_wp2
        go_roundw
        case rel=>exact ⟨(k:Int) + 1,f,({ a' with choice:=true }:PLine),by go_num,by omega,by rw [← HN.out,HS.out,HM.out],(LB.alloc (HL'.out.choice) (by first | omega | (simp; omega)) _),((HF.out.setCell 11 (.bool true)).alloc (by first | omega | (simp; omega)) _),((Below.heap_alloc _ _ w.heap.size (by first | omega | (simp; omega))).trans ((Below.heap_setCell _ ⟨L,11,none⟩ _ w.heap.size hne).trans HEx.out))⟩
        case measure=>simp [intOf]; omega
      ·have ho':((n.tr.own:Int) == 1) = false:=beq_eq_false_iff_ne.2 (by omega)
       have HM:Hid (look1 a' n = ({ a' with choice:=true }:PLine)):=by show _ = _; unfold look1; rw [if_pos hs]; simp only; rw [if_neg (fun h=>ho h.1)]
       clear lm lf hs ho
       go_wp2
       go_roundw
       case rel=>exact ⟨(k:Int) + 1,f,({ a' with choice:=true }:PLine),by go_num,by omega,by rw [← HN.out,HS.out,HM.out],(LB.alloc (HL'.out.choice) (by first | omega | (simp; omega)) _),((HF.out.setCell 11 (.bool true)).alloc (by first | omega | (simp; omega)) _),((Below.heap_alloc _ _ w.heap.size (by first | omega | (simp; omega))).trans ((Below.heap_setCell _ ⟨L,11,none⟩ _ w.heap.size hne).trans HEx.out))⟩
       case measure=>simp [intOf]; omega
     ·have hs':((n.sign:Int) == 2) = false:=beq_eq_false_iff_ne.2 (by omega)
      by_cases ho:n.tr.own = 1
      ·have ho':((n.tr.own:Int) == 1) = true:=beq_iff_eq.2 (by omega)
       by_cases hm0:0 ≤ n.tr.num
       ·by_cases hm4:n.tr.num < 4
        ·obtain ⟨m,hm⟩:=Int.eq_ofNat_of_zero_le hm0
         have hm4':m < 4:=by omega
         obtain ⟨y,hy⟩:=lm m hm4'
         have lfm:=lf (12 + m)
         have HM:Hid (look1 a' n = a'.read m):=by show _ = _; unfold look1; rw [if_neg hs]; simp only; rw [if_pos ⟨ho,hm0,hm4⟩,hm]; rfl
         rw [hm] at n2 hm0 hm4
         clear lm lf hs ho hm
         have h11:¬ (11 = 12 + m):=by omega
         have h12:¬ (12 + m = 11):=by omega
         go_wp2_with fail
         go_region
         go_wp2
         go_roundw
         case rel=>exact ⟨(k:Int) + 1,f,a'.read m,by go_num,by omega,by rw [← HN.out,HS.out,HM.out],(LB.alloc ((HL'.out.read hm4')) (by first | omega | (simp; omega)) _),((HF.out.setCell (12 + m) (.bool true)).alloc (by first | omega | (simp; omega)) _).drew,((Below.heap_alloc _ _ w.heap.size (by first | omega | (simp; omega))).trans ((Below.heap_setCell _ ⟨L,12 + m,none⟩ _ w.heap.size hne).trans HEx.out))⟩
         case measure=>simp [intOf]; omega
        ·have hm5:4 ≤ n.tr.num:=by omega
         have HM:Hid (look1 a' n = a'):=by show _ = _; unfold look1; rw [if_neg hs]; simp only; rw [if_neg (fun h=>hm4 h.2.2)]
         clear lm lf hs ho hm4
         go_wp2
         go_roundw
         case rel=>exact ⟨(k:Int) + 1,f,a',by go_num,by omega,by rw [← HN.out,HS.out,HM.out],(LB.alloc (HL'.out) (by first | omega | (simp; omega)) _),(HF.out.alloc (by first | omega | (simp; omega)) _),((Below.heap_alloc _ _ w.heap.size (by first | omega | (simp; omega))).trans HEx.out)⟩
         case measure=>simp [intOf]; omega
       ·have hm5:n.tr.num < 0:=by omega
        have HM:Hid (look1 a' n = a'):=by show _ = _; unfold look1; rw [if_neg hs]; simp only; rw [if_neg (fun h=>hm0 h.2.1)]
        clear lm lf hs ho hm0
        go_wp2
        go_roundw
        case rel=>exact ⟨(k:Int) + 1,f,a',by go_num,by omega,by rw [← HN.out,HS.out,HM.out],(LB.alloc (HL'.out) (by first | omega | (simp; omega)) _),(HF.out.alloc (by first | omega | (simp; omega)) _),((Below.heap_alloc _ _ w.heap.size (by first | omega | (simp; omega))).trans HEx.out)⟩
        case measure=>simp [intOf]; omega
      ·have ho':((n.tr.own:Int) == 1) = false:=beq_eq_false_iff_ne.2 (by omega)
       have HM:Hid (look1 a' n = a'):=by show _ = _; unfold look1; rw [if_neg hs]; simp only; rw [if_neg (fun h=>ho h.1)]
       clear lm lf hs ho
       go_wp2
       go_roundw
       case rel=>exact ⟨(k:Int) + 1,f,a',by go_num,by omega,by rw [← HN.out,HS.out,HM.out],(LB.alloc (HL'.out) (by first | omega | (simp; omega)) _),(HF.out.alloc (by first | omega | (simp; omega)) _),((Below.heap_alloc _ _ w.heap.size (by first | omega | (simp; omega))).trans HEx.out)⟩
       case measure=>simp [intOf]; omega
    ·have h3:(p.nodes.length:Int) ≤ i:=by omega
     have HE:Hid (a' = lookF p.nodes a (first,last)):=(lookG_out (f:=f) (by omega)).symm.trans HN.out
     clear hL'
     go_wp2
     go_end0
     exact ⟨rfl,by rw [← HE.out]; exact HL'.out,HF.out⟩
   ·have h3:last < i:=by omega
    have HE:Hid (a' = lookF p.nodes a (first,last)):=(lookG_out (f:=f) (by omega)).symm.trans HN.out
    clear hL'
    go_wp2
    go_end0
    exact ⟨rfl,by rw [← HE.out]; exact HL'.out,HF.out⟩
  ·have h3:i < 0:=by omega
   have HE:Hid (a' = lookF p.nodes a (first,last)):=(lookG_out (f:=f) (by omega)).symm.trans HN.out
   clear hL'
   go_wp2
   go_end0
   exact ⟨rfl,by rw [← HE.out]; exact HL'.out,HF.out⟩
end Go.Proofs.YtmfcpbhdggonfaaGreatDoor
namespace Go.Proofs.YtmfcpbhdggonfaaGreatDoor
open Go.RowKit RR
def TX (b:Nat) (pre post:List Value) (T:TypeId) (mid:List Value) (w:World):Prop:=w.heap[b]? = some (.cells (pre ++ mid ++ post).toArray T (0,0))
def TB (b:Nat) (pre post:List Value) (T:TypeId) (t:Thr) (w:World):Prop:=TX b pre post T (thrL t) w
theorem set_mid (pre mid post:List Value) (j:Nat) (v:Value) (hj:j < mid.length):(pre ++ mid ++ post).toArray.setIfInBounds (pre.length + j) v = (pre ++ mid.set j v ++ post).toArray:=by
 apply Array.ext_getElem?
 intro k
 rw [Array.getElem?_setIfInBounds]
 simp only [List.getElem?_toArray,List.size_toArray,List.length_append]
 by_cases h:pre.length + j = k
 ·subst h
  rw [if_pos rfl,if_pos (by omega),List.append_assoc,List.getElem?_append_right (by omega),List.getElem?_append_left (by simp; omega),Nat.add_sub_cancel_left,List.getElem?_set_self hj]
 ·rw [if_neg h,List.append_assoc,List.append_assoc]
  by_cases h1:k < pre.length
  ·rw [List.getElem?_append_left h1,List.getElem?_append_left h1]
  ·rw [List.getElem?_append_right (l₁:=pre) (by omega),List.getElem?_append_right (l₁:=pre) (by omega)]
   by_cases h2:k - pre.length < mid.length
   ·rw [List.getElem?_append_left h2,List.getElem?_append_left (by simpa using h2),List.getElem?_set_ne (by omega)]
   ·rw [List.getElem?_append_right (l₁:=mid) (by omega),List.getElem?_append_right (l₁:=mid.set j v) (by simp; omega),List.length_set]
theorem TX.cell {b:Nat} {pre post mid:List Value} {T:TypeId} {w:World} (h:TX b pre post T mid w) (j:Nat) (hj:j < mid.length):w.cell? ⟨b,pre.length + j,none⟩ = mid[j]?:=by
 rw [cell_of_row w b (pre.length + j) _ T (0,0) h]
 simp only [List.getElem?_toArray]
 rw [List.append_assoc,List.getElem?_append_right (by omega),List.getElem?_append_left (by rw [Nat.add_sub_cancel_left]; exact hj),Nat.add_sub_cancel_left]
theorem TX.set {b:Nat} {pre post mid:List Value} {T:TypeId} {w:World} (h:TX b pre post T mid w) (j:Nat) (v:Value) (hj:j < mid.length):TX b pre post T (mid.set j v) (w.setCell ⟨b,pre.length + j,none⟩ v):=by
 unfold TX at h ⊢
 rw [setOne_heap h (pre.length + j) v,set_mid pre mid post j v hj]
theorem TX.lt {b:Nat} {pre post mid:List Value} {T:TypeId} {w:World} (h:TX b pre post T mid w):b < w.heap.size:=(Array.getElem?_eq_some_iff.1 h).1
theorem TX.fz {b:Nat} {pre post mid:List Value} {T:TypeId} {w:World} (h:TX b pre post T mid w) (i:Nat):w.frozen? ⟨b,i,none⟩ = false:=by
 unfold TX at h
 simp [World.frozen?,h]
theorem TX.alloc {b:Nat} {pre post mid:List Value} {T:TypeId} {w:World} (h:TX b pre post T mid w) (ob:Obj):TX b pre post T mid (w.alloc ob):=(Below.heap_alloc _ ob b h.lt).trans h
theorem TX.drew {b:Nat} {pre post mid:List Value} {T:TypeId} {w:World} (h:TX b pre post T mid w):TX b pre post T mid w.drew:=h
theorem TX.tb {b:Nat} {pre post mid:List Value} {T:TypeId} {w:World} (h:TX b pre post T mid w) {t:Thr} (e:mid = thrL t):TB b pre post T t w:=by unfold TB; rw [← e]; exact h
theorem TB.cells {b o:Nat} {pre post:List Value} {T:TypeId} {t:Thr} {w:World} (h0:TB b pre post T t w) (ho:o = pre.length):w.cell? ⟨b,o,none⟩ = some (.int .i64 t.count)∧(w.cell? ⟨b,o + 1,none⟩ = some (.int .i64 t.f0.line)∧w.cell? ⟨b,o + 2,none⟩ = some (.bool t.f0.p0)∧w.cell? ⟨b,o + 3,none⟩ = some (.bool t.f0.p1)∧w.cell? ⟨b,o + 4,none⟩ = some (.bool t.f0.p2))∧(w.cell? ⟨b,o + 5,none⟩ = some (.int .i64 t.f1.line)∧w.cell? ⟨b,o + 6,none⟩ = some (.bool t.f1.p0)∧w.cell? ⟨b,o + 7,none⟩ = some (.bool t.f1.p1)∧w.cell? ⟨b,o + 8,none⟩ = some (.bool t.f1.p2))∧(w.cell? ⟨b,o + 9,none⟩ = some (.int .i64 t.f2.line)∧w.cell? ⟨b,o + 10,none⟩ = some (.bool t.f2.p0)∧w.cell? ⟨b,o + 11,none⟩ = some (.bool t.f2.p1)∧w.cell? ⟨b,o + 12,none⟩ = some (.bool t.f2.p2))∧(w.cell? ⟨b,o + 13,none⟩ = some (.int .i64 t.f3.line)∧w.cell? ⟨b,o + 14,none⟩ = some (.bool t.f3.p0)∧w.cell? ⟨b,o + 15,none⟩ = some (.bool t.f3.p1)∧w.cell? ⟨b,o + 16,none⟩ = some (.bool t.f3.p2)):=by
 subst ho
 have h:TX b pre post T (thrL t) w:=h0
 exact ⟨h.cell 0 (show 0 < 17 by decide),⟨h.cell 1 (show 1 < 17 by decide),h.cell 2 (show 2 < 17 by decide),h.cell 3 (show 3 < 17 by decide),h.cell 4 (show 4 < 17 by decide)⟩,⟨h.cell 5 (show 5 < 17 by decide),h.cell 6 (show 6 < 17 by decide),h.cell 7 (show 7 < 17 by decide),h.cell 8 (show 8 < 17 by decide)⟩,⟨h.cell 9 (show 9 < 17 by decide),h.cell 10 (show 10 < 17 by decide),h.cell 11 (show 11 < 17 by decide),h.cell 12 (show 12 < 17 by decide)⟩,⟨h.cell 13 (show 13 < 17 by decide),h.cell 14 (show 14 < 17 by decide),h.cell 15 (show 15 < 17 by decide),h.cell 16 (show 16 < 17 by decide)⟩⟩
theorem TB.lt {b:Nat} {pre post:List Value} {T:TypeId} {t:Thr} {w:World} (h:TB b pre post T t w):b < w.heap.size:=TX.lt h
def PuP (b:Nat) (pre post:List Value) (T:TypeId) (t:Thr) (r:Option Thr) (w:World) (e:Ending) (w':World):Prop:=e = .returned (.bool r.isSome)∧TB b pre post T (r.getD t) w'∧Fr1 b w w'
def ThP (b:Nat) (pre post:List Value) (T:TypeId) (t:Thr) (w:World) (e:Ending) (w':World):Prop:=e = .returned (.tuple #[])∧TB b pre post T t w'∧Fr1 b w w'
set_option maxRecDepth 100000 in
set_option maxHeartbeats 4000000 in
theorem py_push (b o:Nat) (pre post:List Value) (T:TypeId) (t:Thr) (f:Frm) (w:World) (ho:o = pre.length) (h:TB b pre post T t w) :
    Calls Tryz.prog 142 #[.pointer (some ⟨b,o,none⟩),frmA f] w fun e w'=>PuP b pre post T t (pushF t f) w e w':=by
 have hz:=h.lt
 have HT:Hid (TX b pre post T (thrL t) w):=h
 have HO:=hide ho
 have hLen:∀ t:Thr,(thrL t).length = 17:=fun _=>rfl
 obtain ⟨c,⟨a1,a2,a3,a4⟩,⟨b1,b2,b3,b4⟩,⟨d1,d2,d3,d4⟩,⟨e1,e2,e3,e4⟩⟩:=h.cells ho
 have hfz:=TX.fz h
 unfold frmA
 by_cases hc:0 ≤ t.count∧t.count < 4
 ·have h4:t.count = 0 ∨ t.count = 1 ∨ t.count = 2 ∨ t.count = 3:=by omega
  rcases h4 with h0 | h0 | h0 | h0
  ·have HE:Hid (pushF t f = some { t with f0:=f,count:=1 }):=by show _ = _; unfold pushF; rw [if_pos hc,h0]; rfl
   have fz0:=hfz o
   have fz1:=hfz (o + 1)
   have fz2:=hfz (o + 2)
   have fz3:=hfz (o + 3)
   have fz4:=hfz (o + 4)
   rw [h0] at c
   clear hc h hfz ho b1 b2 b3 b4 d1 d2 d3 d4 e1 e2 e3 e4
   go_enter Tryz.func142,Tryz.ntmps142
   go_wp2_with fail
   go_region
   go_wp2_with fail
   go_ret
   have ho:=HO.out
   subst ho
   exact ⟨by rw [HE.out]; rfl,by rw [HE.out]; exact TX.tb ((((((HT.out.set 1 (.int .i64 f.line) (by simp [hLen])).set 2 (.bool f.p0) (by simp [hLen])).set 3 (.bool f.p1) (by simp [hLen])).set 4 (.bool f.p2) (by simp [hLen])).set 0 (.int .i64 1) (by simp [hLen])).alloc _).drew (by rw [show thrL t = thrL { t with count:=0 } by rw [← h0]]; rfl),(((((((Fr1.refl b w).setCell (pre.length + 1) (.int .i64 f.line)).setCell (pre.length + 2) (.bool f.p0)).setCell (pre.length + 3) (.bool f.p1)).setCell (pre.length + 4) (.bool f.p2)).setCell (pre.length + 0) (.int .i64 1)).alloc (by simp; omega) _).drew⟩
  ·have HE:Hid (pushF t f = some { t with f1:=f,count:=2 }):=by show _ = _; unfold pushF; rw [if_pos hc,h0]; rfl
   have fz0:=hfz o
   have fz1:=hfz (o + 5)
   have fz2:=hfz (o + 6)
   have fz3:=hfz (o + 7)
   have fz4:=hfz (o + 8)
   rw [h0] at c
   clear hc h hfz ho a1 a2 a3 a4 d1 d2 d3 d4 e1 e2 e3 e4
   go_enter Tryz.func142,Tryz.ntmps142
   go_wp2_with fail
   go_region
   go_wp2_with fail
   go_ret
   have ho:=HO.out
   subst ho
   exact ⟨by rw [HE.out]; rfl,by rw [HE.out]; exact TX.tb ((((((HT.out.set 5 (.int .i64 f.line) (by simp [hLen])).set 6 (.bool f.p0) (by simp [hLen])).set 7 (.bool f.p1) (by simp [hLen])).set 8 (.bool f.p2) (by simp [hLen])).set 0 (.int .i64 2) (by simp [hLen])).alloc _).drew (by rw [show thrL t = thrL { t with count:=1 } by rw [← h0]]; rfl),(((((((Fr1.refl b w).setCell (pre.length + 5) (.int .i64 f.line)).setCell (pre.length + 6) (.bool f.p0)).setCell (pre.length + 7) (.bool f.p1)).setCell (pre.length + 8) (.bool f.p2)).setCell (pre.length + 0) (.int .i64 2)).alloc (by simp; omega) _).drew⟩
  ·have HE:Hid (pushF t f = some { t with f2:=f,count:=3 }):=by show _ = _; unfold pushF; rw [if_pos hc,h0]; rfl
   have fz0:=hfz o
   have fz1:=hfz (o + 9)
   have fz2:=hfz (o + 10)
   have fz3:=hfz (o + 11)
   have fz4:=hfz (o + 12)
   rw [h0] at c
   clear hc h hfz ho a1 a2 a3 a4 b1 b2 b3 b4 e1 e2 e3 e4
   go_enter Tryz.func142,Tryz.ntmps142
   go_wp2_with fail
   go_region
   go_wp2_with fail
   go_ret
   have ho:=HO.out
   subst ho
   exact ⟨by rw [HE.out]; rfl,by rw [HE.out]; exact TX.tb ((((((HT.out.set 9 (.int .i64 f.line) (by simp [hLen])).set 10 (.bool f.p0) (by simp [hLen])).set 11 (.bool f.p1) (by simp [hLen])).set 12 (.bool f.p2) (by simp [hLen])).set 0 (.int .i64 3) (by simp [hLen])).alloc _).drew (by rw [show thrL t = thrL { t with count:=2 } by rw [← h0]]; rfl),(((((((Fr1.refl b w).setCell (pre.length + 9) (.int .i64 f.line)).setCell (pre.length + 10) (.bool f.p0)).setCell (pre.length + 11) (.bool f.p1)).setCell (pre.length + 12) (.bool f.p2)).setCell (pre.length + 0) (.int .i64 3)).alloc (by simp; omega) _).drew⟩
  ·have HE:Hid (pushF t f = some { t with f3:=f,count:=4 }):=by show _ = _; unfold pushF; rw [if_pos hc,h0]; rfl
   have fz0:=hfz o
   have fz1:=hfz (o + 13)
   have fz2:=hfz (o + 14)
   have fz3:=hfz (o + 15)
   have fz4:=hfz (o + 16)
   rw [h0] at c
   clear hc h hfz ho a1 a2 a3 a4 b1 b2 b3 b4 d1 d2 d3 d4
   go_enter Tryz.func142,Tryz.ntmps142
   go_wp2_with fail
   go_region
   go_wp2_with fail
   go_ret
   have ho:=HO.out
   subst ho
   exact ⟨by rw [HE.out]; rfl,by rw [HE.out]; exact TX.tb ((((((HT.out.set 13 (.int .i64 f.line) (by simp [hLen])).set 14 (.bool f.p0) (by simp [hLen])).set 15 (.bool f.p1) (by simp [hLen])).set 16 (.bool f.p2) (by simp [hLen])).set 0 (.int .i64 4) (by simp [hLen])).alloc _).drew (by rw [show thrL t = thrL { t with count:=3 } by rw [← h0]]; rfl),(((((((Fr1.refl b w).setCell (pre.length + 13) (.int .i64 f.line)).setCell (pre.length + 14) (.bool f.p0)).setCell (pre.length + 15) (.bool f.p1)).setCell (pre.length + 16) (.bool f.p2)).setCell (pre.length + 0) (.int .i64 4)).alloc (by simp; omega) _).drew⟩
 ·have HE:Hid (pushF t f = none):=by show _ = _; unfold pushF; rw [if_neg hc]
  by_cases hn:t.count < 0
  ·skip
   clear hc h hfz ho a1 a2 a3 a4 b1 b2 b3 b4 d1 d2 d3 d4 e1 e2 e3 e4
   go_enter Tryz.func142,Tryz.ntmps142
   go_wp2
   go_ret
   exact ⟨by rw [HE.out]; rfl,by rw [HE.out]; exact TX.alloc HT.out _,(Fr1.refl b w).alloc (Nat.le_of_lt hz) _⟩
  ·have hp:4 ≤ t.count:=by omega
   clear hc h hfz ho a1 a2 a3 a4 b1 b2 b3 b4 d1 d2 d3 d4 e1 e2 e3 e4
   go_enter Tryz.func142,Tryz.ntmps142
   go_wp2
   go_ret
   exact ⟨by rw [HE.out]; rfl,by rw [HE.out]; exact TX.alloc HT.out _,(Fr1.refl b w).alloc (Nat.le_of_lt hz) _⟩
set_option maxRecDepth 100000 in
set_option maxHeartbeats 4000000 in
theorem py_pop (b o:Nat) (pre post:List Value) (T:TypeId) (t:Thr) (w:World) (ho:o = pre.length) (h:TB b pre post T t w) :
    Calls Tryz.prog 213 #[.pointer (some ⟨b,o,none⟩)] w fun e w'=>ThP b pre post T (popF t) w e w':=by
 have hz:=h.lt
 have HT:Hid (TX b pre post T (thrL t) w):=h
 have HO:=hide ho
 have hLen:∀ t:Thr,(thrL t).length = 17:=fun _=>rfl
 obtain ⟨c,⟨a1,a2,a3,a4⟩,⟨b1,b2,b3,b4⟩,⟨d1,d2,d3,d4⟩,⟨e1,e2,e3,e4⟩⟩:=h.cells ho
 have hfz:=TX.fz h
 by_cases hc:1 ≤ t.count∧t.count ≤ 4
 ·have h4:t.count = 1 ∨ t.count = 2 ∨ t.count = 3 ∨ t.count = 4:=by omega
  rcases h4 with h0 | h0 | h0 | h0
  ·have HE:Hid (popF t = { t with f0:=zFrm,count:=0 }):=by show _ = _; unfold popF; rw [if_pos hc,h0]; rfl
   have fz0:=hfz o
   have fz1:=hfz (o + 1)
   have fz2:=hfz (o + 2)
   have fz3:=hfz (o + 3)
   have fz4:=hfz (o + 4)
   rw [h0] at c
   clear hc h hfz ho b1 b2 b3 b4 d1 d2 d3 d4 e1 e2 e3 e4
   go_enter Tryz.func213,Tryz.ntmps213
   go_wp2_with fail
   go_region
   go_wp2_with fail
   go_end0
   have ho:=HO.out
   subst ho
   exact ⟨rfl,by rw [HE.out]; exact TX.tb (((((HT.out.set 0 (.int .i64 0) (by simp [hLen])).set 1 (.int .i64 0) (by simp [hLen])).set 2 (.bool false) (by simp [hLen])).set 3 (.bool false) (by simp [hLen])).set 4 (.bool false) (by simp [hLen])).drew rfl,((((((Fr1.refl b w).setCell (pre.length + 0) (.int .i64 0)).setCell (pre.length + 1) (.int .i64 0)).setCell (pre.length + 2) (.bool false)).setCell (pre.length + 3) (.bool false)).setCell (pre.length + 4) (.bool false)).drew⟩
  ·have HE:Hid (popF t = { t with f1:=zFrm,count:=1 }):=by show _ = _; unfold popF; rw [if_pos hc,h0]; rfl
   have fz0:=hfz o
   have fz1:=hfz (o + 5)
   have fz2:=hfz (o + 6)
   have fz3:=hfz (o + 7)
   have fz4:=hfz (o + 8)
   rw [h0] at c
   clear hc h hfz ho a1 a2 a3 a4 d1 d2 d3 d4 e1 e2 e3 e4
   go_enter Tryz.func213,Tryz.ntmps213
   go_wp2_with fail
   go_region
   go_wp2_with fail
   go_end0
   have ho:=HO.out
   subst ho
   exact ⟨rfl,by rw [HE.out]; exact TX.tb (((((HT.out.set 0 (.int .i64 1) (by simp [hLen])).set 5 (.int .i64 0) (by simp [hLen])).set 6 (.bool false) (by simp [hLen])).set 7 (.bool false) (by simp [hLen])).set 8 (.bool false) (by simp [hLen])).drew rfl,((((((Fr1.refl b w).setCell (pre.length + 0) (.int .i64 1)).setCell (pre.length + 5) (.int .i64 0)).setCell (pre.length + 6) (.bool false)).setCell (pre.length + 7) (.bool false)).setCell (pre.length + 8) (.bool false)).drew⟩
  ·have HE:Hid (popF t = { t with f2:=zFrm,count:=2 }):=by show _ = _; unfold popF; rw [if_pos hc,h0]; rfl
   have fz0:=hfz o
   have fz1:=hfz (o + 9)
   have fz2:=hfz (o + 10)
   have fz3:=hfz (o + 11)
   have fz4:=hfz (o + 12)
   rw [h0] at c
   clear hc h hfz ho a1 a2 a3 a4 b1 b2 b3 b4 e1 e2 e3 e4
   go_enter Tryz.func213,Tryz.ntmps213
   go_wp2_with fail
   go_region
   go_wp2_with fail
   go_end0
   have ho:=HO.out
   subst ho
   exact ⟨rfl,by rw [HE.out]; exact TX.tb (((((HT.out.set 0 (.int .i64 2) (by simp [hLen])).set 9 (.int .i64 0) (by simp [hLen])).set 10 (.bool false) (by simp [hLen])).set 11 (.bool false) (by simp [hLen])).set 12 (.bool false) (by simp [hLen])).drew rfl,((((((Fr1.refl b w).setCell (pre.length + 0) (.int .i64 2)).setCell (pre.length + 9) (.int .i64 0)).setCell (pre.length + 10) (.bool false)).setCell (pre.length + 11) (.bool false)).setCell (pre.length + 12) (.bool false)).drew⟩
  ·have HE:Hid (popF t = { t with f3:=zFrm,count:=3 }):=by show _ = _; unfold popF; rw [if_pos hc,h0]; rfl
   have fz0:=hfz o
   have fz1:=hfz (o + 13)
   have fz2:=hfz (o + 14)
   have fz3:=hfz (o + 15)
   have fz4:=hfz (o + 16)
   rw [h0] at c
   clear hc h hfz ho a1 a2 a3 a4 b1 b2 b3 b4 d1 d2 d3 d4
   go_enter Tryz.func213,Tryz.ntmps213
   go_wp2_with fail
   go_region
   go_wp2_with fail
   go_end0
   have ho:=HO.out
   subst ho
   exact ⟨rfl,by rw [HE.out]; exact TX.tb (((((HT.out.set 0 (.int .i64 3) (by simp [hLen])).set 13 (.int .i64 0) (by simp [hLen])).set 14 (.bool false) (by simp [hLen])).set 15 (.bool false) (by simp [hLen])).set 16 (.bool false) (by simp [hLen])).drew rfl,((((((Fr1.refl b w).setCell (pre.length + 0) (.int .i64 3)).setCell (pre.length + 13) (.int .i64 0)).setCell (pre.length + 14) (.bool false)).setCell (pre.length + 15) (.bool false)).setCell (pre.length + 16) (.bool false)).drew⟩
 ·have HE:Hid (popF t = t):=by show _ = _; unfold popF; rw [if_neg hc]
  by_cases hn:t.count < 1
  ·skip
   clear hc h hfz ho a1 a2 a3 a4 b1 b2 b3 b4 d1 d2 d3 d4 e1 e2 e3 e4
   go_enter Tryz.func213,Tryz.ntmps213
   go_wp2
   refine bodyPost_ret (v:=.tuple #[]) ?_ rfl ?_
   ·simp [results,Tryz.results213,go_sem]
   ·exact ⟨rfl,by rw [HE.out]; exact HT.out,Fr1.refl b w⟩
  ·have hp:4 < t.count:=by omega
   clear hc h hfz ho a1 a2 a3 a4 b1 b2 b3 b4 d1 d2 d3 d4 e1 e2 e3 e4
   go_enter Tryz.func213,Tryz.ntmps213
   go_wp2
   refine bodyPost_ret (v:=.tuple #[]) ?_ rfl ?_
   ·simp [results,Tryz.results213,go_sem]
   ·exact ⟨rfl,by rw [HE.out]; exact HT.out,Fr1.refl b w⟩
set_option maxRecDepth 100000 in
set_option maxHeartbeats 4000000 in
theorem py_setLast (b o:Nat) (pre post:List Value) (T:TypeId) (t:Thr) (f:Frm) (w:World) (ho:o = pre.length) (h:TB b pre post T t w) :
    Calls Tryz.prog 216 #[.pointer (some ⟨b,o,none⟩),frmA f] w fun e w'=>ThP b pre post T (setLastF t f) w e w':=by
 have hz:=h.lt
 have HT:Hid (TX b pre post T (thrL t) w):=h
 have HO:=hide ho
 have hLen:∀ t:Thr,(thrL t).length = 17:=fun _=>rfl
 obtain ⟨c,⟨a1,a2,a3,a4⟩,⟨b1,b2,b3,b4⟩,⟨d1,d2,d3,d4⟩,⟨e1,e2,e3,e4⟩⟩:=h.cells ho
 have hfz:=TX.fz h
 unfold frmA
 by_cases hc:1 ≤ t.count∧t.count ≤ 4
 ·have h4:t.count = 1 ∨ t.count = 2 ∨ t.count = 3 ∨ t.count = 4:=by omega
  rcases h4 with h0 | h0 | h0 | h0
  ·have HE:Hid (setLastF t f = { t with f0:=f }):=by show _ = _; unfold setLastF; rw [if_pos hc,show (t.count - 1).toNat = 0 by omega]; rfl
   have fz0:=hfz o
   have fz1:=hfz (o + 1)
   have fz2:=hfz (o + 2)
   have fz3:=hfz (o + 3)
   have fz4:=hfz (o + 4)
   rw [h0] at c
   clear hc h hfz ho b1 b2 b3 b4 d1 d2 d3 d4 e1 e2 e3 e4
   go_enter Tryz.func216,Tryz.ntmps216
   go_wp2_with fail
   go_region
   go_wp2_with fail
   go_end0
   have ho:=HO.out
   subst ho
   exact ⟨rfl,by rw [HE.out]; exact TX.tb (((((HT.out.set 1 (.int .i64 f.line) (by simp [hLen])).set 2 (.bool f.p0) (by simp [hLen])).set 3 (.bool f.p1) (by simp [hLen])).set 4 (.bool f.p2) (by simp [hLen])).alloc _).drew rfl,((((((Fr1.refl b w).setCell (pre.length + 1) (.int .i64 f.line)).setCell (pre.length + 2) (.bool f.p0)).setCell (pre.length + 3) (.bool f.p1)).setCell (pre.length + 4) (.bool f.p2)).alloc (by simp; omega) _).drew⟩
  ·have HE:Hid (setLastF t f = { t with f1:=f }):=by show _ = _; unfold setLastF; rw [if_pos hc,show (t.count - 1).toNat = 1 by omega]; rfl
   have fz0:=hfz o
   have fz1:=hfz (o + 5)
   have fz2:=hfz (o + 6)
   have fz3:=hfz (o + 7)
   have fz4:=hfz (o + 8)
   rw [h0] at c
   clear hc h hfz ho a1 a2 a3 a4 d1 d2 d3 d4 e1 e2 e3 e4
   go_enter Tryz.func216,Tryz.ntmps216
   go_wp2_with fail
   go_region
   go_wp2_with fail
   go_end0
   have ho:=HO.out
   subst ho
   exact ⟨rfl,by rw [HE.out]; exact TX.tb (((((HT.out.set 5 (.int .i64 f.line) (by simp [hLen])).set 6 (.bool f.p0) (by simp [hLen])).set 7 (.bool f.p1) (by simp [hLen])).set 8 (.bool f.p2) (by simp [hLen])).alloc _).drew rfl,((((((Fr1.refl b w).setCell (pre.length + 5) (.int .i64 f.line)).setCell (pre.length + 6) (.bool f.p0)).setCell (pre.length + 7) (.bool f.p1)).setCell (pre.length + 8) (.bool f.p2)).alloc (by simp; omega) _).drew⟩
  ·have HE:Hid (setLastF t f = { t with f2:=f }):=by show _ = _; unfold setLastF; rw [if_pos hc,show (t.count - 1).toNat = 2 by omega]; rfl
   have fz0:=hfz o
   have fz1:=hfz (o + 9)
   have fz2:=hfz (o + 10)
   have fz3:=hfz (o + 11)
   have fz4:=hfz (o + 12)
   rw [h0] at c
   clear hc h hfz ho a1 a2 a3 a4 b1 b2 b3 b4 e1 e2 e3 e4
   go_enter Tryz.func216,Tryz.ntmps216
   go_wp2_with fail
   go_region
   go_wp2_with fail
   go_end0
   have ho:=HO.out
   subst ho
   exact ⟨rfl,by rw [HE.out]; exact TX.tb (((((HT.out.set 9 (.int .i64 f.line) (by simp [hLen])).set 10 (.bool f.p0) (by simp [hLen])).set 11 (.bool f.p1) (by simp [hLen])).set 12 (.bool f.p2) (by simp [hLen])).alloc _).drew rfl,((((((Fr1.refl b w).setCell (pre.length + 9) (.int .i64 f.line)).setCell (pre.length + 10) (.bool f.p0)).setCell (pre.length + 11) (.bool f.p1)).setCell (pre.length + 12) (.bool f.p2)).alloc (by simp; omega) _).drew⟩
  ·have HE:Hid (setLastF t f = { t with f3:=f }):=by show _ = _; unfold setLastF; rw [if_pos hc,show (t.count - 1).toNat = 3 by omega]; rfl
   have fz0:=hfz o
   have fz1:=hfz (o + 13)
   have fz2:=hfz (o + 14)
   have fz3:=hfz (o + 15)
   have fz4:=hfz (o + 16)
   rw [h0] at c
   clear hc h hfz ho a1 a2 a3 a4 b1 b2 b3 b4 d1 d2 d3 d4
   go_enter Tryz.func216,Tryz.ntmps216
   go_wp2_with fail
   go_region
   go_wp2_with fail
   go_end0
   have ho:=HO.out
   subst ho
   exact ⟨rfl,by rw [HE.out]; exact TX.tb (((((HT.out.set 13 (.int .i64 f.line) (by simp [hLen])).set 14 (.bool f.p0) (by simp [hLen])).set 15 (.bool f.p1) (by simp [hLen])).set 16 (.bool f.p2) (by simp [hLen])).alloc _).drew rfl,((((((Fr1.refl b w).setCell (pre.length + 13) (.int .i64 f.line)).setCell (pre.length + 14) (.bool f.p0)).setCell (pre.length + 15) (.bool f.p1)).setCell (pre.length + 16) (.bool f.p2)).alloc (by simp; omega) _).drew⟩
 ·have HE:Hid (setLastF t f = t):=by show _ = _; unfold setLastF; rw [if_neg hc]
  by_cases hn:t.count < 1
  ·skip
   clear hc h hfz ho a1 a2 a3 a4 b1 b2 b3 b4 d1 d2 d3 d4 e1 e2 e3 e4
   go_enter Tryz.func216,Tryz.ntmps216
   go_wp2
   refine bodyPost_ret (v:=.tuple #[]) ?_ rfl ?_
   ·simp [results,Tryz.results216,go_sem]
   ·exact ⟨rfl,by rw [HE.out]; exact TX.alloc HT.out _,(Fr1.refl b w).alloc (Nat.le_of_lt hz) _⟩
  ·have hp:4 < t.count:=by omega
   clear hc h hfz ho a1 a2 a3 a4 b1 b2 b3 b4 d1 d2 d3 d4 e1 e2 e3 e4
   go_enter Tryz.func216,Tryz.ntmps216
   go_wp2
   refine bodyPost_ret (v:=.tuple #[]) ?_ rfl ?_
   ·simp [results,Tryz.results216,go_sem]
   ·exact ⟨rfl,by rw [HE.out]; exact TX.alloc HT.out _,(Fr1.refl b w).alloc (Nat.le_of_lt hz) _⟩
end Go.Proofs.YtmfcpbhdggonfaaGreatDoor
namespace Go.Proofs.YtmfcpbhdggonfaaGreatDoor
open Go.RowKit RR
structure PV where
 aT:Option Addr
 cT:Nat
 aP:Option Addr
 cP:Nat
 aL:Option Addr
 cL:Nat
 aN:Option Addr
 cN:Nat
def plV (p:Plan) (v:PV):Value:=.agg #[.int .i64 p.shared,.int .i64 p.locks,.slice v.aT p.threads.length v.cT,.slice v.aP p.procs.length v.cP,.slice v.aL p.lines.length v.cL,.slice v.aN p.nodes.length v.cN]
structure PIn (w:World) (p:Plan) (v:PV):Prop where
 at_:PlanAt w p v.aT v.aP v.aL v.aN
 bS:p.shared ≤ 1000
 bK:p.locks ≤ 1000
 bT:p.threads.length ≤ 1000
 bP:p.procs.length ≤ 1000
 bL:p.lines.length ≤ 10000
 bN:p.nodes.length ≤ 10000
 bV:∀ a ∈ p.lines,a.vals.length ≤ 10000
theorem PIn.below {w w':World} {p:Plan} {v:PV} (h:PIn w p v) (hb:Below w.heap.size w w'):PIn w' p v:=⟨h.at_.below hb,h.bS,h.bK,h.bT,h.bP,h.bL,h.bN,h.bV⟩
theorem PIn.vals {w:World} {p:Plan} {v:PV} (h:PIn w p v) (n:Int):(lineAt p n).vals.length ≤ 10000:=by
 unfold lineAt
 split
 ·cases hq:p.lines[n.toNat]? with
  | none=>simp [endLine]
  | some a=>exact h.bV a (List.mem_of_getElem? hq)
 ·simp [endLine]
def lnA (a:PLine) (sa:Option Addr) (sc:Nat):Value:=.agg #[.int .i64 a.kind,.int .i64 a.at_,.int .i64 a.params,.int .i64 a.next,.int .i64 a.thn,.int .i64 a.els,.int .i64 a.target.own,.int .i64 a.target.num,.int .i64 a.lock,.int .i64 a.proc,.slice sa a.vals.length sc,.bool a.choice,.bool a.r0,.bool a.r1,.bool a.r2,.bool a.r3]
def LnP (a:PLine) (w:World) (e:Ending) (w':World):Prop:=∃ sa sc,e = .returned (lnA a sa sc)∧Flat w' sa (a.vals.flatMap exC)∧Below w.heap.size w w'
theorem LnSl.get {w:World} {ao:Option Addr} {l:List PLine} (h:LnSl w ao l) (k:Nat) (hk:k < l.length):∃ b o sa sc,b < w.heap.size∧ao = some ⟨b,o,none⟩∧Flat w sa (l[k].vals.flatMap exC)∧w.rangeAt b (o + k * 16) (lnL l[k] (.slice sa l[k].vals.length sc)):=by
 obtain ⟨m,h1,h2,h3⟩:=h
 subst h1
 have hk':k < m.length:=by simpa using hk
 obtain ⟨b,o,q1,q2,q3⟩:=h2.get (f:=lnP) (n:=16) (fun _=>rfl) (by decide) k hk'
 obtain ⟨sa,sc,e1,e2⟩:=h3 m[k] (List.getElem_mem _)
 refine ⟨b,o,sa,sc,q1,q2,?_,?_⟩
 ·simpa using e2
 ·have:lnP m[k] = lnL m[k].1 (.slice sa m[k].1.vals.length sc):=by unfold lnP; rw [← e1]
  rw [this] at q3
  simpa using q3
set_option maxRecDepth 100000 in
set_option maxHeartbeats 4000000 in
theorem pn_Line (p:Plan) (v:PV) (n:Int) (w:World) (hp:PIn w p v) :
    Calls Tryz.prog 152 #[plV p v,.int .i64 n] w fun e w'=>LnP (lineAt p n) w e w':=by
 have hbX:∀ x y:Obj,Below w.heap.size w ((w.alloc x).alloc y):=fun x y=>((Below.refl _ _).alloc (Nat.le_refl _) _).alloc (by simp) _
 have bL:=hp.bL
 unfold plV
 by_cases h:0 ≤ n∧n < p.lines.length
 ·obtain ⟨k,rfl⟩:=Int.eq_ofNat_of_zero_le h.1
  have hlt:k < p.lines.length:=by omega
  obtain ⟨b,o,sa,sc,hb,hao,hfl,hr⟩:=hp.at_.2.2.1.get k hlt
  have HE:Hid (lineAt p (k:Int) = p.lines[k]):=by show _ = _; unfold lineAt; rw [if_pos h,Int.toNat_natCast,List.getElem?_eq_getElem hlt]; rfl
  generalize hN:p.lines[k] = a at *
  have HF:=hide hfl
  clear hN h hfl hp
  rw [hao]
  go_enter Tryz.func152,Tryz.ntmps152
  go_wp2_with (first | (refine wpList_load_mid rfl 204 _ rfl _ _ rfl (lnL a (.slice sa a.vals.length sc)) _ (by (repeat (first | assumption | refine rg_alloc ?_))) Tryz.underlying204 rfl Tryz.sizeLine ?_) | (refine wpl_store_new rfl 204 _ _ rfl _ _ (lnL a (.slice sa a.vals.length sc)) _ rfl rfl (by simp) Tryz.sizeLine rfl rfl ?_))
  refine bodyPost_ret (v:=lnA a sa sc) ?_ rfl ⟨sa,sc,by rw [HE.out],by rw [HE.out]; exact HF.out.below (hbX _ _),hbX _ _⟩
  refine res_cell (cs:=lnL a (.slice sa a.vals.length sc)) Tryz.results152 rfl (rg_new ?_) Tryz.underlying204 rfl Tryz.sizeLine
  simp
 ·have HE:Hid (lineAt p n = endLine):=by show _ = _; unfold lineAt; rw [if_neg h]
  clear hp
  by_cases h0:n < 0
  ·clear h
   go_enter Tryz.func152,Tryz.ntmps152
   go_wp2_with (first | (refine wpl_alloc rfl 204 rfl (lnL zLine (.slice none 0 0)) Tryz.zeroLine ?_) | (refine wpl_store_new rfl 204 _ _ rfl _ _ (lnL endLine (.slice none 0 0)) _ rfl rfl (by simp) Tryz.sizeLine rfl rfl ?_))
   refine bodyPost_ret (v:=lnA endLine none 0) ?_ rfl ⟨none,0,by rw [HE.out],.inl (by rw [HE.out]; rfl),hbX _ _⟩
   refine res_cell (cs:=lnL endLine (.slice none 0 0)) Tryz.results152 rfl (rg_new ?_) Tryz.underlying204 rfl Tryz.sizeLine
   simp
  ·have h1:(p.lines.length:Int) ≤ n:=by omega
   clear h
   go_enter Tryz.func152,Tryz.ntmps152
   go_wp2_with (first | (refine wpl_alloc rfl 204 rfl (lnL zLine (.slice none 0 0)) Tryz.zeroLine ?_) | (refine wpl_store_new rfl 204 _ _ rfl _ _ (lnL endLine (.slice none 0 0)) _ rfl rfl (by simp) Tryz.sizeLine rfl rfl ?_))
   refine bodyPost_ret (v:=lnA endLine none 0) ?_ rfl ⟨none,0,by rw [HE.out],.inl (by rw [HE.out]; rfl),hbX _ _⟩
   refine res_cell (cs:=lnL endLine (.slice none 0 0)) Tryz.results152 rfl (rg_new ?_) Tryz.underlying204 rfl Tryz.sizeLine
   simp
set_option maxRecDepth 100000 in
set_option maxHeartbeats 4000000 in
theorem pn_Proc (p:Plan) (v:PV) (n:Int) (w:World) (hp:PIn w p v) :
    Calls Tryz.prog 141 #[plV p v,.int .i64 n] w fun e w'=>e = .returned (.agg #[.int .i64 (procAt p n).params,.int .i64 (procAt p n).entry])∧Below w.heap.size w w':=by
 have hbX:∀ x y:Obj,Below w.heap.size w ((w.alloc x).alloc y):=fun x y=>((Below.refl _ _).alloc (Nat.le_refl _) _).alloc (by simp) _
 have bP:=hp.bP
 unfold plV
 by_cases h:0 ≤ n∧n < p.procs.length
 ·obtain ⟨k,rfl⟩:=Int.eq_ofNat_of_zero_le h.1
  have hlt:k < p.procs.length:=by omega
  obtain ⟨b,o,hb,hao,hr⟩:=hp.at_.2.1.get (f:=prP) (n:=2) (fun _=>rfl) (by decide) k hlt
  have HE:Hid (procAt p (k:Int) = p.procs[k]):=by show _ = _; unfold procAt; rw [if_pos h,Int.toNat_natCast,List.getElem?_eq_getElem hlt]; rfl
  generalize hN:p.procs[k] = a at *
  have d0:w.cell? ⟨b,o + k * 2,none⟩ = some (.int .i64 a.params):=hr 0 _ rfl
  have d1:w.cell? ⟨b,o + k * 2 + 1,none⟩ = some (.int .i64 a.entry):=hr 1 _ rfl
  clear hN h hr hp
  rw [hao]
  go_enter Tryz.func141,Tryz.ntmps141
  go_wp2
  refine bodyPost_ret (v:=.agg #[.int .i64 a.params,.int .i64 a.entry]) ?_ rfl ⟨by rw [HE.out],hbX _ _⟩
  simp [results,Tryz.results141,go_sem]
 ·have HE:Hid (procAt p n = ⟨0,0⟩):=by show _ = _; unfold procAt; rw [if_neg h]
  clear hp
  by_cases h0:n < 0
  ·clear h
   go_enter Tryz.func141,Tryz.ntmps141
   go_wp2
   refine bodyPost_ret (v:=.agg #[.int .i64 0,.int .i64 0]) ?_ rfl ⟨by rw [HE.out],hbX _ _⟩
   simp [results,Tryz.results141,go_sem]
  ·have h1:(p.procs.length:Int) ≤ n:=by omega
   clear h
   go_enter Tryz.func141,Tryz.ntmps141
   go_wp2
   refine bodyPost_ret (v:=.agg #[.int .i64 0,.int .i64 0]) ?_ rfl ⟨by rw [HE.out],hbX _ _⟩
   simp [results,Tryz.results141,go_sem]
end Go.Proofs.YtmfcpbhdggonfaaGreatDoor
namespace Go.Proofs.YtmfcpbhdggonfaaGreatDoor
open Go.RowKit RR
theorem TB.rng {b:Nat} {pre post:List Value} {T:TypeId} {t:Thr} {w:World} (h:TB b pre post T t w) (hl:pre.length = 64):w.rangeAt b 64 (thrL t):=fun j v hv=>by
 have h':TX b pre post T (thrL t) w:=h
 have:=h'.cell j (List.getElem?_eq_some_iff.1 hv).1
 rw [hl] at this
 rw [this,hv]
theorem Tryz.sizeThread:(Tryz.prog.info? 137).map (·.size) = some 17:=by kernel_rfl
theorem TB.below {b:Nat} {pre post:List Value} {T:TypeId} {t:Thr} {w w':World} (h:TB b pre post T t w) (hb:Below w.heap.size w w'):TB b pre post T t w':=(hb.block b h.lt).trans h
theorem TB.alloc {b:Nat} {pre post:List Value} {T:TypeId} {t:Thr} {w:World} (h:TB b pre post T t w) (ob:Obj):TB b pre post T t (w.alloc ob):=TX.alloc h ob
def goToT (t:Thr) (line:Int):Thr :=
 match frameF t 0 with
 | some f=>setLastF t { f with line:=line }
 | none=>t
theorem goToF_eq (w:Wlk) (line:Int):goToF w line = { w with f:=goToT w.f line }:=by
 unfold goToF goToT
 cases frameF w.f 0 <;> rfl
theorem keepF {B F:Nat} {W w3:World} {x0 x1 x2 x3:Value} (hF:Fr1 B W w3) (h0:W.cell? ⟨F,0,none⟩ = some x0∧W.cell? ⟨F,1,none⟩ = some x1∧W.cell? ⟨F,2,none⟩ = some x2∧W.cell? ⟨F,3,none⟩ = some x3) (hlt:F < W.heap.size) (hne:F ≠ B):w3.cell? ⟨F,0,none⟩ = some x0∧w3.cell? ⟨F,1,none⟩ = some x1∧w3.cell? ⟨F,2,none⟩ = some x2∧w3.cell? ⟨F,3,none⟩ = some x3:=by
 have e:∀ j,w3.cell? ⟨F,j,none⟩ = W.cell? ⟨F,j,none⟩:=fun j=>by simp only [World.cell?,hF.blk F hlt hne]
 exact ⟨(e 0).trans h0.1,(e 1).trans h0.2.1,(e 2).trans h0.2.2.1,(e 3).trans h0.2.2.2⟩
set_option maxRecDepth 100000 in
set_option maxHeartbeats 4000000 in
theorem py_goTo (B:Nat) (pre post:List Value) (t:Thr) (line:Int) (w:World) (hl:pre.length = 64) (h:TB B pre post 259 t w) :
    Calls Tryz.prog 196 #[.pointer (some ⟨B,0,none⟩),.int .i64 line] w fun e w'=>ThP B pre post 259 (goToT t line) w e w':=by
 have hz:=h.lt
 have HT:=hide h
 have HL:=hide hl
 have hrg:=h.rng hl
 clear h hl
 go_enter Tryz.func196,Tryz.ntmps196
 go_upto_region 0 with fail
 refine wp_region_list ?_
 iterate 16 (first | (refine wp_load_mid _ _ rfl B 64 rfl (thrL t) _ hrg Tryz.underlying137 rfl Tryz.sizeThread ?_; clear hrg) | (have hq:=hrg; clear hq; go_step) | skip)
 go_wp2_with fail
 refine (py_frame t 0 _).mono ?_
 rintro e w1 ⟨rfl,hb1⟩
 have HT1:=hide (HT.out.below hb1)
 have HF1:Hid (Fr1 B w w1):=Fr1.of_below hb1 (Nat.le_of_lt hz)
 have hz1:B < w1.heap.size:=HT1.out.lt
 clear hb1
 cases hf:frameF t 0 with
 | none =>
  have HE:Hid (goToT t line = t):=by show _ = _; unfold goToT; rw [hf]
  unfold frmV
  go_wp2
  go_end0
  exact ⟨rfl,by rw [HE.out]; exact HT1.out.alloc _,HF1.out.alloc (Nat.le_of_lt hz1) _⟩
 | some f =>
  have HE:Hid (goToT t line = setLastF t { f with line:=line }):=by show _ = _; unfold goToT; rw [hf]
  have HT2:=hide (HT1.out.alloc (.cells #[.int .i64 line,.bool f.p0,.bool f.p1,.bool f.p2] 134))
  have HF2:=hide (HF1.out.alloc (Nat.le_of_lt hz1) (.cells #[.int .i64 line,.bool f.p0,.bool f.p1,.bool f.p2] 134))
  have hne:w1.heap.size ≠ B:=by omega
  clear hf
  unfold frmV
  go_wp2_with fail
  go_region_held (fun w'=>w'.cell? ⟨w1.heap.size,0,none⟩ = some (.int .i64 line)∧w'.cell? ⟨w1.heap.size,1,none⟩ = some (.bool f.p0)∧w'.cell? ⟨w1.heap.size,2,none⟩ = some (.bool f.p1)∧w'.cell? ⟨w1.heap.size,3,none⟩ = some (.bool f.p2)) (first | exact ⟨by simp,by simp,by simp,by simp⟩ | exact keepF (by assumption) ⟨by simp,by simp,by simp,by simp⟩ (by simp) hne) (first | (go_at_call 216; refine (py_setLast B 64 pre post 259 t { f with line:=line } _ HL.out.symm ?_).mono ?_; exact HT2.out; rintro e w3 ⟨rfl,hT3,hF3⟩))
  have HF3:=hide (HF2.out.drew.trans hF3)
  have HT3:=hide hT3
  clear hT3 hF3
  go_wp2_with fail
  go_end0
  exact ⟨rfl,by rw [HE.out]; exact HT3.out,HF3.out⟩
def plL (p:Plan) (v:PV):List Value:=[.int .i64 p.shared,.int .i64 p.locks,.slice v.aT p.threads.length v.cT,.slice v.aP p.procs.length v.cP,.slice v.aL p.lines.length v.cL,.slice v.aN p.nodes.length v.cN]
def WK (B:Nat) (p:Plan) (v:PV) (k:Wlk) (w:World):Prop:=TB B (plL p v ++ cfgL k.c) [.int .i64 k.holder] 259 k.f w
theorem WK.len (p:Plan) (v:PV) (c:Cfg):(plL p v ++ cfgL c).length = 64:=rfl
theorem WK.rng {B:Nat} {p:Plan} {v:PV} {k:Wlk} {w:World} (h:WK B p v k w):w.rangeAt B 64 (thrL k.f):=TB.rng h (WK.len p v k.c)
theorem WK.cfg {B:Nat} {p:Plan} {v:PV} {k:Wlk} {w:World} (h:WK B p v k w):TX B (plL p v) (thrL k.f ++ [.int .i64 k.holder]) 259 (cfgL k.c) w:=by
 unfold WK TB TX at h
 unfold TX
 rw [← List.append_assoc]
 exact h
theorem WK.of_cfg {B:Nat} {p:Plan} {v:PV} {k:Wlk} {c:Cfg} {w:World} (h:TX B (plL p v) (thrL k.f ++ [.int .i64 k.holder]) 259 (cfgL c) w):WK B p v { k with c:=c } w:=by
 unfold WK TB TX
 unfold TX at h
 rw [← List.append_assoc] at h
 exact h
def WkP (B:Nat) (p:Plan) (v:PV) (k:Wlk) (w:World) (e:Ending) (w':World):Prop:=e = .returned (.tuple #[])∧WK B p v k w'∧Fr1 B w w'
def WbP (B:Nat) (p:Plan) (v:PV) (k:Option Wlk) (w:World) (e:Ending) (w':World):Prop:=e = .returned (.bool k.isSome)∧(∀ k',k = some k'→WK B p v k' w')∧Fr1 B w w'
theorem py_goToW (B:Nat) (p:Plan) (v:PV) (k:Wlk) (line:Int) (w:World) (h:WK B p v k w) :
    Calls Tryz.prog 196 #[.pointer (some ⟨B,0,none⟩),.int .i64 line] w fun e w'=>WkP B p v (goToF k line) w e w':=by
 refine (py_goTo B _ _ k.f line w (WK.len p v k.c) h).mono ?_
 rintro e w' ⟨h1,h2,h3⟩
 refine ⟨h1,?_,h3⟩
 rw [goToF_eq]
 exact h2
end Go.Proofs.YtmfcpbhdggonfaaGreatDoor
