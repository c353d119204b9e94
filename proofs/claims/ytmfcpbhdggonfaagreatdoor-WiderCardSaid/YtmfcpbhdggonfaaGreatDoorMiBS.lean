/- Contracts of the program's package search: all steps behind a point. -/
import Derived.Test.YtmfcpbhdggonfaaGreatDoorMiBR
import Derived.Test.YtmfcpbhdggonfaaGreatDoorMiBJ
namespace Go.Proofs.YtmfcpbhdggonfaaGreatDoor
open Go.RowKit RR
theorem seeP_len (p:Plan) (s:Sr) (x:Pt) (b:ByteArray):(seeP p s x b).seen.length = s.seen.length + 1∧(seeP p s x b).fresh.length = s.fresh.length + 1:=by
 rw [seeP_eq]; simp
theorem tryF_len (p:Plan) (most:Int) (s:Sr) (f:Sg) (i:Int) (ch:Bool):(tryF p most s f i ch).seen.length ≤ s.seen.length + 1∧(tryF p most s f i ch).fresh.length ≤ s.fresh.length + 1:=by
 by_cases h:most < tryN f i
 ·rw [try_most h]; omega
 ·cases hn:stepF p f.pt.cfg i ch with
  | none=>rw [try_none h hn]; omega
  | some c =>
   rw [try_some h hn]
   split
   ·omega
   ·have:=seeP_len p s ⟨tryN f i,i,c⟩ (f.by_ ++ letterF i ch)
    omega
theorem tryF_same (p:Plan) (most:Int) (s:Sr) (f:Sg) (i:Int) (ch:Bool):(tryF p most s f i ch).seen.length + s.fresh.length = (tryF p most s f i ch).fresh.length + s.seen.length:=by
 by_cases h:most < tryN f i
 ·rw [try_most h]; omega
 ·cases hn:stepF p f.pt.cfg i ch with
  | none=>rw [try_none h hn]; omega
  | some c =>
   rw [try_some h hn]
   split
   ·omega
   ·have:=seeP_len p s ⟨tryN f i,i,c⟩ (f.by_ ++ letterF i ch)
    omega
def OkS (m:Nat) (l:List Sg):Prop:=∀ f ∈ l,(0 ≤ f.pt.ctx∧f.pt.ctx ≤ 100)∧f.by_.size ≤ m
theorem OkS.tryF {p:Plan} {most:Int} {s:Sr} {f:Sg} {i:Int} {ch:Bool} {m:Nat} (h:OkS (m + 1) s.fresh) (hm:most ≤ 100) (hf:(0 ≤ f.pt.ctx∧f.pt.ctx ≤ 100)∧f.by_.size ≤ m):OkS (m + 1) (tryF p most s f i ch).fresh:=by
 by_cases h1:most < tryN f i
 ·rw [try_most h1]; exact h
 ·cases hn:stepF p f.pt.cfg i ch with
  | none=>rw [try_none h1 hn]; exact h
  | some c =>
   rw [try_some h1 hn]
   split
   ·exact h
   ·rw [seeP_eq]
    intro g hg
    rcases List.mem_append.1 hg with hg | hg
    ·exact h g hg
    ·rw [List.mem_singleton] at hg
     subst hg
     refine ⟨⟨?_,Int.le_trans (Int.not_lt.1 h1) hm⟩,?_⟩
     ·show 0 ≤ tryN f i
      unfold tryN; split <;> omega
     ·show (f.by_ ++ letterF i ch).size ≤ m + 1
      rw [ByteArray.size_append]
      have:=letter_size i ch
      omega
def behK (p:Plan) (most:Int) (s:Sr) (f:Sg):Nat→Sr
 | 0=>s
 | k + 1=>tryF p most (tryF p most (behK p most s f k) f k false) f k true
theorem behK_three (p:Plan) (most:Int) (s:Sr) (f:Sg):behK p most s f 3 = behindP p most s f:=rfl
theorem behK_len (p:Plan) (most:Int) (s:Sr) (f:Sg):∀ k,(behK p most s f k).seen.length ≤ s.seen.length + 2 * k∧(behK p most s f k).fresh.length ≤ s.fresh.length + 2 * k
 | 0=>by simp [behK]
 | k + 1=>by
  have h1:=behK_len p most s f k
  have h2:=tryF_len p most (behK p most s f k) f k false
  have h3:=tryF_len p most (tryF p most (behK p most s f k) f k false) f k true
  unfold behK
  omega
theorem beh_same (p:Plan) (most:Int) (s:Sr) (f:Sg):(behindP p most s f).seen.length + s.fresh.length = (behindP p most s f).fresh.length + s.seen.length:=by
 have key:∀ k,(behK p most s f k).seen.length + s.fresh.length = (behK p most s f k).fresh.length + s.seen.length:=by
  intro k
  induction k with
  | zero=>simp [behK]; omega
  | succ k ih =>
   have h2:=tryF_same p most (behK p most s f k) f k false
   have h3:=tryF_same p most (tryF p most (behK p most s f k) f k false) f k true
   unfold behK
   omega
 rw [← behK_three]; exact key 3
theorem OkS.beh {p:Plan} {most:Int} {s:Sr} {f:Sg} {m:Nat} (h:OkS (m + 1) s.fresh) (hm:most ≤ 100) (hf:(0 ≤ f.pt.ctx∧f.pt.ctx ≤ 100)∧f.by_.size ≤ m):OkS (m + 1) (behindP p most s f).fresh:=by
 have key:∀ k,OkS (m + 1) (behK p most s f k).fresh:=by
  intro k
  induction k with
  | zero=>exact h
  | succ k ih=>exact OkS.tryF (OkS.tryF ih hm hf) hm hf
 rw [← behK_three]; exact key 3
theorem OkS.round {p:Plan} {most:Int} {m:Nat} (hm:most ≤ 100):∀ (l:List Sg) (s s':Sr),OkS m l→OkS (m + 1) s.fresh→roundG p most l s = some s'→OkS (m + 1) s'.fresh
 | [],s,s',_,h,hr=>by
  have hr:some { s with rep:={ s.rep with whole:=s.fresh.isEmpty } } = some s':=hr
  cases hr
  exact h
 | f :: r,s,s',hl,h,hr=>by
  have hr:(if 600 < (behindP p most s f).seen.length then none else roundG p most r (behindP p most s f)) = some s':=hr
  split at hr
  ·cases hr
  ·exact OkS.round hm r _ s' (fun g hg=>hl g (List.mem_cons_of_mem _ hg)) (OkS.beh h hm (hl f (List.mem_cons_self ..))) hr
theorem round_len {p:Plan} {most:Int}:∀ (l:List Sg) (s s':Sr),s.fresh.length ≤ s.seen.length→s.seen.length ≤ 600→roundG p most l s = some s'→s'.fresh.length ≤ s'.seen.length∧s'.seen.length ≤ 600
 | [],s,s',h1,h2,hr=>by
  have hr:some { s with rep:={ s.rep with whole:=s.fresh.isEmpty } } = some s':=hr
  cases hr
  exact ⟨h1,h2⟩
 | f :: r,s,s',h1,_,hr=>by
  have hr:(if 600 < (behindP p most s f).seen.length then none else roundG p most r (behindP p most s f)) = some s':=hr
  split at hr
  ·cases hr
  ·exact round_len r _ s' (by have:=beh_same p most s f; omega) (by omega) hr
set_option maxRecDepth 100000 in
set_option maxHeartbeats 8000000 in
theorem se_lookBehind (base B:Nat) (p:Plan) (v:PV) (most:Int) (vS vF:Value) (s:Sr) (f:Sg) (w:World) (hBb:base ≤ B) (h:SrAt B base p v most vS vF s w) (hp:PInB base w p v) (hl:s.seen.length ≤ 4000) (hl2:s.fresh.length ≤ 4000) (hc:-1000 ≤ f.pt.ctx∧f.pt.ctx ≤ 1000) (hby:f.by_.size ≤ 1000) :
    Calls Tryz.prog 150 #[.pointer (some ⟨B,0,none⟩),.agg (sgL f).toArray] w fun e w'=>e = .returned (.tuple #[])∧SeeOut base B p v most vS vF (behindP p most s f) w w':=by
 have HP:=hide hp
 have hz:=h.lt
 have hbA:Below w.heap.size w (w.alloc (.cells (sgL f).toArray 235)):=(Below.refl _ _).alloc (Nat.le_refl _) _
 have HAT:=hide (h.below hbA)
 have HK:=hide (SeK.of_below (base:=base) (B:=B) (vS:=vS) (vF:=vF) hbA (Nat.le_trans hBb (Nat.le_of_lt hz)))
 have HF1:=hide (h.far (k:=w.heap.size) (Nat.le_refl _) (show w.heap.size < (w.alloc (.cells (sgL f).toArray 235)).heap.size by simp))
 have hX1:(w.alloc (.cells (sgL f).toArray 235)).heap[w.heap.size]? = some (.cells (sgL f).toArray 235 (0,0)):=heap_alloc_new _ _
 clear h hp hbA
 go_enter Tryz.func150,Tryz.ntmps150
 go_upto_region 1 with (first | (refine wpl_box rfl 235 _ rfl (sgL f) rfl ?_))
 generalize w.alloc (.cells (sgL f).toArray 235) = W at *
 go_wp2_with fail
 go_loopw [4] (fun u wr=>∃ (k:Nat) (vS' vF':Value),u = .int .i64 k∧k ≤ 3∧SrAt B base p v most vS' vF' (behK p most s f k) wr∧SeK base B vS vF W vS' vF' wr) (fun u _=>3 - (intOf u).toNat)
 case atStart=>exact ⟨0,vS,vF,rfl,by decide,HAT.out,SeK.of_below (Below.refl _ _) (Nat.le_trans hBb (Nat.le_of_lt HAT.out.lt))⟩
 case round =>
  obtain ⟨k,vS1,vF1,rfl,hk,hA1,hK1⟩:=hrel
  have HA1:=hide hA1
  have HK1:=hide hK1
  clear hA1 hK1
  by_cases hlt:k < 3
  ·have hlt':(k:Int) < 3:=by omega
   have hXr:=(HK1.out.same HF1.out).trans hX1
   have HFr:=hide (HK1.out.far HF1.out)
   have rgX:=range_whole hXr
   have hl1:=behK_len p most s f k
   have HPr:=hide (HP.out.below (HK.out.trans HK1.out).bel)
   go_wp2_with (first | (refine wpList_load_mid rfl 235 _ rfl w.heap.size 0 rfl (sgL f) _ rgX Tryz.underlying235 rfl Tryz.sizeSighting ?_))
   refine (se_tryStep base B p v most vS1 vF1 (behK p most s f k) f k false _ hBb HA1.out HPr.out (by omega) (by omega) hc hby).mono ?_
   rintro e w2 ⟨rfl,vS2,vF2,hA2,hK2⟩
   have HA2:=hide hA2
   have HK2:=hide (HK1.out.trans hK2)
   have hX2:=(hK2.same HFr.out).trans hXr
   have rgX2:=range_whole hX2
   have hl3:=tryF_len p most (behK p most s f k) f k false
   have HP2:=hide (HPr.out.below hK2.bel)
   clear hA2 hK2 rgX hXr
   go_wp2_with (first | (refine wpList_load_mid rfl 235 _ rfl w.heap.size 0 rfl (sgL f) _ rgX2 Tryz.underlying235 rfl Tryz.sizeSighting ?_))
   refine (se_tryStep base B p v most vS2 vF2 (tryF p most (behK p most s f k) f k false) f k true _ hBb HA2.out HP2.out (by omega) (by omega) hc hby).mono ?_
   rintro e w3 ⟨rfl,vS3,vF3,hA3,hK3⟩
   have HA3:=hide hA3
   have HK3:=hide (HK2.out.trans hK3)
   clear hA3 hK3 rgX2 hX2
   go_wp2_with fail
   go_roundw
   case rel=>exact ⟨k + 1,vS3,vF3,by go_num,by omega,HA3.out,HK3.out⟩
   case measure=>simp [intOf]; omega
  ·have hk3:k = 3:=by omega
   subst hk3
   go_wp2_with fail
   go_end0
   exact ⟨rfl,_,_,by rw [← behK_three]; exact HA1.out,HK.out.trans HK1.out⟩
end Go.Proofs.YtmfcpbhdggonfaaGreatDoor
namespace Go.Proofs.YtmfcpbhdggonfaaGreatDoor
open Go.RowKit RR
theorem frmEq_iff {a b:Frm}:frmEq a b = true ↔ a = b:=by
 cases a; cases b
 simp [frmEq,and_assoc]
theorem thrEq_iff {a b:Thr}:thrEq a b = true ↔ a = b:=by
 cases a; cases b
 simp [thrEq,frmEq_iff,and_assoc]
theorem cfgEq_iff {a b:Cfg}:cfgEq a b = true ↔ a = b:=by
 cases a; cases b
 simp [cfgEq,thrEq_iff,and_assoc]
theorem ptEq_iff {a b:Pt}:ptEq a b = true ↔ a = b:=by
 cases a; cases b
 simp [ptEq,cfgEq_iff,and_assoc]
theorem any_ptEq {l:List Pt} {x:Pt}:l.any (ptEq · x) = true ↔ x ∈ l:=by
 rw [List.any_eq_true]
 constructor
 ·rintro ⟨y,hy,he⟩
  rw [ptEq_iff] at he
  exact he ▸ hy
 ·exact fun h=>⟨x,h,ptEq_iff.2 rfl⟩
def succF (p:Plan) (most:Int) (f:Pt) (i:Int) (ch:Bool):Option Pt :=
 let n:Int:=if i ≠ f.last then f.ctx + 1 else f.ctx
 if most < n then none else (stepF p f.cfg i ch).map fun c=>⟨n,i,c⟩
theorem succ_some {p:Plan} {most:Int} {f x:Pt} {i:Int} {ch:Bool} (h:succF p most f i ch = some x):∃ c,stepF p f.cfg i ch = some c∧x = ⟨if i ≠ f.last then f.ctx + 1 else f.ctx,i,c⟩∧¬ most < (if i ≠ f.last then f.ctx + 1 else f.ctx):=by
 unfold succF at h
 simp only [] at h
 generalize (if i ≠ f.last then f.ctx + 1 else f.ctx) = n at *
 by_cases hn:most < n
 ·rw [if_pos hn] at h; cases h
 ·rw [if_neg hn] at h
  cases hs:stepF p f.cfg i ch with
  | none=>rw [hs] at h; cases h
  | some c=>rw [hs] at h; cases h; exact ⟨c,rfl,rfl,hn⟩
theorem succ_of {p:Plan} {most:Int} {f:Pt} {i:Int} {ch:Bool} {c:Cfg} (h:stepF p f.cfg i ch = some c) (hn:¬ most < (if i ≠ f.last then f.ctx + 1 else f.ctx)):succF p most f i ch = some ⟨if i ≠ f.last then f.ctx + 1 else f.ctx,i,c⟩:=by
 unfold succF
 simp only []
 rw [if_neg hn,h]
 rfl
theorem tryF_cases (p:Plan) (most:Int) (s:Sr) (f:Sg) (i:Int) (ch:Bool) :
    tryF p most s f i ch = match succF p most f.pt i ch with
     | none=>s
     | some x=>if s.seen.any (ptEq · x) then s else seeP p s x (f.by_ ++ letterF i ch):=by
 have e:succF p most f.pt i ch = if most < tryN f i then none else (stepF p f.pt.cfg i ch).map fun c=>⟨tryN f i,i,c⟩:=rfl
 by_cases h:most < tryN f i
 ·rw [try_most h,e,if_pos h]
 ·cases hn:stepF p f.pt.cfg i ch with
  | none=>rw [try_none h hn,e,if_neg h,hn]; rfl
  | some c=>rw [try_some h hn,e,if_neg h,hn]; rfl
theorem tryF_seen {p:Plan} {most:Int} {s:Sr} {f:Sg} {i:Int} {ch:Bool} {x:Pt}:x ∈ (tryF p most s f i ch).seen ↔ x ∈ s.seen ∨ succF p most f.pt i ch = some x:=by
 rw [tryF_cases]
 cases hs:succF p most f.pt i ch with
 | none=>simp
 | some y =>
  simp only []
  split
  ·rename_i h
   rw [any_ptEq] at h
   constructor
   ·exact fun hx=>.inl hx
   ·rintro (hx | hx)
    ·exact hx
    ·cases hx; exact h
  ·rw [seeP_eq]
   simp only [List.mem_append,List.mem_singleton]
   constructor
   ·rintro (hx | rfl)
    ·exact .inl hx
    ·exact .inr rfl
   ·rintro (hx | hx)
    ·exact .inl hx
    ·cases hx; exact .inr rfl
theorem tryF_fresh {p:Plan} {most:Int} {s:Sr} {f:Sg} {i:Int} {ch:Bool} {y:Sg}:y ∈ (tryF p most s f i ch).fresh ↔ y ∈ s.fresh ∨ (succF p most f.pt i ch = some y.pt∧y.pt ∉ s.seen∧y.by_ = f.by_ ++ letterF i ch):=by
 rw [tryF_cases]
 cases hs:succF p most f.pt i ch with
 | none=>simp
 | some x =>
  simp only []
  split
  ·rename_i h
   rw [any_ptEq] at h
   constructor
   ·exact fun hy=>.inl hy
   ·rintro (hy | ⟨h1,h2,_⟩)
    ·exact hy
    ·cases h1; exact absurd h h2
  ·rename_i h
   rw [any_ptEq] at h
   rw [seeP_eq]
   simp only [List.mem_append,List.mem_singleton]
   constructor
   ·rintro (hy | rfl)
    ·exact .inl hy
    ·exact .inr ⟨rfl,h,rfl⟩
   ·rintro (hy | ⟨h1,_,h3⟩)
    ·exact .inl hy
    ·cases h1
     refine .inr ?_
     cases y
     simp only at h3
     rw [h3]
def Six (i:Int) (_:Bool):Prop:=i = 0 ∨ i = 1 ∨ i = 2
theorem beh_seen {p:Plan} {most:Int} {s:Sr} {f:Sg} {x:Pt}:x ∈ (behindP p most s f).seen ↔ x ∈ s.seen ∨ ∃ i ch,Six i ch∧succF p most f.pt i ch = some x:=by
 unfold behindP
 simp only [tryF_seen]
 constructor
 ·rintro ((((((h | h) | h) | h) | h) | h) | h)
  ·exact .inl h
  ·exact .inr ⟨0,false,.inl rfl,h⟩
  ·exact .inr ⟨0,true,.inl rfl,h⟩
  ·exact .inr ⟨1,false,.inr (.inl rfl),h⟩
  ·exact .inr ⟨1,true,.inr (.inl rfl),h⟩
  ·exact .inr ⟨2,false,.inr (.inr rfl),h⟩
  ·exact .inr ⟨2,true,.inr (.inr rfl),h⟩
 ·rintro (h | ⟨i,ch,hi,h⟩)
  ·exact .inl (.inl (.inl (.inl (.inl (.inl h)))))
  ·rcases hi with rfl | rfl | rfl <;> cases ch
   ·exact .inl (.inl (.inl (.inl (.inl (.inr h)))))
   ·exact .inl (.inl (.inl (.inl (.inr h))))
   ·exact .inl (.inl (.inl (.inr h)))
   ·exact .inl (.inl (.inr h))
   ·exact .inl (.inr h)
   ·exact .inr h
theorem six_none {p:Plan} {c:Cfg} {i:Int} {ch:Bool} (h:¬ Six i ch):stepF p c i ch = none:=by
 unfold Six at h
 unfold stepF
 rw [if_neg (by omega)]
def Rch (p:Plan) (most:Int):Nat→Pt→Prop
 | 0,x=>x = ⟨0,-1,start1 p⟩
 | k + 1,x=>∃ y i ch,Rch p most k y∧succF p most y i ch = some x
theorem roundG_seen {p:Plan} {most:Int}:∀ (l:List Sg) (s s':Sr),roundG p most l s = some s'→∀ x,x ∈ s'.seen ↔ x ∈ s.seen ∨ ∃ f ∈ l,∃ i ch,succF p most f.pt i ch = some x
 | [],s,s',h,x=>by
  have h:some { s with rep:={ s.rep with whole:=s.fresh.isEmpty } } = some s':=h
  cases h
  simp
 | f :: r,s,s',h,x=>by
  have h:(if 600 < (behindP p most s f).seen.length then none else roundG p most r (behindP p most s f)) = some s':=h
  split at h
  ·cases h
  ·rw [roundG_seen r _ s' h x,beh_seen]
   constructor
   ·rintro ((h1 | ⟨i,ch,_,h2⟩) | ⟨g,hg,h2⟩)
    ·exact .inl h1
    ·exact .inr ⟨f,List.mem_cons_self ..,i,ch,h2⟩
    ·exact .inr ⟨g,List.mem_cons_of_mem _ hg,h2⟩
   ·rintro (h1 | ⟨g,hg,i,ch,h2⟩)
    ·exact .inl (.inl h1)
    ·rcases List.mem_cons.1 hg with rfl | hg
     ·refine .inl (.inr ⟨i,ch,?_,h2⟩)
      apply Classical.byContradiction
      intro hn
      obtain ⟨c,h3,_⟩:=succ_some h2
      rw [six_none hn] at h3
      cases h3
     ·exact .inr ⟨g,hg,i,ch,h2⟩
structure SeenK (p:Plan) (most:Int) (k:Nat) (s:Sr):Prop where
 seen:∀ x,x ∈ s.seen ↔ ∃ j,j ≤ k∧Rch p most j x
 fresh:∀ x,(∃ y ∈ s.fresh,y.pt = x) ↔ Rch p most k x∧∀ j,j < k→¬ Rch p most j x
theorem beh_fresh {p:Plan} {most:Int} {s:Sr} {f:Sg}:∀ x,(∃ y ∈ (behindP p most s f).fresh,y.pt = x) ↔ (∃ y ∈ s.fresh,y.pt = x) ∨ (x ∈ (behindP p most s f).seen∧x ∉ s.seen):=by
 have key:∀ (s:Sr) (i:Int) (ch:Bool) (x:Pt),(∃ y ∈ (tryF p most s f i ch).fresh,y.pt = x) ↔ (∃ y ∈ s.fresh,y.pt = x) ∨ (x ∈ (tryF p most s f i ch).seen∧x ∉ s.seen):=by
  intro s i ch x
  constructor
  ·rintro ⟨y,hy,rfl⟩
   rcases tryF_fresh.1 hy with h | ⟨h1,h2,_⟩
   ·exact .inl ⟨y,h,rfl⟩
   ·exact .inr ⟨tryF_seen.2 (.inr h1),h2⟩
  ·rintro (⟨y,hy,rfl⟩ | ⟨h1,h2⟩)
   ·exact ⟨y,tryF_fresh.2 (.inl hy),rfl⟩
   ·rcases tryF_seen.1 h1 with h | h
    ·exact absurd h h2
    ·exact ⟨⟨x,f.by_ ++ letterF i ch⟩,tryF_fresh.2 (.inr ⟨h,h2,rfl⟩),rfl⟩
 have mono:∀ (s:Sr) (i:Int) (ch:Bool) (x:Pt),x ∈ s.seen→x ∈ (tryF p most s f i ch).seen:=fun s i ch x h=>tryF_seen.2 (.inl h)
 intro x
 unfold behindP
 simp only [key]
 have m1:=mono s 0 false x
 have m2:=mono (tryF p most s f 0 false) 0 true x
 have m3:=mono (tryF p most (tryF p most s f 0 false) f 0 true) 1 false x
 have m4:=mono (tryF p most (tryF p most (tryF p most s f 0 false) f 0 true) f 1 false) 1 true x
 have m5:=mono (tryF p most (tryF p most (tryF p most (tryF p most s f 0 false) f 0 true) f 1 false) f 1 true) 2 false x
 have m6:=mono (tryF p most (tryF p most (tryF p most (tryF p most (tryF p most s f 0 false) f 0 true) f 1 false) f 1 true) f 2 false) 2 true x
 generalize (x ∈ s.seen) = a0 at *
 generalize (x ∈ (tryF p most s f 0 false).seen) = a1 at *
 generalize (x ∈ (tryF p most (tryF p most s f 0 false) f 0 true).seen) = a2 at *
 generalize (x ∈ (tryF p most (tryF p most (tryF p most s f 0 false) f 0 true) f 1 false).seen) = a3 at *
 generalize (x ∈ (tryF p most (tryF p most (tryF p most (tryF p most s f 0 false) f 0 true) f 1 false) f 1 true).seen) = a4 at *
 generalize (x ∈ (tryF p most (tryF p most (tryF p most (tryF p most (tryF p most s f 0 false) f 0 true) f 1 false) f 1 true) f 2 false).seen) = a5 at *
 generalize (x ∈ (tryF p most (tryF p most (tryF p most (tryF p most (tryF p most (tryF p most s f 0 false) f 0 true) f 1 false) f 1 true) f 2 false) f 2 true).seen) = a6 at *
 generalize (∃ y ∈ s.fresh,y.pt = x) = b at *
 by_cases h0:a0 <;> by_cases h1:a1 <;> by_cases h2:a2 <;> by_cases h3:a3 <;> by_cases h4:a4 <;> by_cases h5:a5 <;> by_cases h6:a6 <;> simp_all
theorem roundG_fresh {p:Plan} {most:Int}:∀ (l:List Sg) (s s':Sr),roundG p most l s = some s'→∀ x,(∃ y ∈ s'.fresh,y.pt = x) ↔ (∃ y ∈ s.fresh,y.pt = x) ∨ (x ∈ s'.seen∧x ∉ s.seen)
 | [],s,s',h,x=>by
  have h:some { s with rep:={ s.rep with whole:=s.fresh.isEmpty } } = some s':=h
  cases h
  constructor
  ·exact fun h=>.inl h
  ·rintro (h | ⟨h1,h2⟩)
   ·exact h
   ·exact absurd h1 h2
 | f :: r,s,s',h,x=>by
  have h:(if 600 < (behindP p most s f).seen.length then none else roundG p most r (behindP p most s f)) = some s':=h
  split at h
  ·cases h
  ·rw [roundG_fresh r _ s' h x,beh_fresh x]
   have m1:x ∈ s.seen→x ∈ (behindP p most s f).seen:=fun h=>beh_seen.2 (.inl h)
   have m2:x ∈ (behindP p most s f).seen→x ∈ s'.seen:=fun h2=>(roundG_seen r _ s' h x).2 (.inl h2)
   generalize (x ∈ s.seen) = a0 at *
   generalize (x ∈ (behindP p most s f).seen) = a1 at *
   generalize (x ∈ s'.seen) = a2 at *
   generalize (∃ y ∈ s.fresh,y.pt = x) = b at *
   by_cases h0:a0 <;> by_cases h1:a1 <;> by_cases h2:a2 <;> simp_all
end Go.Proofs.YtmfcpbhdggonfaaGreatDoor
namespace Go.Proofs.YtmfcpbhdggonfaaGreatDoor
open Go.RowKit RR
theorem SeenK.begin (p:Plan) (most:Int):SeenK p most 0 (beginF p) where
 seen:=fun x=>by
  have e:(beginF p).seen = [⟨0,-1,start1 p⟩]:=rfl
  rw [e,List.mem_singleton]
  constructor
  ·exact fun h=>⟨0,Nat.le_refl _,h⟩
  ·rintro ⟨j,hj,h⟩
   have:j = 0:=by omega
   subst this
   exact h
 fresh:=fun x=>by
  have e:(beginF p).fresh = [⟨⟨0,-1,start1 p⟩,⟨#[]⟩⟩]:=rfl
  rw [e]
  constructor
  ·rintro ⟨y,hy,rfl⟩
   rw [List.mem_singleton] at hy
   subst hy
   exact ⟨rfl,fun j hj=>absurd hj (Nat.not_lt_zero _)⟩
  ·rintro ⟨h,_⟩
   exact ⟨_,List.mem_singleton.2 rfl,Eq.symm h⟩
theorem SeenK.round {p:Plan} {most:Int} {k:Nat} {s s':Sr} (h:SeenK p most k s) (hr:roundF p most s = some s'):SeenK p most (k + 1) s':=by
 have hg:roundG p most s.fresh { s with fresh:=[] } = some s':=hr
 have hseen:∀ x,x ∈ s'.seen ↔ ∃ j,j ≤ k + 1∧Rch p most j x:=by
  intro x
  rw [roundG_seen _ _ _ hg x]
  constructor
  ·rintro (h1 | ⟨f,hf,i,ch,h2⟩)
   ·obtain ⟨j,hj,h3⟩:=(h.seen x).1 h1
    exact ⟨j,by omega,h3⟩
   ·exact ⟨k + 1,Nat.le_refl _,f.pt,i,ch,((h.fresh f.pt).1 ⟨f,hf,rfl⟩).1,h2⟩
  ·rintro ⟨j,hj,h1⟩
   by_cases hjk:j ≤ k
   ·exact .inl ((h.seen x).2 ⟨j,hjk,h1⟩)
   ·have:j = k + 1:=by omega
    subst this
    obtain ⟨y,i,ch,hy,h2⟩:=h1
    by_cases he:∃ j,j < k∧Rch p most j y
    ·obtain ⟨j,hj,h3⟩:=he
     exact .inl ((h.seen x).2 ⟨j + 1,by omega,y,i,ch,h3,h2⟩)
    ·obtain ⟨f,hf,hfy⟩:=(h.fresh y).2 ⟨hy,fun j hj h3=>he ⟨j,hj,h3⟩⟩
     exact .inr ⟨f,hf,i,ch,by rw [hfy]; exact h2⟩
 refine ⟨hseen,fun x=>?_⟩
 rw [roundG_fresh _ _ _ hg x]
 constructor
 ·rintro (⟨y,hy,_⟩ | ⟨h1,h2⟩)
  ·cases hy
  ·obtain ⟨j,hj,h3⟩:=(hseen x).1 h1
   have hno:∀ j,j < k + 1→¬ Rch p most j x:=fun j hj h4=>h2 ((h.seen x).2 ⟨j,by omega,h4⟩)
   by_cases hjk:j < k + 1
   ·exact absurd h3 (hno j hjk)
   ·have:j = k + 1:=by omega
    subst this
    exact ⟨h3,hno⟩
 ·rintro ⟨h1,h2⟩
  refine .inr ⟨(hseen x).2 ⟨k + 1,Nat.le_refl _,h1⟩,fun h3=>?_⟩
  obtain ⟨j,hj,h4⟩:=(h.seen x).1 h3
  exact h2 j (by omega) h4
structure FlagK (p:Plan) (s:Sr):Prop where
 race:s.rep.race = true ↔ ∃ x ∈ s.seen,raceF p x.cfg = true
 dead:s.rep.dead = true ↔ ∃ x ∈ s.seen,deadF p x.cfg = true
 points:s.rep.points = s.seen.length
theorem FlagK.see {p:Plan} {s:Sr} (h:FlagK p s) (x:Pt) (b:ByteArray):FlagK p (seeP p s x b):=by
 rw [seeP_eq]
 have hr:(deadR p x b (raceR p x b { s.rep with points:=s.seen.length + 1 })).race = (s.rep.race || raceF p x.cfg):=by
  unfold deadR raceR
  simp only []
  cases s.rep.race <;> cases raceF p x.cfg <;> cases s.rep.dead <;> cases deadF p x.cfg <;> rfl
 have hd:(deadR p x b (raceR p x b { s.rep with points:=s.seen.length + 1 })).dead = (s.rep.dead || deadF p x.cfg):=by
  unfold deadR raceR
  simp only []
  cases s.rep.race <;> cases raceF p x.cfg <;> cases s.rep.dead <;> cases deadF p x.cfg <;> rfl
 have hp:(deadR p x b (raceR p x b { s.rep with points:=s.seen.length + 1 })).points = s.seen.length + 1:=by
  unfold deadR raceR
  simp only []
  cases s.rep.race <;> cases raceF p x.cfg <;> cases s.rep.dead <;> cases deadF p x.cfg <;> rfl
 refine ⟨?_,?_,by show _ = (s.seen ++ [x]).length; rw [hp]; simp⟩
 ·show (deadR p x b (raceR p x b { s.rep with points:=s.seen.length + 1 })).race = true ↔ ∃ y ∈ s.seen ++ [x],raceF p y.cfg = true
  rw [hr,Bool.or_eq_true,h.race]
  constructor
  ·rintro (⟨y,hy,h1⟩ | h1)
   ·exact ⟨y,List.mem_append_left _ hy,h1⟩
   ·exact ⟨x,List.mem_append_right _ (List.mem_singleton.2 rfl),h1⟩
  ·rintro ⟨y,hy,h1⟩
   rcases List.mem_append.1 hy with hy | hy
   ·exact .inl ⟨y,hy,h1⟩
   ·rw [List.mem_singleton] at hy; subst hy; exact .inr h1
 ·show (deadR p x b (raceR p x b { s.rep with points:=s.seen.length + 1 })).dead = true ↔ ∃ y ∈ s.seen ++ [x],deadF p y.cfg = true
  rw [hd,Bool.or_eq_true,h.dead]
  constructor
  ·rintro (⟨y,hy,h1⟩ | h1)
   ·exact ⟨y,List.mem_append_left _ hy,h1⟩
   ·exact ⟨x,List.mem_append_right _ (List.mem_singleton.2 rfl),h1⟩
  ·rintro ⟨y,hy,h1⟩
   rcases List.mem_append.1 hy with hy | hy
   ·exact .inl ⟨y,hy,h1⟩
   ·rw [List.mem_singleton] at hy; subst hy; exact .inr h1
theorem FlagK.begin (p:Plan):FlagK p (beginF p):=by
 have h:FlagK p ⟨[],[],zRp⟩:=⟨by simp [zRp],by simp [zRp],rfl⟩
 exact h.see _ _
theorem FlagK.tryF {p:Plan} {most:Int} {s:Sr} (h:FlagK p s) (f:Sg) (i:Int) (ch:Bool):FlagK p (tryF p most s f i ch):=by
 rw [tryF_cases]
 cases succF p most f.pt i ch with
 | none=>exact h
 | some x =>
  simp only []
  split
  ·exact h
  ·exact h.see _ _
theorem FlagK.beh {p:Plan} {most:Int} {s:Sr} (h:FlagK p s) (f:Sg):FlagK p (behindP p most s f):=(((((h.tryF f 0 false).tryF f 0 true).tryF f 1 false).tryF f 1 true).tryF f 2 false).tryF f 2 true
theorem FlagK.round {p:Plan} {most:Int}:∀ (l:List Sg) (s s':Sr),FlagK p s→roundG p most l s = some s'→FlagK p s'
 | [],s,s',h,hr=>by
  have hr:some { s with rep:={ s.rep with whole:=s.fresh.isEmpty } } = some s':=hr
  cases hr
  exact ⟨h.race,h.dead,h.points⟩
 | f :: r,s,s',h,hr=>by
  have hr:(if 600 < (behindP p most s f).seen.length then none else roundG p most r (behindP p most s f)) = some s':=hr
  split at hr
  ·cases hr
  ·exact FlagK.round r _ s' (h.beh f) hr
end Go.Proofs.YtmfcpbhdggonfaaGreatDoor
namespace Go.Proofs.YtmfcpbhdggonfaaGreatDoor
open Go.RowKit RR
structure By (p:Plan) (y:Sg):Prop where
 ok:∃ w:Wk,WkOk w∧w.s = y.by_∧(w.ctx:Int) = y.pt.ctx∧w.last = y.pt.last
 fol:followF p y.by_ y.by_.size 0 (start1 p) = .ok y.pt.cfg
theorem By.start (p:Plan):By p ⟨⟨0,-1,start1 p⟩,⟨#[]⟩⟩:=⟨⟨zWk,WkOk.zero,rfl,rfl,rfl⟩,rfl⟩
theorem letter_six {i:Int} {ch:Bool} (h:Six i ch):∃ b:UInt8,letterF i ch = ⟨#[b]⟩∧readB b = some (i,ch):=by
 rcases h with rfl | rfl | rfl <;> cases ch
 ·exact ⟨97,rfl,rfl⟩
 ·exact ⟨65,rfl,rfl⟩
 ·exact ⟨98,rfl,rfl⟩
 ·exact ⟨66,rfl,rfl⟩
 ·exact ⟨99,rfl,rfl⟩
 ·exact ⟨67,rfl,rfl⟩
theorem By.step {p:Plan} {most:Int} {f:Sg} (h:By p f) {i:Int} {ch:Bool} {x:Pt} (hx:succF p most f.pt i ch = some x):By p ⟨x,f.by_ ++ letterF i ch⟩∧(f.by_ ++ letterF i ch).size = f.by_.size + 1:=by
 obtain ⟨c,h1,h2,_⟩:=succ_some hx
 have h6:Six i ch:=Classical.byContradiction fun hn=>by rw [six_none hn] at h1; cases h1
 obtain ⟨b,hb,hr⟩:=letter_six h6
 obtain ⟨w,hw,e1,e2,e3⟩:=h.ok
 have hsz:(f.by_ ++ letterF i ch).size = f.by_.size + 1:=by rw [hb,ByteArray.size_append]; rfl
 refine ⟨⟨⟨stepW b i w,hw.step hr,?_,?_,?_⟩,?_⟩,hsz⟩
 ·show w.s ++ ⟨#[b]⟩ = f.by_ ++ letterF i ch
  rw [e1,hb]
 ·subst h2
  show (((if i ≠ w.last then w.ctx + 1 else w.ctx:Nat)):Int) = if i ≠ f.pt.last then f.pt.ctx + 1 else f.pt.ctx
  rw [e3]
  split
  ·rw [← e2]; push_cast; rfl
  ·exact e2
 ·subst h2
  rfl
 ·subst h2
  show followF p (f.by_ ++ letterF i ch) (f.by_ ++ letterF i ch).size 0 (start1 p) = .ok c
  rw [hb]
  exact follow_more h.fol (by rw [hr]; exact h1)
structure ShowK (p:Plan) (most:Int) (q:Cfg→Bool) (k:Nat) (flag:Bool) (by_:ByteArray):Prop where
 yes:flag = true→∃ y:Sg,(By p y∧Rch p most by_.size y.pt)∧y.by_ = by_∧q y.pt.cfg = true∧y.pt.ctx ≤ most∧by_.size ≤ k∧∀ j,j < by_.size→∀ x,Rch p most j x→q x.cfg = false
 no:flag = false→by_ = ⟨#[]⟩
structure ShownK (p:Plan) (most:Int) (k:Nat) (r:Rp):Prop where
 race:ShowK p most (raceF p) k r.race r.raceBy
 dead:ShowK p most (deadF p) k r.dead r.deadBy
def NoneK (p:Plan) (most:Int) (q:Cfg→Bool) (k:Nat):Prop:=∀ j,j < k→∀ x,Rch p most j x→q x.cfg = false
theorem ShowK.mono {p:Plan} {most:Int} {q:Cfg→Bool} {k m:Nat} {flag:Bool} {b:ByteArray} (h:ShowK p most q k flag b) (hk:k ≤ m):ShowK p most q m flag b:=⟨fun hf=>by
 obtain ⟨y,h1,h2,h3,h4,h5,h6⟩:=h.yes hf
 exact ⟨y,h1,h2,h3,h4,by omega,h6⟩,h.no⟩
theorem ShowK.set {p:Plan} {most:Int} {q:Cfg→Bool} {k:Nat} {flag:Bool} {b0:ByteArray} (h:ShowK p most q k flag b0) (hn:flag = false→NoneK p most q k) {x:Pt} {b:ByteArray} (hb:By p ⟨x,b⟩) (hR:Rch p most k x) (hs:b.size = k) (hc:x.ctx ≤ most) :
    ShowK p most q k (flag || q x.cfg) (if !flag && q x.cfg then b else b0)∧((flag || q x.cfg) = false→NoneK p most q k):=by
 cases hf:flag with
 | true =>
  refine ⟨⟨fun _=>?_,fun h2=>by cases h2⟩,fun h2=>by cases h2⟩
  exact h.yes hf
 | false =>
  cases hq:q x.cfg with
  | true =>
   refine ⟨⟨fun _=>?_,fun h2=>by cases h2⟩,fun h2=>by cases h2⟩
   exact ⟨⟨x,b⟩,⟨hb,by show Rch p most b.size x; rw [hs]; exact hR⟩,rfl,hq,hc,by rw [← hs]; exact Nat.le_refl _,fun j hj y hy=>hn hf j (by rw [← hs]; exact hj) y hy⟩
  | false=>exact ⟨⟨(fun h2=>by cases h2),fun _=>h.no hf⟩,fun _=>hn hf⟩
structure MidK (p:Plan) (most:Int) (k:Nat) (s:Sr):Prop where
 sh:ShownK p most k s.rep
 nr:s.rep.race = false→NoneK p most (raceF p) k
 nd:s.rep.dead = false→NoneK p most (deadF p) k
 by_:∀ y ∈ s.fresh,(By p y∧Rch p most k y.pt)∧y.by_.size = k
theorem MidK.see {p:Plan} {most:Int} {k:Nat} {s:Sr} (h:MidK p most k s) {x:Pt} {b:ByteArray} (hb:By p ⟨x,b⟩) (hR:Rch p most k x) (hs:b.size = k) (hc:x.ctx ≤ most):MidK p most k (seeP p s x b):=by
 have h1:=h.sh.race.set h.nr hb hR hs hc
 have h2:=h.sh.dead.set h.nd hb hR hs hc
 have e:(seeP p s x b).rep = ⟨s.rep.race || raceF p x.cfg,s.rep.dead || deadF p x.cfg,if !s.rep.race && raceF p x.cfg then b else s.rep.raceBy,if !s.rep.dead && deadF p x.cfg then b else s.rep.deadBy,s.rep.whole,s.seen.length + 1⟩:=by
  rw [seeP_eq]
  show deadR p x b (raceR p x b { s.rep with points:=s.seen.length + 1 }) = _
  unfold deadR raceR
  simp only []
  cases s.rep.race <;> cases raceF p x.cfg <;> cases s.rep.dead <;> cases deadF p x.cfg <;> rfl
 refine ⟨⟨by rw [e]; exact h1.1,by rw [e]; exact h2.1⟩,by rw [e]; exact h1.2,by rw [e]; exact h2.2,?_⟩
 rw [seeP_eq]
 intro y hy
 rcases List.mem_append.1 hy with hy | hy
 ·exact h.by_ y hy
 ·rw [List.mem_singleton] at hy
  subst hy
  exact ⟨⟨hb,hR⟩,hs⟩
theorem MidK.tryF {p:Plan} {most:Int} {k:Nat} {s:Sr} (h:MidK p most (k + 1) s) {f:Sg} (hf:By p f∧Rch p most k f.pt) (hk:f.by_.size = k) (i:Int) (ch:Bool):MidK p most (k + 1) (tryF p most s f i ch):=by
 rw [tryF_cases]
 cases hx:succF p most f.pt i ch with
 | none=>exact h
 | some x =>
  simp only []
  split
  ·exact h
  ·obtain ⟨h1,h2⟩:=hf.1.step hx
   obtain ⟨c,_,h4,h5⟩:=succ_some hx
   exact h.see h1 ⟨f.pt,i,ch,hf.2,hx⟩ (by rw [h2,hk]) (by subst h4; exact Int.not_lt.1 h5)
theorem MidK.round {p:Plan} {most:Int} {k:Nat}:∀ (l:List Sg) (s s':Sr),(∀ y ∈ l,(By p y∧Rch p most k y.pt)∧y.by_.size = k)→MidK p most (k + 1) s→roundG p most l s = some s'→MidK p most (k + 1) s'
 | [],s,s',_,h,hr=>by
  have hr:some { s with rep:={ s.rep with whole:=s.fresh.isEmpty } } = some s':=hr
  cases hr
  exact ⟨⟨h.sh.race,h.sh.dead⟩,h.nr,h.nd,h.by_⟩
 | f :: r,s,s',hl,h,hr=>by
  have hr:(if 600 < (behindP p most s f).seen.length then none else roundG p most r (behindP p most s f)) = some s':=hr
  have hf:=hl f (List.mem_cons_self ..)
  split at hr
  ·cases hr
  ·exact MidK.round r _ s' (fun y hy=>hl y (List.mem_cons_of_mem _ hy)) ((((((h.tryF hf.1 hf.2 0 false).tryF hf.1 hf.2 0 true).tryF hf.1 hf.2 1 false).tryF hf.1 hf.2 1 true).tryF hf.1 hf.2 2 false).tryF hf.1 hf.2 2 true) hr
structure AllK (p:Plan) (most:Int) (k:Nat) (s:Sr):Prop where
 seen:SeenK p most k s
 flag:FlagK p s
 mid:MidK p most k s
theorem AllK.begin (p:Plan) (most:Int) (h0:0 ≤ most):AllK p most 0 (beginF p):=by
 refine ⟨SeenK.begin p most,FlagK.begin p,?_⟩
 have h:MidK p most 0 ⟨[],[],zRp⟩:=⟨⟨⟨(fun h=>by cases h),fun _=>rfl⟩,⟨(fun h=>by cases h),fun _=>rfl⟩⟩,fun _ j hj=>absurd hj (Nat.not_lt_zero _),fun _ j hj=>absurd hj (Nat.not_lt_zero _),fun y hy=>by cases hy⟩
 exact h.see (By.start p) rfl rfl h0
theorem AllK.round {p:Plan} {most:Int} {k:Nat} {s s':Sr} (h:AllK p most k s) (hr:roundF p most s = some s'):AllK p most (k + 1) s':=by
 have hg:roundG p most s.fresh { s with fresh:=[] } = some s':=hr
 refine ⟨h.seen.round hr,FlagK.round s.fresh { s with fresh:=[] } s' ⟨h.flag.race,h.flag.dead,h.flag.points⟩ hg,MidK.round s.fresh { s with fresh:=[] } s' h.mid.by_ ⟨⟨h.mid.sh.race.mono (Nat.le_succ _),h.mid.sh.dead.mono (Nat.le_succ _)⟩,fun hf j hj x hx=>?_,fun hf j hj x hx=>?_,fun y hy=>by cases hy⟩ hg⟩
 ·cases hq:raceF p x.cfg with
  | false=>rfl
  | true =>
   have:=h.flag.race.2 ⟨x,(h.seen.seen x).2 ⟨j,by omega,hx⟩,hq⟩
   have hf:s.rep.race = false:=hf
   rw [hf] at this; cases this
 ·cases hq:deadF p x.cfg with
  | false=>rfl
  | true =>
   have:=h.flag.dead.2 ⟨x,(h.seen.seen x).2 ⟨j,by omega,hx⟩,hq⟩
   have hf:s.rep.dead = false:=hf
   rw [hf] at this; cases this
theorem AllK.rounds {p:Plan} {most:Int}:∀ (n k:Nat) (s s':Sr),AllK p most k s→roundsF p most n s = some s'→∃ j,k ≤ j∧j ≤ k + n∧AllK p most j s'∧(j = k + n ∨ endedF s' = true)
 | 0,k,s,s',h,hr=>by
  have hr:some s = some s':=hr
  cases hr
  exact ⟨k,Nat.le_refl _,Nat.le_refl _,h,.inl rfl⟩
 | n + 1,k,s,s',h,hr=>by
  rw [roundsF] at hr
  split at hr
  ·rename_i he
   cases hr
   exact ⟨k,Nat.le_refl _,by omega,h,.inr he⟩
  ·obtain ⟨s2,h2,h3⟩:=Option.bind_eq_some_iff.1 hr
   obtain ⟨j,h4,h5,h6,h7⟩:=AllK.rounds n (k + 1) s2 s' (h.round h2) h3
   refine ⟨j,by omega,by omega,h6,?_⟩
   rcases h7 with h7 | h7
   ·exact .inl (by omega)
   ·exact .inr h7
end Go.Proofs.YtmfcpbhdggonfaaGreatDoor
namespace Go.Proofs.YtmfcpbhdggonfaaGreatDoor
open Go.RowKit RR
theorem owns_nil (w:World) (base:Nat) (e:TypeId) (size:Nat):w.ownsRow base e size (.slice none 0 0) 0 []:=⟨by simp,.inl ⟨rfl,rfl⟩⟩
theorem sr_nil {base B:Nat} {p:Plan} {v:PV} {most:Int} {vS vF:Value} {s:Sr} {w:World} (h:SrAt B base p v most vS vF s w):SrAt B base p v most vS (.slice none 0 0) { s with fresh:=[] } (w.setCell ⟨B,8,none⟩ (.slice none 0 0)) where
 box:=setOne_heap h.box 8 _
 seen:=owns_set h.seen h.neS
 fresh:=owns_nil _ _ _ _
theorem seek_nil {base B:Nat} {vS vF:Value} {w:World} (hB:base ≤ B):SeK base B vS vF w vS (.slice none 0 0) (w.setCell ⟨B,8,none⟩ (.slice none 0 0)):=⟨(Below.refl _ _).setCell (p:=⟨B,8,none⟩) hB _,fun _ _ hB _ _=>setCell_heap_ne _ _ _ _ _ hB,.inl rfl,.inr fun g hg=>by simp [Value.ownBlock] at hg⟩
theorem ahead_keep {base B:Nat} {p:Plan} {v:PV} {most:Int} {vS vF vS' vF':Value} {s:Sr} {w wr:World} (h:SrAt B base p v most vS vF s w) (hk:SeK base B vS (.slice none 0 0) (w.setCell ⟨B,8,none⟩ (.slice none 0 0)) vS' vF' wr):wr.ownsRow base 235 61 vF s.fresh.length (s.fresh.flatMap sgL) :=
 owns_keep h.fresh fun k c f hc hv=>by
  have hne:k ≠ B:=fun e=>h.neF (by rw [← e]; exact hv)
  have hlt:k < (w.setCell ⟨B,8,none⟩ (.slice none 0 0)).heap.size:=by simpa using (Array.getElem?_eq_some_iff.1 hc).1
  refine (hk.blk k hlt hne (fun e=>?_) (fun e=>by simp [Value.ownBlock] at e)).trans ((setCell_heap_ne _ _ _ _ _ hne).trans hc)
  obtain ⟨c2,f2,h2⟩:=owns_type h.seen e
  rw [h2] at hc
  simp at hc
def RoundOut (base B:Nat) (p:Plan) (v:PV) (most:Int) (vS vF:Value) (r:Option Sr) (w:World) (e:Ending) (w':World):Prop:=match r with
 | some s'=>e = .returned (.bool true)∧SeeOut base B p v most vS vF s' w w'
 | none=>e = .returned (.bool false)∧Below base w w'
theorem roundG_cons (p:Plan) (most:Int) (l:List Sg) (s:Sr) (j:Nat) (hj:j < l.length):roundG p most (l.drop j) s = if 600 < (behindP p most s l[j]).seen.length then none else roundG p most (l.drop (j + 1)) (behindP p most s l[j]):=by
 rw [List.drop_eq_getElem_cons hj]; rfl
theorem beh_len (p:Plan) (most:Int) (s:Sr) (f:Sg):(behindP p most s f).seen.length ≤ s.seen.length + 6∧(behindP p most s f).fresh.length ≤ s.fresh.length + 6:=by
 rw [← behK_three]; exact behK_len p most s f 3
theorem Tryz.zeroSightB:(Tryz.prog.info? 235).bind (·.zero) = some (.agg (sgL ⟨⟨0,0,zCfg⟩,⟨#[]⟩⟩).toArray):=by kernel_rfl
set_option maxRecDepth 100000 in
set_option maxHeartbeats 8000000 in
theorem se_makeRound (base B:Nat) (p:Plan) (v:PV) (most:Int) (vS vF:Value) (s:Sr) (w:World) (hBb:base ≤ B) (h:SrAt B base p v most vS vF s w) (hp:PInB base w p v) (hl:s.seen.length ≤ 600) (hl2:s.fresh.length ≤ 3000) (hok:∀ f ∈ s.fresh,(-1000 ≤ f.pt.ctx∧f.pt.ctx ≤ 1000)∧f.by_.size ≤ 1000) :
    Calls Tryz.prog 108 #[.pointer (some ⟨B,0,none⟩)] w fun e w'=>RoundOut base B p v most vS vF (roundF p most s) w e w':=by
 have HOK:=hide hok
 have hz:=h.lt
 obtain ⟨ao,cap,hvF⟩:=owns_slice h.fresh
 subst hvF
 have HA0:=hide h
 have HAT:=hide (sr_nil h)
 have HK:=hide (seek_nil (vS:=vS) (vF:=.slice ao s.fresh.length cap) (w:=w) hBb)
 have HP:=hide (hp.below HK.out.bel)
 have c8:w.cell? ⟨B,8,none⟩ = some (.slice ao s.fresh.length cap):=cell_blk h.box 8 rfl
 have f8:=heap_frz h.box 8
 have HRF:Hid (roundF p most s = roundG p most s.fresh { s with fresh:=[] }):=rfl
 clear h hp hok
 go_enter Tryz.func108,Tryz.ntmps108
 go_upto_region 3 with fail
 have HAK:=hide (fun (vS' vF':Value) (wr:World) (hk:SeK base B vS (.slice none 0 0) (w.setCell ⟨B,8,none⟩ (.slice none 0 0)) vS' vF' wr)=>ahead_keep HA0.out hk)
 clear c8 f8 HA0
 generalize w.setCell ⟨B,8,none⟩ (.slice none 0 0) = W at *
 generalize hl0:s.fresh = l at *
 generalize hs0:({ s with fresh:=[] }:Sr) = s0 at *
 have hl3:s0.seen.length ≤ 600:=by rw [← hs0]; exact hl
 have hl4:s0.fresh.length ≤ s0.seen.length:=by rw [← hs0]; exact Nat.zero_le _
 have HL0:=hide hl0
 clear hl0 hs0
 go_wp2_with fail
 go_loopw [15] (fun u wr=>∃ (j:Nat) (s':Sr) (vS' vF':Value),u = .int .i64 j∧j ≤ l.length∧roundG p most (l.drop j) s' = roundG p most l s0∧SrAt B base p v most vS' vF' s' wr∧SeK base B vS (.slice none 0 0) W vS' vF' wr∧s'.seen.length ≤ 600∧s'.fresh.length ≤ s'.seen.length) (fun u _=>l.length - (intOf u).toNat)
 case atStart=>exact ⟨0,s0,vS,_,rfl,Nat.zero_le _,rfl,HAT.out,SeK.of_below (Below.refl _ _) (Nat.le_trans hBb (Nat.le_of_lt HAT.out.lt)),hl3,hl4⟩
 case round =>
  obtain ⟨j,s',vS1,vF1,rfl,hj,hrg,hA1,hK1,hls,hlf⟩:=hrel
  have HRG:=hide hrg
  have HA1:=hide hA1
  have HK1:=hide hK1
  clear hrg hA1 hK1
  by_cases hlt:j < l.length
  ·have hlt':(j:Int) < l.length:=by omega
   have HRC:=hide (roundG_cons p most l s' j hlt)
   have hokj:=HOK.out l[j] (List.getElem_mem hlt)
   obtain ⟨ao',cap',hv',hfl⟩:=flat_of_owns (HAK.out _ _ _ HK1.out)
   have hae:ao = ao':=by injection hv'
   obtain ⟨b,o,hb,hao,rgJ⟩:=hfl.get (f:=sgL) (n:=61) (fun _=>rfl) (by decide) j hlt
   rw [← hae] at hao
   clear hfl hae hv'
   generalize l[j] = f at *
   subst hao
   go_upto_region 7 with (first | (refine wpList_load_mid rfl 235 _ rfl b (o + j * 61) rfl (sgL f) _ rgJ Tryz.underlying235 rfl Tryz.sizeSighting ?_) | (refine wpl_alloc rfl 235 rfl (sgL ⟨⟨0,0,zCfg⟩,⟨#[]⟩⟩) Tryz.zeroSightB ?_) | (refine wpl_store_new rfl 235 _ _ rfl _ _ (sgL f) _ rfl rfl (by simp) Tryz.sizeSighting rfl (one_sg _) ?_) | (refine wpList_load_mid rfl 235 _ rfl _ 0 rfl (sgL f) _ (rg_new rfl) Tryz.underlying235 rfl Tryz.sizeSighting ?_))
   have hbX:Below wr.heap.size wr (wr.alloc (.cells (sgL f).toArray 235)):=(Below.refl _ _).alloc (Nat.le_refl _) _
   have hkX:=SeK.of_below (base:=base) (B:=B) (vS:=vS1) (vF:=vF1) hbX (Nat.le_trans hBb (Nat.le_of_lt HA1.out.lt))
   refine (se_lookBehind base B p v most vS1 vF1 s' f _ hBb (HA1.out.below hbX) (HP.out.below (HK1.out.trans hkX).bel) (by omega) (by omega) hokj.1 hokj.2).mono ?_
   rintro e w2 ⟨rfl,vS2,vF2,hA2,hK2⟩
   have hsm:=beh_same p most s' f
   have HA2:=hide hA2
   have HK2:=hide (HK1.out.trans (hkX.trans hK2))
   have hbl:=beh_len p most s' f
   obtain ⟨a7,cap7,hv7⟩:=owns_slice hA2.seen
   have c7:w2.cell? ⟨B,7,none⟩ = some (.slice a7 (behindP p most s' f).seen.length cap7):=by rw [← hv7]; exact cell_blk hA2.box 7 rfl
   clear hA2 hK2 hkX hbX rgJ hv7 HA1 HK1
   by_cases h6:600 < (behindP p most s' f).seen.length
   ·have HE:Hid (roundF p most s = none):=by show _ = _; rw [HRF.out,← HRG.out,HRC.out,if_pos h6]
    clear HRC HRG HRF
    generalize (behindP p most s' f).seen.length = N at *
    have h6':(600:Int) < N:=by omega
    go_wp2_with fail
    go_ret
    show RoundOut _ _ _ _ _ _ _ _ _ _ _
    rw [HE.out]
    exact ⟨rfl,(HK.out.trans HK2.out).bel⟩
   ·have HE:Hid (roundG p most (l.drop (j + 1)) (behindP p most s' f) = roundG p most l s0):=by show _ = _; rw [← HRG.out,HRC.out,if_neg h6]
    clear HRC HRG
    have h7:(behindP p most s' f).seen.length ≤ 600:=by omega
    have h8:(behindP p most s' f).fresh.length ≤ (behindP p most s' f).seen.length:=by omega
    have H78:=hide (And.intro h7 h8)
    have h6':((behindP p most s' f).seen.length:Int) ≤ 600:=by omega
    clear h7 h8 hbl hsm h6
    go_wp2_with fail
    go_roundw
    case rel=>exact ⟨j + 1,_,_,_,by go_num,by omega,HE.out,HA2.out,HK2.out,H78.out.1,H78.out.2⟩
    case measure=>simp [intOf]; omega
  ·have hjl:j = l.length:=by omega
   subst hjl
   have hE:roundF p most s = some { s' with rep:={ s'.rep with whole:=s'.fresh.isEmpty } }:=by
    rw [HRF.out,← HRG.out,List.drop_length]; rfl
   have HE:=hide hE
   clear hE HRG HRF
   obtain ⟨a8,cap8,hv8⟩:=owns_slice HA1.out.fresh
   have c8:wr.cell? ⟨B,8,none⟩ = some (.slice a8 s'.fresh.length cap8):=by rw [← hv8]; exact cell_blk HA1.out.box 8 rfl
   have c13:wr.cell? ⟨B,13,none⟩ = some (.bool s'.rep.whole):=cell_blk HA1.out.box 13 rfl
   have f13:=heap_frz HA1.out.box 13
   have HAW:=hide (fun b:Bool=>sr_rep (o:=13) HA1.out (.bool b) { s'.rep with whole:=b } rfl)
   have hKW:=HK.out.trans HK1.out
   have HKW:=hide hKW
   clear hKW hv8
   by_cases hF:s'.fresh = []
   ·have h0:s'.fresh.length = 0:=by rw [hF]; rfl
    have HW:Hid (s'.fresh.isEmpty = true):=by show _ = _; rw [hF]; rfl
    rw [h0] at c8
    clear hF h0
    go_wp2_with fail
    go_ret
    show RoundOut _ _ _ _ _ _ _ _ _ _ _
    rw [HE.out,HW.out]
    exact ⟨rfl,_,_,HAW.out true,by rw [HL0.out]; exact HKW.out.trans (seek_set hBb _)⟩
   ·have h0:((s'.fresh.length:Int) == 0) = false:=beq_eq_false_iff_ne.2 (by have:=List.length_pos_iff.2 hF; omega)
    have HW:Hid (s'.fresh.isEmpty = false):=by show _ = _; simpa using hF
    clear hF
    go_wp2_with fail
    go_ret
    show RoundOut _ _ _ _ _ _ _ _ _ _ _
    rw [HE.out,HW.out]
    exact ⟨rfl,_,_,HAW.out false,by rw [HL0.out]; exact HKW.out.trans (seek_set hBb _)⟩
end Go.Proofs.YtmfcpbhdggonfaaGreatDoor
namespace Go.Proofs.YtmfcpbhdggonfaaGreatDoor
open Go.RowKit RR
theorem rounds_zero (p:Plan) (most:Int) (s:Sr):roundsF p most 0 s = some s:=rfl
theorem rounds_ended {p:Plan} {most:Int} {s:Sr} (h:endedF s = true):∀ n,roundsF p most n s = some s
 | 0=>rfl
 | n + 1=>by unfold roundsF; rw [if_pos h]
theorem rounds_next {p:Plan} {most:Int} {s:Sr} (h:endedF s = false) (n:Nat):roundsF p most (n + 1) s = (roundF p most s).bind (roundsF p most n):=by
 rw [roundsF,if_neg (by rw [h]; exact Bool.false_ne_true)]
set_option maxRecDepth 100000 in
set_option maxHeartbeats 8000000 in
theorem se_goByRounds (base B:Nat) (p:Plan) (v:PV) (most:Int) (vS vF:Value) (s:Sr) (n:Nat) (w:World) (hBb:base ≤ B) (h:SrAt B base p v most vS vF s w) (hp:PInB base w p v) (hn:n ≤ 60) (hm:most ≤ 100) (hl:s.seen.length ≤ 600) (hl2:s.fresh.length ≤ s.seen.length) (hok:OkS 0 s.fresh) :
    Calls Tryz.prog 70 #[.pointer (some ⟨B,0,none⟩),.int .i64 n] w fun e w'=>RoundOut base B p v most vS vF (roundsF p most n s) w e w':=by
 have HP:=hide hp
 have HAT:=hide h
 have HOK:=hide hok
 clear h hp hok
 go_enter Tryz.func70,Tryz.ntmps70
 go_wp2_with fail
 go_loopw [5] (fun u wr=>∃ (j:Nat) (s':Sr) (vS' vF':Value),u = .int .i64 ((j:Int) + 1)∧j ≤ n∧roundsF p most (n - j) s' = roundsF p most n s∧SrAt B base p v most vS' vF' s' wr∧SeK base B vS vF w vS' vF' wr∧s'.seen.length ≤ 600∧s'.fresh.length ≤ s'.seen.length∧OkS j s'.fresh) (fun u _=>n + 1 - (intOf u).toNat)
 case atStart=>exact ⟨0,s,vS,vF,rfl,Nat.zero_le _,rfl,HAT.out,SeK.of_below (Below.refl _ _) (Nat.le_trans hBb (Nat.le_of_lt HAT.out.lt)),hl,hl2,HOK.out⟩
 case round =>
  obtain ⟨j,s',vS1,vF1,rfl,hj,hrg,hA1,hK1,hls,hlf,hok1⟩:=hrel
  have HRG:=hide hrg
  have HA1:=hide hA1
  have HK1:=hide hK1
  have HO1:=hide hok1
  clear hrg hA1 hK1 hok1
  by_cases hlt:j < n
  ·have hlt':((j:Int) + 1) ≤ n:=by omega
   have c9:wr.cell? ⟨B,9,none⟩ = some (.bool s'.rep.race):=cell_blk HA1.out.box 9 rfl
   have c10:wr.cell? ⟨B,10,none⟩ = some (.bool s'.rep.dead):=cell_blk HA1.out.box 10 rfl
   have c13:wr.cell? ⟨B,13,none⟩ = some (.bool s'.rep.whole):=cell_blk HA1.out.box 13 rfl
   have HEN:=hide (se_ended B s'.rep.race s'.rep.dead s'.rep.whole wr c9 c10 c13)
   clear c9 c10 c13
   cases he:endedF s' with
   | true =>
    have he':((s'.rep.race && s'.rep.dead) || s'.rep.whole) = true:=he
    have HE:Hid (roundsF p most n s = some s'):=by show _ = _; rw [← HRG.out,rounds_ended he]
    rw [he'] at HEN
    clear he he' HRG
    go_wp2_with fail
    refine (HEN.out).mono ?_
    rintro e w' ⟨rfl,rfl⟩
    go_wp2_with fail
    go_ret
    show RoundOut _ _ _ _ _ _ _ _ _ _ _
    rw [HE.out]
    exact ⟨rfl,_,_,HA1.out,HK1.out⟩
   | false =>
    have he':((s'.rep.race && s'.rep.dead) || s'.rep.whole) = false:=he
    have HE:Hid (roundsF p most n s = (roundF p most s').bind (roundsF p most (n - j - 1))):=by
     show _ = _
     rw [← HRG.out,show n - j = (n - j - 1) + 1 by omega,rounds_next he]; rfl
    have HRR:Hid (roundF p most s' = roundG p most s'.fresh { s' with fresh:=[] }):=rfl
    rw [he'] at HEN
    clear he he' HRG
    go_wp2_with fail
    refine (HEN.out).mono ?_
    rintro e w' ⟨rfl,rfl⟩
    go_wp2_with fail
    refine (se_makeRound base B p v most vS1 vF1 s' _ hBb HA1.out (HP.out.below HK1.out.bel) hls (by omega) (fun f hf=>⟨⟨by have:=(HO1.out f hf).1.1; omega,by have:=(HO1.out f hf).1.2; omega⟩,by have:=(HO1.out f hf).2; omega⟩)).mono ?_
    intro e w2 hro
    cases hr:roundF p most s' with
    | none =>
     rw [hr] at hro
     obtain ⟨rfl,hb2⟩:=hro
     have HE2:Hid (roundsF p most n s = none):=by show _ = _; rw [HE.out,hr]; rfl
     have HB2:=hide (HK1.out.bel.trans hb2)
     clear hb2 hr HE
     go_wp2_with fail
     go_ret
     show RoundOut _ _ _ _ _ _ _ _ _ _ _
     rw [HE2.out]
     exact ⟨rfl,HB2.out⟩
    | some s2 =>
     rw [hr] at hro
     obtain ⟨rfl,vS2,vF2,hA2,hK2⟩:=hro
     have HE2:Hid (roundsF p most (n - (j + 1)) s2 = roundsF p most n s):=by show _ = _; rw [HE.out,hr,show n - (j + 1) = n - j - 1 by omega]; rfl
     have hr2:roundG p most s'.fresh { s' with fresh:=[] } = some s2:=HRR.out.symm.trans hr
     have HO2:=hide (OkS.round hm s'.fresh { s' with fresh:=[] } s2 HO1.out (fun f hf=>by cases hf) hr2)
     have HL2:=hide (round_len s'.fresh { s' with fresh:=[] } s2 (Nat.zero_le _) hls hr2)
     have HA2:=hide hA2
     have HK2:=hide (HK1.out.trans hK2)
     clear hA2 hK2 hr hr2 HE HRR
     go_wp2_with fail
     go_roundw
     case rel=>exact ⟨j + 1,s2,vS2,vF2,by go_num,by omega,HE2.out,HA2.out,HK2.out,HL2.out.2,HL2.out.1,HO2.out⟩
     case measure=>simp [intOf]; omega
  ·have hjn:j = n:=by omega
   subst hjn
   have HE:Hid (roundsF p most j s = some s'):=by show _ = _; rw [← HRG.out,Nat.sub_self]; rfl
   have hgt:¬ ((j:Int) + 1) ≤ j:=by omega
   clear HRG hlt
   go_wp2_with fail
   go_ret
   show RoundOut _ _ _ _ _ _ _ _ _ _ _
   rw [HE.out]
   exact ⟨rfl,_,_,HA1.out,HK1.out⟩
end Go.Proofs.YtmfcpbhdggonfaaGreatDoor
namespace Go.Proofs.YtmfcpbhdggonfaaGreatDoor
open Go.RowKit RR
end Go.Proofs.YtmfcpbhdggonfaaGreatDoor
namespace Go.Proofs.YtmfcpbhdggonfaaGreatDoor
open Go.RowKit RR
theorem roundG_whole {p:Plan} {most:Int}:∀ (l:List Sg) (s s':Sr),roundG p most l s = some s'→s'.rep.whole = s'.fresh.isEmpty
 | [],s,s',h=>by
  have h:some { s with rep:={ s.rep with whole:=s.fresh.isEmpty } } = some s':=h
  cases h
  rfl
 | f :: r,s,s',h=>by
  have h:(if 600 < (behindP p most s f).seen.length then none else roundG p most r (behindP p most s f)) = some s':=h
  split at h
  ·cases h
  ·exact roundG_whole r _ s' h
def WholeK (s:Sr):Prop:=s.rep.whole = true→s.fresh = []
theorem whole_begin (p:Plan):WholeK (beginF p):=fun h=>by
 have e:(beginF p).rep.whole = false:=by
  show (seeP p ⟨[],[],zRp⟩ ⟨0,-1,start1 p⟩ ⟨#[]⟩).rep.whole = false
  rw [seeP_eq]
  unfold deadR raceR
  simp only []
  cases raceF p (start1 p) <;> cases deadF p (start1 p) <;> rfl
 rw [e] at h; cases h
theorem whole_rounds {p:Plan} {most:Int}:∀ (n:Nat) (s s':Sr),WholeK s→roundsF p most n s = some s'→WholeK s'
 | 0,s,s',h,hr=>by
  have hr:some s = some s':=hr
  cases hr
  exact h
 | n + 1,s,s',h,hr=>by
  rw [roundsF] at hr
  split at hr
  ·cases hr; exact h
  ·obtain ⟨s2,h2,h3⟩:=Option.bind_eq_some_iff.1 hr
   refine whole_rounds n s2 s' (fun hw=>?_) h3
   have hg:roundG p most s.fresh { s with fresh:=[] } = some s2:=h2
   rw [roundG_whole _ _ _ hg] at hw
   simpa using hw
theorem closed {p:Plan} {most:Int} {k:Nat} {s:Sr} (h:SeenK p most k s) (hf:s.fresh = []):∀ (j:Nat) (x:Pt),Rch p most j x→∃ i,i ≤ k∧Rch p most i x
 | 0,_,hx=>⟨0,Nat.zero_le _,hx⟩
 | j + 1,x,hx=>by
  obtain ⟨y,a,ch,hy,h2⟩:=hx
  obtain ⟨i,hi,h3⟩:=closed h hf j y hy
  by_cases he:∃ m,m < k∧Rch p most m y
  ·obtain ⟨m,hm,h4⟩:=he
   exact ⟨m + 1,by omega,y,a,ch,h4,h2⟩
  ·have hik:i = k:=Classical.byContradiction fun hn=>he ⟨i,by omega,h3⟩
   subst hik
   obtain ⟨f,hff,_⟩:=(h.fresh y).2 ⟨h3,fun m hm h4=>he ⟨m,hm,h4⟩⟩
   rw [hf] at hff
   cases hff
theorem misses_none {p:Plan} {most:Int} (h0:0 ≤ most) {n:Nat} {s:Sr} (hs:roundsF p most n (beginF p) = some s) {L:Nat} (hL:L ≤ n) {x:Pt} (hx:Rch p most L x) :
    (raceF p x.cfg = true→s.rep.race = true∧s.rep.raceBy.size ≤ L)∧(deadF p x.cfg = true→s.rep.dead = true∧s.rep.deadBy.size ≤ L):=by
 obtain ⟨j,_,hj,hA,he⟩:=AllK.rounds n 0 (beginF p) s (AllK.begin p most h0) hs
 have hw:=whole_rounds n (beginF p) s (whole_begin p) hs
 have shortR:s.rep.race = true→raceF p x.cfg = true→s.rep.raceBy.size ≤ L:=fun h1 hq=>by
  obtain ⟨y,_,_,_,_,_,h6⟩:=hA.mid.sh.race.yes h1
  apply Classical.byContradiction
  intro hn
  have:=h6 L (by omega) x hx
  rw [hq] at this; cases this
 have shortD:s.rep.dead = true→deadF p x.cfg = true→s.rep.deadBy.size ≤ L:=fun h1 hq=>by
  obtain ⟨y,_,_,_,_,_,h6⟩:=hA.mid.sh.dead.yes h1
  apply Classical.byContradiction
  intro hn
  have:=h6 L (by omega) x hx
  rw [hq] at this; cases this
 have key:x ∈ s.seen ∨ (s.rep.race = true∧s.rep.dead = true):=by
  rcases he with he | he
  ·exact .inl ((hA.seen.seen x).2 ⟨L,by omega,hx⟩)
  ·unfold endedF at he
   rw [Bool.or_eq_true,Bool.and_eq_true] at he
   rcases he with he | he
   ·exact .inr he
   ·obtain ⟨i,hi,h3⟩:=closed hA.seen (hw he) L x hx
    exact .inl ((hA.seen.seen x).2 ⟨i,hi,h3⟩)
 constructor
 ·intro hq
  have h1:s.rep.race = true:=by
   rcases key with hk | hk
   ·exact hA.flag.race.2 ⟨x,hk,hq⟩
   ·exact hk.1
  exact ⟨h1,shortR h1 hq⟩
 ·intro hq
  have h1:s.rep.dead = true:=by
   rcases key with hk | hk
   ·exact hA.flag.dead.2 ⟨x,hk,hq⟩
   ·exact hk.2
  exact ⟨h1,shortD h1 hq⟩
theorem Rch.wider {p:Plan} {m m':Int} (h:m ≤ m'):∀ (k:Nat) (x:Pt),Rch p m k x→Rch p m' k x
 | 0,_,hx=>hx
 | k + 1,x,hx=>by
  obtain ⟨y,i,ch,hy,h2⟩:=hx
  obtain ⟨c,h3,h4,h5⟩:=succ_some h2
  exact ⟨y,i,ch,Rch.wider h k y hy,by rw [h4]; exact succ_of h3 (fun hn=>h5 (by omega))⟩
theorem Rch.step {p:Plan} {most:Int} {k:Nat} {f:Pt} (h:Rch p most k f) {i:Int} {ch:Bool} {c:Cfg} (hc:stepF p f.cfg i ch = some c) (hn:(if i ≠ f.last then f.ctx + 1 else f.ctx) ≤ most):Rch p most (k + 1) ⟨if i ≠ f.last then f.ctx + 1 else f.ctx,i,c⟩ :=
 ⟨f,i,ch,h,succ_of hc (Int.not_lt.2 hn)⟩
end Go.Proofs.YtmfcpbhdggonfaaGreatDoor
