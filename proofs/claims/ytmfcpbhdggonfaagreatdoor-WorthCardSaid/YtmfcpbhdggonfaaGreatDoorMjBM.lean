/- Contracts of the program's parser: a call. -/
import Derived.Test.YtmfcpbhdggonfaaGreatDoorMjBL
namespace Go.Proofs.YtmfcpbhdggonfaaGreatDoor
open Go.RowKit RR
theorem Tryz.infoCl:(Tryz.prog.info? 286).map (fun i=>(i.zero,i.size,i.bytes)) = some (some (.agg #[.string ⟨#[]⟩,.int .i64 0,.int .i64 0]),3,32):=by kernel_rfl
theorem cls_append (a b:List Cl):cls (a ++ b) = cls a ++ cls b:=by
 induction a with
 | nil=>rfl
 | cons t r ih=>show _ :: _ :: _ :: cls (r ++ b) = _; rw [ih]; rfl
theorem three_one {a b c:Value} (h1:a.oneCell' = true) (h2:b.oneCell' = true) (h3:c.oneCell' = true):∀ u ∈ [a,b,c],u.oneCell' = true:=by
 intro u hu
 simp only [List.mem_cons,List.mem_nil_iff,or_false] at hu
 rcases hu with rfl | rfl | rfl <;> assumption
theorem cl_fin {B:Nat} {ao:Option Addr} {cap:Nat} {L:List Tk} {U:Nat} {σ:QSt} {vN vC vS vD:Value} {w2 w3:World} {o:Obj} {t:ByteArray} {p n:Nat} {v':Value} (h2:PSx B ao cap L U σ vN vC vS vD w2) (hinv:σ.p.calls.length + 1 ≤ σ.p.next)
    (hown3:w3.ownsRow (B + 1) 286 3 v' (σ.p.calls.length + 1) (cls σ.p.calls ++ [.string t,.int .i64 p,.int .i64 n])) (hgrow:(w2.alloc o).drew.grownBy w3 vC.ownBlock) :
    PSx B ao cap L U (σ.setp { σ.p with calls:=σ.p.calls ++ [⟨t,p,n⟩] }) vN v' vS vD (w3.setCell ⟨B,6,none⟩ v')∧Kp B w2 (w3.setCell ⟨B,6,none⟩ v'):=by
 have kp:=grow_kp h2.blk h2.cl hgrow (.inr (.inl rfl)) 6 v'
 have kB:=grow_block h2.cl hgrow B h2.lt (.inl (Nat.lt_succ_self B))
 refine ⟨⟨?_,h2.tok.below kp.bel,?_,?_,?_,h2.st.kp kp,h2.le,?_⟩,kp⟩
 ·rw [cts_set (kB.trans h2.blk) 6 v']; rfl
 ·exact ownsRow_setCell_below (grow_keep h2.cl hgrow h2.nm (by decide)) (Nat.lt_succ_self B) _
 ·have h3:w3.ownsRow (B + 1) 286 3 v' (σ.p.calls ++ [(⟨t,p,n⟩:Cl)]).length (cls (σ.p.calls ++ [(⟨t,p,n⟩:Cl)])):=by
    rw [cls_append,List.length_append]; exact hown3
  exact ownsRow_setCell_below h3 (Nat.lt_succ_self B) _
 ·exact ownsRow_setCell_below (grow_keep h2.cl hgrow h2.nd (by decide)) (Nat.lt_succ_self B) _
 ·refine ⟨h2.inv.1,?_⟩
  show (σ.p.calls ++ [(⟨t,p,n⟩:Cl)]).length ≤ σ.p.next + (if σ.p.failed then 1 else 0)
  rw [List.length_append]
  show σ.p.calls.length + 1 ≤ _
  omega
theorem BX.slice {S:Nat} {s:Stm} {vV:Value} {w:World} (h:BX S s vV w):∃ a c,vV = .slice a s.vals.length c:=by
 rcases h.row.2 with ⟨e1,e2⟩ | ⟨g,cp,cur,e1,_⟩
 ·exact ⟨none,0,by rw [e1,e2]⟩
 ·exact ⟨_,_,e1⟩
theorem BX.stands {B S:Nat} {s:Stm} {vV vV':Value} {w w':World} (h:BX S s vV w) (k:KpS B S vV w vV' w') {n:Nat} {c:Array Value} {T:TypeId} {f:Nat × Nat} (hk:w.heap[n]? = some (Obj.cells c T f)) (h1:T ≠ 231) (h2:T ≠ 186) (h3:T ≠ 286) (h4:T ≠ 190) (h5:T ≠ 202) (h6:T ≠ 248):w'.heap[n]? = some (Obj.cells c T f):=by
 have:=h.ne hk h5 h6
 exact k.keep n c T f hk h1 h2 h3 h4 this.1 this.2
def callEnd (L:List Tk) (τ:QSt) (c:Cl):QSt:=τ.setp { leaveP L τ.p ⟨#[41]⟩ with calls:=(leaveP L τ.p ⟨#[41]⟩).calls ++ [c] }
theorem callQ_eq {L:List Tk} {f:Nat} {σ:QSt} {s:Stm} {r:QSt × Stm} (h:callQ L f σ s = some r):∃ q:QSt × List (Int × Int),(if (enterP L (σ.p.takeName L 6) ⟨#[40]⟩).sees L ⟨#[41]⟩ then some (σ.setp (enterP L (σ.p.takeName L 6) ⟨#[40]⟩),s.vals) else (valueQ L f (σ.setp (enterP L (σ.p.takeName L 6) ⟨#[40]⟩)) s.vals).bind fun r=>valuesQ L f r.1 r.2) = some q∧r = (callEnd L q.1 ⟨(σ.p.ahead L 0).t,(σ.p.ahead L 0).p,q.2.length⟩,{ s with name:=nameIx L σ.p,vals:=q.2 }):=by
 unfold callQ at h
 obtain ⟨q,h1,h2⟩:=Option.map_eq_some_iff.1 h
 exact ⟨q,h1,h2.symm⟩
set_option maxRecDepth 100000 in
set_option maxHeartbeats 16000000 in
theorem call_good {L:List Tk} {f:Nat} {σ:QSt} {s:Stm} {q:QSt × List (Int × Int)} (hs0:s.vals = []) (hN:isNameB (σ.p.ahead L 0).t = true) (hc0:σ.p.calls.length ≤ σ.p.next) (h:(if (enterP L (σ.p.takeName L 6) ⟨#[40]⟩).sees L ⟨#[41]⟩ then some (σ.setp (enterP L (σ.p.takeName L 6) ⟨#[40]⟩),s.vals) else (valueQ L f (σ.setp (enterP L (σ.p.takeName L 6) ⟨#[40]⟩)) s.vals).bind fun r=>valuesQ L f r.1 r.2) = some q):(leaveP L q.1.p ⟨#[41]⟩).calls.length + 1 ≤ (leaveP L q.1.p ⟨#[41]⟩).next:=by
 have htn:(σ.p.takeName L 6).next = σ.p.next + 1∧(σ.p.takeName L 6).calls = σ.p.calls:=by unfold PSt.takeName; rw [hN]; exact ⟨rfl,rfl⟩
 have hge:=good_enter L (σ.p.takeName L 6) ⟨#[40]⟩
 have hgl:=good_leave L q.1.p ⟨#[41]⟩
 have mid:RR.Good (enterP L (σ.p.takeName L 6) ⟨#[40]⟩) q.1.p:=by
  split at h
  ·rw [← Option.some.inj h]; exact RR.Good.refl _
  ·obtain ⟨a,h1,h2⟩:=bindS h
   have g1:=good_expr (projS (value_proj L f _ _) h1)
   have hv:=values_proj L f a.1 a.2
   rw [h2] at hv
   have hl:=value_len h1
   rw [hs0] at hl
   have g2:=good_values L f a.1.p a.2.length _ hv.symm (by rw [hl]; simp)
   exact g1.trans g2.1
 have e1:(leaveP L q.1.p ⟨#[41]⟩).calls = σ.p.calls:=hgl.1.trans (mid.1.trans (hge.1.trans htn.2))
 have:=hgl.2.1
 have:=mid.2.1
 have:=hge.2.1
 rw [e1]
 omega
set_option maxRecDepth 100000 in
set_option maxHeartbeats 16000000 in
theorem s_call {B:Nat} {ao:Option Addr} {cap:Nat} {L:List Tk} {U:Nat} (hL:L.length ≤ 500) (f:Nat) {σ:QSt} {vS:Value} {S:Nat} {s:Stm} {vV:Value} (r:QSt × Stm) (w:World) (h:BP B ao cap L U σ vS S s vV w) (hN:isNameB (σ.p.ahead L 0).t = true) (hs0:s.vals = []) (hrun:callQ L f σ s = some r) (hend:r.1.nds.length ≤ 9000) :
    Calls Tryz.prog 229 #[.pointer (some ⟨B,0,none⟩),.pointer (some ⟨S,0,none⟩)] w fun e w'=>e = .returned (.tuple #[])∧∃ vV',BP B ao cap L U r.1 vS S r.2 vV' w'∧KpS B S vV w vV' w':=by
 obtain ⟨i0,hi0,hz0,hz1,hz2⟩:=info_parts Tryz.infoCl
 have hfl:=(name_lt hN).2
 have hc0:σ.p.calls.length ≤ σ.p.next:=by have:=h.ps.inv.2; rw [hfl] at this; simpa using this
 obtain ⟨q,hq,hr⟩:=callQ_eq hrun
 have HG:=hide (call_good hs0 hN hc0 hq)
 have HR:=hide hr
 have hqe:q.1.nds.length ≤ 9000:=by rw [hr] at hend; exact hend
 have HQ:=hide hq
 clear hrun hr hq hend
 go_enter Tryz.func229,Tryz.ntmps229
 go_wp2_with fail
 refine (s_ahead 0 _ hL (by omega) h.ps).mono ?_
 rintro e w1 ⟨rfl,hb1⟩
 rw [hN]
 have hX:(w1.alloc (.cells #[.string (σ.p.ahead L 0).t,.int .i64 (σ.p.ahead L 0).p,.bool true] 228)).heap[w1.heap.size]? = some (.cells #[.string (σ.p.ahead L 0).t,.int .i64 (σ.p.ahead L 0).p,.bool true] 228 (0,0)):=heap_alloc_new w1 _
 have hb2:=hb1.alloc hb1.size (.cells #[.string (σ.p.ahead L 0).t,.int .i64 (σ.p.ahead L 0).p,.bool true] 228)
 have hp1:=h.below hb2
 have k01:=(Kp.of_below hb2 (Nat.le_of_lt h.ps.lt)).s S vV
 go_wp2_with fail
 generalize w1.alloc (.cells #[.string (σ.p.ahead L 0).t,.int .i64 (σ.p.ahead L 0).p,.bool true] 228) = w2 at *
 generalize w1.heap.size = X at *
 clear hb1 hb2 h
 refine (s_takeName 6 _ hL hp1.ps).mono ?_
 rintro e w3 ⟨rfl,hp3,k3⟩
 have hb3:=hp1.kp hp3 k3
 have hX3:=k3.keep _ _ _ _ hX (by decide) (by decide) (by decide) (by decide)
 have k03:=k01.trans (k3.s S vV)
 obtain ⟨d0,d1,d2,d3,d4,d5,d6,d7,hdf⟩:=hb3.bx.cells
 have f6:=hdf 6
 have hset:=bx_set (s':={ s with name:=nameIx L σ.p }) hb3.bx 6 (.int .i64 (nameIx L σ.p)) rfl rfl
 have hb4:=hb3.fs hset.2 hset.1
 have hne:=hb3.bx.ne hX3 (by decide) (by decide)
 have hX4:=(hset.2.blk X (Array.getElem?_eq_some_iff.1 hX3).1 hne.1 hne.2).trans hX3
 have k04:=k03.trans (hset.2.kps (vV':=vV) (Nat.le_of_lt hb3.B) (.inl rfl))
 clear hdf k01 k3 hX hp1 hp3 hset hne k03 hX3 hb3
 go_wp2_with fail
 refine (s_enter ⟨#[40]⟩ _ hL (by decide) hb4.ps).mono ?_
 rintro e w5 ⟨rfl,hp5,k5⟩
 have hb5:=hb4.kp hp5 k5
 have hX5:=k5.keep _ _ _ _ hX4 (by decide) (by decide) (by decide) (by decide)
 have k05:=k04.trans (k5.s S vV)
 clear d0 d1 d2 d3 d4 d5 d6 d7 f6 hb4 hp5 k5 hX4 k04
 cases hs:(enterP L (σ.p.takeName L 6) ⟨#[40]⟩).sees L ⟨#[41]⟩
 ·have HQ2:Hid ((valueQ L f (σ.setp (enterP L (σ.p.takeName L 6) ⟨#[40]⟩)) s.vals).bind (fun r=>valuesQ L f r.1 r.2) = some q):=by show _ = _; have h:=HQ.out; rw [hs] at h; exact h
  go_wp2_with fail
  refine (s_sees ⟨#[41]⟩ _ hL hb5.ps).mono ?_
  rintro e w6 ⟨rfl,hbs⟩
  have hs':((σ.setp (σ.p.takeName L 6)).setp (enterP L (σ.setp (σ.p.takeName L 6)).p ⟨#[40]⟩)).p.sees L ⟨#[41]⟩ = false:=hs
  rw [hs']
  have hb5b:=hb5.below hbs
  have k5b:=Kp.of_below hbs (Nat.le_of_lt hb5.ps.lt)
  have hX5b:=k5b.keep _ _ _ _ hX5 (by decide) (by decide) (by decide) (by decide)
  have k05b:=k05.trans (k5b.s S vV)
  clear hbs hb5 hX5 k05 k5b
  go_wp2_with fail
  refine (s_values hL f q _ hb5b HQ2.out hqe (by show s.vals.length ≤ _; rw [hs0]; exact Nat.zero_le _)).mono ?_
  rintro e w6b ⟨rfl,vV6,hb6,k6⟩
  have hX6:=hb5b.bx.stands k6 hX5b (by decide) (by decide) (by decide) (by decide) (by decide) (by decide)
  have k06:=k05b.trans k6
  clear hb5b hX5b k05b k6
  go_wp2_with fail
  refine (s_leave ⟨#[41]⟩ _ hL (by decide) hb6.ps).mono ?_
  rintro e w7 ⟨rfl,hp7,k7⟩
  have hb7:=hb6.kp hp7 k7
  have hX7:=k7.keep _ _ _ _ hX6 (by decide) (by decide) (by decide) (by decide)
  have k07:=k06.trans (k7.s S vV6)
  obtain ⟨va,vc,hvV⟩:=hb7.bx.slice
  obtain ⟨d0,d1,d2,d3,d4,d5,d6,d7,hdf⟩:=hb7.bx.cells
  rw [hvV] at d7
  have hcl5:(q.1.setp (leaveP L q.1.p ⟨#[41]⟩)).p.calls.length + 1 ≤ (q.1.setp (leaveP L q.1.p ⟨#[41]⟩)).p.next:=HG.out
  have hle5:=hp7.le
  have HEnd:Hid (r.1 = (q.1.setp (leaveP L q.1.p ⟨#[41]⟩)).setp { (q.1.setp (leaveP L q.1.p ⟨#[41]⟩)).p with calls:=(q.1.setp (leaveP L q.1.p ⟨#[41]⟩)).p.calls ++ [⟨(σ.p.ahead L 0).t,(σ.p.ahead L 0).p,q.2.length⟩] }):=by show _ = _; rw [HR.out]; rfl
  generalize hσ5:q.1.setp (leaveP L q.1.p ⟨#[41]⟩) = σ5 at *
  obtain ⟨vN7,vC7,vD7,hx7⟩:=hp7
  obtain ⟨c0,c1,c2,c3,c4,c5,c6,c7,c8,hf⟩:=hx7.cells
  have f6:=hf 6
  have x0:w7.cell? ⟨X,0,none⟩ = some (.string (σ.p.ahead L 0).t):=by simp [World.cell?,hX7]
  have x1:w7.cell? ⟨X,1,none⟩ = some (.int .i64 (σ.p.ahead L 0).p):=by simp [World.cell?,hX7]
  have hown:=hx7.cl
  have hzz:B < w7.heap.size:=hx7.lt
  have hbw:B + 1 ≤ w7.heap.size:=hzz
  clear hf hdf d0 d1 d2 d3 d4 d5 d6 hb6 hX6 k06 k7 hσ5
  go_wp2_with fail
  go_region_law (refine step_append_lies _ rfl (.tmp 26) (.tmp 37) 112 rfl (B + 1) 286 i0 (.agg #[.string ⟨#[]⟩,.int .i64 0,.int .i64 0]) 3 32 Tryz.underlying112 hi0 hz0 hz1 hz2 rfl (by decide) vC7 σ5.p.calls.length (cls σ5.p.calls) rfl (by exact hown.alloc _) ⟨w7.heap.size,0,none⟩ 1 1 [.string (σ.p.ahead L 0).t,.int .i64 (σ.p.ahead L 0).p,.int .i64 (q.2.length:Nat)] rfl rfl (by exact World.news_of_block (heap_alloc_new w7 _)) (three_one rfl rfl rfl) (by decide) (by unfold maxLen; omega) (by omega) (by simp; omega) _ rfl ?_; intro g cap' w8 hown8 hgrow hat hg; have kB:=grow_block hown hgrow B hzz (.inl (Nat.lt_succ_self B)); have k6c:w8.cell? ⟨B,6,none⟩ = some vC7:=(World.cell?_of_block (w:=w7) kB).trans c6; have kf:w8.frozen? ⟨B,6,none⟩ = false:=(World.frozen?_of_block (w:=w7) kB).trans f6)
  all_goals
   have hfin:=cl_fin hx7 hcl5 hown8 hgrow
   clear hown8 hgrow hat hg kB c0 c1 c2 c3 c4 c5 c6 c7 c8 x0 x1 d7 hown hi0 hz0 hz1 hz2
   go_wp2_with fail
   go_end0
   refine ⟨rfl,vV6,?_,k07.trans (hfin.2.s S vV6)⟩
   have hb8:=hb7.kp ⟨_,_,_,hfin.1⟩ hfin.2
   have e2:r.2 = { s with name:=nameIx L σ.p,vals:=q.2 }:=by rw [HR.out]
   rw [HEnd.out,e2]
   exact hb8
 ·have HQ2:Hid ((σ.setp (enterP L (σ.p.takeName L 6) ⟨#[40]⟩),s.vals) = q):=by show _ = _; have h:=HQ.out; rw [hs] at h; exact Option.some.inj h
  go_wp2_with fail
  refine (s_sees ⟨#[41]⟩ _ hL hb5.ps).mono ?_
  rintro e w6 ⟨rfl,hbs⟩
  have hs':((σ.setp (σ.p.takeName L 6)).setp (enterP L (σ.setp (σ.p.takeName L 6)).p ⟨#[40]⟩)).p.sees L ⟨#[41]⟩ = true:=hs
  rw [hs']
  have k5b:=Kp.of_below hbs (Nat.le_of_lt hb5.ps.lt)
  have hX6:=k5b.keep _ _ _ _ hX5 (by decide) (by decide) (by decide) (by decide)
  have k06x:=k05.trans (k5b.s S vV)
  have hb6x:=hb5.below hbs
  obtain ⟨vV6,hvV6⟩:∃ v,v = vV:=⟨_,rfl⟩
  have k06:KpS B S vV w vV6 w6:=by rw [hvV6]; exact k06x
  have hb6:BP B ao cap L U q.1 vS S { s with name:=nameIx L σ.p,vals:=q.2 } vV6 w6:=by rw [hvV6,← HQ2.out]; exact hb6x
  clear hbs hb5 hX5 k05 k5b k06x hb6x hvV6
  go_wp2_with fail
  refine (s_leave ⟨#[41]⟩ _ hL (by decide) hb6.ps).mono ?_
  rintro e w7 ⟨rfl,hp7,k7⟩
  have hb7:=hb6.kp hp7 k7
  have hX7:=k7.keep _ _ _ _ hX6 (by decide) (by decide) (by decide) (by decide)
  have k07:=k06.trans (k7.s S vV6)
  obtain ⟨va,vc,hvV⟩:=hb7.bx.slice
  obtain ⟨d0,d1,d2,d3,d4,d5,d6,d7,hdf⟩:=hb7.bx.cells
  rw [hvV] at d7
  have hcl5:(q.1.setp (leaveP L q.1.p ⟨#[41]⟩)).p.calls.length + 1 ≤ (q.1.setp (leaveP L q.1.p ⟨#[41]⟩)).p.next:=HG.out
  have hle5:=hp7.le
  have HEnd:Hid (r.1 = (q.1.setp (leaveP L q.1.p ⟨#[41]⟩)).setp { (q.1.setp (leaveP L q.1.p ⟨#[41]⟩)).p with calls:=(q.1.setp (leaveP L q.1.p ⟨#[41]⟩)).p.calls ++ [⟨(σ.p.ahead L 0).t,(σ.p.ahead L 0).p,q.2.length⟩] }):=by show _ = _; rw [HR.out]; rfl
  generalize hσ5:q.1.setp (leaveP L q.1.p ⟨#[41]⟩) = σ5 at *
  obtain ⟨vN7,vC7,vD7,hx7⟩:=hp7
  obtain ⟨c0,c1,c2,c3,c4,c5,c6,c7,c8,hf⟩:=hx7.cells
  have f6:=hf 6
  have x0:w7.cell? ⟨X,0,none⟩ = some (.string (σ.p.ahead L 0).t):=by simp [World.cell?,hX7]
  have x1:w7.cell? ⟨X,1,none⟩ = some (.int .i64 (σ.p.ahead L 0).p):=by simp [World.cell?,hX7]
  have hown:=hx7.cl
  have hzz:B < w7.heap.size:=hx7.lt
  have hbw:B + 1 ≤ w7.heap.size:=hzz
  clear hf hdf d0 d1 d2 d3 d4 d5 d6 hb6 hX6 k06 k7 hσ5
  go_wp2_with fail
  go_region_law (refine step_append_lies _ rfl (.tmp 26) (.tmp 37) 112 rfl (B + 1) 286 i0 (.agg #[.string ⟨#[]⟩,.int .i64 0,.int .i64 0]) 3 32 Tryz.underlying112 hi0 hz0 hz1 hz2 rfl (by decide) vC7 σ5.p.calls.length (cls σ5.p.calls) rfl (by exact hown.alloc _) ⟨w7.heap.size,0,none⟩ 1 1 [.string (σ.p.ahead L 0).t,.int .i64 (σ.p.ahead L 0).p,.int .i64 (q.2.length:Nat)] rfl rfl (by exact World.news_of_block (heap_alloc_new w7 _)) (three_one rfl rfl rfl) (by decide) (by unfold maxLen; omega) (by omega) (by simp; omega) _ rfl ?_; intro g cap' w8 hown8 hgrow hat hg; have kB:=grow_block hown hgrow B hzz (.inl (Nat.lt_succ_self B)); have k6c:w8.cell? ⟨B,6,none⟩ = some vC7:=(World.cell?_of_block (w:=w7) kB).trans c6; have kf:w8.frozen? ⟨B,6,none⟩ = false:=(World.frozen?_of_block (w:=w7) kB).trans f6)
  all_goals
   have hfin:=cl_fin hx7 hcl5 hown8 hgrow
   clear hown8 hgrow hat hg kB c0 c1 c2 c3 c4 c5 c6 c7 c8 x0 x1 d7 hown hi0 hz0 hz1 hz2
   go_wp2_with fail
   go_end0
   refine ⟨rfl,vV6,?_,k07.trans (hfin.2.s S vV6)⟩
   have hb8:=hb7.kp ⟨_,_,_,hfin.1⟩ hfin.2
   have e2:r.2 = { s with name:=nameIx L σ.p,vals:=q.2 }:=by rw [HR.out]
   rw [HEnd.out,e2]
   exact hb8
end Go.Proofs.YtmfcpbhdggonfaaGreatDoor
