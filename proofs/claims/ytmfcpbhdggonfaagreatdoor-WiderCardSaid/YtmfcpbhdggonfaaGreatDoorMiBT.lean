/- Wider searches: plain mathematics. -/
import Derived.Test.YtmfcpbhdggonfaaGreatDoorMiBS
import Derived.Test.YtmfcpbhdggonfaaGreatDoorMiAY
namespace Go.Proofs.YtmfcpbhdggonfaaGreatDoor
open Go.RowKit RR
theorem rounds_succ {p:Plan} {most:Int}:∀ (n:Nat) (s:Sr),roundsF p most (n + 1) s = (roundsF p most n s).bind fun t=>if endedF t then some t else roundF p most t
 | 0,s=>by
  rw [roundsF]
  show (if endedF s then some s else (roundF p most s).bind (roundsF p most 0)) = if endedF s then some s else roundF p most s
  split
  ·rfl
  ·cases roundF p most s <;> rfl
 | n + 1,s=>by
  rw [roundsF]
  split
  ·rename_i he
   rw [rounds_ended he]
   show some s = if endedF s then some s else roundF p most s
   rw [if_pos he]
  ·rename_i he
   have he':endedF s = false:=by simpa using he
   rw [rounds_next he' n]
   cases hr:roundF p most s with
   | none=>rfl
   | some s2 =>
    show roundsF p most (n + 1) s2 = (roundsF p most n s2).bind _
    exact rounds_succ n s2
structure KeepR (s s':Sr):Prop where
 race:s.rep.race = true→s'.rep.race = true∧s'.rep.raceBy = s.rep.raceBy
 dead:s.rep.dead = true→s'.rep.dead = true∧s'.rep.deadBy = s.rep.deadBy
 seen:s.seen.length ≤ s'.seen.length
theorem KeepR.trans {a b c:Sr} (h:KeepR a b) (g:KeepR b c):KeepR a c:=⟨fun hr=>by
 obtain ⟨h1,h2⟩:=h.race hr
 obtain ⟨h3,h4⟩:=g.race h1
 exact ⟨h3,h4.trans h2⟩,fun hr=>by
 obtain ⟨h1,h2⟩:=h.dead hr
 obtain ⟨h3,h4⟩:=g.dead h1
 exact ⟨h3,h4.trans h2⟩,Nat.le_trans h.seen g.seen⟩
theorem keep_refl (s:Sr):KeepR s s:=⟨fun h=>⟨h,rfl⟩,fun h=>⟨h,rfl⟩,Nat.le_refl _⟩
theorem keep_see (p:Plan) (s:Sr) (x:Pt) (b:ByteArray):KeepR s (seeP p s x b):=by
 rw [seeP_eq]
 refine ⟨fun h=>?_,fun h=>?_,by simp⟩
 ·show (deadR p x b (raceR p x b { s.rep with points:=s.seen.length + 1 })).race = true∧(deadR p x b (raceR p x b { s.rep with points:=s.seen.length + 1 })).raceBy = s.rep.raceBy
  unfold deadR raceR
  simp only [h]
  cases raceF p x.cfg <;> cases s.rep.dead <;> cases deadF p x.cfg <;> exact ⟨rfl,rfl⟩
 ·show (deadR p x b (raceR p x b { s.rep with points:=s.seen.length + 1 })).dead = true∧(deadR p x b (raceR p x b { s.rep with points:=s.seen.length + 1 })).deadBy = s.rep.deadBy
  unfold deadR raceR
  simp only []
  cases raceF p x.cfg <;> cases s.rep.race <;> cases deadF p x.cfg <;> simp [h]
theorem keep_try (p:Plan) (most:Int) (s:Sr) (f:Sg) (i:Int) (ch:Bool):KeepR s (tryF p most s f i ch):=by
 rw [tryF_cases]
 cases succF p most f.pt i ch with
 | none=>exact keep_refl s
 | some x =>
  simp only []
  split
  ·exact keep_refl s
  ·exact keep_see p s _ _
theorem keep_beh (p:Plan) (most:Int) (s:Sr) (f:Sg):KeepR s (behindP p most s f):=((((((keep_try p most s f 0 false).trans (keep_try p most _ f 0 true)).trans (keep_try p most _ f 1 false)).trans (keep_try p most _ f 1 true)).trans (keep_try p most _ f 2 false)).trans (keep_try p most _ f 2 true))
theorem keep_round {p:Plan} {most:Int}:∀ (l:List Sg) (s s':Sr),roundG p most l s = some s'→KeepR s s'
 | [],s,s',h=>by
  have h:some { s with rep:={ s.rep with whole:=s.fresh.isEmpty } } = some s':=h
  cases h
  exact ⟨fun h=>⟨h,rfl⟩,fun h=>⟨h,rfl⟩,Nat.le_refl _⟩
 | f :: r,s,s',h=>by
  have h:(if 600 < (behindP p most s f).seen.length then none else roundG p most r (behindP p most s f)) = some s':=h
  split at h
  ·cases h
  ·exact (keep_beh p most s f).trans (keep_round r _ s' h)
theorem wider_steps {p:Plan} {most:Int} (n:Nat) :
    (roundsF p most n (beginF p) = none→roundsF p most (n + 1) (beginF p) = none) ∧
    ∀ s,roundsF p most n (beginF p) = some s→(s.rep.whole = true→roundsF p most (n + 1) (beginF p) = some s)∧∀ s',roundsF p most (n + 1) (beginF p) = some s'→KeepR s s':=by
 constructor
 ·intro h
  rw [rounds_succ,h]; rfl
 ·intro s hs
  have e:roundsF p most (n + 1) (beginF p) = if endedF s then some s else roundF p most s:=by rw [rounds_succ,hs]; rfl
  constructor
  ·intro hw
   have he:endedF s = true:=by unfold endedF; rw [hw,Bool.or_true]
   rw [e,if_pos he]
  ·intro s' hs'
   rw [e] at hs'
   split at hs'
   ·cases hs'; exact keep_refl s
   ·have hg:roundG p most s.fresh { s with fresh:=[] } = some s':=hs'
    have:=keep_round _ _ _ hg
    exact ⟨this.race,this.dead,this.seen⟩
theorem wider_contexts {p:Plan} {m m':Int} (h0:0 ≤ m) (hm:m ≤ m') {n:Nat} {s s':Sr} (hs:roundsF p m n (beginF p) = some s) (hs':roundsF p m' n (beginF p) = some s') :
    (s.rep.race = true→s'.rep.race = true∧s'.rep.raceBy.size ≤ s.rep.raceBy.size)∧(s.rep.dead = true→s'.rep.dead = true∧s'.rep.deadBy.size ≤ s.rep.deadBy.size):=by
 obtain ⟨j,_,hj,hA,_⟩:=AllK.rounds n 0 (beginF p) s (AllK.begin p m h0) hs
 constructor
 ·intro hr
  obtain ⟨y,⟨_,hR⟩,_,hq,_,h5,_⟩:=hA.mid.sh.race.yes hr
  exact (misses_none (by omega) hs' (by omega) (Rch.wider hm _ _ hR)).1 hq
 ·intro hr
  obtain ⟨y,⟨_,hR⟩,_,hq,_,h5,_⟩:=hA.mid.sh.dead.yes hr
  exact (misses_none (by omega) hs' (by omega) (Rch.wider hm _ _ hR)).2 hq
end Go.Proofs.YtmfcpbhdggonfaaGreatDoor
namespace Go.Proofs.YtmfcpbhdggonfaaGreatDoor
open Go.RowKit RR
theorem play_follow {p:Plan} {s:ByteArray} {c:Cfg} (hs:s.size ≤ 200) (h:followF p s s.size 0 (start1 p) = .ok c):playP p s = (viewF p c,0,0):=by
 unfold playP
 rw [if_neg (by omega),h]
end Go.Proofs.YtmfcpbhdggonfaaGreatDoor
namespace Go.Proofs.YtmfcpbhdggonfaaGreatDoor
open Go.RowKit RR
def zSrL:List Value:=[.int .i64 0,.int .i64 0,.slice none 0 0,.slice none 0 0,.slice none 0 0,.slice none 0 0,.int .i64 0,.slice none 0 0,.slice none 0 0,.bool false,.bool false,.string ⟨#[]⟩,.string ⟨#[]⟩,.bool false,.int .i64 0]
theorem Tryz.zeroSearcher:(Tryz.prog.info? 127).bind (·.zero) = some (.agg zSrL.toArray):=by kernel_rfl
theorem Tryz.sizeSearcher:(Tryz.prog.info? 127).map (·.size) = some 15:=by kernel_rfl
theorem Tryz.buildSearcher (p:Plan) (v:PV) (most:Int):Tryz.prog.built 127 [(0,.agg (plL p v).toArray),(1,.int .i64 most)] = some (srL p v most (.slice none 0 0) (.slice none 0 0) zRp).toArray:=by kernel_rfl
theorem Tryz.buildPoint2 (c:Cfg):Tryz.prog.built 183 [(1,.int .i64 (-1)),(2,.agg (cfgL c).toArray)] = some (ptL ⟨0,-1,c⟩).toArray:=by kernel_rfl
theorem one_sr (p:Plan) (v:PV) (most:Int) (a b:Option Addr) (n m c d:Nat) (r:Rp):(srL p v most (.slice a n c) (.slice b m d) r).all (·.oneCell') = true:=rfl
def BegOut (base:Nat) (p:Plan) (v:PV) (most:Int) (s:Sr) (w:World) (e:Ending) (w':World):Prop:=∃ vS vF,e = .returned (.agg (srL p v most vS vF s.rep).toArray)∧w'.ownsRow base 183 60 vS s.seen.length (s.seen.flatMap ptL)∧w'.ownsRow base 235 61 vF s.fresh.length (s.fresh.flatMap sgL)∧Below base w w'
set_option maxRecDepth 100000 in
set_option maxHeartbeats 8000000 in
theorem se_begin (p:Plan) (v:PV) (most:Int) (w:World) (hp:PIn w p v) :
    Calls Tryz.prog 68 #[.agg (plL p v).toArray,.int .i64 most] w fun e w'=>BegOut w.heap.size p v most (beginF p) w e w':=by
 have HP:=hide hp
 clear hp
 have hb1:Below w.heap.size w (w.alloc (.cells (plL p v).toArray 123)):=(Below.refl _ _).alloc (Nat.le_refl _) _
 have hX0:(w.alloc (.cells (plL p v).toArray 123)).heap[w.heap.size]? = some (.cells (plL p v).toArray 123 (0,0)):=heap_alloc_new _ _
 have z1:w.heap.size < (w.alloc (.cells (plL p v).toArray 123)).heap.size:=by simp
 go_enter Tryz.func68,Tryz.ntmps68
 go_upto_region 1 with (first | (refine wpl_box rfl 123 _ rfl (plL p v) rfl ?_) | (refine wpl_alloc rfl 127 rfl zSrL Tryz.zeroSearcher ?_))
 generalize w.alloc (.cells (plL p v).toArray 123) = w1 at *
 have hb2:Below w.heap.size w (w1.alloc (.cells zSrL.toArray 127)):=hb1.alloc (by omega) _
 have hX0':=(Below.heap_alloc w1 (.cells zSrL.toArray 127) w.heap.size (by omega)).trans hX0
 have hX1:(w1.alloc (.cells zSrL.toArray 127)).heap[w1.heap.size]? = some (.cells zSrL.toArray 127 (0,0)):=heap_alloc_new _ _
 have z2:w1.heap.size < (w1.alloc (.cells zSrL.toArray 127)).heap.size:=by simp
 generalize w1.alloc (.cells zSrL.toArray 127) = w2 at *
 have rg0:=range_whole hX0'
 clear hb1 hX0
 go_upto_region 2 with (first | (refine wpList_load_mid rfl 123 _ rfl w.heap.size 0 rfl (plL p v) _ rg0 Tryz.underlying123 rfl Tryz.sizeProgram ?_) | (refine wpl_build rfl 127 _ rfl [(0,.agg (plL p v).toArray),(1,.int .i64 most)] (by go_simp) (srL p v most (.slice none 0 0) (.slice none 0 0) zRp) (Tryz.buildSearcher p v most) ?_) | (refine wpl_alloc rfl 127 rfl zSrL Tryz.zeroSearcher ?_) | (refine wpl_store_new rfl 127 _ _ rfl _ _ (srL p v most (.slice none 0 0) (.slice none 0 0) zRp) _ rfl rfl (by simp) Tryz.sizeSearcher rfl (one_sr _ _ _ _ _ _ _ _ _ _) ?_))
 have hbx:Below w2.heap.size w2 (w2.alloc (.cells (srL p v most (.slice none 0 0) (.slice none 0 0) zRp).toArray 127)):=(Below.refl _ _).alloc (Nat.le_refl _) _
 have HB3:=hide (hb2.trans (hbx.mono (by omega)))
 have hX03:=(hbx.block _ (by omega)).trans hX0'
 have hX13:=(hbx.block _ (by omega)).trans hX1
 have HA3:Hid (SrAt w2.heap.size w.heap.size p v most (.slice none 0 0) (.slice none 0 0) ⟨[],[],zRp⟩ (w2.alloc (.cells (srL p v most (.slice none 0 0) (.slice none 0 0) zRp).toArray 127))):=⟨heap_alloc_new _ _,owns_nil _ _ _ _,owns_nil _ _ _ _⟩
 have z3:w2.heap.size < (w2.alloc (.cells (srL p v most (.slice none 0 0) (.slice none 0 0) zRp).toArray 127)).heap.size:=by simp
 clear hbx hb2 hX0' hX1 rg0
 generalize w2.alloc (.cells (srL p v most (.slice none 0 0) (.slice none 0 0) zRp).toArray 127) = w3 at *
 have rg0:=range_whole hX03
 go_wp2_with (first | (refine wpList_load_mid rfl 123 _ rfl w.heap.size 0 rfl (plL p v) _ rg0 Tryz.underlying123 rfl Tryz.sizeProgram ?_))
 refine (py_Start p v _ (HP.out.below HB3.out)).mono ?_
 rintro e w4 ⟨rfl,hb4⟩
 have HA4:=hide (HA3.out.below hb4)
 have HB4:=hide (HB3.out.trans (hb4.mono (by omega)))
 have hX14:=(hb4.block _ (by omega)).trans hX13
 have z4:w3.heap.size ≤ w4.heap.size:=hb4.size
 clear hb4 rg0 hX03 hX13 HA3 HB3
 go_wp2_with (first | (refine wpl_build rfl 183 _ rfl [(1,.int .i64 (-1)),(2,.agg (cfgL (start1 p)).toArray)] (by go_simp) (ptL ⟨0,-1,start1 p⟩) (Tryz.buildPoint2 _) ?_))
 refine (se_see w.heap.size w2.heap.size p v most _ _ ⟨[],[],zRp⟩ ⟨0,-1,start1 p⟩ ⟨#[]⟩ _ (by omega) HA4.out ⟨w,Nat.le_refl _,HP.out,HB4.out⟩ (by decide) (by decide)).mono ?_
 rintro e w5 ⟨rfl,vS,vF,hA5,hK5⟩
 have hfar:Far w1.heap.size w2.heap.size (.slice none 0 0) (.slice none 0 0) w4:=⟨by omega,by omega,by simp [Value.ownBlock],by simp [Value.ownBlock]⟩
 have hX15:=(hK5.same hfar).trans hX14
 have HF5:=hide (hK5.far hfar)
 have HB5:=hide (HB4.out.trans hK5.bel)
 have HA5:Hid (SrAt w2.heap.size w.heap.size p v most vS vF (beginF p) w5):=hA5
 obtain ⟨aS,cS,hvS⟩:=owns_slice hA5.seen
 obtain ⟨aF,cF,hvF⟩:=owns_slice hA5.fresh
 have rg5:=range_whole HA5.out.box
 clear hA5 hK5 hfar hX14 HA4 HB4
 subst hvS hvF
 generalize (seeP p { seen:=[],fresh:=[],rep:=zRp } { ctx:=0,last:=-1,cfg:=start1 p } { data:=#[] }).seen.length = nS at *
 generalize (seeP p { seen:=[],fresh:=[],rep:=zRp } { ctx:=0,last:=-1,cfg:=start1 p } { data:=#[] }).fresh.length = nF at *
 go_wp2_with (first | (refine wpList_load_mid rfl 127 _ rfl w2.heap.size 0 rfl (srL p v most (.slice aS nS cS) (.slice aF nF cF) (beginF p).rep) _ rg5 Tryz.underlying127 rfl Tryz.sizeSearcher ?_) | (refine wpl_store_box rfl 127 _ _ rfl w1.heap.size _ (srL p v most (.slice aS nS cS) (.slice aF nF cF) (beginF p).rep) _ rfl rfl hX15 Tryz.sizeSearcher rfl (one_sr _ _ _ _ _ _ _ _ _ _) ?_))
 refine bodyPost_ret (v:=.agg (srL p v most (.slice aS nS cS) (.slice aF nF cF) (beginF p).rep).toArray) ?_ rfl ⟨_,_,rfl,?_,?_,setRow_below HB5.out (by omega)⟩
 ·exact res_cell Tryz.results68 rfl (range_whole (setRow_heap hX15)) Tryz.underlying127 rfl Tryz.sizeSearcher
 ·exact owns_keep HA5.out.seen fun k _ _ hk hv=>(setRow_other (fun e=>HF5.out.nS (by rw [← e]; exact hv))).trans hk
 ·exact owns_keep HA5.out.fresh fun k _ _ hk hv=>(setRow_other (fun e=>HF5.out.nF (by rw [← e]; exact hv))).trans hk
end Go.Proofs.YtmfcpbhdggonfaaGreatDoor
namespace Go.Proofs.YtmfcpbhdggonfaaGreatDoor
open Go.RowKit RR
end Go.Proofs.YtmfcpbhdggonfaaGreatDoor
namespace Go.Proofs.YtmfcpbhdggonfaaGreatDoor
open Go.RowKit RR
def repZ:List Value:=[.bool false,.bool false,.string ⟨#[]⟩,.string ⟨#[]⟩,.bool false,.int .i64 0]
theorem Tryz.sizeRep:(Tryz.prog.info? 35).map (·.size) = some 6:=by kernel_rfl
theorem Tryz.zeroRep:(Tryz.prog.info? 35).bind (·.zero) = some (.agg repZ.toArray):=by kernel_rfl
theorem Tryz.buildRep:Tryz.prog.built 35 [] = some repZ.toArray:=by kernel_rfl
theorem one_rep:repZ.all (·.oneCell') = true:=rfl
end Go.Proofs.YtmfcpbhdggonfaaGreatDoor
namespace Go.Proofs.YtmfcpbhdggonfaaGreatDoor
open Go.RowKit RR
def SrR (r:Rp × Int) (w:World) (e:Ending) (w':World):Prop:=e = .returned (.tuple #[.agg (rpL r.1).toArray,.int .i64 r.2])∧Below w.heap.size w w'
theorem one_rp (r:Rp):(rpL r).all (·.oneCell') = true:=rfl
theorem beg_seen (p:Plan):(beginF p).seen.length = 1∧(beginF p).fresh.length = 1:=by
 have:=seeP_len p ⟨[],[],zRp⟩ ⟨0,-1,start1 p⟩ ⟨#[]⟩
 exact this
theorem beg_ok (p:Plan):OkS 0 (beginF p).fresh:=by
 have e:(beginF p).fresh = [⟨⟨0,-1,start1 p⟩,⟨#[]⟩⟩]:=rfl
 rw [e]
 intro f hf
 rw [List.mem_singleton] at hf
 subst hf
 exact ⟨⟨Int.le_refl 0,(by decide:(0:Int) ≤ 100)⟩,Nat.le_refl 0⟩
theorem sr_report {base B:Nat} {p:Plan} {v:PV} {most:Int} {vS vF:Value} {s:Sr} {w:World} (h:SrAt B base p v most vS vF s w):w.rangeAt B 9 (rpL s.rep):=range_of_block h.box fun j x hx=>by
 have e:srL p v most vS vF s.rep = (plL p v ++ [.int .i64 most,vS,vF]) ++ rpL s.rep:=rfl
 rw [e,List.getElem?_append_right (by show 9 ≤ 9 + j; omega)]
 have:9 + j - (plL p v ++ [.int .i64 most,vS,vF]).length = j:=by show 9 + j - 9 = j; omega
 rw [this]; exact hx
set_option maxRecDepth 100000 in
set_option maxHeartbeats 8000000 in
theorem se_Program (text:ByteArray) (c:Int) (n:Nat) (ns:List Nm) (sts:List Stm) (nds:List Nd) (w:World) (hg:GoodP text ns sts nds) (h1:¬ c < 1) (h6:¬ 6 < c) (hn:n ≤ 60) :
    Calls Tryz.prog 41 #[.string text,.int .i64 c,.int .i64 n] w fun e w'=>SrR (searchP (planF ns sts nds) c n) w e w':=by
 have HG:=hide hg
 clear hg
 have hn6:¬ (60:Int) < n:=by omega
 have HSP:Hid (searchP (planF ns sts nds) c n = match roundsF (planF ns sts nds) c n (beginF (planF ns sts nds)) with
  | none=>(zRp,9)
  | some s=>(s.rep,0)):=by
  show _ = _
  unfold searchP
  rw [if_neg (by omega),Int.toNat_natCast]
  cases roundsF (planF ns sts nds) c n (beginF (planF ns sts nds)) <;> rfl
 go_enter Tryz.func41,Tryz.ntmps41
 go_upto_region 1 with (first | (refine wpl_alloc rfl 35 rfl repZ Tryz.zeroRep ?_))
 have hR:(w.alloc (.cells repZ.toArray 35)).heap[w.heap.size]? = some (.cells repZ.toArray 35 (0,0)):=heap_alloc_new _ _
 have HB:=hide (show Below w.heap.size w (w.alloc (.cells repZ.toArray 35)) from (Below.refl _ _).alloc (Nat.le_refl _) _)
 have hz:w.heap.size < (w.alloc (.cells repZ.toArray 35)).heap.size:=by simp
 generalize w.alloc (.cells repZ.toArray 35) = W at *
 go_wp2_with fail
 refine (HG.out.read _).mono ?_
 rintro e w1 ⟨⟨a1,c1,a2,n2,c2,a3,c3,a4,c4,rfl,hnm,hst,hnd⟩,hb1⟩
 have hR1:=(hb1.block _ hz).trans hR
 have hz1:w.heap.size < w1.heap.size:=Nat.lt_of_lt_of_le hz hb1.size
 have HB1:=hide (HB.out.trans (hb1.mono (by omega)))
 have HN:=hide hnm
 have HS:=hide hst
 have HD:=hide hnd
 clear hb1 hR hnm hst hnd HB
 have hb2:∀ ob:Obj,Below w1.heap.size w1 (w1.alloc ob):=fun ob=>(Below.refl _ _).alloc (Nat.le_refl _) ob
 go_wp2_with fail
 refine (pn_Make a1 a2 a3 a4 c1 c2 c3 c4 n2 ns sts nds _ (HN.out.below (hb2 _)) (HS.out.below (hb2 _)) (HD.out.below (hb2 _)) HG.out.b1 HG.out.b2 HG.out.b3 HG.out.b4).mono ?_
 rintro e w3 ⟨aT,cT,aP,cP,aL,cL,aN,cN,rfl,hpl,hb3⟩
 have hb13:Below w1.heap.size w1 w3:=(hb2 _).trans (hb3.mono (by simp))
 have HB3:=hide (HB1.out.trans (hb13.mono (by omega)))
 have hR3:=(hb13.block _ hz1).trans hR1
 have hz3:w.heap.size < w3.heap.size:=Nat.lt_of_lt_of_le hz1 hb13.size
 have HP3:Hid (PIn w3 (planF ns sts nds) ⟨aT,cT,aP,cP,aL,cL,aN,cN⟩):=⟨hpl,HG.out.bS,HG.out.bK,HG.out.bT,HG.out.bP,HG.out.bL,HG.out.bN,HG.out.bV⟩
 clear hb3 hb13 hpl hb2 hR1 HN HS HD HB1
 generalize hPl:planF ns sts nds = p at *
 have HPl:=hide hPl
 clear hPl
 go_wp2_with fail
 refine (se_begin p ⟨aT,cT,aP,cP,aL,cL,aN,cN⟩ c _ HP3.out).mono ?_
 rintro e w4 ⟨vS,vF,rfl,hS4,hF4,hb4⟩
 generalize (⟨aT,cT,aP,cP,aL,cL,aN,cN⟩:PV) = v at *
 obtain ⟨aS,cS,hvS⟩:=owns_slice hS4
 obtain ⟨aF,cF,hvF⟩:=owns_slice hF4
 subst hvS hvF
 have hR4:=(hb4.block _ hz3).trans hR3
 have HB4:=hide (HB3.out.trans (hb4.mono (Nat.le_of_lt hz3)))
 have HS4:=hide hS4
 have HF4:=hide hF4
 have HBW:=hide hb4
 have hz4:w3.heap.size ≤ w4.heap.size:=hb4.size
 clear hS4 hF4 hb4 hR3 HB3
 have hbs:=beg_seen p
 have HOK:=hide (beg_ok p)
 generalize beginF p = s at *
 generalize hq1:s.seen.length = nS at *
 generalize hq2:s.fresh.length = nF at *
 have HQ1:=hide hq1
 have HQ2:=hide hq2
 have HBS:=hide hbs
 clear hq1 hq2 hbs
 go_upto_region 7 with (first | (refine wpl_alloc rfl 127 rfl zSrL Tryz.zeroSearcher ?_) | (refine wpl_store_new rfl 127 _ _ rfl _ _ (srL p v c (.slice aS nS cS) (.slice aF nF cF) s.rep) _ rfl rfl (by simp) Tryz.sizeSearcher rfl (one_sr _ _ _ _ _ _ _ _ _ _) ?_))
 have hb5:Below w4.heap.size w4 (w4.alloc (.cells (srL p v c (.slice aS nS cS) (.slice aF nF cF) s.rep).toArray 127)):=(Below.refl _ _).alloc (Nat.le_refl _) _
 have HA5:Hid (SrAt w4.heap.size w3.heap.size p v c (.slice aS nS cS) (.slice aF nF cF) s (w4.alloc (.cells (srL p v c (.slice aS nS cS) (.slice aF nF cF) s.rep).toArray 127))):=⟨heap_alloc_new _ _,by rw [HQ1.out]; exact HS4.out.alloc _,by rw [HQ2.out]; exact HF4.out.alloc _⟩
 have hR5:=(hb5.block _ (by omega)).trans hR4
 have HB5:=hide (HB4.out.trans (hb5.mono (by omega)))
 have HPI:Hid (PInB w3.heap.size (w4.alloc (.cells (srL p v c (.slice aS nS cS) (.slice aF nF cF) s.rep).toArray 127)) p v):=⟨w3,Nat.le_refl _,HP3.out,HBW.out.trans (hb5.mono hz4)⟩
 clear hb5 hR4 HB4 HS4 HF4 HBW HP3
 generalize w4.alloc (.cells (srL p v c (.slice aS nS cS) (.slice aF nF cF) s.rep).toArray 127) = w5 at *
 go_wp2_with fail
 refine (se_goByRounds w3.heap.size w4.heap.size p v c _ _ s n _ hz4 HA5.out HPI.out hn (by omega) (by rw [HQ1.out,HBS.out.1]; decide) (by rw [HQ1.out,HQ2.out,HBS.out.1,HBS.out.2]; decide) HOK.out).mono ?_
 intro e w6 hro
 cases hr:roundsF p c n s with
 | none =>
  rw [hr] at hro HSP
  obtain ⟨rfl,hb6⟩:=hro
  have hR6:=(hb6.block _ hz3).trans hR5
  have HB6:=hide (HB5.out.trans (hb6.mono (Nat.le_of_lt hz3)))
  clear hb6 hR5 HB5 hr
  go_wp2_with (first | (refine wpl_zero rfl 35 rfl repZ Tryz.buildRep ?_) | (refine wpl_store_box rfl 35 _ _ rfl w.heap.size _ repZ _ rfl rfl hR6 Tryz.sizeRep rfl one_rep ?_))
  refine bodyPost_ret (v:=.tuple #[.agg repZ.toArray,.int .i64 9]) ?_ rfl ⟨by rw [HPl.out,HSP.out]; rfl,setRow_below HB6.out (Nat.le_refl _)⟩
  exact res_cell_tmp Tryz.results41 rfl rfl (range_whole (setRow_heap hR6)) Tryz.underlying35 rfl Tryz.sizeRep
 | some s2 =>
  rw [hr] at hro HSP
  obtain ⟨rfl,vS2,vF2,hA6,hK6⟩:=hro
  have hR6:=(hK6.bel.block _ hz3).trans hR5
  have HB6:=hide (HB5.out.trans (hK6.bel.mono (Nat.le_of_lt hz3)))
  have rg9:=sr_report hA6
  clear hA6 hK6 hR5 HB5 hr
  go_wp2_with (first | (refine wpList_load_mid rfl 35 _ rfl w4.heap.size 9 rfl (rpL s2.rep) _ rg9 Tryz.underlying35 rfl Tryz.sizeRep ?_) | (refine wpl_store_box rfl 35 _ _ rfl w.heap.size _ (rpL s2.rep) _ rfl rfl hR6 Tryz.sizeRep rfl (one_rp _) ?_))
  refine bodyPost_ret (v:=.tuple #[.agg (rpL s2.rep).toArray,.int .i64 0]) ?_ rfl ⟨by rw [HPl.out,HSP.out],setRow_below HB6.out (Nat.le_refl _)⟩
  exact res_cell_tmp Tryz.results41 rfl rfl (range_whole (setRow_heap hR6)) Tryz.underlying35 rfl Tryz.sizeRep
set_option maxRecDepth 100000 in
set_option maxHeartbeats 8000000 in
theorem m_Search_any (text:ByteArray) (c n:Int) (r:Rp × Int) (h:∀ w,Calls Tryz.prog 41 #[.string text,.int .i64 c,.int .i64 n] w fun e w'=>SrR r w e w') (w:World) :
    Calls Tryz.prog 20 #[.string text,.int .i64 c,.int .i64 n] w fun e w'=>SrR r w e w':=by
 have HG:=hide h
 clear h
 go_enter Tryz.func20,Tryz.ntmps20
 go_upto_region 1 with (first | (refine wpl_alloc rfl 35 rfl repZ Tryz.zeroRep ?_))
 have hR:(w.alloc (.cells repZ.toArray 35)).heap[w.heap.size]? = some (.cells repZ.toArray 35 (0,0)):=heap_alloc_new _ _
 have HB:=hide (show Below w.heap.size w (w.alloc (.cells repZ.toArray 35)) from (Below.refl _ _).alloc (Nat.le_refl _) _)
 have hz:w.heap.size < (w.alloc (.cells repZ.toArray 35)).heap.size:=by simp
 generalize w.alloc (.cells repZ.toArray 35) = W at *
 go_wp2_with fail
 refine (HG.out _).mono ?_
 rintro e w1 ⟨rfl,hb1⟩
 have hR1:=(hb1.block _ hz).trans hR
 have HB1:=hide (HB.out.trans (hb1.mono (by omega)))
 clear hb1 hR
 go_wp2_with (first | (refine wpl_store_box rfl 35 _ _ rfl w.heap.size _ (rpL r.1) _ rfl rfl hR1 Tryz.sizeRep rfl (one_rp _) ?_))
 refine bodyPost_ret (v:=.tuple #[.agg (rpL r.1).toArray,.int .i64 r.2]) ?_ rfl ⟨rfl,setRow_below HB1.out (Nat.le_refl _)⟩
 exact res_cell_tmp Tryz.results20 rfl rfl (range_whole (setRow_heap hR1)) Tryz.underlying35 rfl Tryz.sizeRep
theorem m_Search (text:ByteArray) (c:Int) (n:Nat) (ns:List Nm) (sts:List Stm) (nds:List Nd) (w:World) (hg:GoodP text ns sts nds) (h1:¬ c < 1) (h6:¬ 6 < c) (hn:n ≤ 60) :
    Calls Tryz.prog 20 #[.string text,.int .i64 c,.int .i64 n] w fun e w'=>SrR (searchP (planF ns sts nds) c n) w e w' :=
 m_Search_any text c n _ (fun w=>se_Program text c n ns sts nds w hg h1 h6 hn) w
end Go.Proofs.YtmfcpbhdggonfaaGreatDoor
