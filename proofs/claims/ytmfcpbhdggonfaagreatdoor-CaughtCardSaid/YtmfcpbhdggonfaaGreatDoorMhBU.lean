/- What a report shows is so: plain mathematics. -/
import Derived.Test.YtmfcpbhdggonfaaGreatDoorMhBT
import Derived.Test.YtmfcpbhdggonfaaGreatDoorMhAY
namespace Go.Proofs.YtmfcpbhdggonfaaGreatDoor
open Go.RowKit RR
structure ShowS (p:Plan) (q:Cfg→Bool) (most:Int) (k:Nat) (flag:Bool) (b:ByteArray):Prop where
 fol:∃ c,followF p b b.size 0 (start1 p) = .ok c∧q c = flag
 ctx:∃ n:Nat,ctxN b = ((n:Int),0)∧(n:Int) ≤ most
 size:b.size ≤ k
 no:flag = false→b = ⟨#[]⟩
theorem show_of {p:Plan} {most:Int} {q:Cfg→Bool} {k:Nat} {flag:Bool} {b:ByteArray} (h:ShowK p most q k flag b) (hk:k ≤ 200) (h0:0 ≤ most) (hq:flag = false→q (start1 p) = false):ShowS p q most k flag b:=by
 cases hf:flag with
 | true =>
  obtain ⟨y,⟨hB,_⟩,h2,h3,h4,h5,_⟩:=h.yes hf
  obtain ⟨w,hw,e1,e2,_⟩:=hB.ok
  subst h2
  refine ⟨⟨y.pt.cfg,hB.fol,h3⟩,⟨w.ctx,?_,by rw [e2]; exact h4⟩,h5,fun h=>by cases h⟩
  rw [← e1]
  exact hw.ctxN (by rw [e1]; omega)
 | false =>
  have hb:=h.no hf
  subst hb
  refine ⟨⟨start1 p,rfl,hq hf⟩,⟨0,?_,h0⟩,Nat.zero_le _,fun _=>rfl⟩
  exact WkOk.zero.ctxN (by decide)
theorem start_seen {p:Plan} {most:Int} {k:Nat} {s:Sr} (h:AllK p most k s):(⟨0,-1,start1 p⟩:Pt) ∈ s.seen:=(h.seen.seen _).2 ⟨0,Nat.zero_le _,rfl⟩
theorem rounds_len {p:Plan} {most:Int}:∀ (n:Nat) (s s':Sr),s.fresh.length ≤ s.seen.length→s.seen.length ≤ 600→roundsF p most n s = some s'→s'.seen.length ≤ 600
 | 0,s,s',_,h,hr=>by
  have hr:some s = some s':=hr
  cases hr
  exact h
 | n + 1,s,s',h1,h2,hr=>by
  rw [roundsF] at hr
  split at hr
  ·cases hr; exact h2
  ·obtain ⟨s2,h3,h4⟩:=Option.bind_eq_some_iff.1 hr
   have hg:roundG p most s.fresh { s with fresh:=[] } = some s2:=h3
   have:=round_len s.fresh { s with fresh:=[] } s2 (Nat.zero_le _) h2 hg
   exact rounds_len n s2 s' this.1 this.2 h4
theorem report_ok {p:Plan} {most:Int} (h0:0 ≤ most) {n:Nat} (hn:n ≤ 60) {s:Sr} (hs:roundsF p most n (beginF p) = some s) :
    ShowS p (raceF p) most n s.rep.race s.rep.raceBy∧ShowS p (deadF p) most n s.rep.dead s.rep.deadBy∧1 ≤ s.rep.points∧s.rep.points ≤ 600:=by
 obtain ⟨j,_,hj,hA,_⟩:=AllK.rounds n 0 (beginF p) s (AllK.begin p most h0) hs
 have hst:=start_seen hA
 refine ⟨show_of (hA.mid.sh.race.mono (by omega)) (by omega) h0 (fun hf=>?_),show_of (hA.mid.sh.dead.mono (by omega)) (by omega) h0 (fun hf=>?_),?_,?_⟩
 ·cases hq:raceF p (start1 p) with
  | false=>rfl
  | true =>
   have:=hA.flag.race.2 ⟨_,hst,hq⟩
   rw [hf] at this; cases this
 ·cases hq:deadF p (start1 p) with
  | false=>rfl
  | true =>
   have:=hA.flag.dead.2 ⟨_,hst,hq⟩
   rw [hf] at this; cases this
 ·rw [hA.flag.points]
  exact List.length_pos_of_mem hst
 ·rw [hA.flag.points]
  have e:(beginF p).seen.length = 1∧(beginF p).fresh.length = 1:=seeP_len p ⟨[],[],zRp⟩ ⟨0,-1,start1 p⟩ ⟨#[]⟩
  exact rounds_len n (beginF p) s (by omega) (by omega) hs
theorem play_follow {p:Plan} {s:ByteArray} {c:Cfg} (hs:s.size ≤ 200) (h:followF p s s.size 0 (start1 p) = .ok c):playP p s = (viewF p c,0,0):=by
 unfold playP
 rw [if_neg (by omega),h]
theorem walk_points (p:Plan) (path:ByteArray) (most:Int):∀ (d i:Nat) (c:Cfg) (w:Wk),((w.ctx:Int) ≤ most→Rch p most i ⟨w.ctx,w.last,c⟩)→(w.race < 0 ∨ ∃ x,Rch p most w.race.toNat x∧raceF p x.cfg = true∧w.race.toNat ≤ i)→(w.dead < 0 ∨ ∃ x,Rch p most w.dead.toNat x∧deadF p x.cfg = true∧w.dead.toNat ≤ i) →
    ((walkW p path most d i c w).race < 0 ∨ ∃ x,Rch p most (walkW p path most d i c w).race.toNat x∧raceF p x.cfg = true∧(walkW p path most d i c w).race.toNat ≤ i + d)∧((walkW p path most d i c w).dead < 0 ∨ ∃ x,Rch p most (walkW p path most d i c w).dead.toNat x∧deadF p x.cfg = true∧(walkW p path most d i c w).dead.toNat ≤ i + d)
 | 0,i,c,w,_,h1,h2=>⟨h1,h2⟩
 | d + 1,i,c,w,h0,h1,h2=>by
  have hq:=seenW_s p most i c w
  have hr:(seenW p most i c w).race < 0 ∨ ∃ x,Rch p most (seenW p most i c w).race.toNat x∧raceF p x.cfg = true∧(seenW p most i c w).race.toNat ≤ i:=by
   have e:(seenW p most i c w).race = if decide ((w.ctx:Int) ≤ most) && raceF p c && decide (w.race < 0) then (i:Int) else w.race:=by
    unfold seenW
    simp only []
    split <;> split <;> rfl
   rw [e]
   split
   ·rename_i hc
    simp only [Bool.and_eq_true,decide_eq_true_eq] at hc
    refine .inr ⟨⟨w.ctx,w.last,c⟩,?_,hc.1.2,by rw [Int.toNat_natCast]; exact Nat.le_refl _⟩
    rw [Int.toNat_natCast]
    exact h0 hc.1.1
   ·exact h1
  have hd:(seenW p most i c w).dead < 0 ∨ ∃ x,Rch p most (seenW p most i c w).dead.toNat x∧deadF p x.cfg = true∧(seenW p most i c w).dead.toNat ≤ i:=by
   have e:(seenW p most i c w).dead = if decide ((w.ctx:Int) ≤ most) && deadF p c && decide (w.dead < 0) then (i:Int) else w.dead:=by
    unfold seenW
    simp only []
    cases (decide ((w.ctx:Int) ≤ most) && raceF p c && decide (w.race < 0)) <;> simp only [if_true,Bool.false_eq_true,if_false] <;> split <;> rfl
   rw [e]
   split
   ·rename_i hc
    simp only [Bool.and_eq_true,decide_eq_true_eq] at hc
    refine .inr ⟨⟨w.ctx,w.last,c⟩,?_,hc.1.2,by rw [Int.toNat_natCast]; exact Nat.le_refl _⟩
    rw [Int.toNat_natCast]
    exact h0 hc.1.1
   ·exact h2
  unfold walkW
  split
  ·refine ⟨hr.imp id ?_,hd.imp id ?_⟩
   ·rintro ⟨x,a,b,e⟩; exact ⟨x,a,b,by omega⟩
   ·rintro ⟨x,a,b,e⟩; exact ⟨x,a,b,by omega⟩
  ·rename_i hn
   obtain ⟨x,c1,hx,hc⟩:=nextB_step (p:=p) (path:=path) (i:=i) (c:=c) (fun e=>hn (.inl e))
   rw [hx]
   simp only []
   rw [hc]
   simp only []
   have:=walk_points p path most d (i + 1) c1 (stepW (nextB p path i c) x.1 (seenW p most i c w)) ?_ (hr.imp id (by rintro ⟨y,a,b,e⟩; exact ⟨y,a,b,Nat.le_succ_of_le e⟩)) (hd.imp id (by rintro ⟨y,a,b,e⟩; exact ⟨y,a,b,Nat.le_succ_of_le e⟩))
   ·rw [show i + 1 + d = i + (d + 1) by omega] at this
    exact this
   ·intro hle
    have hle:(((if x.1 ≠ (seenW p most i c w).last then (seenW p most i c w).ctx + 1 else (seenW p most i c w).ctx:Nat)):Int) ≤ most:=hle
    show Rch p most (i + 1) ⟨(((if x.1 ≠ (seenW p most i c w).last then (seenW p most i c w).ctx + 1 else (seenW p most i c w).ctx:Nat)):Int),x.1,c1⟩
    rw [hq.2.1,hq.2.2] at hle ⊢
    have hle0:(w.ctx:Int) ≤ most:=by split at hle <;> omega
    have e:(((if x.1 ≠ w.last then w.ctx + 1 else w.ctx:Nat)):Int) = if x.1 ≠ w.last then (w.ctx:Int) + 1 else w.ctx:=by split <;> simp
    rw [e] at hle ⊢
    exact Rch.step (f:=⟨w.ctx,w.last,c⟩) (h0 hle0) hc hle
end Go.Proofs.YtmfcpbhdggonfaaGreatDoor
namespace Go.Proofs.YtmfcpbhdggonfaaGreatDoor
open Go.RowKit RR
def zSrL:List Value:=[.int .i64 0,.int .i64 0,.slice none 0 0,.slice none 0 0,.slice none 0 0,.slice none 0 0,.int .i64 0,.slice none 0 0,.slice none 0 0,.bool false,.bool false,.string ⟨#[]⟩,.string ⟨#[]⟩,.bool false,.int .i64 0]
theorem Tryz.zeroSearcher:(Tryz.prog.info? 127).bind (·.zero) = some (.agg zSrL.toArray):=by kernel_rfl
theorem Tryz.sizeSearcher:(Tryz.prog.info? 127).map (·.size) = some 15:=by kernel_rfl
theorem Tryz.buildSearcher (p:Plan) (v:PV) (most:Int):Tryz.prog.built 127 [(0,.agg (plL p v).toArray),(1,.int .i64 most)] = some (srL p v most (.slice none 0 0) (.slice none 0 0) zRp).toArray:=by kernel_rfl
theorem Tryz.buildPoint2 (c:Cfg):Tryz.prog.built 183 [(1,.int .i64 (-1)),(2,.agg (cfgL c).toArray)] = some (ptL ⟨0,-1,c⟩).toArray:=by kernel_rfl
theorem one_sr (p:Plan) (v:PV) (most:Int) (a b:Option Addr) (n m c d:Nat) (r:Rp):(srL p v most (.slice a n c) (.slice b m d) r).all (·.oneCell') = true:=rfl
def BegOut (base:Nat) (p:Plan) (v:PV) (most:Int) (s:Sr) (w:World) (e:Ending) (w':World):Prop:=∃ vS vF,e = .returned (.agg (srL p v most vS vF s.rep).toArray)∧w'.ownsRow base 183 60 vS s.seen.length (s.seen.flatMap ptL)∧w'.ownsRow base 235 61 vF s.fresh.length (s.fresh.flatMap sgL)∧Below base w w'
set_option maxRecDepth 100000 in
set_option maxHeartbeats 8000000 in
theorem se_begin (p:Plan) (v:PV) (most:Int) (w:World) (hp:PIn w p v) :
    Calls Tryz.prog 68 #[.agg (plL p v).toArray,.int .i64 most] w fun e w'=>BegOut w.heap.size p v most (beginF p) w e w':=by
 have HP:=hide hp
 clear hp
 have hb1:Below w.heap.size w (w.alloc (.cells (plL p v).toArray 123)):=(Below.refl _ _).alloc (Nat.le_refl _) _
 have hX0:(w.alloc (.cells (plL p v).toArray 123)).heap[w.heap.size]? = some (.cells (plL p v).toArray 123 (0,0)):=heap_alloc_new _ _
 have z1:w.heap.size < (w.alloc (.cells (plL p v).toArray 123)).heap.size:=by simp
 go_enter Tryz.func68,Tryz.ntmps68
 go_upto_region 1 with (first | (refine wpl_box rfl 123 _ rfl (plL p v) rfl ?_) | (refine wpl_alloc rfl 127 rfl zSrL Tryz.zeroSearcher ?_))
 generalize w.alloc (.cells (plL p v).toArray 123) = w1 at *
 have hb2:Below w.heap.size w (w1.alloc (.cells zSrL.toArray 127)):=hb1.alloc (by omega) _
 have hX0':=(Below.heap_alloc w1 (.cells zSrL.toArray 127) w.heap.size (by omega)).trans hX0
 have hX1:(w1.alloc (.cells zSrL.toArray 127)).heap[w1.heap.size]? = some (.cells zSrL.toArray 127 (0,0)):=heap_alloc_new _ _
 have z2:w1.heap.size < (w1.alloc (.cells zSrL.toArray 127)).heap.size:=by simp
 generalize w1.alloc (.cells zSrL.toArray 127) = w2 at *
 have rg0:=range_whole hX0'
 clear hb1 hX0
 go_upto_region 2 with (first | (refine wpList_load_mid rfl 123 _ rfl w.heap.size 0 rfl (plL p v) _ rg0 Tryz.underlying123 rfl Tryz.sizeProgram ?_) | (refine wpl_build rfl 127 _ rfl [(0,.agg (plL p v).toArray),(1,.int .i64 most)] (by go_simp) (srL p v most (.slice none 0 0) (.slice none 0 0) zRp) (Tryz.buildSearcher p v most) ?_) | (refine wpl_alloc rfl 127 rfl zSrL Tryz.zeroSearcher ?_) | (refine wpl_store_new rfl 127 _ _ rfl _ _ (srL p v most (.slice none 0 0) (.slice none 0 0) zRp) _ rfl rfl (by simp) Tryz.sizeSearcher rfl (one_sr _ _ _ _ _ _ _ _ _ _) ?_))
 have hbx:Below w2.heap.size w2 (w2.alloc (.cells (srL p v most (.slice none 0 0) (.slice none 0 0) zRp).toArray 127)):=(Below.refl _ _).alloc (Nat.le_refl _) _
 have HB3:=hide (hb2.trans (hbx.mono (by omega)))
 have hX03:=(hbx.block _ (by omega)).trans hX0'
 have hX13:=(hbx.block _ (by omega)).trans hX1
 have HA3:Hid (SrAt w2.heap.size w.heap.size p v most (.slice none 0 0) (.slice none 0 0) ⟨[],[],zRp⟩ (w2.alloc (.cells (srL p v most (.slice none 0 0) (.slice none 0 0) zRp).toArray 127))):=⟨heap_alloc_new _ _,owns_nil _ _ _ _,owns_nil _ _ _ _⟩
 have z3:w2.heap.size < (w2.alloc (.cells (srL p v most (.slice none 0 0) (.slice none 0 0) zRp).toArray 127)).heap.size:=by simp
 clear hbx hb2 hX0' hX1 rg0
 generalize w2.alloc (.cells (srL p v most (.slice none 0 0) (.slice none 0 0) zRp).toArray 127) = w3 at *
 have rg0:=range_whole hX03
 go_wp2_with (first | (refine wpList_load_mid rfl 123 _ rfl w.heap.size 0 rfl (plL p v) _ rg0 Tryz.underlying123 rfl Tryz.sizeProgram ?_))
 refine (py_Start p v _ (HP.out.below HB3.out)).mono ?_
 rintro e w4 ⟨rfl,hb4⟩
 have HA4:=hide (HA3.out.below hb4)
 have HB4:=hide (HB3.out.trans (hb4.mono (by omega)))
 have hX14:=(hb4.block _ (by omega)).trans hX13
 have z4:w3.heap.size ≤ w4.heap.size:=hb4.size
 clear hb4 rg0 hX03 hX13 HA3 HB3
 go_wp2_with (first | (refine wpl_build rfl 183 _ rfl [(1,.int .i64 (-1)),(2,.agg (cfgL (start1 p)).toArray)] (by go_simp) (ptL ⟨0,-1,start1 p⟩) (Tryz.buildPoint2 _) ?_))
 refine (se_see w.heap.size w2.heap.size p v most _ _ ⟨[],[],zRp⟩ ⟨0,-1,start1 p⟩ ⟨#[]⟩ _ (by omega) HA4.out ⟨w,Nat.le_refl _,HP.out,HB4.out⟩ (by decide) (by decide)).mono ?_
 rintro e w5 ⟨rfl,vS,vF,hA5,hK5⟩
 have hfar:Far w1.heap.size w2.heap.size (.slice none 0 0) (.slice none 0 0) w4:=⟨by omega,by omega,by simp [Value.ownBlock],by simp [Value.ownBlock]⟩
 have hX15:=(hK5.same hfar).trans hX14
 have HF5:=hide (hK5.far hfar)
 have HB5:=hide (HB4.out.trans hK5.bel)
 have HA5:Hid (SrAt w2.heap.size w.heap.size p v most vS vF (beginF p) w5):=hA5
 obtain ⟨aS,cS,hvS⟩:=owns_slice hA5.seen
 obtain ⟨aF,cF,hvF⟩:=owns_slice hA5.fresh
 have rg5:=range_whole HA5.out.box
 clear hA5 hK5 hfar hX14 HA4 HB4
 subst hvS hvF
 generalize (seeP p { seen:=[],fresh:=[],rep:=zRp } { ctx:=0,last:=-1,cfg:=start1 p } { data:=#[] }).seen.length = nS at *
 generalize (seeP p { seen:=[],fresh:=[],rep:=zRp } { ctx:=0,last:=-1,cfg:=start1 p } { data:=#[] }).fresh.length = nF at *
 go_wp2_with (first | (refine wpList_load_mid rfl 127 _ rfl w2.heap.size 0 rfl (srL p v most (.slice aS nS cS) (.slice aF nF cF) (beginF p).rep) _ rg5 Tryz.underlying127 rfl Tryz.sizeSearcher ?_) | (refine wpl_store_box rfl 127 _ _ rfl w1.heap.size _ (srL p v most (.slice aS nS cS) (.slice aF nF cF) (beginF p).rep) _ rfl rfl hX15 Tryz.sizeSearcher rfl (one_sr _ _ _ _ _ _ _ _ _ _) ?_))
 refine bodyPost_ret (v:=.agg (srL p v most (.slice aS nS cS) (.slice aF nF cF) (beginF p).rep).toArray) ?_ rfl ⟨_,_,rfl,?_,?_,setRow_below HB5.out (by omega)⟩
 ·exact res_cell Tryz.results68 rfl (range_whole (setRow_heap hX15)) Tryz.underlying127 rfl Tryz.sizeSearcher
 ·exact owns_keep HA5.out.seen fun k _ _ hk hv=>(setRow_other (fun e=>HF5.out.nS (by rw [← e]; exact hv))).trans hk
 ·exact owns_keep HA5.out.fresh fun k _ _ hk hv=>(setRow_other (fun e=>HF5.out.nF (by rw [← e]; exact hv))).trans hk
end Go.Proofs.YtmfcpbhdggonfaaGreatDoor
namespace Go.Proofs.YtmfcpbhdggonfaaGreatDoor
open Go.RowKit RR
end Go.Proofs.YtmfcpbhdggonfaaGreatDoor
namespace Go.Proofs.YtmfcpbhdggonfaaGreatDoor
open Go.RowKit RR
def repZ:List Value:=[.bool false,.bool false,.string ⟨#[]⟩,.string ⟨#[]⟩,.bool false,.int .i64 0]
theorem Tryz.sizeRep:(Tryz.prog.info? 35).map (·.size) = some 6:=by kernel_rfl
theorem Tryz.zeroRep:(Tryz.prog.info? 35).bind (·.zero) = some (.agg repZ.toArray):=by kernel_rfl
theorem Tryz.buildRep:Tryz.prog.built 35 [] = some repZ.toArray:=by kernel_rfl
theorem one_rep:repZ.all (·.oneCell') = true:=rfl
end Go.Proofs.YtmfcpbhdggonfaaGreatDoor
namespace Go.Proofs.YtmfcpbhdggonfaaGreatDoor
open Go.RowKit RR
def SrR (r:Rp × Int) (w:World) (e:Ending) (w':World):Prop:=e = .returned (.tuple #[.agg (rpL r.1).toArray,.int .i64 r.2])∧Below w.heap.size w w'
theorem one_rp (r:Rp):(rpL r).all (·.oneCell') = true:=rfl
theorem beg_seen (p:Plan):(beginF p).seen.length = 1∧(beginF p).fresh.length = 1:=by
 have:=seeP_len p ⟨[],[],zRp⟩ ⟨0,-1,start1 p⟩ ⟨#[]⟩
 exact this
theorem beg_ok (p:Plan):OkS 0 (beginF p).fresh:=by
 have e:(beginF p).fresh = [⟨⟨0,-1,start1 p⟩,⟨#[]⟩⟩]:=rfl
 rw [e]
 intro f hf
 rw [List.mem_singleton] at hf
 subst hf
 exact ⟨⟨Int.le_refl 0,(by decide:(0:Int) ≤ 100)⟩,Nat.le_refl 0⟩
theorem sr_report {base B:Nat} {p:Plan} {v:PV} {most:Int} {vS vF:Value} {s:Sr} {w:World} (h:SrAt B base p v most vS vF s w):w.rangeAt B 9 (rpL s.rep):=range_of_block h.box fun j x hx=>by
 have e:srL p v most vS vF s.rep = (plL p v ++ [.int .i64 most,vS,vF]) ++ rpL s.rep:=rfl
 rw [e,List.getElem?_append_right (by show 9 ≤ 9 + j; omega)]
 have:9 + j - (plL p v ++ [.int .i64 most,vS,vF]).length = j:=by show 9 + j - 9 = j; omega
 rw [this]; exact hx
set_option maxRecDepth 100000 in
set_option maxHeartbeats 8000000 in
theorem se_Program (text:ByteArray) (c:Int) (n:Nat) (ns:List Nm) (sts:List Stm) (nds:List Nd) (w:World) (hg:GoodP text ns sts nds) (h1:¬ c < 1) (h6:¬ 6 < c) (hn:n ≤ 60) :
    Calls Tryz.prog 41 #[.string text,.int .i64 c,.int .i64 n] w fun e w'=>SrR (searchP (planF ns sts nds) c n) w e w':=by
 have HG:=hide hg
 clear hg
 have hn6:¬ (60:Int) < n:=by omega
 have HSP:Hid (searchP (planF ns sts nds) c n = match roundsF (planF ns sts nds) c n (beginF (planF ns sts nds)) with
  | none=>(zRp,9)
  | some s=>(s.rep,0)):=by
  show _ = _
  unfold searchP
  rw [if_neg (by omega),Int.toNat_natCast]
  cases roundsF (planF ns sts nds) c n (beginF (planF ns sts nds)) <;> rfl
 go_enter Tryz.func41,Tryz.ntmps41
 go_upto_region 1 with (first | (refine wpl_alloc rfl 35 rfl repZ Tryz.zeroRep ?_))
 have hR:(w.alloc (.cells repZ.toArray 35)).heap[w.heap.size]? = some (.cells repZ.toArray 35 (0,0)):=heap_alloc_new _ _
 have HB:=hide (show Below w.heap.size w (w.alloc (.cells repZ.toArray 35)) from (Below.refl _ _).alloc (Nat.le_refl _) _)
 have hz:w.heap.size < (w.alloc (.cells repZ.toArray 35)).heap.size:=by simp
 generalize w.alloc (.cells repZ.toArray 35) = W at *
 go_wp2_with fail
 refine (HG.out.read _).mono ?_
 rintro e w1 ⟨⟨a1,c1,a2,n2,c2,a3,c3,a4,c4,rfl,hnm,hst,hnd⟩,hb1⟩
 have hR1:=(hb1.block _ hz).trans hR
 have hz1:w.heap.size < w1.heap.size:=Nat.lt_of_lt_of_le hz hb1.size
 have HB1:=hide (HB.out.trans (hb1.mono (by omega)))
 have HN:=hide hnm
 have HS:=hide hst
 have HD:=hide hnd
 clear hb1 hR hnm hst hnd HB
 have hb2:∀ ob:Obj,Below w1.heap.size w1 (w1.alloc ob):=fun ob=>(Below.refl _ _).alloc (Nat.le_refl _) ob
 go_wp2_with fail
 refine (pn_Make a1 a2 a3 a4 c1 c2 c3 c4 n2 ns sts nds _ (HN.out.below (hb2 _)) (HS.out.below (hb2 _)) (HD.out.below (hb2 _)) HG.out.b1 HG.out.b2 HG.out.b3 HG.out.b4).mono ?_
 rintro e w3 ⟨aT,cT,aP,cP,aL,cL,aN,cN,rfl,hpl,hb3⟩
 have hb13:Below w1.heap.size w1 w3:=(hb2 _).trans (hb3.mono (by simp))
 have HB3:=hide (HB1.out.trans (hb13.mono (by omega)))
 have hR3:=(hb13.block _ hz1).trans hR1
 have hz3:w.heap.size < w3.heap.size:=Nat.lt_of_lt_of_le hz1 hb13.size
 have HP3:Hid (PIn w3 (planF ns sts nds) ⟨aT,cT,aP,cP,aL,cL,aN,cN⟩):=⟨hpl,HG.out.bS,HG.out.bK,HG.out.bT,HG.out.bP,HG.out.bL,HG.out.bN,HG.out.bV⟩
 clear hb3 hb13 hpl hb2 hR1 HN HS HD HB1
 generalize hPl:planF ns sts nds = p at *
 have HPl:=hide hPl
 clear hPl
 go_wp2_with fail
 refine (se_begin p ⟨aT,cT,aP,cP,aL,cL,aN,cN⟩ c _ HP3.out).mono ?_
 rintro e w4 ⟨vS,vF,rfl,hS4,hF4,hb4⟩
 generalize (⟨aT,cT,aP,cP,aL,cL,aN,cN⟩:PV) = v at *
 obtain ⟨aS,cS,hvS⟩:=owns_slice hS4
 obtain ⟨aF,cF,hvF⟩:=owns_slice hF4
 subst hvS hvF
 have hR4:=(hb4.block _ hz3).trans hR3
 have HB4:=hide (HB3.out.trans (hb4.mono (Nat.le_of_lt hz3)))
 have HS4:=hide hS4
 have HF4:=hide hF4
 have HBW:=hide hb4
 have hz4:w3.heap.size ≤ w4.heap.size:=hb4.size
 clear hS4 hF4 hb4 hR3 HB3
 have hbs:=beg_seen p
 have HOK:=hide (beg_ok p)
 generalize beginF p = s at *
 generalize hq1:s.seen.length = nS at *
 generalize hq2:s.fresh.length = nF at *
 have HQ1:=hide hq1
 have HQ2:=hide hq2
 have HBS:=hide hbs
 clear hq1 hq2 hbs
 go_upto_region 7 with (first | (refine wpl_alloc rfl 127 rfl zSrL Tryz.zeroSearcher ?_) | (refine wpl_store_new rfl 127 _ _ rfl _ _ (srL p v c (.slice aS nS cS) (.slice aF nF cF) s.rep) _ rfl rfl (by simp) Tryz.sizeSearcher rfl (one_sr _ _ _ _ _ _ _ _ _ _) ?_))
 have hb5:Below w4.heap.size w4 (w4.alloc (.cells (srL p v c (.slice aS nS cS) (.slice aF nF cF) s.rep).toArray 127)):=(Below.refl _ _).alloc (Nat.le_refl _) _
 have HA5:Hid (SrAt w4.heap.size w3.heap.size p v c (.slice aS nS cS) (.slice aF nF cF) s (w4.alloc (.cells (srL p v c (.slice aS nS cS) (.slice aF nF cF) s.rep).toArray 127))):=⟨heap_alloc_new _ _,by rw [HQ1.out]; exact HS4.out.alloc _,by rw [HQ2.out]; exact HF4.out.alloc _⟩
 have hR5:=(hb5.block _ (by omega)).trans hR4
 have HB5:=hide (HB4.out.trans (hb5.mono (by omega)))
 have HPI:Hid (PInB w3.heap.size (w4.alloc (.cells (srL p v c (.slice aS nS cS) (.slice aF nF cF) s.rep).toArray 127)) p v):=⟨w3,Nat.le_refl _,HP3.out,HBW.out.trans (hb5.mono hz4)⟩
 clear hb5 hR4 HB4 HS4 HF4 HBW HP3
 generalize w4.alloc (.cells (srL p v c (.slice aS nS cS) (.slice aF nF cF) s.rep).toArray 127) = w5 at *
 go_wp2_with fail
 refine (se_goByRounds w3.heap.size w4.heap.size p v c _ _ s n _ hz4 HA5.out HPI.out hn (by omega) (by rw [HQ1.out,HBS.out.1]; decide) (by rw [HQ1.out,HQ2.out,HBS.out.1,HBS.out.2]; decide) HOK.out).mono ?_
 intro e w6 hro
 cases hr:roundsF p c n s with
 | none =>
  rw [hr] at hro HSP
  obtain ⟨rfl,hb6⟩:=hro
  have hR6:=(hb6.block _ hz3).trans hR5
  have HB6:=hide (HB5.out.trans (hb6.mono (Nat.le_of_lt hz3)))
  clear hb6 hR5 HB5 hr
  go_wp2_with (first | (refine wpl_zero rfl 35 rfl repZ Tryz.buildRep ?_) | (refine wpl_store_box rfl 35 _ _ rfl w.heap.size _ repZ _ rfl rfl hR6 Tryz.sizeRep rfl one_rep ?_))
  refine bodyPost_ret (v:=.tuple #[.agg repZ.toArray,.int .i64 9]) ?_ rfl ⟨by rw [HPl.out,HSP.out]; rfl,setRow_below HB6.out (Nat.le_refl _)⟩
  exact res_cell_tmp Tryz.results41 rfl rfl (range_whole (setRow_heap hR6)) Tryz.underlying35 rfl Tryz.sizeRep
 | some s2 =>
  rw [hr] at hro HSP
  obtain ⟨rfl,vS2,vF2,hA6,hK6⟩:=hro
  have hR6:=(hK6.bel.block _ hz3).trans hR5
  have HB6:=hide (HB5.out.trans (hK6.bel.mono (Nat.le_of_lt hz3)))
  have rg9:=sr_report hA6
  clear hA6 hK6 hR5 HB5 hr
  go_wp2_with (first | (refine wpList_load_mid rfl 35 _ rfl w4.heap.size 9 rfl (rpL s2.rep) _ rg9 Tryz.underlying35 rfl Tryz.sizeRep ?_) | (refine wpl_store_box rfl 35 _ _ rfl w.heap.size _ (rpL s2.rep) _ rfl rfl hR6 Tryz.sizeRep rfl (one_rp _) ?_))
  refine bodyPost_ret (v:=.tuple #[.agg (rpL s2.rep).toArray,.int .i64 0]) ?_ rfl ⟨by rw [HPl.out,HSP.out],setRow_below HB6.out (Nat.le_refl _)⟩
  exact res_cell_tmp Tryz.results41 rfl rfl (range_whole (setRow_heap hR6)) Tryz.underlying35 rfl Tryz.sizeRep
set_option maxRecDepth 100000 in
set_option maxHeartbeats 8000000 in
theorem m_Search_any (text:ByteArray) (c n:Int) (r:Rp × Int) (h:∀ w,Calls Tryz.prog 41 #[.string text,.int .i64 c,.int .i64 n] w fun e w'=>SrR r w e w') (w:World) :
    Calls Tryz.prog 20 #[.string text,.int .i64 c,.int .i64 n] w fun e w'=>SrR r w e w':=by
 have HG:=hide h
 clear h
 go_enter Tryz.func20,Tryz.ntmps20
 go_upto_region 1 with (first | (refine wpl_alloc rfl 35 rfl repZ Tryz.zeroRep ?_))
 have hR:(w.alloc (.cells repZ.toArray 35)).heap[w.heap.size]? = some (.cells repZ.toArray 35 (0,0)):=heap_alloc_new _ _
 have HB:=hide (show Below w.heap.size w (w.alloc (.cells repZ.toArray 35)) from (Below.refl _ _).alloc (Nat.le_refl _) _)
 have hz:w.heap.size < (w.alloc (.cells repZ.toArray 35)).heap.size:=by simp
 generalize w.alloc (.cells repZ.toArray 35) = W at *
 go_wp2_with fail
 refine (HG.out _).mono ?_
 rintro e w1 ⟨rfl,hb1⟩
 have hR1:=(hb1.block _ hz).trans hR
 have HB1:=hide (HB.out.trans (hb1.mono (by omega)))
 clear hb1 hR
 go_wp2_with (first | (refine wpl_store_box rfl 35 _ _ rfl w.heap.size _ (rpL r.1) _ rfl rfl hR1 Tryz.sizeRep rfl (one_rp _) ?_))
 refine bodyPost_ret (v:=.tuple #[.agg (rpL r.1).toArray,.int .i64 r.2]) ?_ rfl ⟨rfl,setRow_below HB1.out (Nat.le_refl _)⟩
 exact res_cell_tmp Tryz.results20 rfl rfl (range_whole (setRow_heap hR1)) Tryz.underlying35 rfl Tryz.sizeRep
theorem m_Search (text:ByteArray) (c:Int) (n:Nat) (ns:List Nm) (sts:List Stm) (nds:List Nd) (w:World) (hg:GoodP text ns sts nds) (h1:¬ c < 1) (h6:¬ 6 < c) (hn:n ≤ 60) :
    Calls Tryz.prog 20 #[.string text,.int .i64 c,.int .i64 n] w fun e w'=>SrR (searchP (planF ns sts nds) c n) w e w' :=
 m_Search_any text c n _ (fun w=>se_Program text c n ns sts nds w hg h1 h6 hn) w
end Go.Proofs.YtmfcpbhdggonfaaGreatDoor
