/- Contracts of the program's package plan: a line. -/
import Derived.Test.YtmfcpbhdggonfaaGreatDoorMjAS
import Derived.Test.YtmfcpbhdggonfaaGreatDoorMjAF
import Derived.Deep.DeepCutAuto
import Derived.Deep.CutBlock
namespace Go.Proofs.YtmfcpbhdggonfaaGreatDoor
open Go.RowKit RR
theorem boxes4 {w w1:World} {c1 c2 c3 c4:Array Value} {T1 T2 T3 T4:TypeId} (h:Below ((((w.alloc (.cells c1 T1)).alloc (.cells c2 T2)).alloc (.cells c3 T3)).alloc (.cells c4 T4)).heap.size ((((w.alloc (.cells c1 T1)).alloc (.cells c2 T2)).alloc (.cells c3 T3)).alloc (.cells c4 T4)) w1) :
    w1.heap[w.heap.size]? = some (.cells c1 T1 (0,0))∧w1.heap[w.heap.size + 1]? = some (.cells c2 T2 (0,0))∧w1.heap[w.heap.size + 2]? = some (.cells c3 T3 (0,0))∧w1.heap[w.heap.size + 3]? = some (.cells c4 T4 (0,0))∧Below w.heap.size w w1:=by
 have hb:Below ((w.alloc (.cells c1 T1)).alloc (.cells c2 T2)).heap.size ((w.alloc (.cells c1 T1)).alloc (.cells c2 T2)) w1:=(((Below.refl _ _).alloc (by simp) _).alloc (by simp) _).trans (h.mono (by simp))
 obtain ⟨h1,h2,h3⟩:=boxes2 hb
 obtain ⟨h4,h5,_⟩:=boxes2 h
 simp only [World.size_alloc] at h4 h5
 exact ⟨h1,h2,h4,h5,h3⟩
def zLn:PLine:=⟨0,0,0,0,0,0,⟨0,0⟩,0,0,[],false,false,false,false,false⟩
structure LO (h:Nat) (vO vS:Array Value) (a:PLine) (v:Value) (w W:World):Prop where
 bo:W.heap[h]? = some (.cells vO 116 (0,0))
 bs:W.heap[h + 1]? = some (.cells vS 202 (0,0))
 br:W.heap[h + 2]? = some (.cells (lnL zLn (.slice none 0 0)).toArray 204 (0,0))
 bl:LB (h + 3) a v W
 bel:Below h w W
theorem LO.below {h:Nat} {vO vS:Array Value} {a:PLine} {v:Value} {w W W':World} (l:LO h vO vS a v w W) (hb:Below W.heap.size W W'):LO h vO vS a v w W':=by
 have lt:∀ {k:Nat} {c:Array Value} {T:TypeId} {f:Nat × Nat},W.heap[k]? = some (Obj.cells c T f)→k < W.heap.size:=fun hk=>(Array.getElem?_eq_some_iff.1 hk).1
 exact ⟨(hb.block _ (lt l.bo)).trans l.bo,(hb.block _ (lt l.bs)).trans l.bs,(hb.block _ (lt l.br)).trans l.br,(hb.block _ (lt l.bl)).trans l.bl,l.bel.trans (hb.mono (Nat.le_of_lt (lt l.bo)))⟩
theorem LO.set {h:Nat} {vO vS:Array Value} {a:PLine} {v:Value} {w W:World} (l:LO h vO vS a v w W) (i:Nat) (x:Value) (a':PLine) (hb:(lnL a v).toArray.setIfInBounds i x = (lnL a' v).toArray):LO h vO vS a' v w (W.setCell ⟨h + 3,i,none⟩ x):=by
 refine ⟨(Below.heap_setCell _ ⟨h + 3,i,none⟩ _ h (by simp)).trans l.bo,(Below.heap_setCell _ ⟨h + 3,i,none⟩ _ (h + 1) (by simp)).trans l.bs,(Below.heap_setCell _ ⟨h + 3,i,none⟩ _ (h + 2) (by simp)).trans l.br,?_,l.bel.setCell (p:=⟨h + 3,i,none⟩) (by simp) _⟩
 have:=l.bl
 unfold LB at this ⊢
 rw [cts_set this i x,hb]
theorem LO.lt {h:Nat} {vO vS:Array Value} {a:PLine} {v:Value} {w W:World} (l:LO h vO vS a v w W):h + 3 < W.heap.size:=(Array.getElem?_eq_some_iff.1 l.bl).1
theorem LO.ocells {h:Nat} {x0 x1 x2 x3:Value} {vS:Array Value} {a:PLine} {v:Value} {w W:World} (l:LO h #[x0,x1,x2,x3] vS a v w W):W.cell? ⟨h,0,none⟩ = some x0∧W.cell? ⟨h,2,none⟩ = some x2:=by
 have:=l.bo
 constructor <;> simp [World.cell?,this]
theorem LO.scells {h:Nat} {vO:Array Value} {s:Stm} {u:Value} {a:PLine} {v:Value} {w W:World} (l:LO h vO (stC (s,u)).toArray a v w W):W.cell? ⟨h + 1,0,none⟩ = some (.int .i64 s.kind)∧W.cell? ⟨h + 1,2,none⟩ = some (.int .i64 s.blk.proc)∧W.cell? ⟨h + 1,3,none⟩ = some (.int .i64 s.blk.owner)∧W.cell? ⟨h + 1,4,none⟩ = some (.bool s.blk.els)∧W.cell? ⟨h + 1,5,none⟩ = some (.int .i64 s.target)∧W.cell? ⟨h + 1,6,none⟩ = some (.int .i64 s.name)∧W.cell? ⟨h + 1,7,none⟩ = some u:=by
 have:=l.bs
 refine ⟨?_,?_,?_,?_,?_,?_,?_⟩ <;> simp [World.cell?,this,stC]
theorem LO.lcells {h:Nat} {vO vS:Array Value} {a:PLine} {v:Value} {w W:World} (l:LO h vO vS a v w W):W.cell? ⟨h + 3,2,none⟩ = some (.int .i64 a.params)∧W.cell? ⟨h + 3,3,none⟩ = some (.int .i64 a.next)∧W.cell? ⟨h + 3,4,none⟩ = some (.int .i64 a.thn)∧W.cell? ⟨h + 3,5,none⟩ = some (.int .i64 a.els)∧W.cell? ⟨h + 3,6,none⟩ = some (.int .i64 a.target.own)∧W.cell? ⟨h + 3,7,none⟩ = some (.int .i64 a.target.num)∧W.cell? ⟨h + 3,8,none⟩ = some (.int .i64 a.lock)∧W.cell? ⟨h + 3,9,none⟩ = some (.int .i64 a.proc)∧W.cell? ⟨h + 3,10,none⟩ = some v∧∀ i,W.frozen? ⟨h + 3,i,none⟩ = false:=by
 have:=l.bl
 unfold LB at this
 refine ⟨?_,?_,?_,?_,?_,?_,?_,?_,?_,fun i=>?_⟩ <;> simp [World.cell?,World.frozen?,this,lnL]
theorem LO.app {h:Nat} {vO vS:Array Value} {a:PLine} {v v':Value} {w W w3:World} {x y:Int} (l:LO h vO vS a v w W) (ha:Apd (h + 4) 248 2 v a.vals.length (a.vals.flatMap exC) [.int .i64 x,.int .i64 y] W v' w3) :
    LO h vO vS { a with vals:=a.vals ++ [(x,y)] } v' w (w3.setCell ⟨h + 3,10,none⟩ v')∧(w3.setCell ⟨h + 3,10,none⟩ v').ownsRow (h + 4) 248 2 v' (a.vals ++ [(x,y)]).length ((a.vals ++ [(x,y)]).flatMap exC):=by
 have hb:=ha.bel
 refine ⟨⟨?_,?_,?_,?_,?_⟩,?_⟩
 ·rw [Below.heap_setCell _ ⟨h + 3,10,none⟩ _ h (by simp),hb.block h (by omega)]; exact l.bo
 ·rw [Below.heap_setCell _ ⟨h + 3,10,none⟩ _ (h + 1) (by simp),hb.block (h + 1) (by omega)]; exact l.bs
 ·rw [Below.heap_setCell _ ⟨h + 3,10,none⟩ _ (h + 2) (by simp),hb.block (h + 2) (by omega)]; exact l.br
 ·have:=(hb.block (h + 3) (by omega)).trans l.bl
  unfold LB
  rw [cts_set this 10 v']; rfl
 ·exact (l.bel.trans (hb.mono (by omega))).setCell (p:=⟨h + 3,10,none⟩) (by simp) _
 ·have:=ownsRow_setCell_below (a:=⟨h + 3,10,none⟩) ha.row (by show h + 3 < h + 4; omega) v'
  rw [List.length_append,List.flatMap_append]
  exact this
theorem LO.fr1 {h:Nat} {vO vS:Array Value} {a a':PLine} {v v':Value} {w W W':World} (l:LO h vO vS a v w W) (hf:Fr1 (h + 3) W W') (hl:LB (h + 3) a' v' W'):LO h vO vS a' v' w W':=by
 have lt:∀ {k:Nat} {c:Array Value} {T:TypeId} {f:Nat × Nat},W.heap[k]? = some (Obj.cells c T f)→k < W.heap.size:=fun hk=>(Array.getElem?_eq_some_iff.1 hk).1
 exact ⟨(hf.blk _ (lt l.bo) (by omega)).trans l.bo,(hf.blk _ (lt l.bs) (by omega)).trans l.bs,(hf.blk _ (lt l.br) (by omega)).trans l.br,hl,l.bel.trans (hf.bel.mono (by omega))⟩
theorem one_all {xs:List Value} (h:xs.all (·.oneCell') = true):xs.toArray.all (·.oneCell') = true:=all_oneCell_toArray fun v hv=>List.all_eq_true.1 h v hv
theorem lnL_one (a:PLine) (v:Value) (hv:v.oneCell' = true):(lnL a v).toArray.all (·.oneCell') = true:=one_all (by
 show (true && (true && (true && (true && (true && (true && (true && (true && (true && (true && (v.oneCell' && (true && (true && (true && (true && (true && true)))))))))))))))) = true
 rw [hv]
 rfl)
theorem owns_zero' {w:World} {base:Nat} {e:TypeId} {size:Nat} {v:Value} {n:Nat} {xs:List Value} (h:w.ownsRow base e size v n xs):w.ownsRow 0 e size v n xs:=by
 refine ⟨h.1,?_⟩
 rcases h.2 with h2 | ⟨g,cap,cur,hv,hg,r⟩
 ·exact .inl h2
 ·exact .inr ⟨g,cap,cur,hv,Nat.zero_le _,r⟩
theorem headF_vals (ns:List Nm) (sts:List Stm) (i:Nat) (s:Stm):(headF ns sts i s).vals = []:=by
 unfold headF
 simp only
 split
 ·rfl
 ·split
  ·rfl
  ·split
   ·rfl
   ·split <;> rfl
theorem lookG_vals (nodes:List PNd) (last:Int):∀ (f:Nat) (i:Int) (a:PLine),(lookG nodes last f i a).vals = a.vals
 | 0,_,_=>rfl
 | f + 1,i,a=>by
  rw [lookG]
  split
  ·rw [lookG_vals nodes last f]
   unfold look1
   simp only
   split <;> split <;> first | rfl | (unfold PLine.read; split <;> rfl)
  ·rfl
theorem valF_vals (nodes:List PNd) (a:PLine) (e:Int × Int):(valF nodes a e).vals = a.vals ++ [e]:=by
 unfold valF lookF
 rw [lookG_vals]
set_option maxRecDepth 100000 in
set_option maxHeartbeats 8000000 in
theorem pn_lineOf (B:Nat) (p:Plan) (vT vP vL vN:Value) (a1 a2 a3 a4:Option Addr) (c1 c2 c3 c4 n2 n4:Nat) (ns:List Nm) (sts:List Stm) (i:Nat) (s:Stm) (u:Value) (w:World)
    (hB:PB B p vT vP vL vN w) (hn:NmSl w a1 ns) (hs:StSl w a3 sts) (hu:ExSl w u s.vals) (hl:ns.length ≤ 1000) (hl2:sts.length ≤ 10000) (hl3:p.nodes.length ≤ 10000) (hl4:s.vals.length ≤ 10000) (hi:i ≤ 10000) :
    Calls Tryz.prog 106 #[.pointer (some ⟨B,0,none⟩),.agg #[.slice a1 ns.length c1,.slice a2 n2 c2,.slice a3 sts.length c3,.slice a4 n4 c4],.int .i64 i,.agg #[.int .i64 s.kind,.int .i64 s.at_,.int .i64 s.blk.proc,.int .i64 s.blk.owner,.bool s.blk.els,.int .i64 s.target,.int .i64 s.name,u]] w fun e w'=>∃ v,e = .returned (.agg (lnL (lineF ns sts p.nodes i s) v).toArray)∧w'.ownsRow 0 248 2 v (lineF ns sts p.nodes i s).vals.length ((lineF ns sts p.nodes i s).vals.flatMap exC)∧Below w.heap.size w w':=by
 have hz:=hB.lt
 obtain ⟨ua,uc,hu1,hu2⟩:=hu
 subst hu1
 have hb0:∀ x y z q:Obj,Below w.heap.size w ((((w.alloc x).alloc y).alloc z).alloc q):=fun x y z q=>((((Below.refl _ _).alloc (Nat.le_refl _) _).alloc (by simp) _).alloc (by simp; omega) _).alloc (by simp; omega) _
 go_enter Tryz.func106,Tryz.ntmps106
 go_wp2_with fail
 refine (pn_paramsOf a1 c1 ns s.blk.proc _ hl (hn.below (hb0 _ _ _ _))).mono ?_
 rintro e w1 ⟨rfl,hb1⟩
 obtain ⟨h1,h2,h3,h4,h5⟩:=boxes4 hb1
 have hlo1:LO w.heap.size #[.slice a1 ns.length c1,.slice a2 n2 c2,.slice a3 sts.length c3,.slice a4 n4 c4] (stC (s,.slice ua s.vals.length uc)).toArray { zLn with kind:=s.kind,at_:=s.at_ } (.slice none 0 0) w w1:=⟨h1,h2,h3,h4,h5⟩
 have HL1:=hide (hlo1.set 2 (.int .i64 (cntF s.blk.proc ns 0)) { zLn with kind:=s.kind,at_:=s.at_,params:=cntF s.blk.proc ns 0 } rfl)
 obtain ⟨o0,o2⟩:=hlo1.ocells
 obtain ⟨s0,s2,s3,s4,s5,s6,s7⟩:=hlo1.scells
 obtain ⟨l2,l3,l4,l5,l6,l7,l8,l9,l10,lf⟩:=hlo1.lcells
 have lf2:=lf 2
 clear h1 h2 h3 h4 h5 hb1 hlo1 lf
 go_wp2_with fail
 refine (pn_comesNext a3 c3 sts s.blk _ _ hl2 (hs.below HL1.out.bel)).mono ?_
 rintro e w2 ⟨rfl,hb2⟩
 have hlo2:=HL1.out.below hb2
 have HL2:=hide (hlo2.set 3 (.int .i64 (comesF sts s.blk ((i:Int) + 1))) { zLn with kind:=s.kind,at_:=s.at_,params:=cntF s.blk.proc ns 0,next:=comesF sts s.blk ((i:Int) + 1) } rfl)
 clear HL1 hb2 o0 o2 s0 s2 s3 s4 s5 s6 s7 l2 l3 l4 l5 l6 l7 l8 l9 l10 lf2
 obtain ⟨o0,o2⟩:=hlo2.ocells
 obtain ⟨s0,s2,s3,s4,s5,s6,s7⟩:=hlo2.scells
 obtain ⟨l2,l3,l4,l5,l6,l7,l8,l9,l10,lf⟩:=hlo2.lcells
 have lf3:=lf 3
 clear hlo2 lf
 go_wp2_with fail
 refine (pn_truthOf a1 c1 ns s.target _ hl (hn.below HL2.out.bel)).mono ?_
 rintro e w3 ⟨rfl,hb3⟩
 have hlo3:=HL2.out.below hb3
 have HL3:Hid (LO w.heap.size #[.slice a1 ns.length c1,.slice a2 n2 c2,.slice a3 sts.length c3,.slice a4 n4 c4] (stC (s,.slice ua s.vals.length uc)).toArray { zLn with kind:=s.kind,at_:=s.at_,params:=cntF s.blk.proc ns 0,next:=comesF sts s.blk ((i:Int) + 1),target:=truthF ns s.target } (.slice none 0 0) w ((w3.setCell ⟨w.heap.size + 3,6,none⟩ (.int .i64 (truthF ns s.target).own)).setCell ⟨w.heap.size + 3,7,none⟩ (.int .i64 (truthF ns s.target).num))) :=
  (hlo3.set 6 (.int .i64 (truthF ns s.target).own) { zLn with kind:=s.kind,at_:=s.at_,params:=cntF s.blk.proc ns 0,next:=comesF sts s.blk ((i:Int) + 1),target:=⟨(truthF ns s.target).own,0⟩ } rfl).set 7 _ _ rfl
 clear HL2 hb3 o0 o2 s0 s2 s3 s4 s5 s6 s7 l2 l3 l4 l5 l6 l7 l8 l9 l10 lf3
 obtain ⟨o0,o2⟩:=hlo3.ocells
 obtain ⟨s0,s2,s3,s4,s5,s6,s7⟩:=hlo3.scells
 obtain ⟨l2,l3,l4,l5,l6,l7,l8,l9,l10,lf⟩:=hlo3.lcells
 have lf6:=lf 6
 have lf7:=lf 7
 clear hlo3 lf
 unfold truV
 go_wp2_with fail
 refine (pn_wordOf a1 c1 ns s.name _ (hn.below HL3.out.bel)).mono ?_
 rintro e w4 ⟨rfl,rfl⟩
 have hlo4:=HL3.out
 generalize ((w3.setCell ⟨w.heap.size + 3,6,none⟩ (.int .i64 (truthF ns s.target).own)).setCell ⟨w.heap.size + 3,7,none⟩ (.int .i64 (truthF ns s.target).num)) = w4 at *
 have HL4:=hide hlo4
 clear HL3 o0 o2 s0 s2 s3 s4 s5 s6 s7 l2 l3 l4 l5 l6 l7 l8 l9 l10 lf6 lf7
 obtain ⟨o0,o2⟩:=hlo4.ocells
 obtain ⟨s0,s2,s3,s4,s5,s6,s7⟩:=hlo4.scells
 obtain ⟨l2,l3,l4,l5,l6,l7,l8,l9,l10,lf⟩:=hlo4.lcells
 clear hlo4
 go_upto_block 0 with fail
 go_cut [] (fun wx=>LO w.heap.size #[.slice a1 ns.length c1,.slice a2 n2 c2,.slice a3 sts.length c3,.slice a4 n4 c4] (stC (s,.slice ua s.vals.length uc)).toArray (headF ns sts i s) (.slice none 0 0) w wx)
 case first =>
  by_cases k2:s.kind = 2
  ·have k2':((s.kind:Int) == 2) = true:=beq_iff_eq.2 (by omega)
   have HE:Hid (headF ns sts i s = { zLn with kind:=s.kind,at_:=s.at_,params:=cntF s.blk.proc ns 0,next:=comesF sts s.blk ((i:Int) + 1),target:=truthF ns s.target,thn:=enteredF sts ⟨s.blk.proc,i,false⟩,els:=enteredF sts ⟨s.blk.proc,i,true⟩ }):=by show _ = _; unfold headF; simp only; rw [if_pos k2]; rfl
   have lf4:=lf 4
   clear k2 lf
   go_wp2_with fail
   refine (pn_entered a3 c3 sts ⟨s.blk.proc,i,false⟩ _ hl2 (hs.below HL4.out.bel)).mono ?_
   rintro e w5 ⟨rfl,hb5⟩
   have hlo5:=HL4.out.below hb5
   have HL5:=hide (hlo5.set 4 (.int .i64 (enteredF sts ⟨s.blk.proc,i,false⟩)) { zLn with kind:=s.kind,at_:=s.at_,params:=cntF s.blk.proc ns 0,next:=comesF sts s.blk ((i:Int) + 1),target:=truthF ns s.target,thn:=enteredF sts ⟨s.blk.proc,i,false⟩ } rfl)
   clear HL4 hb5 o0 o2 s0 s2 s3 s4 s5 s6 s7 l2 l3 l4 l5 l6 l7 l8 l9 l10 lf4
   obtain ⟨o0,o2⟩:=hlo5.ocells
   obtain ⟨s0,s2,s3,s4,s5,s6,s7⟩:=hlo5.scells
   obtain ⟨l2,l3,l4,l5,l6,l7,l8,l9,l10,lf⟩:=hlo5.lcells
   have lf4:=lf 4
   clear hlo5 lf
   go_wp2_with fail
   refine (pn_entered a3 c3 sts ⟨s.blk.proc,i,true⟩ _ hl2 (hs.below HL5.out.bel)).mono ?_
   rintro e w6 ⟨rfl,hb6⟩
   have hlo6:=HL5.out.below hb6
   have HL6:=hide (hlo6.set 5 (.int .i64 (enteredF sts ⟨s.blk.proc,i,true⟩)) { zLn with kind:=s.kind,at_:=s.at_,params:=cntF s.blk.proc ns 0,next:=comesF sts s.blk ((i:Int) + 1),target:=truthF ns s.target,thn:=enteredF sts ⟨s.blk.proc,i,false⟩,els:=enteredF sts ⟨s.blk.proc,i,true⟩ } rfl)
   clear HL5 hb6 o0 o2 s0 s2 s3 s4 s5 s6 s7 l2 l3 l4 l5 l6 l7 l8 l9 l10 lf4
   obtain ⟨l2,l3,l4,l5,l6,l7,l8,l9,l10,lf⟩:=hlo6.lcells
   have lf5:=lf 5
   clear hlo6 lf
   go_wp2_with fail
   go_meet
   case rel=>rw [HE.out]; exact HL6.out
  by_cases k3:s.kind = 3
  ·have k2':((s.kind:Int) == 2) = false:=beq_eq_false_iff_ne.2 (by omega)
   have k3':((s.kind:Int) == 3) = true:=beq_iff_eq.2 (by omega)
   have HE:Hid (headF ns sts i s = { zLn with kind:=s.kind,at_:=s.at_,params:=cntF s.blk.proc ns 0,next:=comesF sts s.blk ((i:Int) + 1),target:=truthF ns s.target,thn:=enteredF sts ⟨s.blk.proc,i,false⟩,els:=comesF sts s.blk ((i:Int) + 1) }):=by show _ = _; unfold headF; simp only; rw [if_neg k2,if_pos k3]; rfl
   have lf4:=lf 4
   clear k2 k3 lf
   go_wp2_with fail
   refine (pn_entered a3 c3 sts ⟨s.blk.proc,i,false⟩ _ hl2 (hs.below HL4.out.bel)).mono ?_
   rintro e w5 ⟨rfl,hb5⟩
   have hlo5:=HL4.out.below hb5
   have HL5:=hide ((hlo5.set 4 (.int .i64 (enteredF sts ⟨s.blk.proc,i,false⟩)) { zLn with kind:=s.kind,at_:=s.at_,params:=cntF s.blk.proc ns 0,next:=comesF sts s.blk ((i:Int) + 1),target:=truthF ns s.target,thn:=enteredF sts ⟨s.blk.proc,i,false⟩ } rfl).set 5 (.int .i64 (comesF sts s.blk ((i:Int) + 1))) { zLn with kind:=s.kind,at_:=s.at_,params:=cntF s.blk.proc ns 0,next:=comesF sts s.blk ((i:Int) + 1),target:=truthF ns s.target,thn:=enteredF sts ⟨s.blk.proc,i,false⟩,els:=comesF sts s.blk ((i:Int) + 1) } rfl)
   clear HL4 hb5 o0 o2 s0 s2 s3 s4 s5 s6 s7 l2 l3 l4 l5 l6 l7 l8 l9 l10 lf4
   obtain ⟨l2,l3,l4,l5,l6,l7,l8,l9,l10,lf⟩:=hlo5.lcells
   have lf3:=lf 3
   have lf4:=lf 4
   have lf5:=lf 5
   clear hlo5 lf
   go_wp2_with fail
   go_meet
   case rel=>rw [HE.out]; exact HL5.out
  by_cases k5:s.kind = 5
  ·have k2':((s.kind:Int) == 2) = false:=beq_eq_false_iff_ne.2 (by omega)
   have k3':((s.kind:Int) == 3) = false:=beq_eq_false_iff_ne.2 (by omega)
   have k5':((s.kind:Int) == 5) = true:=beq_iff_eq.2 (by omega)
   have HE:Hid (headF ns sts i s = { zLn with kind:=s.kind,at_:=s.at_,params:=cntF s.blk.proc ns 0,next:=comesF sts s.blk ((i:Int) + 1),target:=truthF ns s.target,lock:=numF (nwordF ns s.name) 1 ns 0 }):=by show _ = _; unfold headF; simp only; rw [if_neg k2,if_neg k3,if_pos (by omega)]; rfl
   have lf8:=lf 8
   clear k2 k3 k5 lf
   go_wp2_with fail
   refine (pn_numberOf a1 c1 ns (nwordF ns s.name) 1 _ hl (hn.below HL4.out.bel)).mono ?_
   rintro e w5 ⟨rfl,hb5⟩
   have hlo5:=HL4.out.below hb5
   have HL5:=hide (hlo5.set 8 (.int .i64 (numF (nwordF ns s.name) 1 ns 0)) { zLn with kind:=s.kind,at_:=s.at_,params:=cntF s.blk.proc ns 0,next:=comesF sts s.blk ((i:Int) + 1),target:=truthF ns s.target,lock:=numF (nwordF ns s.name) 1 ns 0 } rfl)
   clear HL4 hb5 o0 o2 s0 s2 s3 s4 s5 s6 s7 l2 l3 l4 l5 l6 l7 l8 l9 l10 lf8
   obtain ⟨l2,l3,l4,l5,l6,l7,l8,l9,l10,lf⟩:=hlo5.lcells
   have lf8:=lf 8
   clear hlo5 lf
   go_wp2_with fail
   go_meet
   case rel=>rw [HE.out]; exact HL5.out
  by_cases k6:s.kind = 6
  ·have k2':((s.kind:Int) == 2) = false:=beq_eq_false_iff_ne.2 (by omega)
   have k3':((s.kind:Int) == 3) = false:=beq_eq_false_iff_ne.2 (by omega)
   have k5':((s.kind:Int) == 5) = false:=beq_eq_false_iff_ne.2 (by omega)
   have k6':((s.kind:Int) == 6) = true:=beq_iff_eq.2 (by omega)
   have HE:Hid (headF ns sts i s = { zLn with kind:=s.kind,at_:=s.at_,params:=cntF s.blk.proc ns 0,next:=comesF sts s.blk ((i:Int) + 1),target:=truthF ns s.target,lock:=numF (nwordF ns s.name) 1 ns 0 }):=by show _ = _; unfold headF; simp only; rw [if_neg k2,if_neg k3,if_pos (by omega)]; rfl
   have lf8:=lf 8
   clear k2 k3 k5 k6 lf
   go_wp2_with fail
   refine (pn_numberOf a1 c1 ns (nwordF ns s.name) 1 _ hl (hn.below HL4.out.bel)).mono ?_
   rintro e w5 ⟨rfl,hb5⟩
   have hlo5:=HL4.out.below hb5
   have HL5:=hide (hlo5.set 8 (.int .i64 (numF (nwordF ns s.name) 1 ns 0)) { zLn with kind:=s.kind,at_:=s.at_,params:=cntF s.blk.proc ns 0,next:=comesF sts s.blk ((i:Int) + 1),target:=truthF ns s.target,lock:=numF (nwordF ns s.name) 1 ns 0 } rfl)
   clear HL4 hb5 o0 o2 s0 s2 s3 s4 s5 s6 s7 l2 l3 l4 l5 l6 l7 l8 l9 l10 lf8
   obtain ⟨l2,l3,l4,l5,l6,l7,l8,l9,l10,lf⟩:=hlo5.lcells
   have lf8:=lf 8
   clear hlo5 lf
   go_wp2_with fail
   go_meet
   case rel=>rw [HE.out]; exact HL5.out
  by_cases k1:s.kind = 1
  ·have k2':((s.kind:Int) == 2) = false:=beq_eq_false_iff_ne.2 (by omega)
   have k3':((s.kind:Int) == 3) = false:=beq_eq_false_iff_ne.2 (by omega)
   have k5':((s.kind:Int) == 5) = false:=beq_eq_false_iff_ne.2 (by omega)
   have k6':((s.kind:Int) == 6) = false:=beq_eq_false_iff_ne.2 (by omega)
   have k1':((s.kind:Int) == 1) = true:=beq_iff_eq.2 (by omega)
   have HE:Hid (headF ns sts i s = { zLn with kind:=s.kind,at_:=s.at_,params:=cntF s.blk.proc ns 0,next:=comesF sts s.blk ((i:Int) + 1),target:=truthF ns s.target,proc:=numF (nwordF ns s.name) 2 ns 0 }):=by show _ = _; unfold headF; simp only; rw [if_neg k2,if_neg k3,if_neg (by omega),if_pos k1]; rfl
   have lf9:=lf 9
   clear k1 k2 k3 k5 k6 lf
   go_wp2_with fail
   refine (pn_numberOf a1 c1 ns (nwordF ns s.name) 2 _ hl (hn.below HL4.out.bel)).mono ?_
   rintro e w5 ⟨rfl,hb5⟩
   have hlo5:=HL4.out.below hb5
   have HL5:=hide (hlo5.set 9 (.int .i64 (numF (nwordF ns s.name) 2 ns 0)) { zLn with kind:=s.kind,at_:=s.at_,params:=cntF s.blk.proc ns 0,next:=comesF sts s.blk ((i:Int) + 1),target:=truthF ns s.target,proc:=numF (nwordF ns s.name) 2 ns 0 } rfl)
   clear HL4 hb5 o0 o2 s0 s2 s3 s4 s5 s6 s7 l2 l3 l4 l5 l6 l7 l8 l9 l10 lf9
   obtain ⟨l2,l3,l4,l5,l6,l7,l8,l9,l10,lf⟩:=hlo5.lcells
   have lf9:=lf 9
   clear hlo5 lf
   go_wp2_with fail
   go_meet
   case rel=>rw [HE.out]; exact HL5.out
  ·have k2':((s.kind:Int) == 2) = false:=beq_eq_false_iff_ne.2 (by omega)
   have k3':((s.kind:Int) == 3) = false:=beq_eq_false_iff_ne.2 (by omega)
   have k5':((s.kind:Int) == 5) = false:=beq_eq_false_iff_ne.2 (by omega)
   have k6':((s.kind:Int) == 6) = false:=beq_eq_false_iff_ne.2 (by omega)
   have k1':((s.kind:Int) == 1) = false:=beq_eq_false_iff_ne.2 (by omega)
   have HE:Hid (headF ns sts i s = { zLn with kind:=s.kind,at_:=s.at_,params:=cntF s.blk.proc ns 0,next:=comesF sts s.blk ((i:Int) + 1),target:=truthF ns s.target }):=by show _ = _; unfold headF; simp only; rw [if_neg k2,if_neg k3,if_neg (by omega),if_neg k1]; rfl
   clear k1 k2 k3 k5 k6 lf
   go_wp2_with fail
   go_meet
   case rel=>rw [HE.out]; exact HL4.out
 case rest =>
  have HL:=hide hcut
  clear HL4 o0 o2 s0 s2 s3 s4 s5 s6 s7 l2 l3 l4 l5 l6 l7 l8 l9 l10 lf
  obtain ⟨s0,s2,s3,s4,s5,s6,s7⟩:=hcut.scells
  clear hcut
  go_wp2_with fail
  go_loopw [98] (fun q wr=>∃ (k:Nat) (a:PLine) (v:Value),q = .int .i64 k∧k ≤ s.vals.length∧a.vals.length ≤ k∧(s.vals.drop k).foldl (valF p.nodes) a = lineF ns sts p.nodes i s∧LO w.heap.size #[.slice a1 ns.length c1,.slice a2 n2 c2,.slice a3 sts.length c3,.slice a4 n4 c4] (stC (s,.slice ua s.vals.length uc)).toArray a v w wr∧wr.ownsRow (w.heap.size + 4) 248 2 v a.vals.length (a.vals.flatMap exC)) (fun q _=>s.vals.length - (intOf q).toNat)
  case atStart=>exact ⟨0,headF ns sts i s,.slice none 0 0,rfl,Nat.zero_le _,by rw [headF_vals]; exact Nat.le_refl _,rfl,HL.out,by rw [headF_vals]; exact World.ownsRow_nil _ _ _ _⟩
  case round =>
   obtain ⟨k,a,v,rfl,hk,hak,hfold,hlo,hrow⟩:=hrel
   have HFo:=hide hfold
   have HLo:=hide hlo
   have HRow:=hide hrow
   have hzl:=hlo.lt
   clear s0 s2 s3 s4 s5 s6 s7 HL hfold
   by_cases hlt:k < s.vals.length
   ·obtain ⟨b,o,hb,hao,hr2⟩:=(hu2.below hlo.bel).get (f:=exC) (n:=2) (fun _=>rfl) (by decide) k hlt
    subst hao
    have e0:wr.cell? ⟨b,o + k * 2,none⟩ = some (.int .i64 s.vals[k].1):=hr2 0 _ rfl
    have e1:wr.cell? ⟨b,o + k * 2 + 1,none⟩ = some (.int .i64 s.vals[k].2):=hr2 1 _ rfl
    have HS:Hid ((s.vals.drop (k + 1)).foldl (valF p.nodes) (valF p.nodes a s.vals[k]) = lineF ns sts p.nodes i s):=by
     have h:=HFo.out
     rw [List.drop_eq_getElem_cons hlt,List.foldl_cons] at h
     exact h
    obtain ⟨l2,l3,l4,l5,l6,l7,l8,l9,l10,lf⟩:=hlo.lcells
    have lf10:=lf 10
    clear hr2 lf l2 l3 l4 l5 l6 l7 l8 l9 hlo hrow HFo
    generalize hEx:s.vals[k] = ex at *
    have HEx:=hide hEx
    clear hEx
    go_wp2_with (at_builtin; refine app_row Tryz.infoEx rfl (by decide) Tryz.underlying200 (HRow.out.alloc _) (by omega) (by decide) (by simp; omega) rfl (two_one rfl rfl) rfl _ _ rfl rfl rfl (by simp) ?_; intro g cap' w3 ha; refine Hid.out ?_)
    refine hide ?_
    have hW0:=HLo.out.below ((Below.refl _ _).alloc (Nat.le_refl _) (.cells #[.int .i64 ex.1,.int .i64 ex.2] 248))
    obtain ⟨hl3',hr3'⟩:=hW0.app ha
    have HL3:=hide hl3'
    have HR3:=hide hr3'
    have hE3:w3.heap[wr.heap.size]? = some (.cells #[.int .i64 ex.1,.int .i64 ex.2] 248 (0,0)):=(ha.blk wr.heap.size (by simp) (fun e=>by have:=(HRow.out.lt _ e.symm).2; omega)).trans (heap_alloc_new _ _)
    have q10:w3.cell? ⟨w.heap.size + 3,10,none⟩ = some v:=(ha.bel.cell (p:=⟨w.heap.size + 3,10,none⟩) (by show w.heap.size + 3 < w.heap.size + 4; omega)).trans ((World.cell?_alloc_lt _ _ _ (by show w.heap.size + 3 < wr.heap.size; omega)).trans l10)
    have qf10:w3.frozen? ⟨w.heap.size + 3,10,none⟩ = false:=(ha.bel.frozen (p:=⟨w.heap.size + 3,10,none⟩) (by show w.heap.size + 3 < w.heap.size + 4; omega)).trans ((World.frozen?_alloc_past _ _ _ (by show w.heap.size + 3 < wr.heap.size; omega)).trans lf10)
    have x0:w3.cell? ⟨wr.heap.size,0,none⟩ = some (.int .i64 ex.1):=by simp [World.cell?,hE3]
    have x1:w3.cell? ⟨wr.heap.size,1,none⟩ = some (.int .i64 ex.2):=by simp [World.cell?,hE3]
    have hne:¬ (w.heap.size + 3 = wr.heap.size):=by omega
    have hne2:¬ (wr.heap.size = w.heap.size + 3):=by omega
    clear hl3' hr3' hW0 ha hE3
    have hBW:=hB.below (w':=w3.setCell ⟨w.heap.size + 3,10,none⟩ (.slice (some ⟨g,0,none⟩) (a.vals.length + 1) cap')) HL3.out.bel
    have hvL:vL.ownBlock ≠ some (w.heap.size + 3):=fun e=>by
     obtain ⟨m,_,hm,_⟩:=hB.ln
     have:=(hm.lt _ e).2
     omega
    have HBW:=hide hBW
    clear hBW
    go_wp2_with fail
    refine (pn_look B (w.heap.size + 3) p vT vP vL vN _ _ ex.1 ex.2 _ HBW.out HL3.out.bl hvL hl3).mono ?_
    rintro e w5 ⟨rfl,hl5,hf5⟩
    have hlo5:=HL3.out.fr1 hf5 hl5
    have hrow5:w5.ownsRow (w.heap.size + 4) 248 2 (.slice (some ⟨g,0,none⟩) (a.vals.length + 1) cap') (a.vals ++ [ex]).length ((a.vals ++ [ex]).flatMap exC):=owns_keep HR3.out (fun k c f hh e=>by
     have:=(HR3.out.lt k e.symm).1
     rw [hf5.blk k (Array.getElem?_eq_some_iff.1 hh).1 (by omega)]
     exact hh)
    have hlen:(valF p.nodes a ex).vals = a.vals ++ [ex]:=valF_vals _ _ _
    have HLen:=hide hlen
    have HLo5:=hide hlo5
    have HRow5:=hide hrow5
    clear hlo5 hrow5 hlen hl5 hf5 HBW HL3 HR3
    go_wp2_with fail
    go_roundw
    case rel=>exact ⟨k + 1,valF p.nodes a ex,_,by go_num,by omega,by rw [HLen.out]; simp; omega,HS.out,HLo5.out,by rw [HLen.out]; exact HRow5.out⟩
    case measure=>simp [intOf]; omega
   ·have hkl:k = s.vals.length:=by omega
    have HE:Hid (a = lineF ns sts p.nodes i s):=by
     have h:=HFo.out
     rw [List.drop_of_length_le (by omega)] at h
     exact h
    clear HFo
    obtain ⟨sa,sc,hv,_⟩:=flat_of_owns hrow
    subst hv
    have hbl:=hlo.bl
    have hbr:=hlo.br
    unfold LB at hbl
    have hrg:=range_whole hbl
    have hth:wr.there (w.heap.size + 2) 0 16:=there_of_block hbr (by decide)
    have hsz:(Tryz.prog.info? 204).map (·.size) = some 16:=by kernel_rfl
    have hone:(lnL a (.slice sa a.vals.length sc)).toArray.all (·.oneCell') = true:=lnL_one _ _ rfl
    have hset:=setCells_heap (lnL a (.slice sa a.vals.length sc)) 0 wr _ hbr
    rw [setAll_whole (lnL zLn (.slice none 0 0)) (lnL a (.slice sa a.vals.length sc)) rfl] at hset
    have hbel':Below w.heap.size w (wr.setCells (w.heap.size + 2) 0 (lnL a (.slice sa a.vals.length sc))):=setCells_below (by omega) _ _ _ hlo.bel
    have hrow':(wr.setCells (w.heap.size + 2) 0 (lnL a (.slice sa a.vals.length sc))).ownsRow 0 248 2 (.slice sa a.vals.length sc) a.vals.length (a.vals.flatMap exC):=owns_keep (owns_zero' HRow.out) (fun k c f hh e=>by
     have:=(HRow.out.lt k e.symm).1
     rw [setCells_other (by omega)]
     exact hh)
    clear hlo hrow HLo
    go_upto_region 24 with fail
    refine wp_region_list ?_
    refine wpList_load_mid rfl _ _ rfl (w.heap.size + 3) 0 rfl _ _ hrg Tryz.underlying204 rfl hsz ?_
    refine wpList_store_mid rfl _ _ _ rfl (w.heap.size + 2) 0 _ rfl rfl hth hsz hone ?_
    go_wp2_with fail
    refine bodyPost_ret (v:=.agg (lnL a (.slice sa a.vals.length sc)).toArray) ?_ rfl ⟨.slice sa a.vals.length sc,by rw [← HE.out],by rw [← HE.out]; exact hrow',hbel'⟩
    exact res_cell rfl rfl (range_whole hset) Tryz.underlying204 rfl hsz
end Go.Proofs.YtmfcpbhdggonfaaGreatDoor
