/- Contracts of the program's package plan: Make. -/
import Derived.Test.YtmfcpbhdggonfaaGreatDoorMjBH
namespace Go.Proofs.YtmfcpbhdggonfaaGreatDoor
open Go.RowKit RR
structure MO (h:Nat) (vO:Array Value) (w W:World):Prop where
 bo:W.heap[h]? = some (.cells vO 116 (0,0))
 br:W.heap[h + 1]? = some (.cells #[.int .i64 0,.int .i64 0,.slice none 0 0,.slice none 0 0,.slice none 0 0,.slice none 0 0] 123 (0,0))
 bel:Below h w W
theorem MO.below {h:Nat} {vO:Array Value} {w W W':World} (m:MO h vO w W) (hb:Below (h + 2) W W'):MO h vO w W' :=
 ⟨(hb.block h (by omega)).trans m.bo,(hb.block (h + 1) (by omega)).trans m.br,m.bel.trans (hb.mono (by omega))⟩
theorem MO.ocells {h:Nat} {x0 x1 x2 x3:Value} {w W:World} (m:MO h #[x0,x1,x2,x3] w W):W.cell? ⟨h,0,none⟩ = some x0∧W.cell? ⟨h,1,none⟩ = some x1∧W.cell? ⟨h,2,none⟩ = some x2∧W.cell? ⟨h,3,none⟩ = some x3:=by
 have:=m.bo
 refine ⟨?_,?_,?_,?_⟩ <;> simp [World.cell?,this]
theorem boxes3 {w:World} {c1 c2 c3:Array Value} {T1 T2 T3:TypeId}:(((w.alloc (.cells c1 T1)).alloc (.cells c2 T2)).alloc (.cells c3 T3)).heap[w.heap.size]? = some (.cells c1 T1 (0,0))∧(((w.alloc (.cells c1 T1)).alloc (.cells c2 T2)).alloc (.cells c3 T3)).heap[w.heap.size + 1]? = some (.cells c2 T2 (0,0))∧(((w.alloc (.cells c1 T1)).alloc (.cells c2 T2)).alloc (.cells c3 T3)).heap[w.heap.size + 2]? = some (.cells c3 T3 (0,0))∧Below w.heap.size w (((w.alloc (.cells c1 T1)).alloc (.cells c2 T2)).alloc (.cells c3 T3)):=by
 have e0:Below ((w.alloc (.cells c1 T1)).alloc (.cells c2 T2)).heap.size ((w.alloc (.cells c1 T1)).alloc (.cells c2 T2)) (((w.alloc (.cells c1 T1)).alloc (.cells c2 T2)).alloc (.cells c3 T3)):=(Below.refl _ _).alloc (Nat.le_refl _) _
 obtain ⟨h1,h2,h3⟩:=boxes2 e0
 have e3:=heap_alloc_new ((w.alloc (.cells c1 T1)).alloc (.cells c2 T2)) (.cells c3 T3)
 simp only [World.size_alloc] at e3
 exact ⟨h1,h2,e3,h3⟩
theorem five_one {a b c d e:Value} (h1:a.oneCell' = true) (h2:b.oneCell' = true) (h3:c.oneCell' = true) (h4:d.oneCell' = true) (h5:e.oneCell' = true):∀ u ∈ [a,b,c,d,e],u.oneCell' = true:=by
 intro u hu
 simp only [List.mem_cons,List.not_mem_nil,or_false] at hu
 rcases hu with rfl | rfl | rfl | rfl | rfl <;> assumption
theorem lnL_all (a:PLine) (v:Value) (hv:v.oneCell' = true):(lnL a v).all (·.oneCell') = true:=by
 show (true && (true && (true && (true && (true && (true && (true && (true && (true && (true && (v.oneCell' && (true && (true && (true && (true && (true && true)))))))))))))))) = true
 rw [hv]
 rfl
theorem addNameF_le (ns:List Nm) (sts:List Stm) (p:Plan) (n:Nm) (k:Nat) (h1:p.shared ≤ k) (h2:p.locks ≤ k) (h3:p.threads.length ≤ k) (h4:p.procs.length ≤ k):(addNameF ns sts p n).shared ≤ k + 1∧(addNameF ns sts p n).locks ≤ k + 1∧(addNameF ns sts p n).threads.length ≤ k + 1∧(addNameF ns sts p n).procs.length ≤ k + 1∧(addNameF ns sts p n).nodes = p.nodes∧(addNameF ns sts p n).lines = p.lines:=by
 unfold addNameF
 split
 ·exact ⟨by show p.shared + 1 ≤ _; omega,by show p.locks ≤ _; omega,by show p.threads.length ≤ _; omega,by show p.procs.length ≤ _; omega,rfl,rfl⟩
 ·split
  ·exact ⟨by show p.shared ≤ _; omega,by show p.locks + 1 ≤ _; omega,by show p.threads.length ≤ _; omega,by show p.procs.length ≤ _; omega,rfl,rfl⟩
  ·split
   ·exact ⟨by show p.shared ≤ _; omega,by show p.locks ≤ _; omega,by show p.threads.length ≤ _; omega,by simp; omega,rfl,rfl⟩
   ·split
    ·exact ⟨by show p.shared ≤ _; omega,by show p.locks ≤ _; omega,by simp; omega,by show p.procs.length ≤ _; omega,rfl,rfl⟩
    ·exact ⟨by omega,by omega,by omega,by omega,rfl,rfl⟩
theorem linesF_drop {ns:List Nm} {sts:List Stm} {nodes:List PNd} {l:List Stm} {k:Nat} (h:k < l.length):linesF ns sts nodes (l.drop k) k = lineF ns sts nodes k l[k] :: linesF ns sts nodes (l.drop (k + 1)) (k + 1):=by
 rw [List.drop_eq_getElem_cons h]; rfl
def MadeP (p:Plan) (w:World) (e:Ending) (w':World):Prop:=∃ aT cT aP cP aL cL aN cN,e = .returned (.agg #[.int .i64 p.shared,.int .i64 p.locks,.slice aT p.threads.length cT,.slice aP p.procs.length cP,.slice aL p.lines.length cL,.slice aN p.nodes.length cN])∧PlanAt w' p aT aP aL aN∧Below w.heap.size w w'
theorem pn_lineOf' (B:Nat) (p:Plan) (vT vP vL vN:Value) (a1 a2 a3 a4:Option Addr) (c1 c2 c3 c4 n2 n4:Nat) (ns:List Nm) (sts:List Stm) (i:Nat) (s:Stm) (u:Value) (w:World) (nodes:List PNd) (hnodes:p.nodes = nodes)
    (hB:PB B p vT vP vL vN w) (hn:NmSl w a1 ns) (hs:StSl w a3 sts) (hu:ExSl w u s.vals) (hl:ns.length ≤ 1000) (hl2:sts.length ≤ 10000) (hl3:nodes.length ≤ 10000) (hl4:s.vals.length ≤ 10000) (hi:i ≤ 10000) :
    Calls Tryz.prog 106 #[.pointer (some ⟨B,0,none⟩),.agg #[.slice a1 ns.length c1,.slice a2 n2 c2,.slice a3 sts.length c3,.slice a4 n4 c4],.int .i64 i,.agg #[.int .i64 s.kind,.int .i64 s.at_,.int .i64 s.blk.proc,.int .i64 s.blk.owner,.bool s.blk.els,.int .i64 s.target,.int .i64 s.name,u]] w fun e w'=>∃ a sa sc,Hid (lineF ns sts nodes i s = a)∧e = .returned (.agg #[.int .i64 a.kind,.int .i64 a.at_,.int .i64 a.params,.int .i64 a.next,.int .i64 a.thn,.int .i64 a.els,.int .i64 a.target.own,.int .i64 a.target.num,.int .i64 a.lock,.int .i64 a.proc,.slice sa a.vals.length sc,.bool a.choice,.bool a.r0,.bool a.r1,.bool a.r2,.bool a.r3])∧w'.ownsRow 0 248 2 (.slice sa a.vals.length sc) a.vals.length (a.vals.flatMap exC)∧Below w.heap.size w w':=by
 subst hnodes
 refine (pn_lineOf B p vT vP vL vN a1 a2 a3 a4 c1 c2 c3 c4 n2 n4 ns sts i s u w hB hn hs hu hl hl2 hl3 hl4 hi).mono ?_
 rintro e w' ⟨v,rfl,h1,h2⟩
 obtain ⟨sa,sc,rfl,_⟩:=flat_of_owns h1
 exact ⟨_,sa,sc,rfl,rfl,h1,h2⟩
set_option maxRecDepth 100000 in
set_option maxHeartbeats 8000000 in
theorem pn_Make (a1 a2 a3 a4:Option Addr) (c1 c2 c3 c4 n2:Nat) (ns:List Nm) (sts:List Stm) (nds:List Nd) (w:World)
    (hn:NmSl w a1 ns) (hs:StSl w a3 sts) (hd:NdSl w a4 nds) (hl:ns.length ≤ 500) (hl2:sts.length ≤ 9000) (hl3:nds.length ≤ 9000) (hl4:∀ s ∈ sts,s.vals.length ≤ 9000) :
    Calls Tryz.prog 69 #[.agg #[.slice a1 ns.length c1,.slice a2 n2 c2,.slice a3 sts.length c3,.slice a4 nds.length c4]] w fun e w'=>MadeP (planF ns sts nds) w e w':=by
 go_enter Tryz.func69,Tryz.ntmps69
 go_wp2
 go_loopw [15] (fun q wr=>∃ (k:Nat) (p:Plan) (vT vP:Value),q = .int .i64 k∧k ≤ ns.length∧(ns.drop k).foldl (addNameF ns sts) p = ns.foldl (addNameF ns sts) emptyPlan∧p.shared ≤ k∧p.locks ≤ k∧p.threads.length ≤ k∧p.procs.length ≤ k∧p.nodes = []∧p.lines = []∧PB (w.heap.size + 2) p vT vP (.slice none 0 0) (.slice none 0 0) wr∧MO w.heap.size #[.slice a1 ns.length c1,.slice a2 n2 c2,.slice a3 sts.length c3,.slice a4 nds.length c4] w wr) (fun q _=>ns.length - (intOf q).toNat)
 case atStart =>
  obtain ⟨h1,h2,h3,h4⟩:=boxes3 (w:=w) (c1:=#[.slice a1 ns.length c1,.slice a2 n2 c2,.slice a3 sts.length c3,.slice a4 nds.length c4]) (c2:=#[.int .i64 0,.int .i64 0,.slice none 0 0,.slice none 0 0,.slice none 0 0,.slice none 0 0]) (c3:=#[.int .i64 0,.int .i64 0,.slice none 0 0,.slice none 0 0,.slice none 0 0,.slice none 0 0]) (T1:=116) (T2:=123) (T3:=123)
  exact ⟨0,emptyPlan,.slice none 0 0,.slice none 0 0,rfl,Nat.zero_le _,rfl,Nat.le_refl _,Nat.le_refl _,Nat.le_refl _,Nat.le_refl _,rfl,rfl,⟨h3,World.ownsRow_nil _ _ _ _,World.ownsRow_nil _ _ _ _,World.ownsRow_nil _ _ _ _,[],rfl,World.ownsRow_nil _ _ _ _,fun x hx=>by cases hx⟩,⟨h1,h2,h4⟩⟩
 case round =>
  obtain ⟨k,p,vT,vP,rfl,hk,hfold,b1,b2,b3,b4,b5,b6,hPB,hMO⟩:=hrel
  have HFo:=hide hfold
  have HPB:=hide hPB
  have HMO:=hide hMO
  obtain ⟨o0,o1,o2,o3⟩:=hMO.ocells
  have hz:=hPB.lt
  have hz0:w.heap.size < wr.heap.size:=by omega
  clear hfold hPB
  by_cases hlt:k < ns.length
  ·obtain ⟨b,o,hb,hao,d1,d2,d3,d4⟩:=(hn.below hMO.bel) k hlt
   subst hao
   have HS:Hid ((ns.drop (k + 1)).foldl (addNameF ns sts) (addNameF ns sts p ns[k]) = ns.foldl (addNameF ns sts) emptyPlan):=by
    have h:=HFo.out
    rw [List.drop_eq_getElem_cons hlt,List.foldl_cons] at h
    exact h
   clear HFo hMO
   have hbX:∀ ob:Obj,Below wr.heap.size wr (wr.alloc ob):=fun ob=>(Below.refl _ _).alloc (Nat.le_refl _) ob
   have hLe:=addNameF_le ns sts p ns[k] k b1 b2 b3 b4
   have HLe:=hide hLe
   clear hLe
   go_wp2_with fail
   refine (pn_addName (w.heap.size + 2) p vT vP _ _ _ a2 a3 a4 c1 c2 c3 c4 n2 nds.length ns sts ns[k] _ (HPB.out.below (hbX _)) (hn.below (HMO.out.below ((hbX _).mono (by omega))).bel) (hs.below (HMO.out.below ((hbX _).mono (by omega))).bel) (by omega) (by omega) (by omega) (by omega) (by omega) (by omega)).mono ?_
   rintro e w2 ⟨rfl,⟨vT',vP',hPB2⟩,hb2⟩
   have HPB2:=hide hPB2
   have HMO2:=hide ((HMO.out.below ((hbX _).mono (by omega))).below hb2)
   clear hPB2 hb2
   go_wp2_with fail
   go_roundw
   case rel=>exact ⟨k + 1,addNameF ns sts p ns[k],vT',vP',by go_num,by omega,HS.out,HLe.out.1,HLe.out.2.1,HLe.out.2.2.1,HLe.out.2.2.2.1,HLe.out.2.2.2.2.1.trans b5,HLe.out.2.2.2.2.2.trans b6,HPB2.out,HMO2.out⟩
   case measure=>simp [intOf]; omega
  ·have HP1:Hid (p = ns.foldl (addNameF ns sts) emptyPlan):=by
     have h:=HFo.out
     rw [List.drop_of_length_le (by omega)] at h
     exact h
   clear HFo hMO
   go_wp2_with fail
   go_loopw [26] (fun q wr=>∃ (k:Nat) (vN:Value),q = .int .i64 k∧k ≤ nds.length∧PB (w.heap.size + 2) { p with nodes:=(nds.take k).map (nodeF ns) } vT vP (.slice none 0 0) vN wr∧MO w.heap.size #[.slice a1 ns.length c1,.slice a2 n2 c2,.slice a3 sts.length c3,.slice a4 nds.length c4] w wr) (fun q _=>nds.length - (intOf q).toNat)
   case atStart=>exact ⟨0,.slice none 0 0,rfl,Nat.zero_le _,by have:=HPB.out; rw [show ({ p with nodes:=(nds.take 0).map (nodeF ns) }:Plan) = p by rw [List.take_zero,List.map_nil,← b5]]; exact this,HMO.out⟩
   case round =>
    clear o0 o1 o2 o3 hz hz0 HPB HMO
    have b1':p.shared ≤ 500:=by omega
    have b2':p.locks ≤ 500:=by omega
    have b3':p.threads.length ≤ 500:=by omega
    have b4':p.procs.length ≤ 500:=by omega
    clear b1 b2 b3 b4 hk hlt
    obtain ⟨k,vN,rfl,hk,hPB,hMO⟩:=hrel
    have HPB:=hide hPB
    have HMO:=hide hMO
    obtain ⟨o0,o1,o2,o3⟩:=hMO.ocells
    have hz:=hPB.lt
    have hz0:w.heap.size < wr.heap.size:=by omega
    by_cases hlt:k < nds.length
    ·obtain ⟨b,o,hb,hao,hr4⟩:=Flat.get (f:=ndC) (n:=4) (fun _=>rfl) (by decide) (NdSl.below hd hMO.bel) k hlt
     subst hao
     have d0:wr.cell? ⟨b,o + k * 4,none⟩ = some (.int .i64 nds[k].sign):=hr4 0 _ rfl
     have d1:wr.cell? ⟨b,o + k * 4 + 1,none⟩ = some (.int .i64 nds[k].name):=hr4 1 _ rfl
     have d2:wr.cell? ⟨b,o + k * 4 + 2,none⟩ = some (.int .i64 nds[k].left):=hr4 2 _ rfl
     have d3:wr.cell? ⟨b,o + k * 4 + 3,none⟩ = some (.int .i64 nds[k].right):=hr4 3 _ rfl
     have hbX:∀ ob:Obj,Below wr.heap.size wr (wr.alloc ob):=fun ob=>(Below.refl _ _).alloc (Nat.le_refl _) ob
     have HlenN:Hid (((nds.take k).map (nodeF ns)).length = k):=by show _ = _; simp; omega
     have HTk:Hid ((nds.take (k + 1)).map (nodeF ns) = (nds.take k).map (nodeF ns) ++ [nodeF ns nds[k]]):=by
      show _ = _
      rw [List.take_succ_eq_append_getElem hlt,List.map_append]; rfl
     clear hr4 hMO hPB
     generalize hN:nds[k] = n at *
     have HNe:=hide hN
     clear hN
     go_wp2_with fail
     refine (pn_truthOf a1 c1 ns n.name _ (by omega) (hn.below (HMO.out.below ((hbX _).mono (by omega))).bel)).mono ?_
     rintro e w2 ⟨rfl,hb2⟩
     have hE2:=(hb2.block wr.heap.size (by simp)).trans (heap_alloc_new wr _)
     have hb12:Below wr.heap.size wr w2:=(hbX _).trans (hb2.mono (by simp))
     have hPB2:=HPB.out.below hb12
     have HMO2:=hide (HMO.out.below (hb12.mono (by omega)))
     have hz2:wr.heap.size < w2.heap.size:=(Array.getElem?_eq_some_iff.1 hE2).1
     have x0:w2.cell? ⟨wr.heap.size,0,none⟩ = some (.int .i64 n.sign):=by simp [World.cell?,hE2]
     have x2:w2.cell? ⟨wr.heap.size,2,none⟩ = some (.int .i64 n.left):=by simp [World.cell?,hE2]
     have x3:w2.cell? ⟨wr.heap.size,3,none⟩ = some (.int .i64 n.right):=by simp [World.cell?,hE2]
     have HPB2:=hide hPB2
     obtain ⟨p0,p1,p2,p3,p4,p5,pf⟩:=hPB2.cells
     have f5:=pf 5
     have hzB:=hPB2.lt
     clear hE2 hb2 hb12 hPB2 pf HPB HMO d0 d1 d2 d3 o0 o1 o2 o3
     unfold truV
     have hPB3:=HPB2.out.below ((Below.refl _ _).alloc (Nat.le_refl _) (.cells #[.int .i64 (truthF ns n.name).own,.int .i64 (truthF ns n.name).num] 193))
     have HPB3:=hide hPB3
     have HMO3:=hide (HMO2.out.below ((Below.refl _ _).alloc (by omega) (.cells #[.int .i64 (truthF ns n.name).own,.int .i64 (truthF ns n.name).num] 193)))
     clear hPB3
     go_wp2_with (at_builtin; refine app_row Tryz.infoPNode rfl (by decide) Tryz.underlying121 HPB3.out.nd (by show (List.map (nodeF ns) (List.take k nds)).length ≤ 100000; have:=HlenN.out; omega) (by decide) (by simp; omega) rfl (five_one rfl rfl rfl rfl rfl) rfl _ _ rfl rfl rfl (by simp) ?_; intro g cap' w3 ha; refine Hid.out ?_)
     refine hide ?_
     have hE:=HPB3.out.nod (n:=nodeF ns n) ha
     rw [show (List.map (nodeF ns) (List.take k nds)).length = k from HlenN.out] at hE
     have HE3:=hide hE
     have q3:=(ha.keep HPB3.out.nd HPB3.out.blk (by decide))
     have q5:w3.cell? ⟨w.heap.size + 2,5,none⟩ = some vN:=by simp [World.cell?,q3]
     have q6:w3.frozen? ⟨w.heap.size + 2,5,none⟩ = false:=by simp [World.frozen?,q3]
     clear hE ha q3
     go_wp2_with fail
     go_roundw
     case rel=>exact ⟨k + 1,_,by go_num,by omega,by rw [HTk.out]; exact HE3.out.1,HMO3.out.below HE3.out.2⟩
     case measure=>simp [intOf]; omega
    ·have hkl:k = nds.length:=by omega
     subst hkl
     clear hMO hPB
     rw [List.take_length] at HPB
     have hlenN:(nds.map (nodeF ns)).length = nds.length:=by simp
     go_wp2_with fail
     go_loopw [52] (fun q wr=>∃ (k:Nat) (ls:List PLine) (vL:Value),q = .int .i64 k∧k ≤ sts.length∧ls.length = k∧ls ++ linesF ns sts (nds.map (nodeF ns)) (sts.drop k) k = linesF ns sts (nds.map (nodeF ns)) sts 0∧PB (w.heap.size + 2) { p with nodes:=nds.map (nodeF ns),lines:=ls } vT vP vL vN wr∧MO w.heap.size #[.slice a1 ns.length c1,.slice a2 n2 c2,.slice a3 sts.length c3,.slice a4 nds.length c4] w wr) (fun q _=>sts.length - (intOf q).toNat)
     case atStart=>exact ⟨0,[],.slice none 0 0,rfl,Nat.zero_le _,rfl,rfl,by have:=HPB.out; rw [show ({ p with nodes:=nds.map (nodeF ns),lines:=[] }:Plan) = { p with nodes:=nds.map (nodeF ns) } by rw [← b6]]; exact this,HMO.out⟩
     case round =>
      clear o0 o1 o2 o3 hz hz0 HPB HMO hk hlt
      obtain ⟨k,ls,vL,rfl,hk,hlen,hfold,hPB,hMO⟩:=hrel
      have HFo:=hide hfold
      have HPB:=hide hPB
      have HMO:=hide hMO
      obtain ⟨o0,o1,o2,o3⟩:=hMO.ocells
      have hz:=hPB.lt
      have hz0:w.heap.size < wr.heap.size:=by omega
      clear hfold
      by_cases hlt:k < sts.length
      ·obtain ⟨b,o,v,hb,hao,hv,hr8⟩:=(hs.below hMO.bel).get k hlt
       have hvs:=hv
       obtain ⟨va,vc,rfl,_⟩:=hv
       obtain ⟨d0,d1,d2,d3,d4,d5,d6,d7⟩:=range8 hr8
       subst hao
       have hbX:∀ ob:Obj,Below wr.heap.size wr (wr.alloc ob):=fun ob=>(Below.refl _ _).alloc (Nat.le_refl _) ob
       have hvl:=hl4 sts[k] (List.getElem_mem _)
       have HS:=hide (linesF_drop (ns:=ns) (sts:=sts) (nodes:=nds.map (nodeF ns)) hlt)
       have HVS:=hide (fun ob=>hvs.below (hbX ob))
       clear hr8 hMO hPB hvs
       generalize hN:sts[k] = s at *
       have HNe:=hide hN
       clear hN
       go_wp2_with fail
       refine (pn_lineOf' (w.heap.size + 2) _ vT vP vL vN a1 a2 _ a4 c1 c2 c3 c4 n2 nds.length ns sts k s _ _ (nds.map (nodeF ns)) rfl (HPB.out.below (hbX _)) (hn.below (HMO.out.below ((hbX _).mono (by omega))).bel) (hs.below (HMO.out.below ((hbX _).mono (by omega))).bel) (HVS.out _) (by omega) (by omega) (by omega) (by omega) (by omega)).mono ?_
       rintro e w2 ⟨a,sa,sc,HLn,rfl,hrow',hb2⟩
       have hb12:Below wr.heap.size wr w2:=(hbX _).trans (hb2.mono (by simp))
       have HPB2:=hide (HPB.out.below hb12)
       have HMO2:=hide (HMO.out.below (hb12.mono (by omega)))
       have HRow:=hide hrow'
       have hz2:wr.heap.size ≤ w2.heap.size:=hb12.size
       obtain ⟨p0,p1,p2,p3,p4,p5,pf⟩:=HPB2.out.cells
       have f4:=pf 4
       have hzB:w.heap.size + 2 < w2.heap.size:=by omega
       have hb3:Below w2.heap.size w2 (w2.alloc (.cells #[.int .i64 a.kind,.int .i64 a.at_,.int .i64 a.params,.int .i64 a.next,.int .i64 a.thn,.int .i64 a.els,.int .i64 a.target.own,.int .i64 a.target.num,.int .i64 a.lock,.int .i64 a.proc,.slice sa a.vals.length sc,.bool a.choice,.bool a.r0,.bool a.r1,.bool a.r2,.bool a.r3] 204)):=(Below.refl _ _).alloc (Nat.le_refl _) _
       have HPB3:=hide (HPB2.out.below hb3)
       have HMO3:=hide (HMO2.out.below (hb3.mono (by omega)))
       have HRow3:=hide (owns_below HRow.out hb3)
       obtain ⟨l,g1,g2,g3⟩:=HPB3.out.ln
       have hll:l.length = k:=by
        have:(l.map Prod.fst).length = ls.length:=by rw [g1]
        rw [List.length_map] at this
        omega
       have HG1:=hide g1
       have HG2:=hide g2
       have HG3:=hide g3
       have HLl:=hide hll
       clear hrow' hb2 hb12 pf HPB HMO d0 d1 d2 d3 d4 d5 d6 d7 o0 o1 o2 o3 HVS hb3 g1 g2 g3 hll
       go_wp2_with (at_builtin; refine app_row Tryz.infoPLine rfl (by decide) Tryz.underlying120 HG2.out (by have:=HLl.out; omega) (by decide) (by simp; omega) rfl (List.all_eq_true.1 (lnL_all a _ rfl)) rfl _ _ rfl rfl rfl (by simp) ?_; intro g cap' w3 ha; refine Hid.out ?_)
       refine hide ?_
       have hE:=HPB3.out.lin (a:=a) (v:=.slice sa a.vals.length sc) HG1.out HG2.out HG3.out HRow3.out ha
       have HE3:=hide hE
       have q3:w3.heap[w.heap.size + 2]? = some (.cells #[.int .i64 p.shared,.int .i64 p.locks,vT,vP,vL,vN] 123 (0,0)):=ha.keep HG2.out HPB3.out.blk (by decide)
       have q5:w3.cell? ⟨w.heap.size + 2,4,none⟩ = some vL:=by simp [World.cell?,q3]
       have q6:w3.frozen? ⟨w.heap.size + 2,4,none⟩ = false:=by simp [World.frozen?,q3]
       clear hE ha q3
       go_wp2_with fail
       go_roundw
       case rel=>exact ⟨k + 1,ls ++ [a],_,by go_num,by omega,by simp; omega,by rw [← HFo.out,HS.out,HLn.out,List.append_assoc]; rfl,HE3.out.1,HMO3.out.below HE3.out.2⟩
       case measure=>simp [intOf]; omega
      ·have HE:Hid (planF ns sts nds = { p with nodes:=nds.map (nodeF ns),lines:=ls }):=by
         show _ = _
         have h:=HFo.out
         rw [List.drop_of_length_le (by omega)] at h
         have h2:linesF ns sts (nds.map (nodeF ns)) sts 0 = ls:=by rw [← h]; exact List.append_nil _
         unfold planF
         simp only
         rw [← HP1.out,h2]
       clear HFo hMO
       have hbr:=HMO.out.br
       have hk':∀ (k:Nat) (c:Array Value) (e:TypeId) (f:Nat × Nat),e ≠ 123→wr.heap[k]? = some (Obj.cells c e f)→(wr.setCells (w.heap.size + 1) 0 [.int .i64 p.shared,.int .i64 p.locks,vT,vP,vL,vN]).heap[k]? = some (Obj.cells c e f):=fun k c e f hne hh=>by
        rw [setCells_other (fun e2=>?_)]
        ·exact hh
        ·rw [e2,hbr] at hh
         simp at hh
         exact hne hh.2.1.symm
       have hbel':Below w.heap.size w (wr.setCells (w.heap.size + 1) 0 [.int .i64 p.shared,.int .i64 p.locks,vT,vP,vL,vN]):=setCells_below (by omega) _ _ _ HMO.out.bel
       have hset:=setCells_heap [.int .i64 p.shared,.int .i64 p.locks,vT,vP,vL,vN] 0 wr _ hbr
       rw [setAll_whole [.int .i64 0,.int .i64 0,.slice none 0 0,.slice none 0 0,.slice none 0 0,.slice none 0 0] [.int .i64 p.shared,.int .i64 p.locks,vT,vP,vL,vN] rfl] at hset
       have hth:wr.there (w.heap.size + 1) 0 6:=there_of_block hbr (by decide)
       have hrg:wr.rangeAt (w.heap.size + 2) 0 [.int .i64 p.shared,.int .i64 p.locks,vT,vP,vL,vN]:=range_whole (xs:=[.int .i64 p.shared,.int .i64 p.locks,vT,vP,vL,vN]) hPB.blk
       have hsz:(Tryz.prog.info? 123).map (·.size) = some 6:=by kernel_rfl
       obtain ⟨aT,cT,hvT,fT⟩:=flat_of_owns (owns_keep hPB.th (fun k c f hh _=>hk' k c _ f (by decide) hh))
       obtain ⟨aP,cP,hvP,fP⟩:=flat_of_owns (owns_keep hPB.pr (fun k c f hh _=>hk' k c _ f (by decide) hh))
       obtain ⟨aN,cN,hvN,fN⟩:=flat_of_owns (owns_keep hPB.nd (fun k c f hh _=>hk' k c _ f (by decide) hh))
       obtain ⟨l,g1,g2,g3⟩:=hPB.ln.keep (w':=(wr.setCells (w.heap.size + 1) 0 [.int .i64 p.shared,.int .i64 p.locks,vT,vP,vL,vN])) (fun k c e f he hh=>hk' k c e f (by rcases he with he | he <;> subst he <;> decide) hh)
       obtain ⟨aL,cL,hvL,fL⟩:=flat_of_owns g2
       have hll:l.length = ls.length:=by
        have:(l.map Prod.fst).length = ls.length:=by rw [g1]
        rwa [List.length_map] at this
       have hExs:∀ x ∈ l,ExSl (wr.setCells (w.heap.size + 1) 0 [.int .i64 p.shared,.int .i64 p.locks,vT,vP,vL,vN]) x.2 x.1.vals:=fun x hx=>by
        obtain ⟨ax,cx,hx1,hx2⟩:=flat_of_owns (g3 x hx)
        exact ⟨ax,cx,hx1,hx2⟩
       rw [hll] at hvL
       have hPA:PlanAt (wr.setCells (w.heap.size + 1) 0 [.int .i64 p.shared,.int .i64 p.locks,vT,vP,vL,vN]) { p with nodes:=nds.map (nodeF ns),lines:=ls } aT aP aL aN:=⟨fT,fP,⟨l,g1,fL,hExs⟩,fN⟩
       clear hk' fT fP fN fL g2 g3 hExs hPB HPB HMO hbr o0 o1 o2 o3
       subst hvT
       subst hvP
       subst hvN
       subst hvL
       have HPost:Hid (MadeP (planF ns sts nds) w (.returned (.agg #[.int .i64 p.shared,.int .i64 p.locks,.slice aT p.threads.length cT,.slice aP p.procs.length cP,.slice aL ls.length cL,.slice aN (nds.map (nodeF ns)).length cN])) (wr.setCells (w.heap.size + 1) 0 [.int .i64 p.shared,.int .i64 p.locks,.slice aT p.threads.length cT,.slice aP p.procs.length cP,.slice aL ls.length cL,.slice aN (nds.map (nodeF ns)).length cN])):=by
        show MadeP (planF ns sts nds) w _ _
        rw [HE.out]
        exact ⟨aT,cT,aP,cP,aL,cL,aN,cN,rfl,hPA,hbel'⟩
       clear hPA hbel' HE
       have HPost2:Hid (MadeP (planF ns sts nds) w (.returned (.agg #[.int .i64 p.shared,.int .i64 p.locks,.slice aT p.threads.length cT,.slice aP p.procs.length cP,.slice aL ls.length cL,.slice aN (nds.map (nodeF ns)).length cN])) (wr.setCells (w.heap.size + 1) 0 [.int .i64 p.shared,.int .i64 p.locks,.slice aT p.threads.length cT,.slice aP p.procs.length cP,.slice aL ls.length cL,.slice aN (nds.map (nodeF ns)).length cN])):=by
        show MadeP (planF ns sts nds) w _ _
        exact HPost.out
       have HSet:Hid ((wr.setCells (w.heap.size + 1) 0 [.int .i64 p.shared,.int .i64 p.locks,.slice aT p.threads.length cT,.slice aP p.procs.length cP,.slice aL ls.length cL,.slice aN (nds.map (nodeF ns)).length cN]).heap[w.heap.size + 1]? = some (.cells ([.int .i64 p.shared,.int .i64 p.locks,.slice aT p.threads.length cT,.slice aP p.procs.length cP,.slice aL ls.length cL,.slice aN (nds.map (nodeF ns)).length cN]:List Value).toArray 123 (0,0))):=by
        show _ = _
        exact hset
       clear hset g1 hll HP1 b5 b6 HPost
       have hone:([.int .i64 p.shared,.int .i64 p.locks,.slice aT p.threads.length cT,.slice aP p.procs.length cP,.slice aL ls.length cL,.slice aN (nds.map (nodeF ns)).length cN]:List Value).toArray.all (·.oneCell') = true:=one_all rfl
       go_upto_region 19 with fail
       refine wp_region_list ?_
       refine wpList_load_mid rfl _ _ rfl (w.heap.size + 2) 0 rfl _ _ hrg Tryz.underlying123 rfl hsz ?_
       refine wpList_store_mid rfl _ _ _ rfl (w.heap.size + 1) 0 _ rfl rfl hth hsz hone ?_
       clear hrg hth hone
       refine Hid.out ?_
       refine hide ?_
       go_wp2_with fail
       have HRes:=hide (range_whole HSet.out)
       clear HSet
       generalize hWW:wr.setCells (w.heap.size + 1) 0 [.int .i64 p.shared,.int .i64 p.locks,.slice aT p.threads.length cT,.slice aP p.procs.length cP,.slice aL ls.length cL,.slice aN (nds.map (nodeF ns)).length cN] = WW at *
       clear hWW
       generalize hVV:Value.agg #[.int .i64 p.shared,.int .i64 p.locks,.slice aT p.threads.length cT,.slice aP p.procs.length cP,.slice aL ls.length cL,.slice aN (nds.map (nodeF ns)).length cN] = VV at *
       refine bodyPost_ret (v:=VV) ?_ rfl HPost2.out
       rw [← hVV]
       exact res_cell (cs:=[.int .i64 p.shared,.int .i64 p.locks,.slice aT p.threads.length cT,.slice aP p.procs.length cP,.slice aL ls.length cL,.slice aN (nds.map (nodeF ns)).length cN]) rfl rfl HRes.out Tryz.underlying123 rfl hsz
end Go.Proofs.YtmfcpbhdggonfaaGreatDoor
