/- Contracts of the program's packages play and races: Play of a program that may be. -/
import Derived.Test.YtmfcpbhdggonfaaGreatDoorMjBG
import Derived.Test.YtmfcpbhdggonfaaGreatDoorMjBI
namespace Go.Proofs.YtmfcpbhdggonfaaGreatDoor
open Go.RowKit RR
def RdOk (ns:List Nm) (sts:List Stm) (nds:List Nd) (e:Ending) (w:World):Prop:=∃ a1 c1 a2 n2 c2 a3 c3 a4 c4,e = .returned (.tuple #[.agg #[.slice a1 ns.length c1,.slice a2 n2 c2,.slice a3 sts.length c3,.slice a4 nds.length c4],.int .i64 0,.int .i64 0])∧NmSl w a1 ns∧StSl w a3 sts∧NdSl w a4 nds
structure GoodP (text:ByteArray) (ns:List Nm) (sts:List Stm) (nds:List Nd):Prop where
 read:∀ w,Calls Tryz.prog 67 #[.string text] w fun e w'=>RdOk ns sts nds e w'∧Below w.heap.size w w'
 b1:ns.length ≤ 500
 b2:sts.length ≤ 9000
 b3:nds.length ≤ 9000
 b4:∀ s ∈ sts,s.vals.length ≤ 9000
 bS:(planF ns sts nds).shared ≤ 1000
 bK:(planF ns sts nds).locks ≤ 1000
 bT:(planF ns sts nds).threads.length ≤ 1000
 bP:(planF ns sts nds).procs.length ≤ 1000
 bL:(planF ns sts nds).lines.length ≤ 10000
 bN:(planF ns sts nds).nodes.length ≤ 10000
 bV:∀ a ∈ (planF ns sts nds).lines,a.vals.length ≤ 10000
def plyV (r:Vw × Int × Int):Value:=.tuple #[.agg (vwL r.1).toArray,.int .i64 r.2.1,.int .i64 r.2.2]
def PlP (r:Vw × Int × Int) (w:World) (e:Ending) (w':World):Prop:=e = .returned (plyV r)∧Below w.heap.size w w'
set_option maxRecDepth 100000 in
set_option maxHeartbeats 8000000 in
theorem py_Program (text s:ByteArray) (ns:List Nm) (sts:List Stm) (nds:List Nd) (w:World) (hg:GoodP text ns sts nds) (hit:PIt (planF ns sts nds) w) (hs:s.size ≤ 200) :
    Calls Tryz.prog 42 #[.string text,.string s] w fun e w'=>PlP (playP (planF ns sts nds) s) w e w':=by
 have HG:=hide hg
 have HI:=hide hit
 clear hg hit
 go_enter Tryz.func42,Tryz.ntmps42
 go_upto_region 1 with (first | (refine wpl_alloc rfl 42 rfl (vwL zVw) Tryz.zeroView ?_))
 have hR:(w.alloc (.cells (vwL zVw).toArray 42)).heap[w.heap.size]? = some (.cells (vwL zVw).toArray 42 (0,0)):=heap_alloc_new _ _
 have HB:=hide (show Below w.heap.size w (w.alloc (.cells (vwL zVw).toArray 42)) from (Below.refl _ _).alloc (Nat.le_refl _) _)
 have hz:w.heap.size < (w.alloc (.cells (vwL zVw).toArray 42)).heap.size:=by simp
 generalize w.alloc (.cells (vwL zVw).toArray 42) = W at *
 go_wp2_with fail
 refine (HG.out.read _).mono ?_
 rintro e w1 ⟨⟨a1,c1,a2,n2,c2,a3,c3,a4,c4,rfl,hn,hst,hnd⟩,hb1⟩
 have hR1:=(hb1.block _ hz).trans hR
 have hz1:w.heap.size < w1.heap.size:=Nat.lt_of_lt_of_le hz hb1.size
 have HB1:=hide (HB.out.trans (hb1.mono (by omega)))
 have HN:=hide hn
 have HS:=hide hst
 have HD:=hide hnd
 clear hb1 hR hn hst hnd HB
 have hb2:∀ ob:Obj,Below w1.heap.size w1 (w1.alloc ob):=fun ob=>(Below.refl _ _).alloc (Nat.le_refl _) ob
 go_wp2_with fail
 refine (pn_Make a1 a2 a3 a4 c1 c2 c3 c4 n2 ns sts nds _ (HN.out.below (hb2 _)) (HS.out.below (hb2 _)) (HD.out.below (hb2 _)) HG.out.b1 HG.out.b2 HG.out.b3 HG.out.b4).mono ?_
 rintro e w3 ⟨aT,cT,aP,cP,aL,cL,aN,cN,rfl,hpl,hb3⟩
 have hb13:Below w1.heap.size w1 w3:=(hb2 _).trans (hb3.mono (by simp))
 have HB3:=hide (HB1.out.trans (hb13.mono (by omega)))
 have hR3:=(hb13.block _ hz1).trans hR1
 have hz3:w.heap.size < w3.heap.size:=Nat.lt_of_lt_of_le hz1 hb13.size
 have HP3:Hid (PIn w3 (planF ns sts nds) ⟨aT,cT,aP,cP,aL,cL,aN,cN⟩):=⟨hpl,HG.out.bS,HG.out.bK,HG.out.bT,HG.out.bP,HG.out.bL,HG.out.bN,HG.out.bV⟩
 clear hb3 hb13 hpl hb2 hR1 HN HS HD HB1
 generalize hPl:planF ns sts nds = p at *
 have HPl:=hide hPl
 clear hPl
 obtain ⟨v,hv⟩:∃ v:PV,v = ⟨aT,cT,aP,cP,aL,cL,aN,cN⟩:=⟨_,rfl⟩
 have HV:Hid ([.int .i64 p.shared,.int .i64 p.locks,.slice aT p.threads.length cT,.slice aP p.procs.length cP,.slice aL p.lines.length cL,.slice aN p.nodes.length cN] = plL p v):=by show _ = _; rw [hv]; rfl
 rw [← hv] at HP3
 clear hv
 go_upto_region 7 with (first | (refine wpl_alloc rfl 123 rfl [.int .i64 0,.int .i64 0,.slice none 0 0,.slice none 0 0,.slice none 0 0,.slice none 0 0] (by kernel_rfl) ?_) | (refine wpl_store_new rfl 123 _ _ rfl _ _ (plL p v) _ rfl (by rw [← HV.out]; rfl) (by simp) Tryz.sizeProgram rfl rfl ?_))
 have hP7:(w3.alloc (.cells (plL p v).toArray 123)).heap[w3.heap.size]? = some (.cells (plL p v).toArray 123 (0,0)):=heap_alloc_new _ _
 have hb7:Below w3.heap.size w3 (w3.alloc (.cells (plL p v).toArray 123)):=(Below.refl _ _).alloc (Nat.le_refl _) _
 have HB7:=hide (HB3.out.trans (hb7.mono (by omega)))
 have hR7:=(hb7.block _ hz3).trans hR3
 have HP7:=hide (HP3.out.below hb7)
 have hz7:w3.heap.size < (w3.alloc (.cells (plL p v).toArray 123)).heap.size:=by simp
 clear hb7 hR3 HB3
 generalize w3.alloc (.cells (plL p v).toArray 123) = w7 at *
 generalize hL0:w3.heap.size = L at *
 have hrP:w7.rangeAt L 0 (plL p v):=range_whole hP7
 go_wp2_with (first | (refine wpList_load_mid rfl 123 _ rfl _ _ rfl (plL p v) _ hrP Tryz.underlying123 rfl Tryz.sizeProgram ?_))
 refine (py_follow p v s _ HP7.out hs).mono ?_
 rintro e w8 ⟨rfl,hb8⟩
 have HB8:=hide (HB7.out.trans (hb8.mono (by omega)))
 have hR8:=(hb8.block _ (by omega)).trans hR7
 have hP8:=(hb8.block _ hz7).trans hP7
 have HP8:=hide (HP7.out.below hb8)
 have hz8:L < w8.heap.size:=Nat.lt_of_lt_of_le hz7 hb8.size
 clear hb8 hrP hR7 hP7 HB7
 cases hfo:followF p s s.size 0 (start1 p) with
 | error k =>
  have HE:Hid (playP p s = (zVw,8,(k:Int))):=by show _ = _; unfold playP; rw [if_neg (by omega),hfo]
  clear hfo
  unfold foV
  go_upto_region 8 with (first | (refine wpl_alloc rfl 140 rfl (cfgL zCfg) Tryz.zeroConfig ?_) | (refine wpl_store_new rfl 140 _ _ rfl _ _ (cfgL zCfg) _ rfl rfl (by simp) Tryz.sizeConfig rfl (one_cfg _) ?_))
  have hb9:Below w8.heap.size w8 (w8.alloc (.cells (cfgL zCfg).toArray 140)):=(Below.refl _ _).alloc (Nat.le_refl _) _
  have HB9:=hide (HB8.out.trans (hb9.mono (by omega)))
  have hR9:=(hb9.block _ (by omega)).trans hR8
  clear hb9 hR8 hP8
  generalize w8.alloc (.cells (cfgL zCfg).toArray 140) = w9 at *
  go_wp2_with (first | (refine wpl_zero rfl 42 rfl (vwL zVw) Tryz.buildView ?_) | (refine wpl_store_box rfl 42 _ _ rfl w.heap.size _ (vwL zVw) _ rfl rfl hR9 Tryz.sizeView rfl (one_vw _) ?_))
  refine bodyPost_ret (v:=.tuple #[.agg (vwL zVw).toArray,.int .i64 8,.int .i64 k]) ?_ rfl ⟨by rw [HPl.out,HE.out]; rfl,setRow_below HB9.out (Nat.le_refl _)⟩
  exact res_cell_tmp2 Tryz.results42 rfl rfl rfl (range_whole (setRow_heap hR9)) Tryz.underlying42 rfl Tryz.sizeView
 | ok c =>
  have HE:Hid (playP p s = (viewF p c,0,0)):=by show _ = _; unfold playP; rw [if_neg (by omega),hfo]
  clear hfo
  unfold foV
  go_upto_region 8 with (first | (refine wpl_alloc rfl 140 rfl (cfgL zCfg) Tryz.zeroConfig ?_) | (refine wpl_store_new rfl 140 _ _ rfl _ _ (cfgL c) _ rfl rfl (by simp) Tryz.sizeConfig rfl (one_cfg _) ?_))
  have hb9:Below w8.heap.size w8 (w8.alloc (.cells (cfgL c).toArray 140)):=(Below.refl _ _).alloc (Nat.le_refl _) _
  have HB9:=hide (HB8.out.trans (hb9.mono (by omega)))
  have hR9:=(hb9.block _ (by omega)).trans hR8
  have hrP:(w8.alloc (.cells (cfgL c).toArray 140)).rangeAt L 0 (plL p v):=range_whole ((hb9.block _ hz8).trans hP8)
  have hrC:(w8.alloc (.cells (cfgL c).toArray 140)).rangeAt w8.heap.size 0 (cfgL c):=rg_new rfl
  have HP9:=hide (HP8.out.below hb9)
  have hz9:w.heap.size < (w8.alloc (.cells (cfgL c).toArray 140)).heap.size:=by simp; omega
  clear hb9 hR8 hP8
  generalize w8.alloc (.cells (cfgL c).toArray 140) = w9 at *
  go_wp2_with (first | (refine wpList_load_mid rfl 123 _ rfl _ _ rfl (plL p v) _ hrP Tryz.underlying123 rfl Tryz.sizeProgram ?_) | (refine wpList_load_mid rfl 140 _ rfl _ _ rfl (cfgL c) _ hrC Tryz.underlying140 rfl Tryz.sizeConfig ?_))
  refine (py_viewOf p v c _ HP9.out (HI.out.below HB9.out)).mono ?_
  rintro e w10 ⟨rfl,hb10⟩
  have HB10:=hide (HB9.out.trans (hb10.mono (by omega)))
  have hR10:=(hb10.block _ hz9).trans hR9
  clear hb10 hrP hrC hR9
  go_wp2_with (first | (refine wpl_store_box rfl 42 _ _ rfl w.heap.size _ (vwL (viewF p c)) _ rfl rfl hR10 Tryz.sizeView rfl (one_vw _) ?_))
  refine bodyPost_ret (v:=.tuple #[.agg (vwL (viewF p c)).toArray,.int .i64 0,.int .i64 0]) ?_ rfl ⟨by rw [HPl.out,HE.out]; rfl,setRow_below HB10.out (Nat.le_refl _)⟩
  exact res_cell_tmp2 Tryz.results42 rfl rfl rfl (range_whole (setRow_heap hR10)) Tryz.underlying42 rfl Tryz.sizeView
set_option maxRecDepth 100000 in
set_option maxHeartbeats 8000000 in
theorem m_Play (text s:ByteArray) (ns:List Nm) (sts:List Stm) (nds:List Nd) (w:World) (hg:GoodP text ns sts nds) (hit:PIt (planF ns sts nds) w) (hs:s.size ≤ 200) :
    Calls Tryz.prog 22 #[.string text,.string s] w fun e w'=>PlP (playP (planF ns sts nds) s) w e w':=by
 have HG:=hide hg
 have HI:=hide hit
 clear hg hit
 go_enter Tryz.func22,Tryz.ntmps22
 go_upto_region 1 with (first | (refine wpl_alloc rfl 42 rfl (vwL zVw) Tryz.zeroView ?_))
 have hR:(w.alloc (.cells (vwL zVw).toArray 42)).heap[w.heap.size]? = some (.cells (vwL zVw).toArray 42 (0,0)):=heap_alloc_new _ _
 have HB:=hide (show Below w.heap.size w (w.alloc (.cells (vwL zVw).toArray 42)) from (Below.refl _ _).alloc (Nat.le_refl _) _)
 have hz:w.heap.size < (w.alloc (.cells (vwL zVw).toArray 42)).heap.size:=by simp
 generalize w.alloc (.cells (vwL zVw).toArray 42) = W at *
 go_wp2_with fail
 refine (py_Program text s ns sts nds _ HG.out (HI.out.below HB.out) hs).mono ?_
 rintro e w1 ⟨rfl,hb1⟩
 have hR1:=(hb1.block _ hz).trans hR
 have HB1:=hide (HB.out.trans (hb1.mono (by omega)))
 clear hb1 hR
 generalize hPr:playP (planF ns sts nds) s = r at *
 have HPr:=hide hPr
 clear hPr
 unfold plyV
 go_wp2_with (first | (refine wpl_store_box rfl 42 _ _ rfl w.heap.size _ (vwL r.1) _ rfl rfl hR1 Tryz.sizeView rfl (one_vw _) ?_))
 refine bodyPost_ret (v:=plyV r) ?_ rfl ⟨by rw [HPr.out],setRow_below HB1.out (Nat.le_refl _)⟩
 exact res_cell_tmp2 Tryz.results22 rfl rfl rfl (range_whole (setRow_heap hR1)) Tryz.underlying42 rfl Tryz.sizeView
end Go.Proofs.YtmfcpbhdggonfaaGreatDoor
