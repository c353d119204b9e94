/- Programs that may be, by reckoning. -/
import Derived.Test.YtmfcpbhdggonfabGreatDoorMgAZ
import Derived.Test.YtmfcpbhdggonfabGreatDoorMgBD
import Derived.Test.YtmfcpbhdggonfabGreatDoorMgAW
import Derived.Test.YtmfcpbhdggonfabGreatDoorMgAC
namespace Go.Proofs.YtmfcpbhdggonfabGreatDoor
open Go.RowKit RR

def toksF (s : ByteArray) : List Tk := (lexF s 0).1
def runF (s : ByteArray) : QSt := (programQ (toksF s) 600 startQ).getD startQ
def planOf (s : ByteArray) : Plan := planF (runF s).p.names (runF s).sts (runF s).nds
/-- All that is asked of a text, as one truth. -/
def goodB (s : ByteArray) : Bool :=
  decide (s.size ≤ 500) && (lexF s 0).2.isNone && decide ((toksF s).length ≤ 500) && (programQ (toksF s) 600 startQ).isSome && decide ((endP (toksF s) s.size (runF s).p).1 = 0)
  && (runF s).sts.all (fun x => decide (x.vals.length ≤ 9000)) && decide ((planOf s).shared ≤ 1000) && decide ((planOf s).locks ≤ 1000) && decide ((planOf s).threads.length ≤ 1000) && decide ((planOf s).procs.length ≤ 1000) && decide ((planOf s).lines.length ≤ 10000) && decide ((planOf s).nodes.length ≤ 10000) && (planOf s).lines.all (fun x => decide (x.vals.length ≤ 10000))
  && decide ((runF s).p.names.length ≤ 500) && decide ((runF s).sts.length ≤ 9000) && decide ((runF s).nds.length ≤ 9000)
theorem good_of {s : ByteArray} (h : goodB s = true) : GoodP s (runF s).p.names (runF s).sts (runF s).nds := by
  unfold goodB at h
  simp only [Bool.and_eq_true, decide_eq_true_eq, List.all_eq_true] at h
  obtain ⟨⟨⟨⟨⟨⟨⟨⟨⟨⟨⟨⟨⟨⟨⟨h1, h2⟩, h3⟩, h4⟩, h5⟩, h6⟩, h7⟩, h8⟩, h9⟩, h10⟩, h11⟩, h12⟩, h13⟩, h14⟩, h15⟩, h16⟩ := h
  have hl : lexF s 0 = (toksF s, none) := by
    have : (lexF s 0).2 = none := by simpa using h2
    unfold toksF
    rw [← this]
  have hrun : programQ (toksF s) 600 startQ = some (runF s) := by
    unfold runF
    obtain ⟨x, hx⟩ := Option.isSome_iff_exists.1 h4
    rw [hx]; rfl
  refine ⟨fun w => ?_, h14, h15, h16, h6, h7, h8, h9, h10, h11, h12, h13⟩
  refine (c_parseX s w h1 (toksF s) hl h3 600 (runF s) hrun).mono ?_
  rintro e w' ⟨⟨_, h⟩, hb⟩
  obtain ⟨a1, c1, a2, c2, a3, c3, a4, c4, q1, q2, q3, q4, _⟩ := h h5
  exact ⟨⟨a1, c1, a2, _, c2, a3, c3, a4, c4, q1, q2, q3, q4⟩, hb⟩
def atsB (p : Plan) : Bool := p.lines.all fun a => decide (a.at_ < 100)
theorem itoa_small {i : Nat} (h : i < 100) : (itoaF i).size ≤ 1000 := by
  have hall : (List.range 100).all (fun i => decide ((itoaF i).size ≤ 1000)) = true := by kernel_rfl
  rw [List.all_eq_true] at hall
  exact of_decide_eq_true (hall i (List.mem_range.2 h))
theorem pit_of {p : Plan} (h : atsB p = true) (w : World) : PIt p w := by
  have hs : ∀ n, (lineAt p n).at_ < 100 := by
    intro n
    unfold atsB at h
    rw [List.all_eq_true] at h
    unfold lineAt
    split
    · cases hq : p.lines[n.toNat]? with
      | none => decide
      | some a => exact of_decide_eq_true (h a (List.mem_of_getElem? hq))
    · decide
  exact fun n => ⟨ItOk.small w _ (hs n), itoa_small (hs n)⟩
/-- Play of such a program. -/
theorem play_of {text s : ByteArray} {r : Vw × Int × Int} (hg : goodB text = true) (ha : atsB (planOf text) = true) (hs : s.size ≤ 200) (hr : playP (planOf text) s = r) (w : World) : Calls Tryz.prog 6 #[.string text, .string s] w fun e w' => PlP r w e w' := by
  rw [← hr]
  exact m_Play text s _ _ _ w (good_of hg) (pit_of ha w) hs

end Go.Proofs.YtmfcpbhdggonfabGreatDoor

/- Contracts of the program's packages play and races: Play of a program that may not be, and of a schedule that is too long. -/
namespace Go.Proofs.YtmfcpbhdggonfabGreatDoor
open Go.RowKit RR

/-- check.Read answers an error and its place. -/
def BadP (text : ByteArray) (E P : Int) : Prop := ∀ w, Calls Tryz.prog 14 #[.string text] w fun e w' => (∃ a1 n1 c1 a2 n2 c2 a3 n3 c3 a4 n4 c4, e = .returned (.tuple #[.agg #[.slice a1 n1 c1, .slice a2 n2 c2, .slice a3 n3 c3, .slice a4 n4 c4], .int .i64 E, .int .i64 P])) ∧ Below w.heap.size w w'

set_option maxRecDepth 100000 in
set_option maxHeartbeats 8000000 in
theorem py_Program_bad (text s : ByteArray) (E P : Int) (w : World) (hg : BadP text E P) (hE : ¬ E = 0) :
    Calls Tryz.prog 11 #[.string text, .string s] w fun e w' => PlP (zVw, E, P) w e w' := by
  have HG := hide hg
  have hne : (E != 0) = true := bne_iff_ne.2 hE
  clear hg hE
  go_enter Tryz.func11, Tryz.ntmps11
  go_upto_region 1 with (first | (refine wpl_alloc rfl 30 rfl (vwL zVw) Tryz.zeroView ?_))
  have hR : (w.alloc (.cells (vwL zVw).toArray 30)).heap[w.heap.size]? = some (.cells (vwL zVw).toArray 30 (0, 0)) := heap_alloc_new _ _
  have HB := hide (show Below w.heap.size w (w.alloc (.cells (vwL zVw).toArray 30)) from (Below.refl _ _).alloc (Nat.le_refl _) _)
  have hz : w.heap.size < (w.alloc (.cells (vwL zVw).toArray 30)).heap.size := by simp
  generalize w.alloc (.cells (vwL zVw).toArray 30) = W at *
  go_wp2_with fail
  refine (HG.out _).mono ?_
  rintro e w1 ⟨⟨a1, n1, c1, a2, n2, c2, a3, n3, c3, a4, n4, c4, rfl⟩, hb1⟩
  have hR1 := (hb1.block _ hz).trans hR
  have hz1 : w.heap.size < w1.heap.size := Nat.lt_of_lt_of_le hz hb1.size
  have HB1 := hide (HB.out.trans (hb1.mono (by omega)))
  clear hb1 hR HB
  go_upto_region 2 with fail
  have hb2 : Below w1.heap.size w1 (w1.alloc (.cells #[.slice a1 n1 c1, .slice a2 n2 c2, .slice a3 n3 c3, .slice a4 n4 c4] 46)) := (Below.refl _ _).alloc (Nat.le_refl _) _
  have hR2 := (hb2.block _ hz1).trans hR1
  have HB2 := hide (HB1.out.trans (hb2.mono (by omega)))
  clear hb2 hR1 HB1
  generalize w1.alloc (.cells #[.slice a1 n1 c1, .slice a2 n2 c2, .slice a3 n3 c3, .slice a4 n4 c4] 46) = w2 at *
  go_wp2_with (first | (refine wpl_zero rfl 30 rfl (vwL zVw) Tryz.buildView ?_) | (refine wpl_store_box rfl 30 _ _ rfl w.heap.size _ (vwL zVw) _ rfl rfl hR2 Tryz.sizeView rfl (one_vw _) ?_))
  refine bodyPost_ret (v := .tuple #[.agg (vwL zVw).toArray, .int .i64 E, .int .i64 P]) ?_ rfl ⟨rfl, setRow_below HB2.out (Nat.le_refl _)⟩
  exact res_cell_tmp2 Tryz.results11 rfl rfl rfl (range_whole (setRow_heap hR2)) Tryz.underlying30 rfl Tryz.sizeView

set_option maxRecDepth 100000 in
set_option maxHeartbeats 8000000 in
theorem py_Program_long (text s : ByteArray) (ns : List Nm) (sts : List Stm) (nds : List Nd) (w : World) (hg : GoodP text ns sts nds) (hs : 200 < s.size) (hm : s.size ≤ 9223372036854775807) :
    Calls Tryz.prog 11 #[.string text, .string s] w fun e w' => PlP (zVw, 1, 0) w e w' := by
  have HG := hide hg
  have hs' : (200 : Int) < s.size := by omega
  clear hg
  go_enter Tryz.func11, Tryz.ntmps11
  go_upto_region 1 with (first | (refine wpl_alloc rfl 30 rfl (vwL zVw) Tryz.zeroView ?_))
  have hR : (w.alloc (.cells (vwL zVw).toArray 30)).heap[w.heap.size]? = some (.cells (vwL zVw).toArray 30 (0, 0)) := heap_alloc_new _ _
  have HB := hide (show Below w.heap.size w (w.alloc (.cells (vwL zVw).toArray 30)) from (Below.refl _ _).alloc (Nat.le_refl _) _)
  have hz : w.heap.size < (w.alloc (.cells (vwL zVw).toArray 30)).heap.size := by simp
  generalize w.alloc (.cells (vwL zVw).toArray 30) = W at *
  go_wp2_with fail
  refine (HG.out.read _).mono ?_
  rintro e w1 ⟨⟨a1, c1, a2, n2, c2, a3, c3, a4, c4, rfl, _, _, _⟩, hb1⟩
  have hR1 := (hb1.block _ hz).trans hR
  have hz1 : w.heap.size < w1.heap.size := Nat.lt_of_lt_of_le hz hb1.size
  have HB1 := hide (HB.out.trans (hb1.mono (by omega)))
  clear hb1 hR HB
  go_upto_region 2 with fail
  have hb2 : Below w1.heap.size w1 (w1.alloc (.cells #[.slice a1 ns.length c1, .slice a2 n2 c2, .slice a3 sts.length c3, .slice a4 nds.length c4] 46)) := (Below.refl _ _).alloc (Nat.le_refl _) _
  have hR2 := (hb2.block _ hz1).trans hR1
  have HB2 := hide (HB1.out.trans (hb2.mono (by omega)))
  clear hb2 hR1 HB1
  generalize w1.alloc (.cells #[.slice a1 ns.length c1, .slice a2 n2 c2, .slice a3 sts.length c3, .slice a4 nds.length c4] 46) = w2 at *
  go_wp2_with (first | (refine wpl_zero rfl 30 rfl (vwL zVw) Tryz.buildView ?_) | (refine wpl_store_box rfl 30 _ _ rfl w.heap.size _ (vwL zVw) _ rfl rfl hR2 Tryz.sizeView rfl (one_vw _) ?_))
  refine bodyPost_ret (v := .tuple #[.agg (vwL zVw).toArray, .int .i64 1, .int .i64 0]) ?_ rfl ⟨rfl, setRow_below HB2.out (Nat.le_refl _)⟩
  exact res_cell_tmp2 Tryz.results11 rfl rfl rfl (range_whole (setRow_heap hR2)) Tryz.underlying30 rfl Tryz.sizeView

set_option maxRecDepth 100000 in
set_option maxHeartbeats 8000000 in
/-- races.Play answers what play.Program does. -/
theorem m_Play_any (text s : ByteArray) (r : Vw × Int × Int) (h : ∀ w, Calls Tryz.prog 11 #[.string text, .string s] w fun e w' => PlP r w e w') (w : World) :
    Calls Tryz.prog 6 #[.string text, .string s] w fun e w' => PlP r w e w' := by
  have HG := hide h
  clear h
  go_enter Tryz.func6, Tryz.ntmps6
  go_upto_region 1 with (first | (refine wpl_alloc rfl 30 rfl (vwL zVw) Tryz.zeroView ?_))
  have hR : (w.alloc (.cells (vwL zVw).toArray 30)).heap[w.heap.size]? = some (.cells (vwL zVw).toArray 30 (0, 0)) := heap_alloc_new _ _
  have HB := hide (show Below w.heap.size w (w.alloc (.cells (vwL zVw).toArray 30)) from (Below.refl _ _).alloc (Nat.le_refl _) _)
  have hz : w.heap.size < (w.alloc (.cells (vwL zVw).toArray 30)).heap.size := by simp
  generalize w.alloc (.cells (vwL zVw).toArray 30) = W at *
  go_wp2_with fail
  refine (HG.out _).mono ?_
  rintro e w1 ⟨rfl, hb1⟩
  have hR1 := (hb1.block _ hz).trans hR
  have HB1 := hide (HB.out.trans (hb1.mono (by omega)))
  clear hb1 hR
  unfold plyV
  go_wp2_with (first | (refine wpl_store_box rfl 30 _ _ rfl w.heap.size _ (vwL r.1) _ rfl rfl hR1 Tryz.sizeView rfl (one_vw _) ?_))
  refine bodyPost_ret (v := plyV r) ?_ rfl ⟨rfl, setRow_below HB1.out (Nat.le_refl _)⟩
  exact res_cell_tmp2 Tryz.results6 rfl rfl rfl (range_whole (setRow_heap hR1)) Tryz.underlying30 rfl Tryz.sizeView

end Go.Proofs.YtmfcpbhdggonfabGreatDoor

/- Contracts of the program's packages search and races: Search of a program that may not be, and with numbers that may not be. -/
namespace Go.Proofs.YtmfcpbhdggonfabGreatDoor
open Go.RowKit RR

/-- The empty report. -/
def repZ : List Value := [.bool false, .bool false, .string ⟨#[]⟩, .string ⟨#[]⟩, .bool false, .int .i64 0]
theorem Tryz.sizeRep : (Tryz.prog.info? 34).map (·.size) = some 6 := by kernel_rfl
theorem Tryz.zeroRep : (Tryz.prog.info? 34).bind (·.zero) = some (.agg repZ.toArray) := by kernel_rfl
theorem Tryz.buildRep : Tryz.prog.built 34 [] = some repZ.toArray := by kernel_rfl
theorem one_rep : repZ.all (·.oneCell') = true := rfl
def SrE (E : Int) (w : World) (e : Ending) (w' : World) : Prop := e = .returned (.tuple #[.agg repZ.toArray, .int .i64 E]) ∧ Below w.heap.size w w'

set_option maxRecDepth 100000 in
set_option maxHeartbeats 8000000 in
theorem se_Program_bad (text : ByteArray) (c n E P : Int) (w : World) (hg : BadP text E P) (hE : ¬ E = 0) :
    Calls Tryz.prog 12 #[.string text, .int .i64 c, .int .i64 n] w fun e w' => SrE E w e w' := by
  have HG := hide hg
  have hne : (E != 0) = true := bne_iff_ne.2 hE
  clear hg hE
  go_enter Tryz.func12, Tryz.ntmps12
  go_upto_region 1 with (first | (refine wpl_alloc rfl 34 rfl repZ Tryz.zeroRep ?_))
  have hR : (w.alloc (.cells repZ.toArray 34)).heap[w.heap.size]? = some (.cells repZ.toArray 34 (0, 0)) := heap_alloc_new _ _
  have HB := hide (show Below w.heap.size w (w.alloc (.cells repZ.toArray 34)) from (Below.refl _ _).alloc (Nat.le_refl _) _)
  have hz : w.heap.size < (w.alloc (.cells repZ.toArray 34)).heap.size := by simp
  generalize w.alloc (.cells repZ.toArray 34) = W at *
  go_wp2_with fail
  refine (HG.out _).mono ?_
  rintro e w1 ⟨⟨a1, n1, c1, a2, n2, c2, a3, n3, c3, a4, n4, c4, rfl⟩, hb1⟩
  have hR1 := (hb1.block _ hz).trans hR
  have hz1 : w.heap.size < w1.heap.size := Nat.lt_of_lt_of_le hz hb1.size
  have HB1 := hide (HB.out.trans (hb1.mono (by omega)))
  clear hb1 hR HB
  go_upto_region 2 with fail
  have hb2 : Below w1.heap.size w1 (w1.alloc (.cells #[.slice a1 n1 c1, .slice a2 n2 c2, .slice a3 n3 c3, .slice a4 n4 c4] 46)) := (Below.refl _ _).alloc (Nat.le_refl _) _
  have hR2 := (hb2.block _ hz1).trans hR1
  have HB2 := hide (HB1.out.trans (hb2.mono (by omega)))
  clear hb2 hR1 HB1
  generalize w1.alloc (.cells #[.slice a1 n1 c1, .slice a2 n2 c2, .slice a3 n3 c3, .slice a4 n4 c4] 46) = w2 at *
  go_wp2_with (first | (refine wpl_zero rfl 34 rfl repZ Tryz.buildRep ?_) | (refine wpl_store_box rfl 34 _ _ rfl w.heap.size _ repZ _ rfl rfl hR2 Tryz.sizeRep rfl one_rep ?_))
  refine bodyPost_ret (v := .tuple #[.agg repZ.toArray, .int .i64 E]) ?_ rfl ⟨rfl, setRow_below HB2.out (Nat.le_refl _)⟩
  exact res_cell_tmp Tryz.results12 rfl rfl (range_whole (setRow_heap hR2)) Tryz.underlying34 rfl Tryz.sizeRep

set_option maxRecDepth 100000 in
set_option maxHeartbeats 8000000 in
theorem se_Program_arg (text : ByteArray) (c n : Int) (ns : List Nm) (sts : List Stm) (nds : List Nd) (w : World) (hg : GoodP text ns sts nds) (hc : c < 1 ∨ ¬ c < 1 ∧ 6 < c ∨ ¬ c < 1 ∧ ¬ 6 < c ∧ n < 0 ∨ ¬ c < 1 ∧ ¬ 6 < c ∧ ¬ n < 0 ∧ 60 < n) :
    Calls Tryz.prog 12 #[.string text, .int .i64 c, .int .i64 n] w fun e w' => SrE 7 w e w' := by
  have HG := hide hg
  have HC := hide hc
  clear hg hc
  go_enter Tryz.func12, Tryz.ntmps12
  go_upto_region 1 with (first | (refine wpl_alloc rfl 34 rfl repZ Tryz.zeroRep ?_))
  have hR : (w.alloc (.cells repZ.toArray 34)).heap[w.heap.size]? = some (.cells repZ.toArray 34 (0, 0)) := heap_alloc_new _ _
  have HB := hide (show Below w.heap.size w (w.alloc (.cells repZ.toArray 34)) from (Below.refl _ _).alloc (Nat.le_refl _) _)
  have hz : w.heap.size < (w.alloc (.cells repZ.toArray 34)).heap.size := by simp
  generalize w.alloc (.cells repZ.toArray 34) = W at *
  go_wp2_with fail
  refine (HG.out.read _).mono ?_
  rintro e w1 ⟨⟨a1, c1, a2, n2, c2, a3, c3, a4, c4, rfl, _, _, _⟩, hb1⟩
  have hR1 := (hb1.block _ hz).trans hR
  have hz1 : w.heap.size < w1.heap.size := Nat.lt_of_lt_of_le hz hb1.size
  have HB1 := hide (HB.out.trans (hb1.mono (by omega)))
  clear hb1 hR HB
  go_upto_region 2 with fail
  have hb2 : Below w1.heap.size w1 (w1.alloc (.cells #[.slice a1 ns.length c1, .slice a2 n2 c2, .slice a3 sts.length c3, .slice a4 nds.length c4] 46)) := (Below.refl _ _).alloc (Nat.le_refl _) _
  have hR2 := (hb2.block _ hz1).trans hR1
  have HB2 := hide (HB1.out.trans (hb2.mono (by omega)))
  clear hb2 hR1 HB1
  generalize w1.alloc (.cells #[.slice a1 ns.length c1, .slice a2 n2 c2, .slice a3 sts.length c3, .slice a4 nds.length c4] 46) = w2 at *
  rcases HC.out with h1 | ⟨h1, h2⟩ | ⟨h1, h2, h3⟩ | ⟨h1, h2, h3, h4⟩
  all_goals (
    go_wp2_with (first | (refine wpl_zero rfl 34 rfl repZ Tryz.buildRep ?_) | (refine wpl_store_box rfl 34 _ _ rfl w.heap.size _ repZ _ rfl rfl hR2 Tryz.sizeRep rfl one_rep ?_))
    refine bodyPost_ret (v := .tuple #[.agg repZ.toArray, .int .i64 7]) ?_ rfl ⟨rfl, setRow_below HB2.out (Nat.le_refl _)⟩
    exact res_cell_tmp Tryz.results12 rfl rfl (range_whole (setRow_heap hR2)) Tryz.underlying34 rfl Tryz.sizeRep)

set_option maxRecDepth 100000 in
set_option maxHeartbeats 8000000 in
/-- races.Search answers what search.Program does: an error. -/
theorem m_Search_err (text : ByteArray) (c n E : Int) (h : ∀ w, Calls Tryz.prog 12 #[.string text, .int .i64 c, .int .i64 n] w fun e w' => SrE E w e w') (w : World) :
    Calls Tryz.prog 7 #[.string text, .int .i64 c, .int .i64 n] w fun e w' => SrE E w e w' := by
  have HG := hide h
  clear h
  go_enter Tryz.func7, Tryz.ntmps7
  go_upto_region 1 with (first | (refine wpl_alloc rfl 34 rfl repZ Tryz.zeroRep ?_))
  have hR : (w.alloc (.cells repZ.toArray 34)).heap[w.heap.size]? = some (.cells repZ.toArray 34 (0, 0)) := heap_alloc_new _ _
  have HB := hide (show Below w.heap.size w (w.alloc (.cells repZ.toArray 34)) from (Below.refl _ _).alloc (Nat.le_refl _) _)
  have hz : w.heap.size < (w.alloc (.cells repZ.toArray 34)).heap.size := by simp
  generalize w.alloc (.cells repZ.toArray 34) = W at *
  go_wp2_with fail
  refine (HG.out _).mono ?_
  rintro e w1 ⟨rfl, hb1⟩
  have hR1 := (hb1.block _ hz).trans hR
  have HB1 := hide (HB.out.trans (hb1.mono (by omega)))
  clear hb1 hR
  go_wp2_with (first | (refine wpl_store_box rfl 34 _ _ rfl w.heap.size _ repZ _ rfl rfl hR1 Tryz.sizeRep rfl one_rep ?_))
  refine bodyPost_ret (v := .tuple #[.agg repZ.toArray, .int .i64 E]) ?_ rfl ⟨rfl, setRow_below HB1.out (Nat.le_refl _)⟩
  exact res_cell_tmp Tryz.results7 rfl rfl (range_whole (setRow_heap hR1)) Tryz.underlying34 rfl Tryz.sizeRep

end Go.Proofs.YtmfcpbhdggonfabGreatDoor

/- How many contexts a schedule has: contracts of Contexts, of the reference and of the program. -/
namespace Go.Proofs.YtmfcpbhdggonfabGreatDoor
open Go.RowKit

def atB (s : ByteArray) (k : Nat) : UInt8 := if h : k < s.size then s[k] else 0
theorem atB_in {s : ByteArray} {k : Nat} (h : k < s.size) : atB s k = s[k] := by unfold atB; rw [dif_pos h]
def lastB (s : ByteArray) : Nat → Int
  | 0 => -1
  | k + 1 => thr (atB s k)
def cntB (s : ByteArray) : Nat → Nat
  | 0 => 0
  | k + 1 => cntB s k + (if thr (atB s k) = lastB s k then 0 else 1)
theorem cntB_le (s : ByteArray) (k : Nat) : cntB s k ≤ k := by
  induction k with
  | zero => exact Nat.le_refl _
  | succ k ih => rw [cntB]; split <;> omega
/-- How many contexts, and the error. -/
def ctxN (s : ByteArray) : Int × Int := if 200 < s.size then (0, 1) else if (∀ j, j < s.size → 0 ≤ thr (atB s j)) then (((cntB s s.size : Nat) : Int), 0) else (0, 7)
theorem ctx_long {s : ByteArray} (h : 200 < s.size) : ctxN s = (0, 1) := by unfold ctxN; rw [if_pos h]
theorem ctx_ok {s : ByteArray} (h : s.size ≤ 200) (k : ∀ j, j < s.size → 0 ≤ thr (atB s j)) : ctxN s = (((cntB s s.size : Nat) : Int), 0) := by unfold ctxN; rw [if_neg (by omega), if_pos k]
theorem ctx_bad {s : ByteArray} (h : s.size ≤ 200) {j : Nat} (hj : j < s.size) (k : ¬ 0 ≤ thr (atB s j)) : ctxN s = (0, 7) := by unfold ctxN; rw [if_neg (by omega), if_neg (fun h => k (h j hj))]

theorem ret_intsC {a b : Int} {p : Int × Int} (h : p = (a, b)) : Ending.returned (.tuple #[.int .i64 a, .int .i64 b]) = .returned (.tuple #[.int .i64 p.1, .int .i64 p.2]) := by rw [h]

theorem cnt_round {s : ByteArray} {k : Nat} {n i : Int} (_h : s.size ≤ 200) (hlt : k < s.size) (hok : ∀ j, j < k → 0 ≤ thr (atB s j)) (h0 : 0 ≤ thr s[k]) (hn : n = ((cntB s k + (if thr (atB s k) = lastB s k then 0 else 1) : Nat) : Int)) (hi : Value.int .i64 i = .int .i64 ((k + 1 : Nat) : Int)) :
    (∃ m : Nat, Value.int .i64 n = .int .i64 (cntB s m) ∧ Value.int .i64 i = .int .i64 m ∧ m ≤ s.size ∧ ∀ j, j < m → 0 ≤ thr (atB s j)) ∧ s.size - (intOf (Value.int .i64 i)).toNat < s.size - (intOf (Value.int .i64 k)).toNat := by
  refine ⟨⟨k + 1, by rw [hn]; rfl, hi, hlt, fun j hj => ?_⟩, ?_⟩
  · by_cases e : j = k
    · subst e; rw [atB_in hlt]; exact h0
    · exact hok j (by omega)
  · rw [hi]; simp [intOf]; omega

theorem cnt_round2 {s : ByteArray} {k : Nat} {n i : Int} (_h : s.size ≤ 200) (hlt : k < s.size) (hok : ∀ j, j < k → 0 ≤ thr (atB s j)) (h0 : 0 ≤ thr s[k]) (hn : n = ((cntB s k + (if thr (atB s k) = lastB s k then 0 else 1) : Nat) : Int)) (hi : Value.int .i64 i = .int .i64 ((k + 1 : Nat) : Int)) :
    (∃ m : Nat, Value.int .i64 n = .int .i64 (cntB s m) ∧ Value.int .i64 (thr s[k]) = .int .i64 (lastB s m) ∧ Value.int .i64 i = .int .i64 m ∧ m ≤ s.size ∧ ∀ j, j < m → 0 ≤ thr (atB s j)) ∧ s.size - (intOf (Value.int .i64 i)).toNat < s.size - (intOf (Value.int .i64 k)).toNat := by
  refine ⟨⟨k + 1, by rw [hn]; rfl, by show _ = Value.int .i64 (thr (atB s k)); rw [atB_in hlt], hi, hlt, fun j hj => ?_⟩, ?_⟩
  · by_cases e : j = k
    · subst e; rw [atB_in hlt]; exact h0
    · exact hok j (by omega)
  · rw [hi]; simp [intOf]; omega

set_option maxRecDepth 100000 in
set_option maxHeartbeats 2000000 in
theorem st_Contexts (s : ByteArray) (w : World) (hm : s.size ≤ maxLen) :
    Calls Tryz.prog 13 #[.string s] w fun e w' => e = .returned (.tuple #[.int .i64 (ctxN s).1, .int .i64 (ctxN s).2]) ∧ w' = w := by
  have hmm : s.size ≤ 9223372036854775807 := by unfold maxLen at hm; omega
  clear hm
  go_enter Tryz.func13, Tryz.ntmps13
  by_cases h : 200 < s.size
  · have HC := hide (ctx_long h)
    go_wp2
    go_ret2
    exact ⟨ret_intsC HC.out, rfl⟩
  · have h2 : s.size ≤ 200 := by omega
    clear h
    go_wp2
    go_loop [4, 5, 6] (fun v l u => ∃ k : Nat, v = .int .i64 (cntB s k) ∧ l = .int .i64 (lastB s k) ∧ u = .int .i64 k ∧ k ≤ s.size ∧ ∀ j, j < k → 0 ≤ thr (atB s j)) (fun _ _ u => s.size - (intOf u).toNat)
    case atStart => exact ⟨0, rfl, rfl, rfl, Nat.zero_le _, fun j hj => absurd hj (Nat.not_lt_zero _)⟩
    case round =>
      obtain ⟨k, rfl, rfl, rfl, hk, hok⟩ := hrel
      have HK := hide hok
      clear hok
      have hcl := cntB_le s k
      by_cases hlt : k < s.size
      · have hlt' : (k : Int) < s.size := by omega
        by_cases h0 : 0 ≤ thr s[k]
        · have hr : ∀ w, Calls Tryz.prog 20 #[.int .u8 s[k].toNat] w fun e w' => e = .returned (.tuple #[.int .i64 (thr s[k]), .bool (capB s[k]), .bool true]) ∧ w' = w := fun w => by
            have := st_Read s[k] w
            rw [if_pos h0, decide_eq_true h0] at this
            exact this
          by_cases h4 : thr s[k] = lastB s k
          · have h5 : (thr s[k] != lastB s k) = false := by rw [h4]; simp
            have HF := hide h4
            clear h4
            go_wp2_with (first | (go_at_call 20; refine (hr _).mono ?_; rintro e w' ⟨rfl, rfl⟩))
            refine cnt_round2 h2 hlt HK.out h0 ?_ (by go_num)
            rw [if_pos (by rw [atB_in hlt]; exact HF.out)]
            simp
          · have h5 : (thr s[k] != lastB s k) = true := by simpa using h4
            have HF := hide h4
            clear h4
            go_wp2_with (first | (go_at_call 20; refine (hr _).mono ?_; rintro e w' ⟨rfl, rfl⟩))
            refine cnt_round2 h2 hlt HK.out h0 ?_ (by go_num)
            rw [if_neg (by rw [atB_in hlt]; exact HF.out)]
            push_cast; rfl
        · have hr : ∀ w, Calls Tryz.prog 20 #[.int .u8 s[k].toNat] w fun e w' => e = .returned (.tuple #[.int .i64 0, .bool (capB s[k]), .bool false]) ∧ w' = w := fun w => by
            have := st_Read s[k] w
            rw [if_neg h0, decide_eq_false h0] at this
            exact this
          have HB := hide (ctx_bad h2 hlt (by rw [atB_in hlt]; exact h0))
          clear h0
          go_wp2_with (first | (go_at_call 20; refine (hr _).mono ?_; rintro e w' ⟨rfl, rfl⟩))
          go_ret2
          exact ⟨ret_intsC HB.out, rfl⟩
      · have hks : k = s.size := by omega
        subst hks
        have HC := hide (ctx_ok h2 HK.out)
        go_wp2
        go_ret2
        exact ⟨ret_intsC HC.out, rfl⟩

set_option maxRecDepth 100000 in
theorem m_Contexts (s : ByteArray) (w : World) (hm : s.size ≤ maxLen) :
    Calls Tryz.prog 9 #[.string s] w fun e w' => e = .returned (.tuple #[.int .i64 (ctxN s).1, .int .i64 (ctxN s).2]) ∧ w' = w := by
  go_enter Tryz.func9, Tryz.ntmps9
  go_wp2_with (first | (go_at_call 13; refine (st_Contexts _ _ hm).mono ?_; rintro e w' ⟨rfl, rfl⟩))
  go_ret2
  exact ⟨rfl, rfl⟩

end Go.Proofs.YtmfcpbhdggonfabGreatDoor

/- The statement Refused: its table, its words. -/
namespace Go.Proofs.YtmfcpbhdggonfabGreatDoor
open Go.RowKit

def refT : List (ByteArray × Int × Int) := [
  (⟨#[]⟩, 3, 0),
  (⟨#[112, 114, 111, 99, 32, 112, 40, 41, 32, 123, 32, 125, 32, 116, 104, 114, 101, 97, 100, 115, 32, 112]⟩, 3, 22),
  (⟨#[112, 114, 111, 99, 32, 112, 40, 41, 32, 123, 32, 120, 32, 61, 32, 49, 59, 32, 125]⟩, 2, 15),
  (⟨#[112, 114, 111, 99, 32, 112, 40, 41, 32, 123, 32, 105, 102, 32, 120, 32, 123, 32, 125, 32, 125, 32, 116, 104, 114, 101, 97, 100, 115, 32, 112, 59]⟩, 3, 14),
  (⟨#[112, 114, 111, 99, 32, 112, 40, 41, 32, 123, 32, 125, 32, 116, 104, 114, 101, 97, 100, 115, 32, 112, 59, 32, 59]⟩, 3, 24),
  (⟨#[112, 114, 111, 99, 32, 112, 40, 41, 32, 123, 32, 123]⟩, 3, 11),
  (⟨#[112, 114, 111, 99, 32, 112, 40, 41, 32, 123, 32, 120, 32, 61, 32, 116, 114, 117, 101, 59, 32, 125, 32, 116, 104, 114, 101, 97, 100, 115, 32, 112, 59]⟩, 5, 11),
  (⟨#[112, 114, 111, 99, 32, 112, 40, 41, 32, 123, 32, 97, 99, 113, 117, 105, 114, 101, 32, 112, 59, 32, 125, 32, 116, 104, 114, 101, 97, 100, 115, 32, 112, 59]⟩, 5, 19),
  (⟨#[112, 114, 111, 99, 32, 112, 40, 41, 32, 123, 32, 125, 32, 116, 104, 114, 101, 97, 100, 115, 32, 113, 59]⟩, 5, 21),
  (⟨#[115, 104, 97, 114, 101, 100, 32, 112, 59, 32, 112, 114, 111, 99, 32, 112, 40, 41, 32, 123, 32, 125, 32, 116, 104, 114, 101, 97, 100, 115, 32, 112, 59]⟩, 5, 15),
  (⟨#[115, 104, 97, 114, 101, 100, 32, 120, 59, 32, 112, 114, 111, 99, 32, 112, 40, 120, 41, 32, 123, 32, 125, 32, 116, 104, 114, 101, 97, 100, 115, 32, 112, 59]⟩, 5, 17),
  (⟨#[112, 114, 111, 99, 32, 112, 40, 113, 41, 32, 123, 32, 125, 32, 112, 114, 111, 99, 32, 113, 40, 41, 32, 123, 32, 125, 32, 116, 104, 114, 101, 97, 100, 115, 32, 112, 59]⟩, 5, 7),
  (⟨#[112, 114, 111, 99, 32, 112, 40, 97, 41, 32, 123, 32, 112, 40, 41, 59, 32, 125, 32, 116, 104, 114, 101, 97, 100, 115, 32, 112, 59]⟩, 6, 12),
  (⟨#[112, 114, 111, 99, 32, 112, 40, 41, 32, 123, 32, 112, 40, 116, 114, 117, 101, 41, 59, 32, 125, 32, 116, 104, 114, 101, 97, 100, 115, 32, 112, 59]⟩, 6, 11),
  (⟨#[115, 104, 97, 114, 101, 100, 32, 97, 44, 32, 98, 44, 32, 99, 44, 32, 100, 44, 32, 101, 59, 32, 112, 114, 111, 99, 32, 112, 40, 41, 32, 123, 32, 125, 32, 116, 104, 114, 101, 97, 100, 115, 32, 112, 59]⟩, 4, 19),
  (⟨#[108, 111, 99, 107, 115, 32, 97, 44, 32, 98, 44, 32, 99, 44, 32, 100, 59, 32, 112, 114, 111, 99, 32, 112, 40, 41, 32, 123, 32, 125, 32, 116, 104, 114, 101, 97, 100, 115, 32, 112, 59]⟩, 4, 15),
  (⟨#[112, 114, 111, 99, 32, 112, 40, 97, 44, 32, 98, 44, 32, 99, 44, 32, 100, 41, 32, 123, 32, 125, 32, 116, 104, 114, 101, 97, 100, 115, 32, 112, 59]⟩, 4, 16),
  (⟨#[112, 114, 111, 99, 32, 112, 40, 41, 32, 123, 32, 125, 32, 116, 104, 114, 101, 97, 100, 115, 32, 112, 44, 32, 112, 44, 32, 112, 44, 32, 112, 59]⟩, 4, 30),
  (⟨#[112, 114, 111, 99, 32, 112, 40, 41, 32, 123, 32, 40, 40, 40, 40, 40, 40]⟩, 3, 11),
  (⟨#[112, 114, 111, 99, 32, 112, 40, 41, 32, 123, 32, 97, 115, 115, 117, 109, 101, 32, 40, 40, 40, 40, 40, 40, 116, 114, 117, 101, 41, 41, 41, 41, 41, 41, 59, 32, 125, 32, 116, 104, 114, 101, 97, 100, 115, 32, 112, 59]⟩, 3, 23),
  (⟨#[112, 114, 111, 99, 32, 97, 98, 99, 100, 101, 102, 103, 104, 105, 40, 41, 32, 123, 32, 125, 32, 116, 104, 114, 101, 97, 100, 115, 32, 112, 59]⟩, 2, 5)]
def refR (x : ByteArray × Int × Int) : List Value := [.string x.1, .int .i64 x.2.1, .int .i64 x.2.2]
def refL : List Value := refT.flatMap refR

set_option maxRecDepth 100000 in
set_option maxHeartbeats 8000000 in
theorem k_refusals (w : World) :
    Calls Tryz.prog 4 #[] w fun e w' => e = .returned (.slice (some ⟨w.heap.size, 0, none⟩) 21 21) ∧ w' = w.alloc (.cells refL.toArray 28) := by
  go_enter Tryz.func4, Tryz.ntmps4
  go_wp2
  go_ret
  exact ⟨rfl, rfl⟩

/-- So many times one string. -/
def timesF (s : ByteArray) : Nat → ByteArray
  | 0 => ⟨#[]⟩
  | k + 1 => timesF s k ++ s
theorem timesF_size (s : ByteArray) : ∀ k, (timesF s k).size = k * s.size
  | 0 => by rw [timesF, Nat.zero_mul]; rfl
  | k + 1 => by rw [timesF, ByteArray.size_append, timesF_size s k, Nat.succ_mul]

set_option maxRecDepth 100000 in
set_option maxHeartbeats 2000000 in
theorem k_times (s : ByteArray) (n : Nat) (hn : n ≤ 1000) (hs : s.size ≤ 1000) (w : World) :
    Calls Tryz.prog 8 #[.string s, .int .i64 n] w fun e w' => e = .returned (.string (timesF s n)) ∧ w' = w := by
  go_enter Tryz.func8, Tryz.ntmps8
  go_wp2
  go_loop [5, 6] (fun v u => ∃ k : Nat, v = .string (timesF s k) ∧ u = .int .i64 k ∧ k ≤ n) (fun _ u => n - (intOf u).toNat)
  case atStart => exact ⟨0, rfl, rfl, Nat.zero_le _⟩
  case round =>
    obtain ⟨k, rfl, rfl, hk⟩ := hrel
    have hz : (timesF s k).size ≤ 1000000 := by
      rw [timesF_size]
      exact Nat.le_trans (Nat.mul_le_mul (Nat.le_trans hk hn) hs) (by decide)
    by_cases hlt : k < n
    · have hlt' : (k : Int) < n := by omega
      go_wp2
      refine ⟨⟨k + 1, rfl, by go_num, by omega⟩, ?_⟩
      simp [intOf]; omega
    · have hks : k = n := by omega
      subst hks
      go_wp2
      go_ret
      exact ⟨rfl, rfl⟩

end Go.Proofs.YtmfcpbhdggonfabGreatDoor
