/- Contracts of the program's package search: all rounds; the first one. -/
import Derived.Test.YtmfcpbhdggonfaaGreatDoorMgBK
import Derived.Test.YtmfcpbhdggonfaaGreatDoorMgAZ
namespace Go.Proofs.YtmfcpbhdggonfaaGreatDoor
open Go.RowKit RR

theorem rounds_zero (p : Plan) (most : Int) (s : Sr) : roundsF p most 0 s = some s := rfl
theorem rounds_ended {p : Plan} {most : Int} {s : Sr} (h : endedF s = true) : ∀ n, roundsF p most n s = some s
  | 0 => rfl
  | n + 1 => by unfold roundsF; rw [if_pos h]
theorem rounds_next {p : Plan} {most : Int} {s : Sr} (h : endedF s = false) (n : Nat) : roundsF p most (n + 1) s = (roundF p most s).bind (roundsF p most n) := by
  rw [roundsF, if_neg (by rw [h]; exact Bool.false_ne_true)]

set_option maxRecDepth 100000 in
set_option maxHeartbeats 8000000 in
theorem se_goByRounds (base B : Nat) (p : Plan) (v : PV) (most : Int) (vS vF : Value) (s : Sr) (n : Nat) (w : World) (hBb : base ≤ B) (h : SrAt B base p v most vS vF s w) (hp : PInB base w p v) (hn : n ≤ 60) (hm : most ≤ 100) (hl : s.seen.length ≤ 600) (hl2 : s.fresh.length ≤ s.seen.length) (hok : OkS 0 s.fresh) :
    Calls Tryz.prog 70 #[.pointer (some ⟨B, 0, none⟩), .int .i64 n] w fun e w' => RoundOut base B p v most vS vF (roundsF p most n s) w e w' := by
  have HP := hide hp
  have HAT := hide h
  have HOK := hide hok
  clear h hp hok
  go_enter Tryz.func70, Tryz.ntmps70
  go_wp2_with fail
  go_loopw [5] (fun u wr => ∃ (j : Nat) (s' : Sr) (vS' vF' : Value), u = .int .i64 ((j : Int) + 1) ∧ j ≤ n ∧ roundsF p most (n - j) s' = roundsF p most n s ∧ SrAt B base p v most vS' vF' s' wr ∧ SeK base B vS vF w vS' vF' wr ∧ s'.seen.length ≤ 600 ∧ s'.fresh.length ≤ s'.seen.length ∧ OkS j s'.fresh) (fun u _ => n + 1 - (intOf u).toNat)
  case atStart => exact ⟨0, s, vS, vF, rfl, Nat.zero_le _, rfl, HAT.out, SeK.of_below (Below.refl _ _) (Nat.le_trans hBb (Nat.le_of_lt HAT.out.lt)), hl, hl2, HOK.out⟩
  case round =>
    obtain ⟨j, s', vS1, vF1, rfl, hj, hrg, hA1, hK1, hls, hlf, hok1⟩ := hrel
    have HRG := hide hrg
    have HA1 := hide hA1
    have HK1 := hide hK1
    have HO1 := hide hok1
    clear hrg hA1 hK1 hok1
    by_cases hlt : j < n
    · have hlt' : ((j : Int) + 1) ≤ n := by omega
      have c9 : wr.cell? ⟨B, 9, none⟩ = some (.bool s'.rep.race) := cell_blk HA1.out.box 9 rfl
      have c10 : wr.cell? ⟨B, 10, none⟩ = some (.bool s'.rep.dead) := cell_blk HA1.out.box 10 rfl
      have c13 : wr.cell? ⟨B, 13, none⟩ = some (.bool s'.rep.whole) := cell_blk HA1.out.box 13 rfl
      have HEN := hide (se_ended B s'.rep.race s'.rep.dead s'.rep.whole wr c9 c10 c13)
      clear c9 c10 c13
      cases he : endedF s' with
      | true =>
        have he' : ((s'.rep.race && s'.rep.dead) || s'.rep.whole) = true := he
        have HE : Hid (roundsF p most n s = some s') := by show _ = _; rw [← HRG.out, rounds_ended he]
        rw [he'] at HEN
        clear he he' HRG
        go_wp2_with fail
        refine (HEN.out).mono ?_
        rintro e w' ⟨rfl, rfl⟩
        go_wp2_with fail
        go_ret
        show RoundOut _ _ _ _ _ _ _ _ _ _ _
        rw [HE.out]
        exact ⟨rfl, _, _, HA1.out, HK1.out⟩
      | false =>
        have he' : ((s'.rep.race && s'.rep.dead) || s'.rep.whole) = false := he
        have HE : Hid (roundsF p most n s = (roundF p most s').bind (roundsF p most (n - j - 1))) := by
          show _ = _
          rw [← HRG.out, show n - j = (n - j - 1) + 1 by omega, rounds_next he]; rfl
        have HRR : Hid (roundF p most s' = roundG p most s'.fresh { s' with fresh := [] }) := rfl
        rw [he'] at HEN
        clear he he' HRG
        go_wp2_with fail
        refine (HEN.out).mono ?_
        rintro e w' ⟨rfl, rfl⟩
        go_wp2_with fail
        refine (se_makeRound base B p v most vS1 vF1 s' _ hBb HA1.out (HP.out.below HK1.out.bel) hls (by omega) (fun f hf => ⟨⟨by have := (HO1.out f hf).1.1; omega, by have := (HO1.out f hf).1.2; omega⟩, by have := (HO1.out f hf).2; omega⟩)).mono ?_
        intro e w2 hro
        cases hr : roundF p most s' with
        | none =>
          rw [hr] at hro
          obtain ⟨rfl, hb2⟩ := hro
          have HE2 : Hid (roundsF p most n s = none) := by show _ = _; rw [HE.out, hr]; rfl
          have HB2 := hide (HK1.out.bel.trans hb2)
          clear hb2 hr HE
          go_wp2_with fail
          go_ret
          show RoundOut _ _ _ _ _ _ _ _ _ _ _
          rw [HE2.out]
          exact ⟨rfl, HB2.out⟩
        | some s2 =>
          rw [hr] at hro
          obtain ⟨rfl, vS2, vF2, hA2, hK2⟩ := hro
          have HE2 : Hid (roundsF p most (n - (j + 1)) s2 = roundsF p most n s) := by show _ = _; rw [HE.out, hr, show n - (j + 1) = n - j - 1 by omega]; rfl
          have hr2 : roundG p most s'.fresh { s' with fresh := [] } = some s2 := HRR.out.symm.trans hr
          have HO2 := hide (OkS.round hm s'.fresh { s' with fresh := [] } s2 HO1.out (fun f hf => by cases hf) hr2)
          have HL2 := hide (round_len s'.fresh { s' with fresh := [] } s2 (Nat.zero_le _) hls hr2)
          have HA2 := hide hA2
          have HK2 := hide (HK1.out.trans hK2)
          clear hA2 hK2 hr hr2 HE HRR
          go_wp2_with fail
          go_roundw
          case rel => exact ⟨j + 1, s2, vS2, vF2, by go_num, by omega, HE2.out, HA2.out, HK2.out, HL2.out.2, HL2.out.1, HO2.out⟩
          case measure => simp [intOf]; omega
    · have hjn : j = n := by omega
      subst hjn
      have HE : Hid (roundsF p most j s = some s') := by show _ = _; rw [← HRG.out, Nat.sub_self]; rfl
      have hgt : ¬ ((j : Int) + 1) ≤ j := by omega
      clear HRG hlt
      go_wp2_with fail
      go_ret
      show RoundOut _ _ _ _ _ _ _ _ _ _ _
      rw [HE.out]
      exact ⟨rfl, _, _, HA1.out, HK1.out⟩

end Go.Proofs.YtmfcpbhdggonfaaGreatDoor

/- Contracts of the program's package search: begin. -/
namespace Go.Proofs.YtmfcpbhdggonfaaGreatDoor
open Go.RowKit RR

def zSrL : List Value := [.int .i64 0, .int .i64 0, .slice none 0 0, .slice none 0 0, .slice none 0 0, .slice none 0 0, .int .i64 0, .slice none 0 0, .slice none 0 0, .bool false, .bool false, .string ⟨#[]⟩, .string ⟨#[]⟩, .bool false, .int .i64 0]
theorem Tryz.zeroSearcher : (Tryz.prog.info? 127).bind (·.zero) = some (.agg zSrL.toArray) := by kernel_rfl
theorem Tryz.sizeSearcher : (Tryz.prog.info? 127).map (·.size) = some 15 := by kernel_rfl
theorem Tryz.buildSearcher (p : Plan) (v : PV) (most : Int) : Tryz.prog.built 127 [(0, .agg (plL p v).toArray), (1, .int .i64 most)] = some (srL p v most (.slice none 0 0) (.slice none 0 0) zRp).toArray := by kernel_rfl
theorem Tryz.buildPoint2 (c : Cfg) : Tryz.prog.built 183 [(1, .int .i64 (-1)), (2, .agg (cfgL c).toArray)] = some (ptL ⟨0, -1, c⟩).toArray := by kernel_rfl
theorem one_sr (p : Plan) (v : PV) (most : Int) (a b : Option Addr) (n m c d : Nat) (r : Rp) : (srL p v most (.slice a n c) (.slice b m d) r).all (·.oneCell') = true := rfl
def BegOut (base : Nat) (p : Plan) (v : PV) (most : Int) (s : Sr) (w : World) (e : Ending) (w' : World) : Prop := ∃ vS vF, e = .returned (.agg (srL p v most vS vF s.rep).toArray) ∧ w'.ownsRow base 183 60 vS s.seen.length (s.seen.flatMap ptL) ∧ w'.ownsRow base 235 61 vF s.fresh.length (s.fresh.flatMap sgL) ∧ Below base w w'

set_option maxRecDepth 100000 in
set_option maxHeartbeats 8000000 in
theorem se_begin (p : Plan) (v : PV) (most : Int) (w : World) (hp : PIn w p v) :
    Calls Tryz.prog 68 #[.agg (plL p v).toArray, .int .i64 most] w fun e w' => BegOut w.heap.size p v most (beginF p) w e w' := by
  have HP := hide hp
  clear hp
  have hb1 : Below w.heap.size w (w.alloc (.cells (plL p v).toArray 123)) := (Below.refl _ _).alloc (Nat.le_refl _) _
  have hX0 : (w.alloc (.cells (plL p v).toArray 123)).heap[w.heap.size]? = some (.cells (plL p v).toArray 123 (0, 0)) := heap_alloc_new _ _
  have z1 : w.heap.size < (w.alloc (.cells (plL p v).toArray 123)).heap.size := by simp
  go_enter Tryz.func68, Tryz.ntmps68
  go_upto_region 1 with (first | (refine wpl_box rfl 123 _ rfl (plL p v) rfl ?_) | (refine wpl_alloc rfl 127 rfl zSrL Tryz.zeroSearcher ?_))
  generalize w.alloc (.cells (plL p v).toArray 123) = w1 at *
  have hb2 : Below w.heap.size w (w1.alloc (.cells zSrL.toArray 127)) := hb1.alloc (by omega) _
  have hX0' := (Below.heap_alloc w1 (.cells zSrL.toArray 127) w.heap.size (by omega)).trans hX0
  have hX1 : (w1.alloc (.cells zSrL.toArray 127)).heap[w1.heap.size]? = some (.cells zSrL.toArray 127 (0, 0)) := heap_alloc_new _ _
  have z2 : w1.heap.size < (w1.alloc (.cells zSrL.toArray 127)).heap.size := by simp
  generalize w1.alloc (.cells zSrL.toArray 127) = w2 at *
  have rg0 := range_whole hX0'
  clear hb1 hX0
  go_upto_region 2 with (first | (refine wpList_load_mid rfl 123 _ rfl w.heap.size 0 rfl (plL p v) _ rg0 Tryz.underlying123 rfl Tryz.sizeProgram ?_) | (refine wpl_build rfl 127 _ rfl [(0, .agg (plL p v).toArray), (1, .int .i64 most)] (by go_simp) (srL p v most (.slice none 0 0) (.slice none 0 0) zRp) (Tryz.buildSearcher p v most) ?_) | (refine wpl_alloc rfl 127 rfl zSrL Tryz.zeroSearcher ?_) | (refine wpl_store_new rfl 127 _ _ rfl _ _ (srL p v most (.slice none 0 0) (.slice none 0 0) zRp) _ rfl rfl (by simp) Tryz.sizeSearcher rfl (one_sr _ _ _ _ _ _ _ _ _ _) ?_))
  have hbx : Below w2.heap.size w2 (w2.alloc (.cells (srL p v most (.slice none 0 0) (.slice none 0 0) zRp).toArray 127)) := (Below.refl _ _).alloc (Nat.le_refl _) _
  have HB3 := hide (hb2.trans (hbx.mono (by omega)))
  have hX03 := (hbx.block _ (by omega)).trans hX0'
  have hX13 := (hbx.block _ (by omega)).trans hX1
  have HA3 : Hid (SrAt w2.heap.size w.heap.size p v most (.slice none 0 0) (.slice none 0 0) ⟨[], [], zRp⟩ (w2.alloc (.cells (srL p v most (.slice none 0 0) (.slice none 0 0) zRp).toArray 127))) := ⟨heap_alloc_new _ _, owns_nil _ _ _ _, owns_nil _ _ _ _⟩
  have z3 : w2.heap.size < (w2.alloc (.cells (srL p v most (.slice none 0 0) (.slice none 0 0) zRp).toArray 127)).heap.size := by simp
  clear hbx hb2 hX0' hX1 rg0
  generalize w2.alloc (.cells (srL p v most (.slice none 0 0) (.slice none 0 0) zRp).toArray 127) = w3 at *
  have rg0 := range_whole hX03
  go_wp2_with (first | (refine wpList_load_mid rfl 123 _ rfl w.heap.size 0 rfl (plL p v) _ rg0 Tryz.underlying123 rfl Tryz.sizeProgram ?_))
  refine (py_Start p v _ (HP.out.below HB3.out)).mono ?_
  rintro e w4 ⟨rfl, hb4⟩
  have HA4 := hide (HA3.out.below hb4)
  have HB4 := hide (HB3.out.trans (hb4.mono (by omega)))
  have hX14 := (hb4.block _ (by omega)).trans hX13
  have z4 : w3.heap.size ≤ w4.heap.size := hb4.size
  clear hb4 rg0 hX03 hX13 HA3 HB3
  go_wp2_with (first | (refine wpl_build rfl 183 _ rfl [(1, .int .i64 (-1)), (2, .agg (cfgL (start1 p)).toArray)] (by go_simp) (ptL ⟨0, -1, start1 p⟩) (Tryz.buildPoint2 _) ?_))
  refine (se_see w.heap.size w2.heap.size p v most _ _ ⟨[], [], zRp⟩ ⟨0, -1, start1 p⟩ ⟨#[]⟩ _ (by omega) HA4.out ⟨w, Nat.le_refl _, HP.out, HB4.out⟩ (by decide) (by decide)).mono ?_
  rintro e w5 ⟨rfl, vS, vF, hA5, hK5⟩
  have hfar : Far w1.heap.size w2.heap.size (.slice none 0 0) (.slice none 0 0) w4 := ⟨by omega, by omega, by simp [Value.ownBlock], by simp [Value.ownBlock]⟩
  have hX15 := (hK5.same hfar).trans hX14
  have HF5 := hide (hK5.far hfar)
  have HB5 := hide (HB4.out.trans hK5.bel)
  have HA5 : Hid (SrAt w2.heap.size w.heap.size p v most vS vF (beginF p) w5) := hA5
  obtain ⟨aS, cS, hvS⟩ := owns_slice hA5.seen
  obtain ⟨aF, cF, hvF⟩ := owns_slice hA5.fresh
  have rg5 := range_whole HA5.out.box
  clear hA5 hK5 hfar hX14 HA4 HB4
  subst hvS hvF
  generalize (seeP p { seen := [], fresh := [], rep := zRp } { ctx := 0, last := -1, cfg := start1 p } { data := #[] }).seen.length = nS at *
  generalize (seeP p { seen := [], fresh := [], rep := zRp } { ctx := 0, last := -1, cfg := start1 p } { data := #[] }).fresh.length = nF at *
  go_wp2_with (first | (refine wpList_load_mid rfl 127 _ rfl w2.heap.size 0 rfl (srL p v most (.slice aS nS cS) (.slice aF nF cF) (beginF p).rep) _ rg5 Tryz.underlying127 rfl Tryz.sizeSearcher ?_) | (refine wpl_store_box rfl 127 _ _ rfl w1.heap.size _ (srL p v most (.slice aS nS cS) (.slice aF nF cF) (beginF p).rep) _ rfl rfl hX15 Tryz.sizeSearcher rfl (one_sr _ _ _ _ _ _ _ _ _ _) ?_))
  refine bodyPost_ret (v := .agg (srL p v most (.slice aS nS cS) (.slice aF nF cF) (beginF p).rep).toArray) ?_ rfl ⟨_, _, rfl, ?_, ?_, setRow_below HB5.out (by omega)⟩
  · exact res_cell Tryz.results68 rfl (range_whole (setRow_heap hX15)) Tryz.underlying127 rfl Tryz.sizeSearcher
  · exact owns_keep HA5.out.seen fun k _ _ hk hv => (setRow_other (fun e => HF5.out.nS (by rw [← e]; exact hv))).trans hk
  · exact owns_keep HA5.out.fresh fun k _ _ hk hv => (setRow_other (fun e => HF5.out.nF (by rw [← e]; exact hv))).trans hk

end Go.Proofs.YtmfcpbhdggonfaaGreatDoor

/- Contracts of the program's packages play and races: Play of a program that may not be, and of a schedule that is too long. -/
namespace Go.Proofs.YtmfcpbhdggonfaaGreatDoor
open Go.RowKit RR

/-- check.Read answers an error and its place. -/
def BadP (text : ByteArray) (E P : Int) : Prop := ∀ w, Calls Tryz.prog 67 #[.string text] w fun e w' => (∃ a1 n1 c1 a2 n2 c2 a3 n3 c3 a4 n4 c4, e = .returned (.tuple #[.agg #[.slice a1 n1 c1, .slice a2 n2 c2, .slice a3 n3 c3, .slice a4 n4 c4], .int .i64 E, .int .i64 P])) ∧ Below w.heap.size w w'

set_option maxRecDepth 100000 in
set_option maxHeartbeats 8000000 in
theorem py_Program_bad (text s : ByteArray) (E P : Int) (w : World) (hg : BadP text E P) (hE : ¬ E = 0) :
    Calls Tryz.prog 42 #[.string text, .string s] w fun e w' => PlP (zVw, E, P) w e w' := by
  have HG := hide hg
  have hne : (E != 0) = true := bne_iff_ne.2 hE
  clear hg hE
  go_enter Tryz.func42, Tryz.ntmps42
  go_upto_region 1 with (first | (refine wpl_alloc rfl 42 rfl (vwL zVw) Tryz.zeroView ?_))
  have hR : (w.alloc (.cells (vwL zVw).toArray 42)).heap[w.heap.size]? = some (.cells (vwL zVw).toArray 42 (0, 0)) := heap_alloc_new _ _
  have HB := hide (show Below w.heap.size w (w.alloc (.cells (vwL zVw).toArray 42)) from (Below.refl _ _).alloc (Nat.le_refl _) _)
  have hz : w.heap.size < (w.alloc (.cells (vwL zVw).toArray 42)).heap.size := by simp
  generalize w.alloc (.cells (vwL zVw).toArray 42) = W at *
  go_wp2_with fail
  refine (HG.out _).mono ?_
  rintro e w1 ⟨⟨a1, n1, c1, a2, n2, c2, a3, n3, c3, a4, n4, c4, rfl⟩, hb1⟩
  have hR1 := (hb1.block _ hz).trans hR
  have hz1 : w.heap.size < w1.heap.size := Nat.lt_of_lt_of_le hz hb1.size
  have HB1 := hide (HB.out.trans (hb1.mono (by omega)))
  clear hb1 hR HB
  go_upto_region 2 with fail
  have hb2 : Below w1.heap.size w1 (w1.alloc (.cells #[.slice a1 n1 c1, .slice a2 n2 c2, .slice a3 n3 c3, .slice a4 n4 c4] 116)) := (Below.refl _ _).alloc (Nat.le_refl _) _
  have hR2 := (hb2.block _ hz1).trans hR1
  have HB2 := hide (HB1.out.trans (hb2.mono (by omega)))
  clear hb2 hR1 HB1
  generalize w1.alloc (.cells #[.slice a1 n1 c1, .slice a2 n2 c2, .slice a3 n3 c3, .slice a4 n4 c4] 116) = w2 at *
  go_wp2_with (first | (refine wpl_zero rfl 42 rfl (vwL zVw) Tryz.buildView ?_) | (refine wpl_store_box rfl 42 _ _ rfl w.heap.size _ (vwL zVw) _ rfl rfl hR2 Tryz.sizeView rfl (one_vw _) ?_))
  refine bodyPost_ret (v := .tuple #[.agg (vwL zVw).toArray, .int .i64 E, .int .i64 P]) ?_ rfl ⟨rfl, setRow_below HB2.out (Nat.le_refl _)⟩
  exact res_cell_tmp2 Tryz.results42 rfl rfl rfl (range_whole (setRow_heap hR2)) Tryz.underlying42 rfl Tryz.sizeView

set_option maxRecDepth 100000 in
set_option maxHeartbeats 8000000 in
theorem py_Program_long (text s : ByteArray) (ns : List Nm) (sts : List Stm) (nds : List Nd) (w : World) (hg : GoodP text ns sts nds) (hs : 200 < s.size) (hm : s.size ≤ 9223372036854775807) :
    Calls Tryz.prog 42 #[.string text, .string s] w fun e w' => PlP (zVw, 1, 0) w e w' := by
  have HG := hide hg
  have hs' : (200 : Int) < s.size := by omega
  clear hg
  go_enter Tryz.func42, Tryz.ntmps42
  go_upto_region 1 with (first | (refine wpl_alloc rfl 42 rfl (vwL zVw) Tryz.zeroView ?_))
  have hR : (w.alloc (.cells (vwL zVw).toArray 42)).heap[w.heap.size]? = some (.cells (vwL zVw).toArray 42 (0, 0)) := heap_alloc_new _ _
  have HB := hide (show Below w.heap.size w (w.alloc (.cells (vwL zVw).toArray 42)) from (Below.refl _ _).alloc (Nat.le_refl _) _)
  have hz : w.heap.size < (w.alloc (.cells (vwL zVw).toArray 42)).heap.size := by simp
  generalize w.alloc (.cells (vwL zVw).toArray 42) = W at *
  go_wp2_with fail
  refine (HG.out.read _).mono ?_
  rintro e w1 ⟨⟨a1, c1, a2, n2, c2, a3, c3, a4, c4, rfl, _, _, _⟩, hb1⟩
  have hR1 := (hb1.block _ hz).trans hR
  have hz1 : w.heap.size < w1.heap.size := Nat.lt_of_lt_of_le hz hb1.size
  have HB1 := hide (HB.out.trans (hb1.mono (by omega)))
  clear hb1 hR HB
  go_upto_region 2 with fail
  have hb2 : Below w1.heap.size w1 (w1.alloc (.cells #[.slice a1 ns.length c1, .slice a2 n2 c2, .slice a3 sts.length c3, .slice a4 nds.length c4] 116)) := (Below.refl _ _).alloc (Nat.le_refl _) _
  have hR2 := (hb2.block _ hz1).trans hR1
  have HB2 := hide (HB1.out.trans (hb2.mono (by omega)))
  clear hb2 hR1 HB1
  generalize w1.alloc (.cells #[.slice a1 ns.length c1, .slice a2 n2 c2, .slice a3 sts.length c3, .slice a4 nds.length c4] 116) = w2 at *
  go_wp2_with (first | (refine wpl_zero rfl 42 rfl (vwL zVw) Tryz.buildView ?_) | (refine wpl_store_box rfl 42 _ _ rfl w.heap.size _ (vwL zVw) _ rfl rfl hR2 Tryz.sizeView rfl (one_vw _) ?_))
  refine bodyPost_ret (v := .tuple #[.agg (vwL zVw).toArray, .int .i64 1, .int .i64 0]) ?_ rfl ⟨rfl, setRow_below HB2.out (Nat.le_refl _)⟩
  exact res_cell_tmp2 Tryz.results42 rfl rfl rfl (range_whole (setRow_heap hR2)) Tryz.underlying42 rfl Tryz.sizeView

set_option maxRecDepth 100000 in
set_option maxHeartbeats 8000000 in
/-- races.Play answers what play.Program does. -/
theorem m_Play_any (text s : ByteArray) (r : Vw × Int × Int) (h : ∀ w, Calls Tryz.prog 42 #[.string text, .string s] w fun e w' => PlP r w e w') (w : World) :
    Calls Tryz.prog 22 #[.string text, .string s] w fun e w' => PlP r w e w' := by
  have HG := hide h
  clear h
  go_enter Tryz.func22, Tryz.ntmps22
  go_upto_region 1 with (first | (refine wpl_alloc rfl 42 rfl (vwL zVw) Tryz.zeroView ?_))
  have hR : (w.alloc (.cells (vwL zVw).toArray 42)).heap[w.heap.size]? = some (.cells (vwL zVw).toArray 42 (0, 0)) := heap_alloc_new _ _
  have HB := hide (show Below w.heap.size w (w.alloc (.cells (vwL zVw).toArray 42)) from (Below.refl _ _).alloc (Nat.le_refl _) _)
  have hz : w.heap.size < (w.alloc (.cells (vwL zVw).toArray 42)).heap.size := by simp
  generalize w.alloc (.cells (vwL zVw).toArray 42) = W at *
  go_wp2_with fail
  refine (HG.out _).mono ?_
  rintro e w1 ⟨rfl, hb1⟩
  have hR1 := (hb1.block _ hz).trans hR
  have HB1 := hide (HB.out.trans (hb1.mono (by omega)))
  clear hb1 hR
  unfold plyV
  go_wp2_with (first | (refine wpl_store_box rfl 42 _ _ rfl w.heap.size _ (vwL r.1) _ rfl rfl hR1 Tryz.sizeView rfl (one_vw _) ?_))
  refine bodyPost_ret (v := plyV r) ?_ rfl ⟨rfl, setRow_below HB1.out (Nat.le_refl _)⟩
  exact res_cell_tmp2 Tryz.results22 rfl rfl rfl (range_whole (setRow_heap hR1)) Tryz.underlying42 rfl Tryz.sizeView

end Go.Proofs.YtmfcpbhdggonfaaGreatDoor

/- Contracts of the program's packages search and races: Search of a program that may not be, and with numbers that may not be. -/
namespace Go.Proofs.YtmfcpbhdggonfaaGreatDoor
open Go.RowKit RR

/-- The empty report. -/
def repZ : List Value := [.bool false, .bool false, .string ⟨#[]⟩, .string ⟨#[]⟩, .bool false, .int .i64 0]
theorem Tryz.sizeRep : (Tryz.prog.info? 35).map (·.size) = some 6 := by kernel_rfl
theorem Tryz.zeroRep : (Tryz.prog.info? 35).bind (·.zero) = some (.agg repZ.toArray) := by kernel_rfl
theorem Tryz.buildRep : Tryz.prog.built 35 [] = some repZ.toArray := by kernel_rfl
theorem one_rep : repZ.all (·.oneCell') = true := rfl
def SrE (E : Int) (w : World) (e : Ending) (w' : World) : Prop := e = .returned (.tuple #[.agg repZ.toArray, .int .i64 E]) ∧ Below w.heap.size w w'

set_option maxRecDepth 100000 in
set_option maxHeartbeats 8000000 in
theorem se_Program_bad (text : ByteArray) (c n E P : Int) (w : World) (hg : BadP text E P) (hE : ¬ E = 0) :
    Calls Tryz.prog 41 #[.string text, .int .i64 c, .int .i64 n] w fun e w' => SrE E w e w' := by
  have HG := hide hg
  have hne : (E != 0) = true := bne_iff_ne.2 hE
  clear hg hE
  go_enter Tryz.func41, Tryz.ntmps41
  go_upto_region 1 with (first | (refine wpl_alloc rfl 35 rfl repZ Tryz.zeroRep ?_))
  have hR : (w.alloc (.cells repZ.toArray 35)).heap[w.heap.size]? = some (.cells repZ.toArray 35 (0, 0)) := heap_alloc_new _ _
  have HB := hide (show Below w.heap.size w (w.alloc (.cells repZ.toArray 35)) from (Below.refl _ _).alloc (Nat.le_refl _) _)
  have hz : w.heap.size < (w.alloc (.cells repZ.toArray 35)).heap.size := by simp
  generalize w.alloc (.cells repZ.toArray 35) = W at *
  go_wp2_with fail
  refine (HG.out _).mono ?_
  rintro e w1 ⟨⟨a1, n1, c1, a2, n2, c2, a3, n3, c3, a4, n4, c4, rfl⟩, hb1⟩
  have hR1 := (hb1.block _ hz).trans hR
  have hz1 : w.heap.size < w1.heap.size := Nat.lt_of_lt_of_le hz hb1.size
  have HB1 := hide (HB.out.trans (hb1.mono (by omega)))
  clear hb1 hR HB
  go_upto_region 2 with fail
  have hb2 : Below w1.heap.size w1 (w1.alloc (.cells #[.slice a1 n1 c1, .slice a2 n2 c2, .slice a3 n3 c3, .slice a4 n4 c4] 116)) := (Below.refl _ _).alloc (Nat.le_refl _) _
  have hR2 := (hb2.block _ hz1).trans hR1
  have HB2 := hide (HB1.out.trans (hb2.mono (by omega)))
  clear hb2 hR1 HB1
  generalize w1.alloc (.cells #[.slice a1 n1 c1, .slice a2 n2 c2, .slice a3 n3 c3, .slice a4 n4 c4] 116) = w2 at *
  go_wp2_with (first | (refine wpl_zero rfl 35 rfl repZ Tryz.buildRep ?_) | (refine wpl_store_box rfl 35 _ _ rfl w.heap.size _ repZ _ rfl rfl hR2 Tryz.sizeRep rfl one_rep ?_))
  refine bodyPost_ret (v := .tuple #[.agg repZ.toArray, .int .i64 E]) ?_ rfl ⟨rfl, setRow_below HB2.out (Nat.le_refl _)⟩
  exact res_cell_tmp Tryz.results41 rfl rfl (range_whole (setRow_heap hR2)) Tryz.underlying35 rfl Tryz.sizeRep

set_option maxRecDepth 100000 in
set_option maxHeartbeats 8000000 in
theorem se_Program_arg (text : ByteArray) (c n : Int) (ns : List Nm) (sts : List Stm) (nds : List Nd) (w : World) (hg : GoodP text ns sts nds) (hc : c < 1 ∨ ¬ c < 1 ∧ 6 < c ∨ ¬ c < 1 ∧ ¬ 6 < c ∧ n < 0 ∨ ¬ c < 1 ∧ ¬ 6 < c ∧ ¬ n < 0 ∧ 60 < n) :
    Calls Tryz.prog 41 #[.string text, .int .i64 c, .int .i64 n] w fun e w' => SrE 7 w e w' := by
  have HG := hide hg
  have HC := hide hc
  clear hg hc
  go_enter Tryz.func41, Tryz.ntmps41
  go_upto_region 1 with (first | (refine wpl_alloc rfl 35 rfl repZ Tryz.zeroRep ?_))
  have hR : (w.alloc (.cells repZ.toArray 35)).heap[w.heap.size]? = some (.cells repZ.toArray 35 (0, 0)) := heap_alloc_new _ _
  have HB := hide (show Below w.heap.size w (w.alloc (.cells repZ.toArray 35)) from (Below.refl _ _).alloc (Nat.le_refl _) _)
  have hz : w.heap.size < (w.alloc (.cells repZ.toArray 35)).heap.size := by simp
  generalize w.alloc (.cells repZ.toArray 35) = W at *
  go_wp2_with fail
  refine (HG.out.read _).mono ?_
  rintro e w1 ⟨⟨a1, c1, a2, n2, c2, a3, c3, a4, c4, rfl, _, _, _⟩, hb1⟩
  have hR1 := (hb1.block _ hz).trans hR
  have hz1 : w.heap.size < w1.heap.size := Nat.lt_of_lt_of_le hz hb1.size
  have HB1 := hide (HB.out.trans (hb1.mono (by omega)))
  clear hb1 hR HB
  go_upto_region 2 with fail
  have hb2 : Below w1.heap.size w1 (w1.alloc (.cells #[.slice a1 ns.length c1, .slice a2 n2 c2, .slice a3 sts.length c3, .slice a4 nds.length c4] 116)) := (Below.refl _ _).alloc (Nat.le_refl _) _
  have hR2 := (hb2.block _ hz1).trans hR1
  have HB2 := hide (HB1.out.trans (hb2.mono (by omega)))
  clear hb2 hR1 HB1
  generalize w1.alloc (.cells #[.slice a1 ns.length c1, .slice a2 n2 c2, .slice a3 sts.length c3, .slice a4 nds.length c4] 116) = w2 at *
  rcases HC.out with h1 | ⟨h1, h2⟩ | ⟨h1, h2, h3⟩ | ⟨h1, h2, h3, h4⟩
  all_goals (
    go_wp2_with (first | (refine wpl_zero rfl 35 rfl repZ Tryz.buildRep ?_) | (refine wpl_store_box rfl 35 _ _ rfl w.heap.size _ repZ _ rfl rfl hR2 Tryz.sizeRep rfl one_rep ?_))
    refine bodyPost_ret (v := .tuple #[.agg repZ.toArray, .int .i64 7]) ?_ rfl ⟨rfl, setRow_below HB2.out (Nat.le_refl _)⟩
    exact res_cell_tmp Tryz.results41 rfl rfl (range_whole (setRow_heap hR2)) Tryz.underlying35 rfl Tryz.sizeRep)

set_option maxRecDepth 100000 in
set_option maxHeartbeats 8000000 in
/-- races.Search answers what search.Program does: an error. -/
theorem m_Search_err (text : ByteArray) (c n E : Int) (h : ∀ w, Calls Tryz.prog 41 #[.string text, .int .i64 c, .int .i64 n] w fun e w' => SrE E w e w') (w : World) :
    Calls Tryz.prog 20 #[.string text, .int .i64 c, .int .i64 n] w fun e w' => SrE E w e w' := by
  have HG := hide h
  clear h
  go_enter Tryz.func20, Tryz.ntmps20
  go_upto_region 1 with (first | (refine wpl_alloc rfl 35 rfl repZ Tryz.zeroRep ?_))
  have hR : (w.alloc (.cells repZ.toArray 35)).heap[w.heap.size]? = some (.cells repZ.toArray 35 (0, 0)) := heap_alloc_new _ _
  have HB := hide (show Below w.heap.size w (w.alloc (.cells repZ.toArray 35)) from (Below.refl _ _).alloc (Nat.le_refl _) _)
  have hz : w.heap.size < (w.alloc (.cells repZ.toArray 35)).heap.size := by simp
  generalize w.alloc (.cells repZ.toArray 35) = W at *
  go_wp2_with fail
  refine (HG.out _).mono ?_
  rintro e w1 ⟨rfl, hb1⟩
  have hR1 := (hb1.block _ hz).trans hR
  have HB1 := hide (HB.out.trans (hb1.mono (by omega)))
  clear hb1 hR
  go_wp2_with (first | (refine wpl_store_box rfl 35 _ _ rfl w.heap.size _ repZ _ rfl rfl hR1 Tryz.sizeRep rfl one_rep ?_))
  refine bodyPost_ret (v := .tuple #[.agg repZ.toArray, .int .i64 E]) ?_ rfl ⟨rfl, setRow_below HB1.out (Nat.le_refl _)⟩
  exact res_cell_tmp Tryz.results20 rfl rfl (range_whole (setRow_heap hR1)) Tryz.underlying35 rfl Tryz.sizeRep

end Go.Proofs.YtmfcpbhdggonfaaGreatDoor

/- Contracts of the program's packages search and races: Search. -/
namespace Go.Proofs.YtmfcpbhdggonfaaGreatDoor
open Go.RowKit RR

def SrR (r : Rp × Int) (w : World) (e : Ending) (w' : World) : Prop := e = .returned (.tuple #[.agg (rpL r.1).toArray, .int .i64 r.2]) ∧ Below w.heap.size w w'
theorem rep_zero : rpL zRp = repZ := rfl
theorem one_rp (r : Rp) : (rpL r).all (·.oneCell') = true := rfl
theorem beg_seen (p : Plan) : (beginF p).seen.length = 1 ∧ (beginF p).fresh.length = 1 := by
  have := seeP_len p ⟨[], [], zRp⟩ ⟨0, -1, start1 p⟩ ⟨#[]⟩
  exact this
theorem beg_ok (p : Plan) : OkS 0 (beginF p).fresh := by
  have e : (beginF p).fresh = [⟨⟨0, -1, start1 p⟩, ⟨#[]⟩⟩] := rfl
  rw [e]
  intro f hf
  rw [List.mem_singleton] at hf
  subst hf
  exact ⟨⟨Int.le_refl 0, (by decide : (0 : Int) ≤ 100)⟩, Nat.le_refl 0⟩
theorem sr_report {base B : Nat} {p : Plan} {v : PV} {most : Int} {vS vF : Value} {s : Sr} {w : World} (h : SrAt B base p v most vS vF s w) : w.rangeAt B 9 (rpL s.rep) := range_of_block h.box fun j x hx => by
  have e : srL p v most vS vF s.rep = (plL p v ++ [.int .i64 most, vS, vF]) ++ rpL s.rep := rfl
  rw [e, List.getElem?_append_right (by show 9 ≤ 9 + j; omega)]
  have : 9 + j - (plL p v ++ [.int .i64 most, vS, vF]).length = j := by show 9 + j - 9 = j; omega
  rw [this]; exact hx

set_option maxRecDepth 100000 in
set_option maxHeartbeats 8000000 in
theorem se_Program (text : ByteArray) (c : Int) (n : Nat) (ns : List Nm) (sts : List Stm) (nds : List Nd) (w : World) (hg : GoodP text ns sts nds) (h1 : ¬ c < 1) (h6 : ¬ 6 < c) (hn : n ≤ 60) :
    Calls Tryz.prog 41 #[.string text, .int .i64 c, .int .i64 n] w fun e w' => SrR (searchP (planF ns sts nds) c n) w e w' := by
  have HG := hide hg
  clear hg
  have hn6 : ¬ (60 : Int) < n := by omega
  have HSP : Hid (searchP (planF ns sts nds) c n = match roundsF (planF ns sts nds) c n (beginF (planF ns sts nds)) with
    | none => (zRp, 9)
    | some s => (s.rep, 0)) := by
    show _ = _
    unfold searchP
    rw [if_neg (by omega), Int.toNat_natCast]
    cases roundsF (planF ns sts nds) c n (beginF (planF ns sts nds)) <;> rfl
  go_enter Tryz.func41, Tryz.ntmps41
  go_upto_region 1 with (first | (refine wpl_alloc rfl 35 rfl repZ Tryz.zeroRep ?_))
  have hR : (w.alloc (.cells repZ.toArray 35)).heap[w.heap.size]? = some (.cells repZ.toArray 35 (0, 0)) := heap_alloc_new _ _
  have HB := hide (show Below w.heap.size w (w.alloc (.cells repZ.toArray 35)) from (Below.refl _ _).alloc (Nat.le_refl _) _)
  have hz : w.heap.size < (w.alloc (.cells repZ.toArray 35)).heap.size := by simp
  generalize w.alloc (.cells repZ.toArray 35) = W at *
  go_wp2_with fail
  refine (HG.out.read _).mono ?_
  rintro e w1 ⟨⟨a1, c1, a2, n2, c2, a3, c3, a4, c4, rfl, hnm, hst, hnd⟩, hb1⟩
  have hR1 := (hb1.block _ hz).trans hR
  have hz1 : w.heap.size < w1.heap.size := Nat.lt_of_lt_of_le hz hb1.size
  have HB1 := hide (HB.out.trans (hb1.mono (by omega)))
  have HN := hide hnm
  have HS := hide hst
  have HD := hide hnd
  clear hb1 hR hnm hst hnd HB
  have hb2 : ∀ ob : Obj, Below w1.heap.size w1 (w1.alloc ob) := fun ob => (Below.refl _ _).alloc (Nat.le_refl _) ob
  go_wp2_with fail
  refine (pn_Make a1 a2 a3 a4 c1 c2 c3 c4 n2 ns sts nds _ (HN.out.below (hb2 _)) (HS.out.below (hb2 _)) (HD.out.below (hb2 _)) HG.out.b1 HG.out.b2 HG.out.b3 HG.out.b4).mono ?_
  rintro e w3 ⟨aT, cT, aP, cP, aL, cL, aN, cN, rfl, hpl, hb3⟩
  have hb13 : Below w1.heap.size w1 w3 := (hb2 _).trans (hb3.mono (by simp))
  have HB3 := hide (HB1.out.trans (hb13.mono (by omega)))
  have hR3 := (hb13.block _ hz1).trans hR1
  have hz3 : w.heap.size < w3.heap.size := Nat.lt_of_lt_of_le hz1 hb13.size
  have HP3 : Hid (PIn w3 (planF ns sts nds) ⟨aT, cT, aP, cP, aL, cL, aN, cN⟩) := ⟨hpl, HG.out.bS, HG.out.bK, HG.out.bT, HG.out.bP, HG.out.bL, HG.out.bN, HG.out.bV⟩
  clear hb3 hb13 hpl hb2 hR1 HN HS HD HB1
  generalize hPl : planF ns sts nds = p at *
  have HPl := hide hPl
  clear hPl
  go_wp2_with fail
  refine (se_begin p ⟨aT, cT, aP, cP, aL, cL, aN, cN⟩ c _ HP3.out).mono ?_
  rintro e w4 ⟨vS, vF, rfl, hS4, hF4, hb4⟩
  generalize (⟨aT, cT, aP, cP, aL, cL, aN, cN⟩ : PV) = v at *
  obtain ⟨aS, cS, hvS⟩ := owns_slice hS4
  obtain ⟨aF, cF, hvF⟩ := owns_slice hF4
  subst hvS hvF
  have hR4 := (hb4.block _ hz3).trans hR3
  have HB4 := hide (HB3.out.trans (hb4.mono (Nat.le_of_lt hz3)))
  have HS4 := hide hS4
  have HF4 := hide hF4
  have HBW := hide hb4
  have hz4 : w3.heap.size ≤ w4.heap.size := hb4.size
  clear hS4 hF4 hb4 hR3 HB3
  have hbs := beg_seen p
  have HOK := hide (beg_ok p)
  generalize beginF p = s at *
  generalize hq1 : s.seen.length = nS at *
  generalize hq2 : s.fresh.length = nF at *
  have HQ1 := hide hq1
  have HQ2 := hide hq2
  have HBS := hide hbs
  clear hq1 hq2 hbs
  go_upto_region 7 with (first | (refine wpl_alloc rfl 127 rfl zSrL Tryz.zeroSearcher ?_) | (refine wpl_store_new rfl 127 _ _ rfl _ _ (srL p v c (.slice aS nS cS) (.slice aF nF cF) s.rep) _ rfl rfl (by simp) Tryz.sizeSearcher rfl (one_sr _ _ _ _ _ _ _ _ _ _) ?_))
  have hb5 : Below w4.heap.size w4 (w4.alloc (.cells (srL p v c (.slice aS nS cS) (.slice aF nF cF) s.rep).toArray 127)) := (Below.refl _ _).alloc (Nat.le_refl _) _
  have HA5 : Hid (SrAt w4.heap.size w3.heap.size p v c (.slice aS nS cS) (.slice aF nF cF) s (w4.alloc (.cells (srL p v c (.slice aS nS cS) (.slice aF nF cF) s.rep).toArray 127))) := ⟨heap_alloc_new _ _, by rw [HQ1.out]; exact HS4.out.alloc _, by rw [HQ2.out]; exact HF4.out.alloc _⟩
  have hR5 := (hb5.block _ (by omega)).trans hR4
  have HB5 := hide (HB4.out.trans (hb5.mono (by omega)))
  have HPI : Hid (PInB w3.heap.size (w4.alloc (.cells (srL p v c (.slice aS nS cS) (.slice aF nF cF) s.rep).toArray 127)) p v) := ⟨w3, Nat.le_refl _, HP3.out, HBW.out.trans (hb5.mono hz4)⟩
  clear hb5 hR4 HB4 HS4 HF4 HBW HP3
  generalize w4.alloc (.cells (srL p v c (.slice aS nS cS) (.slice aF nF cF) s.rep).toArray 127) = w5 at *
  go_wp2_with fail
  refine (se_goByRounds w3.heap.size w4.heap.size p v c _ _ s n _ hz4 HA5.out HPI.out hn (by omega) (by rw [HQ1.out, HBS.out.1]; decide) (by rw [HQ1.out, HQ2.out, HBS.out.1, HBS.out.2]; decide) HOK.out).mono ?_
  intro e w6 hro
  cases hr : roundsF p c n s with
  | none =>
    rw [hr] at hro HSP
    obtain ⟨rfl, hb6⟩ := hro
    have hR6 := (hb6.block _ hz3).trans hR5
    have HB6 := hide (HB5.out.trans (hb6.mono (Nat.le_of_lt hz3)))
    clear hb6 hR5 HB5 hr
    go_wp2_with (first | (refine wpl_zero rfl 35 rfl repZ Tryz.buildRep ?_) | (refine wpl_store_box rfl 35 _ _ rfl w.heap.size _ repZ _ rfl rfl hR6 Tryz.sizeRep rfl one_rep ?_))
    refine bodyPost_ret (v := .tuple #[.agg repZ.toArray, .int .i64 9]) ?_ rfl ⟨by rw [HPl.out, HSP.out]; rfl, setRow_below HB6.out (Nat.le_refl _)⟩
    exact res_cell_tmp Tryz.results41 rfl rfl (range_whole (setRow_heap hR6)) Tryz.underlying35 rfl Tryz.sizeRep
  | some s2 =>
    rw [hr] at hro HSP
    obtain ⟨rfl, vS2, vF2, hA6, hK6⟩ := hro
    have hR6 := (hK6.bel.block _ hz3).trans hR5
    have HB6 := hide (HB5.out.trans (hK6.bel.mono (Nat.le_of_lt hz3)))
    have rg9 := sr_report hA6
    clear hA6 hK6 hR5 HB5 hr
    go_wp2_with (first | (refine wpList_load_mid rfl 35 _ rfl w4.heap.size 9 rfl (rpL s2.rep) _ rg9 Tryz.underlying35 rfl Tryz.sizeRep ?_) | (refine wpl_store_box rfl 35 _ _ rfl w.heap.size _ (rpL s2.rep) _ rfl rfl hR6 Tryz.sizeRep rfl (one_rp _) ?_))
    refine bodyPost_ret (v := .tuple #[.agg (rpL s2.rep).toArray, .int .i64 0]) ?_ rfl ⟨by rw [HPl.out, HSP.out], setRow_below HB6.out (Nat.le_refl _)⟩
    exact res_cell_tmp Tryz.results41 rfl rfl (range_whole (setRow_heap hR6)) Tryz.underlying35 rfl Tryz.sizeRep

set_option maxRecDepth 100000 in
set_option maxHeartbeats 8000000 in
/-- races.Search answers what search.Program does. -/
theorem m_Search_any (text : ByteArray) (c n : Int) (r : Rp × Int) (h : ∀ w, Calls Tryz.prog 41 #[.string text, .int .i64 c, .int .i64 n] w fun e w' => SrR r w e w') (w : World) :
    Calls Tryz.prog 20 #[.string text, .int .i64 c, .int .i64 n] w fun e w' => SrR r w e w' := by
  have HG := hide h
  clear h
  go_enter Tryz.func20, Tryz.ntmps20
  go_upto_region 1 with (first | (refine wpl_alloc rfl 35 rfl repZ Tryz.zeroRep ?_))
  have hR : (w.alloc (.cells repZ.toArray 35)).heap[w.heap.size]? = some (.cells repZ.toArray 35 (0, 0)) := heap_alloc_new _ _
  have HB := hide (show Below w.heap.size w (w.alloc (.cells repZ.toArray 35)) from (Below.refl _ _).alloc (Nat.le_refl _) _)
  have hz : w.heap.size < (w.alloc (.cells repZ.toArray 35)).heap.size := by simp
  generalize w.alloc (.cells repZ.toArray 35) = W at *
  go_wp2_with fail
  refine (HG.out _).mono ?_
  rintro e w1 ⟨rfl, hb1⟩
  have hR1 := (hb1.block _ hz).trans hR
  have HB1 := hide (HB.out.trans (hb1.mono (by omega)))
  clear hb1 hR
  go_wp2_with (first | (refine wpl_store_box rfl 35 _ _ rfl w.heap.size _ (rpL r.1) _ rfl rfl hR1 Tryz.sizeRep rfl (one_rp _) ?_))
  refine bodyPost_ret (v := .tuple #[.agg (rpL r.1).toArray, .int .i64 r.2]) ?_ rfl ⟨rfl, setRow_below HB1.out (Nat.le_refl _)⟩
  exact res_cell_tmp Tryz.results20 rfl rfl (range_whole (setRow_heap hR1)) Tryz.underlying35 rfl Tryz.sizeRep

/-- Search of a program that may be. -/
theorem m_Search (text : ByteArray) (c : Int) (n : Nat) (ns : List Nm) (sts : List Stm) (nds : List Nd) (w : World) (hg : GoodP text ns sts nds) (h1 : ¬ c < 1) (h6 : ¬ 6 < c) (hn : n ≤ 60) :
    Calls Tryz.prog 20 #[.string text, .int .i64 c, .int .i64 n] w fun e w' => SrR (searchP (planF ns sts nds) c n) w e w' :=
  m_Search_any text c n _ (fun w => se_Program text c n ns sts nds w hg h1 h6 hn) w

end Go.Proofs.YtmfcpbhdggonfaaGreatDoor

/- Searches by reckoning: all reports of a search, round by round. -/
namespace Go.Proofs.YtmfcpbhdggonfaaGreatDoor
open Go.RowKit RR

/-- The reports behind 0, 1, 2 .. rounds, up to the one that ends it; none: too many points. -/
def traceF (p : Plan) (most : Int) : Nat → Sr → Option (List Rp)
  | 0, _ => none
  | n + 1, s => if endedF s then some [s.rep] else (roundF p most s).bind fun s2 => (traceF p most n s2).map (s.rep :: ·)
theorem trace_cons {p : Plan} {most : Int} {n : Nat} {s : Sr} {l : List Rp} (h : traceF p most n s = some l) : l ≠ [] := by
  cases n with
  | zero => cases h
  | succ n =>
    unfold traceF at h
    split at h
    · cases h; simp
    · obtain ⟨s2, _, h2⟩ := Option.bind_eq_some_iff.1 h
      obtain ⟨m, _, h4⟩ := Option.map_eq_some_iff.1 h2
      rw [← h4]; simp
theorem trace_rounds {p : Plan} {most : Int} : ∀ (n : Nat) (s : Sr) (l : List Rp), traceF p most n s = some l → ∀ k, ∃ s', roundsF p most k s = some s' ∧ l[min k (l.length - 1)]? = some s'.rep
  | 0, _, _, h, _ => by cases h
  | n + 1, s, l, h, k => by
    unfold traceF at h
    cases he : endedF s with
    | true =>
      rw [if_pos he] at h
      cases h
      exact ⟨s, rounds_ended he k, by simp⟩
    | false =>
      rw [if_neg (by rw [he]; exact Bool.false_ne_true)] at h
      obtain ⟨s2, h2, h3⟩ := Option.bind_eq_some_iff.1 h
      obtain ⟨m, h4, h5⟩ := Option.map_eq_some_iff.1 h3
      subst h5
      cases k with
      | zero => exact ⟨s, rfl, by simp⟩
      | succ k =>
        obtain ⟨s', h6, h7⟩ := trace_rounds n s2 m h4 k
        refine ⟨s', by rw [rounds_next he, h2]; exact h6, ?_⟩
        have hm := List.length_pos_iff.2 (trace_cons h4)
        have e : min (k + 1) ((s.rep :: m).length - 1) = min k (m.length - 1) + 1 := by simp; omega
        rw [e, List.getElem?_cons_succ]
        exact h7
/-- What a search answers, whatever the steps. -/
theorem search_trace {p : Plan} {most : Int} (h1 : ¬ most < 1) (h6 : ¬ 6 < most) {l : List Rp} (h : traceF p most 61 (beginF p) = some l) (k : Nat) (hk : k ≤ 60) : ∃ r, searchP p most k = (r, 0) ∧ l[min k (l.length - 1)]? = some r := by
  obtain ⟨s', h2, h3⟩ := trace_rounds 61 (beginF p) l h k
  refine ⟨s'.rep, ?_, h3⟩
  unfold searchP
  rw [if_neg (by omega), Int.toNat_natCast, h2]

end Go.Proofs.YtmfcpbhdggonfaaGreatDoor
