/- Contracts of the program's parser: a call. -/
import Derived.Test.YtlpmkpjhdahfhaaGreatDoorParE
namespace Go.Proofs.YtlpmkpjhdahfhaaGreatDoor
open Go.RowKit RR

theorem Tryz.infoCl : (Tryz.prog.info? 143).map (fun i => (i.zero, i.size, i.bytes)) = some (some (.agg #[.string ⟨#[]⟩, .int .i64 0, .int .i64 0]), 3, 32) := by kernel_rfl

theorem cls_append (a b : List Cl) : cls (a ++ b) = cls a ++ cls b := by
  induction a with
  | nil => rfl
  | cons t r ih => show _ :: _ :: _ :: cls (r ++ b) = _; rw [ih]; rfl

theorem three_one {a b c : Value} (h1 : a.oneCell' = true) (h2 : b.oneCell' = true) (h3 : c.oneCell' = true) : ∀ u ∈ [a, b, c], u.oneCell' = true := by
  intro u hu
  rcases List.mem_cons.1 hu with rfl | hu
  · exact h1
  rcases List.mem_cons.1 hu with rfl | hu
  · exact h2
  rcases List.mem_cons.1 hu with rfl | hu
  · exact h3
  · cases hu

theorem call_fin {B : Nat} {ao : Option Addr} {cap : Nat} {L : List Tk} {σ : PSt} {vN vC : Value} {w2 w3 : World} {o : Obj} {t : ByteArray} {p n : Nat} {v' : Value} (h2 : PS B ao cap L σ vN vC w2) (hinv : σ.calls.length + 1 ≤ σ.next)
    (hown3 : w3.ownsRow (B + 1) 143 3 v' (σ.calls.length + 1) (cls σ.calls ++ [.string t, .int .i64 p, .int .i64 n])) (hgrow : (w2.alloc o).drew.grownBy w3 vC.ownBlock) :
    PS B ao cap L { σ with calls := σ.calls ++ [⟨t, p, n⟩] } vN v' (w3.setCell ⟨B, 6, none⟩ v') ∧ Kp B w2 (w3.setCell ⟨B, 6, none⟩ v') := by
  have kB := grow_block h2.cl hgrow B h2.lt (.inl (Nat.lt_succ_self B))
  have hb3 : Below B w2 w3 := ⟨hgrow.os, hgrow.tape, hgrow.output, Nat.le_trans (by simp) hgrow.size, fun k hk => grow_block h2.cl hgrow k (Nat.lt_trans hk h2.lt) (.inl (by omega))⟩
  have hnm : w3.ownsRow (B + 1) 138 4 vN σ.names.length (nms σ.names) := by
    refine ⟨h2.nm.1, ?_⟩
    rcases h2.nm.2 with hc | ⟨g, cp, cur, hv, hg, hh, r⟩
    · exact .inl hc
    · refine .inr ⟨g, cp, cur, hv, hg, ?_, r⟩
      rw [grow_block h2.cl hgrow g (Array.getElem?_eq_some_iff.1 hh).1 (.inr fun c T f e => by rw [hh] at e; simp at e; rw [← e.2.1]; decide)]
      exact hh
  have hblk : w3.heap[B]? = some (.cells #[.slice ao L.length cap, .int .i64 σ.next, .int .i64 σ.depth, .int .i64 σ.proc, .bool σ.failed, vN, vC] 119 (0, 0)) := kB.trans h2.blk
  have hbel : Below B w2 (w3.setCell ⟨B, 6, none⟩ v') := hb3.setCell (p := ⟨B, 6, none⟩) (Nat.le_refl B) _
  refine ⟨⟨?_, h2.tok.below hbel, ?_, ?_, h2.le, ?_⟩, hbel, ?_⟩
  · rw [cts_set hblk 6 v']; rfl
  · exact ownsRow_setCell_below hnm (Nat.lt_succ_self B) _
  · have h3 : w3.ownsRow (B + 1) 143 3 v' (σ.calls ++ [(⟨t, p, n⟩ : Cl)]).length (cls (σ.calls ++ [(⟨t, p, n⟩ : Cl)])) := by
      rw [cls_append, List.length_append]; exact hown3
    exact ownsRow_setCell_below h3 (Nat.lt_succ_self B) _
  · refine ⟨h2.inv.1, ?_⟩
    show (σ.calls ++ [(⟨t, p, n⟩ : Cl)]).length ≤ σ.next + (if σ.failed then 1 else 0)
    rw [List.length_append]
    show σ.calls.length + 1 ≤ _
    omega
  · intro k c T f hk e1 _ e3
    have hne : k ≠ B := by
      intro e
      subst e
      rw [h2.blk] at hk
      simp at hk
      exact e1 hk.2.1.symm
    rw [Below.heap_setCell _ ⟨B, 6, none⟩ _ k hne]
    rw [grow_block h2.cl hgrow k (Array.getElem?_eq_some_iff.1 hk).1 (.inr fun c' T' f' e => by rw [hk] at e; simp at e; rw [← e.2.1]; exact e3)]
    exact hk

set_option maxRecDepth 100000 in
set_option maxHeartbeats 16000000 in
theorem s_call {B : Nat} {ao : Option Addr} {cap : Nat} {L : List Tk} (hL : L.length ≤ 500) (f : Nat) (σ σ' : PSt) (vN vC : Value) (w : World) (h : PS B ao cap L σ vN vC w) (hN : isNameB (σ.ahead L 0).t = true) (hrun : callP L f σ = some σ') :
    Calls Tryz.prog 132 #[.pointer (some ⟨B, 0, none⟩)] w fun e w' => e = .returned (.tuple #[]) ∧ ∃ vN' vC', PS B ao cap L σ' vN' vC' w' ∧ Kp B w w' := by
  obtain ⟨i0, hi0, hz0, hz1, hz2⟩ := info_parts Tryz.infoCl
  have hfl := (name_lt hN).2
  have hc0 : σ.calls.length ≤ σ.next := by have := h.inv.2; rw [hfl] at this; simpa using this
  have htn : (σ.takeName L 6).next = σ.next + 1 ∧ (σ.takeName L 6).calls = σ.calls := by unfold PSt.takeName; rw [hN]; exact ⟨rfl, rfl⟩
  unfold callP at hrun
  obtain ⟨⟨σ4, n⟩, h1, h2⟩ := Option.map_eq_some_iff.1 hrun
  have HR := hide h2
  clear hrun h2
  have hge := good_enter L (σ.takeName L 6) ⟨#[40]⟩
  go_enter Tryz.func132, Tryz.ntmps132
  go_wp2_with fail
  refine (s_ahead 0 _ hL (by omega) h).mono ?_
  rintro e w1 ⟨rfl, hb1⟩
  rw [hN]
  have hX : (w1.alloc (.cells #[.string (σ.ahead L 0).t, .int .i64 (σ.ahead L 0).p, .bool true] 116)).heap[w1.heap.size]? = some (.cells #[.string (σ.ahead L 0).t, .int .i64 (σ.ahead L 0).p, .bool true] 116 (0, 0)) := heap_alloc_new w1 _
  have hb2 := hb1.alloc hb1.size (.cells #[.string (σ.ahead L 0).t, .int .i64 (σ.ahead L 0).p, .bool true] 116)
  have hp1 := h.below hb2
  have k01 := Kp.of_below hb2 (Nat.le_of_lt h.lt)
  go_wp2_with fail
  generalize w1.alloc (.cells #[.string (σ.ahead L 0).t, .int .i64 (σ.ahead L 0).p, .bool true] 116) = w2 at *
  generalize w1.heap.size = X at *
  clear hb1 hb2 h
  refine (s_takeName 6 _ hL hp1).mono ?_
  rintro e w3 ⟨rfl, vN3, hp3, k3⟩
  have hX3 := k3.keep _ _ _ _ hX (by decide) (by decide) (by decide)
  have k03 := k01.trans k3
  clear k01 k3 hX hp1
  go_wp2_with fail
  refine (s_enter ⟨#[40]⟩ _ hL (by decide) hp3).mono ?_
  rintro e w4 ⟨rfl, hp2, k4⟩
  have hX2 := k4.keep _ _ _ _ hX3 (by decide) (by decide) (by decide)
  have k02 := k03.trans k4
  clear k03 k4 hX3 hp3
  generalize enterP L (σ.takeName L 6) ⟨#[40]⟩ = σ2 at *
  have hg2 : σ2.calls = σ.calls ∧ σ.next + 1 ≤ σ2.next := ⟨hge.1.trans htn.2, by have := hge.2.1; omega⟩
  clear hge htn
  cases hs : σ2.sees L ⟨#[41]⟩
  · rw [hs] at h1
    obtain ⟨τ, h3, h4⟩ := bind_some h1
    have HV := hide h4
    have HX := hide h3
    have hgd := good_expr h3
    have hgv := good_values L f τ 1 _ h4 (by omega)
    have hgl := good_leave L σ4 ⟨#[41]⟩
    have hnb : n ≤ σ4.next + 1 := hgv.2
    have hgood : (leaveP L σ4 ⟨#[41]⟩).calls.length + 1 ≤ (leaveP L σ4 ⟨#[41]⟩).next := by
      have e1 : (leaveP L σ4 ⟨#[41]⟩).calls = σ.calls := hgl.1.trans (hgv.1.1.trans (hgd.1.trans hg2.1))
      have e2 := hgl.2.1
      have e3 := hgv.1.2.1
      have e4 := hgd.2.1
      rw [e1]
      show σ.calls.length + 1 ≤ _
      have e5 : τ.next ≤ σ4.next := e3
      omega
    clear h1 h3 h4 hgd hgv hgl hg2
    go_wp2_with fail
    refine (s_sees ⟨#[41]⟩ _ hL hp2).mono ?_
    rintro e w5 ⟨rfl, hb5⟩
    rw [hs]
    have hp25 := hp2.below hb5
    have k5 := Kp.of_below hb5 (Nat.le_of_lt hp2.lt)
    have hX5 := k5.keep _ _ _ _ hX2 (by decide) (by decide) (by decide)
    have k05 := k02.trans k5
    clear hb5 hp2 k5 hX2 k02
    go_wp2_with fail
    refine (s_values hL f σ2 τ σ4 n _ _ _ hp25 HX.out HV.out).mono ?_
    rintro e w5b ⟨rfl, vN4, vC4, hp4, k5b⟩
    have hX4 := k5b.keep _ _ _ _ hX5 (by decide) (by decide) (by decide)
    have k04 := k05.trans k5b
    have hle4 := hp4.le
    clear k05 k5b hX5 hp25
    go_wp2_with fail
    refine (s_leave ⟨#[41]⟩ _ hL (by decide) hp4).mono ?_
    rintro e w6 ⟨rfl, hp6, k6⟩
    have hX6 := k6.keep _ _ _ _ hX4 (by decide) (by decide) (by decide)
    have HG := hide (hgood)
    generalize hσ5 : leaveP L σ4 ⟨#[41]⟩ = σ5 at *
    have hcl5 : σ5.calls.length + 1 ≤ σ5.next := HG.out
    have hle5 := hp6.le
    have kw := k04.trans k6
    clear hσ5 HG hp4 hX4 k6
    obtain ⟨c0, c1, c2, c3, c4, c5, c6, hf⟩ := hp6.cells
    have f6 := hf 6
    have x0 : w6.cell? ⟨X, 0, none⟩ = some (.string (σ.ahead L 0).t) := by simp [World.cell?, hX6]
    have x1 : w6.cell? ⟨X, 1, none⟩ = some (.int .i64 (σ.ahead L 0).p) := by simp [World.cell?, hX6]
    have hown := hp6.cl
    have hzz : B < w6.heap.size := hp6.lt
    have hbw : B + 1 ≤ w6.heap.size := hzz
    clear hf
    go_wp2_with fail
    go_region_law (refine step_append_lies _ rfl (.tmp 21) (.tmp 28) 80 rfl (B + 1) 143 i0 (.agg #[.string ⟨#[]⟩, .int .i64 0, .int .i64 0]) 3 32 Tryz.underlying80 hi0 hz0 hz1 hz2 rfl (by decide) vC4 σ5.calls.length (cls σ5.calls) rfl (by exact hown.alloc _) ⟨w6.heap.size, 0, none⟩ 1 1 [.string (σ.ahead L 0).t, .int .i64 (σ.ahead L 0).p, .int .i64 n] rfl rfl (by exact three_cells) (three_one rfl rfl rfl) (by decide) (by unfold maxLen; omega) (by omega) (by simp; omega) _ rfl ?_; intro g cap' w7 hown7 hgrow hat hg; have kB := grow_block hown hgrow B hzz (.inl (Nat.lt_succ_self B)); have k6 : w7.cell? ⟨B, 6, none⟩ = some vC4 := (World.cell?_of_block (w := w6) kB).trans c6; have kf : w7.frozen? ⟨B, 6, none⟩ = false := (World.frozen?_of_block (w := w6) kB).trans f6)
    all_goals
      have hfin := call_fin hp6 hcl5 hown7 hgrow
      clear hown7 hgrow hat hg kB c0 c1 c2 c3 c4 c5 c6 x0 x1 hown hi0 hz0 hz1 hz2
      go_wp2_with fail
      go_end0
      exact ⟨rfl, vN4, _, by rw [← HR.out]; exact hfin.1, kw.trans hfin.2⟩
  · rw [hs] at h1
    have e0 : (σ2, 0) = (σ4, n) := Option.some.inj h1
    have e1 : σ2 = σ4 := congrArg Prod.fst e0
    have e2 : 0 = n := congrArg Prod.snd e0
    subst e2
    have hgl := good_leave L σ4 ⟨#[41]⟩
    have hgood : (leaveP L σ4 ⟨#[41]⟩).calls.length + 1 ≤ (leaveP L σ4 ⟨#[41]⟩).next := by
      rw [e1] at hg2
      have e3 : (leaveP L σ4 ⟨#[41]⟩).calls = σ.calls := hgl.1.trans hg2.1
      have e4 := hgl.2.1
      rw [e3]; omega
    clear h1 e0 hg2 hgl
    go_wp2_with fail
    refine (s_sees ⟨#[41]⟩ _ hL hp2).mono ?_
    rintro e w5 ⟨rfl, hb5⟩
    rw [hs]
    have hp4' := hp2.below hb5
    have k5 := Kp.of_below hb5 (Nat.le_of_lt hp2.lt)
    have hX4 := k5.keep _ _ _ _ hX2 (by decide) (by decide) (by decide)
    have k04 := k02.trans k5
    rw [e1] at hp4'
    obtain ⟨vN4, hvN4⟩ : ∃ v, v = vN3 := ⟨_, rfl⟩
    obtain ⟨vC4, hvC4⟩ : ∃ v, v = vC := ⟨_, rfl⟩
    have hp4 : PS B ao cap L σ4 vN4 vC4 w5 := by rw [hvN4, hvC4]; exact hp4'
    clear hb5 hp2 k5 hX2 k02 hp4' hs e1 hvN4 hvC4
    go_wp2_with fail
    refine (s_leave ⟨#[41]⟩ _ hL (by decide) hp4).mono ?_
    rintro e w6 ⟨rfl, hp6, k6⟩
    have hX6 := k6.keep _ _ _ _ hX4 (by decide) (by decide) (by decide)
    have HG := hide (hgood)
    generalize hσ5 : leaveP L σ4 ⟨#[41]⟩ = σ5 at *
    have hcl5 : σ5.calls.length + 1 ≤ σ5.next := HG.out
    have hle5 := hp6.le
    have kw := k04.trans k6
    clear hσ5 HG hp4 hX4 k6
    obtain ⟨c0, c1, c2, c3, c4, c5, c6, hf⟩ := hp6.cells
    have f6 := hf 6
    have x0 : w6.cell? ⟨X, 0, none⟩ = some (.string (σ.ahead L 0).t) := by simp [World.cell?, hX6]
    have x1 : w6.cell? ⟨X, 1, none⟩ = some (.int .i64 (σ.ahead L 0).p) := by simp [World.cell?, hX6]
    have hown := hp6.cl
    have hzz : B < w6.heap.size := hp6.lt
    have hbw : B + 1 ≤ w6.heap.size := hzz
    clear hf
    go_wp2_with fail
    go_region_law (refine step_append_lies _ rfl (.tmp 21) (.tmp 28) 80 rfl (B + 1) 143 i0 (.agg #[.string ⟨#[]⟩, .int .i64 0, .int .i64 0]) 3 32 Tryz.underlying80 hi0 hz0 hz1 hz2 rfl (by decide) vC4 σ5.calls.length (cls σ5.calls) rfl (by exact hown.alloc _) ⟨w6.heap.size, 0, none⟩ 1 1 [.string (σ.ahead L 0).t, .int .i64 (σ.ahead L 0).p, .int .i64 ((0 : Nat) : Int)] rfl rfl (by exact three_cells) (three_one rfl rfl rfl) (by decide) (by unfold maxLen; omega) (by omega) (by simp; omega) _ rfl ?_; intro g cap' w7 hown7 hgrow hat hg; have kB := grow_block hown hgrow B hzz (.inl (Nat.lt_succ_self B)); have k6 : w7.cell? ⟨B, 6, none⟩ = some vC4 := (World.cell?_of_block (w := w6) kB).trans c6; have kf : w7.frozen? ⟨B, 6, none⟩ = false := (World.frozen?_of_block (w := w6) kB).trans f6)
    all_goals
      have hfin := call_fin hp6 hcl5 hown7 hgrow
      clear hown7 hgrow hat hg kB c0 c1 c2 c3 c4 c5 c6 x0 x1 hown hi0 hz0 hz1 hz2
      go_wp2_with fail
      go_end0
      exact ⟨rfl, vN4, _, by rw [← HR.out]; exact hfin.1, kw.trans hfin.2⟩

end Go.Proofs.YtlpmkpjhdahfhaaGreatDoor
