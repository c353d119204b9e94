/- Contracts of the program's parser: taking a name. -/
import Derived.Test.YtlpmkpjhdahfhaaGreatDoorParA
import Derived.Deep.RegionLaw
import Derived.Deep.AppendLies
namespace Go.Proofs.YtlpmkpjhdahfhaaGreatDoor
open Go.RowKit RR

theorem Tryz.infoNm : (Tryz.prog.info? 138).map (fun i => (i.zero, i.size, i.bytes)) = some (some (.agg #[.string ⟨#[]⟩, .int .i64 0, .int .i64 0, .int .i64 0]), 4, 40) := by kernel_rfl

theorem nms_append (a b : List Nm) : nms (a ++ b) = nms a ++ nms b := by
  induction a with
  | nil => rfl
  | cons t r ih => show _ :: _ :: _ :: _ :: nms (r ++ b) = _; rw [ih]; rfl

theorem four_one {a b c d : Value} (h1 : a.oneCell' = true) (h2 : b.oneCell' = true) (h3 : c.oneCell' = true) (h4 : d.oneCell' = true) : ∀ u ∈ [a, b, c, d], u.oneCell' = true := by
  intro u hu
  rcases List.mem_cons.1 hu with rfl | hu
  · exact h1
  rcases List.mem_cons.1 hu with rfl | hu
  · exact h2
  rcases List.mem_cons.1 hu with rfl | hu
  · exact h3
  rcases List.mem_cons.1 hu with rfl | hu
  · exact h4
  · cases hu

theorem four_cells {w : World} {T : TypeId} {a b c d : Value} : ∀ (j : Nat) (u : Value), [a, b, c, d][j]? = some u → (w.alloc (.cells #[a, b, c, d] T)).cell? ((⟨w.heap.size, 0, none⟩ : Addr).add j) = some u := by
  intro j u hj
  have hh : (w.alloc (.cells #[a, b, c, d] T)).heap[w.heap.size]? = some (.cells #[a, b, c, d] T) := heap_alloc_new w _
  rw [addr_add]
  match j, hj with
  | 0, hj => simp only [World.cell?, hh]; exact hj
  | 1, hj => simp only [World.cell?, hh]; exact hj
  | 2, hj => simp only [World.cell?, hh]; exact hj
  | 3, hj => simp only [World.cell?, hh]; exact hj

/-- Behind an append to the names: the parser's own block, and all blocks of another make, stand. -/
theorem grow_block {w2 w3 : World} {base : Nat} {e : TypeId} {size n : Nat} {v : Value} {xs : List Value} {o : Obj} (hown : w2.ownsRow base e size v n xs) (hg : (w2.alloc o).drew.grownBy w3 v.ownBlock) (k : Nat) (hk : k < w2.heap.size) (hne : k < base ∨ ∀ c T f, w2.heap[k]? = some (Obj.cells c T f) → T ≠ e) : w3.heap[k]? = w2.heap[k]? := by
  have h1 : some k ≠ v.ownBlock := by
    intro e1
    have hl := hown.lt k e1.symm
    rcases hne with h | h
    · omega
    · rcases hown.2 with ⟨rfl, _⟩ | ⟨g, cap, cur, rfl, _, hh, _⟩
      · simp [Value.ownBlock] at e1
      · simp [Value.ownBlock] at e1
        subst e1
        exact h _ _ _ hh rfl
  have h2 := hg.block k (by show k < (w2.alloc o).heap.size; simp; omega) h1
  exact h2.trans (Below.heap_alloc w2 o k hk)

theorem takeName_fin {B : Nat} {ao : Option Addr} {cap : Nat} {L : List Tk} {σ : PSt} {vN vC : Value} {w2 w3 : World} {o : Obj} {t : ByteArray} {p role : Nat} {v' : Value} (h2 : PS B ao cap L σ vN vC w2) (hnx : σ.next < L.length)
    (hown3 : w3.ownsRow (B + 1) 138 4 v' (σ.names.length + 1) (nms σ.names ++ [.string t, .int .i64 p, .int .i64 role, .int .i64 σ.proc])) (hgrow : (w2.alloc o).drew.grownBy w3 vN.ownBlock) :
    PS B ao cap L { σ with next := σ.next + 1, names := σ.names ++ [⟨t, p, role, σ.proc⟩] } v' vC ((w3.setCell ⟨B, 5, none⟩ v').setCell ⟨B, 1, none⟩ (.int .i64 ((σ.next : Int) + 1))) ∧ Kp B w2 ((w3.setCell ⟨B, 5, none⟩ v').setCell ⟨B, 1, none⟩ (.int .i64 ((σ.next : Int) + 1))) := by
  have kB := grow_block h2.nm hgrow B h2.lt (.inl (Nat.lt_succ_self B))
  have hb3 : Below B w2 w3 := ⟨hgrow.os, hgrow.tape, hgrow.output, Nat.le_trans (by simp) hgrow.size, fun k hk => grow_block h2.nm hgrow k (Nat.lt_trans hk h2.lt) (.inl (by omega))⟩
  have hcl : w3.ownsRow (B + 1) 143 3 vC σ.calls.length (cls σ.calls) := by
    refine ⟨h2.cl.1, ?_⟩
    rcases h2.cl.2 with hc | ⟨g, cp, cur, hv, hg, hh, r⟩
    · exact .inl hc
    · refine .inr ⟨g, cp, cur, hv, hg, ?_, r⟩
      rw [grow_block h2.nm hgrow g (Array.getElem?_eq_some_iff.1 hh).1 (.inr fun c T f e => by rw [hh] at e; simp at e; rw [← e.2.1]; decide)]
      exact hh
  have hblk : w3.heap[B]? = some (.cells #[.slice ao L.length cap, .int .i64 σ.next, .int .i64 σ.depth, .int .i64 σ.proc, .bool σ.failed, vN, vC] 119 (0, 0)) := kB.trans h2.blk
  have hbel : Below B w2 ((w3.setCell ⟨B, 5, none⟩ v').setCell ⟨B, 1, none⟩ (.int .i64 ((σ.next : Int) + 1))) := (hb3.setCell (p := ⟨B, 5, none⟩) (Nat.le_refl B) _).setCell (p := ⟨B, 1, none⟩) (Nat.le_refl B) _
  refine ⟨⟨?_, h2.tok.below hbel, ?_, ?_, hnx, inv_name h2.inv _⟩, hbel, ?_⟩
  · rw [cts_set (cts_set hblk 5 v') 1 _]; rfl
  · have h3 : w3.ownsRow (B + 1) 138 4 v' (σ.names ++ [(⟨t, p, role, σ.proc⟩ : Nm)]).length (nms (σ.names ++ [(⟨t, p, role, σ.proc⟩ : Nm)])) := by
      rw [nms_append, List.length_append]; exact hown3
    exact ownsRow_setCell_below (ownsRow_setCell_below h3 (Nat.lt_succ_self B) _) (Nat.lt_succ_self B) _
  · exact ownsRow_setCell_below (ownsRow_setCell_below hcl (Nat.lt_succ_self B) _) (Nat.lt_succ_self B) _
  · intro k c T f hk e1 e2 _
    have hne : k ≠ B := by
      intro e
      subst e
      rw [h2.blk] at hk
      simp at hk
      exact e1 hk.2.1.symm
    rw [Below.heap_setCell _ ⟨B, 1, none⟩ _ k hne, Below.heap_setCell _ ⟨B, 5, none⟩ _ k hne]
    rw [grow_block h2.nm hgrow k (Array.getElem?_eq_some_iff.1 hk).1 (.inr fun c' T' f' e => by rw [hk] at e; simp at e; rw [← e.2.1]; exact e2)]
    exact hk

set_option maxRecDepth 100000 in
set_option maxHeartbeats 16000000 in
theorem s_takeName {B : Nat} {ao : Option Addr} {cap : Nat} {L : List Tk} {σ : PSt} {vN vC : Value} (role : Nat) (w : World) (hL : L.length ≤ 500) (h : PS B ao cap L σ vN vC w) :
    Calls Tryz.prog 105 #[.pointer (some ⟨B, 0, none⟩), .int .i64 role] w fun e w' => e = .returned (.tuple #[]) ∧ ∃ vN', PS B ao cap L (σ.takeName L role) vN' vC w' ∧ Kp B w w' := by
  have hle := h.le
  have hlt := h.lt
  have hnm : σ.names.length ≤ 1000 := by have := h.inv.1; omega
  cases hN : isNameB (σ.ahead L 0).t
  · have HT : Hid (σ.takeName L role = σ.fail) := by show _ = _; unfold PSt.takeName; rw [hN]; rfl
    go_enter Tryz.func105, Tryz.ntmps105
    go_wp2_with fail
    refine (s_ahead 0 _ hL (by omega) h).mono ?_
    rintro e w1 ⟨rfl, hb1⟩
    rw [hN]
    have h1 := fun ob => h.below (hb1.alloc hb1.size ob)
    have h2 := h1 (.cells #[.string (σ.ahead L 0).t, .int .i64 (σ.ahead L 0).p, .bool false] 116)
    obtain ⟨c0, c1, c2, c3, c4, c5, c6, hf⟩ := h2.cells
    have f4 := hf 4
    clear hf
    go_wp2_with fail
    exact bodyPost_ret (v := .tuple #[]) (by simp [results, Tryz.results105, go_sem]) rfl ⟨rfl, vN, by rw [HT.out]; exact (ps_fail h2).1, (Kp.of_below (hb1.alloc hb1.size _) (Nat.le_of_lt hlt)).trans (ps_fail h2).2⟩
  · have HT : Hid (σ.takeName L role = { σ with next := σ.next + 1, names := σ.names ++ [⟨(σ.ahead L 0).t, (σ.ahead L 0).p, role, σ.proc⟩] }) := by show _ = _; unfold PSt.takeName; rw [hN]; rfl
    obtain ⟨i0, hi0, hz0, hz1, hz2⟩ := info_parts Tryz.infoNm
    have hnx := (name_lt hN).1
    go_enter Tryz.func105, Tryz.ntmps105
    go_wp2_with fail
    refine (s_ahead 0 _ hL (by omega) h).mono ?_
    rintro e w1 ⟨rfl, hb1⟩
    rw [hN]
    have h1 := fun ob => h.below (hb1.alloc hb1.size ob)
    have h2 := h1 (.cells #[.string (σ.ahead L 0).t, .int .i64 (σ.ahead L 0).p, .bool true] 116)
    have hb2 := hb1.alloc hb1.size (.cells #[.string (σ.ahead L 0).t, .int .i64 (σ.ahead L 0).p, .bool true] 116)
    have hX : (w1.alloc (.cells #[.string (σ.ahead L 0).t, .int .i64 (σ.ahead L 0).p, .bool true] 116)).heap[w1.heap.size]? = some (.cells #[.string (σ.ahead L 0).t, .int .i64 (σ.ahead L 0).p, .bool true] 116 (0, 0)) := heap_alloc_new w1 _
    go_wp2_with fail
    generalize w1.alloc (.cells #[.string (σ.ahead L 0).t, .int .i64 (σ.ahead L 0).p, .bool true] 116) = w2 at *
    generalize w1.heap.size = X at *
    obtain ⟨c0, c1, c2, c3, c4, c5, c6, hf⟩ := h2.cells
    have f5 := hf 5
    have f1 := hf 1
    have x0 : w2.cell? ⟨X, 0, none⟩ = some (.string (σ.ahead L 0).t) := by simp [World.cell?, hX]
    have x1 : w2.cell? ⟨X, 1, none⟩ = some (.int .i64 (σ.ahead L 0).p) := by simp [World.cell?, hX]
    clear hf h1 hb1
    have hown := h2.nm
    have hzz : B < w2.heap.size := h2.lt
    have hbw : B + 1 ≤ w2.heap.size := hzz
    go_region_law (refine step_append_lies _ rfl (.tmp 17) (.tmp 28) 79 rfl (B + 1) 138 i0 (.agg #[.string ⟨#[]⟩, .int .i64 0, .int .i64 0, .int .i64 0]) 4 40 Tryz.underlying79 hi0 hz0 hz1 hz2 rfl (by decide) vN σ.names.length (nms σ.names) rfl (by exact hown.alloc _) ⟨w2.heap.size, 0, none⟩ 1 1 [.string (σ.ahead L 0).t, .int .i64 (σ.ahead L 0).p, .int .i64 role, .int .i64 σ.proc] rfl rfl (by exact four_cells) (four_one rfl rfl rfl rfl) (by decide) (by unfold maxLen; omega) (by omega) (by simp; omega) _ rfl ?_; intro g cap' w3 hown3 hgrow hat hg; have kB := grow_block hown hgrow B hzz (.inl (Nat.lt_succ_self B)); have k5 : w3.cell? ⟨B, 5, none⟩ = some vN := (World.cell?_of_block (w := w2) kB).trans c5; have kf : w3.frozen? ⟨B, 5, none⟩ = false := (World.frozen?_of_block (w := w2) kB).trans f5)
    all_goals
      have k1 : w3.cell? ⟨B, 1, none⟩ = some (.int .i64 σ.next) := (World.cell?_of_block (w := w2) kB).trans c1
      have kg : w3.frozen? ⟨B, 1, none⟩ = false := (World.frozen?_of_block (w := w2) kB).trans f1
      have hfin := takeName_fin h2 hnx hown3 hgrow
      clear hown3 hgrow hat hg kB c0 c1 c2 c3 c4 c5 c6 x0 x1 hown hi0 hz0 hz1 hz2
      go_wp2_with fail
      go_end0
      exact ⟨rfl, _, by rw [HT.out]; exact hfin.1, (Kp.of_below hb2 (Nat.le_of_lt hlt)).trans hfin.2⟩

end Go.Proofs.YtlpmkpjhdahfhaaGreatDoor
