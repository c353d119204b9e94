/- Contracts of the program's parser: adding a node. -/
import Derived.Test.YtmfcpbhdggonfaaGreatDoorQarX
namespace Go.Proofs.YtmfcpbhdggonfaaGreatDoor
open Go.RowKit RR

theorem Tryz.infoNd : (Tryz.prog.info? 190).map (fun i => (i.zero, i.size, i.bytes)) = some (some (.agg #[.int .i64 0, .int .i64 0, .int .i64 0, .int .i64 0]), 4, 32) := by kernel_rfl

set_option maxRecDepth 100000 in
set_option maxHeartbeats 16000000 in
theorem s_addNode {B : Nat} {ao : Option Addr} {cap : Nat} {L : List Tk} {U : Nat} {σ : QSt} {vS : Value} (n : Nd) (w : World) (hn : σ.nds.length ≤ 9000) (h : PS B ao cap L U σ vS w) :
    Calls Tryz.prog 234 #[.pointer (some ⟨B, 0, none⟩), .agg #[.int .i64 n.sign, .int .i64 n.name, .int .i64 n.left, .int .i64 n.right]] w fun e w' => e = .returned (.int .i64 σ.nds.length) ∧ PS B ao cap L U (σ.node n) vS w' ∧ Kp B w w' := by
  have hlt := h.lt
  obtain ⟨i0, hi0, hz0, hz1, hz2⟩ := info_parts Tryz.infoNd
  have hb1 : Below w.heap.size w (w.alloc (.cells #[.int .i64 n.sign, .int .i64 n.name, .int .i64 n.left, .int .i64 n.right] 190)) := (Below.refl _ _).alloc (Nat.le_refl _) _
  have h1 := h.below hb1
  have K1 := Kp.of_below hb1 (Nat.le_of_lt hlt)
  have hX : (w.alloc (.cells #[.int .i64 n.sign, .int .i64 n.name, .int .i64 n.left, .int .i64 n.right] 190)).heap[w.heap.size]? = some (.cells #[.int .i64 n.sign, .int .i64 n.name, .int .i64 n.left, .int .i64 n.right] 190 (0, 0)) := heap_alloc_new w _
  go_enter Tryz.func234, Tryz.ntmps234
  go_wp2_with fail
  generalize w.alloc (.cells #[.int .i64 n.sign, .int .i64 n.name, .int .i64 n.left, .int .i64 n.right] 190) = w2 at *
  generalize w.heap.size = X at *
  obtain ⟨vN, vC, vD, h2⟩ := h1
  obtain ⟨c0, c1, c2, c3, c4, c5, c6, c7, c8, hf⟩ := h2.cells
  have f8 := hf 8
  have x0 : w2.cell? ⟨X, 0, none⟩ = some (.int .i64 n.sign) := by simp [World.cell?, hX]
  have x1 : w2.cell? ⟨X, 1, none⟩ = some (.int .i64 n.name) := by simp [World.cell?, hX]
  have x2 : w2.cell? ⟨X, 2, none⟩ = some (.int .i64 n.left) := by simp [World.cell?, hX]
  have x3 : w2.cell? ⟨X, 3, none⟩ = some (.int .i64 n.right) := by simp [World.cell?, hX]
  clear hf
  have hown := h2.nd
  have hzz : B < w2.heap.size := h2.lt
  have hbw : B + 1 ≤ w2.heap.size := hzz
  go_region_law (refine step_append_lies _ rfl (.tmp 9) (.tmp 11) 114 rfl (B + 1) 190 i0 (.agg #[.int .i64 0, .int .i64 0, .int .i64 0, .int .i64 0]) 4 32 Tryz.underlying114 hi0 hz0 hz1 hz2 rfl (by decide) vD σ.nds.length (ndc σ.nds) rfl (by exact hown.alloc _) ⟨w2.heap.size, 0, none⟩ 1 1 [.int .i64 n.sign, .int .i64 n.name, .int .i64 n.left, .int .i64 n.right] rfl rfl (by exact four_cells) (four_one rfl rfl rfl rfl) (by decide) (by unfold maxLen; omega) (by omega) (by simp; omega) _ rfl ?_; intro g cap' w3 hown3 hgrow hat hg; have kB := grow_block hown hgrow B hzz (.inl (Nat.lt_succ_self B)); have k8 : w3.cell? ⟨B, 8, none⟩ = some vD := (World.cell?_of_block (w := w2) kB).trans c8; have kf : w3.frozen? ⟨B, 8, none⟩ = false := (World.frozen?_of_block (w := w2) kB).trans f8)
  all_goals
    have hfin := nd_fin (n := n) h2 hown3 hgrow
    clear hown3 hgrow hat hg kB c0 c1 c2 c3 c4 c5 c6 c7 c8 x0 x1 x2 x3 hown hi0 hz0 hz1 hz2
    go_wp2_with fail
    go_ret
    exact ⟨ret_int (by omega), ⟨_, _, _, hfin.1⟩, K1.trans hfin.2⟩

end Go.Proofs.YtmfcpbhdggonfaaGreatDoor
