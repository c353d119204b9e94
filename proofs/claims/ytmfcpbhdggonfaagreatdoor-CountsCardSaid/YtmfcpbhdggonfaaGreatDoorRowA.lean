/- A script's argument, opened: the steps that lie in memory, as plain data. -/
import Derived.Test.YtmfcpbhdggonfaaGreatDoorLawP
import Derived.ProofKit
import Derived.Deep.Slices
namespace Go.Proofs.YtmfcpbhdggonfaaGreatDoor
open Go.ChangeShapes Go.WideShapes Go.ChangeAt Go.RowKit Go.Deep

theorem opCells : Tryz.prog.cellsOf 27 = 5 := by kernel_rfl
theorem cellsInt : Tryz.prog.cellsOf 3 = 1 := by kernel_rfl
theorem cellsStr : Tryz.prog.cellsOf 9 = 1 := by kernel_rfl

section
variable {H : Type} {enc : TypeId × Value → H}

set_option maxRecDepth 100000 in
/-- The script, opened. -/
theorem open_ops {W : World} {sp : Nat → Bool} {fuel : Nat} {cs : List Value} {x : DataW H × List MemPlace} (h : DataW.trod enc Tryz.prog W 0 sp true fuel 22 cs = some x) (hlt : ∀ p ∈ x.2, p.block < W.heap.size) :
    ∃ (ao : Option Addr) (cap : Nat) (l : List OpV), cs = [.slice ao l.length cap] ∧ l.length ≤ 9223372036854775807 ∧ OpSl W ao l ∧ ∀ k, (h : k < l.length) → l[k].s.size ≤ maxLen ∧ l[k].t.size ≤ maxLen := by
  rcases open_slice Tryz.underlying22 h with ⟨rfl, _⟩ | ⟨a, len, cap, m, n, D, Pl, rfl, hb, hl, hm, hmm, rfl, hx⟩
  · exact ⟨none, 0, [], rfl, by simp, fun i hi => absurd hi (Nat.not_lt_zero _), fun i hi => absurd hi (Nat.not_lt_zero _)⟩
  have hlm : len ≤ m := by rw [hmm]; split <;> omega
  have each : ∀ i, i < m → ∃ q : OpV, W.cell? (a.add (i * 5)) = some (.int .i64 q.kind) ∧ W.cell? (a.add (i * 5 + 1)) = some (.int .i64 q.a) ∧ W.cell? (a.add (i * 5 + 2)) = some (.int .i64 q.b) ∧ W.cell? (a.add (i * 5 + 3)) = some (.string q.s) ∧ W.cell? (a.add (i * 5 + 4)) = some (.string q.t) ∧ q.s.size ≤ maxLen ∧ q.t.size ≤ maxLen := by
    intro i hi
    obtain ⟨cs', h1, h2⟩ := hx i hi
    rw [opCells] at h1
    obtain ⟨_, hlen, hcell⟩ := World.cells?_some h1
    obtain ⟨xs, k, _, hxy, _, hxl, hf⟩ := DataW.trod_struct Tryz.underlying27 h2
    match xs, hxl, cs', hlen with
    | [y0, y1, y2, y3, y4], _, [v0, v1, v2, v3, v4], _ =>
      have g0 := hf 0 _ rfl
      have g1 := hf 1 _ rfl
      have g2 := hf 2 _ rfl
      have g3 := hf 3 _ rfl
      have g4 := hf 4 _ rfl
      simp [cellsInt, cellsStr] at g0 g1 g2 g3 g4
      obtain ⟨q0, e0, _⟩ := DataW.trod_int Tryz.underlying3 g0
      obtain ⟨q1, e1, _⟩ := DataW.trod_int Tryz.underlying3 g1
      obtain ⟨q2, e2, _⟩ := DataW.trod_int Tryz.underlying3 g2
      obtain ⟨q3, e3, _, z3⟩ := DataW.trod_string Tryz.underlying9 g3
      obtain ⟨q4, e4, _, z4⟩ := DataW.trod_string Tryz.underlying9 g4
      simp only [List.cons.injEq, and_true] at e0 e1 e2 e3 e4
      subst e0; subst e1; subst e2; subst e3; subst e4
      have c0 := hcell 0 (by omega)
      have c1 := hcell 1 (by omega)
      have c2 := hcell 2 (by omega)
      have c3 := hcell 3 (by omega)
      have c4 := hcell 4 (by omega)
      rw [add_add] at c0 c1 c2 c3 c4
      exact ⟨⟨q0, q1, q2, q3, q4⟩, by simpa using c0, by simpa using c1, by simpa using c2, by simpa using c3, by simpa using c4, z3, z4⟩
  have _ : Inhabited OpV := ⟨⟨0, 0, 0, ByteArray.empty, ByteArray.empty⟩⟩
  obtain ⟨q, hq⟩ := choose_lt each
  refine ⟨some a, cap, (List.range len).map q, by simp, by simp; unfold maxLen at hm; omega, fun i hi => ?_, fun i hi => ?_⟩
  case refine_2 =>
    have hi' : i < len := by simpa using hi
    have := (hq i (by omega)).2.2.2.2.2
    simpa using this
  have hi' : i < len := by simpa using hi
  obtain ⟨b, o, spot⟩ := a
  obtain ⟨c0, c1, c2, c3, c4, _⟩ := hq i (by omega)
  have hspot : spot = none := by simpa [Addr.add] using World.cell?_spot (hq 0 (by omega)).1
  subst hspot
  have hblk : b < W.heap.size := by
    have := hlt (.cell b (o + 0)) (List.mem_append_left _ (by simp only [MemPlace.row, List.mem_map, List.mem_range, opCells]; exact ⟨0, by omega, rfl⟩))
    simpa [MemPlace.block] using this
  rw [Addr.add_lit] at c0 c1 c2 c3 c4
  exact ⟨b, o, hblk, rfl, by simpa using c0, by simpa [Nat.add_assoc] using c1, by simpa [Nat.add_assoc] using c2, by simpa [Nat.add_assoc] using c3, by simpa [Nat.add_assoc] using c4⟩

end
end Go.Proofs.YtmfcpbhdggonfaaGreatDoor
