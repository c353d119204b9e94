/- Contracts of the program's parser: values of a statement. -/
import Derived.Test.YtmfcpbhdggonfaaGreatDoorQarK
import Derived.Test.YtmfcpbhdggonfaaGreatDoorQarY
namespace Go.Proofs.YtmfcpbhdggonfaaGreatDoor
open Go.RowKit RR

/-- What is asked of a statement that is being read. -/
structure BP (B : Nat) (ao : Option Addr) (cap : Nat) (L : List Tk) (U : Nat) (σ : QSt) (vS : Value) (S : Nat) (s : Stm) (vV : Value) (w : World) : Prop where
  ps : PS B ao cap L U σ vS w
  bx : BX S s vV w
  U : U ≤ S
  B : B < S
  vS : vS.ownBlock ≠ some S

theorem BP.kp {B : Nat} {ao : Option Addr} {cap : Nat} {L : List Tk} {U : Nat} {σ τ : QSt} {vS : Value} {S : Nat} {s : Stm} {vV : Value} {w w' : World} (h : BP B ao cap L U σ vS S s vV w) (hp : PS B ao cap L U τ vS w') (k : Kp B w w') : BP B ao cap L U τ vS S s vV w' := ⟨hp, h.bx.kp k, h.U, h.B, h.vS⟩
theorem BP.fs {B : Nat} {ao : Option Addr} {cap : Nat} {L : List Tk} {U : Nat} {σ : QSt} {vS : Value} {S : Nat} {s s' : Stm} {vV vV' : Value} {w w' : World} (h : BP B ao cap L U σ vS S s vV w) (hf : FS S vV w w') (hx : BX S s' vV' w') : BP B ao cap L U σ vS S s' vV' w' := ⟨ps_fs h.ps h.bx hf h.U h.B h.vS, hx, h.U, h.B, h.vS⟩
theorem BP.below {B : Nat} {ao : Option Addr} {cap : Nat} {L : List Tk} {U : Nat} {σ : QSt} {vS : Value} {S : Nat} {s : Stm} {vV : Value} {w w' : World} (h : BP B ao cap L U σ vS S s vV w) (hb : Below w.heap.size w w') : BP B ao cap L U σ vS S s vV w' := ⟨h.ps.below hb, h.bx.below hb, h.U, h.B, h.vS⟩

set_option maxRecDepth 100000 in
set_option maxHeartbeats 16000000 in
theorem s_value {B : Nat} {ao : Option Addr} {cap : Nat} {L : List Tk} {U : Nat} (hL : L.length ≤ 500) (f : Nat) {σ : QSt} {vS : Value} {S : Nat} {s : Stm} {vV : Value} (r : QSt × List (Int × Int)) (w : World) (h : BP B ao cap L U σ vS S s vV w) (hrun : valueQ L f σ s.vals = some r) (hend : r.1.nds.length ≤ 9000) (hlen : s.vals.length ≤ 1000) :
    Calls Tryz.prog 227 #[.pointer (some ⟨B, 0, none⟩), .pointer (some ⟨S, 0, none⟩)] w fun e w' => e = .returned (.tuple #[]) ∧ ∃ vV', BP B ao cap L U r.1 vS S { s with vals := r.2 } vV' w' ∧ KpS B S vV w vV' w' := by
  unfold valueQ at hrun
  obtain ⟨a, h1, h2⟩ := Option.map_eq_some_iff.1 hrun
  have hae : a.1.nds.length ≤ 9000 := by rw [← h2] at hend; exact hend
  have HR : Hid (r = (a.1, s.vals ++ [((σ.nds.length : Int), a.2)])) := h2.symm
  have H1 := hide h1
  have hnl : σ.nds.length ≤ 9000 := Nat.le_trans ((xg_exprs L f).1 _ _ h1).mono hae
  clear hrun h1 h2 hend
  obtain ⟨vN, vC, vD, hq⟩ := h.ps
  have hlt := hq.lt
  obtain ⟨c0, c1, c2, c3, c4, c5, c6, c7, c8, hf⟩ := hq.cells
  have hnd : ∃ na nc, vD = .slice na σ.nds.length nc := by
    rcases hq.nd.2 with ⟨e1, e2⟩ | ⟨g, cp, cur, e1, _⟩
    · exact ⟨none, 0, by rw [e1, e2]⟩
    · exact ⟨_, _, e1⟩
  obtain ⟨na, nc, hvD⟩ := hnd
  rw [hvD] at c8
  clear hf
  go_enter Tryz.func227, Tryz.ntmps227
  go_wp2_with fail
  refine ((s_exprF hL f) σ a vS _ h.ps H1.out hae).mono ?_
  rintro e w1 ⟨rfl, hp1, k1⟩
  have hb := h.kp hp1 k1
  obtain ⟨d0, d1, d2, d3, d4, d5, d6, d7, hdf⟩ := hb.bx.cells
  have f7 := hdf 7
  clear hdf c0 c1 c2 c3 c4 c5 c6 c7 c8
  go_wp2_with (at_builtin; refine app_ex (σ.nds.length : Int) a.2 hb.bx hlen rfl _ _ rfl rfl rfl rfl ?_; intro g cap' w3 ha; have k7 : w3.cell? ⟨S, 7, none⟩ = some vV := (World.cell?_of_block (w := w1) ha.blk).trans d7; have kf : w3.frozen? ⟨S, 7, none⟩ = false := (World.frozen?_of_block (w := w1) ha.blk).trans f7)
  have hfin := bx_fin hb.bx ha
  have hbp := hb.fs hfin.2 hfin.1
  have hks := (k1.s S vV).trans (hfin.2.kps (Nat.le_of_lt hb.B) ha.own)
  go_end0
  exact ⟨rfl, _, by rw [HR.out]; exact hbp, hks⟩

end Go.Proofs.YtmfcpbhdggonfaaGreatDoor
