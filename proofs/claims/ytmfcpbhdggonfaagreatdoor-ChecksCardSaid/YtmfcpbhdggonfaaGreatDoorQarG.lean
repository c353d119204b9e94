/- Contracts of the program's parser: entering and leaving brackets; the end. -/
import Derived.Test.YtmfcpbhdggonfaaGreatDoorQarE
namespace Go.Proofs.YtmfcpbhdggonfaaGreatDoor
open Go.RowKit RR

theorem take_depth (L : List Tk) (σ : PSt) (t : ByteArray) : (σ.take L t).depth = σ.depth := by unfold PSt.take; split <;> rfl

set_option maxHeartbeats 1000000 in
theorem s_leave {B : Nat} {ao : Option Addr} {cap : Nat} {L : List Tk} {U : Nat} {σ : QSt} {vS : Value} (t : ByteArray) (w : World) (hL : L.length ≤ 500) (ht : t ≠ ⟨#[]⟩) (h : PS B ao cap L U σ vS w) :
    Calls Tryz.prog 204 #[.pointer (some ⟨B, 0, none⟩), .string t] w fun e w' => e = .returned (.tuple #[]) ∧ PS B ao cap L U (σ.setp (leaveP L σ.p t)) vS w' ∧ Kp B w w' := by
  have HT : Hid (leaveP L σ.p t = { σ.p.take L t with depth := wrap64 ((σ.p.take L t).depth - 1) }) := rfl
  go_enter Tryz.func204, Tryz.ntmps204
  go_wp2_with fail
  refine (s_take t _ hL ht h).mono ?_
  rintro e w1 ⟨rfl, h1, k1⟩
  generalize σ.p.take L t = σ1 at *
  obtain ⟨vN1, vC1, vD1, h1⟩ := h1
  obtain ⟨c0, c1, c2, c3, c4, c5, c6, c7, c8, hf⟩ := h1.cells
  have f2 := hf 2
  clear hf
  have hfin := ps_set (q := { σ1 with depth := wrap64 (σ1.depth - 1) }) h1 2 (.int .i64 (wrap64 (σ1.depth - 1))) rfl rfl rfl h1.le h1.inv
  go_wp2_with fail
  go_end0
  exact ⟨rfl, by rw [HT.out]; exact hfin.1, k1.trans hfin.2⟩

set_option maxHeartbeats 1000000 in
theorem s_enter {B : Nat} {ao : Option Addr} {cap : Nat} {L : List Tk} {U : Nat} {σ : QSt} {vS : Value} (t : ByteArray) (w : World) (hL : L.length ≤ 500) (ht : t ≠ ⟨#[]⟩) (h : PS B ao cap L U σ vS w) :
    Calls Tryz.prog 203 #[.pointer (some ⟨B, 0, none⟩), .string t] w fun e w' => e = .returned (.tuple #[]) ∧ PS B ao cap L U (σ.setp (enterP L σ.p t)) vS w' ∧ Kp B w w' := by
  have hps := h
  obtain ⟨vN, vC, vD, h⟩ := h
  obtain ⟨c0, c1, c2, c3, c4, c5, c6, c7, c8, hf⟩ := h.cells
  have f4 := hf 4
  clear hf
  by_cases hd : 6 ≤ σ.p.depth
  · have HT : Hid (enterP L σ.p t = σ.p.fail) := by show _ = _; unfold enterP; rw [if_pos hd]
    have hfin := ps_fail h
    go_enter Tryz.func203, Tryz.ntmps203
    go_wp2_with fail
    exact bodyPost_ret (v := .tuple #[]) (by simp [results, Tryz.results203, go_sem]) rfl ⟨rfl, by rw [HT.out]; exact hfin.1, hfin.2⟩
  · have HT : Hid (enterP L σ.p t = { σ.p.take L t with depth := wrap64 ((σ.p.take L t).depth + 1) }) := by show _ = _; unfold enterP; rw [if_neg hd]
    have hd' : σ.p.depth < 6 := by omega
    have htd := take_depth L σ.p t
    go_enter Tryz.func203, Tryz.ntmps203
    go_wp2_with fail
    refine (s_take t _ hL ht hps).mono ?_
    rintro e w1 ⟨rfl, h1, k1⟩
    clear c0 c1 c2 c3 c4 c5 c6 c7 c8 f4 h
    generalize σ.p.take L t = σ1 at *
    obtain ⟨vN1, vC1, vD1, h1⟩ := h1
    obtain ⟨c0, c1, c2, c3, c4, c5, c6, c7, c8, hf⟩ := h1.cells
    have f2 := hf 2
    clear hf
    have hfin := ps_set (q := { σ1 with depth := wrap64 (σ1.depth + 1) }) h1 2 (.int .i64 (wrap64 (σ1.depth + 1))) rfl rfl rfl h1.le h1.inv
    clear htd hd hd'
    go_wp2_with fail
    go_end0
    exact ⟨rfl, by rw [HT.out]; exact hfin.1, k1.trans hfin.2⟩

set_option maxHeartbeats 1000000 in
theorem s_takeEnd {B : Nat} {ao : Option Addr} {cap : Nat} {L : List Tk} {U : Nat} {σ : QSt} {vS : Value} (w : World) (_hL : L.length ≤ 500) (h : PS B ao cap L U σ vS w) :
    Calls Tryz.prog 182 #[.pointer (some ⟨B, 0, none⟩)] w fun e w' => e = .returned (.tuple #[]) ∧ PS B ao cap L U (σ.setp (takeEndP L σ.p)) vS w' ∧ Kp B w w' := by
  have hps := h
  obtain ⟨vN, vC, vD, h⟩ := h
  obtain ⟨c0, c1, c2, c3, c4, c5, c6, c7, c8, hf⟩ := h.cells
  have f4 := hf 4
  clear hf
  have hlt := h.lt
  by_cases hd : σ.p.next < L.length
  · have HT : Hid (takeEndP L σ.p = σ.p.fail) := by show _ = _; unfold takeEndP; rw [if_pos hd]
    have hd' : (σ.p.next : Int) < L.length := by omega
    go_enter Tryz.func182, Tryz.ntmps182
    go_wp2_with fail
    go_quiet (fail)
    have hfin := ps_fail (h.below (below_drewN _ _ nq))
    go_wp2_with fail
    go_end0
    exact ⟨rfl, by rw [HT.out]; exact hfin.1, (Kp.of_below (below_drewN _ _ nq) (Nat.le_of_lt hlt)).trans hfin.2⟩
  · have HT : Hid (takeEndP L σ.p = σ.p) := by show _ = _; unfold takeEndP; rw [if_neg hd]
    have hd' : decide ((σ.p.next : Int) < L.length) = false := decide_eq_false (by omega)
    go_enter Tryz.func182, Tryz.ntmps182
    go_wp2_with fail
    go_quiet (fail)
    go_wp2_with fail
    go_end0
    exact ⟨rfl, by rw [HT.out]; exact hps.below (below_drewN _ _ nq), Kp.of_below (below_drewN _ _ nq) (Nat.le_of_lt hlt)⟩

end Go.Proofs.YtmfcpbhdggonfaaGreatDoor
