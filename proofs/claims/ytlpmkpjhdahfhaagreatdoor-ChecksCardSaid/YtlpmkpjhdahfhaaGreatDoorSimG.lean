/- The parser against the machine: blocks, procedures, the program. Plain functions. No Go here. -/
import Derived.Test.YtlpmkpjhdahfhaaGreatDoorSimF
namespace RR
open Go Go.RowKit

theorem blocks_tt {L : List Tk} {len : Nat} (hL : L.length ≤ 500) (hN : NoNm L) (m : Nat) : TU L len (blockP L) 14 [NT.nBlock.enc] 1 4000 m ∧ TU L len (stmtsP L) 13 [NT.nStmts.enc] 0 3985 m := by
  induction m using Nat.strongRecOn with
  | ind m ih =>
    have hst : TU L len (stmtsP L) 13 [NT.nStmts.enc] 0 3985 m := by
      intro σ f K hF hm hf hR
      obtain ⟨f, rfl⟩ : ∃ g, f = g + 1 := ⟨f - 1, by omega⟩
      have hK := hR.lt hF (by omega)
      rw [stmtsP]
      cases hfa : σ.failed
      · cases hs : σ.sees L ⟨#[125]⟩
        · have hpos : 1 ≤ meas L σ := by rw [meas_ok hfa]; omega
          obtain ⟨a, g1, g2, g3⟩ := stmt_tt (m := m - 1) hL hN (ih (m - 1) (by omega)).1 σ f (K + 1) hfa hF (by omega) (by omega) (hR.more (by omega))
          obtain ⟨b, k1, k2, k3⟩ := (ih (m - 1) (by omega)).2 a f K (g3.fine hF) (by have := meas_lt g3 hpos; omega) (by omega) (hR.adv g3)
          refine ⟨b, by rw [if_pos ⟨rfl, rfl⟩, g1]; exact k1, ?_, (g3.trans k3).weak (by omega) (by omega)⟩
          refine sim_nt (n := .nStmts) (S := [NT.nStmt.enc] ++ [NT.nStmts.enc]) hL hF (by decide) (fun h => by have := hK h; omega) (fun _ => ?_) (Sim.comp g2 k2)
          show (if _ then _ else _) = _
          rw [if_neg]; · rfl
          unfold PSt.sees at hs; rw [tAt_ahead hfa] at hs; exact of_decide_eq_false hs
        · have e4 : tAt L σ.next = ⟨#[125]⟩ := by unfold PSt.sees at hs; rw [tAt_ahead hfa] at hs; exact of_decide_eq_true hs
          refine ⟨σ, by rw [if_neg (fun h => by cases h.2)], ?_, Adv.refl hF⟩
          exact sim_nt (n := .nStmts) (S := []) hL hF (by decide) (fun h => by have := hK h; omega) (fun _ => by show (if _ then _ else _) = _; rw [if_pos e4]) (Sim.nil σ)
      · exact ⟨σ, by rw [if_neg (fun h => by cases h.1)], sim_stuck hfa ⟨hfa, rfl⟩, Adv.refl hF⟩
    refine ⟨?_, hst⟩
    have hst' : TU L len (stmtsP L) 13 [NT.nStmts.enc] 0 3985 (m - 1) := by
      by_cases h0 : m = 0
      · subst h0; exact hst
      · exact (ih (m - 1) (by omega)).2
    intro σ f K hF hm hf hR
    obtain ⟨f, rfl⟩ : ∃ g, f = g + 1 := ⟨f - 1, by omega⟩
    have hK := hR.lt hF (by omega)
    obtain ⟨s1, f1, a1⟩ := sim_enter (len := len) (K := K + 2) (t := ⟨#[123]⟩) hL hF (by decide) (by decide) (by decide) (by decide) (fun h => by have := hK h; omega)
    have hm1 : meas L (enterP L σ ⟨#[123]⟩) ≤ m - 1 := by
      cases h : σ.failed
      · have := meas_lt a1 (by rw [meas_ok h]; omega); omega
      · have := meas_adv a1; rw [meas_failed h] at this; omega
    obtain ⟨b, h1, h2, h3⟩ := hst' (enterP L σ ⟨#[123]⟩) f (K + 1) f1 hm1 (by omega) (hR.up a1 (by omega))
    obtain ⟨s3, a3⟩ := sim_leave (len := len) (K := K) (t := ⟨#[125]⟩) hL (h3.fine f1) (by decide) (by decide) (by decide) (by decide) (fun h => by have := hK (a1 (h3 h).1).1; omega)
    refine ⟨leaveP L b ⟨#[125]⟩, by rw [blockP, h1]; rfl, ?_, ((a1.trans h3).trans a3).weak (by omega) (by omega)⟩
    refine sim_nt (n := .nBlock) (S := [⟨#[123]⟩, NT.nStmts.enc, ⟨#[125]⟩]) hL hF (by decide) (fun h => by have := hK h; omega) (fun _ => rfl) ?_
    exact Sim.comp (S1 := [⟨#[123]⟩]) (S2 := [NT.nStmts.enc, ⟨#[125]⟩]) s1 (Sim.comp (S1 := [NT.nStmts.enc]) (S2 := [⟨#[125]⟩]) h2 s3)

/-- A procedure. -/
theorem procedure_tt {L : List Tk} {len : Nat} (hL : L.length ≤ 500) (hN : NoNm L) (m : Nat) : TU L len (procedureP L) 14 [NT.nProc.enc] 1 3990 m := by
  intro σ f K hF hm hf hR
  have hK := hR.lt hF (by omega)
  have a1 : Adv L 1 0 σ (σ.take L ⟨#[112, 114, 111, 99]⟩) := adv_take (by decide)
  have s1 := (sim_take (len := len) (K := K + 5) (t := ⟨#[112, 114, 111, 99]⟩) hL hF (by decide) (by decide) (by decide) (by decide) (fun h => by have := hK h; omega)).1
  obtain ⟨a, ha⟩ : ∃ a, a = ({ σ.take L ⟨#[112, 114, 111, 99]⟩ with proc := wrap64 ((σ.take L ⟨#[112, 114, 111, 99]⟩).proc + 1) } : PSt) := ⟨_, rfl⟩
  have a1' : Adv L 1 0 σ a := by rw [ha]; exact fun h => a1 h
  have s1' : Sim L len (K + 5) [⟨#[112, 114, 111, 99]⟩] σ a := s1.congr (by rw [ha]) (by rw [ha]) (by rw [ha])
  have f1 := a1'.fine hF
  have hK1 := (hR.adv a1').lt f1 (by omega)
  have a2 : Adv L 1 0 a (a.takeName L 2) := adv_name
  have s2 := sim_name (len := len) (K := K + 4) (r := 2) hL hN f1 (fun h => by have := hK1 h; omega)
  have f2 := a2.fine f1
  have hR2 := (hR.adv a1').adv a2
  have hK2 := hR2.lt f2 (by omega)
  obtain ⟨s3, f3, a3⟩ := sim_enter (len := len) (K := K + 3) (t := ⟨#[40]⟩) hL f2 (by decide) (by decide) (by decide) (by decide) (fun h => by have := hK2 h; omega)
  have hR3 : Room 3960 (K + 2) (enterP L (a.takeName L 2) ⟨#[40]⟩) := hR2.up a3 (by omega)
  have hm3 : meas L (enterP L (a.takeName L 2) ⟨#[40]⟩) ≤ m := by have := meas_adv a1'; have := meas_adv a2; have := meas_adv a3; omega
  obtain ⟨d, hd⟩ : ∃ d, d = enterP L (a.takeName L 2) ⟨#[40]⟩ := ⟨_, rfl⟩
  rw [← hd] at s3 f3 a3 hR3 hm3
  have hK3 := hR3.lt f3 (by omega)
  have hv : ∃ e, (if d.sees L ⟨#[41]⟩ then some d else moreP L 3 f (d.takeName L 3)) = some e ∧ Sim L len (K + 2) [NT.nParams.enc] d e ∧ Adv L 0 0 d e := by
    cases hs : d.sees L ⟨#[41]⟩
    · obtain ⟨e, g1, g2, g3⟩ := names_tt (len := len) (role := 3) hL hN m d f (K + 2) f3 hm3 (by omega) (hR3.more (by omega))
      refine ⟨e, by rw [if_neg (by decide)]; exact g1, ?_, g3.weak (by omega) rfl⟩
      cases hfa : d.failed
      · refine sim_nt (n := .nParams) (S := [NT.nNames.enc]) hL f3 (by decide) (fun h => by have := hK3 h; omega) (fun _ => ?_) g2
        show (if _ then _ else _) = _
        rw [if_neg]; · rfl
        unfold PSt.sees at hs; rw [tAt_ahead hfa] at hs; exact of_decide_eq_false hs
      · exact g2.head (fun h => by rw [hfa] at h; cases h)
    · have hlt := sees_lt (by decide) hs
      have e4 : tAt L d.next = ⟨#[41]⟩ := by unfold PSt.sees at hs; rw [tAt_ahead hlt.2] at hs; exact of_decide_eq_true hs
      refine ⟨d, rfl, ?_, Adv.refl f3⟩
      exact sim_nt (n := .nParams) (S := []) hL f3 (by decide) (fun h => by have := hK3 h; omega) (fun _ => by show (if _ then _ else _) = _; rw [if_pos e4]) (Sim.nil d)
  obtain ⟨e, h1, h2, h3⟩ := hv
  have f4 := h3.fine f3
  obtain ⟨s5, a5⟩ := sim_leave (len := len) (K := K + 1) (t := ⟨#[41]⟩) hL f4 (by decide) (by decide) (by decide) (by decide) (fun h => by have := hK3 (h3 h).1; omega)
  have a6 : Adv L 4 0 σ (leaveP L e ⟨#[41]⟩) := ((((a1'.trans a2).trans a3).trans h3).trans a5).weak (by omega) (by omega)
  obtain ⟨b, k1, k2, k3⟩ := (blocks_tt (len := len) hL hN m).1 (leaveP L e ⟨#[41]⟩) f K (a6.fine hF) (by have := meas_adv a6; omega) hf ((hR.adv a6).more (by omega))
  refine ⟨b, ?_, ?_, (a6.trans k3).weak (by omega) (by omega)⟩
  · have hp : procedureP L f σ = (if d.sees L ⟨#[41]⟩ then some d else moreP L 3 f (d.takeName L 3)).bind fun e => blockP L f (leaveP L e ⟨#[41]⟩) := by rw [hd, ha]; rfl
    rw [hp, h1]
    exact k1
  · refine sim_nt (n := .nProc) (S := [⟨#[112, 114, 111, 99]⟩, ⟨#[78, 65, 77, 69]⟩, ⟨#[40]⟩, NT.nParams.enc, ⟨#[41]⟩, NT.nBlock.enc]) hL hF (by decide) (fun h => by have := hK h; omega) (fun _ => rfl) ?_
    exact Sim.comp (S1 := [⟨#[112, 114, 111, 99]⟩]) (S2 := [⟨#[78, 65, 77, 69]⟩, ⟨#[40]⟩, NT.nParams.enc, ⟨#[41]⟩, NT.nBlock.enc]) s1' (Sim.comp (S1 := [⟨#[78, 65, 77, 69]⟩]) (S2 := [⟨#[40]⟩, NT.nParams.enc, ⟨#[41]⟩, NT.nBlock.enc]) s2
      (Sim.comp (S1 := [⟨#[40]⟩]) (S2 := [NT.nParams.enc, ⟨#[41]⟩, NT.nBlock.enc]) s3 (Sim.comp (S1 := [NT.nParams.enc]) (S2 := [⟨#[41]⟩, NT.nBlock.enc]) h2 (Sim.comp (S1 := [⟨#[41]⟩]) (S2 := [NT.nBlock.enc]) s5 k2))))

end RR
