/- The parser against the machine: statements, blocks. Plain functions. No Go here. -/
import Derived.Test.YtlpmkpjhdahfhaaGreatDoorSimE
namespace RR
open Go Go.RowKit

/-- As TT, with more fuel. -/
def TU (L : List Tk) (len : Nat) (P : Nat → PSt → Option PSt) (c : Nat) (S : List ByteArray) (s rm m : Nat) : Prop :=
  ∀ σ f K, Fine L σ → meas L σ ≤ m → 10 * m + c ≤ f → Room rm K σ → ∃ σ', P f σ = some σ' ∧ Sim L len K S σ σ' ∧ Adv L s 0 σ σ'

theorem kw_if : isNameB ⟨#[105, 102]⟩ = false := by unfold isNameB; rw [bl]; decide
theorem kw_while : isNameB ⟨#[119, 104, 105, 108, 101]⟩ = false := by unfold isNameB; rw [bl]; decide
theorem kw_assume : isNameB ⟨#[97, 115, 115, 117, 109, 101]⟩ = false := by unfold isNameB; rw [bl]; decide
theorem kw_acquire : isNameB ⟨#[97, 99, 113, 117, 105, 114, 101]⟩ = false := by unfold isNameB; rw [bl]; decide
theorem kw_release : isNameB ⟨#[114, 101, 108, 101, 97, 115, 101]⟩ = false := by unfold isNameB; rw [bl]; decide
theorem kw_return : isNameB ⟨#[114, 101, 116, 117, 114, 110]⟩ = false := by unfold isNameB; rw [bl]; decide
theorem kw_skip : isNameB ⟨#[115, 107, 105, 112]⟩ = false := by unfold isNameB; rw [bl]; decide

theorem bec_stmt (t : ByteArray) : becB .nStmt t = if isNameB t = true then [⟨#[78, 65, 77, 69]⟩, NT.nBehind.enc] else if t = ⟨#[105, 102]⟩ then [⟨#[105, 102]⟩, ⟨#[40]⟩, NT.nExpr.enc, ⟨#[41]⟩, NT.nBlock.enc, NT.nElse.enc] else if t = ⟨#[119, 104, 105, 108, 101]⟩ then [⟨#[119, 104, 105, 108, 101]⟩, ⟨#[40]⟩, NT.nExpr.enc, ⟨#[41]⟩, NT.nBlock.enc]
    else if t = ⟨#[97, 115, 115, 117, 109, 101]⟩ then [⟨#[97, 115, 115, 117, 109, 101]⟩, NT.nExpr.enc, ⟨#[59]⟩] else if t = ⟨#[97, 99, 113, 117, 105, 114, 101]⟩ then [⟨#[97, 99, 113, 117, 105, 114, 101]⟩, ⟨#[78, 65, 77, 69]⟩, ⟨#[59]⟩] else if t = ⟨#[114, 101, 108, 101, 97, 115, 101]⟩ then [⟨#[114, 101, 108, 101, 97, 115, 101]⟩, ⟨#[78, 65, 77, 69]⟩, ⟨#[59]⟩]
    else if t = ⟨#[114, 101, 116, 117, 114, 110]⟩ then [⟨#[114, 101, 116, 117, 114, 110]⟩, NT.nResult.enc, ⟨#[59]⟩] else [⟨#[115, 107, 105, 112]⟩, ⟨#[59]⟩] := rfl

/-- An if. -/
theorem branch_tt {L : List Tk} {len m : Nat} (hL : L.length ≤ 500) (hN : NoNm L) (ih : TU L len (blockP L) 14 [NT.nBlock.enc] 1 4000 m) (σ : PSt) (f K : Nat) (hF : Fine L σ) (hm : meas L σ ≤ m + 1) (hf : 10 * m + 20 ≤ f) (hR : Room 3990 K σ) :
    ∃ σ', branchP L f σ = some σ' ∧ Sim L len K [⟨#[105, 102]⟩, ⟨#[40]⟩, NT.nExpr.enc, ⟨#[41]⟩, NT.nBlock.enc, NT.nElse.enc] σ σ' ∧ Adv L 1 0 σ σ' := by
  obtain ⟨f, rfl⟩ : ∃ g, f = g + 1 := ⟨f - 1, by omega⟩
  have hK := hR.lt hF (by omega)
  have a1 : Adv L 1 0 σ (σ.take L ⟨#[105, 102]⟩) := adv_take (by decide)
  have s1 := (sim_take (len := len) (K := K + 5) (t := ⟨#[105, 102]⟩) hL hF (by decide) (by decide) (by decide) (by decide) (fun h => by have := hK h; omega)).1
  have f1 := a1.fine hF
  have hm1 : meas L (σ.take L ⟨#[105, 102]⟩) ≤ m := by
    cases h : σ.failed
    · have := meas_lt a1 (by rw [meas_ok h]; omega); omega
    · have := meas_adv a1; rw [meas_failed h] at this; omega
  obtain ⟨a, g1, g2, g3⟩ := bracketed_tt (len := len) hL (exprs_tt hL hN m).1 (σ.take L ⟨#[105, 102]⟩) f (K + 2) f1 (fun k hk => by have := meas_adv hk; omega) (by omega) ((hR.adv a1).more (by omega))
  have f2 := g3.fine f1
  obtain ⟨b, k1, k2, k3⟩ := ih a f (K + 1) f2 (by have := meas_adv g3; omega) (by omega) (((hR.adv a1).adv g3).more (by omega))
  have f3 := k3.fine f2
  have hR3 := ((hR.adv a1).adv g3).adv k3
  have hK3 := hR3.lt f3 (by omega)
  have hm3 : meas L b ≤ m := by have := meas_adv g3; have := meas_adv k3; omega
  have hv : ∃ c, (if b.sees L ⟨#[101, 108, 115, 101]⟩ then blockP L f b.step else some b) = some c ∧ Sim L len K [NT.nElse.enc] b c ∧ Adv L 0 0 b c := by
    cases hs : b.sees L ⟨#[101, 108, 115, 101]⟩
    · refine ⟨b, rfl, ?_, Adv.refl f3⟩
      cases hfa : b.failed
      · refine sim_nt (n := .nElse) (S := []) hL f3 (by decide) (fun h => by have := hK3 h; omega) (fun _ => ?_) (Sim.nil b)
        show (if _ then _ else _) = _
        rw [if_neg]
        unfold PSt.sees at hs; rw [tAt_ahead hfa] at hs; exact of_decide_eq_false hs
      · exact sim_stuck hfa ⟨hfa, rfl⟩
    · have hlt := sees_lt (by decide) hs
      have e4 : tAt L b.next = ⟨#[101, 108, 115, 101]⟩ := by unfold PSt.sees at hs; rw [tAt_ahead hlt.2] at hs; exact of_decide_eq_true hs
      have et : b.take L ⟨#[101, 108, 115, 101]⟩ = b.step := by unfold PSt.take; rw [hs]; rfl
      have hA : Adv L 1 0 b b.step := et ▸ adv_take (L := L) (a := b) (by decide)
      obtain ⟨c, q1, q2, q3⟩ := ih b.step f K (hA.fine f3) (by have := meas_adv hA; omega) (by omega) ((hR3.adv hA).more (by omega))
      refine ⟨c, by rw [if_pos rfl]; exact q1, ?_, (hA.trans q3).weak (by omega) (by omega)⟩
      refine sim_nt (n := .nElse) (S := [⟨#[101, 108, 115, 101]⟩] ++ [NT.nBlock.enc]) hL f3 (by decide) (fun h => by have := hK3 h; omega) (fun _ => by show (if _ then _ else _) = _; rw [if_pos e4]; rfl) ?_
      exact Sim.comp (et ▸ (sim_take hL f3 (by decide) (by decide) (by decide) (by decide) (fun h => by have := hK3 h; show K + 1 < 5000; omega)).1) q2
  obtain ⟨c, q1, q2, q3⟩ := hv
  refine ⟨c, ?_, ?_, (((a1.trans g3).trans k3).trans q3).weak (by omega) (by omega)⟩
  · rw [branchP, g1]
    show (blockP L f a).bind _ = _
    rw [k1]
    exact q1
  · exact Sim.comp (S1 := [⟨#[105, 102]⟩]) s1 (Sim.comp (S1 := [⟨#[40]⟩, NT.nExpr.enc, ⟨#[41]⟩]) g2 (Sim.comp (S1 := [NT.nBlock.enc]) k2 q2))

/-- A statement, where nothing has failed. -/
theorem stmt_tt {L : List Tk} {len m : Nat} (hL : L.length ≤ 500) (hN : NoNm L) (ih : TU L len (blockP L) 14 [NT.nBlock.enc] 1 4000 m) (σ : PSt) (f K : Nat) (hfa : σ.failed = false) (hF : Fine L σ) (hm : meas L σ ≤ m + 1) (hf : 10 * m + 22 ≤ f) (hR : Room 3990 K σ) :
    ∃ σ', statementP L f σ = some σ' ∧ Sim L len K [NT.nStmt.enc] σ σ' ∧ Adv L 1 0 σ σ' := by
  obtain ⟨f, rfl⟩ : ∃ g, f = g + 1 := ⟨f - 1, by omega⟩
  have hK := hR.lt hF (by omega) hfa
  have nt : ∀ {S b}, becB .nStmt (tAt L σ.next) = S → Sim L len K S σ b → Sim L len K [NT.nStmt.enc] σ b := fun hS h => sim_nt (n := .nStmt) hL hF (by decide) (fun _ => by omega) (fun _ => hS) h
  have tk : ∀ (t : ByteArray) (j : Nat), j ≤ 10 → ntOf t = none → ¬ t = ⟨#[]⟩ → ¬ t = ⟨#[78, 65, 77, 69]⟩ → delta t = 0 → Sim L len (K + j) [t] σ (σ.take L t) := fun t j hj q1 q2 q3 q4 => (sim_take hL hF q1 q2 q3 q4 (fun _ => by omega)).1
  have mt : ∀ t : ByteArray, ¬ t = ⟨#[]⟩ → meas L (σ.take L t) ≤ m := fun t ht => by
    have := meas_lt (adv_take (L := L) (a := σ) ht) (by rw [meas_ok hfa]; omega); omega
  rw [statementP]
  rw [tAt_ahead hfa]
  by_cases e1 : tAt L σ.next = ⟨#[105, 102]⟩
  · rw [if_pos e1]
    obtain ⟨b, g1, g2, g3⟩ := branch_tt hL hN ih σ f K hF hm (by omega) hR
    exact ⟨b, g1, nt (by rw [bec_stmt, e1, kw_if]; rfl) g2, g3⟩
  rw [if_neg e1]
  by_cases e2 : tAt L σ.next = ⟨#[119, 104, 105, 108, 101]⟩
  · rw [if_pos e2]
    have a1 : Adv L 1 0 σ (σ.take L ⟨#[119, 104, 105, 108, 101]⟩) := adv_take (by decide)
    have f1 := a1.fine hF
    have hm1 := mt ⟨#[119, 104, 105, 108, 101]⟩ (by decide)
    obtain ⟨a, g1, g2, g3⟩ := bracketed_tt (len := len) hL (exprs_tt hL hN m).1 (σ.take L ⟨#[119, 104, 105, 108, 101]⟩) f (K + 1) f1 (fun k hk => by have := meas_adv hk; omega) (by omega) ((hR.adv a1).more (by omega))
    obtain ⟨b, k1, k2, k3⟩ := ih a f K (g3.fine f1) (by have := meas_adv g3; omega) (by omega) (((hR.adv a1).adv g3).more (by omega))
    refine ⟨b, by rw [g1]; exact k1, nt (S := [⟨#[119, 104, 105, 108, 101]⟩] ++ ([⟨#[40]⟩, NT.nExpr.enc, ⟨#[41]⟩] ++ [NT.nBlock.enc])) (by rw [bec_stmt, e2, kw_while]; rfl) ?_, ((a1.trans g3).trans k3).weak (by omega) (by omega)⟩
    exact Sim.comp (tk _ 4 (by omega) (by decide) (by decide) (by decide) (by decide)) (Sim.comp g2 k2)
  rw [if_neg e2]
  by_cases e3 : tAt L σ.next = ⟨#[97, 115, 115, 117, 109, 101]⟩
  · rw [if_pos e3]
    have a1 : Adv L 1 0 σ (σ.take L ⟨#[97, 115, 115, 117, 109, 101]⟩) := adv_take (by decide)
    have f1 := a1.fine hF
    have hm1 := mt ⟨#[97, 115, 115, 117, 109, 101]⟩ (by decide)
    obtain ⟨b, g1, g2, g3⟩ := (exprs_tt (len := len) hL hN m).1 (σ.take L ⟨#[97, 115, 115, 117, 109, 101]⟩) f (K + 1) f1 hm1 (by omega) ((hR.adv a1).more (by omega))
    refine ⟨b.take L ⟨#[59]⟩, by rw [g1]; rfl, nt (S := [⟨#[97, 115, 115, 117, 109, 101]⟩] ++ ([NT.nExpr.enc] ++ [⟨#[59]⟩])) (by rw [bec_stmt, e3, kw_assume]; rfl) ?_, ((a1.trans g3).trans (adv_take (by decide))).weak (by omega) (by omega)⟩
    exact Sim.comp (tk _ 2 (by omega) (by decide) (by decide) (by decide) (by decide)) (Sim.comp g2 (sim_take hL (g3.fine f1) (by decide) (by decide) (by decide) (by decide) (fun _ => by omega)).1)
  rw [if_neg e3]
  by_cases e4 : tAt L σ.next = ⟨#[97, 99, 113, 117, 105, 114, 101]⟩ ∨ tAt L σ.next = ⟨#[114, 101, 108, 101, 97, 115, 101]⟩
  · rw [if_pos e4]
    have key : ∀ t, tAt L σ.next = t → ntOf t = none → ¬ t = ⟨#[]⟩ → ¬ t = ⟨#[78, 65, 77, 69]⟩ → delta t = 0 → becB .nStmt t = [t, ⟨#[78, 65, 77, 69]⟩, ⟨#[59]⟩] → ∃ σ', some (((σ.take L (tAt L σ.next)).takeName L 5).take L ⟨#[59]⟩) = some σ' ∧ Sim L len K [NT.nStmt.enc] σ σ' ∧ Adv L 1 0 σ σ' := fun t et q1 q2 q3 q4 q5 => by
      rw [et]
      have a1 : Adv L 1 0 σ (σ.take L t) := adv_take q2
      have f1 := a1.fine hF
      have a2 : Adv L 1 0 (σ.take L t) ((σ.take L t).takeName L 5) := adv_name
      refine ⟨_, rfl, nt (S := [t] ++ ([⟨#[78, 65, 77, 69]⟩] ++ [⟨#[59]⟩])) (by rw [et, q5]; rfl) ?_, ((a1.trans a2).trans (adv_take (by decide))).weak (by omega) (by omega)⟩
      exact Sim.comp (tk t 2 (by omega) q1 q2 q3 q4) (Sim.comp (sim_name hL hN f1 (fun _ => by show K + 1 < 5000; omega)) (sim_take hL (a2.fine f1) (by decide) (by decide) (by decide) (by decide) (fun _ => by omega)).1)
    rcases e4 with e4 | e4
    · exact key _ e4 (by decide) (by decide) (by decide) (by decide) (by rw [bec_stmt, kw_acquire]; rfl)
    · exact key _ e4 (by decide) (by decide) (by decide) (by decide) (by rw [bec_stmt, kw_release]; rfl)
  rw [if_neg e4]
  by_cases e5 : tAt L σ.next = ⟨#[114, 101, 116, 117, 114, 110]⟩
  · rw [if_pos e5]
    obtain ⟨b, g1, g2, g3⟩ := give_tt (len := len) hL hN (m + 1) σ f K hF hm (by omega) hR
    exact ⟨b, g1, nt (by rw [bec_stmt, e5, kw_return]; rfl) g2, g3⟩
  rw [if_neg e5]
  by_cases e6 : tAt L σ.next = ⟨#[115, 107, 105, 112]⟩
  · rw [if_pos e6]
    have a1 : Adv L 1 0 σ (σ.take L ⟨#[115, 107, 105, 112]⟩) := adv_take (by decide)
    refine ⟨_, rfl, nt (S := [⟨#[115, 107, 105, 112]⟩] ++ [⟨#[59]⟩]) (by rw [bec_stmt, e6, kw_skip]; rfl) ?_, (a1.trans (adv_take (by decide))).weak (by omega) (by omega)⟩
    exact Sim.comp (tk _ 1 (by omega) (by decide) (by decide) (by decide) (by decide)) (sim_take hL (a1.fine hF) (by decide) (by decide) (by decide) (by decide) (fun _ => by omega)).1
  rw [if_neg e6]
  refine aoc_tt hL hN (m + 1) σ f K hF hm (by omega) hR (fun _ hn => ⟨?_, e6⟩)
  rw [bec_stmt, hn, if_neg (by decide), if_neg e1, if_neg e2, if_neg e3, if_neg (fun h => e4 (.inl h)), if_neg (fun h => e4 (.inr h)), if_neg e5]

end RR
