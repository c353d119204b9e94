/- The parser against the machine: lists of names, values, calls, what stands behind a sign of assignment. Plain functions. No Go here. -/
import Derived.Test.YtlpmkpjhdahfhaaGreatDoorSimC
namespace RR
open Go Go.RowKit

theorem Sim.head {L : List Tk} {len K : Nat} {S S' : List ByteArray} {a b : PSt} (h : Sim L len K S a b) (hc : a.failed = false → ∀ R r, R.length ≤ K → Ends L len (S ++ R) a.depth a.next r → Ends L len (S' ++ R) a.depth a.next r) : Sim L len K S' a b := fun R r hR hr => by
  have := h R r hR hr
  unfold Run at this ⊢
  cases hf : a.failed
  · rw [hf] at this; exact hc hf R r hR this
  · rw [hf] at this; exact this

theorem names_one {L : List Tk} {len role : Nat} (hL : L.length ≤ 500) (hN : NoNm L) (m : Nat) : TT L len (fun _ σ => some (σ.takeName L role)) 0 [⟨#[78, 65, 77, 69]⟩] 1 4805 m := fun σ f K hF hm hf hR =>
  ⟨_, rfl, sim_name hL hN hF (fun h => by have := hR.lt hF (by omega) h; omega), adv_name⟩

/-- More names, with commas ahead of them. -/
theorem more_tt {L : List Tk} {len role : Nat} (hL : L.length ≤ 500) (hN : NoNm L) (m : Nat) : TT L len (moreP L role) 1 [NT.nMore.enc] 0 4800 m := by
  induction m using Nat.strongRecOn with
  | ind m ih =>
    exact loop_tt (P := fun _ σ => some (σ.takeName L role)) (c := 0) (S := ⟨#[78, 65, 77, 69]⟩) (t := ⟨#[44]⟩) (n := .nMore) hL (by omega) (by decide) (by decide) (by decide) (by decide) (by decide) (fun u => rfl) (fun f σ => by rw [moreP]; rfl) (by omega) (by omega) (by omega) (fun k _ => names_one hL hN k) ih

/-- Names. -/
theorem names_tt {L : List Tk} {len role : Nat} (hL : L.length ≤ 500) (hN : NoNm L) (m : Nat) : TT L len (fun f σ => moreP L role f (σ.takeName L role)) 1 [NT.nNames.enc] 1 4795 m := by
  intro σ f K hF hm hf hR
  have hK := hR.lt hF (by omega)
  have hA : Adv L 1 0 σ (σ.takeName L role) := adv_name
  obtain ⟨b, k1, k2, k3⟩ := more_tt (len := len) (role := role) hL hN m (σ.takeName L role) f K (hA.fine hF) (by have := meas_adv hA; omega) hf ((hR.adv hA).more (by omega))
  refine ⟨b, k1, ?_, (hA.trans k3).weak (by omega) (by omega)⟩
  refine sim_nt (S := [⟨#[78, 65, 77, 69]⟩] ++ [NT.nMore.enc]) (n := .nNames) hL hF (by decide) (fun h => by have := hK h; omega) (fun _ => rfl) ?_
  exact Sim.comp (sim_name hL hN hF (fun h => by have := hK h; show K + 1 < 5000; omega)) k2

/-- More values, with commas ahead of them. -/
theorem values_tt {L : List Tk} {len : Nat} (hL : L.length ≤ 500) (hN : NoNm L) (m : Nat) : ∀ n, ∀ σ f K, Fine L σ → meas L σ ≤ m → 5 * m + 5 ≤ f → Room 3995 K σ → ∃ r, valuesP L f σ n = some r ∧ Sim L len K [NT.nValue.enc] σ r.1 ∧ Adv L 0 0 σ r.1 := by
  induction m using Nat.strongRecOn with
  | ind m ih =>
    intro n σ f K hF hm hf hR
    obtain ⟨f, rfl⟩ : ∃ g, f = g + 1 := ⟨f - 1, by omega⟩
    rw [valuesP]
    have hK := hR.lt hF (by omega)
    cases hs : σ.sees L ⟨#[44]⟩
    · refine ⟨(σ, n), rfl, ?_, Adv.refl hF⟩
      cases hfa : σ.failed
      · refine sim_nt (n := .nValue) (S := []) hL hF (by decide) (fun h => by have := hK h; omega) (fun _ => ?_) (Sim.nil σ)
        show (if _ then _ else _) = _
        rw [if_neg]
        unfold PSt.sees at hs; rw [tAt_ahead hfa] at hs; exact of_decide_eq_false hs
      · exact sim_stuck hfa ⟨hfa, rfl⟩
    · have hlt := sees_lt (by decide) hs
      have e : tAt L σ.next = ⟨#[44]⟩ := by unfold PSt.sees at hs; rw [tAt_ahead hlt.2] at hs; exact of_decide_eq_true hs
      have et : σ.take L ⟨#[44]⟩ = σ.step := by unfold PSt.take; rw [hs]; rfl
      have hA : Adv L 1 0 σ σ.step := et ▸ adv_take (L := L) (a := σ) (by decide)
      have hpos : 1 ≤ meas L σ := by rw [meas_ok hlt.2]; omega
      have hm1 := meas_lt hA hpos
      obtain ⟨a, g1, g2, g3⟩ := (exprs_tt (len := len) hL hN (m - 1)).1 σ.step f (K + 1) (hA.fine hF) (by omega) (by omega) ((hR.adv hA).more (by omega))
      obtain ⟨b, k1, k2, k3⟩ := ih (m - 1) (by omega) (n + 1) a f K (g3.fine (hA.fine hF)) (by have := meas_adv g3; omega) (by omega) ((hR.adv hA).adv g3)
      refine ⟨b, by rw [if_pos rfl, g1]; exact k1, ?_, ((hA.trans g3).trans k3).weak (Nat.zero_le _) (by omega)⟩
      refine sim_nt (n := .nValue) (S := [⟨#[44]⟩] ++ ([NT.nExpr.enc] ++ [NT.nValue.enc])) hL hF (by decide) (fun h => by have := hK h; omega) (fun _ => by show (if _ then _ else _) = _; rw [if_pos e]; rfl) ?_
      exact Sim.comp (et ▸ (sim_take hL hF (by decide) (by decide) (by decide) (by decide) (fun h => by have := hK h; show K + 2 < 5000; omega)).1) (Sim.comp g2 k2)

/-- What a call is behind its name. -/
theorem call_tt {L : List Tk} {len : Nat} (hL : L.length ≤ 500) (hN : NoNm L) (m : Nat) : TT L len (callP L) 10 [⟨#[78, 65, 77, 69]⟩, ⟨#[40]⟩, NT.nValues.enc, ⟨#[41]⟩] 3 4020 m := by
  intro σ f K hF hm hf hR
  have hK := hR.lt hF (by omega)
  have hA : Adv L 1 0 σ (σ.takeName L 6) := adv_name
  have s0 := sim_name (len := len) (K := K + 3) (r := 6) hL hN hF (fun h => by have := hK h; omega)
  have hK1 := (hR.adv hA).lt (hA.fine hF) (by omega)
  obtain ⟨s1, f1, a1⟩ := sim_enter (len := len) (K := K + 2) (t := ⟨#[40]⟩) hL (hA.fine hF) (by decide) (by decide) (by decide) (by decide) (fun h => by have := hK1 h; omega)
  have hR2 : Room 3990 (K + 1) (enterP L (σ.takeName L 6) ⟨#[40]⟩) := (hR.adv hA).up a1 (by omega)
  have hK2 := hR2.lt f1 (by omega)
  have hm2 := Nat.le_trans (meas_adv a1) (meas_adv hA)
  -- the values
  have hv : ∃ r, (if (enterP L (σ.takeName L 6) ⟨#[40]⟩).sees L ⟨#[41]⟩ then some (enterP L (σ.takeName L 6) ⟨#[40]⟩, 0)
   else (exprP L f (enterP L (σ.takeName L 6) ⟨#[40]⟩)).bind fun τ => valuesP L f τ 1) = some r ∧ Sim L len (K + 1) [NT.nValues.enc] (enterP L (σ.takeName L 6) ⟨#[40]⟩) r.1 ∧ Adv L 0 0 (enterP L (σ.takeName L 6) ⟨#[40]⟩) r.1 := by
    generalize enterP L (σ.takeName L 6) ⟨#[40]⟩ = e at f1 hR2 hK2 hm2
    cases hs : e.sees L ⟨#[41]⟩
    · obtain ⟨a, g1, g2, g3⟩ := (exprs_tt (len := len) hL hN m).1 e f (K + 2) f1 (by omega) (by omega) (hR2.more (by omega))
      obtain ⟨b, k1, k2, k3⟩ := values_tt (len := len) hL hN m 1 a f (K + 1) (g3.fine f1) (by have := meas_adv g3; omega) (by omega) ((hR2.adv g3).more (by omega))
      refine ⟨b, by rw [if_neg (by decide), g1]; exact k1, ?_, (g3.trans k3).weak (by omega) (by omega)⟩
      cases hfa : e.failed
      · refine sim_nt (n := .nValues) (S := [NT.nExpr.enc] ++ [NT.nValue.enc]) hL f1 (by decide) (fun h => by have := hK2 h; omega) (fun _ => ?_) (Sim.comp g2 k2)
        show (if _ then _ else _) = _
        rw [if_neg]; · rfl
        unfold PSt.sees at hs; rw [tAt_ahead hfa] at hs; exact of_decide_eq_false hs
      · exact (Sim.comp g2 k2).head (fun h => by rw [hfa] at h; cases h)
    · have hlt := sees_lt (by decide) hs
      have e4 : tAt L e.next = ⟨#[41]⟩ := by unfold PSt.sees at hs; rw [tAt_ahead hlt.2] at hs; exact of_decide_eq_true hs
      refine ⟨(e, 0), rfl, ?_, Adv.refl f1⟩
      exact sim_nt (n := .nValues) (S := []) hL f1 (by decide) (fun h => by have := hK2 h; omega) (fun _ => by show (if _ then _ else _) = _; rw [if_pos e4]) (Sim.nil e)
  obtain ⟨r, h1, h2, h3⟩ := hv
  obtain ⟨s3, a3⟩ := sim_leave (len := len) (K := K) (t := ⟨#[41]⟩) hL (h3.fine f1) (by decide) (by decide) (by decide) (by decide) (fun h => by have := hK2 (h3 h).1; omega)
  refine ⟨{ leaveP L r.1 ⟨#[41]⟩ with calls := (leaveP L r.1 ⟨#[41]⟩).calls ++ [⟨(σ.ahead L 0).t, (σ.ahead L 0).p, r.2⟩] }, by unfold callP; rw [h1]; rfl, ?_, ?_⟩
  · exact (Sim.comp (S1 := [⟨#[78, 65, 77, 69]⟩]) s0 (Sim.comp (S1 := [⟨#[40]⟩]) s1 (Sim.comp (S1 := [NT.nValues.enc]) h2 s3))).congr rfl rfl rfl
  · have := ((hA.trans a1).trans h3).trans a3
    exact fun hb => (this.weak (by omega) (by omega) : Adv L 3 0 σ (leaveP L r.1 ⟨#[41]⟩)) hb

end RR
