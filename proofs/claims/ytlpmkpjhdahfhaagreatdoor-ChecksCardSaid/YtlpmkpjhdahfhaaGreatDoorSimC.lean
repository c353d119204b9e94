/- The parser against the machine: expressions. Plain functions. No Go here. -/
import Derived.Test.YtlpmkpjhdahfhaaGreatDoorSimB
namespace RR
open Go Go.RowKit

def meas (L : List Tk) (σ : PSt) : Nat := if σ.failed = true then 0 else L.length - σ.next + 1
def Room (c K : Nat) (σ : PSt) : Prop := σ.failed = false → (K : Int) + 40 * (8 - σ.depth) ≤ c

/-- With enough fuel there is an end, and the machine goes with it. -/
def TT (L : List Tk) (len : Nat) (P : Nat → PSt → Option PSt) (c : Nat) (S : List ByteArray) (s rm m : Nat) : Prop :=
  ∀ σ f K, Fine L σ → meas L σ ≤ m → 5 * m + c ≤ f → Room rm K σ → ∃ σ', P f σ = some σ' ∧ Sim L len K S σ σ' ∧ Adv L s 0 σ σ'

theorem meas_failed {L : List Tk} {σ : PSt} (h : σ.failed = true) : meas L σ = 0 := by unfold meas; rw [if_pos h]
theorem meas_ok {L : List Tk} {σ : PSt} (h : σ.failed = false) : meas L σ = L.length - σ.next + 1 := by unfold meas; rw [if_neg (by rw [h]; simp)]
theorem meas_adv {L : List Tk} {s : Nat} {k : Int} {a b : PSt} (h : Adv L s k a b) : meas L b ≤ meas L a := by
  cases hb : b.failed
  · obtain ⟨g1, g2, g3, g4⟩ := h hb
    rw [meas_ok hb, meas_ok g1]; omega
  · rw [meas_failed hb]; exact Nat.zero_le _
theorem meas_lt {L : List Tk} {k : Int} {a b : PSt} (h : Adv L 1 k a b) (ha : 1 ≤ meas L a) : meas L b + 1 ≤ meas L a := by
  cases hb : b.failed
  · obtain ⟨g1, g2, g3, g4⟩ := h hb
    rw [meas_ok hb, meas_ok g1]; omega
  · rw [meas_failed hb]; omega
theorem Room.adv {L : List Tk} {c K s : Nat} {a b : PSt} (h : Room c K a) (hA : Adv L s 0 a b) : Room c K b := fun hb => by
  obtain ⟨g1, g2, g3, g4⟩ := hA hb
  have := h g1
  omega
theorem Room.more {c c' K K' : Nat} {a : PSt} (h : Room c K a) (hc : K' + c ≤ K + c') : Room c' K' a := fun ha => by have := h ha; omega
theorem Room.up {L : List Tk} {c K c' K' s : Nat} {a b : PSt} (h : Room c K a) (hA : Adv L s 1 a b) (hc : K' + c ≤ K + c' + 40) : Room c' K' b := fun hb => by
  obtain ⟨g1, g2, g3, g4⟩ := hA hb
  have := h g1
  omega
theorem Room.lt {L : List Tk} {c K : Nat} {a : PSt} (h : Room c K a) (hF : Fine L a) (hc : c ≤ 4900) : a.failed = false → K + 20 < 5000 := fun ha => by
  have := h ha
  have := hF ha
  omega

theorem Sim.congr {L : List Tk} {len K : Nat} {S : List ByteArray} {a b c : PSt} (h : Sim L len K S a b) (h1 : c.failed = b.failed) (h2 : c.next = b.next) (h3 : c.depth = b.depth) : Sim L len K S a c := fun R r hR hr => by
  refine h R r hR ?_
  unfold Run at hr ⊢
  rw [h1, h2, h3] at hr
  exact hr

/-- As many ! as there are. -/
theorem nots_tt {L : List Tk} {len : Nat} (hL : L.length ≤ 500) : ∀ (f : Nat) (σ : PSt), Fine L σ → meas L σ < f → ∃ σ1, notsP L f σ = some σ1 ∧ Adv L 0 0 σ σ1 ∧ (σ1.sees L ⟨#[33]⟩ = false) ∧ ∀ K b, (σ.failed = false → K + 1 < 5000) → Sim L len K [NT.nFactor.enc] σ1 b → Sim L len K [NT.nFactor.enc] σ b := by
  intro f
  induction f with
  | zero => intro σ _ h; omega
  | succ f ih =>
    intro σ hF hm
    rw [notsP]
    cases hs : σ.sees L ⟨#[33]⟩
    · exact ⟨σ, rfl, Adv.refl hF, hs, fun K b _ h => h⟩
    · have hlt := sees_lt (by decide) hs
      have hA : Adv L 1 0 σ (σ.take L ⟨#[33]⟩) := adv_take (by decide)
      have hm1 := meas_lt hA (by rw [meas_ok hlt.2]; omega)
      obtain ⟨σ1, h1, h2, h3, h4⟩ := ih (σ.take L ⟨#[33]⟩) (hA.fine hF) (by omega)
      refine ⟨σ1, h1, (hA.trans h2).weak (Nat.zero_le _) rfl, h3, fun K b hK h => ?_⟩
      have e : tAt L σ.next = ⟨#[33]⟩ := by unfold PSt.sees at hs; rw [tAt_ahead hlt.2] at hs; exact of_decide_eq_true hs
      refine sim_nt hL hF (n := .nFactor) (S := [⟨#[33]⟩] ++ [NT.nFactor.enc]) (by decide) (fun h => by have := hK h; omega) (fun _ => by rw [e]; rfl) ?_
      exact Sim.comp (sim_take hL hF (by decide) (by decide) (by decide) (by decide) (fun h => hK h)).1 (h4 K b (fun h => hK (hA h).1) h)

theorem bracketed_tt {L : List Tk} {len m : Nat} (hL : L.length ≤ 500) (he : TT L len (exprP L) 5 [NT.nExpr.enc] 1 4000 m) (σ : PSt) (f K : Nat) (hF : Fine L σ) (hm : ∀ k, Adv L 1 1 σ k → meas L k ≤ m) (hf : 5 * m + 6 ≤ f) (hR : Room 4020 K σ) :
    ∃ σ', bracketedP L f σ = some σ' ∧ Sim L len K [⟨#[40]⟩, NT.nExpr.enc, ⟨#[41]⟩] σ σ' ∧ Adv L 2 0 σ σ' := by
  obtain ⟨f, rfl⟩ : ∃ g, f = g + 1 := ⟨f - 1, by omega⟩
  have hK := hR.lt hF (by omega)
  obtain ⟨s1, f1, a1⟩ := sim_enter (len := len) (K := K + 2) (t := ⟨#[40]⟩) hL hF (by decide) (by decide) (by decide) (by decide) (fun h => by have := hK h; omega)
  obtain ⟨b, h1, h2, h3⟩ := he (enterP L σ ⟨#[40]⟩) f (K + 1) f1 (hm _ a1) (by omega) (hR.up a1 (by omega))
  obtain ⟨s3, a3⟩ := sim_leave (len := len) (K := K) (t := ⟨#[41]⟩) hL (h3.fine f1) (by decide) (by decide) (by decide) (by decide) (fun h => by have := hK (a1 (h3 h).1).1; omega)
  refine ⟨leaveP L b ⟨#[41]⟩, by rw [bracketedP, h1]; rfl, ?_, ((a1.trans h3).trans a3).weak (by omega) (by omega)⟩
  exact Sim.comp (S1 := [⟨#[40]⟩]) s1 (Sim.comp (S1 := [NT.nExpr.enc]) h2 s3)

theorem nt_name {t : ByteArray} (h : isNameB t = true) : ntOf t = none := by
  unfold ntOf
  rw [List.find?_eq_none]
  intro n _ hn
  have e := of_decide_eq_true hn
  rw [← e] at h
  have e2 : isNameB n.enc = false := by cases n <;> (unfold isNameB; rw [bl]; rfl)
  rw [e2] at h
  cases h

theorem kw_true : isNameB ⟨#[116, 114, 117, 101]⟩ = false := by unfold isNameB; rw [bl]; decide
theorem kw_false : isNameB ⟨#[102, 97, 108, 115, 101]⟩ = false := by unfold isNameB; rw [bl]; decide

theorem bec_factor (t : ByteArray) : becB .nFactor t = if t = ⟨#[33]⟩ then [⟨#[33]⟩, NT.nFactor.enc] else if t = ⟨#[40]⟩ then [⟨#[40]⟩, NT.nExpr.enc, ⟨#[41]⟩] else if isNameB t = true then [t] else if t = ⟨#[116, 114, 117, 101]⟩ then [⟨#[116, 114, 117, 101]⟩] else if t = ⟨#[102, 97, 108, 115, 101]⟩ then [⟨#[102, 97, 108, 115, 101]⟩] else if t = ⟨#[63]⟩ then [⟨#[63]⟩] else [⟨#[78, 65, 77, 69]⟩] := rfl
theorem factor_tt {L : List Tk} {len m : Nat} (hL : L.length ≤ 500) (hN : NoNm L) (ih : ∀ k, k < m → TT L len (exprP L) 5 [NT.nExpr.enc] 1 4000 k) : TT L len (factorP L) 3 [NT.nFactor.enc] 1 4010 m := by
  intro σ f K hF hm hf hR
  obtain ⟨f, rfl⟩ : ∃ g, f = g + 1 := ⟨f - 1, by omega⟩
  rw [factorP]
  have hK := hR.lt hF (by omega)
  obtain ⟨σ1, h1, hA, hs, hnot⟩ := nots_tt (len := len) hL f σ hF (by omega)
  rw [h1]
  show ∃ σ', (if (σ1.ahead L 0).t = ⟨#[40]⟩ then bracketedP L f σ1
      else if (σ1.ahead L 0).t = ⟨#[116, 114, 117, 101]⟩ ∨ (σ1.ahead L 0).t = ⟨#[102, 97, 108, 115, 101]⟩ ∨ (σ1.ahead L 0).t = ⟨#[63]⟩ then some (σ1.take L (σ1.ahead L 0).t)
      else some (σ1.takeName L 4)) = some σ' ∧ _ ∧ _
  have hF1 := hA.fine hF
  have hR1 := hR.adv hA
  have hm1 := meas_adv hA
  have hK1 := hR1.lt hF1 (by omega)
  have fin : ∀ b, Sim L len K [NT.nFactor.enc] σ1 b → Adv L 1 0 σ1 b → Sim L len K [NT.nFactor.enc] σ b ∧ Adv L 1 0 σ b := fun b hb hab => ⟨hnot K b (fun h => by have := hK h; omega) hb, (hA.trans hab).weak (by omega) (by omega)⟩
  cases hfa : σ1.failed
  · rw [tAt_ahead hfa]
    have ns : ¬ tAt L σ1.next = ⟨#[33]⟩ := by
      unfold PSt.sees at hs; rw [tAt_ahead hfa] at hs; exact of_decide_eq_false hs
    by_cases e1 : tAt L σ1.next = ⟨#[40]⟩
    · rw [if_pos e1]
      have hpos : 1 ≤ meas L σ1 := by rw [meas_ok hfa]; omega
      obtain ⟨b, g1, g2, g3⟩ := bracketed_tt (m := m - 1) hL (ih (m - 1) (by omega)) σ1 f K hF1 (fun k hk => by have := meas_lt hk hpos; omega) (by omega) (hR1.more (by omega))
      have := fin b (sim_nt hL hF1 (n := .nFactor) (by decide) (fun h => by have := hK1 h; omega) (fun _ => by rw [e1]; rfl) g2) (g3.weak (by omega) rfl)
      exact ⟨b, g1, this.1, this.2⟩
    · rw [if_neg e1]
      by_cases e2 : tAt L σ1.next = ⟨#[116, 114, 117, 101]⟩ ∨ tAt L σ1.next = ⟨#[102, 97, 108, 115, 101]⟩ ∨ tAt L σ1.next = ⟨#[63]⟩
      · rw [if_pos e2]
        have key : ∀ t, tAt L σ1.next = t → ntOf t = none → ¬ t = ⟨#[]⟩ → ¬ t = ⟨#[78, 65, 77, 69]⟩ → delta t = 0 → becB .nFactor t = [t] → ∃ σ', some (σ1.take L (tAt L σ1.next)) = some σ' ∧ Sim L len K [NT.nFactor.enc] σ σ' ∧ Adv L 1 0 σ σ' := fun t et q1 q2 q3 q4 q5 => by
          rw [et]
          have := fin (σ1.take L t) (sim_nt hL hF1 (n := .nFactor) (by decide) (fun h => by have := hK1 h; omega) (fun _ => by rw [et]; exact q5) (sim_take hL hF1 q1 q2 q3 q4 (fun h => by have := hK1 h; omega)).1) (adv_take q2)
          exact ⟨_, rfl, this.1, this.2⟩
        rcases e2 with e2 | e2 | e2
        · exact key _ e2 (by decide) (by decide) (by decide) (by decide) (by rw [bec_factor, kw_true]; decide)
        · exact key _ e2 (by decide) (by decide) (by decide) (by decide) (by rw [bec_factor, kw_false]; decide)
        · exact key _ e2 (by decide) (by decide) (by decide) (by decide) (by rw [bec_factor, sign_name (by decide)]; decide)
      · rw [if_neg e2]
        have n1 : ¬ tAt L σ1.next = ⟨#[116, 114, 117, 101]⟩ := fun h => e2 (.inl h)
        have n2 : ¬ tAt L σ1.next = ⟨#[102, 97, 108, 115, 101]⟩ := fun h => e2 (.inr (.inl h))
        have n3 : ¬ tAt L σ1.next = ⟨#[63]⟩ := fun h => e2 (.inr (.inr h))
        cases en : isNameB (tAt L σ1.next)
        · have := fin (σ1.takeName L 4) (sim_nt hL hF1 (n := .nFactor) (by decide) (fun h => by have := hK1 h; omega) (fun _ => by
            rw [bec_factor, if_neg ns, if_neg e1, en, if_neg (by decide), if_neg n1, if_neg n2, if_neg n3]) (sim_name hL hN hF1 (fun h => by have := hK1 h; omega))) adv_name
          exact ⟨_, rfl, this.1, this.2⟩
        · have h0 : ¬ tAt L σ1.next = ⟨#[]⟩ := fun h => by rw [h, isName_empty rfl] at en; cases en
          have st := (sim_take (len := len) (K := K) hL hF1 (nt_name en) h0 (hN _) (name_delta en) (fun h => by have := hK1 h; omega)).1
          have e3 : σ1.take L (tAt L σ1.next) = σ1.step := by unfold PSt.take PSt.sees; rw [tAt_ahead hfa, decide_eq_true rfl]; rfl
          rw [e3] at st
          have e4 : σ1.takeName L 4 = { σ1 with next := σ1.next + 1, names := σ1.names ++ [⟨(σ1.ahead L 0).t, (σ1.ahead L 0).p, 4, σ1.proc⟩] } := by unfold PSt.takeName; rw [tAt_ahead hfa, en]; rfl
          have := fin (σ1.takeName L 4) (sim_nt hL hF1 (n := .nFactor) (by decide) (fun h => by have := hK1 h; omega) (fun _ => by
            rw [bec_factor, if_neg ns, if_neg e1, if_pos en]) (st.congr (by rw [e4]; rfl) (by rw [e4]; rfl) (by rw [e4]; rfl))) adv_name
          exact ⟨_, rfl, this.1, this.2⟩
  · rw [ahead_failed hfa, if_neg (by decide), if_neg (by decide)]
    have e2 : σ1.takeName L 4 = σ1.fail := by
      unfold PSt.takeName
      rw [ahead_failed hfa, isName_empty rfl]; rfl
    have := fin (σ1.takeName L 4) (by rw [e2]; exact sim_stuck hfa ⟨rfl, rfl⟩) adv_name
    exact ⟨_, rfl, this.1, this.2⟩

/-- Members with a sign between them. -/
theorem loop_tt {L : List Tk} {len m c c' rm : Nat} {P Q : Nat → PSt → Option PSt} {x S t : ByteArray} {n : NT} (hL : L.length ≤ 500) (hrm : rm ≤ 4890) (hx : ntOf x = some n) (ht : ntOf t = none) (h0 : ¬ t = ⟨#[]⟩) (hNm : ¬ t = ⟨#[78, 65, 77, 69]⟩) (hd : delta t = 0)
    (hb : ∀ u, becB n u = if u = t then [t, S, x] else [])
    (hQ : ∀ f σ, Q (f + 1) σ = if σ.sees L t then (P f σ.step).bind (Q f) else some σ) (hc : c ≤ 5) (hc' : c' ≤ 5) (hc1 : 1 ≤ c')
    (ihP : ∀ k, k < m → TT L len P c [S] 1 (rm + 5) k) (ihQ : ∀ k, k < m → TT L len Q c' [x] 0 rm k) : TT L len Q c' [x] 0 rm m := by
  intro σ f K hF hm hf hR
  obtain ⟨f, rfl⟩ : ∃ g, f = g + 1 := ⟨f - 1, by omega⟩
  rw [hQ]
  have hK := hR.lt hF (by omega)
  cases hs : σ.sees L t
  · refine ⟨σ, rfl, ?_, Adv.refl hF⟩
    cases hfa : σ.failed
    · refine sim_nt (S := []) hL hF hx (fun h => by have := hK h; omega) (fun _ => ?_) (Sim.nil σ)
      rw [hb, if_neg]
      unfold PSt.sees at hs; rw [tAt_ahead hfa] at hs; exact of_decide_eq_false hs
    · exact sim_stuck hfa ⟨hfa, rfl⟩
  · have hlt := sees_lt h0 hs
    have e : tAt L σ.next = t := by unfold PSt.sees at hs; rw [tAt_ahead hlt.2] at hs; exact of_decide_eq_true hs
    have et : σ.take L t = σ.step := by unfold PSt.take; rw [hs]; rfl
    have hA : Adv L 1 0 σ σ.step := et ▸ adv_take (L := L) (a := σ) h0
    have hpos : 1 ≤ meas L σ := by rw [meas_ok hlt.2]; omega
    have hm1 := meas_lt hA hpos
    obtain ⟨a, g1, g2, g3⟩ := ihP (m - 1) (by omega) σ.step f (K + 1) (hA.fine hF) (by omega) (by omega) ((hR.adv hA).more (by omega))
    obtain ⟨b, k1, k2, k3⟩ := ihQ (m - 1) (by omega) a f K (g3.fine (hA.fine hF)) (by have := meas_adv g3; omega) (by omega) ((hR.adv hA).adv g3)
    refine ⟨b, by rw [if_pos rfl, g1]; exact k1, ?_, ((hA.trans g3).trans k3).weak (Nat.zero_le _) (by omega)⟩
    refine sim_nt (S := [t] ++ ([S] ++ [x])) hL hF hx (fun h => by have := hK h; omega) (fun _ => by rw [hb, if_pos e]; rfl) ?_
    exact Sim.comp (et ▸ (sim_take hL hF ht h0 hNm hd (fun h => by have := hK h; show K + 2 < 5000; omega)).1) (Sim.comp g2 k2)

/-- One member, and what comes behind it. -/
theorem pair_tt {L : List Tk} {len m d rm : Nat} {P Q E : Nat → PSt → Option PSt} {x S y : ByteArray} {n : NT} (hL : L.length ≤ 500) (hrm : rm ≤ 4890) (hy : ntOf y = some n) (hb : ∀ u, becB n u = [S, x])
    (hE : ∀ f σ, E (f + 1) σ = (P f σ).bind (Q f)) (hc : d ≤ 4)
    (hP : TT L len P d [S] 1 (rm + 5) m) (hQ : TT L len Q 1 [x] 0 rm m) (hd : 1 ≤ d) : TT L len E (d + 1) [y] 1 rm m := by
  intro σ f K hF hm hf hR
  obtain ⟨f, rfl⟩ : ∃ g, f = g + 1 := ⟨f - 1, by omega⟩
  rw [hE]
  have hK := hR.lt hF (by omega)
  obtain ⟨a, g1, g2, g3⟩ := hP σ f (K + 1) hF hm (by omega) (hR.more (by omega))
  obtain ⟨b, k1, k2, k3⟩ := hQ a f K (g3.fine hF) (by have := meas_adv g3; omega) (by omega) (hR.adv g3)
  refine ⟨b, by rw [g1]; exact k1, ?_, (g3.trans k3).weak (by omega) (by omega)⟩
  exact sim_nt (S := [S] ++ [x]) hL hF hy (fun h => by have := hK h; omega) (fun _ => hb _) (Sim.comp g2 k2)

theorem exprs_tt {L : List Tk} {len : Nat} (hL : L.length ≤ 500) (hN : NoNm L) (m : Nat) : TT L len (exprP L) 5 [NT.nExpr.enc] 1 4000 m ∧ TT L len (orP L) 1 [NT.nOr.enc] 0 4000 m ∧ TT L len (termP L) 4 [NT.nTerm.enc] 1 4005 m ∧ TT L len (andP L) 1 [NT.nAnd.enc] 0 4005 m ∧ TT L len (factorP L) 3 [NT.nFactor.enc] 1 4010 m := by
  induction m using Nat.strongRecOn with
  | ind m ih =>
    have hfac := factor_tt hL hN (fun k hk => (ih k hk).1)
    have hand : TT L len (andP L) 1 [NT.nAnd.enc] 0 4005 m := loop_tt (P := factorP L) (c := 3) (S := NT.nFactor.enc) (t := ⟨#[38]⟩) (n := .nAnd) hL (by omega) (by decide) (by decide) (by decide) (by decide) (by decide) (fun u => rfl) (fun f σ => by rw [andP]) (by omega) (by omega) (by omega) (fun k hk => (ih k hk).2.2.2.2) (fun k hk => (ih k hk).2.2.2.1)
    have hterm : TT L len (termP L) 4 [NT.nTerm.enc] 1 4005 m := pair_tt (d := 3) (n := .nTerm) hL (by omega) (by decide) (fun u => rfl) (fun f σ => by rw [termP]) (by omega) hfac hand (by omega)
    have hor : TT L len (orP L) 1 [NT.nOr.enc] 0 4000 m := loop_tt (P := termP L) (c := 4) (S := NT.nTerm.enc) (t := ⟨#[124]⟩) (n := .nOr) hL (by omega) (by decide) (by decide) (by decide) (by decide) (by decide) (fun u => rfl) (fun f σ => by rw [orP]) (by omega) (by omega) (by omega) (fun k hk => (ih k hk).2.2.1) (fun k hk => (ih k hk).2.1)
    exact ⟨pair_tt (d := 4) (n := .nExpr) hL (by omega) (by decide) (fun u => rfl) (fun f σ => by rw [exprP]) (by omega) hterm hor (by omega), hor, hterm, hand, hfac⟩

end RR
