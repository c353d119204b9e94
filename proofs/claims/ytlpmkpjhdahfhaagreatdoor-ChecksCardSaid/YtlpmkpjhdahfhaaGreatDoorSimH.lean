/- The parser against the machine: the program whole. Plain functions. No Go here. -/
import Derived.Test.YtlpmkpjhdahfhaaGreatDoorSimG
namespace RR
open Go Go.RowKit

theorem procs_tt {L : List Tk} {len : Nat} (hL : L.length ≤ 500) (hN : NoNm L) (m : Nat) : TU L len (procsP L) 15 [NT.nProcs.enc] 0 3985 m := by
  induction m using Nat.strongRecOn with
  | ind m ih =>
    intro σ f K hF hm hf hR
    obtain ⟨f, rfl⟩ : ∃ g, f = g + 1 := ⟨f - 1, by omega⟩
    have hK := hR.lt hF (by omega)
    rw [procsP]
    cases hs : σ.sees L ⟨#[112, 114, 111, 99]⟩
    · refine ⟨σ, rfl, ?_, Adv.refl hF⟩
      cases hfa : σ.failed
      · refine sim_nt (n := .nProcs) (S := []) hL hF (by decide) (fun h => by have := hK h; omega) (fun _ => ?_) (Sim.nil σ)
        show (if _ then _ else _) = _
        rw [if_neg]
        unfold PSt.sees at hs; rw [tAt_ahead hfa] at hs; exact of_decide_eq_false hs
      · exact sim_stuck hfa ⟨hfa, rfl⟩
    · have hlt := sees_lt (by decide) hs
      have e : tAt L σ.next = ⟨#[112, 114, 111, 99]⟩ := by unfold PSt.sees at hs; rw [tAt_ahead hlt.2] at hs; exact of_decide_eq_true hs
      have hpos : 1 ≤ meas L σ := by rw [meas_ok hlt.2]; omega
      obtain ⟨a, g1, g2, g3⟩ := procedure_tt (len := len) hL hN m σ f (K + 1) hF hm (by omega) (hR.more (by omega))
      obtain ⟨b, k1, k2, k3⟩ := ih (m - 1) (by omega) a f K (g3.fine hF) (by have := meas_lt g3 hpos; omega) (by omega) (hR.adv g3)
      refine ⟨b, by rw [if_pos rfl, g1]; exact k1, ?_, (g3.trans k3).weak (by omega) (by omega)⟩
      exact sim_nt (n := .nProcs) (S := [NT.nProc.enc] ++ [NT.nProcs.enc]) hL hF (by decide) (fun h => by have := hK h; omega) (fun _ => by show (if _ then _ else _) = _; rw [if_pos e]; rfl) (Sim.comp g2 k2)

theorem list_tt {L : List Tk} {len : Nat} (hL : L.length ≤ 500) (hN : NoNm L) (m role : Nat) {t : ByteArray} {n : NT} (hn : ntOf n.enc = some n) (ht : ntOf t = none) (h0 : ¬ t = ⟨#[]⟩) (hNm : ¬ t = ⟨#[78, 65, 77, 69]⟩) (hd : delta t = 0)
    (hb : ∀ u, becB n u = if u = t then [t, NT.nNames.enc, ⟨#[59]⟩] else []) : TU L len (fun f σ => listP L f t role σ) 1 [n.enc] 0 3985 m := by
  intro σ f K hF hm hf hR
  have hK := hR.lt hF (by omega)
  show ∃ σ', listP L f t role σ = some σ' ∧ _
  unfold listP
  cases hs : σ.sees L t
  · refine ⟨σ, rfl, ?_, Adv.refl hF⟩
    cases hfa : σ.failed
    · refine sim_nt (n := n) (S := []) hL hF hn (fun h => by have := hK h; omega) (fun _ => ?_) (Sim.nil σ)
      rw [hb, if_neg]
      unfold PSt.sees at hs; rw [tAt_ahead hfa] at hs; exact of_decide_eq_false hs
    · exact sim_stuck hfa ⟨hfa, rfl⟩
  · have hlt := sees_lt h0 hs
    have e : tAt L σ.next = t := by unfold PSt.sees at hs; rw [tAt_ahead hlt.2] at hs; exact of_decide_eq_true hs
    have et : σ.take L t = σ.step := by unfold PSt.take; rw [hs]; rfl
    have hA : Adv L 1 0 σ σ.step := et ▸ adv_take (L := L) (a := σ) h0
    have f1 := hA.fine hF
    obtain ⟨a, g1, g2, g3⟩ := names_tt (len := len) (role := role) hL hN m σ.step f (K + 1) f1 (by have := meas_adv hA; omega) (by omega) ((hR.adv hA).more (by omega))
    refine ⟨a.take L ⟨#[59]⟩, ?_, ?_, ((hA.trans g3).trans (adv_take (by decide))).weak (by omega) (by omega)⟩
    · rw [if_pos rfl]
      have g1' : moreP L role f (σ.step.takeName L role) = some a := g1
      rw [g1']; rfl
    · refine sim_nt (n := n) (S := [t, NT.nNames.enc, ⟨#[59]⟩]) hL hF hn (fun h => by have := hK h; omega) (fun _ => by rw [hb, if_pos e]) ?_
      exact Sim.comp (S1 := [t]) (S2 := [NT.nNames.enc, ⟨#[59]⟩]) (et ▸ (sim_take hL hF ht h0 hNm hd (fun h => by have := hK h; show K + 2 < 5000; omega)).1) (Sim.comp (S1 := [NT.nNames.enc]) (S2 := [⟨#[59]⟩]) g2 (sim_take hL (g3.fine f1) (by decide) (by decide) (by decide) (by decide) (fun h => by have := hK (hA (g3 h).1).1; omega)).1)

/-- The program whole: the parser comes to an end, and the machine to the same. -/
theorem program_tt {L : List Tk} {len : Nat} (hL : L.length ≤ 500) (hN : NoNm L) (σ : PSt) (h1 : σ.next = 0) (h2 : σ.depth = 0) (h3 : σ.failed = false) :
    ∃ f σ', programP L f σ = some σ' ∧ (if σ'.failed = true then Ends L len startW 0 0 (.err (pAt L len σ'.next)) else Ends L len startW 0 0 .ok ∧ σ'.next = L.length) := by
  have hF : Fine L σ := fun _ => ⟨by omega, by omega, by omega⟩
  obtain ⟨m, hm⟩ : ∃ m, meas L σ ≤ m := ⟨_, Nat.le_refl _⟩
  have hR : Room 3980 100 σ := fun _ => by omega
  have hK := hR.lt hF (by omega)
  refine ⟨10 * m + 20, ?_⟩
  generalize hf : 10 * m + 20 = f
  obtain ⟨a, p1, s1, a1⟩ := list_tt (len := len) hL hN m 0 (t := ⟨#[115, 104, 97, 114, 101, 100]⟩) (n := .nShared) (by decide) (by decide) (by decide) (by decide) (by decide) (fun u => rfl) σ f 6 hF hm (by omega) (hR.more (by omega))
  have f1 := a1.fine hF
  obtain ⟨b, p2, s2, a2⟩ := list_tt (len := len) hL hN m 1 (t := ⟨#[108, 111, 99, 107, 115]⟩) (n := .nLocks) (by decide) (by decide) (by decide) (by decide) (by decide) (fun u => rfl) a f 5 f1 (by have := meas_adv a1; omega) (by omega) ((hR.adv a1).more (by omega))
  have f2 := a2.fine f1
  have b2 := a1.trans a2
  obtain ⟨c, p3, s3, a3⟩ := procedure_tt (len := len) hL hN m b f 4 f2 (by have := meas_adv b2; omega) (by omega) (((hR.adv a1).adv a2).more (by omega))
  have f3 := a3.fine f2
  have b3 := b2.trans a3
  obtain ⟨d, p4, s4, a4⟩ := procs_tt (len := len) hL hN m c f 3 f3 (by have := meas_adv b3; omega) (by omega) ((((hR.adv a1).adv a2).adv a3).more (by omega))
  have f4 := a4.fine f3
  have hR4 := (((hR.adv a1).adv a2).adv a3).adv a4
  have b4 := b3.trans a4
  have a5 : Adv L 1 0 d (d.take L ⟨#[116, 104, 114, 101, 97, 100, 115]⟩) := adv_take (by decide)
  have s5 := (sim_take (len := len) (K := 2) (t := ⟨#[116, 104, 114, 101, 97, 100, 115]⟩) hL f4 (by decide) (by decide) (by decide) (by decide) (fun _ => by omega)).1
  have f5 := a5.fine f4
  obtain ⟨e, p6, s6, a6⟩ := names_tt (len := len) (role := 7) hL hN m (d.take L ⟨#[116, 104, 114, 101, 97, 100, 115]⟩) f 1 f5 (by have := meas_adv (b4.trans a5); omega) (by omega) ((hR4.adv a5).more (by omega))
  have f6 := a6.fine f5
  have a7 : Adv L 1 0 e (e.take L ⟨#[59]⟩) := adv_take (by decide)
  have s7 := (sim_take (len := len) (K := 0) (t := ⟨#[59]⟩) hL f6 (by decide) (by decide) (by decide) (by decide) (fun _ => by omega)).1
  have f7 := a7.fine f6
  obtain ⟨g, hg⟩ : ∃ g, g = e.take L ⟨#[59]⟩ := ⟨_, rfl⟩
  rw [← hg] at s7 f7
  have hp : programP L f σ = some (takeEndP L g) := by
    have p1' : listP L f ⟨#[115, 104, 97, 114, 101, 100]⟩ 0 σ = some a := p1
    have p2' : listP L f ⟨#[108, 111, 99, 107, 115]⟩ 1 a = some b := p2
    have p6' : moreP L 7 f ((d.take L ⟨#[116, 104, 114, 101, 97, 100, 115]⟩).takeName L 7) = some e := p6
    unfold programP
    rw [p1', Option.bind_some, p2', Option.bind_some, p3, Option.bind_some, p4, Option.bind_some, p6', Option.map_some, hg]
  have all : Sim L len 0 startW σ g := Sim.comp (S1 := [NT.nShared.enc]) (S2 := [NT.nLocks.enc, NT.nProc.enc, NT.nProcs.enc, ⟨#[116, 104, 114, 101, 97, 100, 115]⟩, NT.nNames.enc, ⟨#[59]⟩]) s1
    (Sim.comp (S1 := [NT.nLocks.enc]) (S2 := [NT.nProc.enc, NT.nProcs.enc, ⟨#[116, 104, 114, 101, 97, 100, 115]⟩, NT.nNames.enc, ⟨#[59]⟩]) s2
    (Sim.comp (S1 := [NT.nProc.enc]) (S2 := [NT.nProcs.enc, ⟨#[116, 104, 114, 101, 97, 100, 115]⟩, NT.nNames.enc, ⟨#[59]⟩]) s3
    (Sim.comp (S1 := [NT.nProcs.enc]) (S2 := [⟨#[116, 104, 114, 101, 97, 100, 115]⟩, NT.nNames.enc, ⟨#[59]⟩]) s4
    (Sim.comp (S1 := [⟨#[116, 104, 114, 101, 97, 100, 115]⟩]) (S2 := [NT.nNames.enc, ⟨#[59]⟩]) s5 (Sim.comp (S1 := [NT.nNames.enc]) (S2 := [⟨#[59]⟩]) s6 s7)))))
  refine ⟨takeEndP L g, hp, ?_⟩
  have fin : ∀ r, Run L len g [] r → Ends L len startW 0 0 r := fun r hr => by
    have := all [] r (Nat.le_refl _) hr
    unfold Run at this
    rw [h3, h1, h2, if_neg (by decide), List.append_nil] at this
    exact this
  cases hfa : g.failed
  · have hFg := f7 hfa
    have he : Ends L len [] g.depth g.next (if g.next < L.length then .err (pAt L len g.next) else .ok) := by
      refine ⟨1, ?_⟩
      rw [runM, if_pos]
      unfold roomB
      simp
      omega
    have hr : Run L len g [] (if g.next < L.length then .err (pAt L len g.next) else .ok) := by
      unfold Run; rw [if_neg (by rw [hfa]; decide)]; exact he
    have := fin _ hr
    by_cases hlt : g.next < L.length
    · rw [if_pos hlt] at this
      have e1 : takeEndP L g = g.fail := by unfold takeEndP; rw [if_pos hlt]
      rw [e1, if_pos (by rfl)]
      exact this
    · rw [if_neg hlt] at this
      have e1 : takeEndP L g = g := by unfold takeEndP; rw [if_neg hlt]
      rw [e1, if_neg (by rw [hfa]; decide)]
      exact ⟨this, by omega⟩
  · have e1 : (takeEndP L g).failed = true ∧ (takeEndP L g).next = g.next := by
      unfold takeEndP; split
      · exact ⟨rfl, rfl⟩
      · exact ⟨hfa, rfl⟩
    rw [if_pos e1.1, e1.2]
    refine fin _ ?_
    unfold Run; rw [if_pos hfa]

end RR
