/- The parser against the machine: assignments, returns. Plain functions. No Go here. -/
import Derived.Test.YtlpmkpjhdahfhaaGreatDoorSimD
namespace RR
open Go Go.RowKit

theorem ends_nt_inv {L : List Tk} {len : Nat} {x : ByteArray} {R : List ByteArray} {op : Int} {i : Nat} {n : NT} {r : Res} (h : Ends L len (x :: R) op i r) (hx : ntOf x = some n) : Ends L len (becB n (tAt L i) ++ R) op i r := by
  obtain ⟨g, h⟩ := h
  cases g with
  | zero => rw [runM] at h; cases h
  | succ g => exact ⟨g, runM_nt h hx⟩
theorem ends_tok_inv {L : List Tk} {len : Nat} {x : ByteArray} {R : List ByteArray} {op : Int} {i : Nat} {r : Res} (h : Ends L len (x :: R) op i r) (hx : ntOf x = none) (hf : fits x (tAt L i) = true) (hd : op + delta (tAt L i) ≤ 6) : Ends L len R (op + delta (tAt L i)) (i + 1) r := by
  obtain ⟨g, h⟩ := h
  cases g with
  | zero => rw [runM] at h; cases h
  | succ g =>
    have := runM_tok h hx
    rw [if_pos hf, if_pos hd] at this
    exact ⟨g, this⟩

def kName : ByteArray := ⟨#[78, 65, 77, 69]⟩

/-- A name that no bracket follows begins an EXPR: the same behind the sign of assignment. -/
theorem ends_right {L : List Tk} {len : Nat} {R : List ByteArray} {op : Int} {i : Nat} {r : Res} (hR : R.length < 4900) (hi : i < 500) (h0 : 0 ≤ op) (h6 : op ≤ 6) (hn : isNameB (tAt L i) = true) (hb : ¬ tAt L (i + 1) = ⟨#[40]⟩)
    (h : Ends L len (NT.nExpr.enc :: R) op i r) : Ends L len (NT.nRight.enc :: R) op i r := by
  have h1 := ends_nt_inv h (n := .nExpr) (by decide)
  have h2 : Ends L len (NT.nFactor.enc :: NT.nAnd.enc :: NT.nOr.enc :: R) op i r := ends_nt_inv h1 (n := .nTerm) (by decide)
  have h3 := ends_nt_inv h2 (n := .nFactor) (by decide)
  have n1 : ¬ tAt L i = ⟨#[33]⟩ := fun e => by rw [e, sign_name (by decide)] at hn; cases hn
  have n2 : ¬ tAt L i = ⟨#[40]⟩ := fun e => by rw [e, sign_name (by decide)] at hn; cases hn
  rw [bec_factor, if_neg n1, if_neg n2, if_pos hn] at h3
  have h4 : Ends L len (NT.nAnd.enc :: NT.nOr.enc :: R) (op + delta (tAt L i)) (i + 1) r := ends_tok_inv h3 (nt_name hn) (fits_eq rfl) (by rw [name_delta hn]; omega)
  refine ends_nt (room_mk (by omega) (by omega) h0 h6 (by decide)) (n := .nRight) (by decide) ?_
  rw [show becB .nRight (tAt L i) = [⟨#[78, 65, 77, 69]⟩, NT.nLater.enc] from if_pos hn]
  refine ends_tok (R := NT.nLater.enc :: R) (room_mk (by rw [List.length_cons]; omega) (by omega) h0 h6 (by decide)) (by decide) (fits_name rfl hn) (by rw [name_delta hn]; omega) ?_
  have hd := name_delta hn
  refine ends_nt (room_mk (by omega) (by omega) (by omega) (by omega) (by decide)) (n := .nLater) (by decide) ?_
  rw [show becB .nLater (tAt L (i + 1)) = [NT.nAnd.enc, NT.nOr.enc] from if_neg hb]
  exact h4

/-- A call behind the sign of assignment. -/
theorem ends_later {L : List Tk} {len : Nat} {R : List ByteArray} {op : Int} {i : Nat} {r : Res} (hR : R.length < 4900) (hi : i < 500) (h0 : 0 ≤ op) (h6 : op ≤ 6) (hn : isNameB (tAt L i) = true) (hb : tAt L (i + 1) = ⟨#[40]⟩)
    (h : Ends L len ([⟨#[78, 65, 77, 69]⟩, ⟨#[40]⟩, NT.nValues.enc, ⟨#[41]⟩] ++ R) op i r) : Ends L len (NT.nRight.enc :: R) op i r := by
  have hd := name_delta hn
  have h4 := ends_tok_inv h (by decide) (fits_name rfl hn) (by rw [hd]; omega)
  refine ends_nt (room_mk (by omega) (by omega) h0 h6 (by decide)) (n := .nRight) (by decide) ?_
  rw [show becB .nRight (tAt L i) = [⟨#[78, 65, 77, 69]⟩, NT.nLater.enc] from if_pos hn]
  refine ends_tok (R := NT.nLater.enc :: R) (room_mk (by rw [List.length_cons]; omega) (by omega) h0 h6 (by decide)) (by decide) (fits_name rfl hn) (by rw [hd]; omega) ?_
  refine ends_nt (room_mk (by omega) (by omega) (by omega) (by omega) (by decide)) (n := .nLater) (by decide) ?_
  rw [show becB .nLater (tAt L (i + 1)) = [⟨#[40]⟩, NT.nValues.enc, ⟨#[41]⟩] from if_pos hb]
  exact h4

theorem tAt_ahead1 {L : List Tk} {σ : PSt} (h : σ.failed = false) : (σ.ahead L 1).t = tAt L (σ.next + 1) := by
  by_cases h2 : σ.next + 1 < L.length
  · rw [ahead_in h h2, tAt_in h2]
  · rw [ahead_out h2, tAt_out h2]

theorem call_false {L : List Tk} {σ : PSt} (h : σ.failed = false) (hn : isNameB (tAt L σ.next) = true) (hs : σ.seesCall L = false) : ¬ tAt L (σ.next + 1) = ⟨#[40]⟩ := fun e => by
  unfold PSt.seesCall at hs
  rw [tAt_ahead h, tAt_ahead1 h, hn, e] at hs
  exact absurd hs (by decide)
theorem call_true {L : List Tk} {σ : PSt} (hs : σ.seesCall L = true) : σ.failed = false ∧ σ.next < L.length ∧ isNameB (tAt L σ.next) = true ∧ tAt L (σ.next + 1) = ⟨#[40]⟩ := by
  unfold PSt.seesCall at hs
  rw [Bool.and_eq_true] at hs
  have := name_lt hs.1
  refine ⟨this.2, this.1, by rw [← tAt_ahead this.2]; exact hs.1, by rw [← tAt_ahead1 this.2]; exact of_decide_eq_true hs.2⟩
theorem name_next {L : List Tk} {i : Nat} (h : isNameB (tAt L i) = true) : i < L.length := by
  by_cases h2 : i < L.length
  · exact h2
  · rw [tAt_out h2, isName_empty rfl] at h; cases h

theorem assigned_tt {L : List Tk} {len : Nat} (hL : L.length ≤ 500) (hN : NoNm L) (m : Nat) : TT L len (assignedP L) 10 [NT.nRight.enc] 1 4000 m := by
  intro σ f K hF hm hf hR
  have hK := hR.lt hF (by omega)
  unfold assignedP
  cases hs : σ.seesCall L
  · obtain ⟨b, g1, g2, g3⟩ := (exprs_tt (len := len) hL hN m).1 σ f K hF hm (by omega) hR
    refine ⟨b, by rw [if_neg (by decide)]; exact g1, ?_, g3⟩
    refine g2.head (fun hfa R r hRl h => ?_)
    have hFa := hF hfa
    have hKa := hR hfa
    show Ends L len (NT.nRight.enc :: R) σ.depth σ.next r
    cases hn : isNameB (tAt L σ.next)
    · refine ends_nt (room_mk (by omega) (by omega) hFa.2.1 hFa.2.2 (by decide)) (n := .nRight) (by decide) ?_
      rw [show becB .nRight (tAt L σ.next) = [NT.nExpr.enc] from if_neg (by rw [hn]; decide)]
      exact h
    · exact ends_right (by omega) (by have := name_next hn; omega) hFa.2.1 hFa.2.2 hn (call_false hfa hn hs) h
  · obtain ⟨q1, q2, q3, q4⟩ := call_true hs
    obtain ⟨b, g1, g2, g3⟩ := call_tt (len := len) hL hN m σ f K hF hm (by omega) (hR.more (by omega))
    refine ⟨b, by rw [if_pos rfl]; exact g1, ?_, g3.weak (by omega) rfl⟩
    refine g2.head (fun hfa R r hRl h => ?_)
    have hFa := hF hfa
    have hKa := hR hfa
    show Ends L len (NT.nRight.enc :: R) σ.depth σ.next r
    exact ends_later (by omega) (by omega) hFa.2.1 hFa.2.2 q3 q4 h

theorem ends_no_inv {L : List Tk} {len : Nat} {x : ByteArray} {R : List ByteArray} {op : Int} {i : Nat} {r : Res} (h : Ends L len (x :: R) op i r) (hx : ntOf x = none) (hf : fits x (tAt L i) = false) : r = .err (pAt L len i) := by
  obtain ⟨g, h⟩ := h
  cases g with
  | zero => rw [runM] at h; cases h
  | succ g =>
    have := runM_tok h hx
    rw [hf] at this
    exact (Option.some.inj this).symm

theorem aoc_tt {L : List Tk} {len : Nat} (hL : L.length ≤ 500) (hN : NoNm L) (m : Nat) (σ : PSt) (f K : Nat) (hF : Fine L σ) (hm : meas L σ ≤ m) (hf : 5 * m + 10 ≤ f) (hR : Room 3990 K σ)
    (hno : σ.failed = false → isNameB (tAt L σ.next) = false → becB .nStmt (tAt L σ.next) = [⟨#[115, 107, 105, 112]⟩, ⟨#[59]⟩] ∧ ¬ tAt L σ.next = ⟨#[115, 107, 105, 112]⟩) :
    ∃ σ', assignOrCallP L f σ = some σ' ∧ Sim L len K [NT.nStmt.enc] σ σ' ∧ Adv L 1 0 σ σ' := by
  have hK := hR.lt hF (by omega)
  unfold assignOrCallP
  cases hs : σ.seesCall L
  · have a1 : Adv L 1 0 σ (σ.takeName L 4) := adv_name
    have s1 := sim_name (len := len) (K := K + 3) (r := 4) hL hN hF (fun h => by have := hK h; omega)
    have f1 := a1.fine hF
    have a2 : Adv L 1 0 (σ.takeName L 4) ((σ.takeName L 4).take L ⟨#[61]⟩) := adv_take (by decide)
    have s2 := (sim_take (len := len) (K := K + 2) (t := ⟨#[61]⟩) hL f1 (by decide) (by decide) (by decide) (by decide) (fun h => by have := hK (a1 h).1; omega)).1
    have f2 := a2.fine f1
    obtain ⟨b, g1, g2, g3⟩ := assigned_tt (len := len) hL hN m ((σ.takeName L 4).take L ⟨#[61]⟩) f (K + 1) f2 (by have := meas_adv a1; have := meas_adv a2; omega) hf (((hR.adv a1).adv a2).more (by omega))
    have f3 := g3.fine f2
    have s4 := (sim_take (len := len) (K := K) (t := ⟨#[59]⟩) hL f3 (by decide) (by decide) (by decide) (by decide) (fun h => by have := hK (a1 (a2 (g3 h).1).1).1; omega)).1
    refine ⟨b.take L ⟨#[59]⟩, by rw [if_neg (by decide), g1]; rfl, ?_, (((a1.trans a2).trans g3).trans (adv_take (by decide))).weak (by omega) (by omega)⟩
    refine (Sim.comp (S1 := [⟨#[78, 65, 77, 69]⟩]) s1 (Sim.comp (S1 := [⟨#[61]⟩]) s2 (Sim.comp (S1 := [NT.nRight.enc]) g2 s4))).head (fun hfa R r hRl h => ?_)
    have hFa := hF hfa
    have hKa := hR hfa
    show Ends L len (NT.nStmt.enc :: R) σ.depth σ.next r
    have h' : Ends L len (⟨#[78, 65, 77, 69]⟩ :: ([⟨#[61]⟩, NT.nRight.enc, ⟨#[59]⟩] ++ R)) σ.depth σ.next r := h
    refine ends_nt (room_mk (by omega) (by omega) hFa.2.1 hFa.2.2 (by decide)) (n := .nStmt) (by decide) ?_
    cases hn : isNameB (tAt L σ.next)
    · have := hno hfa hn
      rw [this.1]
      have er := ends_no_inv h' (by decide) (fits_no2 (fun e => hN _ e.symm) hn)
      rw [er]
      exact ends_no (R := ⟨#[59]⟩ :: R) (room_mk (by rw [List.length_cons]; omega) (by omega) hFa.2.1 hFa.2.2 (by decide)) (by decide) (.inl (fits_no1 (fun e => this.2 e.symm) (by decide)))
    · have hd := name_delta hn
      have hlt := name_next hn
      have h4 := ends_tok_inv h' (by decide) (fits_name rfl hn) (by rw [hd]; omega)
      rw [show becB .nStmt (tAt L σ.next) = [⟨#[78, 65, 77, 69]⟩, NT.nBehind.enc] from if_pos hn]
      refine ends_tok (R := NT.nBehind.enc :: R) (room_mk (by rw [List.length_cons]; omega) (by omega) hFa.2.1 hFa.2.2 (by decide)) (by decide) (fits_name rfl hn) (by rw [hd]; omega) ?_
      refine ends_nt (room_mk (by omega) (by omega) (by omega) (by omega) (by decide)) (n := .nBehind) (by decide) ?_
      rw [show becB .nBehind (tAt L (σ.next + 1)) = [⟨#[61]⟩, NT.nRight.enc, ⟨#[59]⟩] from if_neg (call_false hfa hn hs)]
      exact h4
  · obtain ⟨q1, q2, q3, q4⟩ := call_true hs
    obtain ⟨b, g1, g2, g3⟩ := call_tt (len := len) hL hN m σ f (K + 1) hF hm (by omega) (hR.more (by omega))
    have s4 := (sim_take (len := len) (K := K) (t := ⟨#[59]⟩) hL (g3.fine hF) (by decide) (by decide) (by decide) (by decide) (fun h => by have := hK (g3 h).1; omega)).1
    refine ⟨b.take L ⟨#[59]⟩, by rw [if_pos rfl, g1]; rfl, ?_, (g3.trans (adv_take (by decide))).weak (by omega) (by omega)⟩
    refine (Sim.comp g2 s4).head (fun hfa R r hRl h => ?_)
    have hFa := hF hfa
    have hKa := hR hfa
    show Ends L len (NT.nStmt.enc :: R) σ.depth σ.next r
    have h' : Ends L len (⟨#[78, 65, 77, 69]⟩ :: ([⟨#[40]⟩, NT.nValues.enc, ⟨#[41]⟩, ⟨#[59]⟩] ++ R)) σ.depth σ.next r := h
    have hd := name_delta q3
    have h4 := ends_tok_inv h' (by decide) (fits_name rfl q3) (by rw [hd]; omega)
    refine ends_nt (room_mk (by omega) (by omega) hFa.2.1 hFa.2.2 (by decide)) (n := .nStmt) (by decide) ?_
    rw [show becB .nStmt (tAt L σ.next) = [⟨#[78, 65, 77, 69]⟩, NT.nBehind.enc] from if_pos q3]
    refine ends_tok (R := NT.nBehind.enc :: R) (room_mk (by rw [List.length_cons]; omega) (by omega) hFa.2.1 hFa.2.2 (by decide)) (by decide) (fits_name rfl q3) (by rw [hd]; omega) ?_
    refine ends_nt (room_mk (by omega) (by omega) (by omega) (by omega) (by decide)) (n := .nBehind) (by decide) ?_
    rw [show becB .nBehind (tAt L (σ.next + 1)) = [⟨#[40]⟩, NT.nValues.enc, ⟨#[41]⟩, ⟨#[59]⟩] from if_pos q4]
    exact h4

theorem give_tt {L : List Tk} {len : Nat} (hL : L.length ≤ 500) (hN : NoNm L) (m : Nat) : TT L len (giveBackP L) 10 [⟨#[114, 101, 116, 117, 114, 110]⟩, NT.nResult.enc, ⟨#[59]⟩] 1 3990 m := by
  intro σ f K hF hm hf hR
  have hK := hR.lt hF (by omega)
  unfold giveBackP
  have a1 : Adv L 1 0 σ (σ.take L ⟨#[114, 101, 116, 117, 114, 110]⟩) := adv_take (by decide)
  have s1 := (sim_take (len := len) (K := K + 2) (t := ⟨#[114, 101, 116, 117, 114, 110]⟩) hL hF (by decide) (by decide) (by decide) (by decide) (fun h => by have := hK h; omega)).1
  have f1 := a1.fine hF
  have hR1 := hR.adv a1
  have hm1 := meas_adv a1
  have hK1 := hR1.lt f1 (by omega)
  generalize σ.take L ⟨#[114, 101, 116, 117, 114, 110]⟩ = e at a1 s1 f1 hR1 hm1 hK1
  have hv : ∃ τ, (if e.sees L ⟨#[59]⟩ then some e else exprP L f e) = some τ ∧ Sim L len (K + 1) [NT.nResult.enc] e τ ∧ Adv L 0 0 e τ := by
    cases hs : e.sees L ⟨#[59]⟩
    · obtain ⟨a, g1, g2, g3⟩ := (exprs_tt (len := len) hL hN m).1 e f (K + 1) f1 (by omega) (by omega) (hR1.more (by omega))
      refine ⟨a, by rw [if_neg (by decide)]; exact g1, ?_, g3.weak (by omega) rfl⟩
      cases hfa : e.failed
      · refine sim_nt (n := .nResult) (S := [NT.nExpr.enc]) hL f1 (by decide) (fun h => by have := hK1 h; omega) (fun _ => ?_) g2
        show (if _ then _ else _) = _
        rw [if_neg]; · rfl
        unfold PSt.sees at hs; rw [tAt_ahead hfa] at hs; exact of_decide_eq_false hs
      · exact g2.head (fun h => by rw [hfa] at h; cases h)
    · have hlt := sees_lt (by decide) hs
      have e4 : tAt L e.next = ⟨#[59]⟩ := by unfold PSt.sees at hs; rw [tAt_ahead hlt.2] at hs; exact of_decide_eq_true hs
      refine ⟨e, rfl, ?_, Adv.refl f1⟩
      exact sim_nt (n := .nResult) (S := []) hL f1 (by decide) (fun h => by have := hK1 h; omega) (fun _ => by show (if _ then _ else _) = _; rw [if_pos e4]) (Sim.nil e)
  obtain ⟨τ, h1, h2, h3⟩ := hv
  have s3 := (sim_take (len := len) (K := K) (t := ⟨#[59]⟩) hL (h3.fine f1) (by decide) (by decide) (by decide) (by decide) (fun h => by have := hK1 (h3 h).1; omega)).1
  exact ⟨τ.take L ⟨#[59]⟩, by rw [h1]; rfl, Sim.comp (S1 := [⟨#[114, 101, 116, 117, 114, 110]⟩]) s1 (Sim.comp (S1 := [NT.nResult.enc]) h2 s3), ((a1.trans h3).trans (adv_take (by decide))).weak (by omega) (by omega)⟩

end RR
