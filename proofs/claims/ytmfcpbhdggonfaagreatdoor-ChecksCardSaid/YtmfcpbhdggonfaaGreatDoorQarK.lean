/- Contracts of the program's parser: factors; all of an expression. -/
import Derived.Test.YtmfcpbhdggonfaaGreatDoorQarJ
namespace Go.Proofs.YtmfcpbhdggonfaaGreatDoor
open Go.RowKit RR

set_option maxRecDepth 100000 in
set_option maxHeartbeats 2000000 in
theorem s_factor {B : Nat} {ao : Option Addr} {cap : Nat} {L : List Tk} {U : Nat} (hL : L.length ≤ 500) (f : Nat) (ih : Hid (SaidBrack B ao cap L U f)) : SaidFactor B ao cap L U (f + 1) := by
  intro σ r vS w h hrun hend
  rw [factorQ_succ] at hrun
  obtain ⟨a, h1, h2⟩ := bindS hrun
  obtain ⟨q, h3, h4⟩ := Option.map_eq_some_iff.1 h2
  have H1 := hide h1
  have H3 := hide h3
  have H4 := hide h4
  have HL : Hid (q.1.nds.length + a.2 ≤ 9000) := by
    show _ ≤ _
    have := (xg_addNots a.2 q.1 q.2).2.2
    rw [h4] at this
    omega
  clear hrun h1 h2 h3 h4
  go_enter Tryz.func235, Tryz.ntmps235
  go_wp2_with fail
  go_loopg [3] f (fun g v3 wr => ∃ (τ : QSt) (n : Nat), v3 = .int .i64 n ∧ n ≤ τ.p.next ∧ notsQ L g τ n = some a ∧ PS B ao cap L U τ vS wr ∧ Kp B w wr)
  case atStart => exact ⟨σ, 0, rfl, Nat.zero_le _, H1.out, h, Kp.refl _ _⟩
  case round =>
    obtain ⟨τ, n, rfl, hn, hl, hp, kp⟩ := hrel
    have hle := hp.le
    cases gk with
    | zero => rw [notsQ] at hl; cases hl
    | succ g =>
      rw [notsQ] at hl
      cases hs : τ.p.sees L ⟨#[33]⟩
      · rw [hs] at hl
        have hl2 : a = (τ, n) := (Option.some.inj hl).symm
        subst hl2
        clear hl H1
        have H3' : Hid (plainQ L (bracketedQ L f) τ = some q) := H3.out
        have H4' : Hid (addNots n q.1 q.2 = r) := H4.out
        have hln : q.1.nds.length + n ≤ 9000 := HL.out
        clear H3 H4 HL
        go_wp2_with fail
        refine (s_accept ⟨#[33]⟩ _ hL (by decide) hp).mono ?_
        rintro e w2 ⟨rfl, hp2, k2⟩
        rw [hs] at hp2 ⊢
        go_wp2_with fail
        refine (s_plain hL f ih τ q vS _ hp2 H3'.out (by omega)).mono ?_
        rintro e w3 ⟨rfl, hp3, k3⟩
        go_wp2_with fail
        go_loopw [4, 5] (fun v4 u wr => ∃ (k : Nat) (υ : QSt) (x : Int), v4 = .int .i64 x ∧ u = .int .i64 k ∧ k ≤ n ∧ addNots (n - k) υ x = r ∧ PS B ao cap L U υ vS wr ∧ Kp B w wr) (fun _ u _ => n - (intOf u).toNat)
        case atStart => exact ⟨0, q.1, q.2, rfl, rfl, Nat.zero_le _, H4'.out, hp3, (kp.trans k2).trans k3⟩
        case round =>
          obtain ⟨k, υ, x, rfl, rfl, hk, ha, hpu, kpu⟩ := hrel
          by_cases hkn : k < n
          · obtain ⟨m, hm⟩ : ∃ m, n - k = m + 1 := ⟨n - k - 1, by omega⟩
            have hlu : υ.nds.length ≤ 9000 := by
              have := (xg_addNots (n - k) υ x).2.2
              rw [ha] at this
              omega
            rw [hm, addNots] at ha
            have HA := hide ha
            clear ha
            go_wp2_with fail
            refine (s_addNode ⟨4, -1, 0, x⟩ _ hlu hpu).mono ?_
            rintro e w4 ⟨rfl, hp4, k4⟩
            go_wp2_with fail
            go_roundw
            case rel => exact ⟨k + 1, _, _, rfl, by go_num, by omega, by rw [show n - (k + 1) = m by omega]; exact HA.out, hp4, kpu.trans k4⟩
            case measure => simp [intOf]; omega
          · have hk2 : n - k = 0 := by omega
            rw [hk2, addNots] at ha
            have HA := hide ha
            clear ha
            go_wp2_with fail
            go_ret
            exact ⟨ret_int (by rw [← HA.out]), by rw [← HA.out]; exact hpu, kpu⟩
      · rw [hs] at hl
        have HA : Hid (notsQ L g (τ.setp τ.p.step) (n + 1) = some a) := hl
        clear hl
        go_wp2_with fail
        refine (s_accept ⟨#[33]⟩ _ hL (by decide) hp).mono ?_
        rintro e w2 ⟨rfl, hp2, k2⟩
        rw [hs] at hp2 ⊢
        go_wp2_with fail
        go_roundg g
        case measure => omega
        case rel => exact ⟨τ.setp τ.p.step, n + 1, by go_num, by show n + 1 ≤ τ.p.next + 1; omega, HA.out, hp2, kp.trans k2⟩

/-- All of it, by the fuel. -/
theorem s_exprs {B : Nat} {ao : Option Addr} {cap : Nat} {L : List Tk} {U : Nat} (hL : L.length ≤ 500) : ∀ f, (∀ g, g ≤ f → SaidExpr B ao cap L U g) ∧ (∀ g, g ≤ f → SaidTerm B ao cap L U g) ∧ (∀ g, g ≤ f → SaidFactor B ao cap L U g) ∧ (∀ g, g ≤ f → SaidBrack B ao cap L U g) := by
  intro f
  induction f with
  | zero =>
    refine ⟨fun g hg => ?_, fun g hg => ?_, fun g hg => ?_, fun g hg => ?_⟩ <;> (have : g = 0 := by omega) <;> subst this <;> intro σ r vS w h hrun
    · rw [exprQ_zero] at hrun; cases hrun
    · rw [termQ_zero] at hrun; cases hrun
    · rw [factorQ_zero] at hrun; cases hrun
    · rw [bracketedQ_zero] at hrun; cases hrun
  | succ f ih =>
    obtain ⟨i1, i2, i3, i4⟩ := ih
    refine ⟨fun g hg => ?_, fun g hg => ?_, fun g hg => ?_, fun g hg => ?_⟩
    · by_cases e : g = f + 1
      · subst e; exact s_expr hL f (hide i2)
      · exact i1 g (by omega)
    · by_cases e : g = f + 1
      · subst e; exact s_term hL f (hide i3)
      · exact i2 g (by omega)
    · by_cases e : g = f + 1
      · subst e; exact s_factor hL f (hide (i4 f (Nat.le_refl _)))
      · exact i3 g (by omega)
    · by_cases e : g = f + 1
      · subst e; exact s_brack hL f (hide (i1 f (Nat.le_refl _)))
      · exact i4 g (by omega)
theorem s_exprF {B : Nat} {ao : Option Addr} {cap : Nat} {L : List Tk} {U : Nat} (hL : L.length ≤ 500) (f : Nat) : SaidExpr B ao cap L U f := (s_exprs hL f).1 f (Nat.le_refl _)

end Go.Proofs.YtmfcpbhdggonfaaGreatDoor
