/- Contracts of the program's parser: lists of names, values. -/
import Derived.Test.YtlpmkpjhdahfhaaGreatDoorParD
import Derived.Test.YtlpmkpjhdahfhaaGreatDoorParse
namespace Go.Proofs.YtlpmkpjhdahfhaaGreatDoor
open Go.RowKit RR

set_option maxRecDepth 100000 in
set_option maxHeartbeats 1000000 in
theorem s_takeNames {B : Nat} {ao : Option Addr} {cap : Nat} {L : List Tk} (hL : L.length ≤ 500) (f : Nat) (role : Nat) (σ σ' : PSt) (vN vC : Value) (w : World) (h : PS B ao cap L σ vN vC w) (hrun : moreP L role f (σ.takeName L role) = some σ') :
    Calls Tryz.prog 89 #[.pointer (some ⟨B, 0, none⟩), .int .i64 role] w fun e w' => e = .returned (.tuple #[]) ∧ ∃ vN', PS B ao cap L σ' vN' vC w' ∧ Kp B w w' := by
  have HR := hide hrun
  clear hrun
  go_enter Tryz.func89, Tryz.ntmps89
  go_wp2_with fail
  refine (s_takeName role _ hL h).mono ?_
  rintro e w1 ⟨rfl, vN1, hp1, k1⟩
  go_wp2_with fail
  go_loopg [] f (fun g wr => ∃ (τ : PSt) (vN2 : Value), moreP L role g τ = some σ' ∧ PS B ao cap L τ vN2 vC wr ∧ Kp B w wr)
  case atStart => exact ⟨_, vN1, HR.out, hp1, k1⟩
  case round =>
    obtain ⟨τ, vN2, hl, hp, kp⟩ := hrel
    cases gk with
    | zero => rw [moreP] at hl; cases hl
    | succ g =>
      rw [moreP] at hl
      cases hs : τ.sees L ⟨#[44]⟩
      · rw [hs] at hl
        have HL : Hid (τ = σ') := Option.some.inj hl
        clear hl
        go_wp2_with fail
        refine (s_accept ⟨#[44]⟩ _ hL (by decide) hp).mono ?_
        rintro e w2 ⟨rfl, hp2, k2⟩
        rw [hs] at hp2 ⊢
        go_wp2_with fail
        go_end0
        exact ⟨rfl, vN2, by rw [← HL.out]; exact hp2, kp.trans k2⟩
      · rw [hs] at hl
        have HA : Hid (moreP L role g (τ.step.takeName L role) = some σ') := hl
        clear hl
        go_wp2_with fail
        refine (s_accept ⟨#[44]⟩ _ hL (by decide) hp).mono ?_
        rintro e w2 ⟨rfl, hp2, k2⟩
        rw [hs] at hp2 ⊢
        go_wp2_with fail
        refine (s_takeName role _ hL hp2).mono ?_
        rintro e w3 ⟨rfl, vN3, hp3, k3⟩
        go_wp2_with fail
        go_roundg g
        case measure => omega
        case rel => exact ⟨_, vN3, HA.out, hp3, (kp.trans k2).trans k3⟩

set_option maxRecDepth 100000 in
set_option maxHeartbeats 1000000 in
theorem s_values {B : Nat} {ao : Option Addr} {cap : Nat} {L : List Tk} (hL : L.length ≤ 500) (f : Nat) (σ σ1 σ' : PSt) (n : Nat) (vN vC : Value) (w : World) (h : PS B ao cap L σ vN vC w) (h1 : exprP L f σ = some σ1) (hrun : valuesP L f σ1 1 = some (σ', n)) :
    Calls Tryz.prog 135 #[.pointer (some ⟨B, 0, none⟩)] w fun e w' => e = .returned (.int .i64 n) ∧ ∃ vN' vC', PS B ao cap L σ' vN' vC' w' ∧ Kp B w w' := by
  have HR := hide hrun
  have H1 := hide h1
  clear hrun h1
  have ih := hide (s_exprs (B := B) (ao := ao) (cap := cap) hL f).1
  go_enter Tryz.func135, Tryz.ntmps135
  go_wp2_with fail
  refine (ih.out f (Nat.le_refl _) σ σ1 vN vC _ h H1.out).mono ?_
  rintro e w1 ⟨rfl, vN1, vC1, hp1, k1⟩
  go_wp2_with fail
  go_loopg [3] f (fun g v3 wr => ∃ (τ : PSt) (m : Nat) (vN2 vC2 : Value), v3 = .int .i64 m ∧ m ≤ τ.next + 1 ∧ g ≤ f ∧ valuesP L g τ m = some (σ', n) ∧ PS B ao cap L τ vN2 vC2 wr ∧ Kp B w wr)
  case atStart => exact ⟨σ1, 1, vN1, vC1, rfl, by omega, Nat.le_refl _, HR.out, hp1, k1⟩
  case round =>
    obtain ⟨τ, m, vN2, vC2, rfl, hm, hg, hl, hp, kp⟩ := hrel
    have hle := hp.le
    cases gk with
    | zero => rw [valuesP] at hl; cases hl
    | succ g =>
      rw [valuesP] at hl
      cases hs : τ.sees L ⟨#[44]⟩
      · rw [hs] at hl
        have HL : Hid ((τ, m) = (σ', n)) := Option.some.inj hl
        clear hl
        go_wp2_with fail
        refine (s_accept ⟨#[44]⟩ _ hL (by decide) hp).mono ?_
        rintro e w2 ⟨rfl, hp2, k2⟩
        rw [hs] at hp2 ⊢
        go_wp2_with fail
        go_ret
        have e1 : τ = σ' := congrArg Prod.fst HL.out
        have e2 : m = n := congrArg Prod.snd HL.out
        exact ⟨ret_int (by rw [e2]), vN2, vC2, by rw [← e1]; exact hp2, kp.trans k2⟩
      · rw [hs] at hl
        obtain ⟨τ1, h1, h2⟩ := bind_some hl
        have HA := hide h1
        have HB := hide h2
        have hgd := (good_expr h1).2.1
        have hst : τ.step.next = τ.next + 1 := rfl
        have hm2 : m + 1 ≤ τ1.next + 1 := by omega
        clear hl h1 h2 hgd hst
        go_wp2_with fail
        refine (s_accept ⟨#[44]⟩ _ hL (by decide) hp).mono ?_
        rintro e w2 ⟨rfl, hp2, k2⟩
        rw [hs] at hp2 ⊢
        go_wp2_with fail
        refine (ih.out g (by omega) τ.step τ1 vN2 vC2 _ hp2 HA.out).mono ?_
        rintro e w3 ⟨rfl, vN3, vC3, hp3, k3⟩
        go_wp2_with fail
        go_roundg g
        case measure => omega
        case rel => exact ⟨τ1, m + 1, vN3, vC3, by go_num, hm2, by omega, HB.out, hp3, (kp.trans k2).trans k3⟩

end Go.Proofs.YtlpmkpjhdahfhaaGreatDoor
