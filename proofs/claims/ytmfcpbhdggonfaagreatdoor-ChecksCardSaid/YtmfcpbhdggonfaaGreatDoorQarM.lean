/- Contracts of the program's parser: values and conditions. -/
import Derived.Test.YtmfcpbhdggonfaaGreatDoorQarL
namespace Go.Proofs.YtmfcpbhdggonfaaGreatDoor
open Go.RowKit RR

set_option maxRecDepth 100000 in
set_option maxHeartbeats 2000000 in
theorem s_values {B : Nat} {ao : Option Addr} {cap : Nat} {L : List Tk} {U : Nat} (hL : L.length ≤ 500) (f : Nat) {σ : QSt} {vS : Value} {S : Nat} {s : Stm} {vV : Value} (r : QSt × List (Int × Int)) (w : World) (h : BP B ao cap L U σ vS S s vV w) (hrun : (valueQ L f σ s.vals).bind (fun q => valuesQ L f q.1 q.2) = some r) (hend : r.1.nds.length ≤ 9000) (hlen : s.vals.length ≤ σ.p.next) :
    Calls Tryz.prog 232 #[.pointer (some ⟨B, 0, none⟩), .pointer (some ⟨S, 0, none⟩)] w fun e w' => e = .returned (.tuple #[]) ∧ ∃ vV', BP B ao cap L U r.1 vS S { s with vals := r.2 } vV' w' ∧ KpS B S vV w vV' w' := by
  obtain ⟨a, h1, h2⟩ := bindS hrun
  have hae : a.1.nds.length ≤ 9000 := Nat.le_trans (xg_values L f _ _ _ h2).mono hend
  have hle := h.ps.le
  have hvl : a.2.length ≤ a.1.p.next + 1 := by
    have := value_len h1
    have := (xg_value h1).nx.1
    omega
  have H1 := hide h1
  have H2 := hide h2
  clear hrun h1 h2
  go_enter Tryz.func232, Tryz.ntmps232
  go_wp2_with fail
  refine (s_value hL f a _ h H1.out hae (by omega)).mono ?_
  rintro e w1 ⟨rfl, vV1, hb1, k1⟩
  go_wp2_with fail
  go_loopg [] f (fun g wr => ∃ (τ : QSt) (v : List (Int × Int)) (vV2 : Value), g ≤ f ∧ valuesQ L g τ v = some r ∧ v.length ≤ τ.p.next + 1 ∧ BP B ao cap L U τ vS S { s with vals := v } vV2 wr ∧ KpS B S vV w vV2 wr)
  case atStart => exact ⟨a.1, a.2, vV1, Nat.le_refl _, H2.out, hvl, hb1, k1⟩
  case round =>
    obtain ⟨τ, v, vV2, hg, hl, hv, hb, kb⟩ := hrel
    have hle2 := hb.ps.le
    cases gk with
    | zero => rw [valuesQ] at hl; cases hl
    | succ g =>
      rw [valuesQ] at hl
      cases hs : τ.p.sees L ⟨#[44]⟩
      · rw [hs] at hl
        have HL : Hid ((τ, v) = r) := Option.some.inj hl
        clear hl
        go_wp2_with fail
        refine (s_accept ⟨#[44]⟩ _ hL (by decide) hb.ps).mono ?_
        rintro e w2 ⟨rfl, hp2, k2⟩
        rw [hs] at hp2 ⊢
        go_wp2_with fail
        go_end0
        exact ⟨rfl, vV2, by rw [← HL.out]; exact hb.kp hp2 k2, kb.trans (k2.s S vV2)⟩
      · rw [hs] at hl
        obtain ⟨b, h1, h2⟩ := bindS hl
        have hbe : b.1.nds.length ≤ 9000 := Nat.le_trans (xg_values L g _ _ _ h2).mono hend
        have hbl : b.2.length ≤ b.1.p.next + 1 := by
          have := value_len h1
          have := (xg_value h1).nx.1
          have e : (τ.setp τ.p.step).p.next = τ.p.next + 1 := rfl
          omega
        have HA := hide h1
        have HB := hide h2
        clear hl h1 h2
        go_wp2_with fail
        refine (s_accept ⟨#[44]⟩ _ hL (by decide) hb.ps).mono ?_
        rintro e w2 ⟨rfl, hp2, k2⟩
        rw [hs] at hp2 ⊢
        go_wp2_with fail
        refine (s_value hL g b _ (hb.kp hp2 k2) HA.out hbe (by show v.length ≤ 1000; omega)).mono ?_
        rintro e w3 ⟨rfl, vV3, hb3, k3⟩
        go_wp2_with fail
        go_roundg g
        case measure => omega
        case rel => exact ⟨b.1, b.2, vV3, by omega, HB.out, hbl, hb3, (kb.trans (k2.s S vV2)).trans k3⟩

set_option maxRecDepth 100000 in
set_option maxHeartbeats 1000000 in
theorem s_condition {B : Nat} {ao : Option Addr} {cap : Nat} {L : List Tk} {U : Nat} (hL : L.length ≤ 500) (f : Nat) {σ : QSt} {vS : Value} {S : Nat} {s : Stm} {vV : Value} (r : QSt × List (Int × Int)) (w : World) (h : BP B ao cap L U σ vS S s vV w) (hrun : condQ L f σ s.vals = some r) (hend : r.1.nds.length ≤ 9000) (hlen : s.vals.length ≤ 1000) :
    Calls Tryz.prog 226 #[.pointer (some ⟨B, 0, none⟩), .pointer (some ⟨S, 0, none⟩)] w fun e w' => e = .returned (.tuple #[]) ∧ ∃ vV', BP B ao cap L U r.1 vS S { s with vals := r.2 } vV' w' ∧ KpS B S vV w vV' w' := by
  cases f with
  | zero => rw [condQ] at hrun; cases hrun
  | succ f =>
    rw [condQ] at hrun
    obtain ⟨a, h1, h2⟩ := Option.map_eq_some_iff.1 hrun
    have hae : a.1.nds.length ≤ 9000 := by rw [← h2] at hend; exact hend
    have HR := hide h2
    have H1 := hide h1
    clear hrun h1 h2
    go_enter Tryz.func226, Tryz.ntmps226
    go_wp2_with fail
    refine (s_enter ⟨#[40]⟩ _ hL (by decide) h.ps).mono ?_
    rintro e w1 ⟨rfl, hp1, k1⟩
    go_wp2_with fail
    refine (s_value hL f a _ (h.kp hp1 k1) H1.out hae hlen).mono ?_
    rintro e w2 ⟨rfl, vV2, hb2, k2⟩
    go_wp2_with fail
    refine (s_leave ⟨#[41]⟩ _ hL (by decide) hb2.ps).mono ?_
    rintro e w3 ⟨rfl, hp3, k3⟩
    go_wp2_with fail
    go_end0
    exact ⟨rfl, vV2, by rw [← HR.out]; exact hb2.kp hp3 k3, ((k1.s S vV).trans k2).trans (k3.s S vV2)⟩

end Go.Proofs.YtmfcpbhdggonfaaGreatDoor
