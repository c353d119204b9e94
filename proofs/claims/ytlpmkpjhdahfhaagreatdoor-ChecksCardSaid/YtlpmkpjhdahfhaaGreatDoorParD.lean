/- Contracts of the program's parser: expressions. -/
import Derived.Test.YtlpmkpjhdahfhaaGreatDoorParB
import Derived.Test.YtlpmkpjhdahfhaaGreatDoorParC
import Derived.Deep.LoopGhost
namespace Go.Proofs.YtlpmkpjhdahfhaaGreatDoor
open Go.RowKit RR

def SaidExpr (B : Nat) (ao : Option Addr) (cap : Nat) (L : List Tk) (f : Nat) : Prop := ∀ (σ σ' : PSt) (vN vC : Value) (w : World), PS B ao cap L σ vN vC w → exprP L f σ = some σ' →
    Calls Tryz.prog 125 #[.pointer (some ⟨B, 0, none⟩)] w fun e w' => e = .returned (.tuple #[]) ∧ ∃ vN' vC', PS B ao cap L σ' vN' vC' w' ∧ Kp B w w'

def SaidTerm (B : Nat) (ao : Option Addr) (cap : Nat) (L : List Tk) (f : Nat) : Prop := ∀ (σ σ' : PSt) (vN vC : Value) (w : World), PS B ao cap L σ vN vC w → termP L f σ = some σ' →
    Calls Tryz.prog 130 #[.pointer (some ⟨B, 0, none⟩)] w fun e w' => e = .returned (.tuple #[]) ∧ ∃ vN' vC', PS B ao cap L σ' vN' vC' w' ∧ Kp B w w'

def SaidFactor (B : Nat) (ao : Option Addr) (cap : Nat) (L : List Tk) (f : Nat) : Prop := ∀ (σ σ' : PSt) (vN vC : Value) (w : World), PS B ao cap L σ vN vC w → factorP L f σ = some σ' →
    Calls Tryz.prog 134 #[.pointer (some ⟨B, 0, none⟩)] w fun e w' => e = .returned (.tuple #[]) ∧ ∃ vN' vC', PS B ao cap L σ' vN' vC' w' ∧ Kp B w w'

def SaidBrack (B : Nat) (ao : Option Addr) (cap : Nat) (L : List Tk) (f : Nat) : Prop := ∀ (σ σ' : PSt) (vN vC : Value) (w : World), PS B ao cap L σ vN vC w → bracketedP L f σ = some σ' →
    Calls Tryz.prog 124 #[.pointer (some ⟨B, 0, none⟩)] w fun e w' => e = .returned (.tuple #[]) ∧ ∃ vN' vC', PS B ao cap L σ' vN' vC' w' ∧ Kp B w w'

theorem bind_some {α β : Type} {o : Option α} {g : α → Option β} {b : β} (h : o.bind g = some b) : ∃ a, o = some a ∧ g a = some b := by
  cases o with
  | none => cases h
  | some a => exact ⟨a, rfl, h⟩

set_option maxRecDepth 100000 in
set_option maxHeartbeats 1000000 in
theorem s_expr {B : Nat} {ao : Option Addr} {cap : Nat} {L : List Tk} (hL : L.length ≤ 500) (f : Nat) (ih : Hid (∀ g, g ≤ f → SaidTerm B ao cap L g)) : SaidExpr B ao cap L (f + 1) := by
  intro σ σ' vN vC w h hrun
  rw [exprP_succ] at hrun
  obtain ⟨σ1, h1, h2⟩ := bind_some hrun
  have HR := hide h2
  have H1 := hide h1
  clear hrun h1 h2
  go_enter Tryz.func125, Tryz.ntmps125
  go_wp2_with fail
  refine (ih.out f (Nat.le_refl _) σ σ1 vN vC _ h H1.out).mono ?_
  rintro e w1 ⟨rfl, vN1, vC1, hp1, k1⟩
  go_wp2_with fail
  go_loopg [] f (fun g wr => ∃ (τ : PSt) (vN2 vC2 : Value), g ≤ f ∧ orP L g τ = some σ' ∧ PS B ao cap L τ vN2 vC2 wr ∧ Kp B w wr)
  case atStart => exact ⟨σ1, vN1, vC1, Nat.le_refl _, HR.out, hp1, k1⟩
  case round =>
    obtain ⟨τ, vN2, vC2, hg, hl, hp, kp⟩ := hrel
    cases gk with
    | zero => rw [orP_zero] at hl; cases hl
    | succ g =>
      rw [orP_succ] at hl
      cases hs : τ.sees L ⟨#[124]⟩
      · rw [hs] at hl
        have HL : Hid (τ = σ') := Option.some.inj hl
        clear hl
        go_wp2_with fail
        refine (s_accept ⟨#[124]⟩ _ hL (by decide) hp).mono ?_
        rintro e w2 ⟨rfl, hp2, k2⟩
        rw [hs] at hp2 ⊢
        go_wp2_with fail
        go_end0
        exact ⟨rfl, vN2, vC2, by rw [← HL.out]; exact hp2, kp.trans k2⟩
      · rw [hs] at hl
        obtain ⟨τ1, h1, h2⟩ := bind_some hl
        have HA := hide h1
        have HB := hide h2
        clear hl h1 h2
        go_wp2_with fail
        refine (s_accept ⟨#[124]⟩ _ hL (by decide) hp).mono ?_
        rintro e w2 ⟨rfl, hp2, k2⟩
        rw [hs] at hp2 ⊢
        go_wp2_with fail
        refine (ih.out g (by omega) τ.step τ1 vN2 vC2 _ hp2 HA.out).mono ?_
        rintro e w3 ⟨rfl, vN3, vC3, hp3, k3⟩
        go_wp2_with fail
        go_roundg g
        case measure => omega
        case rel => exact ⟨τ1, vN3, vC3, by omega, HB.out, hp3, (kp.trans k2).trans k3⟩

set_option maxRecDepth 100000 in
set_option maxHeartbeats 1000000 in
theorem s_term {B : Nat} {ao : Option Addr} {cap : Nat} {L : List Tk} (hL : L.length ≤ 500) (f : Nat) (ih : Hid (∀ g, g ≤ f → SaidFactor B ao cap L g)) : SaidTerm B ao cap L (f + 1) := by
  intro σ σ' vN vC w h hrun
  rw [termP_succ] at hrun
  obtain ⟨σ1, h1, h2⟩ := bind_some hrun
  have HR := hide h2
  have H1 := hide h1
  clear hrun h1 h2
  go_enter Tryz.func130, Tryz.ntmps130
  go_wp2_with fail
  refine (ih.out f (Nat.le_refl _) σ σ1 vN vC _ h H1.out).mono ?_
  rintro e w1 ⟨rfl, vN1, vC1, hp1, k1⟩
  go_wp2_with fail
  go_loopg [] f (fun g wr => ∃ (τ : PSt) (vN2 vC2 : Value), g ≤ f ∧ andP L g τ = some σ' ∧ PS B ao cap L τ vN2 vC2 wr ∧ Kp B w wr)
  case atStart => exact ⟨σ1, vN1, vC1, Nat.le_refl _, HR.out, hp1, k1⟩
  case round =>
    obtain ⟨τ, vN2, vC2, hg, hl, hp, kp⟩ := hrel
    cases gk with
    | zero => rw [andP_zero] at hl; cases hl
    | succ g =>
      rw [andP_succ] at hl
      cases hs : τ.sees L ⟨#[38]⟩
      · rw [hs] at hl
        have HL : Hid (τ = σ') := Option.some.inj hl
        clear hl
        go_wp2_with fail
        refine (s_accept ⟨#[38]⟩ _ hL (by decide) hp).mono ?_
        rintro e w2 ⟨rfl, hp2, k2⟩
        rw [hs] at hp2 ⊢
        go_wp2_with fail
        go_end0
        exact ⟨rfl, vN2, vC2, by rw [← HL.out]; exact hp2, kp.trans k2⟩
      · rw [hs] at hl
        obtain ⟨τ1, h1, h2⟩ := bind_some hl
        have HA := hide h1
        have HB := hide h2
        clear hl h1 h2
        go_wp2_with fail
        refine (s_accept ⟨#[38]⟩ _ hL (by decide) hp).mono ?_
        rintro e w2 ⟨rfl, hp2, k2⟩
        rw [hs] at hp2 ⊢
        go_wp2_with fail
        refine (ih.out g (by omega) τ.step τ1 vN2 vC2 _ hp2 HA.out).mono ?_
        rintro e w3 ⟨rfl, vN3, vC3, hp3, k3⟩
        go_wp2_with fail
        go_roundg g
        case measure => omega
        case rel => exact ⟨τ1, vN3, vC3, by omega, HB.out, hp3, (kp.trans k2).trans k3⟩

set_option maxRecDepth 100000 in
set_option maxHeartbeats 1000000 in
theorem s_brack {B : Nat} {ao : Option Addr} {cap : Nat} {L : List Tk} (hL : L.length ≤ 500) (f : Nat) (ih : Hid (SaidExpr B ao cap L f)) : SaidBrack B ao cap L (f + 1) := by
  intro σ σ' vN vC w h hrun
  rw [bracketedP_succ] at hrun
  obtain ⟨σ1, h1, h2⟩ := Option.map_eq_some_iff.1 hrun
  have HR := hide h2
  have H1 := hide h1
  clear hrun h1 h2
  go_enter Tryz.func124, Tryz.ntmps124
  go_wp2_with fail
  refine (s_enter ⟨#[40]⟩ _ hL (by decide) h).mono ?_
  rintro e w1 ⟨rfl, hp1, k1⟩
  go_wp2_with fail
  refine (ih.out _ σ1 _ _ _ hp1 H1.out).mono ?_
  rintro e w2 ⟨rfl, vN2, vC2, hp2, k2⟩
  go_wp2_with fail
  refine (s_leave ⟨#[41]⟩ _ hL (by decide) hp2).mono ?_
  rintro e w3 ⟨rfl, hp3, k3⟩
  go_wp2_with fail
  go_end0
  exact ⟨rfl, vN2, vC2, by rw [← HR.out]; exact hp3, (k1.trans k2).trans k3⟩

set_option maxRecDepth 100000 in
set_option maxHeartbeats 2000000 in
theorem s_factor {B : Nat} {ao : Option Addr} {cap : Nat} {L : List Tk} (hL : L.length ≤ 500) (f : Nat) (ih : Hid (SaidBrack B ao cap L f)) : SaidFactor B ao cap L (f + 1) := by
  intro σ σ' vN vC w h hrun
  rw [factorP_succ] at hrun
  obtain ⟨σ1, h1, h2⟩ := bind_some hrun
  have HB := hide h2
  have H1 := hide h1
  clear hrun h1 h2
  go_enter Tryz.func134, Tryz.ntmps134
  go_wp2_with fail
  go_loopg [] f (fun g wr => ∃ (τ : PSt) (vN2 vC2 : Value), notsP L g τ = some σ1 ∧ PS B ao cap L τ vN2 vC2 wr ∧ Kp B w wr)
  case atStart => exact ⟨σ, vN, vC, H1.out, h, Kp.refl _ _⟩
  case round =>
    obtain ⟨τ, vN2, vC2, hl, hp, kp⟩ := hrel
    cases gk with
    | zero => rw [notsP] at hl; cases hl
    | succ g =>
      rw [notsP] at hl
      cases hs : τ.sees L ⟨#[33]⟩
      · rw [hs] at hl
        have hl2 : σ1 = τ := (Option.some.inj hl).symm
        subst hl2
        clear hl H1
        by_cases e0 : (σ1.ahead L 0).t = ⟨#[40]⟩
        · have z0 : ((σ1.ahead L 0).t.toList == [40]) = true := by rw [e0, bl]; rfl
          have HB2 : Hid (bracketedP L f σ1 = some σ') := by show _ = _; have h := HB.out; rw [if_pos e0] at h; exact h
          clear e0
          go_wp2_with fail
          refine (s_sees ⟨#[33]⟩ _ hL hp).mono ?_
          rintro e w2 ⟨rfl, hb2⟩
          rw [hs]
          have hp2 := hp.below hb2
          have k2 := kp.trans (Kp.of_below hb2 (Nat.le_of_lt hp.lt))
          clear hb2
          go_wp2_with fail
          refine (s_ahead 0 _ hL (by omega) hp2).mono ?_
          rintro e w3 ⟨rfl, hb3⟩
          have hp3 := fun ob => hp2.below (hb3.alloc hb3.size ob)
          have k3 := fun ob => k2.trans (Kp.of_below (hb3.alloc hb3.size ob) (Nat.le_of_lt hp2.lt))
          have hz3 := hb3.size
          clear hb3
          go_wp2_with fail
          refine (ih.out σ1 σ' _ _ _ (hp3 _) HB2.out).mono ?_
          rintro e w4 ⟨rfl, vN4, vC4, hp4, k4⟩
          go_wp2_with fail
          go_end0
          exact ⟨rfl, vN4, vC4, hp4, (k3 _).trans k4⟩
        by_cases e1 : (σ1.ahead L 0).t = ⟨#[116, 114, 117, 101]⟩
        · have z0 : ((σ1.ahead L 0).t.toList == [40]) = false := lit_ne e0 (by rw [bl])
          have z1 : ((σ1.ahead L 0).t.toList == [116, 114, 117, 101]) = true := by rw [e1, bl]; rfl
          have HB2 : Hid (σ1.take L (σ1.ahead L 0).t = σ') := by show _ = _; have h := HB.out; rw [if_neg e0, if_pos (.inl e1)] at h; exact Option.some.inj h
          have hne : (σ1.ahead L 0).t ≠ ⟨#[]⟩ := by rw [e1]; decide
          clear e0 e1
          go_wp2_with fail
          refine (s_sees ⟨#[33]⟩ _ hL hp).mono ?_
          rintro e w2 ⟨rfl, hb2⟩
          rw [hs]
          have hp2 := hp.below hb2
          have k2 := kp.trans (Kp.of_below hb2 (Nat.le_of_lt hp.lt))
          clear hb2
          go_wp2_with fail
          refine (s_ahead 0 _ hL (by omega) hp2).mono ?_
          rintro e w3 ⟨rfl, hb3⟩
          have hp3 := fun ob => hp2.below (hb3.alloc hb3.size ob)
          have k3 := fun ob => k2.trans (Kp.of_below (hb3.alloc hb3.size ob) (Nat.le_of_lt hp2.lt))
          have hz3 := hb3.size
          clear hb3
          go_wp2_with fail
          refine (s_take _ _ hL hne (hp3 _)).mono ?_
          rintro e w4 ⟨rfl, hp4, k4⟩
          go_wp2_with fail
          go_end0
          exact ⟨rfl, vN2, vC2, by rw [← HB2.out]; exact hp4, (k3 _).trans k4⟩
        by_cases e2 : (σ1.ahead L 0).t = ⟨#[102, 97, 108, 115, 101]⟩
        · have z0 : ((σ1.ahead L 0).t.toList == [40]) = false := lit_ne e0 (by rw [bl])
          have z1 : ((σ1.ahead L 0).t.toList == [116, 114, 117, 101]) = false := lit_ne e1 (by rw [bl])
          have z2 : ((σ1.ahead L 0).t.toList == [102, 97, 108, 115, 101]) = true := by rw [e2, bl]; rfl
          have HB2 : Hid (σ1.take L (σ1.ahead L 0).t = σ') := by show _ = _; have h := HB.out; rw [if_neg e0, if_pos (.inr (.inl e2))] at h; exact Option.some.inj h
          have hne : (σ1.ahead L 0).t ≠ ⟨#[]⟩ := by rw [e2]; decide
          clear e0 e1 e2
          go_wp2_with fail
          refine (s_sees ⟨#[33]⟩ _ hL hp).mono ?_
          rintro e w2 ⟨rfl, hb2⟩
          rw [hs]
          have hp2 := hp.below hb2
          have k2 := kp.trans (Kp.of_below hb2 (Nat.le_of_lt hp.lt))
          clear hb2
          go_wp2_with fail
          refine (s_ahead 0 _ hL (by omega) hp2).mono ?_
          rintro e w3 ⟨rfl, hb3⟩
          have hp3 := fun ob => hp2.below (hb3.alloc hb3.size ob)
          have k3 := fun ob => k2.trans (Kp.of_below (hb3.alloc hb3.size ob) (Nat.le_of_lt hp2.lt))
          have hz3 := hb3.size
          clear hb3
          go_wp2_with fail
          refine (s_take _ _ hL hne (hp3 _)).mono ?_
          rintro e w4 ⟨rfl, hp4, k4⟩
          go_wp2_with fail
          go_end0
          exact ⟨rfl, vN2, vC2, by rw [← HB2.out]; exact hp4, (k3 _).trans k4⟩
        by_cases e3 : (σ1.ahead L 0).t = ⟨#[63]⟩
        · have z0 : ((σ1.ahead L 0).t.toList == [40]) = false := lit_ne e0 (by rw [bl])
          have z1 : ((σ1.ahead L 0).t.toList == [116, 114, 117, 101]) = false := lit_ne e1 (by rw [bl])
          have z2 : ((σ1.ahead L 0).t.toList == [102, 97, 108, 115, 101]) = false := lit_ne e2 (by rw [bl])
          have z3 : ((σ1.ahead L 0).t.toList == [63]) = true := by rw [e3, bl]; rfl
          have HB2 : Hid (σ1.take L (σ1.ahead L 0).t = σ') := by show _ = _; have h := HB.out; rw [if_neg e0, if_pos (.inr (.inr e3))] at h; exact Option.some.inj h
          have hne : (σ1.ahead L 0).t ≠ ⟨#[]⟩ := by rw [e3]; decide
          clear e0 e1 e2 e3
          go_wp2_with fail
          refine (s_sees ⟨#[33]⟩ _ hL hp).mono ?_
          rintro e w2 ⟨rfl, hb2⟩
          rw [hs]
          have hp2 := hp.below hb2
          have k2 := kp.trans (Kp.of_below hb2 (Nat.le_of_lt hp.lt))
          clear hb2
          go_wp2_with fail
          refine (s_ahead 0 _ hL (by omega) hp2).mono ?_
          rintro e w3 ⟨rfl, hb3⟩
          have hp3 := fun ob => hp2.below (hb3.alloc hb3.size ob)
          have k3 := fun ob => k2.trans (Kp.of_below (hb3.alloc hb3.size ob) (Nat.le_of_lt hp2.lt))
          have hz3 := hb3.size
          clear hb3
          go_wp2_with fail
          refine (s_take _ _ hL hne (hp3 _)).mono ?_
          rintro e w4 ⟨rfl, hp4, k4⟩
          go_wp2_with fail
          go_end0
          exact ⟨rfl, vN2, vC2, by rw [← HB2.out]; exact hp4, (k3 _).trans k4⟩
        have z0 : ((σ1.ahead L 0).t.toList == [40]) = false := lit_ne e0 (by rw [bl])
        have z1 : ((σ1.ahead L 0).t.toList == [116, 114, 117, 101]) = false := lit_ne e1 (by rw [bl])
        have z2 : ((σ1.ahead L 0).t.toList == [102, 97, 108, 115, 101]) = false := lit_ne e2 (by rw [bl])
        have z3 : ((σ1.ahead L 0).t.toList == [63]) = false := lit_ne e3 (by rw [bl])
        have HB2 : Hid (σ1.takeName L 4 = σ') := by show _ = _; have h := HB.out; rw [if_neg e0, if_neg (fun h => h.elim e1 (fun h => h.elim e2 e3))] at h; exact Option.some.inj h
        clear e0 e1 e2 e3
        go_wp2_with fail
        refine (s_sees ⟨#[33]⟩ _ hL hp).mono ?_
        rintro e w2 ⟨rfl, hb2⟩
        rw [hs]
        have hp2 := hp.below hb2
        have k2 := kp.trans (Kp.of_below hb2 (Nat.le_of_lt hp.lt))
        clear hb2
        go_wp2_with fail
        refine (s_ahead 0 _ hL (by omega) hp2).mono ?_
        rintro e w3 ⟨rfl, hb3⟩
        have hp3 := fun ob => hp2.below (hb3.alloc hb3.size ob)
        have k3 := fun ob => k2.trans (Kp.of_below (hb3.alloc hb3.size ob) (Nat.le_of_lt hp2.lt))
        have hz3 := hb3.size
        clear hb3
        go_wp2_with fail
        refine (s_takeName 4 _ hL (hp3 _)).mono ?_
        rintro e w4 ⟨rfl, vN4, hp4, k4⟩
        go_wp2_with fail
        go_end0
        exact ⟨rfl, vN4, vC2, by rw [← HB2.out]; exact hp4, (k3 _).trans k4⟩
      · rw [hs] at hl
        have HA : Hid (notsP L g (τ.take L ⟨#[33]⟩) = some σ1) := hl
        clear hl
        go_wp2_with fail
        refine (s_sees ⟨#[33]⟩ _ hL hp).mono ?_
        rintro e w2 ⟨rfl, hb2⟩
        rw [hs]
        have hp2 := hp.below hb2
        have k2 := kp.trans (Kp.of_below hb2 (Nat.le_of_lt hp.lt))
        clear hb2
        go_wp2_with fail
        refine (s_take ⟨#[33]⟩ _ hL (by decide) hp2).mono ?_
        rintro e w3 ⟨rfl, hp3, k3⟩
        go_wp2_with fail
        go_roundg g
        case measure => omega
        case rel => exact ⟨τ.take L ⟨#[33]⟩, vN2, vC2, HA.out, hp3, k2.trans k3⟩

/-- All of it, by the fuel. -/
theorem s_exprs {B : Nat} {ao : Option Addr} {cap : Nat} {L : List Tk} (hL : L.length ≤ 500) : ∀ f, (∀ g, g ≤ f → SaidExpr B ao cap L g) ∧ (∀ g, g ≤ f → SaidTerm B ao cap L g) ∧ (∀ g, g ≤ f → SaidFactor B ao cap L g) ∧ (∀ g, g ≤ f → SaidBrack B ao cap L g) := by
  intro f
  induction f with
  | zero =>
    refine ⟨fun g hg => ?_, fun g hg => ?_, fun g hg => ?_, fun g hg => ?_⟩ <;> (have : g = 0 := by omega) <;> subst this <;> intro σ σ' vN vC w h hrun
    · rw [exprP_zero] at hrun; cases hrun
    · rw [termP_zero] at hrun; cases hrun
    · rw [factorP_zero] at hrun; cases hrun
    · rw [bracketedP_zero] at hrun; cases hrun
  | succ f ih =>
    obtain ⟨i1, i2, i3, i4⟩ := ih
    refine ⟨fun g hg => ?_, fun g hg => ?_, fun g hg => ?_, fun g hg => ?_⟩
    · by_cases e : g = f + 1
      · subst e; exact s_expr hL f (hide i2)
      · exact i1 g (by omega)
    · by_cases e : g = f + 1
      · subst e; exact s_term hL f (hide i3)
      · exact i2 g (by omega)
    · by_cases e : g = f + 1
      · subst e; exact s_factor hL f (hide (i4 f (Nat.le_refl _)))
      · exact i3 g (by omega)
    · by_cases e : g = f + 1
      · subst e; exact s_brack hL f (hide (i1 f (Nat.le_refl _)))
      · exact i4 g (by omega)

end Go.Proofs.YtlpmkpjhdahfhaaGreatDoor
