/- Contracts of the program's parser: blocks. -/
import Derived.Test.YtlpmkpjhdahfhaaGreatDoorParG
namespace Go.Proofs.YtlpmkpjhdahfhaaGreatDoor
open Go.RowKit RR

def SaidBlock (B : Nat) (ao : Option Addr) (cap : Nat) (L : List Tk) (f : Nat) : Prop := ∀ (σ σ' : PSt) (vN vC : Value) (w : World), PS B ao cap L σ vN vC w → blockP L f σ = some σ' →
    Calls Tryz.prog 108 #[.pointer (some ⟨B, 0, none⟩)] w fun e w' => e = .returned (.tuple #[]) ∧ ∃ vN' vC', PS B ao cap L σ' vN' vC' w' ∧ Kp B w w'

def SaidStmt (B : Nat) (ao : Option Addr) (cap : Nat) (L : List Tk) (f : Nat) : Prop := ∀ (σ σ' : PSt) (vN vC : Value) (w : World), PS B ao cap L σ vN vC w → statementP L f σ = some σ' →
    Calls Tryz.prog 117 #[.pointer (some ⟨B, 0, none⟩)] w fun e w' => e = .returned (.tuple #[]) ∧ ∃ vN' vC', PS B ao cap L σ' vN' vC' w' ∧ Kp B w w'

def SaidBranch (B : Nat) (ao : Option Addr) (cap : Nat) (L : List Tk) (f : Nat) : Prop := ∀ (σ σ' : PSt) (vN vC : Value) (w : World), PS B ao cap L σ vN vC w → branchP L f σ = some σ' →
    Calls Tryz.prog 123 #[.pointer (some ⟨B, 0, none⟩)] w fun e w' => e = .returned (.tuple #[]) ∧ ∃ vN' vC', PS B ao cap L σ' vN' vC' w' ∧ Kp B w w'

set_option maxRecDepth 100000 in
set_option maxHeartbeats 1000000 in
theorem s_block {B : Nat} {ao : Option Addr} {cap : Nat} {L : List Tk} (hL : L.length ≤ 500) (f : Nat) (ih : Hid (∀ g, g ≤ f → SaidStmt B ao cap L g)) : SaidBlock B ao cap L (f + 1) := by
  intro σ σ' vN vC w h hrun
  rw [blockP_succ] at hrun
  obtain ⟨τ0, h1, h2⟩ := Option.map_eq_some_iff.1 hrun
  have HT := hide h2
  have H1 := hide h1
  clear hrun h1 h2
  go_enter Tryz.func108, Tryz.ntmps108
  go_wp2_with fail
  refine (s_enter ⟨#[123]⟩ _ hL (by decide) h).mono ?_
  rintro e w1 ⟨rfl, hp1, k1⟩
  go_wp2_with fail
  go_loopg [] f (fun g wr => ∃ (τ : PSt) (vN2 vC2 : Value), g ≤ f ∧ stmtsP L g τ = some τ0 ∧ PS B ao cap L τ vN2 vC2 wr ∧ Kp B w wr)
  case atStart => exact ⟨_, vN, vC, Nat.le_refl _, H1.out, hp1, k1⟩
  case round =>
    obtain ⟨τ, vN2, vC2, hg, hl, hp, kp⟩ := hrel
    obtain ⟨c0, c1, c2, c3, c4, c5, c6, hf⟩ := hp.cells
    clear hf H1 k1 hp1
    cases gk with
    | zero => rw [stmtsP_zero] at hl; cases hl
    | succ g =>
      rw [stmtsP_succ] at hl
      cases hfl : τ.failed
      · rw [hfl] at c4
        cases hs : τ.sees L ⟨#[125]⟩
        · rw [if_pos ⟨hfl, hs⟩] at hl
          obtain ⟨τ1, h3, h4⟩ := bind_some hl
          have HA := hide h3
          have HB := hide h4
          clear hl h3 h4
          go_wp2_with fail
          refine (s_sees ⟨#[125]⟩ _ hL hp).mono ?_
          rintro e w2 ⟨rfl, hb2⟩
          rw [hs]
          have hp2 := hp.below hb2
          have k2 := kp.trans (Kp.of_below hb2 (Nat.le_of_lt hp.lt))
          clear hb2
          go_wp2_with fail
          refine (ih.out g (by omega) τ τ1 _ _ _ hp2 HA.out).mono ?_
          rintro e w3 ⟨rfl, vN3, vC3, hp3, k3⟩
          go_wp2_with fail
          go_roundg g
          case measure => omega
          case rel => exact ⟨τ1, vN3, vC3, by omega, HB.out, hp3, k2.trans k3⟩
        · rw [if_neg (by rw [hs]; simp)] at hl
          have HL : Hid (τ = τ0) := Option.some.inj hl
          clear hl
          go_wp2_with fail
          refine (s_sees ⟨#[125]⟩ _ hL hp).mono ?_
          rintro e w2 ⟨rfl, hb2⟩
          rw [hs]
          have hp2 := hp.below hb2
          have k2 := kp.trans (Kp.of_below hb2 (Nat.le_of_lt hp.lt))
          clear hb2
          go_wp2_with fail
          refine (s_leave ⟨#[125]⟩ _ hL (by decide) hp2).mono ?_
          rintro e w3 ⟨rfl, hp3, k3⟩
          go_wp2_with fail
          go_end0
          exact ⟨rfl, vN2, vC2, by rw [← HT.out, ← HL.out]; exact hp3, k2.trans k3⟩
      · rw [hfl] at c4
        rw [if_neg (by rw [hfl]; simp)] at hl
        have HL : Hid (τ = τ0) := Option.some.inj hl
        clear hl
        go_wp2_with fail
        refine (s_leave ⟨#[125]⟩ _ hL (by decide) hp).mono ?_
        rintro e w3 ⟨rfl, hp3, k3⟩
        go_wp2_with fail
        go_end0
        exact ⟨rfl, vN2, vC2, by rw [← HT.out, ← HL.out]; exact hp3, kp.trans k3⟩

set_option maxRecDepth 100000 in
set_option maxHeartbeats 1000000 in
theorem s_branch {B : Nat} {ao : Option Addr} {cap : Nat} {L : List Tk} (hL : L.length ≤ 500) (f : Nat) (ih : Hid (SaidBlock B ao cap L f)) : SaidBranch B ao cap L (f + 1) := by
  intro σ σ' vN vC w h hrun
  have ihb := hide ((s_exprs (B := B) (ao := ao) (cap := cap) hL f).2.2.2 f (Nat.le_refl _))
  rw [branchP_succ] at hrun
  obtain ⟨a, h1, h2⟩ := bind_some hrun
  obtain ⟨b, h3, h4⟩ := bind_some h2
  have HA := hide h1
  have HB := hide h3
  clear hrun h1 h2 h3
  go_enter Tryz.func123, Tryz.ntmps123
  go_wp2_with fail
  refine (s_take ⟨#[105, 102]⟩ _ hL (by decide) h).mono ?_
  rintro e w1 ⟨rfl, hp1, k1⟩
  go_wp2_with fail
  refine (ihb.out _ a _ _ _ hp1 HA.out).mono ?_
  rintro e w2 ⟨rfl, vN2, vC2, hp2, k2⟩
  go_wp2_with fail
  refine (ih.out a b _ _ _ hp2 HB.out).mono ?_
  rintro e w3 ⟨rfl, vN3, vC3, hp3, k3⟩
  have kk := (k1.trans k2).trans k3
  clear hp1 hp2 k1 k2 k3
  cases hs : b.sees L ⟨#[101, 108, 115, 101]⟩
  · rw [hs] at h4
    have HL : Hid (b = σ') := Option.some.inj h4
    clear h4
    go_wp2_with fail
    refine (s_accept ⟨#[101, 108, 115, 101]⟩ _ hL (by decide) hp3).mono ?_
    rintro e w4 ⟨rfl, hp4, k4⟩
    rw [hs] at hp4 ⊢
    go_wp2_with fail
    go_end0
    exact ⟨rfl, vN3, vC3, by rw [← HL.out]; exact hp4, kk.trans k4⟩
  · rw [hs] at h4
    have HL : Hid (blockP L f b.step = some σ') := h4
    clear h4
    go_wp2_with fail
    refine (s_accept ⟨#[101, 108, 115, 101]⟩ _ hL (by decide) hp3).mono ?_
    rintro e w4 ⟨rfl, hp4, k4⟩
    rw [hs] at hp4 ⊢
    go_wp2_with fail
    refine (ih.out b.step σ' _ _ _ hp4 HL.out).mono ?_
    rintro e w5 ⟨rfl, vN5, vC5, hp5, k5⟩
    go_wp2_with fail
    go_end0
    exact ⟨rfl, vN5, vC5, hp5, (kk.trans k4).trans k5⟩

set_option maxRecDepth 100000 in
set_option maxHeartbeats 4000000 in
theorem s_stmt {B : Nat} {ao : Option Addr} {cap : Nat} {L : List Tk} (hL : L.length ≤ 500) (f : Nat) (ihb : Hid (SaidBlock B ao cap L f)) (ihr : Hid (SaidBranch B ao cap L f)) : SaidStmt B ao cap L (f + 1) := by
  intro σ σ' vN vC w h hrun
  have ihe := hide ((s_exprs (B := B) (ao := ao) (cap := cap) hL f).1 f (Nat.le_refl _))
  have ihk := hide ((s_exprs (B := B) (ao := ao) (cap := cap) hL f).2.2.2 f (Nat.le_refl _))
  rw [statementP_succ] at hrun
  by_cases e0 : (σ.ahead L 0).t = ⟨#[105, 102]⟩
  · have z0 : ((σ.ahead L 0).t.toList == [105, 102]) = true := by rw [e0, bl]; rfl
    rw [if_pos e0] at hrun
    have HR : Hid (branchP L f σ = some σ') := hrun
    clear hrun e0
    go_enter Tryz.func117, Tryz.ntmps117
    go_wp2_with fail
    refine (s_ahead 0 _ hL (by omega) h).mono ?_
    rintro e w1 ⟨rfl, hb1⟩
    have hp1 := fun ob => h.below (hb1.alloc hb1.size ob)
    have k1 := fun ob => Kp.of_below (hb1.alloc hb1.size ob) (Nat.le_of_lt h.lt)
    have hz1 := hb1.size
    clear hb1
    go_wp2_with fail
    refine (ihr.out σ σ' _ _ _ (hp1 _) HR.out).mono ?_
    rintro e w2 ⟨rfl, vN2, vC2, hp2, k2⟩
    go_wp2_with fail
    go_end0
    exact ⟨rfl, vN2, vC2, hp2, (k1 _).trans k2⟩
  by_cases e1 : (σ.ahead L 0).t = ⟨#[119, 104, 105, 108, 101]⟩
  · have z0 : ((σ.ahead L 0).t.toList == [105, 102]) = false := lit_ne e0 (by rw [bl])
    have z1 : ((σ.ahead L 0).t.toList == [119, 104, 105, 108, 101]) = true := by rw [e1, bl]; rfl
    rw [if_neg e0, if_pos e1] at hrun
    obtain ⟨a, h3, h4⟩ := bind_some hrun
    have HA := hide h3
    have HR := hide h4
    clear h3 h4
    clear hrun e0 e1
    go_enter Tryz.func117, Tryz.ntmps117
    go_wp2_with fail
    refine (s_ahead 0 _ hL (by omega) h).mono ?_
    rintro e w1 ⟨rfl, hb1⟩
    have hp1 := fun ob => h.below (hb1.alloc hb1.size ob)
    have k1 := fun ob => Kp.of_below (hb1.alloc hb1.size ob) (Nat.le_of_lt h.lt)
    have hz1 := hb1.size
    clear hb1
    go_wp2_with fail
    refine (s_take ⟨#[119, 104, 105, 108, 101]⟩ _ hL (by decide) (hp1 _)).mono ?_
    rintro e w2 ⟨rfl, hp2, k2⟩
    go_wp2_with fail
    refine (ihk.out _ a _ _ _ hp2 HA.out).mono ?_
    rintro e w3 ⟨rfl, vN3, vC3, hp3, k3⟩
    go_wp2_with fail
    refine (ihb.out a σ' _ _ _ hp3 HR.out).mono ?_
    rintro e w4 ⟨rfl, vN4, vC4, hp4, k4⟩
    go_wp2_with fail
    go_end0
    exact ⟨rfl, vN4, vC4, hp4, (((k1 _).trans k2).trans k3).trans k4⟩
  by_cases e2 : (σ.ahead L 0).t = ⟨#[97, 115, 115, 117, 109, 101]⟩
  · have z0 : ((σ.ahead L 0).t.toList == [105, 102]) = false := lit_ne e0 (by rw [bl])
    have z1 : ((σ.ahead L 0).t.toList == [119, 104, 105, 108, 101]) = false := lit_ne e1 (by rw [bl])
    have z2 : ((σ.ahead L 0).t.toList == [97, 115, 115, 117, 109, 101]) = true := by rw [e2, bl]; rfl
    rw [if_neg e0, if_neg e1, if_pos e2] at hrun
    obtain ⟨a, h3, h4⟩ := Option.map_eq_some_iff.1 hrun
    have HA := hide h3
    have HR := hide h4
    clear h3 h4
    clear hrun e0 e1 e2
    go_enter Tryz.func117, Tryz.ntmps117
    go_wp2_with fail
    refine (s_ahead 0 _ hL (by omega) h).mono ?_
    rintro e w1 ⟨rfl, hb1⟩
    have hp1 := fun ob => h.below (hb1.alloc hb1.size ob)
    have k1 := fun ob => Kp.of_below (hb1.alloc hb1.size ob) (Nat.le_of_lt h.lt)
    have hz1 := hb1.size
    clear hb1
    go_wp2_with fail
    refine (s_take ⟨#[97, 115, 115, 117, 109, 101]⟩ _ hL (by decide) (hp1 _)).mono ?_
    rintro e w2 ⟨rfl, hp2, k2⟩
    go_wp2_with fail
    refine (ihe.out _ a _ _ _ hp2 HA.out).mono ?_
    rintro e w3 ⟨rfl, vN3, vC3, hp3, k3⟩
    go_wp2_with fail
    refine (s_take ⟨#[59]⟩ _ hL (by decide) hp3).mono ?_
    rintro e w4 ⟨rfl, hp4, k4⟩
    go_wp2_with fail
    go_end0
    exact ⟨rfl, vN3, vC3, by rw [← HR.out]; exact hp4, (((k1 _).trans k2).trans k3).trans k4⟩
  by_cases e3 : (σ.ahead L 0).t = ⟨#[97, 99, 113, 117, 105, 114, 101]⟩
  · have z0 : ((σ.ahead L 0).t.toList == [105, 102]) = false := lit_ne e0 (by rw [bl])
    have z1 : ((σ.ahead L 0).t.toList == [119, 104, 105, 108, 101]) = false := lit_ne e1 (by rw [bl])
    have z2 : ((σ.ahead L 0).t.toList == [97, 115, 115, 117, 109, 101]) = false := lit_ne e2 (by rw [bl])
    have z3 : ((σ.ahead L 0).t.toList == [97, 99, 113, 117, 105, 114, 101]) = true := by rw [e3, bl]; rfl
    rw [if_neg e0, if_neg e1, if_neg e2, if_pos (.inl e3)] at hrun
    have HR : Hid (((σ.take L (σ.ahead L 0).t).takeName L 5).take L ⟨#[59]⟩ = σ') := Option.some.inj hrun
    have hne : (σ.ahead L 0).t ≠ ⟨#[]⟩ := by rw [e3]; decide
    clear hrun e0 e1 e2 e3
    go_enter Tryz.func117, Tryz.ntmps117
    go_wp2_with fail
    refine (s_ahead 0 _ hL (by omega) h).mono ?_
    rintro e w1 ⟨rfl, hb1⟩
    have hp1 := fun ob => h.below (hb1.alloc hb1.size ob)
    have k1 := fun ob => Kp.of_below (hb1.alloc hb1.size ob) (Nat.le_of_lt h.lt)
    have hz1 := hb1.size
    clear hb1
    go_wp2_with fail
    refine (s_take _ _ hL hne (hp1 _)).mono ?_
    rintro e w2 ⟨rfl, hp2, k2⟩
    go_wp2_with fail
    refine (s_takeName 5 _ hL hp2).mono ?_
    rintro e w3 ⟨rfl, vN3, hp3, k3⟩
    go_wp2_with fail
    refine (s_take ⟨#[59]⟩ _ hL (by decide) hp3).mono ?_
    rintro e w4 ⟨rfl, hp4, k4⟩
    go_wp2_with fail
    go_end0
    exact ⟨rfl, vN3, vC, by rw [← HR.out]; exact hp4, (((k1 _).trans k2).trans k3).trans k4⟩
  by_cases e4 : (σ.ahead L 0).t = ⟨#[114, 101, 108, 101, 97, 115, 101]⟩
  · have z0 : ((σ.ahead L 0).t.toList == [105, 102]) = false := lit_ne e0 (by rw [bl])
    have z1 : ((σ.ahead L 0).t.toList == [119, 104, 105, 108, 101]) = false := lit_ne e1 (by rw [bl])
    have z2 : ((σ.ahead L 0).t.toList == [97, 115, 115, 117, 109, 101]) = false := lit_ne e2 (by rw [bl])
    have z3 : ((σ.ahead L 0).t.toList == [97, 99, 113, 117, 105, 114, 101]) = false := lit_ne e3 (by rw [bl])
    have z4 : ((σ.ahead L 0).t.toList == [114, 101, 108, 101, 97, 115, 101]) = true := by rw [e4, bl]; rfl
    rw [if_neg e0, if_neg e1, if_neg e2, if_pos (.inr e4)] at hrun
    have HR : Hid (((σ.take L (σ.ahead L 0).t).takeName L 5).take L ⟨#[59]⟩ = σ') := Option.some.inj hrun
    have hne : (σ.ahead L 0).t ≠ ⟨#[]⟩ := by rw [e4]; decide
    clear hrun e0 e1 e2 e3 e4
    go_enter Tryz.func117, Tryz.ntmps117
    go_wp2_with fail
    refine (s_ahead 0 _ hL (by omega) h).mono ?_
    rintro e w1 ⟨rfl, hb1⟩
    have hp1 := fun ob => h.below (hb1.alloc hb1.size ob)
    have k1 := fun ob => Kp.of_below (hb1.alloc hb1.size ob) (Nat.le_of_lt h.lt)
    have hz1 := hb1.size
    clear hb1
    go_wp2_with fail
    refine (s_take _ _ hL hne (hp1 _)).mono ?_
    rintro e w2 ⟨rfl, hp2, k2⟩
    go_wp2_with fail
    refine (s_takeName 5 _ hL hp2).mono ?_
    rintro e w3 ⟨rfl, vN3, hp3, k3⟩
    go_wp2_with fail
    refine (s_take ⟨#[59]⟩ _ hL (by decide) hp3).mono ?_
    rintro e w4 ⟨rfl, hp4, k4⟩
    go_wp2_with fail
    go_end0
    exact ⟨rfl, vN3, vC, by rw [← HR.out]; exact hp4, (((k1 _).trans k2).trans k3).trans k4⟩
  by_cases e5 : (σ.ahead L 0).t = ⟨#[114, 101, 116, 117, 114, 110]⟩
  · have z0 : ((σ.ahead L 0).t.toList == [105, 102]) = false := lit_ne e0 (by rw [bl])
    have z1 : ((σ.ahead L 0).t.toList == [119, 104, 105, 108, 101]) = false := lit_ne e1 (by rw [bl])
    have z2 : ((σ.ahead L 0).t.toList == [97, 115, 115, 117, 109, 101]) = false := lit_ne e2 (by rw [bl])
    have z3 : ((σ.ahead L 0).t.toList == [97, 99, 113, 117, 105, 114, 101]) = false := lit_ne e3 (by rw [bl])
    have z4 : ((σ.ahead L 0).t.toList == [114, 101, 108, 101, 97, 115, 101]) = false := lit_ne e4 (by rw [bl])
    have z5 : ((σ.ahead L 0).t.toList == [114, 101, 116, 117, 114, 110]) = true := by rw [e5, bl]; rfl
    rw [if_neg e0, if_neg e1, if_neg e2, if_neg (fun h => h.elim e3 e4), if_pos e5] at hrun
    have HR : Hid (giveBackP L f σ = some σ') := hrun
    clear hrun e0 e1 e2 e3 e4 e5
    go_enter Tryz.func117, Tryz.ntmps117
    go_wp2_with fail
    refine (s_ahead 0 _ hL (by omega) h).mono ?_
    rintro e w1 ⟨rfl, hb1⟩
    have hp1 := fun ob => h.below (hb1.alloc hb1.size ob)
    have k1 := fun ob => Kp.of_below (hb1.alloc hb1.size ob) (Nat.le_of_lt h.lt)
    have hz1 := hb1.size
    clear hb1
    go_wp2_with fail
    refine (s_giveBack hL f σ σ' _ _ _ (hp1 _) HR.out).mono ?_
    rintro e w2 ⟨rfl, vN2, vC2, hp2, k2⟩
    go_wp2_with fail
    go_end0
    exact ⟨rfl, vN2, vC2, hp2, (k1 _).trans k2⟩
  by_cases e6 : (σ.ahead L 0).t = ⟨#[115, 107, 105, 112]⟩
  · have z0 : ((σ.ahead L 0).t.toList == [105, 102]) = false := lit_ne e0 (by rw [bl])
    have z1 : ((σ.ahead L 0).t.toList == [119, 104, 105, 108, 101]) = false := lit_ne e1 (by rw [bl])
    have z2 : ((σ.ahead L 0).t.toList == [97, 115, 115, 117, 109, 101]) = false := lit_ne e2 (by rw [bl])
    have z3 : ((σ.ahead L 0).t.toList == [97, 99, 113, 117, 105, 114, 101]) = false := lit_ne e3 (by rw [bl])
    have z4 : ((σ.ahead L 0).t.toList == [114, 101, 108, 101, 97, 115, 101]) = false := lit_ne e4 (by rw [bl])
    have z5 : ((σ.ahead L 0).t.toList == [114, 101, 116, 117, 114, 110]) = false := lit_ne e5 (by rw [bl])
    have z6 : ((σ.ahead L 0).t.toList == [115, 107, 105, 112]) = true := by rw [e6, bl]; rfl
    rw [if_neg e0, if_neg e1, if_neg e2, if_neg (fun h => h.elim e3 e4), if_neg e5, if_pos e6] at hrun
    have HR : Hid ((σ.take L ⟨#[115, 107, 105, 112]⟩).take L ⟨#[59]⟩ = σ') := Option.some.inj hrun
    clear hrun e0 e1 e2 e3 e4 e5 e6
    go_enter Tryz.func117, Tryz.ntmps117
    go_wp2_with fail
    refine (s_ahead 0 _ hL (by omega) h).mono ?_
    rintro e w1 ⟨rfl, hb1⟩
    have hp1 := fun ob => h.below (hb1.alloc hb1.size ob)
    have k1 := fun ob => Kp.of_below (hb1.alloc hb1.size ob) (Nat.le_of_lt h.lt)
    have hz1 := hb1.size
    clear hb1
    go_wp2_with fail
    refine (s_take ⟨#[115, 107, 105, 112]⟩ _ hL (by decide) (hp1 _)).mono ?_
    rintro e w2 ⟨rfl, hp2, k2⟩
    go_wp2_with fail
    refine (s_take ⟨#[59]⟩ _ hL (by decide) hp2).mono ?_
    rintro e w4 ⟨rfl, hp4, k4⟩
    go_wp2_with fail
    go_end0
    exact ⟨rfl, vN, vC, by rw [← HR.out]; exact hp4, ((k1 _).trans k2).trans k4⟩
  have z0 : ((σ.ahead L 0).t.toList == [105, 102]) = false := lit_ne e0 (by rw [bl])
  have z1 : ((σ.ahead L 0).t.toList == [119, 104, 105, 108, 101]) = false := lit_ne e1 (by rw [bl])
  have z2 : ((σ.ahead L 0).t.toList == [97, 115, 115, 117, 109, 101]) = false := lit_ne e2 (by rw [bl])
  have z3 : ((σ.ahead L 0).t.toList == [97, 99, 113, 117, 105, 114, 101]) = false := lit_ne e3 (by rw [bl])
  have z4 : ((σ.ahead L 0).t.toList == [114, 101, 108, 101, 97, 115, 101]) = false := lit_ne e4 (by rw [bl])
  have z5 : ((σ.ahead L 0).t.toList == [114, 101, 116, 117, 114, 110]) = false := lit_ne e5 (by rw [bl])
  have z6 : ((σ.ahead L 0).t.toList == [115, 107, 105, 112]) = false := lit_ne e6 (by rw [bl])
  rw [if_neg e0, if_neg e1, if_neg e2, if_neg (fun h => h.elim e3 e4), if_neg e5, if_neg e6] at hrun
  have HR : Hid (assignOrCallP L f σ = some σ') := hrun
  clear hrun e0 e1 e2 e3 e4 e5 e6
  go_enter Tryz.func117, Tryz.ntmps117
  go_wp2_with fail
  refine (s_ahead 0 _ hL (by omega) h).mono ?_
  rintro e w1 ⟨rfl, hb1⟩
  have hp1 := fun ob => h.below (hb1.alloc hb1.size ob)
  have k1 := fun ob => Kp.of_below (hb1.alloc hb1.size ob) (Nat.le_of_lt h.lt)
  have hz1 := hb1.size
  clear hb1
  go_wp2_with fail
  refine (s_assignOrCall hL f σ σ' _ _ _ (hp1 _) HR.out).mono ?_
  rintro e w2 ⟨rfl, vN2, vC2, hp2, k2⟩
  go_wp2_with fail
  go_end0
  exact ⟨rfl, vN2, vC2, hp2, (k1 _).trans k2⟩

/-- All of it, by the fuel. -/
theorem s_stmts {B : Nat} {ao : Option Addr} {cap : Nat} {L : List Tk} (hL : L.length ≤ 500) : ∀ f, (∀ g, g ≤ f → SaidBlock B ao cap L g) ∧ (∀ g, g ≤ f → SaidStmt B ao cap L g) ∧ (∀ g, g ≤ f → SaidBranch B ao cap L g) := by
  intro f
  induction f with
  | zero =>
    refine ⟨fun g hg => ?_, fun g hg => ?_, fun g hg => ?_⟩ <;> (have : g = 0 := by omega) <;> subst this <;> intro σ σ' vN vC w h hrun
    · rw [blockP_zero] at hrun; cases hrun
    · rw [statementP_zero] at hrun; cases hrun
    · rw [branchP_zero] at hrun; cases hrun
  | succ f ih =>
    obtain ⟨i1, i2, i3⟩ := ih
    refine ⟨fun g hg => ?_, fun g hg => ?_, fun g hg => ?_⟩
    · by_cases e : g = f + 1
      · subst e; exact s_block hL f (hide i2)
      · exact i1 g (by omega)
    · by_cases e : g = f + 1
      · subst e; exact s_stmt hL f (hide (i1 f (Nat.le_refl _))) (hide (i3 f (Nat.le_refl _)))
      · exact i2 g (by omega)
    · by_cases e : g = f + 1
      · subst e; exact s_branch hL f (hide (i1 f (Nat.le_refl _)))
      · exact i3 g (by omega)

end Go.Proofs.YtlpmkpjhdahfhaaGreatDoor
