/- Contracts of the program's parser: procedures, the program. -/
import Derived.Test.YtlpmkpjhdahfhaaGreatDoorParH
namespace Go.Proofs.YtlpmkpjhdahfhaaGreatDoor
open Go.RowKit RR

set_option maxRecDepth 100000 in
set_option maxHeartbeats 2000000 in
theorem s_procedure {B : Nat} {ao : Option Addr} {cap : Nat} {L : List Tk} (hL : L.length ≤ 500) (f : Nat) (σ σ' : PSt) (vN vC : Value) (w : World) (h : PS B ao cap L σ vN vC w) (hrun : procedureP L f σ = some σ') :
    Calls Tryz.prog 91 #[.pointer (some ⟨B, 0, none⟩)] w fun e w' => e = .returned (.tuple #[]) ∧ ∃ vN' vC', PS B ao cap L σ' vN' vC' w' ∧ Kp B w w' := by
  have ihb := hide ((s_stmts (B := B) (ao := ao) (cap := cap) hL f).1 f (Nat.le_refl _))
  unfold procedureP at hrun
  dsimp only at hrun
  go_enter Tryz.func91, Tryz.ntmps91
  go_wp2_with fail
  refine (s_take ⟨#[112, 114, 111, 99]⟩ _ hL (by decide) h).mono ?_
  rintro e w1 ⟨rfl, hp1, k1⟩
  generalize σ.take L ⟨#[112, 114, 111, 99]⟩ = a at *
  obtain ⟨c0, c1, c2, c3, c4, c5, c6, hf⟩ := hp1.cells
  have f3 := hf 3
  clear hf
  have hfin := ps_set (σ' := { a with proc := wrap64 (a.proc + 1) }) hp1 3 (.int .i64 (wrap64 (a.proc + 1))) rfl rfl rfl hp1.le hp1.inv
  obtain ⟨hp2, k2⟩ := hfin
  have kk := k1.trans k2
  go_wp2_with fail
  clear c0 c1 c2 c3 c4 c5 c6 f3 k1 k2 hp1
  generalize w1.setCell ⟨B, 3, none⟩ (.int .i64 (wrap64 (a.proc + 1))) = w2 at *
  generalize ({ a with proc := wrap64 (a.proc + 1) } : PSt) = b at *
  refine (s_takeName 2 _ hL hp2).mono ?_
  rintro e w3 ⟨rfl, vN3, hp3, k3⟩
  go_wp2_with fail
  refine (s_enter ⟨#[40]⟩ _ hL (by decide) hp3).mono ?_
  rintro e w4 ⟨rfl, hp4, k4⟩
  have kk4 := (kk.trans k3).trans k4
  clear kk k3 k4 hp2 hp3
  generalize enterP L (b.takeName L 2) ⟨#[40]⟩ = d at *
  obtain ⟨g, h1, h2⟩ := bind_some hrun
  have HB := hide h2
  clear hrun h2
  cases hs : d.sees L ⟨#[41]⟩
  · rw [hs] at h1
    have HM : Hid (moreP L 3 f (d.takeName L 3) = some g) := h1
    clear h1
    go_wp2_with fail
    refine (s_sees ⟨#[41]⟩ _ hL hp4).mono ?_
    rintro e w5 ⟨rfl, hb5⟩
    rw [hs]
    have hp5 := hp4.below hb5
    have kk5 := kk4.trans (Kp.of_below hb5 (Nat.le_of_lt hp4.lt))
    clear hb5
    go_wp2_with fail
    refine (s_takeNames hL f 3 d g _ _ _ hp5 HM.out).mono ?_
    rintro e w6 ⟨rfl, vN6, hp6, k6⟩
    go_wp2_with fail
    refine (s_leave ⟨#[41]⟩ _ hL (by decide) hp6).mono ?_
    rintro e w7 ⟨rfl, hp7, k7⟩
    go_wp2_with fail
    refine (ihb.out _ σ' _ _ _ hp7 HB.out).mono ?_
    rintro e w8 ⟨rfl, vN8, vC8, hp8, k8⟩
    go_wp2_with fail
    go_end0
    exact ⟨rfl, vN8, vC8, hp8, ((kk5.trans k6).trans k7).trans k8⟩
  · rw [hs] at h1
    have hdg : g = d := (Option.some.inj h1).symm
    subst hdg
    clear h1
    go_wp2_with fail
    refine (s_sees ⟨#[41]⟩ _ hL hp4).mono ?_
    rintro e w5 ⟨rfl, hb5⟩
    rw [hs]
    have hp5 := hp4.below hb5
    have kk5 := kk4.trans (Kp.of_below hb5 (Nat.le_of_lt hp4.lt))
    clear hb5
    go_wp2_with fail
    refine (s_leave ⟨#[41]⟩ _ hL (by decide) hp5).mono ?_
    rintro e w7 ⟨rfl, hp7, k7⟩
    go_wp2_with fail
    refine (ihb.out _ σ' _ _ _ hp7 HB.out).mono ?_
    rintro e w8 ⟨rfl, vN8, vC8, hp8, k8⟩
    go_wp2_with fail
    go_end0
    exact ⟨rfl, vN8, vC8, hp8, (kk5.trans k7).trans k8⟩

set_option maxRecDepth 100000 in
set_option maxHeartbeats 2000000 in
theorem s_program00 {B : Nat} {ao : Option Addr} {cap : Nat} {L : List Tk} (hL : L.length ≤ 500) (f : Nat) (σ a b c d q σ' : PSt) (vN vC : Value) (w : World) (hp0 : PS B ao cap L σ vN vC w)
    (hs0 : σ.sees L ⟨#[115, 104, 97, 114, 101, 100]⟩ = false) (HT0 : Hid (σ = a)) (hs1 : a.sees L ⟨#[108, 111, 99, 107, 115]⟩ = false) (HT1 : Hid (a = b)) 
    (HC : Hid (procedureP L f b = some c)) (HD : Hid (procsP L f c = some d)) (HQ : Hid (moreP L 7 f ((d.take L ⟨#[116, 104, 114, 101, 97, 100, 115]⟩).takeName L 7) = some q)) (HE : Hid (takeEndP L (q.take L ⟨#[59]⟩) = σ')) :
    Calls Tryz.prog 64 #[.pointer (some ⟨B, 0, none⟩)] w fun e w' => e = .returned (.tuple #[]) ∧ ∃ vN' vC', PS B ao cap L σ' vN' vC' w' ∧ Kp B w w' := by
  have kk0 := Kp.refl B w
  go_enter Tryz.func64, Tryz.ntmps64
  go_wp2_with fail
  refine (s_accept ⟨#[115, 104, 97, 114, 101, 100]⟩ _ hL (by decide) hp0).mono ?_
  rintro e w0a ⟨rfl, hp0a, k0a⟩
  rw [hs0] at hp0a ⊢
  have kk0a := kk0.trans k0a
  have hp1 : PS B ao cap L σ _ _ w0a := hp0a
  have kk1 := kk0a
  rw [HT0.out] at hp1
  go_wp2_with fail
  refine (s_accept ⟨#[108, 111, 99, 107, 115]⟩ _ hL (by decide) hp1).mono ?_
  rintro e w1a ⟨rfl, hp1a, k1a⟩
  rw [hs1] at hp1a ⊢
  have kk1a := kk1.trans k1a
  have hp2 : PS B ao cap L a _ _ w1a := hp1a
  have kk2 := kk1a
  rw [HT1.out] at hp2
  go_wp2_with fail
  refine (s_procedure hL f b c _ _ _ hp2 HC.out).mono ?_
  rintro e w3 ⟨rfl, vN3, vC3, hp3, k3⟩
  have kk3 := kk2.trans k3
  clear kk2 k3 kk0
  go_wp2_with fail
  go_loopg [] f (fun g wr => ∃ (τ : PSt) (vN4 vC4 : Value), g ≤ f ∧ procsP L g τ = some d ∧ PS B ao cap L τ vN4 vC4 wr ∧ Kp B w wr)
  case atStart => exact ⟨c, vN3, vC3, Nat.le_refl _, HD.out, hp3, kk3⟩
  case round =>
    obtain ⟨τ, vN4, vC4, hg, hl, hp, kp⟩ := hrel
    cases gk with
    | zero => rw [procsP] at hl; cases hl
    | succ g =>
      rw [procsP] at hl
      cases hs : τ.sees L ⟨#[112, 114, 111, 99]⟩
      · rw [hs] at hl
        have hld : d = τ := (Option.some.inj hl).symm
        subst hld
        clear hl
        go_wp2_with fail
        refine (s_sees ⟨#[112, 114, 111, 99]⟩ _ hL hp).mono ?_
        rintro e w5 ⟨rfl, hb5⟩
        rw [hs]
        have hp5 := hp.below hb5
        have kk5 := kp.trans (Kp.of_below hb5 (Nat.le_of_lt hp.lt))
        clear hb5
        go_wp2_with fail
        refine (s_take ⟨#[116, 104, 114, 101, 97, 100, 115]⟩ _ hL (by decide) hp5).mono ?_
        rintro e w6 ⟨rfl, hp6, k6⟩
        go_wp2_with fail
        refine (s_takeNames hL f 7 _ q _ _ _ hp6 HQ.out).mono ?_
        rintro e w7 ⟨rfl, vN7, hp7, k7⟩
        go_wp2_with fail
        refine (s_take ⟨#[59]⟩ _ hL (by decide) hp7).mono ?_
        rintro e w8 ⟨rfl, hp8, k8⟩
        go_wp2_with fail
        refine (s_takeEnd _ hL hp8).mono ?_
        rintro e w9 ⟨rfl, hp9, k9⟩
        go_wp2_with fail
        go_end0
        exact ⟨rfl, vN7, vC4, by rw [← HE.out]; exact hp9, (((kk5.trans k6).trans k7).trans k8).trans k9⟩
      · rw [hs] at hl
        obtain ⟨τ1, h1, h2⟩ := bind_some hl
        have HA := hide h1
        have HB := hide h2
        clear hl h1 h2
        go_wp2_with fail
        refine (s_sees ⟨#[112, 114, 111, 99]⟩ _ hL hp).mono ?_
        rintro e w5 ⟨rfl, hb5⟩
        rw [hs]
        have hp5 := hp.below hb5
        have kk5 := kp.trans (Kp.of_below hb5 (Nat.le_of_lt hp.lt))
        clear hb5
        go_wp2_with fail
        refine (s_procedure hL g τ τ1 _ _ _ hp5 HA.out).mono ?_
        rintro e w6 ⟨rfl, vN6, vC6, hp6, k6⟩
        go_wp2_with fail
        go_roundg g
        case measure => omega
        case rel => exact ⟨τ1, vN6, vC6, by omega, HB.out, hp6, kk5.trans k6⟩

set_option maxRecDepth 100000 in
set_option maxHeartbeats 2000000 in
theorem s_program01 {B : Nat} {ao : Option Addr} {cap : Nat} {L : List Tk} (hL : L.length ≤ 500) (f : Nat) (σ a b c d q σ' : PSt) (vN vC : Value) (w : World) (hp0 : PS B ao cap L σ vN vC w)
    (hs0 : σ.sees L ⟨#[115, 104, 97, 114, 101, 100]⟩ = false) (HT0 : Hid (σ = a)) (hs1 : a.sees L ⟨#[108, 111, 99, 107, 115]⟩ = true) (q1 : PSt) (HM1 : Hid (moreP L 1 f (a.step.takeName L 1) = some q1)) (HT1 : Hid (q1.take L ⟨#[59]⟩ = b)) 
    (HC : Hid (procedureP L f b = some c)) (HD : Hid (procsP L f c = some d)) (HQ : Hid (moreP L 7 f ((d.take L ⟨#[116, 104, 114, 101, 97, 100, 115]⟩).takeName L 7) = some q)) (HE : Hid (takeEndP L (q.take L ⟨#[59]⟩) = σ')) :
    Calls Tryz.prog 64 #[.pointer (some ⟨B, 0, none⟩)] w fun e w' => e = .returned (.tuple #[]) ∧ ∃ vN' vC', PS B ao cap L σ' vN' vC' w' ∧ Kp B w w' := by
  have kk0 := Kp.refl B w
  go_enter Tryz.func64, Tryz.ntmps64
  go_wp2_with fail
  refine (s_accept ⟨#[115, 104, 97, 114, 101, 100]⟩ _ hL (by decide) hp0).mono ?_
  rintro e w0a ⟨rfl, hp0a, k0a⟩
  rw [hs0] at hp0a ⊢
  have kk0a := kk0.trans k0a
  have hp1 : PS B ao cap L σ _ _ w0a := hp0a
  have kk1 := kk0a
  rw [HT0.out] at hp1
  go_wp2_with fail
  refine (s_accept ⟨#[108, 111, 99, 107, 115]⟩ _ hL (by decide) hp1).mono ?_
  rintro e w1a ⟨rfl, hp1a, k1a⟩
  rw [hs1] at hp1a ⊢
  have kk1a := kk1.trans k1a
  go_wp2_with fail
  refine (s_takeNames hL f 1 _ q1 _ _ _ hp1a HM1.out).mono ?_
  rintro e w1b ⟨rfl, vN2, hp1b, k1b⟩
  go_wp2_with fail
  refine (s_take ⟨#[59]⟩ _ hL (by decide) hp1b).mono ?_
  rintro e w2 ⟨rfl, hp2, k1c⟩
  have kk2 := (kk1a.trans k1b).trans k1c
  rw [HT1.out] at hp2
  go_wp2_with fail
  refine (s_procedure hL f b c _ _ _ hp2 HC.out).mono ?_
  rintro e w3 ⟨rfl, vN3, vC3, hp3, k3⟩
  have kk3 := kk2.trans k3
  clear kk2 k3 kk0
  go_wp2_with fail
  go_loopg [] f (fun g wr => ∃ (τ : PSt) (vN4 vC4 : Value), g ≤ f ∧ procsP L g τ = some d ∧ PS B ao cap L τ vN4 vC4 wr ∧ Kp B w wr)
  case atStart => exact ⟨c, vN3, vC3, Nat.le_refl _, HD.out, hp3, kk3⟩
  case round =>
    obtain ⟨τ, vN4, vC4, hg, hl, hp, kp⟩ := hrel
    cases gk with
    | zero => rw [procsP] at hl; cases hl
    | succ g =>
      rw [procsP] at hl
      cases hs : τ.sees L ⟨#[112, 114, 111, 99]⟩
      · rw [hs] at hl
        have hld : d = τ := (Option.some.inj hl).symm
        subst hld
        clear hl
        go_wp2_with fail
        refine (s_sees ⟨#[112, 114, 111, 99]⟩ _ hL hp).mono ?_
        rintro e w5 ⟨rfl, hb5⟩
        rw [hs]
        have hp5 := hp.below hb5
        have kk5 := kp.trans (Kp.of_below hb5 (Nat.le_of_lt hp.lt))
        clear hb5
        go_wp2_with fail
        refine (s_take ⟨#[116, 104, 114, 101, 97, 100, 115]⟩ _ hL (by decide) hp5).mono ?_
        rintro e w6 ⟨rfl, hp6, k6⟩
        go_wp2_with fail
        refine (s_takeNames hL f 7 _ q _ _ _ hp6 HQ.out).mono ?_
        rintro e w7 ⟨rfl, vN7, hp7, k7⟩
        go_wp2_with fail
        refine (s_take ⟨#[59]⟩ _ hL (by decide) hp7).mono ?_
        rintro e w8 ⟨rfl, hp8, k8⟩
        go_wp2_with fail
        refine (s_takeEnd _ hL hp8).mono ?_
        rintro e w9 ⟨rfl, hp9, k9⟩
        go_wp2_with fail
        go_end0
        exact ⟨rfl, vN7, vC4, by rw [← HE.out]; exact hp9, (((kk5.trans k6).trans k7).trans k8).trans k9⟩
      · rw [hs] at hl
        obtain ⟨τ1, h1, h2⟩ := bind_some hl
        have HA := hide h1
        have HB := hide h2
        clear hl h1 h2
        go_wp2_with fail
        refine (s_sees ⟨#[112, 114, 111, 99]⟩ _ hL hp).mono ?_
        rintro e w5 ⟨rfl, hb5⟩
        rw [hs]
        have hp5 := hp.below hb5
        have kk5 := kp.trans (Kp.of_below hb5 (Nat.le_of_lt hp.lt))
        clear hb5
        go_wp2_with fail
        refine (s_procedure hL g τ τ1 _ _ _ hp5 HA.out).mono ?_
        rintro e w6 ⟨rfl, vN6, vC6, hp6, k6⟩
        go_wp2_with fail
        go_roundg g
        case measure => omega
        case rel => exact ⟨τ1, vN6, vC6, by omega, HB.out, hp6, kk5.trans k6⟩

set_option maxRecDepth 100000 in
set_option maxHeartbeats 2000000 in
theorem s_program10 {B : Nat} {ao : Option Addr} {cap : Nat} {L : List Tk} (hL : L.length ≤ 500) (f : Nat) (σ a b c d q σ' : PSt) (vN vC : Value) (w : World) (hp0 : PS B ao cap L σ vN vC w)
    (hs0 : σ.sees L ⟨#[115, 104, 97, 114, 101, 100]⟩ = true) (q0 : PSt) (HM0 : Hid (moreP L 0 f (σ.step.takeName L 0) = some q0)) (HT0 : Hid (q0.take L ⟨#[59]⟩ = a)) (hs1 : a.sees L ⟨#[108, 111, 99, 107, 115]⟩ = false) (HT1 : Hid (a = b)) 
    (HC : Hid (procedureP L f b = some c)) (HD : Hid (procsP L f c = some d)) (HQ : Hid (moreP L 7 f ((d.take L ⟨#[116, 104, 114, 101, 97, 100, 115]⟩).takeName L 7) = some q)) (HE : Hid (takeEndP L (q.take L ⟨#[59]⟩) = σ')) :
    Calls Tryz.prog 64 #[.pointer (some ⟨B, 0, none⟩)] w fun e w' => e = .returned (.tuple #[]) ∧ ∃ vN' vC', PS B ao cap L σ' vN' vC' w' ∧ Kp B w w' := by
  have kk0 := Kp.refl B w
  go_enter Tryz.func64, Tryz.ntmps64
  go_wp2_with fail
  refine (s_accept ⟨#[115, 104, 97, 114, 101, 100]⟩ _ hL (by decide) hp0).mono ?_
  rintro e w0a ⟨rfl, hp0a, k0a⟩
  rw [hs0] at hp0a ⊢
  have kk0a := kk0.trans k0a
  go_wp2_with fail
  refine (s_takeNames hL f 0 _ q0 _ _ _ hp0a HM0.out).mono ?_
  rintro e w0b ⟨rfl, vN1, hp0b, k0b⟩
  go_wp2_with fail
  refine (s_take ⟨#[59]⟩ _ hL (by decide) hp0b).mono ?_
  rintro e w1 ⟨rfl, hp1, k0c⟩
  have kk1 := (kk0a.trans k0b).trans k0c
  rw [HT0.out] at hp1
  go_wp2_with fail
  refine (s_accept ⟨#[108, 111, 99, 107, 115]⟩ _ hL (by decide) hp1).mono ?_
  rintro e w1a ⟨rfl, hp1a, k1a⟩
  rw [hs1] at hp1a ⊢
  have kk1a := kk1.trans k1a
  have hp2 : PS B ao cap L a _ _ w1a := hp1a
  have kk2 := kk1a
  rw [HT1.out] at hp2
  go_wp2_with fail
  refine (s_procedure hL f b c _ _ _ hp2 HC.out).mono ?_
  rintro e w3 ⟨rfl, vN3, vC3, hp3, k3⟩
  have kk3 := kk2.trans k3
  clear kk2 k3 kk0
  go_wp2_with fail
  go_loopg [] f (fun g wr => ∃ (τ : PSt) (vN4 vC4 : Value), g ≤ f ∧ procsP L g τ = some d ∧ PS B ao cap L τ vN4 vC4 wr ∧ Kp B w wr)
  case atStart => exact ⟨c, vN3, vC3, Nat.le_refl _, HD.out, hp3, kk3⟩
  case round =>
    obtain ⟨τ, vN4, vC4, hg, hl, hp, kp⟩ := hrel
    cases gk with
    | zero => rw [procsP] at hl; cases hl
    | succ g =>
      rw [procsP] at hl
      cases hs : τ.sees L ⟨#[112, 114, 111, 99]⟩
      · rw [hs] at hl
        have hld : d = τ := (Option.some.inj hl).symm
        subst hld
        clear hl
        go_wp2_with fail
        refine (s_sees ⟨#[112, 114, 111, 99]⟩ _ hL hp).mono ?_
        rintro e w5 ⟨rfl, hb5⟩
        rw [hs]
        have hp5 := hp.below hb5
        have kk5 := kp.trans (Kp.of_below hb5 (Nat.le_of_lt hp.lt))
        clear hb5
        go_wp2_with fail
        refine (s_take ⟨#[116, 104, 114, 101, 97, 100, 115]⟩ _ hL (by decide) hp5).mono ?_
        rintro e w6 ⟨rfl, hp6, k6⟩
        go_wp2_with fail
        refine (s_takeNames hL f 7 _ q _ _ _ hp6 HQ.out).mono ?_
        rintro e w7 ⟨rfl, vN7, hp7, k7⟩
        go_wp2_with fail
        refine (s_take ⟨#[59]⟩ _ hL (by decide) hp7).mono ?_
        rintro e w8 ⟨rfl, hp8, k8⟩
        go_wp2_with fail
        refine (s_takeEnd _ hL hp8).mono ?_
        rintro e w9 ⟨rfl, hp9, k9⟩
        go_wp2_with fail
        go_end0
        exact ⟨rfl, vN7, vC4, by rw [← HE.out]; exact hp9, (((kk5.trans k6).trans k7).trans k8).trans k9⟩
      · rw [hs] at hl
        obtain ⟨τ1, h1, h2⟩ := bind_some hl
        have HA := hide h1
        have HB := hide h2
        clear hl h1 h2
        go_wp2_with fail
        refine (s_sees ⟨#[112, 114, 111, 99]⟩ _ hL hp).mono ?_
        rintro e w5 ⟨rfl, hb5⟩
        rw [hs]
        have hp5 := hp.below hb5
        have kk5 := kp.trans (Kp.of_below hb5 (Nat.le_of_lt hp.lt))
        clear hb5
        go_wp2_with fail
        refine (s_procedure hL g τ τ1 _ _ _ hp5 HA.out).mono ?_
        rintro e w6 ⟨rfl, vN6, vC6, hp6, k6⟩
        go_wp2_with fail
        go_roundg g
        case measure => omega
        case rel => exact ⟨τ1, vN6, vC6, by omega, HB.out, hp6, kk5.trans k6⟩

set_option maxRecDepth 100000 in
set_option maxHeartbeats 2000000 in
theorem s_program11 {B : Nat} {ao : Option Addr} {cap : Nat} {L : List Tk} (hL : L.length ≤ 500) (f : Nat) (σ a b c d q σ' : PSt) (vN vC : Value) (w : World) (hp0 : PS B ao cap L σ vN vC w)
    (hs0 : σ.sees L ⟨#[115, 104, 97, 114, 101, 100]⟩ = true) (q0 : PSt) (HM0 : Hid (moreP L 0 f (σ.step.takeName L 0) = some q0)) (HT0 : Hid (q0.take L ⟨#[59]⟩ = a)) (hs1 : a.sees L ⟨#[108, 111, 99, 107, 115]⟩ = true) (q1 : PSt) (HM1 : Hid (moreP L 1 f (a.step.takeName L 1) = some q1)) (HT1 : Hid (q1.take L ⟨#[59]⟩ = b)) 
    (HC : Hid (procedureP L f b = some c)) (HD : Hid (procsP L f c = some d)) (HQ : Hid (moreP L 7 f ((d.take L ⟨#[116, 104, 114, 101, 97, 100, 115]⟩).takeName L 7) = some q)) (HE : Hid (takeEndP L (q.take L ⟨#[59]⟩) = σ')) :
    Calls Tryz.prog 64 #[.pointer (some ⟨B, 0, none⟩)] w fun e w' => e = .returned (.tuple #[]) ∧ ∃ vN' vC', PS B ao cap L σ' vN' vC' w' ∧ Kp B w w' := by
  have kk0 := Kp.refl B w
  go_enter Tryz.func64, Tryz.ntmps64
  go_wp2_with fail
  refine (s_accept ⟨#[115, 104, 97, 114, 101, 100]⟩ _ hL (by decide) hp0).mono ?_
  rintro e w0a ⟨rfl, hp0a, k0a⟩
  rw [hs0] at hp0a ⊢
  have kk0a := kk0.trans k0a
  go_wp2_with fail
  refine (s_takeNames hL f 0 _ q0 _ _ _ hp0a HM0.out).mono ?_
  rintro e w0b ⟨rfl, vN1, hp0b, k0b⟩
  go_wp2_with fail
  refine (s_take ⟨#[59]⟩ _ hL (by decide) hp0b).mono ?_
  rintro e w1 ⟨rfl, hp1, k0c⟩
  have kk1 := (kk0a.trans k0b).trans k0c
  rw [HT0.out] at hp1
  go_wp2_with fail
  refine (s_accept ⟨#[108, 111, 99, 107, 115]⟩ _ hL (by decide) hp1).mono ?_
  rintro e w1a ⟨rfl, hp1a, k1a⟩
  rw [hs1] at hp1a ⊢
  have kk1a := kk1.trans k1a
  go_wp2_with fail
  refine (s_takeNames hL f 1 _ q1 _ _ _ hp1a HM1.out).mono ?_
  rintro e w1b ⟨rfl, vN2, hp1b, k1b⟩
  go_wp2_with fail
  refine (s_take ⟨#[59]⟩ _ hL (by decide) hp1b).mono ?_
  rintro e w2 ⟨rfl, hp2, k1c⟩
  have kk2 := (kk1a.trans k1b).trans k1c
  rw [HT1.out] at hp2
  go_wp2_with fail
  refine (s_procedure hL f b c _ _ _ hp2 HC.out).mono ?_
  rintro e w3 ⟨rfl, vN3, vC3, hp3, k3⟩
  have kk3 := kk2.trans k3
  clear kk2 k3 kk0
  go_wp2_with fail
  go_loopg [] f (fun g wr => ∃ (τ : PSt) (vN4 vC4 : Value), g ≤ f ∧ procsP L g τ = some d ∧ PS B ao cap L τ vN4 vC4 wr ∧ Kp B w wr)
  case atStart => exact ⟨c, vN3, vC3, Nat.le_refl _, HD.out, hp3, kk3⟩
  case round =>
    obtain ⟨τ, vN4, vC4, hg, hl, hp, kp⟩ := hrel
    cases gk with
    | zero => rw [procsP] at hl; cases hl
    | succ g =>
      rw [procsP] at hl
      cases hs : τ.sees L ⟨#[112, 114, 111, 99]⟩
      · rw [hs] at hl
        have hld : d = τ := (Option.some.inj hl).symm
        subst hld
        clear hl
        go_wp2_with fail
        refine (s_sees ⟨#[112, 114, 111, 99]⟩ _ hL hp).mono ?_
        rintro e w5 ⟨rfl, hb5⟩
        rw [hs]
        have hp5 := hp.below hb5
        have kk5 := kp.trans (Kp.of_below hb5 (Nat.le_of_lt hp.lt))
        clear hb5
        go_wp2_with fail
        refine (s_take ⟨#[116, 104, 114, 101, 97, 100, 115]⟩ _ hL (by decide) hp5).mono ?_
        rintro e w6 ⟨rfl, hp6, k6⟩
        go_wp2_with fail
        refine (s_takeNames hL f 7 _ q _ _ _ hp6 HQ.out).mono ?_
        rintro e w7 ⟨rfl, vN7, hp7, k7⟩
        go_wp2_with fail
        refine (s_take ⟨#[59]⟩ _ hL (by decide) hp7).mono ?_
        rintro e w8 ⟨rfl, hp8, k8⟩
        go_wp2_with fail
        refine (s_takeEnd _ hL hp8).mono ?_
        rintro e w9 ⟨rfl, hp9, k9⟩
        go_wp2_with fail
        go_end0
        exact ⟨rfl, vN7, vC4, by rw [← HE.out]; exact hp9, (((kk5.trans k6).trans k7).trans k8).trans k9⟩
      · rw [hs] at hl
        obtain ⟨τ1, h1, h2⟩ := bind_some hl
        have HA := hide h1
        have HB := hide h2
        clear hl h1 h2
        go_wp2_with fail
        refine (s_sees ⟨#[112, 114, 111, 99]⟩ _ hL hp).mono ?_
        rintro e w5 ⟨rfl, hb5⟩
        rw [hs]
        have hp5 := hp.below hb5
        have kk5 := kp.trans (Kp.of_below hb5 (Nat.le_of_lt hp.lt))
        clear hb5
        go_wp2_with fail
        refine (s_procedure hL g τ τ1 _ _ _ hp5 HA.out).mono ?_
        rintro e w6 ⟨rfl, vN6, vC6, hp6, k6⟩
        go_wp2_with fail
        go_roundg g
        case measure => omega
        case rel => exact ⟨τ1, vN6, vC6, by omega, HB.out, hp6, kk5.trans k6⟩

theorem list_cases {L : List Tk} {f : Nat} {t : ByteArray} {role : Nat} {σ a : PSt} (h : listP L f t role σ = some a) : (σ.sees L t = false ∧ σ = a) ∨ (σ.sees L t = true ∧ ∃ q, moreP L role f (σ.step.takeName L role) = some q ∧ q.take L ⟨#[59]⟩ = a) := by
  unfold listP at h
  cases hs : σ.sees L t
  · rw [hs] at h; exact .inl ⟨rfl, Option.some.inj h⟩
  · rw [hs] at h
    obtain ⟨q, h1, h2⟩ := Option.map_eq_some_iff.1 h
    exact .inr ⟨rfl, q, h1, h2⟩

theorem s_program {B : Nat} {ao : Option Addr} {cap : Nat} {L : List Tk} (hL : L.length ≤ 500) (f : Nat) (σ σ' : PSt) (vN vC : Value) (w : World) (h : PS B ao cap L σ vN vC w) (hrun : programP L f σ = some σ') :
    Calls Tryz.prog 64 #[.pointer (some ⟨B, 0, none⟩)] w fun e w' => e = .returned (.tuple #[]) ∧ ∃ vN' vC', PS B ao cap L σ' vN' vC' w' ∧ Kp B w w' := by
  unfold programP at hrun
  obtain ⟨a, h1, hrun⟩ := bind_some hrun
  obtain ⟨b, h2, hrun⟩ := bind_some hrun
  obtain ⟨c, h3, hrun⟩ := bind_some hrun
  obtain ⟨d, h4, hrun⟩ := bind_some hrun
  obtain ⟨q, h5, h6⟩ := Option.map_eq_some_iff.1 hrun
  rcases list_cases h1 with ⟨s0, t0⟩ | ⟨s0, q0, m0, t0⟩
  · rcases list_cases h2 with ⟨s1, t1⟩ | ⟨s1, q1, m1, t1⟩
    · exact s_program00 hL f σ a b c d q σ' vN vC w h s0 t0 s1 t1 h3 h4 h5 h6
    · exact s_program01 hL f σ a b c d q σ' vN vC w h s0 t0 s1 q1 m1 t1 h3 h4 h5 h6
  · rcases list_cases h2 with ⟨s1, t1⟩ | ⟨s1, q1, m1, t1⟩
    · exact s_program10 hL f σ a b c d q σ' vN vC w h s0 q0 m0 t0 s1 t1 h3 h4 h5 h6
    · exact s_program11 hL f σ a b c d q σ' vN vC w h s0 q0 m0 t0 s1 q1 m1 t1 h3 h4 h5 h6

end Go.Proofs.YtlpmkpjhdahfhaaGreatDoor
