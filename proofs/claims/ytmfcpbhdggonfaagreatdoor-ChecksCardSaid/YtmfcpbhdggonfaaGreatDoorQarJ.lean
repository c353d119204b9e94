/- Contracts of the program's parser: expressions. -/
import Derived.Test.YtmfcpbhdggonfaaGreatDoorQarF
import Derived.Test.YtmfcpbhdggonfaaGreatDoorQarG
import Derived.Test.YtmfcpbhdggonfaaGreatDoorQarH
import Derived.Deep.LoopGhost
namespace Go.Proofs.YtmfcpbhdggonfaaGreatDoor
open Go.RowKit RR

theorem node_len (σ : QSt) (n : Nd) : (σ.node n).nds.length = σ.nds.length + 1 := by show (σ.nds ++ [n]).length = _; rw [List.length_append]; rfl
theorem const_len (L : List Tk) (σ : QSt) (t : ByteArray) (s : Nat) : (constQ L σ t s).1.nds.length = σ.nds.length + 1 := node_len _ _

def SaidExpr (B : Nat) (ao : Option Addr) (cap : Nat) (L : List Tk) (U : Nat) (f : Nat) : Prop := ∀ (σ : QSt) (r : QSt × Int) (vS : Value) (w : World), PS B ao cap L U σ vS w → exprQ L f σ = some r → r.1.nds.length ≤ 9000 →
    Calls Tryz.prog 231 #[.pointer (some ⟨B, 0, none⟩)] w fun e w' => e = .returned (.int .i64 r.2) ∧ PS B ao cap L U r.1 vS w' ∧ Kp B w w'
def SaidTerm (B : Nat) (ao : Option Addr) (cap : Nat) (L : List Tk) (U : Nat) (f : Nat) : Prop := ∀ (σ : QSt) (r : QSt × Int) (vS : Value) (w : World), PS B ao cap L U σ vS w → termQ L f σ = some r → r.1.nds.length ≤ 9000 →
    Calls Tryz.prog 233 #[.pointer (some ⟨B, 0, none⟩)] w fun e w' => e = .returned (.int .i64 r.2) ∧ PS B ao cap L U r.1 vS w' ∧ Kp B w w'
def SaidFactor (B : Nat) (ao : Option Addr) (cap : Nat) (L : List Tk) (U : Nat) (f : Nat) : Prop := ∀ (σ : QSt) (r : QSt × Int) (vS : Value) (w : World), PS B ao cap L U σ vS w → factorQ L f σ = some r → r.1.nds.length ≤ 9000 →
    Calls Tryz.prog 235 #[.pointer (some ⟨B, 0, none⟩)] w fun e w' => e = .returned (.int .i64 r.2) ∧ PS B ao cap L U r.1 vS w' ∧ Kp B w w'
def SaidBrack (B : Nat) (ao : Option Addr) (cap : Nat) (L : List Tk) (U : Nat) (f : Nat) : Prop := ∀ (σ : QSt) (r : QSt × Int) (vS : Value) (w : World), PS B ao cap L U σ vS w → bracketedQ L f σ = some r → r.1.nds.length ≤ 9000 →
    Calls Tryz.prog 237 #[.pointer (some ⟨B, 0, none⟩)] w fun e w' => e = .returned (.int .i64 r.2) ∧ PS B ao cap L U r.1 vS w' ∧ Kp B w w'

set_option maxRecDepth 100000 in
set_option maxHeartbeats 1000000 in
theorem s_expr {B : Nat} {ao : Option Addr} {cap : Nat} {L : List Tk} {U : Nat} (hL : L.length ≤ 500) (f : Nat) (ih : Hid (∀ g, g ≤ f → SaidTerm B ao cap L U g)) : SaidExpr B ao cap L U (f + 1) := by
  intro σ r vS w h hrun hend
  rw [exprQ_succ] at hrun
  obtain ⟨a, h1, h2⟩ := bindS hrun
  have ga := (xg_exprs L f).2.1 _ _ _ h2
  have HR := hide h2
  have H1 := hide h1
  have hae : a.1.nds.length ≤ 9000 := Nat.le_trans ga.mono hend
  clear hrun h1 h2
  go_enter Tryz.func231, Tryz.ntmps231
  go_wp2_with fail
  refine (ih.out f (Nat.le_refl _) σ a vS _ h H1.out hae).mono ?_
  rintro e w1 ⟨rfl, hp1, k1⟩
  go_wp2_with fail
  go_loopg [3] f (fun g v3 wr => ∃ (τ : QSt) (x : Int), v3 = .int .i64 x ∧ g ≤ f ∧ orQ L g τ x = some r ∧ PS B ao cap L U τ vS wr ∧ Kp B w wr)
  case atStart => exact ⟨a.1, a.2, rfl, Nat.le_refl _, HR.out, hp1, k1⟩
  case round =>
    obtain ⟨τ, x, rfl, hg, hl, hp, kp⟩ := hrel
    cases gk with
    | zero => rw [orQ_zero] at hl; cases hl
    | succ g =>
      rw [orQ_succ] at hl
      cases hs : τ.p.sees L ⟨#[124]⟩
      · rw [hs] at hl
        have HL : Hid ((τ, x) = r) := Option.some.inj hl
        clear hl
        go_wp2_with fail
        refine (s_accept ⟨#[124]⟩ _ hL (by decide) hp).mono ?_
        rintro e w2 ⟨rfl, hp2, k2⟩
        rw [hs] at hp2 ⊢
        go_wp2_with fail
        go_ret
        exact ⟨ret_int (by rw [← HL.out]), by rw [← HL.out]; exact hp2, kp.trans k2⟩
      · rw [hs] at hl
        obtain ⟨b, h1, h2⟩ := bindS hl
        have gb := (xg_exprs L g).2.1 _ _ _ h2
        have hbe : b.1.nds.length + 1 ≤ 9000 := by
          have := gb.mono
          have e : (b.1.node ⟨6, -1, x, b.2⟩).nds.length = b.1.nds.length + 1 := by show (_ ++ [_]).length = _; simp
          omega
        have HA := hide h1
        have HB := hide h2
        clear hl h1 h2 gb
        go_wp2_with fail
        refine (s_accept ⟨#[124]⟩ _ hL (by decide) hp).mono ?_
        rintro e w2 ⟨rfl, hp2, k2⟩
        rw [hs] at hp2 ⊢
        go_wp2_with fail
        refine (ih.out g (by omega) (τ.setp τ.p.step) b vS _ hp2 HA.out (by omega)).mono ?_
        rintro e w3 ⟨rfl, hp3, k3⟩
        go_wp2_with fail
        refine (s_addNode ⟨6, -1, x, b.2⟩ _ (by omega) hp3).mono ?_
        rintro e w4 ⟨rfl, hp4, k4⟩
        go_wp2_with fail
        go_roundg g
        case measure => omega
        case rel => exact ⟨_, _, rfl, by omega, HB.out, hp4, ((kp.trans k2).trans k3).trans k4⟩

set_option maxRecDepth 100000 in
set_option maxHeartbeats 1000000 in
theorem s_term {B : Nat} {ao : Option Addr} {cap : Nat} {L : List Tk} {U : Nat} (hL : L.length ≤ 500) (f : Nat) (ih : Hid (∀ g, g ≤ f → SaidFactor B ao cap L U g)) : SaidTerm B ao cap L U (f + 1) := by
  intro σ r vS w h hrun hend
  rw [termQ_succ] at hrun
  obtain ⟨a, h1, h2⟩ := bindS hrun
  have ga := (xg_exprs L f).2.2.2.1 _ _ _ h2
  have HR := hide h2
  have H1 := hide h1
  have hae : a.1.nds.length ≤ 9000 := Nat.le_trans ga.mono hend
  clear hrun h1 h2
  go_enter Tryz.func233, Tryz.ntmps233
  go_wp2_with fail
  refine (ih.out f (Nat.le_refl _) σ a vS _ h H1.out hae).mono ?_
  rintro e w1 ⟨rfl, hp1, k1⟩
  go_wp2_with fail
  go_loopg [3] f (fun g v3 wr => ∃ (τ : QSt) (x : Int), v3 = .int .i64 x ∧ g ≤ f ∧ andQ L g τ x = some r ∧ PS B ao cap L U τ vS wr ∧ Kp B w wr)
  case atStart => exact ⟨a.1, a.2, rfl, Nat.le_refl _, HR.out, hp1, k1⟩
  case round =>
    obtain ⟨τ, x, rfl, hg, hl, hp, kp⟩ := hrel
    cases gk with
    | zero => rw [andQ_zero] at hl; cases hl
    | succ g =>
      rw [andQ_succ] at hl
      cases hs : τ.p.sees L ⟨#[38]⟩
      · rw [hs] at hl
        have HL : Hid ((τ, x) = r) := Option.some.inj hl
        clear hl
        go_wp2_with fail
        refine (s_accept ⟨#[38]⟩ _ hL (by decide) hp).mono ?_
        rintro e w2 ⟨rfl, hp2, k2⟩
        rw [hs] at hp2 ⊢
        go_wp2_with fail
        go_ret
        exact ⟨ret_int (by rw [← HL.out]), by rw [← HL.out]; exact hp2, kp.trans k2⟩
      · rw [hs] at hl
        obtain ⟨b, h1, h2⟩ := bindS hl
        have gb := (xg_exprs L g).2.2.2.1 _ _ _ h2
        have hbe : b.1.nds.length + 1 ≤ 9000 := by
          have := gb.mono
          have e : (b.1.node ⟨5, -1, x, b.2⟩).nds.length = b.1.nds.length + 1 := by show (_ ++ [_]).length = _; simp
          omega
        have HA := hide h1
        have HB := hide h2
        clear hl h1 h2 gb
        go_wp2_with fail
        refine (s_accept ⟨#[38]⟩ _ hL (by decide) hp).mono ?_
        rintro e w2 ⟨rfl, hp2, k2⟩
        rw [hs] at hp2 ⊢
        go_wp2_with fail
        refine (ih.out g (by omega) (τ.setp τ.p.step) b vS _ hp2 HA.out (by omega)).mono ?_
        rintro e w3 ⟨rfl, hp3, k3⟩
        go_wp2_with fail
        refine (s_addNode ⟨5, -1, x, b.2⟩ _ (by omega) hp3).mono ?_
        rintro e w4 ⟨rfl, hp4, k4⟩
        go_wp2_with fail
        go_roundg g
        case measure => omega
        case rel => exact ⟨_, _, rfl, by omega, HB.out, hp4, ((kp.trans k2).trans k3).trans k4⟩

set_option maxRecDepth 100000 in
set_option maxHeartbeats 1000000 in
theorem s_brack {B : Nat} {ao : Option Addr} {cap : Nat} {L : List Tk} {U : Nat} (hL : L.length ≤ 500) (f : Nat) (ih : Hid (SaidExpr B ao cap L U f)) : SaidBrack B ao cap L U (f + 1) := by
  intro σ r vS w h hrun hend
  rw [bracketedQ_succ] at hrun
  obtain ⟨a, h1, h2⟩ := Option.map_eq_some_iff.1 hrun
  have hae : a.1.nds.length ≤ 9000 := by rw [← h2] at hend; exact hend
  have HR := hide h2
  have H1 := hide h1
  clear hrun h1 h2
  go_enter Tryz.func237, Tryz.ntmps237
  go_wp2_with fail
  refine (s_enter ⟨#[40]⟩ _ hL (by decide) h).mono ?_
  rintro e w1 ⟨rfl, hp1, k1⟩
  go_wp2_with fail
  refine (ih.out _ a _ _ hp1 H1.out hae).mono ?_
  rintro e w2 ⟨rfl, hp2, k2⟩
  go_wp2_with fail
  refine (s_leave ⟨#[41]⟩ _ hL (by decide) hp2).mono ?_
  rintro e w3 ⟨rfl, hp3, k3⟩
  go_wp2_with fail
  go_ret
  exact ⟨ret_int (by rw [← HR.out]), by rw [← HR.out]; exact hp3, (k1.trans k2).trans k3⟩

set_option maxRecDepth 100000 in
set_option maxHeartbeats 1000000 in
theorem s_constant {B : Nat} {ao : Option Addr} {cap : Nat} {L : List Tk} {U : Nat} {σ : QSt} {vS : Value} (hL : L.length ≤ 500) (t : ByteArray) (sign : Nat) (w : World) (ht : t ≠ ⟨#[]⟩) (hn : σ.nds.length + 1 ≤ 9000) (h : PS B ao cap L U σ vS w) :
    Calls Tryz.prog 238 #[.pointer (some ⟨B, 0, none⟩), .string t, .int .i64 sign] w fun e w' => e = .returned (.int .i64 (constQ L σ t sign).2) ∧ PS B ao cap L U (constQ L σ t sign).1 vS w' ∧ Kp B w w' := by
  go_enter Tryz.func238, Tryz.ntmps238
  go_wp2_with fail
  refine (s_take t _ hL ht h).mono ?_
  rintro e w1 ⟨rfl, hp1, k1⟩
  go_wp2_with fail
  refine (s_addNode ⟨sign, -1, 0, 0⟩ _ (by show σ.nds.length ≤ 9000; omega) hp1).mono ?_
  rintro e w2 ⟨rfl, hp2, k2⟩
  go_wp2_with fail
  go_ret
  exact ⟨rfl, hp2, k1.trans k2⟩

set_option maxRecDepth 100000 in
set_option maxHeartbeats 2000000 in
theorem s_plain {B : Nat} {ao : Option Addr} {cap : Nat} {L : List Tk} {U : Nat} (hL : L.length ≤ 500) (f : Nat) (ih : Hid (SaidBrack B ao cap L U f)) (σ : QSt) (r : QSt × Int) (vS : Value) (w : World) (h : PS B ao cap L U σ vS w) (hrun : plainQ L (bracketedQ L f) σ = some r) (hend : r.1.nds.length ≤ 9000) :
    Calls Tryz.prog 236 #[.pointer (some ⟨B, 0, none⟩)] w fun e w' => e = .returned (.int .i64 r.2) ∧ PS B ao cap L U r.1 vS w' ∧ Kp B w w' := by
  have HB := hide hrun
  clear hrun
  by_cases e0 : (σ.p.ahead L 0).t = ⟨#[40]⟩
  · have HB2 : Hid (bracketedQ L f σ = some r) := by show _ = _; have h := HB.out; unfold plainQ at h; rw [if_pos e0] at h; exact h
    have z0 : ((σ.p.ahead L 0).t.toList == [40]) = true := by rw [e0, bl]; rfl
    clear e0
    go_enter Tryz.func236, Tryz.ntmps236
    go_wp2_with fail
    refine (s_ahead 0 _ hL (by omega) h).mono ?_
    rintro e w3 ⟨rfl, hb3⟩
    have hp3 := fun ob => h.below (hb3.alloc hb3.size ob)
    have k3 := fun ob => Kp.of_below (hb3.alloc hb3.size ob) (Nat.le_of_lt h.lt)
    have hz3 := hb3.size
    clear hb3
    go_wp2_with fail
    refine (ih.out σ r _ _ (hp3 _) HB2.out hend).mono ?_
    rintro e w4 ⟨rfl, hp4, k4⟩
    go_wp2_with fail
    go_ret
    exact ⟨rfl, hp4, (k3 _).trans k4⟩
  by_cases e1 : (σ.p.ahead L 0).t = ⟨#[116, 114, 117, 101]⟩
  · have HB2 : Hid (constQ L σ ⟨#[116, 114, 117, 101]⟩ 1 = r) := by show _ = _; have h := HB.out; unfold plainQ at h; rw [if_neg e0, if_pos e1] at h; exact Option.some.inj h
    have z0 : ((σ.p.ahead L 0).t.toList == [40]) = false := lit_ne e0 (by rw [bl])
    have z1 : ((σ.p.ahead L 0).t.toList == [116, 114, 117, 101]) = true := by rw [e1, bl]; rfl
    have hlen : σ.nds.length + 1 ≤ 9000 := by have := hend; rw [← HB2.out, const_len] at this; exact this
    have HW := hide e1
    clear e0 e1
    go_enter Tryz.func236, Tryz.ntmps236
    go_wp2_with fail
    refine (s_ahead 0 _ hL (by omega) h).mono ?_
    rintro e w3 ⟨rfl, hb3⟩
    have hp3 := fun ob => h.below (hb3.alloc hb3.size ob)
    have k3 := fun ob => Kp.of_below (hb3.alloc hb3.size ob) (Nat.le_of_lt h.lt)
    have hz3 := hb3.size
    clear hb3
    go_wp2_with fail
    rw [HW.out]
    refine (s_constant hL ⟨#[116, 114, 117, 101]⟩ 1 _ (by decide) hlen (hp3 _)).mono ?_
    rintro e w4 ⟨rfl, hp4, k4⟩
    go_wp2_with fail
    go_ret
    exact ⟨ret_int (by rw [HB2.out]), by rw [← HB2.out]; exact hp4, (k3 _).trans k4⟩
  by_cases e2 : (σ.p.ahead L 0).t = ⟨#[102, 97, 108, 115, 101]⟩
  · have HB2 : Hid (constQ L σ ⟨#[102, 97, 108, 115, 101]⟩ 0 = r) := by show _ = _; have h := HB.out; unfold plainQ at h; rw [if_neg e0, if_neg e1, if_pos e2] at h; exact Option.some.inj h
    have z0 : ((σ.p.ahead L 0).t.toList == [40]) = false := lit_ne e0 (by rw [bl])
    have z1 : ((σ.p.ahead L 0).t.toList == [116, 114, 117, 101]) = false := lit_ne e1 (by rw [bl])
    have z2 : ((σ.p.ahead L 0).t.toList == [102, 97, 108, 115, 101]) = true := by rw [e2, bl]; rfl
    have hlen : σ.nds.length + 1 ≤ 9000 := by have := hend; rw [← HB2.out, const_len] at this; exact this
    have HW := hide e2
    clear e0 e1 e2
    go_enter Tryz.func236, Tryz.ntmps236
    go_wp2_with fail
    refine (s_ahead 0 _ hL (by omega) h).mono ?_
    rintro e w3 ⟨rfl, hb3⟩
    have hp3 := fun ob => h.below (hb3.alloc hb3.size ob)
    have k3 := fun ob => Kp.of_below (hb3.alloc hb3.size ob) (Nat.le_of_lt h.lt)
    have hz3 := hb3.size
    clear hb3
    go_wp2_with fail
    rw [HW.out]
    refine (s_constant hL ⟨#[102, 97, 108, 115, 101]⟩ 0 _ (by decide) hlen (hp3 _)).mono ?_
    rintro e w4 ⟨rfl, hp4, k4⟩
    go_wp2_with fail
    go_ret
    exact ⟨ret_int (by rw [HB2.out]), by rw [← HB2.out]; exact hp4, (k3 _).trans k4⟩
  by_cases e3 : (σ.p.ahead L 0).t = ⟨#[63]⟩
  · have HB2 : Hid (constQ L σ ⟨#[63]⟩ 2 = r) := by show _ = _; have h := HB.out; unfold plainQ at h; rw [if_neg e0, if_neg e1, if_neg e2, if_pos e3] at h; exact Option.some.inj h
    have z0 : ((σ.p.ahead L 0).t.toList == [40]) = false := lit_ne e0 (by rw [bl])
    have z1 : ((σ.p.ahead L 0).t.toList == [116, 114, 117, 101]) = false := lit_ne e1 (by rw [bl])
    have z2 : ((σ.p.ahead L 0).t.toList == [102, 97, 108, 115, 101]) = false := lit_ne e2 (by rw [bl])
    have z3 : ((σ.p.ahead L 0).t.toList == [63]) = true := by rw [e3, bl]; rfl
    have hlen : σ.nds.length + 1 ≤ 9000 := by have := hend; rw [← HB2.out, const_len] at this; exact this
    have HW := hide e3
    clear e0 e1 e2 e3
    go_enter Tryz.func236, Tryz.ntmps236
    go_wp2_with fail
    refine (s_ahead 0 _ hL (by omega) h).mono ?_
    rintro e w3 ⟨rfl, hb3⟩
    have hp3 := fun ob => h.below (hb3.alloc hb3.size ob)
    have k3 := fun ob => Kp.of_below (hb3.alloc hb3.size ob) (Nat.le_of_lt h.lt)
    have hz3 := hb3.size
    clear hb3
    go_wp2_with fail
    rw [HW.out]
    refine (s_constant hL ⟨#[63]⟩ 2 _ (by decide) hlen (hp3 _)).mono ?_
    rintro e w4 ⟨rfl, hp4, k4⟩
    go_wp2_with fail
    go_ret
    exact ⟨ret_int (by rw [HB2.out]), by rw [← HB2.out]; exact hp4, (k3 _).trans k4⟩
  have HB2 : Hid (((σ.setp (σ.p.takeName L 4)).node ⟨3, nameIx L σ.p, 0, 0⟩, (σ.nds.length : Int)) = r) := by show _ = _; have h := HB.out; unfold plainQ at h; rw [if_neg e0, if_neg e1, if_neg e2, if_neg e3] at h; exact Option.some.inj h
  have z0 : ((σ.p.ahead L 0).t.toList == [40]) = false := lit_ne e0 (by rw [bl])
  have z1 : ((σ.p.ahead L 0).t.toList == [116, 114, 117, 101]) = false := lit_ne e1 (by rw [bl])
  have z2 : ((σ.p.ahead L 0).t.toList == [102, 97, 108, 115, 101]) = false := lit_ne e2 (by rw [bl])
  have z3 : ((σ.p.ahead L 0).t.toList == [63]) = false := lit_ne e3 (by rw [bl])
  have hlen : σ.nds.length + 1 ≤ 9000 := by
    have := hend
    rw [← HB2.out] at this
    have this : ((σ.setp (σ.p.takeName L 4)).node ⟨3, nameIx L σ.p, 0, 0⟩).nds.length ≤ 9000 := this
    rw [node_len] at this
    exact this
  clear e0 e1 e2 e3
  go_enter Tryz.func236, Tryz.ntmps236
  go_wp2_with fail
  refine (s_ahead 0 _ hL (by omega) h).mono ?_
  rintro e w3 ⟨rfl, hb3⟩
  have hp3 := fun ob => h.below (hb3.alloc hb3.size ob)
  have k3 := fun ob => Kp.of_below (hb3.alloc hb3.size ob) (Nat.le_of_lt h.lt)
  have hz3 := hb3.size
  clear hb3
  go_wp2_with fail
  refine (s_takeName 4 _ hL (hp3 _)).mono ?_
  rintro e w4 ⟨rfl, hp4, k4⟩
  go_wp2_with fail
  refine (s_addNode ⟨3, nameIx L σ.p, 0, 0⟩ _ (by show σ.nds.length ≤ 9000; omega) hp4).mono ?_
  rintro e w5 ⟨rfl, hp5, k5⟩
  go_wp2_with fail
  go_ret
  exact ⟨ret_int (by rw [← HB2.out]; rfl), by rw [← HB2.out]; exact hp5, ((k3 _).trans k4).trans k5⟩

end Go.Proofs.YtmfcpbhdggonfaaGreatDoor
