/- Contracts of the program's package check: the first name that is wrong. -/
import Derived.Test.YtmfcpbhdggonfaaGreatDoorChkB
namespace Go.Proofs.YtmfcpbhdggonfaaGreatDoor
open Go.RowKit RR

def optOut : Option Nat → Value
  | some p => .tuple #[.int .i64 p, .bool true]
  | none => .tuple #[.int .i64 0, .bool false]

set_option maxRecDepth 100000 in
set_option maxHeartbeats 1000000 in
theorem c_misused (ao : Option Addr) (cap : Nat) (l : List Nm) (n : Nm) (w : World) (hl : l.length ≤ 1000) (hi : NmSl w ao l) :
    Calls Tryz.prog 186 #[.slice ao l.length cap, (.agg #[.string n.word, .int .i64 n.at_, .int .i64 n.role, .int .i64 n.proc])] w fun e w' => e = .returned (.bool (misusedB l n)) ∧ Below w.heap.size w w' := by
  have hx0 := (Below.refl (w.heap.size + 1) (w.alloc (.cells #[.string n.word, .int .i64 n.at_, .int .i64 n.role, .int .i64 n.proc] 186)))
  obtain ⟨n0, n1, n2, n3, hsz, hbel⟩ := nb hx0
  have hsl := hi.below hbel
  by_cases h4 : n.role = 4
  · have f4 : ((n.role : Int) == 4) = true := beq_iff_eq.2 (by omega)
    cases hg : isGivenB l n.word 0
    · have HE : Hid (misusedB l n = !isParamB l n.word n.proc) := by show _ = _; unfold misusedB; rw [if_pos h4, hg]; rfl
      clear h4
      go_enter Tryz.func186, Tryz.ntmps186
      go_wp2_with fail
      refine (c_isGiven _ _ l _ 0 _ hl hsl).mono ?_
      rintro e w1 ⟨rfl, hb1⟩
      have hx1 := hx0.trans (hb1.mono hsz)
      obtain ⟨m0, m1, m2, m3, hsz1, hbel1⟩ := nb hx1
      have hsl1 := hi.below hbel1
      go_wp2_with fail
      refine (c_isParam _ _ l _ _ _ hl hsl1).mono ?_
      rintro e w2 ⟨rfl, hb2⟩
      go_wp2_with fail
      go_ret
      exact ⟨ret_bool HE.out.symm, hbel1.trans (hb2.mono (Nat.le_of_lt hsz1))⟩
    · have HE : Hid (misusedB l n = false) := by show _ = _; unfold misusedB; rw [if_pos h4, hg]; rfl
      clear h4
      go_enter Tryz.func186, Tryz.ntmps186
      go_wp2_with fail
      refine (c_isGiven _ _ l _ 0 _ hl hsl).mono ?_
      rintro e w1 ⟨rfl, hb1⟩
      go_wp2_with fail
      go_ret
      exact ⟨ret_bool HE.out.symm, hbel.trans (hb1.mono (Nat.le_of_lt hsz))⟩
  have f4 : ((n.role : Int) == 4) = false := beq_eq_false_iff_ne.2 (by omega)
  by_cases h5 : n.role = 5
  · have f5 : ((n.role : Int) == 5) = true := beq_iff_eq.2 (by omega)
    have HE : Hid (misusedB l n = !isGivenB l n.word 1) := by show _ = _; unfold misusedB; rw [if_neg h4, if_pos h5]
    clear h4 h5
    go_enter Tryz.func186, Tryz.ntmps186
    go_wp2_with fail
    refine (c_isGiven _ _ l _ 1 _ hl hsl).mono ?_
    rintro e w1 ⟨rfl, hb1⟩
    go_wp2_with fail
    go_ret
    exact ⟨ret_bool HE.out.symm, hbel.trans (hb1.mono (Nat.le_of_lt hsz))⟩
  have f5 : ((n.role : Int) == 5) = false := beq_eq_false_iff_ne.2 (by omega)
  by_cases h6 : n.role = 6
  · have f6 : ((n.role : Int) == 6) = true := beq_iff_eq.2 (by omega)
    have HE : Hid (misusedB l n = !isGivenB l n.word 2) := by show _ = _; unfold misusedB; rw [if_neg h4, if_neg h5, if_pos (.inl h6)]
    clear h4 h5 h6
    go_enter Tryz.func186, Tryz.ntmps186
    go_wp2_with fail
    refine (c_isGiven _ _ l _ 2 _ hl hsl).mono ?_
    rintro e w1 ⟨rfl, hb1⟩
    go_wp2_with fail
    go_ret
    exact ⟨ret_bool HE.out.symm, hbel.trans (hb1.mono (Nat.le_of_lt hsz))⟩
  have f6 : ((n.role : Int) == 6) = false := beq_eq_false_iff_ne.2 (by omega)
  by_cases h7 : n.role = 7
  · have f7 : ((n.role : Int) == 7) = true := beq_iff_eq.2 (by omega)
    have HE : Hid (misusedB l n = !isGivenB l n.word 2) := by show _ = _; unfold misusedB; rw [if_neg h4, if_neg h5, if_pos (.inr h7)]
    clear h4 h5 h6 h7
    go_enter Tryz.func186, Tryz.ntmps186
    go_wp2_with fail
    refine (c_isGiven _ _ l _ 2 _ hl hsl).mono ?_
    rintro e w1 ⟨rfl, hb1⟩
    go_wp2_with fail
    go_ret
    exact ⟨ret_bool HE.out.symm, hbel.trans (hb1.mono (Nat.le_of_lt hsz))⟩
  have f7 : ((n.role : Int) == 7) = false := beq_eq_false_iff_ne.2 (by omega)
  have HE : Hid (misusedB l n = false) := by show _ = _; unfold misusedB; rw [if_neg h4, if_neg h5, if_neg (fun h => h.elim h6 h7)]
  clear h4 h5 h6 h7
  go_enter Tryz.func186, Tryz.ntmps186
  go_wp2_with fail
  go_ret
  exact ⟨ret_bool HE.out.symm, hbel⟩

set_option maxRecDepth 100000 in
set_option maxHeartbeats 1000000 in
theorem c_firstGivenTwice (ao : Option Addr) (cap : Nat) (l : List Nm) (w : World) (hl : l.length ≤ 1000) (hi : NmSl w ao l) :
    Calls Tryz.prog 138 #[.slice ao l.length cap] w fun e w' => e = .returned (optOut (twiceP l)) ∧ Below w.heap.size w w' := by
  go_enter Tryz.func138, Tryz.ntmps138
  go_wp2
  go_loopw [8] (fun u wr => ∃ k : Nat, u = .int .i64 k ∧ k ≤ l.length ∧ firstF (fun i n => clashF l i n 0) l k = twiceP l ∧ Below w.heap.size w wr) (fun u _ => l.length - (intOf u).toNat)
  case atStart => exact ⟨0, rfl, Nat.zero_le _, rfl, Below.refl _ _⟩
  case round =>
    obtain ⟨k, rfl, hk, hn, hbel⟩ := hrel
    have HN := hide hn
    clear hn
    by_cases hlt : k < l.length
    · have hsl := hi.below hbel
      obtain ⟨b, o, hb, hao, c1, c2, c3, c4⟩ := hsl k hlt
      subst hao
      have hsl2 := fun ob => hsl.below ((Below.refl _ _).alloc (Nat.le_refl _) ob)
      cases hc : clashF l k l[k] 0
      · have HE := hide (firstF_no (p := fun i n => clashF l i n 0) hlt hc)
        go_wp2_with fail
        refine (c_givenTwice _ _ l k l[k] _ hl (hsl2 _)).mono ?_
        rintro e w1 ⟨rfl, hb1⟩
        go_wp2_with fail
        go_roundw
        case rel => exact ⟨k + 1, by go_num, by omega, by rw [← HN.out, HE.out], (hbel.alloc hbel.size _).trans (hb1.mono (Nat.le_trans hbel.size (by simp)))⟩
        case measure => simp [intOf]; omega
      · have HE := hide (firstF_yes (p := fun i n => clashF l i n 0) hlt hc)
        go_wp2_with fail
        refine (c_givenTwice _ _ l k l[k] _ hl (hsl2 _)).mono ?_
        rintro e w1 ⟨rfl, hb1⟩
        have hc1 := (hb1.cell (p := ⟨wr.heap.size, 1, none⟩) (by simp))
        simp at hc1
        go_wp2_with fail
        go_ret2
        exact ⟨by rw [← HN.out, HE.out]; rfl, (hbel.alloc hbel.size _).trans (hb1.mono (Nat.le_trans hbel.size (by simp)))⟩
    · go_wp2
      go_ret2
      exact ⟨by rw [← HN.out, firstF_out hlt]; rfl, hbel⟩

set_option maxRecDepth 100000 in
set_option maxHeartbeats 1000000 in
theorem c_firstMisused (ao : Option Addr) (cap : Nat) (l : List Nm) (w : World) (hl : l.length ≤ 1000) (hi : NmSl w ao l) :
    Calls Tryz.prog 139 #[.slice ao l.length cap] w fun e w' => e = .returned (optOut (misP l)) ∧ Below w.heap.size w w' := by
  go_enter Tryz.func139, Tryz.ntmps139
  go_wp2
  go_loopw [8] (fun u wr => ∃ k : Nat, u = .int .i64 k ∧ k ≤ l.length ∧ firstF (fun _ n => misusedB l n) l k = misP l ∧ Below w.heap.size w wr) (fun u _ => l.length - (intOf u).toNat)
  case atStart => exact ⟨0, rfl, Nat.zero_le _, rfl, Below.refl _ _⟩
  case round =>
    obtain ⟨k, rfl, hk, hn, hbel⟩ := hrel
    have HN := hide hn
    clear hn
    by_cases hlt : k < l.length
    · have hsl := hi.below hbel
      obtain ⟨b, o, hb, hao, c1, c2, c3, c4⟩ := hsl k hlt
      subst hao
      have hsl2 := fun ob => hsl.below ((Below.refl _ _).alloc (Nat.le_refl _) ob)
      cases hc : misusedB l l[k]
      · have HE := hide (firstF_no (p := fun _ n => misusedB l n) hlt hc)
        go_wp2_with fail
        refine (c_misused _ _ l l[k] _ hl (hsl2 _)).mono ?_
        rintro e w1 ⟨rfl, hb1⟩
        go_wp2_with fail
        go_roundw
        case rel => exact ⟨k + 1, by go_num, by omega, by rw [← HN.out, HE.out], (hbel.alloc hbel.size _).trans (hb1.mono (Nat.le_trans hbel.size (by simp)))⟩
        case measure => simp [intOf]; omega
      · have HE := hide (firstF_yes (p := fun _ n => misusedB l n) hlt hc)
        go_wp2_with fail
        refine (c_misused _ _ l l[k] _ hl (hsl2 _)).mono ?_
        rintro e w1 ⟨rfl, hb1⟩
        have hc1 := (hb1.cell (p := ⟨wr.heap.size, 1, none⟩) (by simp))
        simp at hc1
        go_wp2_with fail
        go_ret2
        exact ⟨by rw [← HN.out, HE.out]; rfl, (hbel.alloc hbel.size _).trans (hb1.mono (Nat.le_trans hbel.size (by simp)))⟩
    · go_wp2
      go_ret2
      exact ⟨by rw [← HN.out, firstF_out hlt]; rfl, hbel⟩

end Go.Proofs.YtmfcpbhdggonfaaGreatDoor
