/- Contracts of the program's package check: names. -/
import Derived.Test.YtmfcpbhdggonfaaGreatDoorRefE
import Derived.Test.YtmfcpbhdggonfaaGreatDoorNames
namespace Go.Proofs.YtmfcpbhdggonfaaGreatDoor
open Go.RowKit RR

/-- A slice of names. -/
def NmSl (w : World) (ao : Option Addr) (l : List Nm) : Prop := ∀ i, (h : i < l.length) → ∃ b o, b < w.heap.size ∧ ao = some ⟨b, o, none⟩ ∧ w.cell? ⟨b, o + i * 4, none⟩ = some (.string l[i].word) ∧ w.cell? ⟨b, o + i * 4 + 1, none⟩ = some (.int .i64 l[i].at_) ∧ w.cell? ⟨b, o + i * 4 + 2, none⟩ = some (.int .i64 l[i].role) ∧ w.cell? ⟨b, o + i * 4 + 3, none⟩ = some (.int .i64 l[i].proc)

theorem NmSl.below {w w' : World} {ao : Option Addr} {l : List Nm} (h : NmSl w ao l) (hb : Below w.heap.size w w') : NmSl w' ao l := fun i hi => by
  obtain ⟨b, o, h1, h2, h3, h4, h5, h6⟩ := h i hi
  exact ⟨b, o, Nat.lt_of_lt_of_le h1 hb.size, h2, (hb.cell (p := ⟨b, o + i * 4, none⟩) h1).trans h3, (hb.cell (p := ⟨b, o + i * 4 + 1, none⟩) h1).trans h4, (hb.cell (p := ⟨b, o + i * 4 + 2, none⟩) h1).trans h5, (hb.cell (p := ⟨b, o + i * 4 + 3, none⟩) h1).trans h6⟩

set_option maxHeartbeats 400000 in
theorem c_isWhole (r : Nat) (w : World) :
    Calls Tryz.prog 208 #[.int .i64 r] w fun e w' => e = .returned (.bool (isWholeB r)) ∧ w' = w := by
  have H : ∀ a b c : Bool, ((r : Int) == 0) = a → ((r : Int) == 1) = b → ((r : Int) == 2) = c → isWholeB r = (a || b || c) := by
    intro a b c ha hb hc
    subst ha; subst hb; subst hc
    unfold isWholeB
    rw [Bool.eq_iff_iff]; simp; omega
  cases h0 : ((r : Int) == 0)
  · cases h1 : ((r : Int) == 1)
    · cases h2 : ((r : Int) == 2)
      all_goals
        have HE := hide (H _ _ _ h0 h1 h2)
        clear H
        go_enter Tryz.func208, Tryz.ntmps208
        go_wp2
        go_ret
        exact ⟨ret_bool (by rw [HE.out]; rfl), rfl⟩
    · have HE := hide (H _ _ _ h0 h1 rfl)
      clear H
      go_enter Tryz.func208, Tryz.ntmps208
      go_wp2
      go_ret
      exact ⟨ret_bool (by rw [HE.out]; rfl), rfl⟩
  · have HE := hide (H _ _ _ h0 rfl rfl)
    clear H
    go_enter Tryz.func208, Tryz.ntmps208
    go_wp2
    go_ret
    exact ⟨ret_bool (by rw [HE.out]; rfl), rfl⟩

set_option maxRecDepth 100000 in
set_option maxHeartbeats 1000000 in
theorem c_isGiven (ao : Option Addr) (cap : Nat) (l : List Nm) (t : ByteArray) (r : Nat) (w : World) (hl : l.length ≤ 1000) (hi : NmSl w ao l) :
    Calls Tryz.prog 209 #[.slice ao l.length cap, .string t, .int .i64 r] w fun e w' => e = .returned (.bool (isGivenB l t r)) ∧ Below w.heap.size w w' := by
  go_enter Tryz.func209, Tryz.ntmps209
  go_wp2
  go_loopw [11] (fun u wr => ∃ k : Nat, u = .int .i64 k ∧ k ≤ l.length ∧ isGivenB (l.take k) t r = false ∧ Below w.heap.size w wr) (fun u _ => l.length - (intOf u).toNat)
  case atStart => exact ⟨0, rfl, Nat.zero_le _, rfl, Below.refl _ _⟩
  case round =>
    obtain ⟨k, rfl, hk, hn, hbel⟩ := hrel
    by_cases hlt : k < l.length
    · obtain ⟨b, o, hb, hao, c1, c2, c3, c4⟩ := (hi.below hbel) k hlt
      subst hao
      have HS : Hid (isGivenB (l.take (k + 1)) t r = (isGivenB (l.take k) t r || (decide (l[k].role = r) && decide (l[k].word = t)))) := any_snoc _ l k hlt
      have HN := hide hn
      clear hn
      by_cases hr : (l[k].role : Int) = r
      · have hr' : ((l[k].role : Int) == r) = true := beq_iff_eq.2 hr
        have HR : Hid (l[k].role = r) := by show _ = _; omega
        cases hw : (l[k].word.toList == t.toList)
        · have HW : Hid (¬ l[k].word = t) := fun e => by rw [e] at hw; simp at hw
          clear hr
          go_wp2
          go_roundw
          case rel => exact ⟨k + 1, by go_num, by omega, by rw [HS.out, HN.out, decide_eq_false HW.out, Bool.and_false]; rfl, hbel.alloc hbel.size _⟩
          case measure => simp [intOf]; omega
        · have HW : Hid (l[k].word = t) := toList_inj.1 (by simpa using hw)
          clear hr
          go_wp2
          go_ret
          exact ⟨ret_bool (any_get _ l k hlt (by show (decide _ && decide _) = true; rw [decide_eq_true HR.out, decide_eq_true HW.out]; rfl)).symm, hbel.alloc hbel.size _⟩
      · have hr' : ((l[k].role : Int) == r) = false := beq_eq_false_iff_ne.2 hr
        have HR : Hid (¬ l[k].role = r) := fun e => hr (by omega)
        clear hr
        go_wp2
        go_roundw
        case rel => exact ⟨k + 1, by go_num, by omega, by rw [HS.out, HN.out, decide_eq_false HR.out]; rfl, hbel.alloc hbel.size _⟩
        case measure => simp [intOf]; omega
    · go_wp2
      go_ret
      exact ⟨ret_bool (by rw [← hn, List.take_of_length_le (by omega)]), hbel⟩

set_option maxRecDepth 100000 in
set_option maxHeartbeats 1000000 in
theorem c_isParam (ao : Option Addr) (cap : Nat) (l : List Nm) (t : ByteArray) (r : Int) (w : World) (hl : l.length ≤ 1000) (hi : NmSl w ao l) :
    Calls Tryz.prog 210 #[.slice ao l.length cap, .string t, .int .i64 r] w fun e w' => e = .returned (.bool (isParamB l t r)) ∧ Below w.heap.size w w' := by
  go_enter Tryz.func210, Tryz.ntmps210
  go_wp2
  go_loopw [11] (fun u wr => ∃ k : Nat, u = .int .i64 k ∧ k ≤ l.length ∧ isParamB (l.take k) t r = false ∧ Below w.heap.size w wr) (fun u _ => l.length - (intOf u).toNat)
  case atStart => exact ⟨0, rfl, Nat.zero_le _, rfl, Below.refl _ _⟩
  case round =>
    obtain ⟨k, rfl, hk, hn, hbel⟩ := hrel
    by_cases hlt : k < l.length
    · obtain ⟨b, o, hb, hao, c1, c2, c3, c4⟩ := (hi.below hbel) k hlt
      subst hao
      have HS : Hid (isParamB (l.take (k + 1)) t r = (isParamB (l.take k) t r || (decide (l[k].role = 3) && decide (l[k].proc = r) && decide (l[k].word = t)))) := any_snoc _ l k hlt
      have HN := hide hn
      clear hn
      by_cases hr : (l[k].role : Int) = 3
      · have hr' : ((l[k].role : Int) == 3) = true := beq_iff_eq.2 hr
        have HR : Hid (l[k].role = 3) := by show _ = _; omega
        by_cases hq : l[k].proc = r
        · have hq' : (l[k].proc == r) = true := beq_iff_eq.2 hq
          have HQ := hide hq
          cases hw : (l[k].word.toList == t.toList)
          · have HW : Hid (¬ l[k].word = t) := fun e => by rw [e] at hw; simp at hw
            clear hr hq
            go_wp2
            go_roundw
            case rel => exact ⟨k + 1, by go_num, by omega, by rw [HS.out, HN.out, decide_eq_false HW.out, Bool.and_false]; rfl, hbel.alloc hbel.size _⟩
            case measure => simp [intOf]; omega
          · have HW : Hid (l[k].word = t) := toList_inj.1 (by simpa using hw)
            clear hr hq
            go_wp2
            go_ret
            exact ⟨ret_bool (any_get _ l k hlt (by show (decide _ && decide _ && decide _) = true; rw [decide_eq_true HR.out, decide_eq_true HQ.out, decide_eq_true HW.out]; rfl)).symm, hbel.alloc hbel.size _⟩
        · have hq' : (l[k].proc == r) = false := beq_eq_false_iff_ne.2 hq
          have HQ := hide hq
          clear hr hq
          go_wp2
          go_roundw
          case rel => exact ⟨k + 1, by go_num, by omega, by rw [HS.out, HN.out, decide_eq_false HQ.out, Bool.and_false]; rfl, hbel.alloc hbel.size _⟩
          case measure => simp [intOf]; omega
      · have hr' : ((l[k].role : Int) == 3) = false := beq_eq_false_iff_ne.2 hr
        have HR : Hid (¬ l[k].role = 3) := fun e => hr (by omega)
        clear hr
        go_wp2
        go_roundw
        case rel => exact ⟨k + 1, by go_num, by omega, by rw [HS.out, HN.out, decide_eq_false HR.out]; rfl, hbel.alloc hbel.size _⟩
        case measure => simp [intOf]; omega
    · go_wp2
      go_ret
      exact ⟨ret_bool (by rw [← hn, List.take_of_length_le (by omega)]), hbel⟩

end Go.Proofs.YtmfcpbhdggonfaaGreatDoor
