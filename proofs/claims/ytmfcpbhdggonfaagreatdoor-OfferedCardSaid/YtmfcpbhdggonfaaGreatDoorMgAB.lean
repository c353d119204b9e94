/- Contracts of the program's package check: names given twice, names misused. -/
import Derived.Test.YtmfcpbhdggonfaaGreatDoorMgAA
import Derived.WalkKit
namespace Go.Proofs.YtmfcpbhdggonfaaGreatDoor
open Go.RowKit RR

theorem nb {w wr : World} {T : TypeId} {x0 x1 x2 x3 : Value} (hb : Below (w.heap.size + 1) (w.alloc (.cells #[x0, x1, x2, x3] T)) wr) : wr.cell? ⟨w.heap.size, 0, none⟩ = some x0 ∧ wr.cell? ⟨w.heap.size, 1, none⟩ = some x1 ∧ wr.cell? ⟨w.heap.size, 2, none⟩ = some x2 ∧ wr.cell? ⟨w.heap.size, 3, none⟩ = some x3 ∧ w.heap.size < wr.heap.size ∧ Below w.heap.size w wr := by
  have h2 := hb.size
  refine ⟨(hb.cell (p := ⟨w.heap.size, 0, none⟩) (Nat.lt_succ_self _)).trans (by simp), (hb.cell (p := ⟨w.heap.size, 1, none⟩) (Nat.lt_succ_self _)).trans (by simp), (hb.cell (p := ⟨w.heap.size, 2, none⟩) (Nat.lt_succ_self _)).trans (by simp), (hb.cell (p := ⟨w.heap.size, 3, none⟩) (Nat.lt_succ_self _)).trans (by simp), ?_, ((Below.refl _ _).alloc (Nat.le_refl _) _).trans (hb.mono (Nat.le_succ _))⟩
  simp at h2; omega

set_option maxRecDepth 100000 in
set_option maxHeartbeats 4000000 in
theorem c_givenTwice (ao : Option Addr) (cap : Nat) (l : List Nm) (i : Nat) (n : Nm) (w : World) (hl : l.length ≤ 1000) (hi : NmSl w ao l) :
    Calls Tryz.prog 185 #[.slice ao l.length cap, .int .i64 i, (.agg #[.string n.word, .int .i64 n.at_, .int .i64 n.role, .int .i64 n.proc])] w fun e w' => e = .returned (.bool (clashF l i n 0)) ∧ Below w.heap.size w w' := by
  go_enter Tryz.func185, Tryz.ntmps185
  go_wp2
  go_loopw [11] (fun u wr => ∃ k : Nat, u = .int .i64 k ∧ k ≤ l.length ∧ clashF l i n k = clashF l i n 0 ∧ Below (w.heap.size + 1) (w.alloc (.cells #[.string n.word, .int .i64 n.at_, .int .i64 n.role, .int .i64 n.proc] 186)) wr) (fun u _ => l.length - (intOf u).toNat)
  case atStart => exact ⟨0, rfl, Nat.zero_le _, rfl, Below.refl _ _⟩
  case round =>
    obtain ⟨k, rfl, hk, hn, hbx⟩ := hrel
    have HN := hide hn
    have HB := hide hbx
    obtain ⟨n0, n1, n2, n3, hsz, hbel⟩ := nb hbx
    clear hn hbx
    by_cases hlt : k < l.length
    · obtain ⟨b, o, hb, hao, c1, c2, c3, c4⟩ := (hi.below hbel) k hlt
      subst hao
      clear hbel
      by_cases eW : l[k].word = n.word
      · have fW : (l[k].word.toList == n.word.toList) = true := by rw [eW]; simp
        cases eA : isWholeB n.role
        · by_cases eP : n.role = 3
          · have fP : ((n.role : Int) == 3) = true := beq_iff_eq.2 (by omega)
            cases eB : isWholeB l[k].role
            · by_cases eQ : l[k].role = 3
              · have fQ : ((l[k].role : Int) == 3) = true := beq_iff_eq.2 (by omega)
                by_cases eR : l[k].proc = n.proc
                · have fR : (l[k].proc == n.proc) = true := beq_iff_eq.2 (by omega)
                  by_cases eJ : k < i
                  · have fJ : (k : Int) < i := by omega
                    have HC : Hid (clashB i n k l[k] = true) := by show _ = _; unfold clashB; first | (rw [decide_eq_true eW, eA, decide_eq_true eP, eB, decide_eq_true eQ, decide_eq_true eR, decide_eq_true eJ]; done) | (rw [decide_eq_true eW, eA, decide_eq_true eP, eB, decide_eq_true eQ, decide_eq_true eR, decide_eq_true eJ]; rfl)
                    clear eP eQ eR eW
                    go_wp2_with (first | (go_at_call 208; refine (c_isWhole _ _).mono ?_; rintro e w' ⟨rfl, rfl⟩))
                    go_ret
                    exact ⟨ret_bool (by rw [← HN.out, clashF_yes hlt HC.out]), (nb HB.out).2.2.2.2.2.alloc (nb HB.out).2.2.2.2.2.size _⟩
                  · have fJ : i ≤ k := by omega
                    have HC : Hid (clashB i n k l[k] = false) := by show _ = _; unfold clashB; first | (rw [decide_eq_true eW, eA, decide_eq_true eP, eB, decide_eq_true eQ, decide_eq_true eR, decide_eq_false eJ]; done) | (rw [decide_eq_true eW, eA, decide_eq_true eP, eB, decide_eq_true eQ, decide_eq_true eR, decide_eq_false eJ]; rfl)
                    clear eP eQ eR eW
                    go_wp2_with (first | (go_at_call 208; refine (c_isWhole _ _).mono ?_; rintro e w' ⟨rfl, rfl⟩))
                    go_roundw
                    case rel => exact ⟨k + 1, by go_num, by omega, by rw [← HN.out, clashF_no hlt HC.out], HB.out.alloc (nb HB.out).2.2.2.2.1 _⟩
                    case measure => simp [intOf]; omega
                · have fR : (l[k].proc == n.proc) = false := beq_eq_false_iff_ne.2 (by omega)
                  have HC : Hid (clashB i n k l[k] = false) := by show _ = _; unfold clashB; first | (rw [decide_eq_true eW, eA, decide_eq_true eP, eB, decide_eq_true eQ, decide_eq_false eR]; done) | (rw [decide_eq_true eW, eA, decide_eq_true eP, eB, decide_eq_true eQ, decide_eq_false eR]; rfl)
                  clear eP eQ eR eW
                  go_wp2_with (first | (go_at_call 208; refine (c_isWhole _ _).mono ?_; rintro e w' ⟨rfl, rfl⟩))
                  go_roundw
                  case rel => exact ⟨k + 1, by go_num, by omega, by rw [← HN.out, clashF_no hlt HC.out], HB.out.alloc (nb HB.out).2.2.2.2.1 _⟩
                  case measure => simp [intOf]; omega
              · have fQ : ((l[k].role : Int) == 3) = false := beq_eq_false_iff_ne.2 (by omega)
                have HC : Hid (clashB i n k l[k] = false) := by show _ = _; unfold clashB; first | (rw [decide_eq_true eW, eA, decide_eq_true eP, eB, decide_eq_false eQ]; done) | (rw [decide_eq_true eW, eA, decide_eq_true eP, eB, decide_eq_false eQ]; rfl)
                clear eP eQ eW
                go_wp2_with (first | (go_at_call 208; refine (c_isWhole _ _).mono ?_; rintro e w' ⟨rfl, rfl⟩))
                go_roundw
                case rel => exact ⟨k + 1, by go_num, by omega, by rw [← HN.out, clashF_no hlt HC.out], HB.out.alloc (nb HB.out).2.2.2.2.1 _⟩
                case measure => simp [intOf]; omega
            · have HC : Hid (clashB i n k l[k] = true) := by show _ = _; unfold clashB; first | (rw [decide_eq_true eW, eA, decide_eq_true eP, eB]; done) | (rw [decide_eq_true eW, eA, decide_eq_true eP, eB]; rfl)
              clear eP eW
              go_wp2_with (first | (go_at_call 208; refine (c_isWhole _ _).mono ?_; rintro e w' ⟨rfl, rfl⟩))
              go_ret
              exact ⟨ret_bool (by rw [← HN.out, clashF_yes hlt HC.out]), (nb HB.out).2.2.2.2.2.alloc (nb HB.out).2.2.2.2.2.size _⟩
          · have fP : ((n.role : Int) == 3) = false := beq_eq_false_iff_ne.2 (by omega)
            have HC : Hid (clashB i n k l[k] = false) := by show _ = _; unfold clashB; first | (rw [decide_eq_true eW, eA, decide_eq_false eP]; done) | (rw [decide_eq_true eW, eA, decide_eq_false eP]; rfl)
            clear eP eW
            go_wp2_with (first | (go_at_call 208; refine (c_isWhole _ _).mono ?_; rintro e w' ⟨rfl, rfl⟩))
            go_roundw
            case rel => exact ⟨k + 1, by go_num, by omega, by rw [← HN.out, clashF_no hlt HC.out], HB.out.alloc (nb HB.out).2.2.2.2.1 _⟩
            case measure => simp [intOf]; omega
        · cases eB : isWholeB l[k].role
          · by_cases eP : n.role = 3
            · have fP : ((n.role : Int) == 3) = true := beq_iff_eq.2 (by omega)
              by_cases eQ : l[k].role = 3
              · have fQ : ((l[k].role : Int) == 3) = true := beq_iff_eq.2 (by omega)
                by_cases eR : l[k].proc = n.proc
                · have fR : (l[k].proc == n.proc) = true := beq_iff_eq.2 (by omega)
                  by_cases eJ : k < i
                  · have fJ : (k : Int) < i := by omega
                    have HC : Hid (clashB i n k l[k] = true) := by show _ = _; unfold clashB; first | (rw [decide_eq_true eW, eA, eB, decide_eq_true eP, decide_eq_true eQ, decide_eq_true eR, decide_eq_true eJ]; done) | (rw [decide_eq_true eW, eA, eB, decide_eq_true eP, decide_eq_true eQ, decide_eq_true eR, decide_eq_true eJ]; rfl)
                    clear eP eQ eR eW
                    go_wp2_with (first | (go_at_call 208; refine (c_isWhole _ _).mono ?_; rintro e w' ⟨rfl, rfl⟩))
                    go_ret
                    exact ⟨ret_bool (by rw [← HN.out, clashF_yes hlt HC.out]), (nb HB.out).2.2.2.2.2.alloc (nb HB.out).2.2.2.2.2.size _⟩
                  · have fJ : i ≤ k := by omega
                    have HC : Hid (clashB i n k l[k] = false) := by show _ = _; unfold clashB; first | (rw [decide_eq_true eW, eA, eB, decide_eq_true eP, decide_eq_true eQ, decide_eq_true eR, decide_eq_false eJ]; done) | (rw [decide_eq_true eW, eA, eB, decide_eq_true eP, decide_eq_true eQ, decide_eq_true eR, decide_eq_false eJ]; rfl)
                    clear eP eQ eR eW
                    go_wp2_with (first | (go_at_call 208; refine (c_isWhole _ _).mono ?_; rintro e w' ⟨rfl, rfl⟩))
                    go_roundw
                    case rel => exact ⟨k + 1, by go_num, by omega, by rw [← HN.out, clashF_no hlt HC.out], HB.out.alloc (nb HB.out).2.2.2.2.1 _⟩
                    case measure => simp [intOf]; omega
                · have fR : (l[k].proc == n.proc) = false := beq_eq_false_iff_ne.2 (by omega)
                  have HC : Hid (clashB i n k l[k] = false) := by show _ = _; unfold clashB; first | (rw [decide_eq_true eW, eA, eB, decide_eq_true eP, decide_eq_true eQ, decide_eq_false eR]; done) | (rw [decide_eq_true eW, eA, eB, decide_eq_true eP, decide_eq_true eQ, decide_eq_false eR]; rfl)
                  clear eP eQ eR eW
                  go_wp2_with (first | (go_at_call 208; refine (c_isWhole _ _).mono ?_; rintro e w' ⟨rfl, rfl⟩))
                  go_roundw
                  case rel => exact ⟨k + 1, by go_num, by omega, by rw [← HN.out, clashF_no hlt HC.out], HB.out.alloc (nb HB.out).2.2.2.2.1 _⟩
                  case measure => simp [intOf]; omega
              · have fQ : ((l[k].role : Int) == 3) = false := beq_eq_false_iff_ne.2 (by omega)
                have HC : Hid (clashB i n k l[k] = false) := by show _ = _; unfold clashB; first | (rw [decide_eq_true eW, eA, eB, decide_eq_true eP, decide_eq_false eQ]; done) | (rw [decide_eq_true eW, eA, eB, decide_eq_true eP, decide_eq_false eQ]; rfl)
                clear eP eQ eW
                go_wp2_with (first | (go_at_call 208; refine (c_isWhole _ _).mono ?_; rintro e w' ⟨rfl, rfl⟩))
                go_roundw
                case rel => exact ⟨k + 1, by go_num, by omega, by rw [← HN.out, clashF_no hlt HC.out], HB.out.alloc (nb HB.out).2.2.2.2.1 _⟩
                case measure => simp [intOf]; omega
            · have fP : ((n.role : Int) == 3) = false := beq_eq_false_iff_ne.2 (by omega)
              have HC : Hid (clashB i n k l[k] = false) := by show _ = _; unfold clashB; first | (rw [decide_eq_true eW, eA, eB, decide_eq_false eP]; done) | (rw [decide_eq_true eW, eA, eB, decide_eq_false eP]; rfl)
              clear eP eW
              go_wp2_with (first | (go_at_call 208; refine (c_isWhole _ _).mono ?_; rintro e w' ⟨rfl, rfl⟩))
              go_roundw
              case rel => exact ⟨k + 1, by go_num, by omega, by rw [← HN.out, clashF_no hlt HC.out], HB.out.alloc (nb HB.out).2.2.2.2.1 _⟩
              case measure => simp [intOf]; omega
          · by_cases eJ : k < i
            · have fJ : (k : Int) < i := by omega
              have HC : Hid (clashB i n k l[k] = true) := by show _ = _; unfold clashB; first | (rw [decide_eq_true eW, eA, eB, decide_eq_true eJ]; done) | (rw [decide_eq_true eW, eA, eB, decide_eq_true eJ]; rfl)
              clear eW
              go_wp2_with (first | (go_at_call 208; refine (c_isWhole _ _).mono ?_; rintro e w' ⟨rfl, rfl⟩))
              go_ret
              exact ⟨ret_bool (by rw [← HN.out, clashF_yes hlt HC.out]), (nb HB.out).2.2.2.2.2.alloc (nb HB.out).2.2.2.2.2.size _⟩
            · have fJ : i ≤ k := by omega
              by_cases eP : n.role = 3
              · have fP : ((n.role : Int) == 3) = true := beq_iff_eq.2 (by omega)
                have HC : Hid (clashB i n k l[k] = true) := by show _ = _; unfold clashB; first | (rw [decide_eq_true eW, eA, eB, decide_eq_false eJ, decide_eq_true eP]; done) | (rw [decide_eq_true eW, eA, eB, decide_eq_false eJ, decide_eq_true eP]; rfl)
                clear eP eW
                go_wp2_with (first | (go_at_call 208; refine (c_isWhole _ _).mono ?_; rintro e w' ⟨rfl, rfl⟩))
                go_ret
                exact ⟨ret_bool (by rw [← HN.out, clashF_yes hlt HC.out]), (nb HB.out).2.2.2.2.2.alloc (nb HB.out).2.2.2.2.2.size _⟩
              · have fP : ((n.role : Int) == 3) = false := beq_eq_false_iff_ne.2 (by omega)
                have HC : Hid (clashB i n k l[k] = false) := by show _ = _; unfold clashB; first | (rw [decide_eq_true eW, eA, eB, decide_eq_false eJ, decide_eq_false eP]; done) | (rw [decide_eq_true eW, eA, eB, decide_eq_false eJ, decide_eq_false eP]; rfl)
                clear eP eW
                go_wp2_with (first | (go_at_call 208; refine (c_isWhole _ _).mono ?_; rintro e w' ⟨rfl, rfl⟩))
                go_roundw
                case rel => exact ⟨k + 1, by go_num, by omega, by rw [← HN.out, clashF_no hlt HC.out], HB.out.alloc (nb HB.out).2.2.2.2.1 _⟩
                case measure => simp [intOf]; omega
      · have fW : (l[k].word.toList == n.word.toList) = false := by rw [seq_comm]; exact decide_eq_false eW
        have HC : Hid (clashB i n k l[k] = false) := by show _ = _; unfold clashB; first | (rw [decide_eq_false eW]; done) | (rw [decide_eq_false eW]; rfl)
        clear eW
        go_wp2_with (first | (go_at_call 208; refine (c_isWhole _ _).mono ?_; rintro e w' ⟨rfl, rfl⟩))
        go_roundw
        case rel => exact ⟨k + 1, by go_num, by omega, by rw [← HN.out, clashF_no hlt HC.out], HB.out.alloc (nb HB.out).2.2.2.2.1 _⟩
        case measure => simp [intOf]; omega
    · go_wp2
      go_ret
      exact ⟨ret_bool (by rw [← HN.out, clashF_out hlt]), hbel⟩

end Go.Proofs.YtmfcpbhdggonfaaGreatDoor

namespace Go.Proofs.YtmfcpbhdggonfaaGreatDoor
open Go.RowKit RR

def optOut : Option Nat → Value
  | some p => .tuple #[.int .i64 p, .bool true]
  | none => .tuple #[.int .i64 0, .bool false]

set_option maxRecDepth 100000 in
set_option maxHeartbeats 1000000 in
theorem c_misused (ao : Option Addr) (cap : Nat) (l : List Nm) (n : Nm) (w : World) (hl : l.length ≤ 1000) (hi : NmSl w ao l) :
    Calls Tryz.prog 186 #[.slice ao l.length cap, (.agg #[.string n.word, .int .i64 n.at_, .int .i64 n.role, .int .i64 n.proc])] w fun e w' => e = .returned (.bool (misusedB l n)) ∧ Below w.heap.size w w' := by
  have hx0 := (Below.refl (w.heap.size + 1) (w.alloc (.cells #[.string n.word, .int .i64 n.at_, .int .i64 n.role, .int .i64 n.proc] 186)))
  obtain ⟨n0, n1, n2, n3, hsz, hbel⟩ := nb hx0
  have hsl := hi.below hbel
  by_cases h4 : n.role = 4
  · have f4 : ((n.role : Int) == 4) = true := beq_iff_eq.2 (by omega)
    cases hg : isGivenB l n.word 0
    · have HE : Hid (misusedB l n = !isParamB l n.word n.proc) := by show _ = _; unfold misusedB; rw [if_pos h4, hg]; rfl
      clear h4
      go_enter Tryz.func186, Tryz.ntmps186
      go_wp2_with fail
      refine (c_isGiven _ _ l _ 0 _ hl hsl).mono ?_
      rintro e w1 ⟨rfl, hb1⟩
      have hx1 := hx0.trans (hb1.mono hsz)
      obtain ⟨m0, m1, m2, m3, hsz1, hbel1⟩ := nb hx1
      have hsl1 := hi.below hbel1
      go_wp2_with fail
      refine (c_isParam _ _ l _ _ _ hl hsl1).mono ?_
      rintro e w2 ⟨rfl, hb2⟩
      go_wp2_with fail
      go_ret
      exact ⟨ret_bool HE.out.symm, hbel1.trans (hb2.mono (Nat.le_of_lt hsz1))⟩
    · have HE : Hid (misusedB l n = false) := by show _ = _; unfold misusedB; rw [if_pos h4, hg]; rfl
      clear h4
      go_enter Tryz.func186, Tryz.ntmps186
      go_wp2_with fail
      refine (c_isGiven _ _ l _ 0 _ hl hsl).mono ?_
      rintro e w1 ⟨rfl, hb1⟩
      go_wp2_with fail
      go_ret
      exact ⟨ret_bool HE.out.symm, hbel.trans (hb1.mono (Nat.le_of_lt hsz))⟩
  have f4 : ((n.role : Int) == 4) = false := beq_eq_false_iff_ne.2 (by omega)
  by_cases h5 : n.role = 5
  · have f5 : ((n.role : Int) == 5) = true := beq_iff_eq.2 (by omega)
    have HE : Hid (misusedB l n = !isGivenB l n.word 1) := by show _ = _; unfold misusedB; rw [if_neg h4, if_pos h5]
    clear h4 h5
    go_enter Tryz.func186, Tryz.ntmps186
    go_wp2_with fail
    refine (c_isGiven _ _ l _ 1 _ hl hsl).mono ?_
    rintro e w1 ⟨rfl, hb1⟩
    go_wp2_with fail
    go_ret
    exact ⟨ret_bool HE.out.symm, hbel.trans (hb1.mono (Nat.le_of_lt hsz))⟩
  have f5 : ((n.role : Int) == 5) = false := beq_eq_false_iff_ne.2 (by omega)
  by_cases h6 : n.role = 6
  · have f6 : ((n.role : Int) == 6) = true := beq_iff_eq.2 (by omega)
    have HE : Hid (misusedB l n = !isGivenB l n.word 2) := by show _ = _; unfold misusedB; rw [if_neg h4, if_neg h5, if_pos (.inl h6)]
    clear h4 h5 h6
    go_enter Tryz.func186, Tryz.ntmps186
    go_wp2_with fail
    refine (c_isGiven _ _ l _ 2 _ hl hsl).mono ?_
    rintro e w1 ⟨rfl, hb1⟩
    go_wp2_with fail
    go_ret
    exact ⟨ret_bool HE.out.symm, hbel.trans (hb1.mono (Nat.le_of_lt hsz))⟩
  have f6 : ((n.role : Int) == 6) = false := beq_eq_false_iff_ne.2 (by omega)
  by_cases h7 : n.role = 7
  · have f7 : ((n.role : Int) == 7) = true := beq_iff_eq.2 (by omega)
    have HE : Hid (misusedB l n = !isGivenB l n.word 2) := by show _ = _; unfold misusedB; rw [if_neg h4, if_neg h5, if_pos (.inr h7)]
    clear h4 h5 h6 h7
    go_enter Tryz.func186, Tryz.ntmps186
    go_wp2_with fail
    refine (c_isGiven _ _ l _ 2 _ hl hsl).mono ?_
    rintro e w1 ⟨rfl, hb1⟩
    go_wp2_with fail
    go_ret
    exact ⟨ret_bool HE.out.symm, hbel.trans (hb1.mono (Nat.le_of_lt hsz))⟩
  have f7 : ((n.role : Int) == 7) = false := beq_eq_false_iff_ne.2 (by omega)
  have HE : Hid (misusedB l n = false) := by show _ = _; unfold misusedB; rw [if_neg h4, if_neg h5, if_neg (fun h => h.elim h6 h7)]
  clear h4 h5 h6 h7
  go_enter Tryz.func186, Tryz.ntmps186
  go_wp2_with fail
  go_ret
  exact ⟨ret_bool HE.out.symm, hbel⟩

set_option maxRecDepth 100000 in
set_option maxHeartbeats 1000000 in
theorem c_firstGivenTwice (ao : Option Addr) (cap : Nat) (l : List Nm) (w : World) (hl : l.length ≤ 1000) (hi : NmSl w ao l) :
    Calls Tryz.prog 138 #[.slice ao l.length cap] w fun e w' => e = .returned (optOut (twiceP l)) ∧ Below w.heap.size w w' := by
  go_enter Tryz.func138, Tryz.ntmps138
  go_wp2
  go_loopw [8] (fun u wr => ∃ k : Nat, u = .int .i64 k ∧ k ≤ l.length ∧ firstF (fun i n => clashF l i n 0) l k = twiceP l ∧ Below w.heap.size w wr) (fun u _ => l.length - (intOf u).toNat)
  case atStart => exact ⟨0, rfl, Nat.zero_le _, rfl, Below.refl _ _⟩
  case round =>
    obtain ⟨k, rfl, hk, hn, hbel⟩ := hrel
    have HN := hide hn
    clear hn
    by_cases hlt : k < l.length
    · have hsl := hi.below hbel
      obtain ⟨b, o, hb, hao, c1, c2, c3, c4⟩ := hsl k hlt
      subst hao
      have hsl2 := fun ob => hsl.below ((Below.refl _ _).alloc (Nat.le_refl _) ob)
      cases hc : clashF l k l[k] 0
      · have HE := hide (firstF_no (p := fun i n => clashF l i n 0) hlt hc)
        go_wp2_with fail
        refine (c_givenTwice _ _ l k l[k] _ hl (hsl2 _)).mono ?_
        rintro e w1 ⟨rfl, hb1⟩
        go_wp2_with fail
        go_roundw
        case rel => exact ⟨k + 1, by go_num, by omega, by rw [← HN.out, HE.out], (hbel.alloc hbel.size _).trans (hb1.mono (Nat.le_trans hbel.size (by simp)))⟩
        case measure => simp [intOf]; omega
      · have HE := hide (firstF_yes (p := fun i n => clashF l i n 0) hlt hc)
        go_wp2_with fail
        refine (c_givenTwice _ _ l k l[k] _ hl (hsl2 _)).mono ?_
        rintro e w1 ⟨rfl, hb1⟩
        have hc1 := (hb1.cell (p := ⟨wr.heap.size, 1, none⟩) (by simp))
        simp at hc1
        go_wp2_with fail
        go_ret2
        exact ⟨by rw [← HN.out, HE.out]; rfl, (hbel.alloc hbel.size _).trans (hb1.mono (Nat.le_trans hbel.size (by simp)))⟩
    · go_wp2
      go_ret2
      exact ⟨by rw [← HN.out, firstF_out hlt]; rfl, hbel⟩

set_option maxRecDepth 100000 in
set_option maxHeartbeats 1000000 in
theorem c_firstMisused (ao : Option Addr) (cap : Nat) (l : List Nm) (w : World) (hl : l.length ≤ 1000) (hi : NmSl w ao l) :
    Calls Tryz.prog 139 #[.slice ao l.length cap] w fun e w' => e = .returned (optOut (misP l)) ∧ Below w.heap.size w w' := by
  go_enter Tryz.func139, Tryz.ntmps139
  go_wp2
  go_loopw [8] (fun u wr => ∃ k : Nat, u = .int .i64 k ∧ k ≤ l.length ∧ firstF (fun _ n => misusedB l n) l k = misP l ∧ Below w.heap.size w wr) (fun u _ => l.length - (intOf u).toNat)
  case atStart => exact ⟨0, rfl, Nat.zero_le _, rfl, Below.refl _ _⟩
  case round =>
    obtain ⟨k, rfl, hk, hn, hbel⟩ := hrel
    have HN := hide hn
    clear hn
    by_cases hlt : k < l.length
    · have hsl := hi.below hbel
      obtain ⟨b, o, hb, hao, c1, c2, c3, c4⟩ := hsl k hlt
      subst hao
      have hsl2 := fun ob => hsl.below ((Below.refl _ _).alloc (Nat.le_refl _) ob)
      cases hc : misusedB l l[k]
      · have HE := hide (firstF_no (p := fun _ n => misusedB l n) hlt hc)
        go_wp2_with fail
        refine (c_misused _ _ l l[k] _ hl (hsl2 _)).mono ?_
        rintro e w1 ⟨rfl, hb1⟩
        go_wp2_with fail
        go_roundw
        case rel => exact ⟨k + 1, by go_num, by omega, by rw [← HN.out, HE.out], (hbel.alloc hbel.size _).trans (hb1.mono (Nat.le_trans hbel.size (by simp)))⟩
        case measure => simp [intOf]; omega
      · have HE := hide (firstF_yes (p := fun _ n => misusedB l n) hlt hc)
        go_wp2_with fail
        refine (c_misused _ _ l l[k] _ hl (hsl2 _)).mono ?_
        rintro e w1 ⟨rfl, hb1⟩
        have hc1 := (hb1.cell (p := ⟨wr.heap.size, 1, none⟩) (by simp))
        simp at hc1
        go_wp2_with fail
        go_ret2
        exact ⟨by rw [← HN.out, HE.out]; rfl, (hbel.alloc hbel.size _).trans (hb1.mono (Nat.le_trans hbel.size (by simp)))⟩
    · go_wp2
      go_ret2
      exact ⟨by rw [← HN.out, firstF_out hlt]; rfl, hbel⟩

end Go.Proofs.YtmfcpbhdggonfaaGreatDoor

namespace Go.Proofs.YtmfcpbhdggonfaaGreatDoor
open Go.RowKit RR

def CtsAt (w : World) (B : Nat) (c : Cts) : Prop := w.heap[B]? = some (.cells #[.int .i64 c.sh, .int .i64 c.lo, .int .i64 c.pr, .int .i64 c.pa, .int .i64 c.th] 282 (0, 0))

theorem CtsAt.cells {w : World} {B : Nat} {c : Cts} (h : CtsAt w B c) : w.cell? ⟨B, 0, none⟩ = some (.int .i64 c.sh) ∧ w.cell? ⟨B, 1, none⟩ = some (.int .i64 c.lo) ∧ w.cell? ⟨B, 2, none⟩ = some (.int .i64 c.pr) ∧ w.cell? ⟨B, 3, none⟩ = some (.int .i64 c.pa) ∧ w.cell? ⟨B, 4, none⟩ = some (.int .i64 c.th) ∧ (∀ i, w.frozen? ⟨B, i, none⟩ = false) := by
  unfold CtsAt at h
  refine ⟨?_, ?_, ?_, ?_, ?_, fun i => ?_⟩ <;> simp [World.cell?, World.frozen?, h]

set_option maxRecDepth 100000 in
set_option maxHeartbeats 1000000 in
theorem c_tooMany (w : World) (B : Nat) (c : Cts) (h : CtsAt w B c) :
    Calls Tryz.prog 184 #[.pointer (some ⟨B, 0, none⟩)] w fun e w' => e = .returned (.bool c.too) ∧ w' = w := by
  obtain ⟨c0, c1, c2, c3, c4, _⟩ := h.cells
  by_cases h0 : 4 < c.sh
  · have HE : Hid (c.too = true) := by show _ = _; unfold Cts.too; simp; omega
    have g0 : (4 : Int) < c.sh := by omega
    have d0 : decide ((4 : Int) < c.sh) = true := decide_eq_true (by omega)
    go_enter Tryz.func184, Tryz.ntmps184
    go_wp2_with fail
    go_ret
    exact ⟨ret_bool (by rw [HE.out]), rfl⟩
  by_cases h1 : 3 < c.lo
  · have HE : Hid (c.too = true) := by show _ = _; unfold Cts.too; simp; omega
    have g0 : (c.sh : Int) ≤ 4 := by omega
    have d0 : decide ((4 : Int) < c.sh) = false := decide_eq_false (by omega)
    have g1 : (3 : Int) < c.lo := by omega
    have d1 : decide ((3 : Int) < c.lo) = true := decide_eq_true (by omega)
    go_enter Tryz.func184, Tryz.ntmps184
    go_wp2_with fail
    go_ret
    exact ⟨ret_bool (by rw [HE.out]), rfl⟩
  by_cases h2 : 4 < c.pr
  · have HE : Hid (c.too = true) := by show _ = _; unfold Cts.too; simp; omega
    have g0 : (c.sh : Int) ≤ 4 := by omega
    have d0 : decide ((4 : Int) < c.sh) = false := decide_eq_false (by omega)
    have g1 : (c.lo : Int) ≤ 3 := by omega
    have d1 : decide ((3 : Int) < c.lo) = false := decide_eq_false (by omega)
    have g2 : (4 : Int) < c.pr := by omega
    have d2 : decide ((4 : Int) < c.pr) = true := decide_eq_true (by omega)
    go_enter Tryz.func184, Tryz.ntmps184
    go_wp2_with fail
    go_ret
    exact ⟨ret_bool (by rw [HE.out]), rfl⟩
  by_cases h3 : 3 < c.pa
  · have HE : Hid (c.too = true) := by show _ = _; unfold Cts.too; simp; omega
    have g0 : (c.sh : Int) ≤ 4 := by omega
    have d0 : decide ((4 : Int) < c.sh) = false := decide_eq_false (by omega)
    have g1 : (c.lo : Int) ≤ 3 := by omega
    have d1 : decide ((3 : Int) < c.lo) = false := decide_eq_false (by omega)
    have g2 : (c.pr : Int) ≤ 4 := by omega
    have d2 : decide ((4 : Int) < c.pr) = false := decide_eq_false (by omega)
    have g3 : (3 : Int) < c.pa := by omega
    have d3 : decide ((3 : Int) < c.pa) = true := decide_eq_true (by omega)
    go_enter Tryz.func184, Tryz.ntmps184
    go_wp2_with fail
    go_ret
    exact ⟨ret_bool (by rw [HE.out]), rfl⟩
  by_cases h4 : 3 < c.th
  · have HE : Hid (c.too = true) := by show _ = _; unfold Cts.too; simp; omega
    have g0 : (c.sh : Int) ≤ 4 := by omega
    have d0 : decide ((4 : Int) < c.sh) = false := decide_eq_false (by omega)
    have g1 : (c.lo : Int) ≤ 3 := by omega
    have d1 : decide ((3 : Int) < c.lo) = false := decide_eq_false (by omega)
    have g2 : (c.pr : Int) ≤ 4 := by omega
    have d2 : decide ((4 : Int) < c.pr) = false := decide_eq_false (by omega)
    have g3 : (c.pa : Int) ≤ 3 := by omega
    have d3 : decide ((3 : Int) < c.pa) = false := decide_eq_false (by omega)
    have g4 : (3 : Int) < c.th := by omega
    have d4 : decide ((3 : Int) < c.th) = true := decide_eq_true (by omega)
    go_enter Tryz.func184, Tryz.ntmps184
    go_wp2_with fail
    go_ret
    exact ⟨ret_bool (by rw [HE.out]), rfl⟩
  have g0 : (c.sh : Int) ≤ 4 := by omega
  have d0 : decide ((4 : Int) < c.sh) = false := decide_eq_false (by omega)
  have g1 : (c.lo : Int) ≤ 3 := by omega
  have d1 : decide ((3 : Int) < c.lo) = false := decide_eq_false (by omega)
  have g2 : (c.pr : Int) ≤ 4 := by omega
  have d2 : decide ((4 : Int) < c.pr) = false := decide_eq_false (by omega)
  have g3 : (c.pa : Int) ≤ 3 := by omega
  have d3 : decide ((3 : Int) < c.pa) = false := decide_eq_false (by omega)
  have g4 : (c.th : Int) ≤ 3 := by omega
  have d4 : decide ((3 : Int) < c.th) = false := decide_eq_false (by omega)
  have HE : Hid (c.too = false) := by show _ = _; unfold Cts.too; simp; omega
  go_enter Tryz.func184, Tryz.ntmps184
  go_wp2_with fail
  go_ret
  exact ⟨ret_bool (by rw [HE.out]), rfl⟩

end Go.Proofs.YtmfcpbhdggonfaaGreatDoor

namespace Go.Proofs.YtmfcpbhdggonfaaGreatDoor
open Go.RowKit RR

structure Only (B : Nat) (w w' : World) : Prop where
  os : w'.os = w.os
  tape : w'.tape = w.tape
  output : w'.output = w.output
  size : w'.heap.size = w.heap.size
  block : ∀ k, k ≠ B → w'.heap[k]? = w.heap[k]?

theorem Only.refl (B : Nat) (w : World) : Only B w w := ⟨rfl, rfl, rfl, rfl, fun _ _ => rfl⟩
theorem Only.set {B : Nat} {a w : World} (h : Only B a w) (o : Nat) (v : Value) : Only B a (w.setCell ⟨B, o, none⟩ v) :=
  ⟨h.os, h.tape, h.output, by rw [← h.size]; simp [World.setCell], fun k hk => (Below.heap_setCell w ⟨B, o, none⟩ v k hk).trans (h.block k hk)⟩
theorem Only.cell {B : Nat} {w w' : World} (h : Only B w w') {p : Addr} (hp : p.block ≠ B) : w'.cell? p = w.cell? p := World.cell?_of_block (w := w) (h.block p.block hp)
theorem Only.below {B : Nat} {w w' : World} (h : Only B w w') : Below B w w' := ⟨h.os, h.tape, h.output, Nat.le_of_eq h.size.symm, fun k hk => h.block k (by omega)⟩

theorem cts_set {w : World} {B : Nat} {cs : Array Value} {T : TypeId} (h : w.heap[B]? = some (.cells cs T (0, 0))) (o : Nat) (v : Value) : (w.setCell ⟨B, o, none⟩ v).heap[B]? = some (.cells (cs.setIfInBounds o v) T (0, 0)) := by
  simp only [World.setCell, Array.getElem?_modify]
  rw [if_pos trivial, h]
  rfl

set_option maxRecDepth 100000 in
set_option maxHeartbeats 1000000 in
theorem c_add (w : World) (B : Nat) (c : Cts) (r : Nat) (h : CtsAt w B c) (hb : c.sh ≤ 1000 ∧ c.lo ≤ 1000 ∧ c.pr ≤ 1000 ∧ c.pa ≤ 1000 ∧ c.th ≤ 1000) :
    Calls Tryz.prog 183 #[.pointer (some ⟨B, 0, none⟩), .int .i64 r] w fun e w' => e = .returned (.tuple #[]) ∧ CtsAt w' B (c.add r) ∧ Only B w w' := by
  obtain ⟨b0, b1, b2, b3, b4⟩ := hb
  obtain ⟨c0, c1, c2, c3, c4, hf⟩ := h.cells
  have f0 := hf 0
  have f1 := hf 1
  have f2 := hf 2
  have f3 := hf 3
  have f4 := hf 4
  clear hf
  by_cases h0 : r = 0
  · have e0 : ((r : Int) == 0) = true := beq_iff_eq.2 (by omega)
    have HE : Hid (c.add r = { c with sh := c.sh + 1 }) := by show _ = _; unfold Cts.add; rw [if_pos h0]
    have H := hide h
    clear h h0
    go_enter Tryz.func183, Tryz.ntmps183
    go_wp2_with fail
    go_end0
    refine ⟨rfl, ?_, (Only.refl _ _).set _ _⟩
    rw [HE.out]
    exact cts_set H.out 0 _
  by_cases h1 : r = 1
  · have e1 : ((r : Int) == 1) = true := beq_iff_eq.2 (by omega)
    have e0 : ((r : Int) == 0) = false := beq_eq_false_iff_ne.2 (by omega)
    have HE : Hid (c.add r = { c with lo := c.lo + 1 }) := by show _ = _; unfold Cts.add; rw [if_neg h0, if_pos h1]
    have H := hide h
    clear h h0 h1
    go_enter Tryz.func183, Tryz.ntmps183
    go_wp2_with fail
    go_end0
    refine ⟨rfl, ?_, (Only.refl _ _).set _ _⟩
    rw [HE.out]
    exact cts_set H.out 1 _
  by_cases h2 : r = 2
  · have e2 : ((r : Int) == 2) = true := beq_iff_eq.2 (by omega)
    have e0 : ((r : Int) == 0) = false := beq_eq_false_iff_ne.2 (by omega)
    have e1 : ((r : Int) == 1) = false := beq_eq_false_iff_ne.2 (by omega)
    have HE : Hid (c.add r = { c with pr := c.pr + 1, pa := 0 }) := by show _ = _; unfold Cts.add; rw [if_neg h0, if_neg h1, if_pos h2]
    have H := hide h
    clear h h0 h1 h2
    go_enter Tryz.func183, Tryz.ntmps183
    go_wp2_with fail
    go_end0
    refine ⟨rfl, ?_, ((Only.refl _ _).set _ _).set _ _⟩
    rw [HE.out]
    exact cts_set (cts_set H.out 2 _) 3 _
  by_cases h3 : r = 3
  · have e3 : ((r : Int) == 3) = true := beq_iff_eq.2 (by omega)
    have e0 : ((r : Int) == 0) = false := beq_eq_false_iff_ne.2 (by omega)
    have e1 : ((r : Int) == 1) = false := beq_eq_false_iff_ne.2 (by omega)
    have e2 : ((r : Int) == 2) = false := beq_eq_false_iff_ne.2 (by omega)
    have HE : Hid (c.add r = { c with pa := c.pa + 1 }) := by show _ = _; unfold Cts.add; rw [if_neg h0, if_neg h1, if_neg h2, if_pos h3]
    have H := hide h
    clear h h0 h1 h2 h3
    go_enter Tryz.func183, Tryz.ntmps183
    go_wp2_with fail
    go_end0
    refine ⟨rfl, ?_, (Only.refl _ _).set _ _⟩
    rw [HE.out]
    exact cts_set H.out 3 _
  by_cases h7 : r = 7
  · have e7 : ((r : Int) == 7) = true := beq_iff_eq.2 (by omega)
    have e0 : ((r : Int) == 0) = false := beq_eq_false_iff_ne.2 (by omega)
    have e1 : ((r : Int) == 1) = false := beq_eq_false_iff_ne.2 (by omega)
    have e2 : ((r : Int) == 2) = false := beq_eq_false_iff_ne.2 (by omega)
    have e3 : ((r : Int) == 3) = false := beq_eq_false_iff_ne.2 (by omega)
    have HE : Hid (c.add r = { c with th := c.th + 1 }) := by show _ = _; unfold Cts.add; rw [if_neg h0, if_neg h1, if_neg h2, if_neg h3, if_pos h7]
    have H := hide h
    clear h h0 h1 h2 h3 h7
    go_enter Tryz.func183, Tryz.ntmps183
    go_wp2_with fail
    go_end0
    refine ⟨rfl, ?_, (Only.refl _ _).set _ _⟩
    rw [HE.out]
    exact cts_set H.out 4 _
  have e0 : ((r : Int) == 0) = false := beq_eq_false_iff_ne.2 (by omega)
  have e1 : ((r : Int) == 1) = false := beq_eq_false_iff_ne.2 (by omega)
  have e2 : ((r : Int) == 2) = false := beq_eq_false_iff_ne.2 (by omega)
  have e3 : ((r : Int) == 3) = false := beq_eq_false_iff_ne.2 (by omega)
  have e7 : ((r : Int) == 7) = false := beq_eq_false_iff_ne.2 (by omega)
  have HE : Hid (c.add r = c) := by show _ = _; unfold Cts.add; rw [if_neg h0, if_neg h1, if_neg h2, if_neg h3, if_neg h7]
  have H := hide h
  clear h h0 h1 h2 h3 h7
  go_enter Tryz.func183, Tryz.ntmps183
  go_wp2_with fail
  go_end0
  exact ⟨rfl, by rw [HE.out]; exact H.out, Only.refl _ _⟩

theorem add_le (c : Cts) (r k : Nat) (h : c.sh ≤ k ∧ c.lo ≤ k ∧ c.pr ≤ k ∧ c.pa ≤ k ∧ c.th ≤ k) : (c.add r).sh ≤ k + 1 ∧ (c.add r).lo ≤ k + 1 ∧ (c.add r).pr ≤ k + 1 ∧ (c.add r).pa ≤ k + 1 ∧ (c.add r).th ≤ k + 1 := by
  unfold Cts.add
  (repeat' split) <;> (try dsimp only) <;> omega

set_option maxRecDepth 100000 in
set_option maxHeartbeats 1000000 in
theorem c_firstTooMany (ao : Option Addr) (cap : Nat) (l : List Nm) (w : World) (hl : l.length ≤ 999) (hi : NmSl w ao l) :
    Calls Tryz.prog 137 #[.slice ao l.length cap] w fun e w' => e = .returned (optOut (manyP l)) ∧ Below w.heap.size w w' := by
  go_enter Tryz.func137, Tryz.ntmps137
  go_wp2
  go_loopw [9] (fun u wr => ∃ (k : Nat) (c : Cts), u = .int .i64 k ∧ k ≤ l.length ∧ manyF2 (l.drop k) c = manyP l ∧ (c.sh ≤ k ∧ c.lo ≤ k ∧ c.pr ≤ k ∧ c.pa ≤ k ∧ c.th ≤ k) ∧ CtsAt wr w.heap.size c ∧ w.heap.size < wr.heap.size ∧ Below w.heap.size w wr) (fun u _ => l.length - (intOf u).toNat)
  case atStart => exact ⟨0, ⟨0, 0, 0, 0, 0⟩, rfl, Nat.zero_le _, rfl, by simp, heap_alloc_new w _, by simp, (Below.refl _ _).alloc (Nat.le_refl _) _⟩
  case round =>
    obtain ⟨k, c, rfl, hk, hn, hcb, hct, hsz, hbel⟩ := hrel
    have HN := hide hn
    clear hn
    by_cases hlt : k < l.length
    · have hsl := hi.below hbel
      obtain ⟨b, o, hb, hao, c1, c2, c3, c4⟩ := hsl k hlt
      subst hao
      have HD : Hid (l.drop k = l[k] :: l.drop (k + 1)) := List.drop_eq_getElem_cons hlt
      have hct1 : ∀ ob, CtsAt (wr.alloc ob) w.heap.size c := fun ob => (Below.heap_alloc wr ob _ hsz).trans hct
      have hle := add_le c l[k].role k hcb
      cases hT : (c.add l[k].role).too
      · have HE : Hid (manyF2 (l.drop k) c = manyF2 (l.drop (k + 1)) (c.add l[k].role)) := by show _ = _; rw [HD.out, manyF2, hT]; rfl
        go_wp2_with fail
        refine (c_add _ _ c _ (hct1 _) (by omega)).mono ?_
        rintro e w1 ⟨rfl, hc1, ho1⟩
        go_wp2_with fail
        refine (c_tooMany _ _ _ hc1).mono ?_
        rintro e w2 ⟨rfl, hw2⟩
        subst hw2
        go_wp2_with fail
        go_roundw
        case rel => exact ⟨k + 1, c.add l[k].role, by go_num, by omega, by rw [← HN.out, HE.out], hle, hc1, by rw [ho1.size]; simp; omega, (hbel.alloc hbel.size _).trans ho1.below⟩
        case measure => simp [intOf]; omega
      · have HE : Hid (manyF2 (l.drop k) c = some l[k].at_) := by show _ = _; rw [HD.out, manyF2, hT]; rfl
        go_wp2_with fail
        refine (c_add _ _ c _ (hct1 _) (by omega)).mono ?_
        rintro e w1 ⟨rfl, hc1, ho1⟩
        have hcl := ho1.cell (p := ⟨wr.heap.size, 1, none⟩) (by show wr.heap.size ≠ w.heap.size; omega)
        simp at hcl
        go_wp2_with fail
        refine (c_tooMany _ _ _ hc1).mono ?_
        rintro e w2 ⟨rfl, hw2⟩
        subst hw2
        go_wp2_with fail
        go_ret2
        exact ⟨by rw [← HN.out, HE.out]; rfl, (hbel.alloc hbel.size _).trans ho1.below⟩
    · go_wp2
      go_ret2
      exact ⟨by rw [← HN.out, List.drop_of_length_le (by omega)]; rfl, hbel⟩

end Go.Proofs.YtmfcpbhdggonfaaGreatDoor

namespace RR

structure PSt where
  next : Nat
  depth : Int
  proc : Int
  failed : Bool
  names : List Nm
  calls : List Cl

def PSt.fail (σ : PSt) : PSt := { σ with failed := true }
def PSt.step (σ : PSt) : PSt := { σ with next := σ.next + 1 }

def PSt.ahead (L : List Tk) (σ : PSt) (n : Nat) : Tk := if h : σ.failed = false ∧ σ.next + n < L.length then L[σ.next + n] else ⟨⟨#[]⟩, 0⟩

def PSt.sees (L : List Tk) (σ : PSt) (t : ByteArray) : Bool := decide ((σ.ahead L 0).t = t)

def PSt.take (L : List Tk) (σ : PSt) (t : ByteArray) : PSt := if σ.sees L t then σ.step else σ.fail

def PSt.seesCall (L : List Tk) (σ : PSt) : Bool := isNameB (σ.ahead L 0).t && decide ((σ.ahead L 1).t = ⟨#[40]⟩)

def PSt.takeName (L : List Tk) (σ : PSt) (role : Nat) : PSt :=
  if isNameB (σ.ahead L 0).t then { σ with next := σ.next + 1, names := σ.names ++ [⟨(σ.ahead L 0).t, (σ.ahead L 0).p, role, σ.proc⟩] } else σ.fail

theorem ahead_in {L : List Tk} {σ : PSt} {n : Nat} (h : σ.failed = false) (h2 : σ.next + n < L.length) : σ.ahead L n = L[σ.next + n] := by unfold PSt.ahead; rw [dif_pos ⟨h, h2⟩]
theorem ahead_failed {L : List Tk} {σ : PSt} {n : Nat} (h : σ.failed = true) : σ.ahead L n = ⟨⟨#[]⟩, 0⟩ := by unfold PSt.ahead; rw [dif_neg (by rw [h]; simp)]
theorem ahead_out {L : List Tk} {σ : PSt} {n : Nat} (h2 : ¬ σ.next + n < L.length) : σ.ahead L n = ⟨⟨#[]⟩, 0⟩ := by unfold PSt.ahead; rw [dif_neg (fun h => h2 h.2)]

def Inv (σ : PSt) : Prop := σ.names.length ≤ σ.next ∧ σ.calls.length ≤ σ.next + (if σ.failed then 1 else 0)
theorem inv_fail {σ : PSt} (h : Inv σ) : Inv σ.fail := by
  refine ⟨h.1, ?_⟩
  have := h.2
  show σ.calls.length ≤ σ.next + 1
  split at this <;> omega
theorem inv_step {σ : PSt} (h : Inv σ) : Inv σ.step := by
  refine ⟨Nat.le_succ_of_le h.1, ?_⟩
  have := h.2
  show σ.calls.length ≤ σ.next + 1 + (if σ.failed then 1 else 0)
  omega
theorem inv_name {σ : PSt} (h : Inv σ) (n : Nm) : Inv { σ with next := σ.next + 1, names := σ.names ++ [n] } := by
  refine ⟨?_, ?_⟩
  · show (σ.names ++ [n]).length ≤ σ.next + 1
    rw [List.length_append]; exact Nat.succ_le_succ h.1
  · have := h.2
    show σ.calls.length ≤ σ.next + 1 + (if σ.failed then 1 else 0)
    omega
theorem Inv.small {σ : PSt} (h : Inv σ) : σ.names.length ≤ σ.next ∧ σ.calls.length ≤ σ.next + 1 := by
  refine ⟨h.1, ?_⟩
  have := h.2
  split at this <;> omega

theorem sees_lt {L : List Tk} {σ : PSt} {t : ByteArray} (ht : t ≠ ⟨#[]⟩) (h : σ.sees L t = true) : σ.next < L.length ∧ σ.failed = false := by
  unfold PSt.sees at h
  rw [decide_eq_true_iff] at h
  cases hf : σ.failed
  · by_cases h2 : σ.next + 0 < L.length
    · exact ⟨h2, rfl⟩
    · rw [ahead_out h2] at h; exact absurd h.symm ht
  · rw [ahead_failed hf] at h; exact absurd h.symm ht
theorem name_lt {L : List Tk} {σ : PSt} (h : isNameB (σ.ahead L 0).t = true) : σ.next < L.length ∧ σ.failed = false := by
  have he : isNameB (⟨#[]⟩ : ByteArray) = false := isName_empty rfl
  cases hf : σ.failed
  · by_cases h2 : σ.next + 0 < L.length
    · exact ⟨h2, rfl⟩
    · rw [ahead_out h2, he] at h; cases h
  · rw [ahead_failed hf, he] at h; cases h

end RR

/- The program's parser, its recursive functions, with so much fuel. Plain functions. No Go here. -/
namespace RR
open Go Go.RowKit

def enterP (L : List Tk) (σ : PSt) (t : ByteArray) : PSt := if 6 ≤ σ.depth then σ.fail else { σ.take L t with depth := wrap64 ((σ.take L t).depth + 1) }
def leaveP (L : List Tk) (σ : PSt) (t : ByteArray) : PSt := { σ.take L t with depth := wrap64 ((σ.take L t).depth - 1) }
def takeEndP (L : List Tk) (σ : PSt) : PSt := if σ.next < L.length then σ.fail else σ

def notsP (L : List Tk) : Nat → PSt → Option PSt
  | 0, _ => none
  | f + 1, σ => if σ.sees L ⟨#[33]⟩ then notsP L f (σ.take L ⟨#[33]⟩) else some σ

def exprsP (L : List Tk) : Nat → Nat → PSt → Option PSt
  | 0, _, _ => none
  | f + 1, 0, σ => (exprsP L f 2 σ).bind (exprsP L f 1)
  | f + 1, 1, σ => if σ.sees L ⟨#[124]⟩ then (exprsP L f 2 σ.step).bind (exprsP L f 1) else some σ
  | f + 1, 2, σ => (exprsP L f 4 σ).bind (exprsP L f 3)
  | f + 1, 3, σ => if σ.sees L ⟨#[38]⟩ then (exprsP L f 4 σ.step).bind (exprsP L f 3) else some σ
  | f + 1, 4, σ => (notsP L f σ).bind fun σ1 =>
      if (σ1.ahead L 0).t = ⟨#[40]⟩ then exprsP L f 5 σ1
      else if (σ1.ahead L 0).t = ⟨#[116, 114, 117, 101]⟩ ∨ (σ1.ahead L 0).t = ⟨#[102, 97, 108, 115, 101]⟩ ∨ (σ1.ahead L 0).t = ⟨#[63]⟩ then some (σ1.take L (σ1.ahead L 0).t)
      else some (σ1.takeName L 4)
  | f + 1, _, σ => (exprsP L f 0 (enterP L σ ⟨#[40]⟩)).map fun σ1 => leaveP L σ1 ⟨#[41]⟩
def exprP (L : List Tk) (f : Nat) (σ : PSt) : Option PSt := exprsP L f 0 σ
def orP (L : List Tk) (f : Nat) (σ : PSt) : Option PSt := exprsP L f 1 σ
def termP (L : List Tk) (f : Nat) (σ : PSt) : Option PSt := exprsP L f 2 σ
def andP (L : List Tk) (f : Nat) (σ : PSt) : Option PSt := exprsP L f 3 σ
def factorP (L : List Tk) (f : Nat) (σ : PSt) : Option PSt := exprsP L f 4 σ
def bracketedP (L : List Tk) (f : Nat) (σ : PSt) : Option PSt := exprsP L f 5 σ
theorem exprP_zero (L : List Tk) (σ : PSt) : exprP L 0 σ = none := rfl
theorem orP_zero (L : List Tk) (σ : PSt) : orP L 0 σ = none := rfl
theorem termP_zero (L : List Tk) (σ : PSt) : termP L 0 σ = none := rfl
theorem andP_zero (L : List Tk) (σ : PSt) : andP L 0 σ = none := rfl
theorem factorP_zero (L : List Tk) (σ : PSt) : factorP L 0 σ = none := rfl
theorem bracketedP_zero (L : List Tk) (σ : PSt) : bracketedP L 0 σ = none := rfl
theorem exprP_succ (L : List Tk) (f : Nat) (σ : PSt) : exprP L (f + 1) σ = (termP L f σ).bind (orP L f) := rfl
theorem orP_succ (L : List Tk) (f : Nat) (σ : PSt) : orP L (f + 1) σ = if σ.sees L ⟨#[124]⟩ then (termP L f σ.step).bind (orP L f) else some σ := rfl
theorem termP_succ (L : List Tk) (f : Nat) (σ : PSt) : termP L (f + 1) σ = (factorP L f σ).bind (andP L f) := rfl
theorem andP_succ (L : List Tk) (f : Nat) (σ : PSt) : andP L (f + 1) σ = if σ.sees L ⟨#[38]⟩ then (factorP L f σ.step).bind (andP L f) else some σ := rfl
theorem factorP_succ (L : List Tk) (f : Nat) (σ : PSt) : factorP L (f + 1) σ = (notsP L f σ).bind fun σ1 =>
      if (σ1.ahead L 0).t = ⟨#[40]⟩ then bracketedP L f σ1
      else if (σ1.ahead L 0).t = ⟨#[116, 114, 117, 101]⟩ ∨ (σ1.ahead L 0).t = ⟨#[102, 97, 108, 115, 101]⟩ ∨ (σ1.ahead L 0).t = ⟨#[63]⟩ then some (σ1.take L (σ1.ahead L 0).t)
      else some (σ1.takeName L 4) := rfl
theorem bracketedP_succ (L : List Tk) (f : Nat) (σ : PSt) : bracketedP L (f + 1) σ = (exprP L f (enterP L σ ⟨#[40]⟩)).map fun σ1 => leaveP L σ1 ⟨#[41]⟩ := rfl

def moreP (L : List Tk) (role : Nat) : Nat → PSt → Option PSt
  | 0, _ => none
  | f + 1, σ => if σ.sees L ⟨#[44]⟩ then moreP L role f (σ.step.takeName L role) else some σ

def valuesP (L : List Tk) : Nat → PSt → Nat → Option (PSt × Nat)
  | 0, _, _ => none
  | f + 1, σ, n => if σ.sees L ⟨#[44]⟩ then (exprP L f σ.step).bind fun σ1 => valuesP L f σ1 (n + 1) else some (σ, n)

end RR

/- The program's parser: what expressions leave as it was; values, calls. Plain functions. No Go here. -/
namespace RR
open Go Go.RowKit

def Good (σ σ' : PSt) : Prop := σ'.calls = σ.calls ∧ σ.next ≤ σ'.next ∧ σ'.proc = σ.proc
theorem Good.refl (σ : PSt) : Good σ σ := ⟨rfl, Nat.le_refl _, rfl⟩
theorem Good.trans {a b c : PSt} (h : Good a b) (k : Good b c) : Good a c := ⟨k.1.trans h.1, Nat.le_trans h.2.1 k.2.1, k.2.2.trans h.2.2⟩
theorem good_fail (σ : PSt) : Good σ σ.fail := ⟨rfl, Nat.le_refl _, rfl⟩
theorem good_step (σ : PSt) : Good σ σ.step := ⟨rfl, Nat.le_succ _, rfl⟩
theorem good_take (L : List Tk) (σ : PSt) (t : ByteArray) : Good σ (σ.take L t) := by
  unfold PSt.take; split
  · exact good_step σ
  · exact good_fail σ
theorem good_takeName (L : List Tk) (σ : PSt) (r : Nat) : Good σ (σ.takeName L r) := by
  unfold PSt.takeName; split
  · exact ⟨rfl, Nat.le_succ _, rfl⟩
  · exact good_fail σ
theorem good_enter (L : List Tk) (σ : PSt) (t : ByteArray) : Good σ (enterP L σ t) := by
  unfold enterP; split
  · exact good_fail σ
  · have := good_take L σ t
    exact ⟨this.1, this.2.1, this.2.2⟩
theorem good_leave (L : List Tk) (σ : PSt) (t : ByteArray) : Good σ (leaveP L σ t) := by
  have := good_take L σ t
  exact ⟨this.1, this.2.1, this.2.2⟩

theorem good_nots (L : List Tk) : ∀ (f : Nat) (σ σ' : PSt), notsP L f σ = some σ' → Good σ σ' := by
  intro f
  induction f with
  | zero => intro σ σ' h; rw [notsP] at h; cases h
  | succ f ih =>
    intro σ σ' h
    rw [notsP] at h
    split at h
    · exact (good_take L σ _).trans (ih _ _ h)
    · rw [← Option.some.inj h]; exact Good.refl _

theorem bindS {α β : Type} {o : Option α} {g : α → Option β} {b : β} (h : o.bind g = some b) : ∃ a, o = some a ∧ g a = some b := by
  cases o with
  | none => cases h
  | some a => exact ⟨a, rfl, h⟩

theorem good_exprs (L : List Tk) : ∀ f : Nat, (∀ σ σ', exprP L f σ = some σ' → Good σ σ') ∧ (∀ σ σ', orP L f σ = some σ' → Good σ σ') ∧ (∀ σ σ', termP L f σ = some σ' → Good σ σ') ∧ (∀ σ σ', andP L f σ = some σ' → Good σ σ') ∧ (∀ σ σ', factorP L f σ = some σ' → Good σ σ') ∧ (∀ σ σ', bracketedP L f σ = some σ' → Good σ σ') := by
  intro f
  induction f with
  | zero =>
    refine ⟨?_, ?_, ?_, ?_, ?_, ?_⟩ <;> intro σ σ' h
    · rw [exprP_zero] at h; cases h
    · rw [orP_zero] at h; cases h
    · rw [termP_zero] at h; cases h
    · rw [andP_zero] at h; cases h
    · rw [factorP_zero] at h; cases h
    · rw [bracketedP_zero] at h; cases h
  | succ f ih =>
    obtain ⟨i1, i2, i3, i4, i5, i6⟩ := ih
    refine ⟨?_, ?_, ?_, ?_, ?_, ?_⟩ <;> intro σ σ' h
    · rw [exprP_succ] at h
      obtain ⟨a, h1, h2⟩ := bindS h
      exact (i3 _ _ h1).trans (i2 _ _ h2)
    · rw [orP_succ] at h
      split at h
      · obtain ⟨a, h1, h2⟩ := bindS h
        exact (good_step σ).trans ((i3 _ _ h1).trans (i2 _ _ h2))
      · rw [← Option.some.inj h]; exact Good.refl _
    · rw [termP_succ] at h
      obtain ⟨a, h1, h2⟩ := bindS h
      exact (i5 _ _ h1).trans (i4 _ _ h2)
    · rw [andP_succ] at h
      split at h
      · obtain ⟨a, h1, h2⟩ := bindS h
        exact (good_step σ).trans ((i5 _ _ h1).trans (i4 _ _ h2))
      · rw [← Option.some.inj h]; exact Good.refl _
    · rw [factorP_succ] at h
      obtain ⟨a, h1, h2⟩ := bindS h
      refine (good_nots L f _ _ h1).trans ?_
      split at h2
      · exact i6 _ _ h2
      · split at h2
        · rw [← Option.some.inj h2]; exact good_take L a _
        · rw [← Option.some.inj h2]; exact good_takeName L a 4
    · rw [bracketedP_succ] at h
      obtain ⟨a, h1, h2⟩ := Option.map_eq_some_iff.1 h
      rw [← h2]
      exact ((good_enter L σ _).trans (i1 _ _ h1)).trans (good_leave L a _)

theorem good_expr {L : List Tk} {f : Nat} {σ σ' : PSt} (h : exprP L f σ = some σ') : Good σ σ' := (good_exprs L f).1 σ σ' h

theorem good_values (L : List Tk) : ∀ (f : Nat) (σ : PSt) (n : Nat) (r : PSt × Nat), valuesP L f σ n = some r → n ≤ σ.next + 1 → Good σ r.1 ∧ r.2 ≤ r.1.next + 1 := by
  intro f
  induction f with
  | zero => intro σ n r h; rw [valuesP] at h; cases h
  | succ f ih =>
    intro σ n r h hn
    rw [valuesP] at h
    split at h
    · obtain ⟨a, h1, h2⟩ := bindS h
      have g := (good_step σ).trans (good_expr h1)
      have := ih a (n + 1) r h2 (by have := (good_expr h1).2.1; have e : σ.step.next = σ.next + 1 := rfl; omega)
      exact ⟨g.trans this.1, this.2⟩
    · rw [← Option.some.inj h]; exact ⟨Good.refl _, hn⟩

def callP (L : List Tk) (f : Nat) (σ : PSt) : Option PSt :=
  (if (enterP L (σ.takeName L 6) ⟨#[40]⟩).sees L ⟨#[41]⟩ then some (enterP L (σ.takeName L 6) ⟨#[40]⟩, 0)
   else (exprP L f (enterP L (σ.takeName L 6) ⟨#[40]⟩)).bind fun τ => valuesP L f τ 1).map fun r =>
    { leaveP L r.1 ⟨#[41]⟩ with calls := (leaveP L r.1 ⟨#[41]⟩).calls ++ [⟨(σ.ahead L 0).t, (σ.ahead L 0).p, r.2⟩] }

end RR

/- The program's parser: statements, procedures, the program. Plain functions. No Go here. -/
namespace RR
open Go Go.RowKit

def assignedP (L : List Tk) (f : Nat) (σ : PSt) : Option PSt := if σ.seesCall L then callP L f σ else exprP L f σ
def assignOrCallP (L : List Tk) (f : Nat) (σ : PSt) : Option PSt :=
  (if σ.seesCall L then callP L f σ else assignedP L f ((σ.takeName L 4).take L ⟨#[61]⟩)).map fun τ => τ.take L ⟨#[59]⟩
def giveBackP (L : List Tk) (f : Nat) (σ : PSt) : Option PSt :=
  (if (σ.take L ⟨#[114, 101, 116, 117, 114, 110]⟩).sees L ⟨#[59]⟩ then some (σ.take L ⟨#[114, 101, 116, 117, 114, 110]⟩) else exprP L f (σ.take L ⟨#[114, 101, 116, 117, 114, 110]⟩)).map fun τ => τ.take L ⟨#[59]⟩

def blocksP (L : List Tk) : Nat → Nat → PSt → Option PSt
  | 0, _, _ => none
  | f + 1, 0, σ => (blocksP L f 1 (enterP L σ ⟨#[123]⟩)).map fun τ => leaveP L τ ⟨#[125]⟩
  | f + 1, 1, σ => if σ.failed = false ∧ σ.sees L ⟨#[125]⟩ = false then (blocksP L f 2 σ).bind (blocksP L f 1) else some σ
  | f + 1, 2, σ =>
    if (σ.ahead L 0).t = ⟨#[105, 102]⟩ then blocksP L f 3 σ
    else if (σ.ahead L 0).t = ⟨#[119, 104, 105, 108, 101]⟩ then (bracketedP L f (σ.take L ⟨#[119, 104, 105, 108, 101]⟩)).bind (blocksP L f 0)
    else if (σ.ahead L 0).t = ⟨#[97, 115, 115, 117, 109, 101]⟩ then (exprP L f (σ.take L ⟨#[97, 115, 115, 117, 109, 101]⟩)).map fun τ => τ.take L ⟨#[59]⟩
    else if (σ.ahead L 0).t = ⟨#[97, 99, 113, 117, 105, 114, 101]⟩ ∨ (σ.ahead L 0).t = ⟨#[114, 101, 108, 101, 97, 115, 101]⟩ then some (((σ.take L (σ.ahead L 0).t).takeName L 5).take L ⟨#[59]⟩)
    else if (σ.ahead L 0).t = ⟨#[114, 101, 116, 117, 114, 110]⟩ then giveBackP L f σ
    else if (σ.ahead L 0).t = ⟨#[115, 107, 105, 112]⟩ then some ((σ.take L ⟨#[115, 107, 105, 112]⟩).take L ⟨#[59]⟩)
    else assignOrCallP L f σ
  | f + 1, _, σ => (bracketedP L f (σ.take L ⟨#[105, 102]⟩)).bind fun a => (blocksP L f 0 a).bind fun b => if b.sees L ⟨#[101, 108, 115, 101]⟩ then blocksP L f 0 b.step else some b
def blockP (L : List Tk) (f : Nat) (σ : PSt) : Option PSt := blocksP L f 0 σ
def stmtsP (L : List Tk) (f : Nat) (σ : PSt) : Option PSt := blocksP L f 1 σ
def statementP (L : List Tk) (f : Nat) (σ : PSt) : Option PSt := blocksP L f 2 σ
def branchP (L : List Tk) (f : Nat) (σ : PSt) : Option PSt := blocksP L f 3 σ
theorem blockP_zero (L : List Tk) (σ : PSt) : blockP L 0 σ = none := rfl
theorem stmtsP_zero (L : List Tk) (σ : PSt) : stmtsP L 0 σ = none := rfl
theorem statementP_zero (L : List Tk) (σ : PSt) : statementP L 0 σ = none := rfl
theorem branchP_zero (L : List Tk) (σ : PSt) : branchP L 0 σ = none := rfl
theorem blockP_succ (L : List Tk) (f : Nat) (σ : PSt) : blockP L (f + 1) σ = (stmtsP L f (enterP L σ ⟨#[123]⟩)).map fun τ => leaveP L τ ⟨#[125]⟩ := rfl
theorem stmtsP_succ (L : List Tk) (f : Nat) (σ : PSt) : stmtsP L (f + 1) σ = if σ.failed = false ∧ σ.sees L ⟨#[125]⟩ = false then (statementP L f σ).bind (stmtsP L f) else some σ := rfl
theorem statementP_succ (L : List Tk) (f : Nat) (σ : PSt) : statementP L (f + 1) σ =
    if (σ.ahead L 0).t = ⟨#[105, 102]⟩ then branchP L f σ
    else if (σ.ahead L 0).t = ⟨#[119, 104, 105, 108, 101]⟩ then (bracketedP L f (σ.take L ⟨#[119, 104, 105, 108, 101]⟩)).bind (blockP L f)
    else if (σ.ahead L 0).t = ⟨#[97, 115, 115, 117, 109, 101]⟩ then (exprP L f (σ.take L ⟨#[97, 115, 115, 117, 109, 101]⟩)).map fun τ => τ.take L ⟨#[59]⟩
    else if (σ.ahead L 0).t = ⟨#[97, 99, 113, 117, 105, 114, 101]⟩ ∨ (σ.ahead L 0).t = ⟨#[114, 101, 108, 101, 97, 115, 101]⟩ then some (((σ.take L (σ.ahead L 0).t).takeName L 5).take L ⟨#[59]⟩)
    else if (σ.ahead L 0).t = ⟨#[114, 101, 116, 117, 114, 110]⟩ then giveBackP L f σ
    else if (σ.ahead L 0).t = ⟨#[115, 107, 105, 112]⟩ then some ((σ.take L ⟨#[115, 107, 105, 112]⟩).take L ⟨#[59]⟩)
    else assignOrCallP L f σ := rfl
theorem branchP_succ (L : List Tk) (f : Nat) (σ : PSt) : branchP L (f + 1) σ = (bracketedP L f (σ.take L ⟨#[105, 102]⟩)).bind fun a => (blockP L f a).bind fun b => if b.sees L ⟨#[101, 108, 115, 101]⟩ then blockP L f b.step else some b := rfl

def procedureP (L : List Tk) (f : Nat) (σ : PSt) : Option PSt :=
  let a := σ.take L ⟨#[112, 114, 111, 99]⟩
  let d := enterP L (({ a with proc := wrap64 (a.proc + 1) } : PSt).takeName L 2) ⟨#[40]⟩
  (if d.sees L ⟨#[41]⟩ then some d else moreP L 3 f (d.takeName L 3)).bind fun e => blockP L f (leaveP L e ⟨#[41]⟩)
def procsP (L : List Tk) : Nat → PSt → Option PSt
  | 0, _ => none
  | f + 1, σ => if σ.sees L ⟨#[112, 114, 111, 99]⟩ then (procedureP L f σ).bind (procsP L f) else some σ
def listP (L : List Tk) (f : Nat) (t : ByteArray) (role : Nat) (σ : PSt) : Option PSt :=
  if σ.sees L t then (moreP L role f (σ.step.takeName L role)).map fun τ => τ.take L ⟨#[59]⟩ else some σ
def programP (L : List Tk) (f : Nat) (σ : PSt) : Option PSt :=
  (listP L f ⟨#[115, 104, 97, 114, 101, 100]⟩ 0 σ).bind fun a => (listP L f ⟨#[108, 111, 99, 107, 115]⟩ 1 a).bind fun b => (procedureP L f b).bind fun c => (procsP L f c).bind fun d =>
    (moreP L 7 f ((d.take L ⟨#[116, 104, 114, 101, 97, 100, 115]⟩).takeName L 7)).map fun e => takeEndP L (e.take L ⟨#[59]⟩)

end RR
