/- Contracts of the program's package check: names given twice, names misused. -/
import Derived.Test.YtmfcpbhdggonfaaGreatDoorChkA
namespace Go.Proofs.YtmfcpbhdggonfaaGreatDoor
open Go.RowKit RR

/-- What is known behind a box with a name in it. -/
theorem nb {w wr : World} {T : TypeId} {x0 x1 x2 x3 : Value} (hb : Below (w.heap.size + 1) (w.alloc (.cells #[x0, x1, x2, x3] T)) wr) : wr.cell? ⟨w.heap.size, 0, none⟩ = some x0 ∧ wr.cell? ⟨w.heap.size, 1, none⟩ = some x1 ∧ wr.cell? ⟨w.heap.size, 2, none⟩ = some x2 ∧ wr.cell? ⟨w.heap.size, 3, none⟩ = some x3 ∧ w.heap.size < wr.heap.size ∧ Below w.heap.size w wr := by
  have h2 := hb.size
  refine ⟨(hb.cell (p := ⟨w.heap.size, 0, none⟩) (Nat.lt_succ_self _)).trans (by simp), (hb.cell (p := ⟨w.heap.size, 1, none⟩) (Nat.lt_succ_self _)).trans (by simp), (hb.cell (p := ⟨w.heap.size, 2, none⟩) (Nat.lt_succ_self _)).trans (by simp), (hb.cell (p := ⟨w.heap.size, 3, none⟩) (Nat.lt_succ_self _)).trans (by simp), ?_, ((Below.refl _ _).alloc (Nat.le_refl _) _).trans (hb.mono (Nat.le_succ _))⟩
  simp at h2; omega

set_option maxRecDepth 100000 in
set_option maxHeartbeats 4000000 in
theorem c_givenTwice (ao : Option Addr) (cap : Nat) (l : List Nm) (i : Nat) (n : Nm) (w : World) (hl : l.length ≤ 1000) (hi : NmSl w ao l) :
    Calls Tryz.prog 185 #[.slice ao l.length cap, .int .i64 i, (.agg #[.string n.word, .int .i64 n.at_, .int .i64 n.role, .int .i64 n.proc])] w fun e w' => e = .returned (.bool (clashF l i n 0)) ∧ Below w.heap.size w w' := by
  go_enter Tryz.func185, Tryz.ntmps185
  go_wp2
  go_loopw [11] (fun u wr => ∃ k : Nat, u = .int .i64 k ∧ k ≤ l.length ∧ clashF l i n k = clashF l i n 0 ∧ Below (w.heap.size + 1) (w.alloc (.cells #[.string n.word, .int .i64 n.at_, .int .i64 n.role, .int .i64 n.proc] 186)) wr) (fun u _ => l.length - (intOf u).toNat)
  case atStart => exact ⟨0, rfl, Nat.zero_le _, rfl, Below.refl _ _⟩
  case round =>
    obtain ⟨k, rfl, hk, hn, hbx⟩ := hrel
    have HN := hide hn
    have HB := hide hbx
    obtain ⟨n0, n1, n2, n3, hsz, hbel⟩ := nb hbx
    clear hn hbx
    by_cases hlt : k < l.length
    · obtain ⟨b, o, hb, hao, c1, c2, c3, c4⟩ := (hi.below hbel) k hlt
      subst hao
      clear hbel
      by_cases eW : l[k].word = n.word
      · have fW : (l[k].word.toList == n.word.toList) = true := by rw [eW]; simp
        cases eA : isWholeB n.role
        · by_cases eP : n.role = 3
          · have fP : ((n.role : Int) == 3) = true := beq_iff_eq.2 (by omega)
            cases eB : isWholeB l[k].role
            · by_cases eQ : l[k].role = 3
              · have fQ : ((l[k].role : Int) == 3) = true := beq_iff_eq.2 (by omega)
                by_cases eR : l[k].proc = n.proc
                · have fR : (l[k].proc == n.proc) = true := beq_iff_eq.2 (by omega)
                  by_cases eJ : k < i
                  · have fJ : (k : Int) < i := by omega
                    have HC : Hid (clashB i n k l[k] = true) := by show _ = _; unfold clashB; first | (rw [decide_eq_true eW, eA, decide_eq_true eP, eB, decide_eq_true eQ, decide_eq_true eR, decide_eq_true eJ]; done) | (rw [decide_eq_true eW, eA, decide_eq_true eP, eB, decide_eq_true eQ, decide_eq_true eR, decide_eq_true eJ]; rfl)
                    clear eP eQ eR eW
                    go_wp2_with (first | (go_at_call 208; refine (c_isWhole _ _).mono ?_; rintro e w' ⟨rfl, rfl⟩))
                    go_ret
                    exact ⟨ret_bool (by rw [← HN.out, clashF_yes hlt HC.out]), (nb HB.out).2.2.2.2.2.alloc (nb HB.out).2.2.2.2.2.size _⟩
                  · have fJ : i ≤ k := by omega
                    have HC : Hid (clashB i n k l[k] = false) := by show _ = _; unfold clashB; first | (rw [decide_eq_true eW, eA, decide_eq_true eP, eB, decide_eq_true eQ, decide_eq_true eR, decide_eq_false eJ]; done) | (rw [decide_eq_true eW, eA, decide_eq_true eP, eB, decide_eq_true eQ, decide_eq_true eR, decide_eq_false eJ]; rfl)
                    clear eP eQ eR eW
                    go_wp2_with (first | (go_at_call 208; refine (c_isWhole _ _).mono ?_; rintro e w' ⟨rfl, rfl⟩))
                    go_roundw
                    case rel => exact ⟨k + 1, by go_num, by omega, by rw [← HN.out, clashF_no hlt HC.out], HB.out.alloc (nb HB.out).2.2.2.2.1 _⟩
                    case measure => simp [intOf]; omega
                · have fR : (l[k].proc == n.proc) = false := beq_eq_false_iff_ne.2 (by omega)
                  have HC : Hid (clashB i n k l[k] = false) := by show _ = _; unfold clashB; first | (rw [decide_eq_true eW, eA, decide_eq_true eP, eB, decide_eq_true eQ, decide_eq_false eR]; done) | (rw [decide_eq_true eW, eA, decide_eq_true eP, eB, decide_eq_true eQ, decide_eq_false eR]; rfl)
                  clear eP eQ eR eW
                  go_wp2_with (first | (go_at_call 208; refine (c_isWhole _ _).mono ?_; rintro e w' ⟨rfl, rfl⟩))
                  go_roundw
                  case rel => exact ⟨k + 1, by go_num, by omega, by rw [← HN.out, clashF_no hlt HC.out], HB.out.alloc (nb HB.out).2.2.2.2.1 _⟩
                  case measure => simp [intOf]; omega
              · have fQ : ((l[k].role : Int) == 3) = false := beq_eq_false_iff_ne.2 (by omega)
                have HC : Hid (clashB i n k l[k] = false) := by show _ = _; unfold clashB; first | (rw [decide_eq_true eW, eA, decide_eq_true eP, eB, decide_eq_false eQ]; done) | (rw [decide_eq_true eW, eA, decide_eq_true eP, eB, decide_eq_false eQ]; rfl)
                clear eP eQ eW
                go_wp2_with (first | (go_at_call 208; refine (c_isWhole _ _).mono ?_; rintro e w' ⟨rfl, rfl⟩))
                go_roundw
                case rel => exact ⟨k + 1, by go_num, by omega, by rw [← HN.out, clashF_no hlt HC.out], HB.out.alloc (nb HB.out).2.2.2.2.1 _⟩
                case measure => simp [intOf]; omega
            · have HC : Hid (clashB i n k l[k] = true) := by show _ = _; unfold clashB; first | (rw [decide_eq_true eW, eA, decide_eq_true eP, eB]; done) | (rw [decide_eq_true eW, eA, decide_eq_true eP, eB]; rfl)
              clear eP eW
              go_wp2_with (first | (go_at_call 208; refine (c_isWhole _ _).mono ?_; rintro e w' ⟨rfl, rfl⟩))
              go_ret
              exact ⟨ret_bool (by rw [← HN.out, clashF_yes hlt HC.out]), (nb HB.out).2.2.2.2.2.alloc (nb HB.out).2.2.2.2.2.size _⟩
          · have fP : ((n.role : Int) == 3) = false := beq_eq_false_iff_ne.2 (by omega)
            have HC : Hid (clashB i n k l[k] = false) := by show _ = _; unfold clashB; first | (rw [decide_eq_true eW, eA, decide_eq_false eP]; done) | (rw [decide_eq_true eW, eA, decide_eq_false eP]; rfl)
            clear eP eW
            go_wp2_with (first | (go_at_call 208; refine (c_isWhole _ _).mono ?_; rintro e w' ⟨rfl, rfl⟩))
            go_roundw
            case rel => exact ⟨k + 1, by go_num, by omega, by rw [← HN.out, clashF_no hlt HC.out], HB.out.alloc (nb HB.out).2.2.2.2.1 _⟩
            case measure => simp [intOf]; omega
        · cases eB : isWholeB l[k].role
          · by_cases eP : n.role = 3
            · have fP : ((n.role : Int) == 3) = true := beq_iff_eq.2 (by omega)
              by_cases eQ : l[k].role = 3
              · have fQ : ((l[k].role : Int) == 3) = true := beq_iff_eq.2 (by omega)
                by_cases eR : l[k].proc = n.proc
                · have fR : (l[k].proc == n.proc) = true := beq_iff_eq.2 (by omega)
                  by_cases eJ : k < i
                  · have fJ : (k : Int) < i := by omega
                    have HC : Hid (clashB i n k l[k] = true) := by show _ = _; unfold clashB; first | (rw [decide_eq_true eW, eA, eB, decide_eq_true eP, decide_eq_true eQ, decide_eq_true eR, decide_eq_true eJ]; done) | (rw [decide_eq_true eW, eA, eB, decide_eq_true eP, decide_eq_true eQ, decide_eq_true eR, decide_eq_true eJ]; rfl)
                    clear eP eQ eR eW
                    go_wp2_with (first | (go_at_call 208; refine (c_isWhole _ _).mono ?_; rintro e w' ⟨rfl, rfl⟩))
                    go_ret
                    exact ⟨ret_bool (by rw [← HN.out, clashF_yes hlt HC.out]), (nb HB.out).2.2.2.2.2.alloc (nb HB.out).2.2.2.2.2.size _⟩
                  · have fJ : i ≤ k := by omega
                    have HC : Hid (clashB i n k l[k] = false) := by show _ = _; unfold clashB; first | (rw [decide_eq_true eW, eA, eB, decide_eq_true eP, decide_eq_true eQ, decide_eq_true eR, decide_eq_false eJ]; done) | (rw [decide_eq_true eW, eA, eB, decide_eq_true eP, decide_eq_true eQ, decide_eq_true eR, decide_eq_false eJ]; rfl)
                    clear eP eQ eR eW
                    go_wp2_with (first | (go_at_call 208; refine (c_isWhole _ _).mono ?_; rintro e w' ⟨rfl, rfl⟩))
                    go_roundw
                    case rel => exact ⟨k + 1, by go_num, by omega, by rw [← HN.out, clashF_no hlt HC.out], HB.out.alloc (nb HB.out).2.2.2.2.1 _⟩
                    case measure => simp [intOf]; omega
                · have fR : (l[k].proc == n.proc) = false := beq_eq_false_iff_ne.2 (by omega)
                  have HC : Hid (clashB i n k l[k] = false) := by show _ = _; unfold clashB; first | (rw [decide_eq_true eW, eA, eB, decide_eq_true eP, decide_eq_true eQ, decide_eq_false eR]; done) | (rw [decide_eq_true eW, eA, eB, decide_eq_true eP, decide_eq_true eQ, decide_eq_false eR]; rfl)
                  clear eP eQ eR eW
                  go_wp2_with (first | (go_at_call 208; refine (c_isWhole _ _).mono ?_; rintro e w' ⟨rfl, rfl⟩))
                  go_roundw
                  case rel => exact ⟨k + 1, by go_num, by omega, by rw [← HN.out, clashF_no hlt HC.out], HB.out.alloc (nb HB.out).2.2.2.2.1 _⟩
                  case measure => simp [intOf]; omega
              · have fQ : ((l[k].role : Int) == 3) = false := beq_eq_false_iff_ne.2 (by omega)
                have HC : Hid (clashB i n k l[k] = false) := by show _ = _; unfold clashB; first | (rw [decide_eq_true eW, eA, eB, decide_eq_true eP, decide_eq_false eQ]; done) | (rw [decide_eq_true eW, eA, eB, decide_eq_true eP, decide_eq_false eQ]; rfl)
                clear eP eQ eW
                go_wp2_with (first | (go_at_call 208; refine (c_isWhole _ _).mono ?_; rintro e w' ⟨rfl, rfl⟩))
                go_roundw
                case rel => exact ⟨k + 1, by go_num, by omega, by rw [← HN.out, clashF_no hlt HC.out], HB.out.alloc (nb HB.out).2.2.2.2.1 _⟩
                case measure => simp [intOf]; omega
            · have fP : ((n.role : Int) == 3) = false := beq_eq_false_iff_ne.2 (by omega)
              have HC : Hid (clashB i n k l[k] = false) := by show _ = _; unfold clashB; first | (rw [decide_eq_true eW, eA, eB, decide_eq_false eP]; done) | (rw [decide_eq_true eW, eA, eB, decide_eq_false eP]; rfl)
              clear eP eW
              go_wp2_with (first | (go_at_call 208; refine (c_isWhole _ _).mono ?_; rintro e w' ⟨rfl, rfl⟩))
              go_roundw
              case rel => exact ⟨k + 1, by go_num, by omega, by rw [← HN.out, clashF_no hlt HC.out], HB.out.alloc (nb HB.out).2.2.2.2.1 _⟩
              case measure => simp [intOf]; omega
          · by_cases eJ : k < i
            · have fJ : (k : Int) < i := by omega
              have HC : Hid (clashB i n k l[k] = true) := by show _ = _; unfold clashB; first | (rw [decide_eq_true eW, eA, eB, decide_eq_true eJ]; done) | (rw [decide_eq_true eW, eA, eB, decide_eq_true eJ]; rfl)
              clear eW
              go_wp2_with (first | (go_at_call 208; refine (c_isWhole _ _).mono ?_; rintro e w' ⟨rfl, rfl⟩))
              go_ret
              exact ⟨ret_bool (by rw [← HN.out, clashF_yes hlt HC.out]), (nb HB.out).2.2.2.2.2.alloc (nb HB.out).2.2.2.2.2.size _⟩
            · have fJ : i ≤ k := by omega
              by_cases eP : n.role = 3
              · have fP : ((n.role : Int) == 3) = true := beq_iff_eq.2 (by omega)
                have HC : Hid (clashB i n k l[k] = true) := by show _ = _; unfold clashB; first | (rw [decide_eq_true eW, eA, eB, decide_eq_false eJ, decide_eq_true eP]; done) | (rw [decide_eq_true eW, eA, eB, decide_eq_false eJ, decide_eq_true eP]; rfl)
                clear eP eW
                go_wp2_with (first | (go_at_call 208; refine (c_isWhole _ _).mono ?_; rintro e w' ⟨rfl, rfl⟩))
                go_ret
                exact ⟨ret_bool (by rw [← HN.out, clashF_yes hlt HC.out]), (nb HB.out).2.2.2.2.2.alloc (nb HB.out).2.2.2.2.2.size _⟩
              · have fP : ((n.role : Int) == 3) = false := beq_eq_false_iff_ne.2 (by omega)
                have HC : Hid (clashB i n k l[k] = false) := by show _ = _; unfold clashB; first | (rw [decide_eq_true eW, eA, eB, decide_eq_false eJ, decide_eq_false eP]; done) | (rw [decide_eq_true eW, eA, eB, decide_eq_false eJ, decide_eq_false eP]; rfl)
                clear eP eW
                go_wp2_with (first | (go_at_call 208; refine (c_isWhole _ _).mono ?_; rintro e w' ⟨rfl, rfl⟩))
                go_roundw
                case rel => exact ⟨k + 1, by go_num, by omega, by rw [← HN.out, clashF_no hlt HC.out], HB.out.alloc (nb HB.out).2.2.2.2.1 _⟩
                case measure => simp [intOf]; omega
      · have fW : (l[k].word.toList == n.word.toList) = false := by rw [seq_comm]; exact decide_eq_false eW
        have HC : Hid (clashB i n k l[k] = false) := by show _ = _; unfold clashB; first | (rw [decide_eq_false eW]; done) | (rw [decide_eq_false eW]; rfl)
        clear eW
        go_wp2_with (first | (go_at_call 208; refine (c_isWhole _ _).mono ?_; rintro e w' ⟨rfl, rfl⟩))
        go_roundw
        case rel => exact ⟨k + 1, by go_num, by omega, by rw [← HN.out, clashF_no hlt HC.out], HB.out.alloc (nb HB.out).2.2.2.2.1 _⟩
        case measure => simp [intOf]; omega
    · go_wp2
      go_ret
      exact ⟨ret_bool (by rw [← HN.out, clashF_out hlt]), hbel⟩

end Go.Proofs.YtmfcpbhdggonfaaGreatDoor
