/- The contract of the reference's 'Read'. -/
import Derived.Test.YtmfcpbhdggonfaaGreatDoorRefL
import Derived.Test.YtmfcpbhdggonfaaGreatDoorRefJ
import Derived.Test.YtmfcpbhdggonfaaGreatDoorMachine
import Derived.Deep.LoopGhost
import Derived.Deep.RegionHeld
namespace Go.Proofs.YtmfcpbhdggonfaaGreatDoor
open Go.RowKit RR

theorem StrSl.tail {w : World} {b o cap : Nat} {x : ByteArray} {l : List ByteArray} (h : StrSl w (some ⟨b, o, none⟩) cap (x :: l)) : StrSl w (some ⟨b, o + 1, none⟩) (cap - 1) l := by
  have h1 := h.2.1
  rw [List.length_cons] at h1
  refine ⟨fun e => (by cases e), by omega, fun i hi => ?_⟩
  obtain ⟨b', o', h2, h3, h4⟩ := h.2.2 (i + 1) (by rw [List.length_cons]; omega)
  have h3' := Option.some.inj h3
  injection h3' with e1 e2
  subst e1; subst e2
  refine ⟨b, o + 1, h2, rfl, ?_⟩
  rw [show o + 1 + i = o + (i + 1) from by omega]
  exact h4

theorem TokSl.below {w w' : World} {ao : Option Addr} {L : List Tk} (h : TokSl w ao L) (hb : Below w.heap.size w w') : TokSl w' ao L := by
  rcases h with h | ⟨b, o, h1, h2⟩
  · exact .inl h
  · exact .inr ⟨b, o, h1, h2.below hb⟩
theorem TokSl.at_ {w : World} {ao : Option Addr} {L : List Tk} (h : TokSl w ao L) {i : Nat} (hi : i < L.length) : ∃ b o, ao = some ⟨b, o, none⟩ ∧ b < w.heap.size ∧ w.cell? ⟨b, o + i * 2, none⟩ = some (.string L[i].t) ∧ w.cell? ⟨b, o + i * 2 + 1, none⟩ = some (.int .i64 L[i].p) := by
  rcases h with h | ⟨b, o, h1, h2⟩
  · subst h; cases hi
  · exact ⟨b, o, h1, h2.1, h2.2 i hi⟩

theorem strSl_nil {w : World} (a : Addr) (cap : Nat) : StrSl w (some a) cap [] := ⟨fun e => (by cases e), Nat.zero_le _, fun _ hi => (by cases hi)⟩

theorem empty_ne {x : ByteArray} (h : ¬ x = ⟨#[]⟩) : x.toList.isEmpty = false := by
  cases e : x.toList with
  | nil => exact absurd (toList_inj.1 (e.trans (by rw [bl]))) h
  | cons c r => rfl

theorem becB_len (n : NT) (t : ByteArray) : (becB n t).length ≤ 6 := by
  unfold becB
  (repeat' split) <;> simp

theorem start_at {w : World} : StrSl (w.alloc (.cells #[.string ⟨#[83, 72, 65, 82, 69, 68]⟩, .string ⟨#[76, 79, 67, 75, 83]⟩, .string ⟨#[80, 82, 79, 67]⟩, .string ⟨#[80, 82, 79, 67, 83]⟩, .string ⟨#[116, 104, 114, 101, 97, 100, 115]⟩, .string ⟨#[78, 65, 77, 69, 83]⟩, .string ⟨#[59]⟩] 9)) (some ⟨w.heap.size, 0, none⟩) 7 startW :=
  ⟨fun e => (by cases e), Nat.le_refl _, fun i hi => ⟨w.heap.size, 0, by simp, rfl, strs_alloc startW _ rfl i hi⟩⟩

def resOut (ao : Option Addr) (n cap : Nat) : Res → Value
  | none => .tuple #[.slice ao n cap, .int .i64 0, .int .i64 0]
  | some p => .tuple #[.slice none 0 0, .int .i64 3, .int .i64 p]

theorem r_read_long (s : ByteArray) (w : World) (hs : 500 < s.size) (hs2 : s.size ≤ maxLen) :
    Calls Tryz.prog 46 #[.string s] w fun e w' => e = .returned (.tuple #[.slice none 0 0, .int .i64 1, .int .i64 0]) ∧ w' = w := by
  unfold maxLen at hs2
  go_enter Tryz.func46, Tryz.ntmps46
  go_wp2
  go_ret3
  exact ⟨rfl, rfl⟩

set_option maxRecDepth 100000 in
set_option maxHeartbeats 1000000 in
theorem r_read_token (s : ByteArray) (w : World) (hs : s.size ≤ 500) (p : Nat) (hl : (lexF s 0).2 = some p) :
    Calls Tryz.prog 46 #[.string s] w fun e w' => e = .returned (.tuple #[.slice none 0 0, .int .i64 2, .int .i64 p]) ∧ Below w.heap.size w w' := by
  go_enter Tryz.func46, Tryz.ntmps46
  go_wp2_with fail
  refine (r_tokens s _ hs).mono ?_
  rintro e w1 (⟨h1, _⟩ | ⟨q, h1, rfl, hb1⟩)
  · rw [hl] at h1; cases h1
  · have : q = p := Option.some.inj (h1.symm.trans hl)
    subst this
    clear h1 hl
    go_wp2
    go_ret3
    exact ⟨rfl, hb1⟩

set_option maxRecDepth 100000 in
set_option maxHeartbeats 16000000 in
theorem r_read (s : ByteArray) (w : World) (hs : s.size ≤ 500) (L : List Tk) (hl : lexF s 0 = (L, none)) (ht : ∀ k, (h : k < L.length) → L[k].t.size ≤ 500) (_hL : L.length ≤ 500) (n : Nat) (r : Res) (hr : runM L s.size n startW 0 0 = some r) :
    Calls Tryz.prog 46 #[.string s] w fun e w' => ∃ ao cap, e = .returned (resOut ao L.length cap r) ∧ TokSl w' ao L ∧ Below w.heap.size w w' := by
  go_enter Tryz.func46, Tryz.ntmps46
  go_wp2_with fail
  refine (r_tokens s _ hs).mono ?_
  rintro e w1 (⟨h1, aoL, capL, rfl, hTL, hb1⟩ | ⟨q, h1, _, _⟩)
  rotate_left
  · rw [hl] at h1; cases h1
  rw [hl] at hTL ⊢
  simp only at hTL ⊢
  have HR := hide hr
  clear h1 hl hr
  go_wp2_with fail
  go_loopg [7, 8, 9] n (fun g v7 v8 v9 wr => ∃ (W : List ByteArray) (op : Int) (i : Nat) (ao : Option Addr) (cap : Nat), v7 = .slice ao W.length cap ∧ StrSl wr ao cap W ∧ v8 = .int .i64 op ∧ v9 = .int .i64 i ∧ runM L s.size g W op i = some r ∧ TokSl wr aoL L ∧ Below w.heap.size w wr)
  case atStart => exact ⟨startW, 0, 0, _, 7, rfl, start_at, rfl, rfl, HR.out, hTL.below ((Below.refl _ _).alloc (Nat.le_refl _) _), hb1.alloc hb1.size _⟩
  case round =>
    obtain ⟨W, op, i, ao, cap, rfl, hW, rfl, rfl, hrun, hTr, hbr⟩ := hrel
    cases gk with
    | zero => rw [runM] at hrun; cases hrun
    | succ g =>
    obtain ⟨q1, q2, q3, q4⟩ := room_of hrun
    cases W with
    | nil =>
      have HE := hide (runM_nil hrun)
      clear hrun
      by_cases hi : i < L.length
      · have HE2 : Hid (r = .err L[i].p) := by show _ = _; rw [HE.out, if_pos hi, pAt_in hi]
        obtain ⟨b, o, hao, hbb, hc1, hc2⟩ := hTr.at_ hi
        subst hao
        go_wp2_with fail
        go_quiet (fail)
        go_wp2
        go_ret3
        exact ⟨_, capL, by rw [HE2.out]; rfl, hTr.below (below_drewN _ _ _), hbr.trans (below_drewN _ _ _)⟩
      · have HE2 : Hid (r = .ok) := by show _ = _; rw [HE.out, if_neg hi]
        go_wp2
        go_ret3
        exact ⟨aoL, capL, by rw [HE2.out]; rfl, hTr, hbr⟩
    | cons x R =>
      obtain ⟨b, o, hbb, hao, hc0⟩ := hW.2.2 0 (Nat.succ_pos _)
      subst hao
      have hc0' : wr.cell? ⟨b, o, none⟩ = some (.string x) := hc0
      clear hc0
      have hx0 := head_of hrun
      by_cases hi : i < L.length
      · obtain ⟨bL, oL, haoL, hbbL, hcL1, hcL2⟩ := hTr.at_ hi
        subst haoL
        have htz := ht i hi
        have HT := hide (tAt_in hi)
        have HP := hide (pAt_in (len := s.size) hi)
        clear hx0
        by_cases hc1 : cap = 1
        · have hR : R = [] := by
            have := hW.2.1
            rw [List.length_cons] at this
            exact List.length_eq_zero_iff.1 (by omega)
          subst hR; subst hc1
          cases hx : ntOf x with
          | some nt =>
            have hrun' := hide (runM_nt hrun hx)
            have hxe := ntOf_some hx
            subst hxe
            clear hx hrun
            have lb := becB_len nt L[i].t
            go_wp2_with fail
            refine (r_becomes nt L[i].t _ htz).mono ?_
            rintro e w2 ⟨aoM, capM, rfl, hM, hb2⟩
            have hW2 : StrSl w2 (some ⟨b, o, none⟩) 0 ([] : List ByteArray) := strSl_nil _ _
            go_wp2_with fail
            refine (r_front _ _ _ _ _ [] _ (by omega) (by simp at q1 ⊢; try omega) hM hW2).mono ?_
            rintro e w3 ⟨aoN, capN, rfl, hN, hb3⟩
            have hb23 := hb2.trans (hb3.mono hb2.size)
            go_wp2_with fail
            go_roundg g
            case measure => omega
            case rel => exact ⟨becB nt L[i].t ++ [], op, i, aoN, capN, by simp, hN, rfl, rfl, by rw [← HT.out]; exact hrun'.out, hTr.below hb23, hbr.trans (hb23.mono hbr.size)⟩
          | none =>
            have hrun' := hide (runM_tok hrun hx)
            have HX := hide hx
            clear hx hrun
            by_cases hxt : x = L[i].t
            · have HF := hide (fits_eq hxt)
              have hq : (x.toList == (L[i].t).toList) = true := by rw [hxt]; simp
              have HXT := hide hxt
              clear hxt
              rcases delta5 L[i].t with ⟨d1, dd⟩ | ⟨d1, dd⟩ | ⟨d1, dd⟩ | ⟨d1, dd⟩ | ⟨d1, d2, d3, d4, dd⟩
              · have HD := hide dd
                have z0 : ((L[i].t).toList == [40]) = true := by rw [d1, l40]; rfl
                have z1 : ((L[i].t).toList == [123]) = false := by rw [d1, l40]; rfl
                have z2 : ((L[i].t).toList == [41]) = false := by rw [d1, l40]; rfl
                have z3 : ((L[i].t).toList == [125]) = false := by rw [d1, l40]; rfl
                clear dd d1
                by_cases h6 : op + (1) ≤ 6
                · have HE : Hid (runM L s.size g [] (op + (1)) (i + 1) = some r) := by show _ = _; have h := hrun'.out; rw [HT.out, if_pos HF.out, HD.out, if_pos h6] at h; exact h
                  have h6' : op + 1 ≤ 6 := by omega
                  go_wp2_with fail
                  refine (r_becomes_none x L[i].t _ HX.out).mono ?_
                  rintro e w2 ⟨rfl, hw2⟩
                  subst hw2
                  go_wp2_with fail
                  refine (r_isName L[i].t _ htz).mono ?_
                  rintro e w3 ⟨rfl, hb3⟩
                  have hc3 := (hb3.cell (p := ⟨b, o, none⟩) hbb).trans hc0'
                  have hW4 : StrSl w3 (some ⟨b, o, none⟩) 0 ([] : List ByteArray) := strSl_nil _ _
                  go_wp2_with fail
                  go_roundg g
                  case measure => omega
                  case rel => exact ⟨[], op + (1), i + 1, _, _, rfl, hW4, by first | rfl | go_num, by go_num, HE.out, hTr.below hb3, hbr.trans (hb3.mono hbr.size)⟩
                · have HE : Hid (r = .err L[i].p) := by show _ = _; have h := hrun'.out; rw [HT.out, if_pos HF.out, HD.out, if_neg h6] at h; rw [← HP.out]; exact (Option.some.inj h).symm
                  have h6' : 6 < op + 1 := by omega
                  go_wp2_with fail
                  refine (r_becomes_none x L[i].t _ HX.out).mono ?_
                  rintro e w2 ⟨rfl, hw2⟩
                  subst hw2
                  go_wp2_with fail
                  refine (r_isName L[i].t _ htz).mono ?_
                  rintro e w3 ⟨rfl, hb3⟩
                  have hc3 := (hb3.cell (p := ⟨b, o, none⟩) hbb).trans hc0'
                  have hW4 : StrSl w3 (some ⟨b, o, none⟩) 0 ([] : List ByteArray) := strSl_nil _ _
                  go_wp2_with fail
                  go_ret3
                  exact ⟨_, capL, by rw [HE.out]; rfl, hTr.below hb3, hbr.trans (hb3.mono hbr.size)⟩
              · have HD := hide dd
                have z0 : ((L[i].t).toList == [40]) = false := by rw [d1, l123]; rfl
                have z1 : ((L[i].t).toList == [123]) = true := by rw [d1, l123]; rfl
                have z2 : ((L[i].t).toList == [41]) = false := by rw [d1, l123]; rfl
                have z3 : ((L[i].t).toList == [125]) = false := by rw [d1, l123]; rfl
                clear dd d1
                by_cases h6 : op + (1) ≤ 6
                · have HE : Hid (runM L s.size g [] (op + (1)) (i + 1) = some r) := by show _ = _; have h := hrun'.out; rw [HT.out, if_pos HF.out, HD.out, if_pos h6] at h; exact h
                  have h6' : op + 1 ≤ 6 := by omega
                  go_wp2_with fail
                  refine (r_becomes_none x L[i].t _ HX.out).mono ?_
                  rintro e w2 ⟨rfl, hw2⟩
                  subst hw2
                  go_wp2_with fail
                  refine (r_isName L[i].t _ htz).mono ?_
                  rintro e w3 ⟨rfl, hb3⟩
                  have hc3 := (hb3.cell (p := ⟨b, o, none⟩) hbb).trans hc0'
                  have hW4 : StrSl w3 (some ⟨b, o, none⟩) 0 ([] : List ByteArray) := strSl_nil _ _
                  go_wp2_with fail
                  go_roundg g
                  case measure => omega
                  case rel => exact ⟨[], op + (1), i + 1, _, _, rfl, hW4, by first | rfl | go_num, by go_num, HE.out, hTr.below hb3, hbr.trans (hb3.mono hbr.size)⟩
                · have HE : Hid (r = .err L[i].p) := by show _ = _; have h := hrun'.out; rw [HT.out, if_pos HF.out, HD.out, if_neg h6] at h; rw [← HP.out]; exact (Option.some.inj h).symm
                  have h6' : 6 < op + 1 := by omega
                  go_wp2_with fail
                  refine (r_becomes_none x L[i].t _ HX.out).mono ?_
                  rintro e w2 ⟨rfl, hw2⟩
                  subst hw2
                  go_wp2_with fail
                  refine (r_isName L[i].t _ htz).mono ?_
                  rintro e w3 ⟨rfl, hb3⟩
                  have hc3 := (hb3.cell (p := ⟨b, o, none⟩) hbb).trans hc0'
                  have hW4 : StrSl w3 (some ⟨b, o, none⟩) 0 ([] : List ByteArray) := strSl_nil _ _
                  go_wp2_with fail
                  go_ret3
                  exact ⟨_, capL, by rw [HE.out]; rfl, hTr.below hb3, hbr.trans (hb3.mono hbr.size)⟩
              · have HD := hide dd
                have z0 : ((L[i].t).toList == [40]) = false := by rw [d1, l41]; rfl
                have z1 : ((L[i].t).toList == [123]) = false := by rw [d1, l41]; rfl
                have z2 : ((L[i].t).toList == [41]) = true := by rw [d1, l41]; rfl
                have z3 : ((L[i].t).toList == [125]) = false := by rw [d1, l41]; rfl
                clear dd d1
                have h6 : op + (-1) ≤ 6 := by omega
                have HE : Hid (runM L s.size g [] (op + (-1)) (i + 1) = some r) := by show _ = _; have h := hrun'.out; rw [HT.out, if_pos HF.out, HD.out, if_pos h6] at h; exact h
                have h6' : op - 1 ≤ 6 := by omega
                go_wp2_with fail
                refine (r_becomes_none x L[i].t _ HX.out).mono ?_
                rintro e w2 ⟨rfl, hw2⟩
                subst hw2
                go_wp2_with fail
                refine (r_isName L[i].t _ htz).mono ?_
                rintro e w3 ⟨rfl, hb3⟩
                have hc3 := (hb3.cell (p := ⟨b, o, none⟩) hbb).trans hc0'
                have hW4 : StrSl w3 (some ⟨b, o, none⟩) 0 ([] : List ByteArray) := strSl_nil _ _
                go_wp2_with fail
                go_roundg g
                case measure => omega
                case rel => exact ⟨[], op + (-1), i + 1, _, _, rfl, hW4, by first | rfl | go_num, by go_num, HE.out, hTr.below hb3, hbr.trans (hb3.mono hbr.size)⟩
              · have HD := hide dd
                have z0 : ((L[i].t).toList == [40]) = false := by rw [d1, l125]; rfl
                have z1 : ((L[i].t).toList == [123]) = false := by rw [d1, l125]; rfl
                have z2 : ((L[i].t).toList == [41]) = false := by rw [d1, l125]; rfl
                have z3 : ((L[i].t).toList == [125]) = true := by rw [d1, l125]; rfl
                clear dd d1
                have h6 : op + (-1) ≤ 6 := by omega
                have HE : Hid (runM L s.size g [] (op + (-1)) (i + 1) = some r) := by show _ = _; have h := hrun'.out; rw [HT.out, if_pos HF.out, HD.out, if_pos h6] at h; exact h
                have h6' : op - 1 ≤ 6 := by omega
                go_wp2_with fail
                refine (r_becomes_none x L[i].t _ HX.out).mono ?_
                rintro e w2 ⟨rfl, hw2⟩
                subst hw2
                go_wp2_with fail
                refine (r_isName L[i].t _ htz).mono ?_
                rintro e w3 ⟨rfl, hb3⟩
                have hc3 := (hb3.cell (p := ⟨b, o, none⟩) hbb).trans hc0'
                have hW4 : StrSl w3 (some ⟨b, o, none⟩) 0 ([] : List ByteArray) := strSl_nil _ _
                go_wp2_with fail
                go_roundg g
                case measure => omega
                case rel => exact ⟨[], op + (-1), i + 1, _, _, rfl, hW4, by first | rfl | go_num, by go_num, HE.out, hTr.below hb3, hbr.trans (hb3.mono hbr.size)⟩
              · have HD := hide dd
                have z0 : ((L[i].t).toList == [40]) = false := by rw [lit_eq _ _ _ l40]; exact decide_eq_false d1
                have z1 : ((L[i].t).toList == [123]) = false := by rw [lit_eq _ _ _ l123]; exact decide_eq_false d2
                have z2 : ((L[i].t).toList == [41]) = false := by rw [lit_eq _ _ _ l41]; exact decide_eq_false d3
                have z3 : ((L[i].t).toList == [125]) = false := by rw [lit_eq _ _ _ l125]; exact decide_eq_false d4
                clear dd d1 d2 d3 d4
                have h6 : op + (0) ≤ 6 := by omega
                have HE : Hid (runM L s.size g [] (op + (0)) (i + 1) = some r) := by show _ = _; have h := hrun'.out; rw [HT.out, if_pos HF.out, HD.out, if_pos h6] at h; exact h
                have h6' : op ≤ 6 := by omega
                go_wp2_with fail
                refine (r_becomes_none x L[i].t _ HX.out).mono ?_
                rintro e w2 ⟨rfl, hw2⟩
                subst hw2
                go_wp2_with fail
                refine (r_isName L[i].t _ htz).mono ?_
                rintro e w3 ⟨rfl, hb3⟩
                have hc3 := (hb3.cell (p := ⟨b, o, none⟩) hbb).trans hc0'
                have hW4 : StrSl w3 (some ⟨b, o, none⟩) 0 ([] : List ByteArray) := strSl_nil _ _
                go_wp2_with fail
                go_roundg g
                case measure => omega
                case rel => exact ⟨[], op + (0), i + 1, _, _, rfl, hW4, by first | rfl | go_num, by go_num, HE.out, hTr.below hb3, hbr.trans (hb3.mono hbr.size)⟩
            · have hq : (x.toList == (L[i].t).toList) = false := by rw [seq_comm]; exact decide_eq_false hxt
              by_cases hxn : x = ⟨#[78, 65, 77, 69]⟩
              · have hxl : (x.toList == [78, 65, 77, 69]) = true := by rw [hxn, bl]; rfl
                cases hN : isNameB L[i].t
                · have HFN := hide (fits_no2 hxt hN)
                  clear hxt hxn
                  have HE : Hid (r = .err L[i].p) := by show _ = _; have h := hrun'.out; rw [HT.out, if_neg (by rw [HFN.out]; decide)] at h; rw [← HP.out]; exact (Option.some.inj h).symm
                  go_wp2_with fail
                  refine (r_becomes_none x L[i].t _ HX.out).mono ?_
                  rintro e w2 ⟨rfl, hw2⟩
                  subst hw2
                  go_wp2_with fail
                  refine (r_isName L[i].t _ htz).mono ?_
                  rintro e w3 ⟨rfl, hb3⟩
                  have hc3 := (hb3.cell (p := ⟨b, o, none⟩) hbb).trans hc0'
                  have hW4 : StrSl w3 (some ⟨b, o, none⟩) 0 ([] : List ByteArray) := strSl_nil _ _
                  go_wp2_with fail
                  go_ret3
                  exact ⟨_, capL, by rw [HE.out]; rfl, hTr.below hb3, hbr.trans (hb3.mono hbr.size)⟩
                · have HF := hide (fits_name hxn hN)
                  clear hxt hxn
                  rcases delta5 L[i].t with ⟨d1, dd⟩ | ⟨d1, dd⟩ | ⟨d1, dd⟩ | ⟨d1, dd⟩ | ⟨d1, d2, d3, d4, dd⟩
                  · have HD := hide dd
                    have z0 : ((L[i].t).toList == [40]) = true := by rw [d1, l40]; rfl
                    have z1 : ((L[i].t).toList == [123]) = false := by rw [d1, l40]; rfl
                    have z2 : ((L[i].t).toList == [41]) = false := by rw [d1, l40]; rfl
                    have z3 : ((L[i].t).toList == [125]) = false := by rw [d1, l40]; rfl
                    clear dd d1
                    by_cases h6 : op + (1) ≤ 6
                    · have HE : Hid (runM L s.size g [] (op + (1)) (i + 1) = some r) := by show _ = _; have h := hrun'.out; rw [HT.out, if_pos HF.out, HD.out, if_pos h6] at h; exact h
                      have h6' : op + 1 ≤ 6 := by omega
                      go_wp2_with fail
                      refine (r_becomes_none x L[i].t _ HX.out).mono ?_
                      rintro e w2 ⟨rfl, hw2⟩
                      subst hw2
                      go_wp2_with fail
                      refine (r_isName L[i].t _ htz).mono ?_
                      rintro e w3 ⟨rfl, hb3⟩
                      have hc3 := (hb3.cell (p := ⟨b, o, none⟩) hbb).trans hc0'
                      have hW4 : StrSl w3 (some ⟨b, o, none⟩) 0 ([] : List ByteArray) := strSl_nil _ _
                      go_wp2_with fail
                      go_roundg g
                      case measure => omega
                      case rel => exact ⟨[], op + (1), i + 1, _, _, rfl, hW4, by first | rfl | go_num, by go_num, HE.out, hTr.below hb3, hbr.trans (hb3.mono hbr.size)⟩
                    · have HE : Hid (r = .err L[i].p) := by show _ = _; have h := hrun'.out; rw [HT.out, if_pos HF.out, HD.out, if_neg h6] at h; rw [← HP.out]; exact (Option.some.inj h).symm
                      have h6' : 6 < op + 1 := by omega
                      go_wp2_with fail
                      refine (r_becomes_none x L[i].t _ HX.out).mono ?_
                      rintro e w2 ⟨rfl, hw2⟩
                      subst hw2
                      go_wp2_with fail
                      refine (r_isName L[i].t _ htz).mono ?_
                      rintro e w3 ⟨rfl, hb3⟩
                      have hc3 := (hb3.cell (p := ⟨b, o, none⟩) hbb).trans hc0'
                      have hW4 : StrSl w3 (some ⟨b, o, none⟩) 0 ([] : List ByteArray) := strSl_nil _ _
                      go_wp2_with fail
                      go_ret3
                      exact ⟨_, capL, by rw [HE.out]; rfl, hTr.below hb3, hbr.trans (hb3.mono hbr.size)⟩
                  · have HD := hide dd
                    have z0 : ((L[i].t).toList == [40]) = false := by rw [d1, l123]; rfl
                    have z1 : ((L[i].t).toList == [123]) = true := by rw [d1, l123]; rfl
                    have z2 : ((L[i].t).toList == [41]) = false := by rw [d1, l123]; rfl
                    have z3 : ((L[i].t).toList == [125]) = false := by rw [d1, l123]; rfl
                    clear dd d1
                    by_cases h6 : op + (1) ≤ 6
                    · have HE : Hid (runM L s.size g [] (op + (1)) (i + 1) = some r) := by show _ = _; have h := hrun'.out; rw [HT.out, if_pos HF.out, HD.out, if_pos h6] at h; exact h
                      have h6' : op + 1 ≤ 6 := by omega
                      go_wp2_with fail
                      refine (r_becomes_none x L[i].t _ HX.out).mono ?_
                      rintro e w2 ⟨rfl, hw2⟩
                      subst hw2
                      go_wp2_with fail
                      refine (r_isName L[i].t _ htz).mono ?_
                      rintro e w3 ⟨rfl, hb3⟩
                      have hc3 := (hb3.cell (p := ⟨b, o, none⟩) hbb).trans hc0'
                      have hW4 : StrSl w3 (some ⟨b, o, none⟩) 0 ([] : List ByteArray) := strSl_nil _ _
                      go_wp2_with fail
                      go_roundg g
                      case measure => omega
                      case rel => exact ⟨[], op + (1), i + 1, _, _, rfl, hW4, by first | rfl | go_num, by go_num, HE.out, hTr.below hb3, hbr.trans (hb3.mono hbr.size)⟩
                    · have HE : Hid (r = .err L[i].p) := by show _ = _; have h := hrun'.out; rw [HT.out, if_pos HF.out, HD.out, if_neg h6] at h; rw [← HP.out]; exact (Option.some.inj h).symm
                      have h6' : 6 < op + 1 := by omega
                      go_wp2_with fail
                      refine (r_becomes_none x L[i].t _ HX.out).mono ?_
                      rintro e w2 ⟨rfl, hw2⟩
                      subst hw2
                      go_wp2_with fail
                      refine (r_isName L[i].t _ htz).mono ?_
                      rintro e w3 ⟨rfl, hb3⟩
                      have hc3 := (hb3.cell (p := ⟨b, o, none⟩) hbb).trans hc0'
                      have hW4 : StrSl w3 (some ⟨b, o, none⟩) 0 ([] : List ByteArray) := strSl_nil _ _
                      go_wp2_with fail
                      go_ret3
                      exact ⟨_, capL, by rw [HE.out]; rfl, hTr.below hb3, hbr.trans (hb3.mono hbr.size)⟩
                  · have HD := hide dd
                    have z0 : ((L[i].t).toList == [40]) = false := by rw [d1, l41]; rfl
                    have z1 : ((L[i].t).toList == [123]) = false := by rw [d1, l41]; rfl
                    have z2 : ((L[i].t).toList == [41]) = true := by rw [d1, l41]; rfl
                    have z3 : ((L[i].t).toList == [125]) = false := by rw [d1, l41]; rfl
                    clear dd d1
                    have h6 : op + (-1) ≤ 6 := by omega
                    have HE : Hid (runM L s.size g [] (op + (-1)) (i + 1) = some r) := by show _ = _; have h := hrun'.out; rw [HT.out, if_pos HF.out, HD.out, if_pos h6] at h; exact h
                    have h6' : op - 1 ≤ 6 := by omega
                    go_wp2_with fail
                    refine (r_becomes_none x L[i].t _ HX.out).mono ?_
                    rintro e w2 ⟨rfl, hw2⟩
                    subst hw2
                    go_wp2_with fail
                    refine (r_isName L[i].t _ htz).mono ?_
                    rintro e w3 ⟨rfl, hb3⟩
                    have hc3 := (hb3.cell (p := ⟨b, o, none⟩) hbb).trans hc0'
                    have hW4 : StrSl w3 (some ⟨b, o, none⟩) 0 ([] : List ByteArray) := strSl_nil _ _
                    go_wp2_with fail
                    go_roundg g
                    case measure => omega
                    case rel => exact ⟨[], op + (-1), i + 1, _, _, rfl, hW4, by first | rfl | go_num, by go_num, HE.out, hTr.below hb3, hbr.trans (hb3.mono hbr.size)⟩
                  · have HD := hide dd
                    have z0 : ((L[i].t).toList == [40]) = false := by rw [d1, l125]; rfl
                    have z1 : ((L[i].t).toList == [123]) = false := by rw [d1, l125]; rfl
                    have z2 : ((L[i].t).toList == [41]) = false := by rw [d1, l125]; rfl
                    have z3 : ((L[i].t).toList == [125]) = true := by rw [d1, l125]; rfl
                    clear dd d1
                    have h6 : op + (-1) ≤ 6 := by omega
                    have HE : Hid (runM L s.size g [] (op + (-1)) (i + 1) = some r) := by show _ = _; have h := hrun'.out; rw [HT.out, if_pos HF.out, HD.out, if_pos h6] at h; exact h
                    have h6' : op - 1 ≤ 6 := by omega
                    go_wp2_with fail
                    refine (r_becomes_none x L[i].t _ HX.out).mono ?_
                    rintro e w2 ⟨rfl, hw2⟩
                    subst hw2
                    go_wp2_with fail
                    refine (r_isName L[i].t _ htz).mono ?_
                    rintro e w3 ⟨rfl, hb3⟩
                    have hc3 := (hb3.cell (p := ⟨b, o, none⟩) hbb).trans hc0'
                    have hW4 : StrSl w3 (some ⟨b, o, none⟩) 0 ([] : List ByteArray) := strSl_nil _ _
                    go_wp2_with fail
                    go_roundg g
                    case measure => omega
                    case rel => exact ⟨[], op + (-1), i + 1, _, _, rfl, hW4, by first | rfl | go_num, by go_num, HE.out, hTr.below hb3, hbr.trans (hb3.mono hbr.size)⟩
                  · have HD := hide dd
                    have z0 : ((L[i].t).toList == [40]) = false := by rw [lit_eq _ _ _ l40]; exact decide_eq_false d1
                    have z1 : ((L[i].t).toList == [123]) = false := by rw [lit_eq _ _ _ l123]; exact decide_eq_false d2
                    have z2 : ((L[i].t).toList == [41]) = false := by rw [lit_eq _ _ _ l41]; exact decide_eq_false d3
                    have z3 : ((L[i].t).toList == [125]) = false := by rw [lit_eq _ _ _ l125]; exact decide_eq_false d4
                    clear dd d1 d2 d3 d4
                    have h6 : op + (0) ≤ 6 := by omega
                    have HE : Hid (runM L s.size g [] (op + (0)) (i + 1) = some r) := by show _ = _; have h := hrun'.out; rw [HT.out, if_pos HF.out, HD.out, if_pos h6] at h; exact h
                    have h6' : op ≤ 6 := by omega
                    go_wp2_with fail
                    refine (r_becomes_none x L[i].t _ HX.out).mono ?_
                    rintro e w2 ⟨rfl, hw2⟩
                    subst hw2
                    go_wp2_with fail
                    refine (r_isName L[i].t _ htz).mono ?_
                    rintro e w3 ⟨rfl, hb3⟩
                    have hc3 := (hb3.cell (p := ⟨b, o, none⟩) hbb).trans hc0'
                    have hW4 : StrSl w3 (some ⟨b, o, none⟩) 0 ([] : List ByteArray) := strSl_nil _ _
                    go_wp2_with fail
                    go_roundg g
                    case measure => omega
                    case rel => exact ⟨[], op + (0), i + 1, _, _, rfl, hW4, by first | rfl | go_num, by go_num, HE.out, hTr.below hb3, hbr.trans (hb3.mono hbr.size)⟩
              · have hxl : (x.toList == [78, 65, 77, 69]) = false := lit_ne hxn (by rw [bl])
                have HFN := hide (fits_no1 hxt hxn)
                clear hxt hxn
                have HE : Hid (r = .err L[i].p) := by show _ = _; have h := hrun'.out; rw [HT.out, if_neg (by rw [HFN.out]; decide)] at h; rw [← HP.out]; exact (Option.some.inj h).symm
                go_wp2_with fail
                refine (r_becomes_none x L[i].t _ HX.out).mono ?_
                rintro e w2 ⟨rfl, hw2⟩
                subst hw2
                go_wp2_with fail
                refine (r_isName L[i].t _ htz).mono ?_
                rintro e w3 ⟨rfl, hb3⟩
                have hc3 := (hb3.cell (p := ⟨b, o, none⟩) hbb).trans hc0'
                have hW4 : StrSl w3 (some ⟨b, o, none⟩) 0 ([] : List ByteArray) := strSl_nil _ _
                go_wp2_with fail
                go_ret3
                exact ⟨_, capL, by rw [HE.out]; rfl, hTr.below hb3, hbr.trans (hb3.mono hbr.size)⟩
        · have hcap := hW.2.1
          have hc1' : (cap == 1) = false := beq_eq_false_iff_ne.2 hc1
          cases hx : ntOf x with
          | some nt =>
            have hrun' := hide (runM_nt hrun hx)
            have hxe := ntOf_some hx
            subst hxe
            clear hx hrun
            have lb := becB_len nt L[i].t
            go_wp2_with fail
            refine (r_becomes nt L[i].t _ htz).mono ?_
            rintro e w2 ⟨aoM, capM, rfl, hM, hb2⟩
            have hW2 := (hW.below hb2).tail
            go_wp2_with fail
            refine (r_front _ _ _ _ _ R _ (by omega) (by simp at q1 ⊢; try omega) hM hW2).mono ?_
            rintro e w3 ⟨aoN, capN, rfl, hN, hb3⟩
            have hb23 := hb2.trans (hb3.mono hb2.size)
            go_wp2_with fail
            go_roundg g
            case measure => omega
            case rel => exact ⟨becB nt L[i].t ++ R, op, i, aoN, capN, by simp, hN, rfl, rfl, by rw [← HT.out]; exact hrun'.out, hTr.below hb23, hbr.trans (hb23.mono hbr.size)⟩
          | none =>
            have hrun' := hide (runM_tok hrun hx)
            have HX := hide hx
            clear hx hrun
            by_cases hxt : x = L[i].t
            · have HF := hide (fits_eq hxt)
              have hq : (x.toList == (L[i].t).toList) = true := by rw [hxt]; simp
              have HXT := hide hxt
              clear hxt
              rcases delta5 L[i].t with ⟨d1, dd⟩ | ⟨d1, dd⟩ | ⟨d1, dd⟩ | ⟨d1, dd⟩ | ⟨d1, d2, d3, d4, dd⟩
              · have HD := hide dd
                have z0 : ((L[i].t).toList == [40]) = true := by rw [d1, l40]; rfl
                have z1 : ((L[i].t).toList == [123]) = false := by rw [d1, l40]; rfl
                have z2 : ((L[i].t).toList == [41]) = false := by rw [d1, l40]; rfl
                have z3 : ((L[i].t).toList == [125]) = false := by rw [d1, l40]; rfl
                clear dd d1
                by_cases h6 : op + (1) ≤ 6
                · have HE : Hid (runM L s.size g R (op + (1)) (i + 1) = some r) := by show _ = _; have h := hrun'.out; rw [HT.out, if_pos HF.out, HD.out, if_pos h6] at h; exact h
                  have h6' : op + 1 ≤ 6 := by omega
                  go_wp2_with fail
                  refine (r_becomes_none x L[i].t _ HX.out).mono ?_
                  rintro e w2 ⟨rfl, hw2⟩
                  subst hw2
                  go_wp2_with fail
                  refine (r_isName L[i].t _ htz).mono ?_
                  rintro e w3 ⟨rfl, hb3⟩
                  have hc3 := (hb3.cell (p := ⟨b, o, none⟩) hbb).trans hc0'
                  have hW4 := (hW.below hb3).tail
                  go_wp2_with fail
                  go_roundg g
                  case measure => omega
                  case rel => exact ⟨R, op + (1), i + 1, _, _, rfl, hW4, by first | rfl | go_num, by go_num, HE.out, hTr.below hb3, hbr.trans (hb3.mono hbr.size)⟩
                · have HE : Hid (r = .err L[i].p) := by show _ = _; have h := hrun'.out; rw [HT.out, if_pos HF.out, HD.out, if_neg h6] at h; rw [← HP.out]; exact (Option.some.inj h).symm
                  have h6' : 6 < op + 1 := by omega
                  go_wp2_with fail
                  refine (r_becomes_none x L[i].t _ HX.out).mono ?_
                  rintro e w2 ⟨rfl, hw2⟩
                  subst hw2
                  go_wp2_with fail
                  refine (r_isName L[i].t _ htz).mono ?_
                  rintro e w3 ⟨rfl, hb3⟩
                  have hc3 := (hb3.cell (p := ⟨b, o, none⟩) hbb).trans hc0'
                  have hW4 := (hW.below hb3).tail
                  go_wp2_with fail
                  go_ret3
                  exact ⟨_, capL, by rw [HE.out]; rfl, hTr.below hb3, hbr.trans (hb3.mono hbr.size)⟩
              · have HD := hide dd
                have z0 : ((L[i].t).toList == [40]) = false := by rw [d1, l123]; rfl
                have z1 : ((L[i].t).toList == [123]) = true := by rw [d1, l123]; rfl
                have z2 : ((L[i].t).toList == [41]) = false := by rw [d1, l123]; rfl
                have z3 : ((L[i].t).toList == [125]) = false := by rw [d1, l123]; rfl
                clear dd d1
                by_cases h6 : op + (1) ≤ 6
                · have HE : Hid (runM L s.size g R (op + (1)) (i + 1) = some r) := by show _ = _; have h := hrun'.out; rw [HT.out, if_pos HF.out, HD.out, if_pos h6] at h; exact h
                  have h6' : op + 1 ≤ 6 := by omega
                  go_wp2_with fail
                  refine (r_becomes_none x L[i].t _ HX.out).mono ?_
                  rintro e w2 ⟨rfl, hw2⟩
                  subst hw2
                  go_wp2_with fail
                  refine (r_isName L[i].t _ htz).mono ?_
                  rintro e w3 ⟨rfl, hb3⟩
                  have hc3 := (hb3.cell (p := ⟨b, o, none⟩) hbb).trans hc0'
                  have hW4 := (hW.below hb3).tail
                  go_wp2_with fail
                  go_roundg g
                  case measure => omega
                  case rel => exact ⟨R, op + (1), i + 1, _, _, rfl, hW4, by first | rfl | go_num, by go_num, HE.out, hTr.below hb3, hbr.trans (hb3.mono hbr.size)⟩
                · have HE : Hid (r = .err L[i].p) := by show _ = _; have h := hrun'.out; rw [HT.out, if_pos HF.out, HD.out, if_neg h6] at h; rw [← HP.out]; exact (Option.some.inj h).symm
                  have h6' : 6 < op + 1 := by omega
                  go_wp2_with fail
                  refine (r_becomes_none x L[i].t _ HX.out).mono ?_
                  rintro e w2 ⟨rfl, hw2⟩
                  subst hw2
                  go_wp2_with fail
                  refine (r_isName L[i].t _ htz).mono ?_
                  rintro e w3 ⟨rfl, hb3⟩
                  have hc3 := (hb3.cell (p := ⟨b, o, none⟩) hbb).trans hc0'
                  have hW4 := (hW.below hb3).tail
                  go_wp2_with fail
                  go_ret3
                  exact ⟨_, capL, by rw [HE.out]; rfl, hTr.below hb3, hbr.trans (hb3.mono hbr.size)⟩
              · have HD := hide dd
                have z0 : ((L[i].t).toList == [40]) = false := by rw [d1, l41]; rfl
                have z1 : ((L[i].t).toList == [123]) = false := by rw [d1, l41]; rfl
                have z2 : ((L[i].t).toList == [41]) = true := by rw [d1, l41]; rfl
                have z3 : ((L[i].t).toList == [125]) = false := by rw [d1, l41]; rfl
                clear dd d1
                have h6 : op + (-1) ≤ 6 := by omega
                have HE : Hid (runM L s.size g R (op + (-1)) (i + 1) = some r) := by show _ = _; have h := hrun'.out; rw [HT.out, if_pos HF.out, HD.out, if_pos h6] at h; exact h
                have h6' : op - 1 ≤ 6 := by omega
                go_wp2_with fail
                refine (r_becomes_none x L[i].t _ HX.out).mono ?_
                rintro e w2 ⟨rfl, hw2⟩
                subst hw2
                go_wp2_with fail
                refine (r_isName L[i].t _ htz).mono ?_
                rintro e w3 ⟨rfl, hb3⟩
                have hc3 := (hb3.cell (p := ⟨b, o, none⟩) hbb).trans hc0'
                have hW4 := (hW.below hb3).tail
                go_wp2_with fail
                go_roundg g
                case measure => omega
                case rel => exact ⟨R, op + (-1), i + 1, _, _, rfl, hW4, by first | rfl | go_num, by go_num, HE.out, hTr.below hb3, hbr.trans (hb3.mono hbr.size)⟩
              · have HD := hide dd
                have z0 : ((L[i].t).toList == [40]) = false := by rw [d1, l125]; rfl
                have z1 : ((L[i].t).toList == [123]) = false := by rw [d1, l125]; rfl
                have z2 : ((L[i].t).toList == [41]) = false := by rw [d1, l125]; rfl
                have z3 : ((L[i].t).toList == [125]) = true := by rw [d1, l125]; rfl
                clear dd d1
                have h6 : op + (-1) ≤ 6 := by omega
                have HE : Hid (runM L s.size g R (op + (-1)) (i + 1) = some r) := by show _ = _; have h := hrun'.out; rw [HT.out, if_pos HF.out, HD.out, if_pos h6] at h; exact h
                have h6' : op - 1 ≤ 6 := by omega
                go_wp2_with fail
                refine (r_becomes_none x L[i].t _ HX.out).mono ?_
                rintro e w2 ⟨rfl, hw2⟩
                subst hw2
                go_wp2_with fail
                refine (r_isName L[i].t _ htz).mono ?_
                rintro e w3 ⟨rfl, hb3⟩
                have hc3 := (hb3.cell (p := ⟨b, o, none⟩) hbb).trans hc0'
                have hW4 := (hW.below hb3).tail
                go_wp2_with fail
                go_roundg g
                case measure => omega
                case rel => exact ⟨R, op + (-1), i + 1, _, _, rfl, hW4, by first | rfl | go_num, by go_num, HE.out, hTr.below hb3, hbr.trans (hb3.mono hbr.size)⟩
              · have HD := hide dd
                have z0 : ((L[i].t).toList == [40]) = false := by rw [lit_eq _ _ _ l40]; exact decide_eq_false d1
                have z1 : ((L[i].t).toList == [123]) = false := by rw [lit_eq _ _ _ l123]; exact decide_eq_false d2
                have z2 : ((L[i].t).toList == [41]) = false := by rw [lit_eq _ _ _ l41]; exact decide_eq_false d3
                have z3 : ((L[i].t).toList == [125]) = false := by rw [lit_eq _ _ _ l125]; exact decide_eq_false d4
                clear dd d1 d2 d3 d4
                have h6 : op + (0) ≤ 6 := by omega
                have HE : Hid (runM L s.size g R (op + (0)) (i + 1) = some r) := by show _ = _; have h := hrun'.out; rw [HT.out, if_pos HF.out, HD.out, if_pos h6] at h; exact h
                have h6' : op ≤ 6 := by omega
                go_wp2_with fail
                refine (r_becomes_none x L[i].t _ HX.out).mono ?_
                rintro e w2 ⟨rfl, hw2⟩
                subst hw2
                go_wp2_with fail
                refine (r_isName L[i].t _ htz).mono ?_
                rintro e w3 ⟨rfl, hb3⟩
                have hc3 := (hb3.cell (p := ⟨b, o, none⟩) hbb).trans hc0'
                have hW4 := (hW.below hb3).tail
                go_wp2_with fail
                go_roundg g
                case measure => omega
                case rel => exact ⟨R, op + (0), i + 1, _, _, rfl, hW4, by first | rfl | go_num, by go_num, HE.out, hTr.below hb3, hbr.trans (hb3.mono hbr.size)⟩
            · have hq : (x.toList == (L[i].t).toList) = false := by rw [seq_comm]; exact decide_eq_false hxt
              by_cases hxn : x = ⟨#[78, 65, 77, 69]⟩
              · have hxl : (x.toList == [78, 65, 77, 69]) = true := by rw [hxn, bl]; rfl
                cases hN : isNameB L[i].t
                · have HFN := hide (fits_no2 hxt hN)
                  clear hxt hxn
                  have HE : Hid (r = .err L[i].p) := by show _ = _; have h := hrun'.out; rw [HT.out, if_neg (by rw [HFN.out]; decide)] at h; rw [← HP.out]; exact (Option.some.inj h).symm
                  go_wp2_with fail
                  refine (r_becomes_none x L[i].t _ HX.out).mono ?_
                  rintro e w2 ⟨rfl, hw2⟩
                  subst hw2
                  go_wp2_with fail
                  refine (r_isName L[i].t _ htz).mono ?_
                  rintro e w3 ⟨rfl, hb3⟩
                  have hc3 := (hb3.cell (p := ⟨b, o, none⟩) hbb).trans hc0'
                  have hW4 := (hW.below hb3).tail
                  go_wp2_with fail
                  go_ret3
                  exact ⟨_, capL, by rw [HE.out]; rfl, hTr.below hb3, hbr.trans (hb3.mono hbr.size)⟩
                · have HF := hide (fits_name hxn hN)
                  clear hxt hxn
                  rcases delta5 L[i].t with ⟨d1, dd⟩ | ⟨d1, dd⟩ | ⟨d1, dd⟩ | ⟨d1, dd⟩ | ⟨d1, d2, d3, d4, dd⟩
                  · have HD := hide dd
                    have z0 : ((L[i].t).toList == [40]) = true := by rw [d1, l40]; rfl
                    have z1 : ((L[i].t).toList == [123]) = false := by rw [d1, l40]; rfl
                    have z2 : ((L[i].t).toList == [41]) = false := by rw [d1, l40]; rfl
                    have z3 : ((L[i].t).toList == [125]) = false := by rw [d1, l40]; rfl
                    clear dd d1
                    by_cases h6 : op + (1) ≤ 6
                    · have HE : Hid (runM L s.size g R (op + (1)) (i + 1) = some r) := by show _ = _; have h := hrun'.out; rw [HT.out, if_pos HF.out, HD.out, if_pos h6] at h; exact h
                      have h6' : op + 1 ≤ 6 := by omega
                      go_wp2_with fail
                      refine (r_becomes_none x L[i].t _ HX.out).mono ?_
                      rintro e w2 ⟨rfl, hw2⟩
                      subst hw2
                      go_wp2_with fail
                      refine (r_isName L[i].t _ htz).mono ?_
                      rintro e w3 ⟨rfl, hb3⟩
                      have hc3 := (hb3.cell (p := ⟨b, o, none⟩) hbb).trans hc0'
                      have hW4 := (hW.below hb3).tail
                      go_wp2_with fail
                      go_roundg g
                      case measure => omega
                      case rel => exact ⟨R, op + (1), i + 1, _, _, rfl, hW4, by first | rfl | go_num, by go_num, HE.out, hTr.below hb3, hbr.trans (hb3.mono hbr.size)⟩
                    · have HE : Hid (r = .err L[i].p) := by show _ = _; have h := hrun'.out; rw [HT.out, if_pos HF.out, HD.out, if_neg h6] at h; rw [← HP.out]; exact (Option.some.inj h).symm
                      have h6' : 6 < op + 1 := by omega
                      go_wp2_with fail
                      refine (r_becomes_none x L[i].t _ HX.out).mono ?_
                      rintro e w2 ⟨rfl, hw2⟩
                      subst hw2
                      go_wp2_with fail
                      refine (r_isName L[i].t _ htz).mono ?_
                      rintro e w3 ⟨rfl, hb3⟩
                      have hc3 := (hb3.cell (p := ⟨b, o, none⟩) hbb).trans hc0'
                      have hW4 := (hW.below hb3).tail
                      go_wp2_with fail
                      go_ret3
                      exact ⟨_, capL, by rw [HE.out]; rfl, hTr.below hb3, hbr.trans (hb3.mono hbr.size)⟩
                  · have HD := hide dd
                    have z0 : ((L[i].t).toList == [40]) = false := by rw [d1, l123]; rfl
                    have z1 : ((L[i].t).toList == [123]) = true := by rw [d1, l123]; rfl
                    have z2 : ((L[i].t).toList == [41]) = false := by rw [d1, l123]; rfl
                    have z3 : ((L[i].t).toList == [125]) = false := by rw [d1, l123]; rfl
                    clear dd d1
                    by_cases h6 : op + (1) ≤ 6
                    · have HE : Hid (runM L s.size g R (op + (1)) (i + 1) = some r) := by show _ = _; have h := hrun'.out; rw [HT.out, if_pos HF.out, HD.out, if_pos h6] at h; exact h
                      have h6' : op + 1 ≤ 6 := by omega
                      go_wp2_with fail
                      refine (r_becomes_none x L[i].t _ HX.out).mono ?_
                      rintro e w2 ⟨rfl, hw2⟩
                      subst hw2
                      go_wp2_with fail
                      refine (r_isName L[i].t _ htz).mono ?_
                      rintro e w3 ⟨rfl, hb3⟩
                      have hc3 := (hb3.cell (p := ⟨b, o, none⟩) hbb).trans hc0'
                      have hW4 := (hW.below hb3).tail
                      go_wp2_with fail
                      go_roundg g
                      case measure => omega
                      case rel => exact ⟨R, op + (1), i + 1, _, _, rfl, hW4, by first | rfl | go_num, by go_num, HE.out, hTr.below hb3, hbr.trans (hb3.mono hbr.size)⟩
                    · have HE : Hid (r = .err L[i].p) := by show _ = _; have h := hrun'.out; rw [HT.out, if_pos HF.out, HD.out, if_neg h6] at h; rw [← HP.out]; exact (Option.some.inj h).symm
                      have h6' : 6 < op + 1 := by omega
                      go_wp2_with fail
                      refine (r_becomes_none x L[i].t _ HX.out).mono ?_
                      rintro e w2 ⟨rfl, hw2⟩
                      subst hw2
                      go_wp2_with fail
                      refine (r_isName L[i].t _ htz).mono ?_
                      rintro e w3 ⟨rfl, hb3⟩
                      have hc3 := (hb3.cell (p := ⟨b, o, none⟩) hbb).trans hc0'
                      have hW4 := (hW.below hb3).tail
                      go_wp2_with fail
                      go_ret3
                      exact ⟨_, capL, by rw [HE.out]; rfl, hTr.below hb3, hbr.trans (hb3.mono hbr.size)⟩
                  · have HD := hide dd
                    have z0 : ((L[i].t).toList == [40]) = false := by rw [d1, l41]; rfl
                    have z1 : ((L[i].t).toList == [123]) = false := by rw [d1, l41]; rfl
                    have z2 : ((L[i].t).toList == [41]) = true := by rw [d1, l41]; rfl
                    have z3 : ((L[i].t).toList == [125]) = false := by rw [d1, l41]; rfl
                    clear dd d1
                    have h6 : op + (-1) ≤ 6 := by omega
                    have HE : Hid (runM L s.size g R (op + (-1)) (i + 1) = some r) := by show _ = _; have h := hrun'.out; rw [HT.out, if_pos HF.out, HD.out, if_pos h6] at h; exact h
                    have h6' : op - 1 ≤ 6 := by omega
                    go_wp2_with fail
                    refine (r_becomes_none x L[i].t _ HX.out).mono ?_
                    rintro e w2 ⟨rfl, hw2⟩
                    subst hw2
                    go_wp2_with fail
                    refine (r_isName L[i].t _ htz).mono ?_
                    rintro e w3 ⟨rfl, hb3⟩
                    have hc3 := (hb3.cell (p := ⟨b, o, none⟩) hbb).trans hc0'
                    have hW4 := (hW.below hb3).tail
                    go_wp2_with fail
                    go_roundg g
                    case measure => omega
                    case rel => exact ⟨R, op + (-1), i + 1, _, _, rfl, hW4, by first | rfl | go_num, by go_num, HE.out, hTr.below hb3, hbr.trans (hb3.mono hbr.size)⟩
                  · have HD := hide dd
                    have z0 : ((L[i].t).toList == [40]) = false := by rw [d1, l125]; rfl
                    have z1 : ((L[i].t).toList == [123]) = false := by rw [d1, l125]; rfl
                    have z2 : ((L[i].t).toList == [41]) = false := by rw [d1, l125]; rfl
                    have z3 : ((L[i].t).toList == [125]) = true := by rw [d1, l125]; rfl
                    clear dd d1
                    have h6 : op + (-1) ≤ 6 := by omega
                    have HE : Hid (runM L s.size g R (op + (-1)) (i + 1) = some r) := by show _ = _; have h := hrun'.out; rw [HT.out, if_pos HF.out, HD.out, if_pos h6] at h; exact h
                    have h6' : op - 1 ≤ 6 := by omega
                    go_wp2_with fail
                    refine (r_becomes_none x L[i].t _ HX.out).mono ?_
                    rintro e w2 ⟨rfl, hw2⟩
                    subst hw2
                    go_wp2_with fail
                    refine (r_isName L[i].t _ htz).mono ?_
                    rintro e w3 ⟨rfl, hb3⟩
                    have hc3 := (hb3.cell (p := ⟨b, o, none⟩) hbb).trans hc0'
                    have hW4 := (hW.below hb3).tail
                    go_wp2_with fail
                    go_roundg g
                    case measure => omega
                    case rel => exact ⟨R, op + (-1), i + 1, _, _, rfl, hW4, by first | rfl | go_num, by go_num, HE.out, hTr.below hb3, hbr.trans (hb3.mono hbr.size)⟩
                  · have HD := hide dd
                    have z0 : ((L[i].t).toList == [40]) = false := by rw [lit_eq _ _ _ l40]; exact decide_eq_false d1
                    have z1 : ((L[i].t).toList == [123]) = false := by rw [lit_eq _ _ _ l123]; exact decide_eq_false d2
                    have z2 : ((L[i].t).toList == [41]) = false := by rw [lit_eq _ _ _ l41]; exact decide_eq_false d3
                    have z3 : ((L[i].t).toList == [125]) = false := by rw [lit_eq _ _ _ l125]; exact decide_eq_false d4
                    clear dd d1 d2 d3 d4
                    have h6 : op + (0) ≤ 6 := by omega
                    have HE : Hid (runM L s.size g R (op + (0)) (i + 1) = some r) := by show _ = _; have h := hrun'.out; rw [HT.out, if_pos HF.out, HD.out, if_pos h6] at h; exact h
                    have h6' : op ≤ 6 := by omega
                    go_wp2_with fail
                    refine (r_becomes_none x L[i].t _ HX.out).mono ?_
                    rintro e w2 ⟨rfl, hw2⟩
                    subst hw2
                    go_wp2_with fail
                    refine (r_isName L[i].t _ htz).mono ?_
                    rintro e w3 ⟨rfl, hb3⟩
                    have hc3 := (hb3.cell (p := ⟨b, o, none⟩) hbb).trans hc0'
                    have hW4 := (hW.below hb3).tail
                    go_wp2_with fail
                    go_roundg g
                    case measure => omega
                    case rel => exact ⟨R, op + (0), i + 1, _, _, rfl, hW4, by first | rfl | go_num, by go_num, HE.out, hTr.below hb3, hbr.trans (hb3.mono hbr.size)⟩
              · have hxl : (x.toList == [78, 65, 77, 69]) = false := lit_ne hxn (by rw [bl])
                have HFN := hide (fits_no1 hxt hxn)
                clear hxt hxn
                have HE : Hid (r = .err L[i].p) := by show _ = _; have h := hrun'.out; rw [HT.out, if_neg (by rw [HFN.out]; decide)] at h; rw [← HP.out]; exact (Option.some.inj h).symm
                go_wp2_with fail
                refine (r_becomes_none x L[i].t _ HX.out).mono ?_
                rintro e w2 ⟨rfl, hw2⟩
                subst hw2
                go_wp2_with fail
                refine (r_isName L[i].t _ htz).mono ?_
                rintro e w3 ⟨rfl, hb3⟩
                have hc3 := (hb3.cell (p := ⟨b, o, none⟩) hbb).trans hc0'
                have hW4 := (hW.below hb3).tail
                go_wp2_with fail
                go_ret3
                exact ⟨_, capL, by rw [HE.out]; rfl, hTr.below hb3, hbr.trans (hb3.mono hbr.size)⟩
      · have HT := hide (tAt_out hi)
        have HP := hide (pAt_out (len := s.size) hi)
        by_cases hc1 : cap = 1
        · have hR : R = [] := by
            have := hW.2.1
            rw [List.length_cons] at this
            exact List.length_eq_zero_iff.1 (by omega)
          subst hR; subst hc1
          cases hx : ntOf x with
          | some nt =>
            have hrun' := hide (runM_nt hrun hx)
            have hxe := ntOf_some hx
            subst hxe
            clear hx hrun
            have lb := becB_len nt (⟨#[]⟩ : ByteArray)
            go_wp2_with fail
            refine (r_becomes nt (⟨#[]⟩ : ByteArray) _ (by decide)).mono ?_
            rintro e w2 ⟨aoM, capM, rfl, hM, hb2⟩
            have hW2 : StrSl w2 (some ⟨b, o, none⟩) 0 ([] : List ByteArray) := strSl_nil _ _
            go_wp2_with fail
            refine (r_front _ _ _ _ _ [] _ (by omega) (by simp at q1 ⊢; try omega) hM hW2).mono ?_
            rintro e w3 ⟨aoN, capN, rfl, hN, hb3⟩
            have hb23 := hb2.trans (hb3.mono hb2.size)
            go_wp2_with fail
            go_roundg g
            case measure => omega
            case rel => exact ⟨becB nt (⟨#[]⟩ : ByteArray) ++ [], op, i, aoN, capN, by simp, hN, rfl, rfl, by rw [← HT.out]; exact hrun'.out, hTr.below hb23, hbr.trans (hb23.mono hbr.size)⟩
          | none =>
            have hrun' := hide (runM_tok hrun hx)
            have HX := hide hx
            clear hx hrun
            have hq : x.toList.isEmpty = false := empty_ne hx0
            have hN : isNameB (⟨#[]⟩ : ByteArray) = false := by rw [isNameB_eq]; decide
            have HFN := hide (fits_no2 hx0 hN)
            by_cases hxn : x = ⟨#[78, 65, 77, 69]⟩
            · have hxl : (x.toList == [78, 65, 77, 69]) = true := by rw [hxn, bl]; rfl
              clear hxn
              have HE : Hid (r = .err s.size) := by show _ = _; have h := hrun'.out; rw [HT.out, if_neg (by rw [HFN.out]; decide)] at h; rw [← HP.out]; exact (Option.some.inj h).symm
              go_wp2_with fail
              refine (r_becomes_none x (⟨#[]⟩ : ByteArray) _ HX.out).mono ?_
              rintro e w2 ⟨rfl, hw2⟩
              subst hw2
              go_wp2_with fail
              refine (r_isName (⟨#[]⟩ : ByteArray) _ (by decide)).mono ?_
              rintro e w3 ⟨rfl, hb3⟩
              have hc3 := (hb3.cell (p := ⟨b, o, none⟩) hbb).trans hc0'
              have hW4 : StrSl w3 (some ⟨b, o, none⟩) 0 ([] : List ByteArray) := strSl_nil _ _
              go_wp2_with fail
              go_ret3
              exact ⟨_, capL, by rw [HE.out]; rfl, hTr.below hb3, hbr.trans (hb3.mono hbr.size)⟩
            · have hxl : (x.toList == [78, 65, 77, 69]) = false := lit_ne hxn (by rw [bl])
              clear hxn
              have HE : Hid (r = .err s.size) := by show _ = _; have h := hrun'.out; rw [HT.out, if_neg (by rw [HFN.out]; decide)] at h; rw [← HP.out]; exact (Option.some.inj h).symm
              go_wp2_with fail
              refine (r_becomes_none x (⟨#[]⟩ : ByteArray) _ HX.out).mono ?_
              rintro e w2 ⟨rfl, hw2⟩
              subst hw2
              go_wp2_with fail
              refine (r_isName (⟨#[]⟩ : ByteArray) _ (by decide)).mono ?_
              rintro e w3 ⟨rfl, hb3⟩
              have hc3 := (hb3.cell (p := ⟨b, o, none⟩) hbb).trans hc0'
              have hW4 : StrSl w3 (some ⟨b, o, none⟩) 0 ([] : List ByteArray) := strSl_nil _ _
              go_wp2_with fail
              go_ret3
              exact ⟨_, capL, by rw [HE.out]; rfl, hTr.below hb3, hbr.trans (hb3.mono hbr.size)⟩
        · have hcap := hW.2.1
          have hc1' : (cap == 1) = false := beq_eq_false_iff_ne.2 hc1
          cases hx : ntOf x with
          | some nt =>
            have hrun' := hide (runM_nt hrun hx)
            have hxe := ntOf_some hx
            subst hxe
            clear hx hrun
            have lb := becB_len nt (⟨#[]⟩ : ByteArray)
            go_wp2_with fail
            refine (r_becomes nt (⟨#[]⟩ : ByteArray) _ (by decide)).mono ?_
            rintro e w2 ⟨aoM, capM, rfl, hM, hb2⟩
            have hW2 := (hW.below hb2).tail
            go_wp2_with fail
            refine (r_front _ _ _ _ _ R _ (by omega) (by simp at q1 ⊢; try omega) hM hW2).mono ?_
            rintro e w3 ⟨aoN, capN, rfl, hN, hb3⟩
            have hb23 := hb2.trans (hb3.mono hb2.size)
            go_wp2_with fail
            go_roundg g
            case measure => omega
            case rel => exact ⟨becB nt (⟨#[]⟩ : ByteArray) ++ R, op, i, aoN, capN, by simp, hN, rfl, rfl, by rw [← HT.out]; exact hrun'.out, hTr.below hb23, hbr.trans (hb23.mono hbr.size)⟩
          | none =>
            have hrun' := hide (runM_tok hrun hx)
            have HX := hide hx
            clear hx hrun
            have hq : x.toList.isEmpty = false := empty_ne hx0
            have hN : isNameB (⟨#[]⟩ : ByteArray) = false := by rw [isNameB_eq]; decide
            have HFN := hide (fits_no2 hx0 hN)
            by_cases hxn : x = ⟨#[78, 65, 77, 69]⟩
            · have hxl : (x.toList == [78, 65, 77, 69]) = true := by rw [hxn, bl]; rfl
              clear hxn
              have HE : Hid (r = .err s.size) := by show _ = _; have h := hrun'.out; rw [HT.out, if_neg (by rw [HFN.out]; decide)] at h; rw [← HP.out]; exact (Option.some.inj h).symm
              go_wp2_with fail
              refine (r_becomes_none x (⟨#[]⟩ : ByteArray) _ HX.out).mono ?_
              rintro e w2 ⟨rfl, hw2⟩
              subst hw2
              go_wp2_with fail
              refine (r_isName (⟨#[]⟩ : ByteArray) _ (by decide)).mono ?_
              rintro e w3 ⟨rfl, hb3⟩
              have hc3 := (hb3.cell (p := ⟨b, o, none⟩) hbb).trans hc0'
              have hW4 := (hW.below hb3).tail
              go_wp2_with fail
              go_ret3
              exact ⟨_, capL, by rw [HE.out]; rfl, hTr.below hb3, hbr.trans (hb3.mono hbr.size)⟩
            · have hxl : (x.toList == [78, 65, 77, 69]) = false := lit_ne hxn (by rw [bl])
              clear hxn
              have HE : Hid (r = .err s.size) := by show _ = _; have h := hrun'.out; rw [HT.out, if_neg (by rw [HFN.out]; decide)] at h; rw [← HP.out]; exact (Option.some.inj h).symm
              go_wp2_with fail
              refine (r_becomes_none x (⟨#[]⟩ : ByteArray) _ HX.out).mono ?_
              rintro e w2 ⟨rfl, hw2⟩
              subst hw2
              go_wp2_with fail
              refine (r_isName (⟨#[]⟩ : ByteArray) _ (by decide)).mono ?_
              rintro e w3 ⟨rfl, hb3⟩
              have hc3 := (hb3.cell (p := ⟨b, o, none⟩) hbb).trans hc0'
              have hW4 := (hW.below hb3).tail
              go_wp2_with fail
              go_ret3
              exact ⟨_, capL, by rw [HE.out]; rfl, hTr.below hb3, hbr.trans (hb3.mono hbr.size)⟩

end Go.Proofs.YtmfcpbhdggonfaaGreatDoor
