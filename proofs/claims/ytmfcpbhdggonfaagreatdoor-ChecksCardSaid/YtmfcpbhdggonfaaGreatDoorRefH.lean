/- Contracts of the reference's functions: is a name given; how many values has a call. -/
import Derived.Test.YtmfcpbhdggonfaaGreatDoorRefF
import Derived.Test.YtmfcpbhdggonfaaGreatDoorPure
namespace Go.Proofs.YtmfcpbhdggonfaaGreatDoor
open Go.RowKit RR

set_option maxRecDepth 100000 in
set_option maxHeartbeats 2000000 in
theorem r_given (L : List Tk) (b o cap : Nat) (i : Nat) (w : World) (hL : L.length ≤ 500) (ht : ∀ k, (h : k < L.length) → L[k].t.size ≤ 500) (hp : ProcOk L) (hc : ToksAt w b o L) :
    Calls Tryz.prog 50 #[.agg #[.slice (some ⟨b, o, none⟩) L.length cap], .int .i64 i] w fun e w' => e = .returned (.bool (givenB L i)) ∧ Below w.heap.size w w' := by
  have hx0 := Below.refl (w.heap.size + 1) (w.alloc (.cells #[.slice (some ⟨b, o, none⟩) L.length cap] 71))
  obtain ⟨hcell0, hsz0, hbel0⟩ := bx hx0
  have hct0 := hc.below hbel0
  have lo := ownersB_len L
  have lq := procsB_len L
  have hQ0 : ∀ j ∈ procsB L, j < L.length := procsF_lt hp 0
  have HM : Hid (givenB L i = (hasB (ownersB L) i || givenF L i (procsB L))) := rfl
  go_enter Tryz.func50, Tryz.ntmps50
  go_wp2_with fail
  refine (r_owners L b o cap _ hL ht hct0).mono ?_
  rintro e w1 ⟨ao1, cp1, rfl, hs1, hb1⟩
  have hx1 := hx0.trans (hb1.mono hsz0)
  go_wp2_with fail
  refine (r_has _ _ _ _ _ (by omega) hs1).mono ?_
  rintro e w2 ⟨rfl, hw2⟩
  have hb2 := below_of_eq hw2
  have hx2 := hx1.trans (hb2.mono (bx hx1).2.1)
  clear hw2 hb2
  cases hH : hasB (ownersB L) (i : Int)
  · obtain ⟨hcell2, hsz2, hbel2⟩ := bx hx2
    have hct2 := hc.below hbel2
    go_wp2_with fail
    refine (r_procs L b o cap _ hL hct2).mono ?_
    rintro e w4 ⟨aoQ, cpQ, rfl, hsQ, hb4⟩
    have hx4 := hx2.trans (hb4.mono hsz2)
    generalize hQ : procsB L = Q at *
    clear hQ hb4 hcell2 hsz2 hbel2 hct2 hx2 hx1 hs1 hb1 hcell0 hsz0 hbel0 hct0 hx0
    go_wp2_with fail
    go_loopw [7, 8] (fun u v8 wr => ∃ (k : Nat), u = .int .i64 k ∧ k ≤ Q.length ∧ givenF L i (Q.drop k) = givenF L i Q ∧ IntSl wr aoQ cpQ Q ∧ Below (w.heap.size + 1) (w.alloc (.cells #[.slice (some ⟨b, o, none⟩) L.length cap] 71)) wr) (fun u _ _ => Q.length - (intOf u).toNat)
    case atStart => exact ⟨0, rfl, Nat.zero_le _, rfl, hsQ, hx4⟩
    case round =>
      obtain ⟨k, rfl, hk, hn, hsQr, hbx⟩ := hrel
      obtain ⟨hcellr, hszr, hbelr⟩ := bx hbx
      have hctr := hc.below hbelr
      have HN := hide hn
      have HB := hide hbx
      have HSQ := hide hsQr
      clear hn hbelr hbx hx4 hsQ
      by_cases hlt : k < Q.length
      · obtain ⟨b', o', hb', hao, hck⟩ := hsQr.2.2 k hlt
        subst hao
        have hj := hQ0 Q[k] (List.getElem_mem _)
        have lp : (paramsB L Q[k]).length ≤ L.length := Nat.le_trans (namesF_len L (Q[k] + 2)) (Nat.sub_le _ _)
        have HX : Hid (givenF L i (Q.drop k) = (hasB (paramsB L Q[k]) i || givenF L i (Q.drop (k + 1)))) := by show _ = _; rw [List.drop_eq_getElem_cons hlt]; rfl
        clear hsQr
        cases hG : hasB (paramsB L Q[k]) (i : Int)
        all_goals
          go_wp2_with fail
          go_region_held (fun w' => w'.cell? ⟨w.heap.size, 0, none⟩ = some (.slice (some ⟨b, o, none⟩) L.length cap) ∧ w'.cell? ⟨b', o' + k, none⟩ = some (.int .i64 Q[k]) ∧ Below wr.heap.size wr w') (first | exact ⟨hcellr, hck, (Below.refl _ _).drew⟩ | exact keep2 hszr hb' (by assumption) (by assumption)) (first | (go_at_call 56; refine (r_params L b o cap _ _ hL ht ?_ ?_).mono ?_; exact hctr.below (Below.refl _ _).drew; exact (by omega); rintro e w5 ⟨aoM, cpM, rfl, hsM, hb5⟩) | (go_at_call 84; refine (r_has _ _ _ _ _ (Nat.le_trans lp (by omega)) hsM).mono ?_; rintro e w6 ⟨rfl, hw6⟩; have hb6 := below_of_eq hw6; clear hw6))
          have hy : Below wr.heap.size wr w6 := ((Below.refl _ _).drew.trans hb5).trans (hb6.mono hb5.size)
          clear hb5 hb6 hsM
        · go_wp2
          go_roundw
          case rel => exact ⟨k + 1, by go_num, by omega, by rw [← HN.out, HX.out, hG]; rfl, HSQ.out.below hy, HB.out.trans (hy.mono hszr)⟩
          case measure => simp [intOf]; omega
        · go_wp2
          go_ret
          exact ⟨ret_bool (by rw [HM.out, ← HN.out, HX.out, hG, hH]; rfl), (bx (HB.out.trans (hy.mono hszr))).2.2⟩
      · have HE : Hid (givenF L i Q = false) := by show _ = _; rw [← HN.out, List.drop_of_length_le (by omega)]; rfl
        go_wp2
        go_ret
        exact ⟨ret_bool (by rw [HM.out, HE.out, hH]; rfl), (bx HB.out).2.2⟩
  · go_wp2
    go_ret
    exact ⟨ret_bool (by rw [HM.out, hH]; rfl), (bx hx2).2.2⟩

set_option maxRecDepth 100000 in
set_option maxHeartbeats 2000000 in
theorem r_values (L : List Tk) (b o cap : Nat) (i : Nat) (w : World) (hL : L.length ≤ 500) (hi : i ≤ 500) (hc : ToksAt w b o L) :
    Calls Tryz.prog 55 #[.agg #[.slice (some ⟨b, o, none⟩) L.length cap], .int .i64 i] w fun e w' => e = .returned (.int .i64 (valuesB L i)) ∧ Below w.heap.size w w' := by
  have hx0 := Below.refl (w.heap.size + 1) (w.alloc (.cells #[.slice (some ⟨b, o, none⟩) L.length cap] 71))
  obtain ⟨hcell0, hsz0, hbel0⟩ := bx hx0
  have hct0 := hc.below hbel0
  obtain ⟨m1, m2, m3⟩ := mateB_bd L i hi hL
  have HM : Hid (valuesB L i = if mateB L i = i + 1 then 0 else valuesF L (mateB L i) (L.length + 1) i 0 1) := rfl
  go_enter Tryz.func55, Tryz.ntmps55
  go_wp2_with fail
  refine (r_mate L b o cap _ _ hL hi hct0).mono ?_
  rintro e w1 ⟨rfl, hb1⟩
  have hx1 := hx0.trans (hb1.mono hsz0)
  generalize mateB L i = E at *
  clear hb1 hcell0 hsz0 hbel0 hct0 hx0
  by_cases hE : E = i + 1
  · have hE' : (E == (i : Int) + 1) = true := beq_iff_eq.2 hE
    have HE := hide hE
    clear hE
    go_wp2
    go_ret
    exact ⟨ret_int (by rw [HM.out, if_pos HE.out]), (bx hx1).2.2⟩
  · have hE' : (E == (i : Int) + 1) = false := beq_eq_false_iff_ne.2 hE
    have HV : Hid (valuesB L i = valuesF L E (L.length + 1) i 0 1) := by show _ = _; rw [HM.out, if_neg hE]
    clear hE
    go_wp2_with fail
    go_loopw [6, 7, 8] (fun v6 v7 u wr => ∃ (k f : Nat) (op n : Int), v6 = .int .i64 n ∧ v7 = .int .i64 op ∧ u = .int .i64 k ∧ f + k = L.length + 1 + i ∧ i ≤ k ∧ -(k : Int) ≤ op ∧ op ≤ k ∧ (1 ≤ n ∧ n ≤ k + 1) ∧ valuesF L E f k op n = valuesB L i ∧ Below (w.heap.size + 1) (w.alloc (.cells #[.slice (some ⟨b, o, none⟩) L.length cap] 71)) wr) (fun _ _ u _ => (E - intOf u).toNat)
    case atStart => exact ⟨i, L.length + 1, 0, 1, rfl, rfl, rfl, by omega, by omega, by omega, by omega, by omega, HV.out.symm, hx1⟩
    case round =>
      obtain ⟨k, f, op, n, rfl, rfl, rfl, hf, hik, ho1, ho2, hn0, hn, hbx⟩ := hrel
      obtain ⟨hcellr, hszr, hbelr⟩ := bx hbx
      have hctr := hc.below hbelr
      have HN := hide hn
      have HB := hide hbx
      clear hn hbelr hbx HV HM hx1
      by_cases hlt : (k : Int) < E
      · obtain ⟨f', rfl⟩ : ∃ f', f = f' + 1 := ⟨f - 1, by omega⟩
        obtain ⟨d, m, hst, hcs⟩ := val_step L E f' k op n hlt
        have HST := hide hst
        clear hst
        rcases hcs with ⟨c1, c2, c3, rfl, rfl⟩ | ⟨c1, c2, c3, rfl, rfl⟩ | ⟨c1, c2, c3, rfl, c4, rfl⟩ | ⟨c1, c2, c3, rfl, c4, rfl⟩ | ⟨c1, c2, c3, rfl, rfl⟩
        · go_wp2_with fail
          refine (r_is L b o cap _ _ _ hL hctr).mono ?_
          rintro e wA ⟨rfl, hbA⟩
          have hxA := HB.out.trans (hbA.mono hszr)
          obtain ⟨hcellA, hszA, hbelA⟩ := bx hxA
          have hctA := hc.below hbelA
          go_wp2_with fail
          refine (r_is L b o cap _ _ _ hL hctA).mono ?_
          rintro e wC ⟨rfl, hbC⟩
          have hxC := hxA.trans (hbC.mono hszA)
          obtain ⟨hcellC, hszC, hbelC⟩ := bx hxC
          have hctC := hc.below hbelC
          go_wp2_with fail
          refine (r_is L b o cap _ _ _ hL hctC).mono ?_
          rintro e wD ⟨rfl, hbD⟩
          have hxD := hxC.trans (hbD.mono hszC)
          clear hbA hbC hbD hcellA hcellC hbelA hbelC hctA hctC
          go_wp2
          go_roundw
          case rel => exact ⟨k + 1, f', op + 1, n + 0, by first | rfl | go_num, by first | rfl | go_num, by go_num, by omega, by omega, by omega, by omega, by omega, by rw [← HN.out, HST.out], hxD⟩
          case measure => simp [intOf]; omega

        · go_wp2_with fail
          refine (r_is L b o cap _ _ _ hL hctr).mono ?_
          rintro e wA ⟨rfl, hbA⟩
          have hxA := HB.out.trans (hbA.mono hszr)
          obtain ⟨hcellA, hszA, hbelA⟩ := bx hxA
          have hctA := hc.below hbelA
          go_wp2_with fail
          refine (r_is L b o cap _ _ _ hL hctA).mono ?_
          rintro e wC ⟨rfl, hbC⟩
          have hxC := hxA.trans (hbC.mono hszA)
          obtain ⟨hcellC, hszC, hbelC⟩ := bx hxC
          have hctC := hc.below hbelC
          go_wp2_with fail
          refine (r_is L b o cap _ _ _ hL hctC).mono ?_
          rintro e wD ⟨rfl, hbD⟩
          have hxD := hxC.trans (hbD.mono hszC)
          clear hbA hbC hbD hcellA hcellC hbelA hbelC hctA hctC
          go_wp2
          go_roundw
          case rel => exact ⟨k + 1, f', op + -1, n + 0, by first | rfl | go_num, by first | rfl | go_num, by go_num, by omega, by omega, by omega, by omega, by omega, by rw [← HN.out, HST.out], hxD⟩
          case measure => simp [intOf]; omega

        · have c5 : (op == 1) = true := beq_iff_eq.2 c4
          have HC := hide c4
          clear c4
          go_wp2_with fail
          refine (r_is L b o cap _ _ _ hL hctr).mono ?_
          rintro e wA ⟨rfl, hbA⟩
          have hxA := HB.out.trans (hbA.mono hszr)
          obtain ⟨hcellA, hszA, hbelA⟩ := bx hxA
          have hctA := hc.below hbelA
          go_wp2_with fail
          refine (r_is L b o cap _ _ _ hL hctA).mono ?_
          rintro e wC ⟨rfl, hbC⟩
          have hxC := hxA.trans (hbC.mono hszA)
          obtain ⟨hcellC, hszC, hbelC⟩ := bx hxC
          have hctC := hc.below hbelC
          go_wp2_with fail
          refine (r_is L b o cap _ _ _ hL hctC).mono ?_
          rintro e wD ⟨rfl, hbD⟩
          have hxD := hxC.trans (hbD.mono hszC)
          clear hbA hbC hbD hcellA hcellC hbelA hbelC hctA hctC
          go_wp2
          go_roundw
          case rel => exact ⟨k + 1, f', op + 0, n + 1, by first | rfl | go_num, by first | rfl | go_num, by go_num, by omega, by omega, by omega, by omega, by omega, by rw [← HN.out, HST.out], hxD⟩
          case measure => simp [intOf]; omega

        · have c5 : (op == 1) = false := beq_eq_false_iff_ne.2 c4
          go_wp2_with fail
          refine (r_is L b o cap _ _ _ hL hctr).mono ?_
          rintro e wA ⟨rfl, hbA⟩
          have hxA := HB.out.trans (hbA.mono hszr)
          obtain ⟨hcellA, hszA, hbelA⟩ := bx hxA
          have hctA := hc.below hbelA
          go_wp2_with fail
          refine (r_is L b o cap _ _ _ hL hctA).mono ?_
          rintro e wC ⟨rfl, hbC⟩
          have hxC := hxA.trans (hbC.mono hszA)
          obtain ⟨hcellC, hszC, hbelC⟩ := bx hxC
          have hctC := hc.below hbelC
          go_wp2_with fail
          refine (r_is L b o cap _ _ _ hL hctC).mono ?_
          rintro e wD ⟨rfl, hbD⟩
          have hxD := hxC.trans (hbD.mono hszC)
          clear hbA hbC hbD hcellA hcellC hbelA hbelC hctA hctC
          go_wp2
          go_roundw
          case rel => exact ⟨k + 1, f', op + 0, n + 0, by first | rfl | go_num, by first | rfl | go_num, by go_num, by omega, by omega, by omega, by omega, by omega, by rw [← HN.out, HST.out], hxD⟩
          case measure => simp [intOf]; omega

        · go_wp2_with fail
          refine (r_is L b o cap _ _ _ hL hctr).mono ?_
          rintro e wA ⟨rfl, hbA⟩
          have hxA := HB.out.trans (hbA.mono hszr)
          obtain ⟨hcellA, hszA, hbelA⟩ := bx hxA
          have hctA := hc.below hbelA
          go_wp2_with fail
          refine (r_is L b o cap _ _ _ hL hctA).mono ?_
          rintro e wC ⟨rfl, hbC⟩
          have hxC := hxA.trans (hbC.mono hszA)
          obtain ⟨hcellC, hszC, hbelC⟩ := bx hxC
          have hctC := hc.below hbelC
          go_wp2_with fail
          refine (r_is L b o cap _ _ _ hL hctC).mono ?_
          rintro e wD ⟨rfl, hbD⟩
          have hxD := hxC.trans (hbD.mono hszC)
          clear hbA hbC hbD hcellA hcellC hbelA hbelC hctA hctC
          go_wp2
          go_roundw
          case rel => exact ⟨k + 1, f', op + 0, n + 0, by first | rfl | go_num, by first | rfl | go_num, by go_num, by omega, by omega, by omega, by omega, by omega, by rw [← HN.out, HST.out], hxD⟩
          case measure => simp [intOf]; omega

      · have HE : Hid (valuesF L E f k op n = n) := by
          show _ = _
          cases f with
          | zero => rfl
          | succ f => rw [valuesF, if_neg hlt]
        go_wp2
        go_ret
        exact ⟨ret_int (by rw [← HN.out, HE.out]), (bx HB.out).2.2⟩

end Go.Proofs.YtmfcpbhdggonfaaGreatDoor
