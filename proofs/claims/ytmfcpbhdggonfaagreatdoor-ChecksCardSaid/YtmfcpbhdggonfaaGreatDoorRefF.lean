/- Contracts of the reference's checks on names: given twice. -/
import Derived.Test.YtmfcpbhdggonfaaGreatDoorRefE
namespace Go.Proofs.YtmfcpbhdggonfaaGreatDoor
open Go.RowKit RR

theorem keep3 {wr W w1 : World} {a c d : Addr} {x y z : Value} (ha : a.block < wr.heap.size) (hc : c.block < wr.heap.size) (hd : d.block < wr.heap.size) (h : W.cell? a = some x ∧ W.cell? c = some y ∧ W.cell? d = some z ∧ Below wr.heap.size wr W) (hb : Below W.heap.size W w1) : w1.cell? a = some x ∧ w1.cell? c = some y ∧ w1.cell? d = some z ∧ Below wr.heap.size wr w1 :=
  ⟨(hb.cell (Nat.lt_of_lt_of_le ha h.2.2.2.size)).trans h.1, (hb.cell (Nat.lt_of_lt_of_le hc h.2.2.2.size)).trans h.2.1, (hb.cell (Nat.lt_of_lt_of_le hd h.2.2.2.size)).trans h.2.2.1, h.2.2.2.trans (hb.mono h.2.2.2.size)⟩

theorem below_of_eq {w w' : World} (h : w' = w) : Below w.heap.size w w' := by subst h; exact Below.refl _ _

theorem IntSl.take {w : World} {ao : Option Addr} {cap : Nat} {l : List Nat} (h : IntSl w ao cap l) (k : Nat) (hk : k ≤ l.length) : IntSl w ao cap (l.take k) := by
  have hl : (l.take k).length = k := by rw [List.length_take]; omega
  refine ⟨h.1, by have := h.2.1; omega, fun i hi => ?_⟩
  obtain ⟨b, o, h1, h2, h3⟩ := h.2.2 i (by omega)
  refine ⟨b, o, h1, h2, ?_⟩
  rw [h3, List.getElem_take]

theorem r_index_n (L : List Tk) (b o cap : Nat) (ao : Option Addr) (cap' : Nat) (l : List Nat) (n : Nat) (t : ByteArray) (w : World) (hn : l.length = n) (hL : L.length ≤ 500) (hc : ToksAt w b o L) (hl : l.length ≤ 2000) (hi : IntSl w ao cap' l) (hin : ∀ j ∈ l, j < L.length) :
    Calls Tryz.prog 54 #[.agg #[.slice (some ⟨b, o, none⟩) L.length cap], .slice ao n cap', .string t] w fun e w' => e = .returned (.int .i64 (indexB L l t)) ∧ Below w.heap.size w w' := by
  subst hn; exact r_index L b o cap ao cap' l t w hL hc hl hi hin

theorem tw2_out {L : List Tk} {l m : List Nat} {k : Nat} {x : Int} (h : ¬ k < m.length) : tw2 L l m k x = x := by rw [tw2_eq, if_neg h]
theorem tw2_yes {L : List Tk} {l m : List Nat} {k : Nat} {x : Int} (h : k < m.length) (hj : m[k] < L.length) (h2 : 0 ≤ indexB L (m.take k) L[m[k]].t ∨ 0 ≤ indexB L l L[m[k]].t) : tw2 L l m k x = tw2 L l m (k + 1) (leastB x L[m[k]].p) := by
  rw [tw2_eq, if_pos h, nth_eq h, tk_eq hj, if_pos h2]
theorem tw2_no {L : List Tk} {l m : List Nat} {k : Nat} {x : Int} (h : k < m.length) (hj : m[k] < L.length) (h2 : ¬ (0 ≤ indexB L (m.take k) L[m[k]].t ∨ 0 ≤ indexB L l L[m[k]].t)) : tw2 L l m k x = tw2 L l m (k + 1) x := by
  rw [tw2_eq, if_pos h, nth_eq h, tk_eq hj, if_neg h2]

theorem tw1_out {L : List Tk} {l : List Nat} {k : Nat} {x : Int} (h : ¬ k < l.length) : tw1 L l k x = x := by rw [tw1_eq, if_neg h]
theorem tw1_yes {L : List Tk} {l : List Nat} {k : Nat} {x : Int} (h : k < l.length) (hj : l[k] < L.length) (h2 : 0 ≤ indexB L (l.take k) L[l[k]].t) : tw1 L l k x = tw1 L l (k + 1) (leastB x L[l[k]].p) := by
  rw [tw1_eq, if_pos h, nth_eq h, tk_eq hj, if_pos h2]
theorem tw1_no {L : List Tk} {l : List Nat} {k : Nat} {x : Int} (h : k < l.length) (hj : l[k] < L.length) (h2 : ¬ 0 ≤ indexB L (l.take k) L[l[k]].t) : tw1 L l k x = tw1 L l (k + 1) x := by
  rw [tw1_eq, if_pos h, nth_eq h, tk_eq hj, if_neg h2]

set_option maxRecDepth 100000 in
set_option maxHeartbeats 8000000 in
theorem r_twice (L : List Tk) (b o cap : Nat) (w : World) (hL : L.length ≤ 500) (ht : ∀ k, (h : k < L.length) → L[k].t.size ≤ 500) (hp : ProcOk L) (hc : ToksAt w b o L) :
    Calls Tryz.prog 48 #[.agg #[.slice (some ⟨b, o, none⟩) L.length cap]] w fun e w' => e = .returned (.int .i64 (twiceB L)) ∧ Below w.heap.size w w' := by
  have hx0 := Below.refl (w.heap.size + 1) (w.alloc (.cells #[.slice (some ⟨b, o, none⟩) L.length cap] 71))
  obtain ⟨hcell, hsz, hbel⟩ := bx hx0
  have hct := hc.below hbel
  have HM : Hid (twiceB L = tw3 L (ownersB L) (procsB L) (tw1 L (ownersB L) 0 (-1))) := rfl
  have hP0 := ownersB_lt hp
  have hP1 := ownersB_len L
  have hQ0 : ∀ j ∈ procsB L, j < L.length := procsF_lt hp 0
  have hQ1 := procsB_len L
  go_enter Tryz.func48, Tryz.ntmps48
  go_wp2_with fail
  refine (r_owners L b o cap _ hL ht hct).mono ?_
  rintro e w1 ⟨ao1, cp1, rfl, hs1, hb1⟩
  have hx1 := hx0.trans (hb1.mono hsz)
  generalize hP : ownersB L = P at *
  clear hP hb1 hcell hsz hbel hct
  go_wp2_with fail
  go_loopw [3, 5, 6] (fun v3 u v6 wr => ∃ (k : Nat) (x : Int), v3 = .int .i64 x ∧ u = .int .i64 k ∧ k ≤ P.length ∧ tw1 L P k x = tw1 L P 0 (-1) ∧ IntSl wr ao1 cp1 P ∧ Below (w.heap.size + 1) (w.alloc (.cells #[.slice (some ⟨b, o, none⟩) L.length cap] 71)) wr) (fun _ u _ _ => P.length - (intOf u).toNat)
  case atStart => exact ⟨0, -1, rfl, rfl, Nat.zero_le _, rfl, hs1, hx1⟩
  case round =>
    obtain ⟨k, x, rfl, rfl, hk, hn, hsr, hbx⟩ := hrel
    obtain ⟨hcellr, hszr, hbelr⟩ := bx hbx
    have hctr := hc.below hbelr
    have HN := hide hn
    have HB := hide hbx
    have HS := hide hsr
    clear hn hbelr hbx
    by_cases hlt : k < P.length
    · obtain ⟨b', o', hb', hao, hck⟩ := hsr.2.2 k hlt
      subst hao
      have hj := hP0 P[k] (List.getElem_mem _)
      have hcp := hsr.2.1
      have hck2 := (hctr.2 P[k] hj).1
      have htb := hctr.1
      clear hsr
      have hck3 := (hctr.2 P[k] hj).2
      have hkc : k ≤ cp1 := by omega
      have hlen : (P.take k).length = k := by rw [List.length_take]; omega
      have hin1 : ∀ j ∈ P.take k, j < L.length := fun j hj => hP0 j (List.mem_of_mem_take hj)
      by_cases hge : 0 ≤ indexB L (P.take k) L[P[k]].t
      · have HE := hide (tw1_yes (x := x) hlt hj hge)
        go_wp2_with fail
        go_region_held (fun w' => w'.cell? ⟨w.heap.size, 0, none⟩ = some (.slice (some ⟨b, o, none⟩) L.length cap) ∧ w'.cell? ⟨b', o' + k, none⟩ = some (.int .i64 P[k]) ∧ w'.cell? ⟨b, o + P[k] * 2, none⟩ = some (.string L[P[k]].t) ∧ Below wr.heap.size wr w') (first | exact ⟨hcellr, hck, hck2, (Below.refl _ _).drew⟩ | exact keep3 hszr hb' htb (by assumption) (by assumption)) (first | (go_at_call 54; refine (r_index_n L b o cap _ _ (P.take k) _ _ _ hlen hL ?_ (by omega) ?_ hin1).mono ?_; exact hctr.below (Below.refl _ _).drew; exact (HS.out.take k hk).below (Below.refl _ _).drew; rintro e w2 ⟨rfl, hb2⟩))
        have hbw : Below wr.heap.size wr w2 := (Below.refl _ _).drew.trans hb2
        have hcell2 := (hbw.cell (p := ⟨w.heap.size, 0, none⟩) hszr).trans hcellr
        have hck2' := (hbw.cell (p := ⟨b', o' + k, none⟩) hb').trans hck
        have hck3' := (hbw.cell (p := ⟨b, o + P[k] * 2 + 1, none⟩) htb).trans hck3
        have hsz2 := Nat.lt_of_lt_of_le hszr hbw.size
        have hb2' := Nat.lt_of_lt_of_le hb' hbw.size
        have htb2 := Nat.lt_of_lt_of_le htb hbw.size
        clear hb2
        go_wp2_with fail
        go_region_held (fun w' => w'.cell? ⟨w.heap.size, 0, none⟩ = some (.slice (some ⟨b, o, none⟩) L.length cap) ∧ w'.cell? ⟨b', o' + k, none⟩ = some (.int .i64 P[k]) ∧ w'.cell? ⟨b, o + P[k] * 2 + 1, none⟩ = some (.int .i64 L[P[k]].p) ∧ Below w2.heap.size w2 w') (first | exact ⟨hcell2, hck2', hck3', (Below.refl _ _).drew⟩ | exact keep3 hsz2 hb2' htb2 (by assumption) (by assumption)) (first | (go_at_call 80; refine (r_least _ _ _).mono ?_; rintro e w3 ⟨rfl, hw3⟩; have hb3 := below_of_eq hw3; clear hw3))
        have hbw3 : Below wr.heap.size wr w3 := hbw.trans (((Below.refl _ _).drew.trans hb3).mono hbw.size)
        clear hb3
        go_wp2
        go_roundw
        case rel => exact ⟨k + 1, _, rfl, by go_num, by omega, by rw [← HN.out, HE.out], HS.out.below hbw3, HB.out.trans (hbw3.mono hszr)⟩
        case measure => simp [intOf]; omega
      · have HE := hide (tw1_no (x := x) hlt hj hge)
        go_wp2_with fail
        go_region_held (fun w' => w'.cell? ⟨w.heap.size, 0, none⟩ = some (.slice (some ⟨b, o, none⟩) L.length cap) ∧ w'.cell? ⟨b', o' + k, none⟩ = some (.int .i64 P[k]) ∧ w'.cell? ⟨b, o + P[k] * 2, none⟩ = some (.string L[P[k]].t) ∧ Below wr.heap.size wr w') (first | exact ⟨hcellr, hck, hck2, (Below.refl _ _).drew⟩ | exact keep3 hszr hb' htb (by assumption) (by assumption)) (first | (go_at_call 54; refine (r_index_n L b o cap _ _ (P.take k) _ _ _ hlen hL ?_ (by omega) ?_ hin1).mono ?_; exact hctr.below (Below.refl _ _).drew; exact (HS.out.take k hk).below (Below.refl _ _).drew; rintro e w2 ⟨rfl, hb2⟩))
        have hbw : Below wr.heap.size wr w2 := (Below.refl _ _).drew.trans hb2
        clear hb2
        go_wp2
        go_roundw
        case rel => exact ⟨k + 1, _, rfl, by go_num, by omega, by rw [← HN.out, HE.out], HS.out.below hbw, HB.out.trans (hbw.mono hszr)⟩
        case measure => simp [intOf]; omega
    · have HE : Hid (x = tw1 L P 0 (-1)) := by show x = _; rw [← HN.out, tw1_out hlt]
      clear HN
      generalize hX : tw1 L P 0 (-1) = X at *
      clear hX
      go_wp2_with fail
      refine (r_procs L b o cap _ hL hctr).mono ?_
      rintro e w4 ⟨aoQ, cpQ, rfl, hsQ, hb4⟩
      have hx4 := HB.out.trans (hb4.mono hszr)
      have hsP := hsr.below hb4
      generalize hQ : procsB L = Q at *
      clear hQ hb4 hcellr hszr hctr hsr HS HB hlt hx1 hs1
      go_wp2_with fail
      go_loopw [3, 8] (fun v3 u wr => ∃ (k : Nat) (x : Int), v3 = .int .i64 x ∧ u = .int .i64 k ∧ k ≤ Q.length ∧ tw3 L P (Q.drop k) x = tw3 L P Q X ∧ IntSl wr ao1 cp1 P ∧ IntSl wr aoQ cpQ Q ∧ Below (w.heap.size + 1) (w.alloc (.cells #[.slice (some ⟨b, o, none⟩) L.length cap] 71)) wr) (fun _ u _ => Q.length - (intOf u).toNat)
      case atStart => exact ⟨0, x, rfl, rfl, Nat.zero_le _, by rw [HE.out]; rfl, hsP, hsQ, hx4⟩
      case round =>
        obtain ⟨k, x, rfl, rfl, hk, hn, hsPr, hsQr, hbx⟩ := hrel
        obtain ⟨hcellr, hszr, hbelr⟩ := bx hbx
        have hctr := hc.below hbelr
        have HN := hide hn
        have HB := hide hbx
        have HSP := hide hsPr
        have HSQ := hide hsQr
        clear hn hbelr hbx hsPr hx4 hsP hsQ
        by_cases hlt : k < Q.length
        · obtain ⟨b', o', hb', hao, hck⟩ := hsQr.2.2 k hlt
          subst hao
          have hj := hQ0 Q[k] (List.getElem_mem _)
          have lp : (paramsB L Q[k]).length ≤ L.length := Nat.le_trans (namesF_len L (Q[k] + 2)) (Nat.sub_le _ _)
          have hM0 : ∀ j ∈ paramsB L Q[k], j < L.length := fun j hj => (namesF_lt L _ j hj).2
          have HX : Hid (tw3 L P (Q.drop k) x = tw3 L P (Q.drop (k + 1)) (tw2 L P (paramsB L Q[k]) 0 x)) := by show _ = _; rw [List.drop_eq_getElem_cons hlt]; rfl
          clear hsQr
          go_wp2_with fail
          go_region_held (fun w' => w'.cell? ⟨w.heap.size, 0, none⟩ = some (.slice (some ⟨b, o, none⟩) L.length cap) ∧ w'.cell? ⟨b', o' + k, none⟩ = some (.int .i64 Q[k]) ∧ Below wr.heap.size wr w') (first | exact ⟨hcellr, hck, (Below.refl _ _).drew⟩ | exact keep2 hszr hb' (by assumption) (by assumption)) (first | (go_at_call 56; refine (r_params L b o cap _ _ hL ht ?_ ?_).mono ?_; exact hctr.below (Below.refl _ _).drew; exact (by omega); rintro e w5 ⟨aoM, cpM, rfl, hsM, hb5⟩))
          have hy : Below wr.heap.size wr w5 := (Below.refl _ _).drew.trans hb5
          have hx5 := HB.out.trans (hy.mono hszr)
          have hsP5 := HSP.out.below hy
          have hsQ5 := HSQ.out.below hy
          generalize hM : paramsB L Q[k] = M at *
          clear hM hb5 hy hcellr hszr hctr hck HB HSP HSQ hb'
          go_wp2_with fail
          go_loopw [3, 10] (fun v3 u wr => ∃ (q : Nat) (y : Int), v3 = .int .i64 y ∧ u = .int .i64 q ∧ q ≤ M.length ∧ tw2 L P M q y = tw2 L P M 0 x ∧ IntSl wr aoM cpM M ∧ IntSl wr ao1 cp1 P ∧ IntSl wr (some ⟨b', o', none⟩) cpQ Q ∧ Below (w.heap.size + 1) (w.alloc (.cells #[.slice (some ⟨b, o, none⟩) L.length cap] 71)) wr) (fun _ u _ => M.length - (intOf u).toNat)
          case atStart => exact ⟨0, x, rfl, rfl, Nat.zero_le _, rfl, hsM, hsP5, hsQ5, hx5⟩
          case round =>
            obtain ⟨q, y, rfl, rfl, hq, hni, hsMi, hsPi, hsQi, hbxi⟩ := hrel
            obtain ⟨hcelli, hszi, hbeli⟩ := bx hbxi
            have hcti := hc.below hbeli
            have HNI := hide hni
            have HB := hide hbxi
            have HSM := hide hsMi
            have HSP := hide hsPi
            have HSQ := hide hsQi
            clear hni hbeli hbxi hsPi hsQi hx5 hsP5 hsQ5 hsM
            by_cases hltq : q < M.length
            · obtain ⟨b2, o2, hb2', hao2, hck⟩ := hsMi.2.2 q hltq
              subst hao2
              have hjq := hM0 M[q] (List.getElem_mem _)
              have hcp := hsMi.2.1
              have hqc : q ≤ cpM := by omega
              have hlen : (M.take q).length = q := by rw [List.length_take]; omega
              have hin1 : ∀ j ∈ M.take q, j < L.length := fun j hj => hM0 j (List.mem_of_mem_take hj)
              have hck2 := (hcti.2 M[q] hjq).1
              have hck3 := (hcti.2 M[q] hjq).2
              have htb := hcti.1
              clear hsMi
              go_wp2_with fail
              go_region_held (fun w' => w'.cell? ⟨w.heap.size, 0, none⟩ = some (.slice (some ⟨b, o, none⟩) L.length cap) ∧ w'.cell? ⟨b2, o2 + q, none⟩ = some (.int .i64 M[q]) ∧ w'.cell? ⟨b, o + M[q] * 2, none⟩ = some (.string L[M[q]].t) ∧ Below wr.heap.size wr w') (first | exact ⟨hcelli, hck, hck2, (Below.refl _ _).drew⟩ | exact keep3 hszi hb2' htb (by assumption) (by assumption)) (first | (go_at_call 54; refine (r_index_n L b o cap _ _ (M.take q) _ _ _ hlen hL ?_ (by omega) ?_ hin1).mono ?_; exact hcti.below (Below.refl _ _).drew; exact (HSM.out.take q hq).below (Below.refl _ _).drew; rintro e wA ⟨rfl, hbA⟩))
              have hwA : Below wr.heap.size wr wA := (Below.refl _ _).drew.trans hbA
              clear hbA
              have hcA := (hwA.cell (p := ⟨w.heap.size, 0, none⟩) hszi).trans hcelli
              have hkA := (hwA.cell (p := ⟨b2, o2 + q, none⟩) hb2').trans hck
              have htA := (hwA.cell (p := ⟨b, o + M[q] * 2, none⟩) htb).trans hck2
              have hpA := (hwA.cell (p := ⟨b, o + M[q] * 2 + 1, none⟩) htb).trans hck3
              have hsA := Nat.lt_of_lt_of_le hszi hwA.size
              have hbA := Nat.lt_of_lt_of_le hb2' hwA.size
              have hxA := Nat.lt_of_lt_of_le htb hwA.size
              go_wp2_with fail
              go_region_held (fun w' => w'.cell? ⟨w.heap.size, 0, none⟩ = some (.slice (some ⟨b, o, none⟩) L.length cap) ∧ w'.cell? ⟨b2, o2 + q, none⟩ = some (.int .i64 M[q]) ∧ w'.cell? ⟨b, o + M[q] * 2, none⟩ = some (.string L[M[q]].t) ∧ Below wA.heap.size wA w') (first | exact ⟨hcA, hkA, htA, (Below.refl _ _).drew⟩ | exact keep3 hsA hbA hxA (by assumption) (by assumption)) (first | (go_at_call 54; refine (r_index_n L b o cap _ _ P _ _ _ rfl hL ?_ (by omega) ?_ hP0).mono ?_; exact hcti.below hwA.drew; exact HSP.out.below hwA.drew; rintro e wB ⟨rfl, hbB⟩))
              have hwB : Below wr.heap.size wr wB := hwA.trans (((Below.refl _ _).drew.trans hbB).mono hwA.size)
              clear hbB hcA hkA htA hpA hsA hbA hxA
              have hcB := (hwB.cell (p := ⟨w.heap.size, 0, none⟩) hszi).trans hcelli
              have hkB := (hwB.cell (p := ⟨b2, o2 + q, none⟩) hb2').trans hck
              have htB := (hwB.cell (p := ⟨b, o + M[q] * 2, none⟩) htb).trans hck2
              have hpB := (hwB.cell (p := ⟨b, o + M[q] * 2 + 1, none⟩) htb).trans hck3
              have hsB := Nat.lt_of_lt_of_le hszi hwB.size
              have hbB := Nat.lt_of_lt_of_le hb2' hwB.size
              have hxB := Nat.lt_of_lt_of_le htb hwB.size
              by_cases hga : 0 ≤ indexB L (M.take q) L[M[q]].t
              · have HE2 := hide (tw2_yes (l := P) (x := y) hltq hjq (.inl hga))
                go_wp2_with fail
                go_region_held (fun w' => w'.cell? ⟨w.heap.size, 0, none⟩ = some (.slice (some ⟨b, o, none⟩) L.length cap) ∧ w'.cell? ⟨b2, o2 + q, none⟩ = some (.int .i64 M[q]) ∧ w'.cell? ⟨b, o + M[q] * 2 + 1, none⟩ = some (.int .i64 L[M[q]].p) ∧ Below wB.heap.size wB w') (first | exact ⟨hcB, hkB, hpB, (Below.refl _ _).drew⟩ | exact keep3 hsB hbB hxB (by assumption) (by assumption)) (first | (go_at_call 80; refine (r_least _ _ _).mono ?_; rintro e wC ⟨rfl, hwC0⟩; have hbC := below_of_eq hwC0; clear hwC0))
                have hwC : Below wr.heap.size wr wC := hwB.trans (((Below.refl _ _).drew.trans hbC).mono hwB.size)
                clear hbC
                go_wp2
                go_roundw
                case rel => exact ⟨q + 1, _, rfl, by go_num, by omega, by rw [← HNI.out, HE2.out], HSM.out.below hwC, HSP.out.below hwC, HSQ.out.below hwC, HB.out.trans (hwC.mono hszi)⟩
                case measure => simp [intOf]; omega
              · by_cases hgb : 0 ≤ indexB L P L[M[q]].t
                · have HE2 := hide (tw2_yes (l := P) (x := y) hltq hjq (.inr hgb))
                  go_wp2_with fail
                  go_region_held (fun w' => w'.cell? ⟨w.heap.size, 0, none⟩ = some (.slice (some ⟨b, o, none⟩) L.length cap) ∧ w'.cell? ⟨b2, o2 + q, none⟩ = some (.int .i64 M[q]) ∧ w'.cell? ⟨b, o + M[q] * 2 + 1, none⟩ = some (.int .i64 L[M[q]].p) ∧ Below wB.heap.size wB w') (first | exact ⟨hcB, hkB, hpB, (Below.refl _ _).drew⟩ | exact keep3 hsB hbB hxB (by assumption) (by assumption)) (first | (go_at_call 80; refine (r_least _ _ _).mono ?_; rintro e wC ⟨rfl, hwC0⟩; have hbC := below_of_eq hwC0; clear hwC0))
                  have hwC : Below wr.heap.size wr wC := hwB.trans (((Below.refl _ _).drew.trans hbC).mono hwB.size)
                  clear hbC
                  go_wp2
                  go_roundw
                  case rel => exact ⟨q + 1, _, rfl, by go_num, by omega, by rw [← HNI.out, HE2.out], HSM.out.below hwC, HSP.out.below hwC, HSQ.out.below hwC, HB.out.trans (hwC.mono hszi)⟩
                  case measure => simp [intOf]; omega
                · have HE2 := hide (tw2_no (l := P) (x := y) hltq hjq (fun h => h.elim hga hgb))
                  go_wp2
                  go_roundw
                  case rel => exact ⟨q + 1, _, rfl, by go_num, by omega, by rw [← HNI.out, HE2.out], HSM.out.below hwB, HSP.out.below hwB, HSQ.out.below hwB, HB.out.trans (hwB.mono hszi)⟩
                  case measure => simp [intOf]; omega
            · have HE2 : Hid (y = tw2 L P M 0 x) := by show y = _; rw [← HNI.out, tw2_out hltq]
              go_wp2
              go_roundw
              case rel => exact ⟨k + 1, _, rfl, by go_num, by omega, by rw [← HN.out, HX.out, HE2.out], HSP.out, HSQ.out, HB.out⟩
              case measure => simp [intOf]; omega
        · have HE2 : Hid (x = tw3 L P Q X) := by show x = _; rw [← HN.out, List.drop_of_length_le (by omega)]; rfl
          go_wp2
          go_ret
          exact ⟨ret_int (by rw [HM.out, HE2.out]), (bx HB.out).2.2⟩

end Go.Proofs.YtmfcpbhdggonfaaGreatDoor
