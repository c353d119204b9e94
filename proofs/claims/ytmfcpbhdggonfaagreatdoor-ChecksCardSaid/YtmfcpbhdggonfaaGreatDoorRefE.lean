/- Contracts of the reference's checks on names: too many. -/
import Derived.Test.YtmfcpbhdggonfaaGreatDoorRefD
import Derived.Test.YtmfcpbhdggonfaaGreatDoorPure
import Derived.Deep.RegionWith
import Derived.Deep.RegionHeld
namespace Go.Proofs.YtmfcpbhdggonfaaGreatDoor
open Go.RowKit RR

theorem keep1 {wr W w1 : World} {a : Addr} {x : Value} (ha : a.block < wr.heap.size) (h : W.cell? a = some x ∧ Below wr.heap.size wr W) (hb : Below W.heap.size W w1) : w1.cell? a = some x ∧ Below wr.heap.size wr w1 :=
  ⟨(hb.cell (Nat.lt_of_lt_of_le ha h.2.size)).trans h.1, h.2.trans (hb.mono h.2.size)⟩
theorem keep2 {wr W w1 : World} {a c : Addr} {x y : Value} (ha : a.block < wr.heap.size) (hc : c.block < wr.heap.size) (h : W.cell? a = some x ∧ W.cell? c = some y ∧ Below wr.heap.size wr W) (hb : Below W.heap.size W w1) : w1.cell? a = some x ∧ w1.cell? c = some y ∧ Below wr.heap.size wr w1 :=
  ⟨(hb.cell (Nat.lt_of_lt_of_le ha h.2.2.size)).trans h.1, (hb.cell (Nat.lt_of_lt_of_le hc h.2.2.size)).trans h.2.1, h.2.2.trans (hb.mono h.2.2.size)⟩

set_option maxHeartbeats 2000000 in
theorem r_many (L : List Tk) (b o cap : Nat) (w : World) (hL : L.length ≤ 500) (ht : ∀ k, (h : k < L.length) → L[k].t.size ≤ 500) (hp : ProcOk L) (hc : ToksAt w b o L) :
    Calls Tryz.prog 47 #[.agg #[.slice (some ⟨b, o, none⟩) L.length cap]] w fun e w' => e = .returned (.int .i64 (manyB L)) ∧ Below w.heap.size w w' := by
  have hx0 := Below.refl (w.heap.size + 1) (w.alloc (.cells #[.slice (some ⟨b, o, none⟩) L.length cap] 71))
  obtain ⟨hcell, hsz, hbel⟩ := bx hx0
  have hct := hc.below hbel
  have l1 := wordB_len L ⟨#[115, 104, 97, 114, 101, 100]⟩
  have l2 := wordB_len L ⟨#[108, 111, 99, 107, 115]⟩
  have l3 := procsB_len L
  have l4 := wordB_len L ⟨#[116, 104, 114, 101, 97, 100, 115]⟩
  go_enter Tryz.func47, Tryz.ntmps47
  go_wp2_with fail
  go_region_held (fun w' => w'.cell? ⟨w.heap.size, 0, none⟩ = some (.slice (some ⟨b, o, none⟩) L.length cap) ∧ Below (w.alloc (.cells #[.slice (some ⟨b, o, none⟩) L.length cap] 71)).heap.size (w.alloc (.cells #[.slice (some ⟨b, o, none⟩) L.length cap] 71)) w') (first | exact ⟨hcell, (Below.refl _ _).drew⟩ | exact keep1 hsz (by assumption) (by assumption)) (first | (go_at_call 79; refine (r_word L b o cap _ _ hL ht ?_).mono ?_; exact hct.below (Below.refl _ _).drew; rintro e w21 ⟨ao1, cp1, rfl, hs1, hb1⟩) | (go_at_call 78; refine (r_past L b o cap _ _ _ _ _ ?_ hL ?_ ?_ ?_).mono ?_; exact hct.below ((Below.refl _ _).drew.trans hb1); exact Nat.le_trans l1 (by omega); exact hs1; exact wordF_lt _ _ _; rintro e w2 ⟨rfl, hb2⟩))
  have hbb := ((Below.refl _ _).drew.trans hb1).trans (hb2.mono hb1.size)
  clear hb1 hb2 hs1
  have hx2 := hx0.trans (hbb.mono hsz)
  obtain ⟨hcell2, hsz2, hbel2⟩ := bx hx2
  have hct2 := hc.below hbel2
  clear hbb hbel2 hcell hsz hbel hct
  go_wp2_with fail
  go_region_held (fun w' => w'.cell? ⟨w.heap.size, 0, none⟩ = some (.slice (some ⟨b, o, none⟩) L.length cap) ∧ Below (w2).heap.size (w2) w') (first | exact ⟨hcell2, (Below.refl _ _).drew⟩ | exact keep1 hsz2 (by assumption) (by assumption)) (first | (go_at_call 79; refine (r_word L b o cap _ _ hL ht ?_).mono ?_; exact hct2.below (Below.refl _ _).drew; rintro e w31 ⟨ao1, cp1, rfl, hs1, hb1⟩) | (go_at_call 78; refine (r_past L b o cap _ _ _ _ _ ?_ hL ?_ ?_ ?_).mono ?_; exact hct2.below ((Below.refl _ _).drew.trans hb1); exact Nat.le_trans l2 (by omega); exact hs1; exact wordF_lt _ _ _; rintro e w3 ⟨rfl, hb2⟩))
  have hbb := ((Below.refl _ _).drew.trans hb1).trans (hb2.mono hb1.size)
  clear hb1 hb2 hs1
  have hx3 := hx2.trans (hbb.mono hsz2)
  obtain ⟨hcell3, hsz3, hbel3⟩ := bx hx3
  have hct3 := hc.below hbel3
  clear hcell2 hsz2 hbb
  generalize hv1 : pastB L (wordB L ⟨#[115, 104, 97, 114, 101, 100]⟩) 4 = p1
  generalize hv2 : pastB L (wordB L ⟨#[108, 111, 99, 107, 115]⟩) 3 = p2
  have HV1 := hide hv1
  have HV2 := hide hv2
  clear hv1 hv2
  go_wp2_with (first | (go_at_call 80; refine (r_least _ _ _).mono ?_; rintro e w' ⟨rfl, rfl⟩))
  refine (r_procs L b o cap _ hL hct3).mono ?_
  rintro e w4 ⟨ao4, cp4, rfl, hs4, hb4⟩
  have hx4 := hx3.trans (hb4.mono hsz3)
  obtain ⟨hcell4, hsz4, hbel4⟩ := bx hx4
  have hct4 := hc.below hbel4
  have hin4 := procsF_lt hp 0
  go_wp2_with fail
  refine (r_past L b o cap _ _ (procsB L) 4 _ hct4 hL (by omega) hs4 hin4).mono ?_
  rintro e w5 ⟨rfl, hb5⟩
  have hx5 := hx4.trans (hb5.mono hsz4)
  have hs5 := hs4.below hb5
  go_wp2_with (first | (go_at_call 80; refine (r_least _ _ _).mono ?_; rintro e w' ⟨rfl, rfl⟩))
  have HM : Hid (manyB L = leastB (manyF L (leastB (leastB p1 p2) (pastB L (procsB L) 4)) (procsB L)) (pastB L (wordB L ⟨#[116, 104, 114, 101, 97, 100, 115]⟩) 3)) := by
    show manyB L = _; rw [← HV1.out, ← HV2.out]; rfl
  generalize hP : procsB L = P at *
  have HP := hide hP
  clear hP
  generalize hA : leastB (leastB p1 p2) (pastB L P 4) = A at *
  have hin5 : ∀ j ∈ P, j < L.length := by rw [← HP.out]; exact hin4
  clear hA hcell4 hsz4 hbel4 hct4 hs4 hb5 hb4 hcell3 hsz3 hbel3 hct3 hx2 hx3 hx4 hin4 HV1 HV2
  go_loopw [3, 4, 6] (fun v3 v4 u wr => ∃ (k : Nat) (x y : Int), v3 = .int .i64 x ∧ v4 = .int .i64 y ∧ u = .int .i64 k ∧ k ≤ P.length ∧ manyF L x (P.drop k) = manyF L A P ∧ IntSl wr ao4 cp4 P ∧ Below (w.heap.size + 1) (w.alloc (.cells #[.slice (some ⟨b, o, none⟩) L.length cap] 71)) wr) (fun _ _ u _ => P.length - (intOf u).toNat)
  case atStart => exact ⟨0, A, _, rfl, rfl, rfl, Nat.zero_le _, rfl, hs5, hx5⟩
  case round =>
    obtain ⟨k, x, y, rfl, rfl, rfl, hk, hn, hsr, hbx⟩ := hrel
    obtain ⟨hcellr, hszr, hbelr⟩ := bx hbx
    have hctr := hc.below hbelr
    have HN := hide hn
    have HB := hide hbx
    have HS := hide hsr
    clear hn hbelr hbx
    by_cases hlt : k < P.length
    · obtain ⟨b', o', hb', hao, hck⟩ := hsr.2.2 k hlt
      subst hao
      have hj := hin5 P[k] (List.getElem_mem _)
      have lp : (paramsB L P[k]).length ≤ L.length := Nat.le_trans (namesF_len L (P[k] + 2)) (Nat.sub_le _ _)
      clear hsr
      go_wp2_with fail
      go_region_held (fun w' => w'.cell? ⟨w.heap.size, 0, none⟩ = some (.slice (some ⟨b, o, none⟩) L.length cap) ∧ w'.cell? ⟨b', o' + k, none⟩ = some (.int .i64 P[k]) ∧ Below wr.heap.size wr w') (first | exact ⟨hcellr, hck, (Below.refl _ _).drew⟩ | exact keep2 hszr hb' (by assumption) (by assumption)) (first | (go_at_call 56; refine (r_params L b o cap _ _ hL ht ?_ ?_).mono ?_; exact hctr.below (Below.refl _ _).drew; exact (by omega); rintro e w1 ⟨ao1, cp1, rfl, hs1, hb1⟩) | (go_at_call 78; refine (r_past L b o cap _ _ _ _ _ ?_ hL ?_ ?_ ?_).mono ?_; exact hctr.below ((Below.refl _ _).drew.trans hb1); exact Nat.le_trans lp (by omega); exact hs1; exact fun j hj => (namesF_lt L _ j hj).2; rintro e w2 ⟨rfl, hb2⟩))
      have hy := ((Below.refl _ _).drew.trans hb1).trans (hb2.mono hb1.size)
      clear hb1 hb2 hs1
      go_wp2_with (first | (go_at_call 80; refine (r_least _ _ _).mono ?_; rintro e w' ⟨rfl, rfl⟩))
      go_roundw
      case rel => exact ⟨k + 1, _, _, rfl, rfl, by go_num, by omega, by rw [← HN.out, List.drop_eq_getElem_cons hlt]; rfl, HS.out.below hy, HB.out.trans (hy.mono hszr)⟩
      case measure => simp [intOf]; omega
    · have HE : Hid (x = manyF L A P) := by show x = _; rw [← HN.out, List.drop_of_length_le (by omega)]; rfl
      go_wp2_with fail
      go_region_held (fun w' => w'.cell? ⟨w.heap.size, 0, none⟩ = some (.slice (some ⟨b, o, none⟩) L.length cap) ∧ Below (wr).heap.size (wr) w') (first | exact ⟨hcellr, (Below.refl _ _).drew⟩ | exact keep1 hszr (by assumption) (by assumption)) (first | (go_at_call 79; refine (r_word L b o cap _ _ hL ht ?_).mono ?_; exact hctr.below (Below.refl _ _).drew; rintro e w21 ⟨ao1, cp1, rfl, hs1, hb1⟩) | (go_at_call 78; refine (r_past L b o cap _ _ _ _ _ ?_ hL ?_ ?_ ?_).mono ?_; exact hctr.below ((Below.refl _ _).drew.trans hb1); exact Nat.le_trans l4 (by omega); exact hs1; exact wordF_lt _ _ _; rintro e w2 ⟨rfl, hb2⟩))
      have hbb := ((Below.refl _ _).drew.trans hb1).trans (hb2.mono hb1.size)
      clear hb1 hb2 hs1
      have hy := HB.out.trans (hbb.mono hszr)
      go_wp2_with (first | (go_at_call 80; refine (r_least _ _ _).mono ?_; rintro e w' ⟨rfl, rfl⟩))
      go_ret
      exact ⟨ret_int (by rw [HM.out, HE.out]), (bx hy).2.2⟩

end Go.Proofs.YtmfcpbhdggonfaaGreatDoor
