/- Contracts of the reference's checks on names: is a name right where it is used? -/
import Derived.Test.YtmfcpbhdggonfaaGreatDoorRefF
import Derived.Test.YtmfcpbhdggonfaaGreatDoorPure
namespace Go.Proofs.YtmfcpbhdggonfaaGreatDoor
open Go.RowKit RR

set_option maxRecDepth 100000 in
set_option maxHeartbeats 2000000 in
theorem r_right1 (L : List Tk) (b o cap : Nat) (i : Nat) (w : World) (hL : L.length ≤ 500) (ht : ∀ k, (h : k < L.length) → L[k].t.size ≤ 500) (hp : ProcOk L) (hc : ToksAt w b o L) (hi : i < L.length) (hA : isB L ((i : Int) - 1) ⟨#[97, 99, 113, 117, 105, 114, 101]⟩ = true) :
    Calls Tryz.prog 51 #[.agg #[.slice (some ⟨b, o, none⟩) L.length cap], .int .i64 i] w fun e w' => e = .returned (.bool (rightB L i)) ∧ Below w.heap.size w w' := by
  have HR : Hid (rightB L i = decide (0 ≤ indexB L (wordB L ⟨#[108, 111, 99, 107, 115]⟩) L[i].t)) := by show _ = _; unfold rightB; rw [hA, tk_eq hi]; rfl
  have hi2 : (i : Int) < L.length := by omega
  have hck0 := (hc.2 i hi).1
  have htb := hc.1
  have hx0 := Below.refl (w.heap.size + 1) (w.alloc (.cells #[.slice (some ⟨b, o, none⟩) L.length cap] 71))
  obtain ⟨hcell0, hsz0, hbel0⟩ := bx hx0
  have hct0 := hc.below hbel0
  have hck := (hct0.2 i hi).1
  have l2 := wordB_len L ⟨#[108, 111, 99, 107, 115]⟩
  have l1 := wordB_len L ⟨#[115, 104, 97, 114, 101, 100]⟩
  have l4 := wordB_len L ⟨#[116, 104, 114, 101, 97, 100, 115]⟩
  have l3 := procsB_len L
  have hin3 : ∀ j ∈ procsB L, j < L.length := procsF_lt hp 0
  have hhm := homeB_le L i
  have l5 : (paramsB L (homeB L i)).length ≤ L.length := Nat.le_trans (namesF_len L _) (Nat.sub_le _ _)
  go_enter Tryz.func51, Tryz.ntmps51
  go_wp2_with fail
  refine (r_word L b o cap _ _ hL ht hct0).mono ?_
  rintro e w1 ⟨ao1, cp1, rfl, hs1, hb1⟩
  have hx1 := hx0.trans (hb1.mono hsz0)
  obtain ⟨hcell1, hsz1, hbel1⟩ := bx hx1
  have hct1 := hc.below hbel1
  clear hcell0 hbel0 hct0 hx0
  clear hck hck0
  go_wp2_with fail
  refine (r_has _ _ _ _ _ (by omega) hs1).mono ?_
  rintro e w2 ⟨rfl, hw2⟩
  have hb2 := below_of_eq hw2
  clear hw2
  have hx2 := hx1.trans (hb2.mono hsz1)
  obtain ⟨hcell2, hsz2, hbel2⟩ := bx hx2
  have hct2 := hc.below hbel2
  clear hcell1 hbel1 hct1 hx1
  go_wp2_with fail
  refine (r_is L b o cap _ _ _ hL hct2).mono ?_
  rintro e w3 ⟨rfl, hb3⟩
  have hx3 := hx2.trans (hb3.mono hsz2)
  obtain ⟨hcell3, hsz3, hbel3⟩ := bx hx3
  have hct3 := hc.below hbel3
  clear hcell2 hbel2 hct2 hx2
  go_wp2_with fail
  go_region_held (fun w' => w'.cell? ⟨w.heap.size, 0, none⟩ = some (.slice (some ⟨b, o, none⟩) L.length cap) ∧ Below w3.heap.size w3 w') (first | exact ⟨hcell3, (Below.refl _ _).drew⟩ | exact keep1 hsz3 (by assumption) (by assumption)) (first | (go_at_call 79; refine (r_word L b o cap _ _ hL ht ?_).mono ?_; exact hct3.below (Below.refl _ _).drew; rintro e wA ⟨aoA, cpA, rfl, hsA, hbA⟩) | (go_at_call 54; refine (r_index L b o cap _ _ _ _ _ hL ?_ ?_ ?_ ?_).mono ?_; exact hct3.below ((Below.refl _ _).drew.trans hbA); exact Nat.le_trans l2 (by omega); exact hsA; exact wordF_lt _ _ _; rintro e wB ⟨rfl, hbB⟩))
  have hbb := ((Below.refl _ _).drew.trans hbA).trans (hbB.mono hbA.size)
  clear hbA hbB hsA
  have hxe := hx3.trans (hbb.mono hsz3)
  go_wp2
  go_ret
  exact ⟨ret_bool HR.out.symm, (bx hxe).2.2⟩

set_option maxRecDepth 100000 in
set_option maxHeartbeats 2000000 in
theorem r_right2 (L : List Tk) (b o cap : Nat) (i : Nat) (w : World) (hL : L.length ≤ 500) (ht : ∀ k, (h : k < L.length) → L[k].t.size ≤ 500) (hp : ProcOk L) (hc : ToksAt w b o L) (hi : i < L.length) (hA : isB L ((i : Int) - 1) ⟨#[97, 99, 113, 117, 105, 114, 101]⟩ = false) (hR : isB L ((i : Int) - 1) ⟨#[114, 101, 108, 101, 97, 115, 101]⟩ = true) :
    Calls Tryz.prog 51 #[.agg #[.slice (some ⟨b, o, none⟩) L.length cap], .int .i64 i] w fun e w' => e = .returned (.bool (rightB L i)) ∧ Below w.heap.size w w' := by
  have HR : Hid (rightB L i = decide (0 ≤ indexB L (wordB L ⟨#[108, 111, 99, 107, 115]⟩) L[i].t)) := by show _ = _; unfold rightB; rw [hA, hR, tk_eq hi]; rfl
  have hi2 : (i : Int) < L.length := by omega
  have hck0 := (hc.2 i hi).1
  have htb := hc.1
  have hx0 := Below.refl (w.heap.size + 1) (w.alloc (.cells #[.slice (some ⟨b, o, none⟩) L.length cap] 71))
  obtain ⟨hcell0, hsz0, hbel0⟩ := bx hx0
  have hct0 := hc.below hbel0
  have hck := (hct0.2 i hi).1
  have l2 := wordB_len L ⟨#[108, 111, 99, 107, 115]⟩
  have l1 := wordB_len L ⟨#[115, 104, 97, 114, 101, 100]⟩
  have l4 := wordB_len L ⟨#[116, 104, 114, 101, 97, 100, 115]⟩
  have l3 := procsB_len L
  have hin3 : ∀ j ∈ procsB L, j < L.length := procsF_lt hp 0
  have hhm := homeB_le L i
  have l5 : (paramsB L (homeB L i)).length ≤ L.length := Nat.le_trans (namesF_len L _) (Nat.sub_le _ _)
  go_enter Tryz.func51, Tryz.ntmps51
  go_wp2_with fail
  refine (r_word L b o cap _ _ hL ht hct0).mono ?_
  rintro e w1 ⟨ao1, cp1, rfl, hs1, hb1⟩
  have hx1 := hx0.trans (hb1.mono hsz0)
  obtain ⟨hcell1, hsz1, hbel1⟩ := bx hx1
  have hct1 := hc.below hbel1
  clear hcell0 hbel0 hct0 hx0
  clear hck hck0
  go_wp2_with fail
  refine (r_has _ _ _ _ _ (by omega) hs1).mono ?_
  rintro e w2 ⟨rfl, hw2⟩
  have hb2 := below_of_eq hw2
  clear hw2
  have hx2 := hx1.trans (hb2.mono hsz1)
  obtain ⟨hcell2, hsz2, hbel2⟩ := bx hx2
  have hct2 := hc.below hbel2
  clear hcell1 hbel1 hct1 hx1
  go_wp2_with fail
  refine (r_is L b o cap _ _ _ hL hct2).mono ?_
  rintro e w3 ⟨rfl, hb3⟩
  have hx3 := hx2.trans (hb3.mono hsz2)
  obtain ⟨hcell3, hsz3, hbel3⟩ := bx hx3
  have hct3 := hc.below hbel3
  clear hcell2 hbel2 hct2 hx2
  go_wp2_with fail
  refine (r_is L b o cap _ _ _ hL hct3).mono ?_
  rintro e w4 ⟨rfl, hb4⟩
  have hx4 := hx3.trans (hb4.mono hsz3)
  obtain ⟨hcell4, hsz4, hbel4⟩ := bx hx4
  have hct4 := hc.below hbel4
  clear hcell3 hbel3 hct3 hx3
  go_wp2_with fail
  go_region_held (fun w' => w'.cell? ⟨w.heap.size, 0, none⟩ = some (.slice (some ⟨b, o, none⟩) L.length cap) ∧ Below w4.heap.size w4 w') (first | exact ⟨hcell4, (Below.refl _ _).drew⟩ | exact keep1 hsz4 (by assumption) (by assumption)) (first | (go_at_call 79; refine (r_word L b o cap _ _ hL ht ?_).mono ?_; exact hct4.below (Below.refl _ _).drew; rintro e wA ⟨aoA, cpA, rfl, hsA, hbA⟩) | (go_at_call 54; refine (r_index L b o cap _ _ _ _ _ hL ?_ ?_ ?_ ?_).mono ?_; exact hct4.below ((Below.refl _ _).drew.trans hbA); exact Nat.le_trans l2 (by omega); exact hsA; exact wordF_lt _ _ _; rintro e wB ⟨rfl, hbB⟩))
  have hbb := ((Below.refl _ _).drew.trans hbA).trans (hbB.mono hbA.size)
  clear hbA hbB hsA
  have hxe := hx4.trans (hbb.mono hsz4)
  go_wp2
  go_ret
  exact ⟨ret_bool HR.out.symm, (bx hxe).2.2⟩

set_option maxRecDepth 100000 in
set_option maxHeartbeats 2000000 in
theorem r_right3 (L : List Tk) (b o cap : Nat) (i : Nat) (w : World) (hL : L.length ≤ 500) (ht : ∀ k, (h : k < L.length) → L[k].t.size ≤ 500) (hp : ProcOk L) (hc : ToksAt w b o L) (hi : i < L.length) (hA : isB L ((i : Int) - 1) ⟨#[97, 99, 113, 117, 105, 114, 101]⟩ = false) (hR : isB L ((i : Int) - 1) ⟨#[114, 101, 108, 101, 97, 115, 101]⟩ = false) (hT : hasB (wordB L ⟨#[116, 104, 114, 101, 97, 100, 115]⟩) i = true) :
    Calls Tryz.prog 51 #[.agg #[.slice (some ⟨b, o, none⟩) L.length cap], .int .i64 i] w fun e w' => e = .returned (.bool (rightB L i)) ∧ Below w.heap.size w w' := by
  have HR : Hid (rightB L i = decide (0 ≤ indexB L (procsB L) L[i].t)) := by show _ = _; unfold rightB; rw [hA, hR, hT, tk_eq hi]; rfl
  have hi2 : (i : Int) < L.length := by omega
  have hck0 := (hc.2 i hi).1
  have htb := hc.1
  have hx0 := Below.refl (w.heap.size + 1) (w.alloc (.cells #[.slice (some ⟨b, o, none⟩) L.length cap] 71))
  obtain ⟨hcell0, hsz0, hbel0⟩ := bx hx0
  have hct0 := hc.below hbel0
  have hck := (hct0.2 i hi).1
  have l2 := wordB_len L ⟨#[108, 111, 99, 107, 115]⟩
  have l1 := wordB_len L ⟨#[115, 104, 97, 114, 101, 100]⟩
  have l4 := wordB_len L ⟨#[116, 104, 114, 101, 97, 100, 115]⟩
  have l3 := procsB_len L
  have hin3 : ∀ j ∈ procsB L, j < L.length := procsF_lt hp 0
  have hhm := homeB_le L i
  have l5 : (paramsB L (homeB L i)).length ≤ L.length := Nat.le_trans (namesF_len L _) (Nat.sub_le _ _)
  go_enter Tryz.func51, Tryz.ntmps51
  go_wp2_with fail
  refine (r_word L b o cap _ _ hL ht hct0).mono ?_
  rintro e w1 ⟨ao1, cp1, rfl, hs1, hb1⟩
  have hx1 := hx0.trans (hb1.mono hsz0)
  obtain ⟨hcell1, hsz1, hbel1⟩ := bx hx1
  have hct1 := hc.below hbel1
  clear hcell0 hbel0 hct0 hx0
  clear hck hck0
  go_wp2_with fail
  refine (r_has _ _ _ _ _ (by omega) hs1).mono ?_
  rintro e w2 ⟨rfl, hw2⟩
  have hb2 := below_of_eq hw2
  clear hw2
  have hx2 := hx1.trans (hb2.mono hsz1)
  obtain ⟨hcell2, hsz2, hbel2⟩ := bx hx2
  have hct2 := hc.below hbel2
  clear hcell1 hbel1 hct1 hx1
  go_wp2_with fail
  refine (r_is L b o cap _ _ _ hL hct2).mono ?_
  rintro e w3 ⟨rfl, hb3⟩
  have hx3 := hx2.trans (hb3.mono hsz2)
  obtain ⟨hcell3, hsz3, hbel3⟩ := bx hx3
  have hct3 := hc.below hbel3
  clear hcell2 hbel2 hct2 hx2
  go_wp2_with fail
  refine (r_is L b o cap _ _ _ hL hct3).mono ?_
  rintro e w4 ⟨rfl, hb4⟩
  have hx4 := hx3.trans (hb4.mono hsz3)
  obtain ⟨hcell4, hsz4, hbel4⟩ := bx hx4
  have hct4 := hc.below hbel4
  clear hcell3 hbel3 hct3 hx3
  go_wp2_with fail
  go_region_held (fun w' => w'.cell? ⟨w.heap.size, 0, none⟩ = some (.slice (some ⟨b, o, none⟩) L.length cap) ∧ Below w4.heap.size w4 w') (first | exact ⟨hcell4, (Below.refl _ _).drew⟩ | exact keep1 hsz4 (by assumption) (by assumption)) (first | (go_at_call 53; refine (r_procs L b o cap _ hL ?_).mono ?_; exact hct4.below (Below.refl _ _).drew; rintro e wA ⟨aoA, cpA, rfl, hsA, hbA⟩) | (go_at_call 54; refine (r_index L b o cap _ _ _ _ _ hL ?_ ?_ ?_ ?_).mono ?_; exact hct4.below ((Below.refl _ _).drew.trans hbA); exact Nat.le_trans l3 (by omega); exact hsA; exact hin3; rintro e wB ⟨rfl, hbB⟩))
  have hbb := ((Below.refl _ _).drew.trans hbA).trans (hbB.mono hbA.size)
  clear hbA hbB hsA
  have hxe := hx4.trans (hbb.mono hsz4)
  go_wp2
  go_ret
  exact ⟨ret_bool HR.out.symm, (bx hxe).2.2⟩

set_option maxRecDepth 100000 in
set_option maxHeartbeats 2000000 in
theorem r_right4 (L : List Tk) (b o cap : Nat) (i : Nat) (w : World) (hL : L.length ≤ 500) (ht : ∀ k, (h : k < L.length) → L[k].t.size ≤ 500) (hp : ProcOk L) (hc : ToksAt w b o L) (hi : i < L.length) (hA : isB L ((i : Int) - 1) ⟨#[97, 99, 113, 117, 105, 114, 101]⟩ = false) (hR : isB L ((i : Int) - 1) ⟨#[114, 101, 108, 101, 97, 115, 101]⟩ = false) (hT : hasB (wordB L ⟨#[116, 104, 114, 101, 97, 100, 115]⟩) i = false) (hP : isB L ((i : Int) + 1) ⟨#[40]⟩ = true) :
    Calls Tryz.prog 51 #[.agg #[.slice (some ⟨b, o, none⟩) L.length cap], .int .i64 i] w fun e w' => e = .returned (.bool (rightB L i)) ∧ Below w.heap.size w w' := by
  have HR : Hid (rightB L i = decide (0 ≤ indexB L (procsB L) L[i].t)) := by show _ = _; unfold rightB; rw [hA, hR, hT, hP, tk_eq hi]; rfl
  have hi2 : (i : Int) < L.length := by omega
  have hck0 := (hc.2 i hi).1
  have htb := hc.1
  have hx0 := Below.refl (w.heap.size + 1) (w.alloc (.cells #[.slice (some ⟨b, o, none⟩) L.length cap] 71))
  obtain ⟨hcell0, hsz0, hbel0⟩ := bx hx0
  have hct0 := hc.below hbel0
  have hck := (hct0.2 i hi).1
  have l2 := wordB_len L ⟨#[108, 111, 99, 107, 115]⟩
  have l1 := wordB_len L ⟨#[115, 104, 97, 114, 101, 100]⟩
  have l4 := wordB_len L ⟨#[116, 104, 114, 101, 97, 100, 115]⟩
  have l3 := procsB_len L
  have hin3 : ∀ j ∈ procsB L, j < L.length := procsF_lt hp 0
  have hhm := homeB_le L i
  have l5 : (paramsB L (homeB L i)).length ≤ L.length := Nat.le_trans (namesF_len L _) (Nat.sub_le _ _)
  go_enter Tryz.func51, Tryz.ntmps51
  go_wp2_with fail
  refine (r_word L b o cap _ _ hL ht hct0).mono ?_
  rintro e w1 ⟨ao1, cp1, rfl, hs1, hb1⟩
  have hx1 := hx0.trans (hb1.mono hsz0)
  obtain ⟨hcell1, hsz1, hbel1⟩ := bx hx1
  have hct1 := hc.below hbel1
  clear hcell0 hbel0 hct0 hx0
  clear hck hck0
  go_wp2_with fail
  refine (r_has _ _ _ _ _ (by omega) hs1).mono ?_
  rintro e w2 ⟨rfl, hw2⟩
  have hb2 := below_of_eq hw2
  clear hw2
  have hx2 := hx1.trans (hb2.mono hsz1)
  obtain ⟨hcell2, hsz2, hbel2⟩ := bx hx2
  have hct2 := hc.below hbel2
  clear hcell1 hbel1 hct1 hx1
  go_wp2_with fail
  refine (r_is L b o cap _ _ _ hL hct2).mono ?_
  rintro e w3 ⟨rfl, hb3⟩
  have hx3 := hx2.trans (hb3.mono hsz2)
  obtain ⟨hcell3, hsz3, hbel3⟩ := bx hx3
  have hct3 := hc.below hbel3
  clear hcell2 hbel2 hct2 hx2
  go_wp2_with fail
  refine (r_is L b o cap _ _ _ hL hct3).mono ?_
  rintro e w4 ⟨rfl, hb4⟩
  have hx4 := hx3.trans (hb4.mono hsz3)
  obtain ⟨hcell4, hsz4, hbel4⟩ := bx hx4
  have hct4 := hc.below hbel4
  clear hcell3 hbel3 hct3 hx3
  go_wp2_with fail
  refine (r_is L b o cap _ _ _ hL hct4).mono ?_
  rintro e w5 ⟨rfl, hb5⟩
  have hx5 := hx4.trans (hb5.mono hsz4)
  obtain ⟨hcell5, hsz5, hbel5⟩ := bx hx5
  have hct5 := hc.below hbel5
  clear hcell4 hbel4 hct4 hx4
  go_wp2_with fail
  go_region_held (fun w' => w'.cell? ⟨w.heap.size, 0, none⟩ = some (.slice (some ⟨b, o, none⟩) L.length cap) ∧ Below w5.heap.size w5 w') (first | exact ⟨hcell5, (Below.refl _ _).drew⟩ | exact keep1 hsz5 (by assumption) (by assumption)) (first | (go_at_call 53; refine (r_procs L b o cap _ hL ?_).mono ?_; exact hct5.below (Below.refl _ _).drew; rintro e wA ⟨aoA, cpA, rfl, hsA, hbA⟩) | (go_at_call 54; refine (r_index L b o cap _ _ _ _ _ hL ?_ ?_ ?_ ?_).mono ?_; exact hct5.below ((Below.refl _ _).drew.trans hbA); exact Nat.le_trans l3 (by omega); exact hsA; exact hin3; rintro e wB ⟨rfl, hbB⟩))
  have hbb := ((Below.refl _ _).drew.trans hbA).trans (hbB.mono hbA.size)
  clear hbA hbB hsA
  have hxe := hx5.trans (hbb.mono hsz5)
  go_wp2
  go_ret
  exact ⟨ret_bool HR.out.symm, (bx hxe).2.2⟩

set_option maxRecDepth 100000 in
set_option maxHeartbeats 2000000 in
theorem r_right5 (L : List Tk) (b o cap : Nat) (i : Nat) (w : World) (hL : L.length ≤ 500) (ht : ∀ k, (h : k < L.length) → L[k].t.size ≤ 500) (hp : ProcOk L) (hc : ToksAt w b o L) (hi : i < L.length) (hA : isB L ((i : Int) - 1) ⟨#[97, 99, 113, 117, 105, 114, 101]⟩ = false) (hR : isB L ((i : Int) - 1) ⟨#[114, 101, 108, 101, 97, 115, 101]⟩ = false) (hT : hasB (wordB L ⟨#[116, 104, 114, 101, 97, 100, 115]⟩) i = false) (hP : isB L ((i : Int) + 1) ⟨#[40]⟩ = false) :
    Calls Tryz.prog 51 #[.agg #[.slice (some ⟨b, o, none⟩) L.length cap], .int .i64 i] w fun e w' => e = .returned (.bool (rightB L i)) ∧ Below w.heap.size w w' := by
  have HR : Hid (rightB L i = (decide (0 ≤ indexB L (wordB L ⟨#[115, 104, 97, 114, 101, 100]⟩) L[i].t) || decide (0 ≤ indexB L (paramsB L (homeB L i)) L[i].t))) := by show _ = _; unfold rightB; rw [hA, hR, hT, hP, tk_eq hi]; rfl
  have hi2 : (i : Int) < L.length := by omega
  have hck0 := (hc.2 i hi).1
  have htb := hc.1
  have hx0 := Below.refl (w.heap.size + 1) (w.alloc (.cells #[.slice (some ⟨b, o, none⟩) L.length cap] 71))
  obtain ⟨hcell0, hsz0, hbel0⟩ := bx hx0
  have hct0 := hc.below hbel0
  have hck := (hct0.2 i hi).1
  have l2 := wordB_len L ⟨#[108, 111, 99, 107, 115]⟩
  have l1 := wordB_len L ⟨#[115, 104, 97, 114, 101, 100]⟩
  have l4 := wordB_len L ⟨#[116, 104, 114, 101, 97, 100, 115]⟩
  have l3 := procsB_len L
  have hin3 : ∀ j ∈ procsB L, j < L.length := procsF_lt hp 0
  have hhm := homeB_le L i
  have l5 : (paramsB L (homeB L i)).length ≤ L.length := Nat.le_trans (namesF_len L _) (Nat.sub_le _ _)
  go_enter Tryz.func51, Tryz.ntmps51
  go_wp2_with fail
  refine (r_word L b o cap _ _ hL ht hct0).mono ?_
  rintro e w1 ⟨ao1, cp1, rfl, hs1, hb1⟩
  have hx1 := hx0.trans (hb1.mono hsz0)
  obtain ⟨hcell1, hsz1, hbel1⟩ := bx hx1
  have hct1 := hc.below hbel1
  clear hcell0 hbel0 hct0 hx0
  clear hck hck0
  go_wp2_with fail
  refine (r_has _ _ _ _ _ (by omega) hs1).mono ?_
  rintro e w2 ⟨rfl, hw2⟩
  have hb2 := below_of_eq hw2
  clear hw2
  have hx2 := hx1.trans (hb2.mono hsz1)
  obtain ⟨hcell2, hsz2, hbel2⟩ := bx hx2
  have hct2 := hc.below hbel2
  clear hcell1 hbel1 hct1 hx1
  go_wp2_with fail
  refine (r_is L b o cap _ _ _ hL hct2).mono ?_
  rintro e w3 ⟨rfl, hb3⟩
  have hx3 := hx2.trans (hb3.mono hsz2)
  obtain ⟨hcell3, hsz3, hbel3⟩ := bx hx3
  have hct3 := hc.below hbel3
  clear hcell2 hbel2 hct2 hx2
  go_wp2_with fail
  refine (r_is L b o cap _ _ _ hL hct3).mono ?_
  rintro e w4 ⟨rfl, hb4⟩
  have hx4 := hx3.trans (hb4.mono hsz3)
  obtain ⟨hcell4, hsz4, hbel4⟩ := bx hx4
  have hct4 := hc.below hbel4
  clear hcell3 hbel3 hct3 hx3
  go_wp2_with fail
  refine (r_is L b o cap _ _ _ hL hct4).mono ?_
  rintro e w5 ⟨rfl, hb5⟩
  have hx5 := hx4.trans (hb5.mono hsz4)
  obtain ⟨hcell5, hsz5, hbel5⟩ := bx hx5
  have hct5 := hc.below hbel5
  clear hcell4 hbel4 hct4 hx4
  go_wp2_with fail
  go_region_held (fun w' => w'.cell? ⟨w.heap.size, 0, none⟩ = some (.slice (some ⟨b, o, none⟩) L.length cap) ∧ Below w5.heap.size w5 w') (first | exact ⟨hcell5, (Below.refl _ _).drew⟩ | exact keep1 hsz5 (by assumption) (by assumption)) (first | (go_at_call 79; refine (r_word L b o cap _ _ hL ht ?_).mono ?_; exact hct5.below (Below.refl _ _).drew; rintro e wA ⟨aoA, cpA, rfl, hsA, hbA⟩) | (go_at_call 54; refine (r_index L b o cap _ _ _ _ _ hL ?_ ?_ ?_ ?_).mono ?_; exact hct5.below ((Below.refl _ _).drew.trans hbA); exact Nat.le_trans l1 (by omega); exact hsA; exact wordF_lt _ _ _; rintro e wB ⟨rfl, hbB⟩))
  have hbb := ((Below.refl _ _).drew.trans hbA).trans (hbB.mono hbA.size)
  clear hbA hbB hsA
  have hb6 := hbb
  have hx6 := hx5.trans (hb6.mono hsz5)
  obtain ⟨hcell6, hsz6, hbel6⟩ := bx hx6
  have hct6 := hc.below hbel6
  clear hbb hb6
  go_wp2_with fail
  go_region_held (fun w' => w'.cell? ⟨w.heap.size, 0, none⟩ = some (.slice (some ⟨b, o, none⟩) L.length cap) ∧ Below wB.heap.size wB w') (first | exact ⟨hcell6, (Below.refl _ _).drew⟩ | exact keep1 hsz6 (by assumption) (by assumption)) (first | (go_at_call 85; refine (r_home L b o cap i _ hL ?_ (by omega)).mono ?_; exact hct6.below (Below.refl _ _).drew; rintro e wH ⟨rfl, hbH⟩) | (go_at_call 56; refine (r_params L b o cap _ _ hL ht ?_ (by omega)).mono ?_; exact hct6.below ((Below.refl _ _).drew.trans hbH); rintro e wA ⟨aoA, cpA, rfl, hsA, hbA⟩) | (go_at_call 54; refine (r_index L b o cap _ _ _ _ _ hL ?_ ?_ ?_ ?_).mono ?_; exact hct6.below (((Below.refl _ _).drew.trans hbH).trans (hbA.mono hbH.size)); exact Nat.le_trans l5 (by omega); exact hsA; exact fun j hj => (namesF_lt L _ j hj).2; rintro e wZ ⟨rfl, hbB⟩))
  have hbb := (((Below.refl _ _).drew.trans hbH).trans (hbA.mono hbH.size)).trans (hbB.mono (Nat.le_trans hbH.size hbA.size))
  clear hbA hbB hbH hsA
  have hxe := hx6.trans (hbb.mono hsz6)
  by_cases hs : 0 ≤ indexB L (wordB L ⟨#[115, 104, 97, 114, 101, 100]⟩) L[i].t
  · have HS0 := hide hs
    go_wp2
    go_ret
    exact ⟨ret_bool (by rw [HR.out, decide_eq_true HS0.out]; rfl), (bx hxe).2.2⟩
  · have HS0 := hide hs
    go_wp2
    go_ret
    exact ⟨ret_bool (by rw [HR.out, decide_eq_false (p := 0 ≤ indexB L (wordB L ⟨#[115, 104, 97, 114, 101, 100]⟩) L[i].t) (by have := HS0.out; omega)]; rfl), (bx hxe).2.2⟩

theorem r_right (L : List Tk) (b o cap : Nat) (i : Nat) (w : World) (hL : L.length ≤ 500) (ht : ∀ k, (h : k < L.length) → L[k].t.size ≤ 500) (hp : ProcOk L) (hc : ToksAt w b o L) (hi : i < L.length) :
    Calls Tryz.prog 51 #[.agg #[.slice (some ⟨b, o, none⟩) L.length cap], .int .i64 i] w fun e w' => e = .returned (.bool (rightB L i)) ∧ Below w.heap.size w w' := by
  cases hA : isB L ((i : Int) - 1) ⟨#[97, 99, 113, 117, 105, 114, 101]⟩
  · cases hR : isB L ((i : Int) - 1) ⟨#[114, 101, 108, 101, 97, 115, 101]⟩
    · cases hT : hasB (wordB L ⟨#[116, 104, 114, 101, 97, 100, 115]⟩) i
      · cases hP : isB L ((i : Int) + 1) ⟨#[40]⟩
        · exact r_right5 L b o cap i w hL ht hp hc hi hA hR hT hP
        · exact r_right4 L b o cap i w hL ht hp hc hi hA hR hT hP
      · exact r_right3 L b o cap i w hL ht hp hc hi hA hR hT
    · exact r_right2 L b o cap i w hL ht hp hc hi hA hR
  · exact r_right1 L b o cap i w hL ht hp hc hi hA

end Go.Proofs.YtmfcpbhdggonfaaGreatDoor
