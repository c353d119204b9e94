/- The statement Refused, walked. -/
import Derived.Test.YtmfcpbhdggonfabGreatDoorMgBE
import Derived.Deep.CutBlock
import Derived.Deep.DeepCutAuto
namespace Go.Proofs.YtmfcpbhdggonfabGreatDoor
open Go.RowKit

def goodT : ByteArray := ⟨#[115, 104, 97, 114, 101, 100, 32, 120, 59, 32, 112, 114, 111, 99, 32, 112, 40, 41, 32, 123, 32, 119, 104, 105, 108, 101, 32, 40, 116, 114, 117, 101, 41, 32, 123, 32, 120, 32, 61, 32, 33, 120, 59, 32, 125, 32, 125, 32, 116, 104, 114, 101, 97, 100, 115, 32, 112, 44, 32, 112, 59]⟩
/-- The table, as it lies in memory. -/
def RfSl (w : World) (ao : Option Addr) : Prop := ∀ i, (h : i < refT.length) → ∃ b o, b < w.heap.size ∧ ao = some ⟨b, o, none⟩ ∧ w.cell? ⟨b, o + i * 3, none⟩ = some (.string refT[i].1) ∧ w.cell? ⟨b, o + i * 3 + 1, none⟩ = some (.int .i64 refT[i].2.1) ∧ w.cell? ⟨b, o + i * 3 + 2, none⟩ = some (.int .i64 refT[i].2.2)
theorem RfSl.below {w w' : World} {ao : Option Addr} (h : RfSl w ao) (hb : Below w.heap.size w w') : RfSl w' ao := fun i hi => by
  obtain ⟨b, o, h1, h2, h3, h4, h5⟩ := h i hi
  exact ⟨b, o, Nat.lt_of_lt_of_le h1 hb.size, h2, (hb.cell (p := ⟨b, _, none⟩) h1).trans h3, (hb.cell (p := ⟨b, _, none⟩) h1).trans h4, (hb.cell (p := ⟨b, _, none⟩) h1).trans h5⟩
theorem rfSl_new (w : World) : RfSl (w.alloc (.cells refL.toArray 28)) (some ⟨w.heap.size, 0, none⟩) := fun i hi => by
  have hf : Flat (w.alloc (.cells refL.toArray 28)) (some ⟨w.heap.size, 0, none⟩) (refT.flatMap refR) := .inr ⟨w.heap.size, 0, by simp, rfl, fun j v hv => by
    rw [cell_of_row _ _ _ _ _ _ (heap_alloc_new w _)]
    simpa [refL] using hv⟩
  obtain ⟨b, o, h1, h2, h3⟩ := Flat.get (f := refR) (n := 3) (fun _ => rfl) (by decide) hf i hi
  exact ⟨b, o, h1, h2, h3 0 _ rfl, h3 1 _ rfl, h3 2 _ rfl⟩
/-- What all calls answer to a program that may not be. -/
structure Refu (x : ByteArray) (E P : Int) : Prop where
  chk : ∀ w, Calls Tryz.prog 5 #[.string x] w fun e w' => e = .returned (.tuple #[.int .i64 E, .int .i64 P]) ∧ Below w.heap.size w w'
  ply : ∀ w, Calls Tryz.prog 6 #[.string x, .string ⟨#[97]⟩] w fun e w' => e = .returned (.tuple #[.agg #[.string ⟨#[]⟩, .string ⟨#[]⟩, .bool false, .bool false], .int .i64 E, .int .i64 P]) ∧ Below w.heap.size w w'
  sea : ∀ w, Calls Tryz.prog 7 #[.string x, .int .i64 0, .int .i64 (-1)] w fun e w' => e = .returned (.tuple #[.agg #[.bool false, .bool false, .string ⟨#[]⟩, .string ⟨#[]⟩, .bool false, .int .i64 0], .int .i64 E]) ∧ Below w.heap.size w w'
/-- What they answer to the good one. -/
structure Goo (g L L2 T : ByteArray) : Prop where
  tim : ∀ w, Calls Tryz.prog 8 #[.string ⟨#[97]⟩, .int .i64 201] w fun e w' => e = .returned (.string L) ∧ w' = w
  siz : L.size = 201
  cut : L.extract 1 201 = L2
  chk : ∀ w, Calls Tryz.prog 5 #[.string g] w fun e w' => e = .returned (.tuple #[.int .i64 0, .int .i64 0]) ∧ Below w.heap.size w w'
  long : ∀ w, Calls Tryz.prog 6 #[.string g, .string L] w fun e w' => e = .returned (.tuple #[.agg #[.string ⟨#[]⟩, .string ⟨#[]⟩, .bool false, .bool false], .int .i64 1, .int .i64 0]) ∧ Below w.heap.size w w'
  ply : ∀ w, Calls Tryz.prog 6 #[.string g, .string L2] w fun e w' => (∃ r d, e = .returned (.tuple #[.agg #[.string T, .string ⟨#[97, 98]⟩, .bool r, .bool d], .int .i64 0, .int .i64 0])) ∧ Below w.heap.size w w'
  c1 : ∀ w, Calls Tryz.prog 9 #[.string L] w fun e w' => e = .returned (.tuple #[.int .i64 0, .int .i64 1]) ∧ w' = w
  c2 : ∀ w, Calls Tryz.prog 9 #[.string L2] w fun e w' => e = .returned (.tuple #[.int .i64 1, .int .i64 0]) ∧ w' = w
  c3 : ∀ w, Calls Tryz.prog 9 #[.string ⟨#[97, 98, 120]⟩] w fun e w' => e = .returned (.tuple #[.int .i64 0, .int .i64 7]) ∧ w' = w
  s1 : ∀ c, (c < 1 ∨ 6 < c) → ∀ w, Calls Tryz.prog 7 #[.string g, .int .i64 c, .int .i64 3] w fun e w' => e = .returned (.tuple #[.agg #[.bool false, .bool false, .string ⟨#[]⟩, .string ⟨#[]⟩, .bool false, .int .i64 0], .int .i64 7]) ∧ Below w.heap.size w w'
  s2 : ∀ n, (n < 0 ∨ 60 < n) → ∀ w, Calls Tryz.prog 7 #[.string g, .int .i64 1, .int .i64 n] w fun e w' => e = .returned (.tuple #[.agg #[.bool false, .bool false, .string ⟨#[]⟩, .string ⟨#[]⟩, .bool false, .int .i64 0], .int .i64 7]) ∧ Below w.heap.size w w'

theorem cellA {w : World} {a : Addr} {x : Value} {ob : Obj} (h : w.cell? a = some x) : (w.alloc ob).cell? a = some x := (World.cell?_alloc_lt _ _ _ (World.block_lt_of_cell? w a h)).trans h
theorem bl_alloc {n : Nat} {W w w' : World} {ob : Obj} (h : Below n W w) (hn : n ≤ w.heap.size) (hb : Below (w.alloc ob).heap.size (w.alloc ob) w') : Below n W w' := (h.alloc hn ob).trans (hb.mono (by simp; omega))

set_option maxRecDepth 100000 in
set_option maxHeartbeats 8000000 in
theorem k_Refused (n : Int) (hB : ∀ k, (h : k < refT.length) → Refu refT[k].1 refT[k].2.1 refT[k].2.2) (L L2 T : ByteArray) (hG : Goo goodT L L2 T) (w : World) :
    Calls Tryz.prog 3 #[.int .i64 n] w fun e w' => e = .returned (.bool true) ∧ Below w.heap.size w w' := by
  have HB := hide hB
  have HG := hide hG
  clear hB hG
  have h21 : refT.length = 21 := rfl
  go_enter Tryz.func3, Tryz.ntmps3
  go_wp2_with fail
  refine (k_refusals _).mono ?_
  rintro e w0 ⟨rfl, rfl⟩
  have HR := hide (rfSl_new w)
  have hb0 : Below w.heap.size w (w.alloc (.cells refL.toArray 28)) := (Below.refl _ _).alloc (Nat.le_refl _) _
  have HB0 := hide hb0
  clear hb0
  generalize some (⟨w.heap.size, 0, none⟩ : Addr) = ao at *
  generalize w.alloc (.cells refL.toArray 28) = W at *
  go_wp2_with fail
  go_loopw [4] (fun u wr => ∃ k : Nat, u = .int .i64 k ∧ k ≤ 21 ∧ Below W.heap.size W wr) (fun u _ => 21 - (intOf u).toNat)
  case atStart => exact ⟨0, rfl, by decide, Below.refl _ _⟩
  case round =>
    obtain ⟨k, rfl, hk, hbx⟩ := hrel
    by_cases hlt : k < 21
    · have hlt' : (k : Int) < 21 := by omega
      have hR1 := HB.out k (by omega)
      obtain ⟨b, o, hb, hao, c0, c1, c2⟩ := (HR.out.below hbx) k (by omega)
      generalize refT[k].1 = x at *
      generalize refT[k].2.1 = E at *
      generalize refT[k].2.2 = P at *
      have HR1 := hide hR1
      have HBX := hide hbx
      clear hR1 hbx
      subst hao
      go_wp2_with fail
      refine (HR1.out.chk _).mono ?_
      rintro e w1 ⟨rfl, hb1⟩
      have d0 := (hb1.cell (p := ⟨b, _, none⟩) hb).trans c0
      have d1 := (hb1.cell (p := ⟨b, _, none⟩) hb).trans c1
      have d2 := (hb1.cell (p := ⟨b, _, none⟩) hb).trans c2
      have hbb := Nat.lt_of_lt_of_le hb hb1.size
      have HB1 := hide (HBX.out.trans (hb1.mono HBX.out.size))
      clear c0 c1 c2 hb hb1 HBX
      go_wp2_with fail
      refine (HR1.out.ply _).mono ?_
      rintro e w2 ⟨rfl, hb2⟩
      have c0 := (hb2.cell (p := ⟨b, _, none⟩) hbb).trans d0
      have c1 := (hb2.cell (p := ⟨b, _, none⟩) hbb).trans d1
      have c2 := (hb2.cell (p := ⟨b, _, none⟩) hbb).trans d2
      have hb := Nat.lt_of_lt_of_le hbb hb2.size
      have HB2 := hide (HB1.out.trans (hb2.mono HB1.out.size))
      clear d0 d1 d2 hbb hb2 HB1
      go_wp2_with fail
      refine (HR1.out.sea _).mono ?_
      rintro e w3 ⟨rfl, hb3⟩
      have d0 := (hb3.cell (p := ⟨b, _, none⟩) (by simp; omega)).trans (cellA c0)
      have d1 := (hb3.cell (p := ⟨b, _, none⟩) (by simp; omega)).trans (cellA c1)
      have d2 := (hb3.cell (p := ⟨b, _, none⟩) (by simp; omega)).trans (cellA c2)
      have dv : w3.cell? ⟨w2.heap.size, 0, none⟩ = some (.string ⟨#[]⟩) := (hb3.cell (p := ⟨w2.heap.size, 0, none⟩) (by simp)).trans (by simp)
      have HB3 := hide (bl_alloc HB2.out HB2.out.size hb3)
      clear c0 c1 c2 hb hb3 HB2
      go_upto_region 8 with fail
      have c0 := cellA (ob := .cells #[.bool false, .bool false, .string ⟨#[]⟩, .string ⟨#[]⟩, .bool false, .int .i64 0] 34) d0
      have c1 := cellA (ob := .cells #[.bool false, .bool false, .string ⟨#[]⟩, .string ⟨#[]⟩, .bool false, .int .i64 0] 34) d1
      have c2 := cellA (ob := .cells #[.bool false, .bool false, .string ⟨#[]⟩, .string ⟨#[]⟩, .bool false, .int .i64 0] 34) d2
      have cv := cellA (ob := .cells #[.bool false, .bool false, .string ⟨#[]⟩, .string ⟨#[]⟩, .bool false, .int .i64 0] 34) dv
      have cp : (w3.alloc (.cells #[.bool false, .bool false, .string ⟨#[]⟩, .string ⟨#[]⟩, .bool false, .int .i64 0] 34)).cell? ⟨w3.heap.size, 5, none⟩ = some (.int .i64 0) := by simp
      have HB4 := hide (HB3.out.alloc HB3.out.size (.cells #[.bool false, .bool false, .string ⟨#[]⟩, .string ⟨#[]⟩, .bool false, .int .i64 0] 34))
      clear d0 d1 d2 dv HB3
      generalize w3.alloc (.cells #[.bool false, .bool false, .string ⟨#[]⟩, .string ⟨#[]⟩, .bool false, .int .i64 0] 34) = w4 at *
      go_wp2_with fail
      go_roundw
      case rel => exact ⟨k + 1, by go_num, by omega, HB4.out⟩
      case measure => simp [intOf]; omega
    · have hks : k = 21 := by omega
      subst hks
      have HBX := hide (HB0.out.trans (hbx.mono HB0.out.size))
      clear hbx HB HR HB0 hlt
      have hq := HG.out.siz
      go_wp2_with fail
      refine (HG.out.tim _).mono ?_
      rintro e w' ⟨rfl, rfl⟩
      go_wp2_with fail
      have hg0 : goodT = ⟨#[115, 104, 97, 114, 101, 100, 32, 120, 59, 32, 112, 114, 111, 99, 32, 112, 40, 41, 32, 123, 32, 119, 104, 105, 108, 101, 32, 40, 116, 114, 117, 101, 41, 32, 123, 32, 120, 32, 61, 32, 33, 120, 59, 32, 125, 32, 125, 32, 116, 104, 114, 101, 97, 100, 115, 32, 112, 44, 32, 112, 59]⟩ := rfl
      rw [← hg0]
      clear hg0
      generalize goodT = g at *
      refine (HG.out.chk _).mono ?_
      rintro e w1 ⟨rfl, hb1⟩
      have HB1 := hide (HBX.out.trans (hb1.mono HBX.out.size))
      clear hb1 HBX
      go_wp2_with fail
      refine (HG.out.long _).mono ?_
      rintro e w2 ⟨rfl, hb2⟩
      have HB2 := hide (HB1.out.trans (hb2.mono HB1.out.size))
      clear hb2 HB1
      go_wp2_with fail
      rw [HG.out.cut]
      refine (HG.out.ply _).mono ?_
      rintro e w3 ⟨⟨r, d, rfl⟩, hb3⟩
      have HB3 := hide (bl_alloc HB2.out HB2.out.size hb3)
      clear hb3 HB2
      go_upto_region 15 with fail
      have cv : (w3.alloc (.cells #[.string T, .string ⟨#[97, 98]⟩, .bool r, .bool d] 30)).cell? ⟨w3.heap.size, 1, none⟩ = some (.string ⟨#[97, 98]⟩) := by simp
      have HB4 := hide (HB3.out.alloc HB3.out.size (.cells #[.string T, .string ⟨#[97, 98]⟩, .bool r, .bool d] 30))
      clear HB3
      generalize w3.alloc (.cells #[.string T, .string ⟨#[97, 98]⟩, .bool r, .bool d] 30) = w4 at *
      go_wp2_with fail
      refine (HG.out.c1 _).mono ?_
      rintro e w5 ⟨rfl, rfl⟩
      go_wp2_with fail
      rw [HG.out.cut]
      refine (HG.out.c2 _).mono ?_
      rintro e w6 ⟨rfl, rfl⟩
      go_wp2_with fail
      refine (HG.out.c3 _).mono ?_
      rintro e w7 ⟨rfl, rfl⟩
      go_upto_region 20 with fail
      clear cv
      have hn5 : n < 0 ∨ n = 0 ∨ (1 ≤ n ∧ n ≤ 6) ∨ (7 ≤ n ∧ n ≤ 60) ∨ 60 < n := by omega
      rcases hn5 with h | rfl | ⟨h, h'⟩ | ⟨h, h'⟩ | h
      · have h1 : ¬ (1 : Int) ≤ n := by omega
        have h2 : ¬ (0 : Int) ≤ n := by omega
        go_wp2_with fail
        refine (HG.out.s1 n (by omega) _).mono ?_
        rintro e w8 ⟨rfl, hb8⟩
        have HB8 := hide (HB4.out.trans (hb8.mono HB4.out.size))
        clear hb8 HB4
        go_upto_region 27 with fail
        have c8 : (w8.alloc (.cells #[.bool false, .bool false, .string ⟨#[]⟩, .string ⟨#[]⟩, .bool false, .int .i64 0] 34)).cell? ⟨w8.heap.size, 5, none⟩ = some (.int .i64 0) := by simp
        have z8 : w8.heap.size < (w8.alloc (.cells #[.bool false, .bool false, .string ⟨#[]⟩, .string ⟨#[]⟩, .bool false, .int .i64 0] 34)).heap.size := by simp
        have HB9 := hide (HB8.out.alloc HB8.out.size (.cells #[.bool false, .bool false, .string ⟨#[]⟩, .string ⟨#[]⟩, .bool false, .int .i64 0] 34))
        clear HB8
        generalize w8.alloc (.cells #[.bool false, .bool false, .string ⟨#[]⟩, .string ⟨#[]⟩, .bool false, .int .i64 0] 34) = w9 at *
        go_wp2_with fail
        refine (HG.out.s2 n (by omega) _).mono ?_
        rintro e w10 ⟨rfl, hb10⟩
        have c10 := (hb10.cell (p := ⟨w8.heap.size, 5, none⟩) z8).trans c8
        have HB10 := hide (HB9.out.trans (hb10.mono HB9.out.size))
        clear hb10 HB9 c8 z8
        go_upto_region 28 with fail
        have d10 := cellA (ob := .cells #[.bool false, .bool false, .string ⟨#[]⟩, .string ⟨#[]⟩, .bool false, .int .i64 0] 34) c10
        have d11 : (w10.alloc (.cells #[.bool false, .bool false, .string ⟨#[]⟩, .string ⟨#[]⟩, .bool false, .int .i64 0] 34)).cell? ⟨w10.heap.size, 5, none⟩ = some (.int .i64 0) := by simp
        have HB11 := hide (HB10.out.alloc HB10.out.size (.cells #[.bool false, .bool false, .string ⟨#[]⟩, .string ⟨#[]⟩, .bool false, .int .i64 0] 34))
        clear HB10 c10
        generalize w10.alloc (.cells #[.bool false, .bool false, .string ⟨#[]⟩, .string ⟨#[]⟩, .bool false, .int .i64 0] 34) = w11 at *
        go_wp2_with fail
        go_ret
        exact ⟨rfl, HB11.out⟩
      · have HH : (0 : Int) = 0 := rfl
        clear HH
        go_wp2_with fail
        refine (HG.out.s1 0 (by omega) _).mono ?_
        rintro e w8 ⟨rfl, hb8⟩
        have HB8 := hide (HB4.out.trans (hb8.mono HB4.out.size))
        clear hb8 HB4
        go_upto_region 27 with fail
        have c8 : (w8.alloc (.cells #[.bool false, .bool false, .string ⟨#[]⟩, .string ⟨#[]⟩, .bool false, .int .i64 0] 34)).cell? ⟨w8.heap.size, 5, none⟩ = some (.int .i64 0) := by simp
        have z8 : w8.heap.size < (w8.alloc (.cells #[.bool false, .bool false, .string ⟨#[]⟩, .string ⟨#[]⟩, .bool false, .int .i64 0] 34)).heap.size := by simp
        have HB9 := hide (HB8.out.alloc HB8.out.size (.cells #[.bool false, .bool false, .string ⟨#[]⟩, .string ⟨#[]⟩, .bool false, .int .i64 0] 34))
        clear HB8
        generalize w8.alloc (.cells #[.bool false, .bool false, .string ⟨#[]⟩, .string ⟨#[]⟩, .bool false, .int .i64 0] 34) = w9 at *
        go_wp2_with fail
        refine (HG.out.s2 61 (by omega) _).mono ?_
        rintro e w10 ⟨rfl, hb10⟩
        have c10 := (hb10.cell (p := ⟨w8.heap.size, 5, none⟩) z8).trans c8
        have HB10 := hide (HB9.out.trans (hb10.mono HB9.out.size))
        clear hb10 HB9 c8 z8
        go_upto_region 28 with fail
        have d10 := cellA (ob := .cells #[.bool false, .bool false, .string ⟨#[]⟩, .string ⟨#[]⟩, .bool false, .int .i64 0] 34) c10
        have d11 : (w10.alloc (.cells #[.bool false, .bool false, .string ⟨#[]⟩, .string ⟨#[]⟩, .bool false, .int .i64 0] 34)).cell? ⟨w10.heap.size, 5, none⟩ = some (.int .i64 0) := by simp
        have HB11 := hide (HB10.out.alloc HB10.out.size (.cells #[.bool false, .bool false, .string ⟨#[]⟩, .string ⟨#[]⟩, .bool false, .int .i64 0] 34))
        clear HB10 c10
        generalize w10.alloc (.cells #[.bool false, .bool false, .string ⟨#[]⟩, .string ⟨#[]⟩, .bool false, .int .i64 0] 34) = w11 at *
        go_wp2_with fail
        go_ret
        exact ⟨rfl, HB11.out⟩
      · have h1 : (0 : Int) ≤ n := by omega
        have h2 : n ≤ 60 := by omega
        go_wp2_with fail
        refine (HG.out.s1 7 (by omega) _).mono ?_
        rintro e w8 ⟨rfl, hb8⟩
        have HB8 := hide (HB4.out.trans (hb8.mono HB4.out.size))
        clear hb8 HB4
        go_upto_region 27 with fail
        have c8 : (w8.alloc (.cells #[.bool false, .bool false, .string ⟨#[]⟩, .string ⟨#[]⟩, .bool false, .int .i64 0] 34)).cell? ⟨w8.heap.size, 5, none⟩ = some (.int .i64 0) := by simp
        have z8 : w8.heap.size < (w8.alloc (.cells #[.bool false, .bool false, .string ⟨#[]⟩, .string ⟨#[]⟩, .bool false, .int .i64 0] 34)).heap.size := by simp
        have HB9 := hide (HB8.out.alloc HB8.out.size (.cells #[.bool false, .bool false, .string ⟨#[]⟩, .string ⟨#[]⟩, .bool false, .int .i64 0] 34))
        clear HB8
        generalize w8.alloc (.cells #[.bool false, .bool false, .string ⟨#[]⟩, .string ⟨#[]⟩, .bool false, .int .i64 0] 34) = w9 at *
        go_wp2_with fail
        refine (HG.out.s2 61 (by omega) _).mono ?_
        rintro e w10 ⟨rfl, hb10⟩
        have c10 := (hb10.cell (p := ⟨w8.heap.size, 5, none⟩) z8).trans c8
        have HB10 := hide (HB9.out.trans (hb10.mono HB9.out.size))
        clear hb10 HB9 c8 z8
        go_upto_region 28 with fail
        have d10 := cellA (ob := .cells #[.bool false, .bool false, .string ⟨#[]⟩, .string ⟨#[]⟩, .bool false, .int .i64 0] 34) c10
        have d11 : (w10.alloc (.cells #[.bool false, .bool false, .string ⟨#[]⟩, .string ⟨#[]⟩, .bool false, .int .i64 0] 34)).cell? ⟨w10.heap.size, 5, none⟩ = some (.int .i64 0) := by simp
        have HB11 := hide (HB10.out.alloc HB10.out.size (.cells #[.bool false, .bool false, .string ⟨#[]⟩, .string ⟨#[]⟩, .bool false, .int .i64 0] 34))
        clear HB10 c10
        generalize w10.alloc (.cells #[.bool false, .bool false, .string ⟨#[]⟩, .string ⟨#[]⟩, .bool false, .int .i64 0] 34) = w11 at *
        go_wp2_with fail
        go_ret
        exact ⟨rfl, HB11.out⟩
      · have h1 : (0 : Int) ≤ n := by omega
        have h2 : ¬ n ≤ 6 := by omega
        have h3 : (1 : Int) ≤ n := by omega
        go_wp2_with fail
        refine (HG.out.s1 n (by omega) _).mono ?_
        rintro e w8 ⟨rfl, hb8⟩
        have HB8 := hide (HB4.out.trans (hb8.mono HB4.out.size))
        clear hb8 HB4
        go_upto_region 27 with fail
        have c8 : (w8.alloc (.cells #[.bool false, .bool false, .string ⟨#[]⟩, .string ⟨#[]⟩, .bool false, .int .i64 0] 34)).cell? ⟨w8.heap.size, 5, none⟩ = some (.int .i64 0) := by simp
        have z8 : w8.heap.size < (w8.alloc (.cells #[.bool false, .bool false, .string ⟨#[]⟩, .string ⟨#[]⟩, .bool false, .int .i64 0] 34)).heap.size := by simp
        have HB9 := hide (HB8.out.alloc HB8.out.size (.cells #[.bool false, .bool false, .string ⟨#[]⟩, .string ⟨#[]⟩, .bool false, .int .i64 0] 34))
        clear HB8
        generalize w8.alloc (.cells #[.bool false, .bool false, .string ⟨#[]⟩, .string ⟨#[]⟩, .bool false, .int .i64 0] 34) = w9 at *
        go_wp2_with fail
        refine (HG.out.s2 61 (by omega) _).mono ?_
        rintro e w10 ⟨rfl, hb10⟩
        have c10 := (hb10.cell (p := ⟨w8.heap.size, 5, none⟩) z8).trans c8
        have HB10 := hide (HB9.out.trans (hb10.mono HB9.out.size))
        clear hb10 HB9 c8 z8
        go_upto_region 28 with fail
        have d10 := cellA (ob := .cells #[.bool false, .bool false, .string ⟨#[]⟩, .string ⟨#[]⟩, .bool false, .int .i64 0] 34) c10
        have d11 : (w10.alloc (.cells #[.bool false, .bool false, .string ⟨#[]⟩, .string ⟨#[]⟩, .bool false, .int .i64 0] 34)).cell? ⟨w10.heap.size, 5, none⟩ = some (.int .i64 0) := by simp
        have HB11 := hide (HB10.out.alloc HB10.out.size (.cells #[.bool false, .bool false, .string ⟨#[]⟩, .string ⟨#[]⟩, .bool false, .int .i64 0] 34))
        clear HB10 c10
        generalize w10.alloc (.cells #[.bool false, .bool false, .string ⟨#[]⟩, .string ⟨#[]⟩, .bool false, .int .i64 0] 34) = w11 at *
        go_wp2_with fail
        go_ret
        exact ⟨rfl, HB11.out⟩
      · have h1 : (0 : Int) ≤ n := by omega
        have h2 : ¬ n ≤ 6 := by omega
        have h3 : (1 : Int) ≤ n := by omega
        have h4 : ¬ n ≤ 60 := by omega
        go_wp2_with fail
        refine (HG.out.s1 n (by omega) _).mono ?_
        rintro e w8 ⟨rfl, hb8⟩
        have HB8 := hide (HB4.out.trans (hb8.mono HB4.out.size))
        clear hb8 HB4
        go_upto_region 27 with fail
        have c8 : (w8.alloc (.cells #[.bool false, .bool false, .string ⟨#[]⟩, .string ⟨#[]⟩, .bool false, .int .i64 0] 34)).cell? ⟨w8.heap.size, 5, none⟩ = some (.int .i64 0) := by simp
        have z8 : w8.heap.size < (w8.alloc (.cells #[.bool false, .bool false, .string ⟨#[]⟩, .string ⟨#[]⟩, .bool false, .int .i64 0] 34)).heap.size := by simp
        have HB9 := hide (HB8.out.alloc HB8.out.size (.cells #[.bool false, .bool false, .string ⟨#[]⟩, .string ⟨#[]⟩, .bool false, .int .i64 0] 34))
        clear HB8
        generalize w8.alloc (.cells #[.bool false, .bool false, .string ⟨#[]⟩, .string ⟨#[]⟩, .bool false, .int .i64 0] 34) = w9 at *
        go_wp2_with fail
        refine (HG.out.s2 n (by omega) _).mono ?_
        rintro e w10 ⟨rfl, hb10⟩
        have c10 := (hb10.cell (p := ⟨w8.heap.size, 5, none⟩) z8).trans c8
        have HB10 := hide (HB9.out.trans (hb10.mono HB9.out.size))
        clear hb10 HB9 c8 z8
        go_upto_region 28 with fail
        have d10 := cellA (ob := .cells #[.bool false, .bool false, .string ⟨#[]⟩, .string ⟨#[]⟩, .bool false, .int .i64 0] 34) c10
        have d11 : (w10.alloc (.cells #[.bool false, .bool false, .string ⟨#[]⟩, .string ⟨#[]⟩, .bool false, .int .i64 0] 34)).cell? ⟨w10.heap.size, 5, none⟩ = some (.int .i64 0) := by simp
        have HB11 := hide (HB10.out.alloc HB10.out.size (.cells #[.bool false, .bool false, .string ⟨#[]⟩, .string ⟨#[]⟩, .bool false, .int .i64 0] 34))
        clear HB10 c10
        generalize w10.alloc (.cells #[.bool false, .bool false, .string ⟨#[]⟩, .string ⟨#[]⟩, .bool false, .int .i64 0] 34) = w11 at *
        go_wp2_with fail
        go_ret
        exact ⟨rfl, HB11.out⟩

end Go.Proofs.YtmfcpbhdggonfabGreatDoor
