/- Contract of the law's walk over a script: every step of the kinds asked for is as it should be, so the walk answers true. -/
import Derived.Test.YtmfcpbhdggonfaaGreatDoorHide
namespace Go.Proofs.YtmfcpbhdggonfaaGreatDoor
open Go.RowKit

/-- A step of a script, as plain data. -/
structure OpV where
  kind : Int
  a : Int
  b : Int
  s : ByteArray
  t : ByteArray

/-- The value that a step is. -/
def OpV.val (o : OpV) : Value := .agg #[.int .i64 o.kind, .int .i64 o.a, .int .i64 o.b, .string o.s, .string o.t]

/-- A script lies in memory. -/
def OpSl (w : World) (ao : Option Addr) (l : List OpV) : Prop := ∀ i, (h : i < l.length) → ∃ b o, b < w.heap.size ∧ ao = some ⟨b, o, none⟩ ∧ w.cell? ⟨b, o + i * 5, none⟩ = some (.int .i64 l[i].kind) ∧ w.cell? ⟨b, o + i * 5 + 1, none⟩ = some (.int .i64 l[i].a) ∧ w.cell? ⟨b, o + i * 5 + 2, none⟩ = some (.int .i64 l[i].b) ∧ w.cell? ⟨b, o + i * 5 + 3, none⟩ = some (.string l[i].s) ∧ w.cell? ⟨b, o + i * 5 + 4, none⟩ = some (.string l[i].t)

theorem OpSl.below {w w' : World} {ao : Option Addr} {l : List OpV} (h : OpSl w ao l) (hb : Below w.heap.size w w') : OpSl w' ao l := fun i hi => by
  obtain ⟨b, o, h1, h2, h3, h4, h5, h6, h7⟩ := h i hi
  exact ⟨b, o, Nat.lt_of_lt_of_le h1 hb.size, h2, (hb.cell (p := ⟨b, o + i * 5, none⟩) h1).trans h3, (hb.cell (p := ⟨b, o + i * 5 + 1, none⟩) h1).trans h4, (hb.cell (p := ⟨b, o + i * 5 + 2, none⟩) h1).trans h5, (hb.cell (p := ⟨b, o + i * 5 + 3, none⟩) h1).trans h6, (hb.cell (p := ⟨b, o + i * 5 + 4, none⟩) h1).trans h7⟩

set_option maxRecDepth 100000 in
set_option maxHeartbeats 2000000 in
theorem l_plays (ao : Option Addr) (cap : Nat) (l : List OpV) (lo hi : Int) (w : World) (hl : l.length ≤ 9223372036854775807) (hi0 : OpSl w ao l)
    (hs : Hid (∀ k, (h : k < l.length) → lo ≤ l[k].kind → l[k].kind ≤ hi → ∀ w, Calls Tryz.prog 16 #[l[k].val] w fun e w' => e = .returned (.bool true) ∧ Below w.heap.size w w')) :
    Calls Tryz.prog 15 #[.slice ao l.length cap, .int .i64 lo, .int .i64 hi] w fun e w' => e = .returned (.bool true) ∧ Below w.heap.size w w' := by
  go_enter Tryz.func15, Tryz.ntmps15
  go_wp2
  go_loopw [7] (fun u wr => ∃ k : Nat, u = .int .i64 k ∧ k ≤ l.length ∧ Below w.heap.size w wr) (fun u _ => l.length - (intOf u).toNat)
  case atStart => exact ⟨0, rfl, Nat.zero_le _, Below.refl _ _⟩
  case round =>
    obtain ⟨k, rfl, hk, hb⟩ := hrel
    have HB := hide hb
    by_cases hlt : k < l.length
    · obtain ⟨b, o, hb1, hao, c1, c2, c3, c4, c5⟩ := (hi0.below hb) k hlt
      subst hao
      clear hb
      by_cases e1 : lo ≤ l[k].kind
      · by_cases e2 : l[k].kind ≤ hi
        · have HS := hide (hs.out k hlt e1 e2)
          unfold OpV.val at HS
          go_wp2_with fail
          refine (HS.out _).mono ?_
          rintro e w1 ⟨rfl, hb2⟩
          have HB2 := hide (HB.out.trans (hb2.mono HB.out.size))
          clear hb2 HS
          go_wp2_with fail
          go_roundw
          case rel => exact ⟨k + 1, by go_num, by omega, HB2.out⟩
          case measure => simp [intOf]; omega
        · go_wp2_with fail
          go_roundw
          case rel => exact ⟨k + 1, by go_num, by omega, HB.out⟩
          case measure => simp [intOf]; omega
      · go_wp2_with fail
        go_roundw
        case rel => exact ⟨k + 1, by go_num, by omega, HB.out⟩
        case measure => simp [intOf]; omega
    · go_wp2_with fail
      go_ret
      exact ⟨rfl, HB.out⟩

end Go.Proofs.YtmfcpbhdggonfaaGreatDoor
