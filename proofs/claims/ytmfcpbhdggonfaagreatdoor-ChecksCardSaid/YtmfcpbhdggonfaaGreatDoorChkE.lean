/- Contracts of the program's package check: the counts; the first name too many. -/
import Derived.Test.YtmfcpbhdggonfaaGreatDoorChkD
namespace Go.Proofs.YtmfcpbhdggonfaaGreatDoor
open Go.RowKit RR

/-- Of what there was, block B alone may have turned; no block is new. -/
structure Only (B : Nat) (w w' : World) : Prop where
  os : w'.os = w.os
  tape : w'.tape = w.tape
  output : w'.output = w.output
  size : w'.heap.size = w.heap.size
  block : ∀ k, k ≠ B → w'.heap[k]? = w.heap[k]?

theorem Only.refl (B : Nat) (w : World) : Only B w w := ⟨rfl, rfl, rfl, rfl, fun _ _ => rfl⟩
theorem Only.set {B : Nat} {a w : World} (h : Only B a w) (o : Nat) (v : Value) : Only B a (w.setCell ⟨B, o, none⟩ v) :=
  ⟨h.os, h.tape, h.output, by rw [← h.size]; simp [World.setCell], fun k hk => (Below.heap_setCell w ⟨B, o, none⟩ v k hk).trans (h.block k hk)⟩
theorem Only.cell {B : Nat} {w w' : World} (h : Only B w w') {p : Addr} (hp : p.block ≠ B) : w'.cell? p = w.cell? p := World.cell?_of_block (w := w) (h.block p.block hp)
theorem Only.below {B : Nat} {w w' : World} (h : Only B w w') : Below B w w' := ⟨h.os, h.tape, h.output, Nat.le_of_eq h.size.symm, fun k hk => h.block k (by omega)⟩

theorem cts_set {w : World} {B : Nat} {cs : Array Value} {T : TypeId} (h : w.heap[B]? = some (.cells cs T (0, 0))) (o : Nat) (v : Value) : (w.setCell ⟨B, o, none⟩ v).heap[B]? = some (.cells (cs.setIfInBounds o v) T (0, 0)) := by
  simp only [World.setCell, Array.getElem?_modify]
  rw [if_pos trivial, h]
  rfl

set_option maxRecDepth 100000 in
set_option maxHeartbeats 1000000 in
theorem c_add (w : World) (B : Nat) (c : Cts) (r : Nat) (h : CtsAt w B c) (hb : c.sh ≤ 1000 ∧ c.lo ≤ 1000 ∧ c.pr ≤ 1000 ∧ c.pa ≤ 1000 ∧ c.th ≤ 1000) :
    Calls Tryz.prog 183 #[.pointer (some ⟨B, 0, none⟩), .int .i64 r] w fun e w' => e = .returned (.tuple #[]) ∧ CtsAt w' B (c.add r) ∧ Only B w w' := by
  obtain ⟨b0, b1, b2, b3, b4⟩ := hb
  obtain ⟨c0, c1, c2, c3, c4, hf⟩ := h.cells
  have f0 := hf 0
  have f1 := hf 1
  have f2 := hf 2
  have f3 := hf 3
  have f4 := hf 4
  clear hf
  by_cases h0 : r = 0
  · have e0 : ((r : Int) == 0) = true := beq_iff_eq.2 (by omega)
    have HE : Hid (c.add r = { c with sh := c.sh + 1 }) := by show _ = _; unfold Cts.add; rw [if_pos h0]
    have H := hide h
    clear h h0
    go_enter Tryz.func183, Tryz.ntmps183
    go_wp2_with fail
    go_end0
    refine ⟨rfl, ?_, (Only.refl _ _).set _ _⟩
    rw [HE.out]
    exact cts_set H.out 0 _
  by_cases h1 : r = 1
  · have e1 : ((r : Int) == 1) = true := beq_iff_eq.2 (by omega)
    have e0 : ((r : Int) == 0) = false := beq_eq_false_iff_ne.2 (by omega)
    have HE : Hid (c.add r = { c with lo := c.lo + 1 }) := by show _ = _; unfold Cts.add; rw [if_neg h0, if_pos h1]
    have H := hide h
    clear h h0 h1
    go_enter Tryz.func183, Tryz.ntmps183
    go_wp2_with fail
    go_end0
    refine ⟨rfl, ?_, (Only.refl _ _).set _ _⟩
    rw [HE.out]
    exact cts_set H.out 1 _
  by_cases h2 : r = 2
  · have e2 : ((r : Int) == 2) = true := beq_iff_eq.2 (by omega)
    have e0 : ((r : Int) == 0) = false := beq_eq_false_iff_ne.2 (by omega)
    have e1 : ((r : Int) == 1) = false := beq_eq_false_iff_ne.2 (by omega)
    have HE : Hid (c.add r = { c with pr := c.pr + 1, pa := 0 }) := by show _ = _; unfold Cts.add; rw [if_neg h0, if_neg h1, if_pos h2]
    have H := hide h
    clear h h0 h1 h2
    go_enter Tryz.func183, Tryz.ntmps183
    go_wp2_with fail
    go_end0
    refine ⟨rfl, ?_, ((Only.refl _ _).set _ _).set _ _⟩
    rw [HE.out]
    exact cts_set (cts_set H.out 2 _) 3 _
  by_cases h3 : r = 3
  · have e3 : ((r : Int) == 3) = true := beq_iff_eq.2 (by omega)
    have e0 : ((r : Int) == 0) = false := beq_eq_false_iff_ne.2 (by omega)
    have e1 : ((r : Int) == 1) = false := beq_eq_false_iff_ne.2 (by omega)
    have e2 : ((r : Int) == 2) = false := beq_eq_false_iff_ne.2 (by omega)
    have HE : Hid (c.add r = { c with pa := c.pa + 1 }) := by show _ = _; unfold Cts.add; rw [if_neg h0, if_neg h1, if_neg h2, if_pos h3]
    have H := hide h
    clear h h0 h1 h2 h3
    go_enter Tryz.func183, Tryz.ntmps183
    go_wp2_with fail
    go_end0
    refine ⟨rfl, ?_, (Only.refl _ _).set _ _⟩
    rw [HE.out]
    exact cts_set H.out 3 _
  by_cases h7 : r = 7
  · have e7 : ((r : Int) == 7) = true := beq_iff_eq.2 (by omega)
    have e0 : ((r : Int) == 0) = false := beq_eq_false_iff_ne.2 (by omega)
    have e1 : ((r : Int) == 1) = false := beq_eq_false_iff_ne.2 (by omega)
    have e2 : ((r : Int) == 2) = false := beq_eq_false_iff_ne.2 (by omega)
    have e3 : ((r : Int) == 3) = false := beq_eq_false_iff_ne.2 (by omega)
    have HE : Hid (c.add r = { c with th := c.th + 1 }) := by show _ = _; unfold Cts.add; rw [if_neg h0, if_neg h1, if_neg h2, if_neg h3, if_pos h7]
    have H := hide h
    clear h h0 h1 h2 h3 h7
    go_enter Tryz.func183, Tryz.ntmps183
    go_wp2_with fail
    go_end0
    refine ⟨rfl, ?_, (Only.refl _ _).set _ _⟩
    rw [HE.out]
    exact cts_set H.out 4 _
  have e0 : ((r : Int) == 0) = false := beq_eq_false_iff_ne.2 (by omega)
  have e1 : ((r : Int) == 1) = false := beq_eq_false_iff_ne.2 (by omega)
  have e2 : ((r : Int) == 2) = false := beq_eq_false_iff_ne.2 (by omega)
  have e3 : ((r : Int) == 3) = false := beq_eq_false_iff_ne.2 (by omega)
  have e7 : ((r : Int) == 7) = false := beq_eq_false_iff_ne.2 (by omega)
  have HE : Hid (c.add r = c) := by show _ = _; unfold Cts.add; rw [if_neg h0, if_neg h1, if_neg h2, if_neg h3, if_neg h7]
  have H := hide h
  clear h h0 h1 h2 h3 h7
  go_enter Tryz.func183, Tryz.ntmps183
  go_wp2_with fail
  go_end0
  exact ⟨rfl, by rw [HE.out]; exact H.out, Only.refl _ _⟩

theorem add_le (c : Cts) (r k : Nat) (h : c.sh ≤ k ∧ c.lo ≤ k ∧ c.pr ≤ k ∧ c.pa ≤ k ∧ c.th ≤ k) : (c.add r).sh ≤ k + 1 ∧ (c.add r).lo ≤ k + 1 ∧ (c.add r).pr ≤ k + 1 ∧ (c.add r).pa ≤ k + 1 ∧ (c.add r).th ≤ k + 1 := by
  unfold Cts.add
  (repeat' split) <;> (try dsimp only) <;> omega

set_option maxRecDepth 100000 in
set_option maxHeartbeats 1000000 in
theorem c_firstTooMany (ao : Option Addr) (cap : Nat) (l : List Nm) (w : World) (hl : l.length ≤ 999) (hi : NmSl w ao l) :
    Calls Tryz.prog 137 #[.slice ao l.length cap] w fun e w' => e = .returned (optOut (manyP l)) ∧ Below w.heap.size w w' := by
  go_enter Tryz.func137, Tryz.ntmps137
  go_wp2
  go_loopw [9] (fun u wr => ∃ (k : Nat) (c : Cts), u = .int .i64 k ∧ k ≤ l.length ∧ manyF2 (l.drop k) c = manyP l ∧ (c.sh ≤ k ∧ c.lo ≤ k ∧ c.pr ≤ k ∧ c.pa ≤ k ∧ c.th ≤ k) ∧ CtsAt wr w.heap.size c ∧ w.heap.size < wr.heap.size ∧ Below w.heap.size w wr) (fun u _ => l.length - (intOf u).toNat)
  case atStart => exact ⟨0, ⟨0, 0, 0, 0, 0⟩, rfl, Nat.zero_le _, rfl, by simp, heap_alloc_new w _, by simp, (Below.refl _ _).alloc (Nat.le_refl _) _⟩
  case round =>
    obtain ⟨k, c, rfl, hk, hn, hcb, hct, hsz, hbel⟩ := hrel
    have HN := hide hn
    clear hn
    by_cases hlt : k < l.length
    · have hsl := hi.below hbel
      obtain ⟨b, o, hb, hao, c1, c2, c3, c4⟩ := hsl k hlt
      subst hao
      have HD : Hid (l.drop k = l[k] :: l.drop (k + 1)) := List.drop_eq_getElem_cons hlt
      have hct1 : ∀ ob, CtsAt (wr.alloc ob) w.heap.size c := fun ob => (Below.heap_alloc wr ob _ hsz).trans hct
      have hle := add_le c l[k].role k hcb
      cases hT : (c.add l[k].role).too
      · have HE : Hid (manyF2 (l.drop k) c = manyF2 (l.drop (k + 1)) (c.add l[k].role)) := by show _ = _; rw [HD.out, manyF2, hT]; rfl
        go_wp2_with fail
        refine (c_add _ _ c _ (hct1 _) (by omega)).mono ?_
        rintro e w1 ⟨rfl, hc1, ho1⟩
        go_wp2_with fail
        refine (c_tooMany _ _ _ hc1).mono ?_
        rintro e w2 ⟨rfl, hw2⟩
        subst hw2
        go_wp2_with fail
        go_roundw
        case rel => exact ⟨k + 1, c.add l[k].role, by go_num, by omega, by rw [← HN.out, HE.out], hle, hc1, by rw [ho1.size]; simp; omega, (hbel.alloc hbel.size _).trans ho1.below⟩
        case measure => simp [intOf]; omega
      · have HE : Hid (manyF2 (l.drop k) c = some l[k].at_) := by show _ = _; rw [HD.out, manyF2, hT]; rfl
        go_wp2_with fail
        refine (c_add _ _ c _ (hct1 _) (by omega)).mono ?_
        rintro e w1 ⟨rfl, hc1, ho1⟩
        have hcl := ho1.cell (p := ⟨wr.heap.size, 1, none⟩) (by show wr.heap.size ≠ w.heap.size; omega)
        simp at hcl
        go_wp2_with fail
        refine (c_tooMany _ _ _ hc1).mono ?_
        rintro e w2 ⟨rfl, hw2⟩
        subst hw2
        go_wp2_with fail
        go_ret2
        exact ⟨by rw [← HN.out, HE.out]; rfl, (hbel.alloc hbel.size _).trans ho1.below⟩
    · go_wp2
      go_ret2
      exact ⟨by rw [← HN.out, List.drop_of_length_le (by omega)]; rfl, hbel⟩

end Go.Proofs.YtmfcpbhdggonfaaGreatDoor
