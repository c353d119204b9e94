/- Contracts of the program's parser: its small steps. -/
import Derived.Test.YtlpmkpjhdahfhaaGreatDoorTokB
import Derived.Test.YtlpmkpjhdahfhaaGreatDoorChkF
import Derived.Test.YtlpmkpjhdahfhaaGreatDoorParse
namespace Go.Proofs.YtlpmkpjhdahfhaaGreatDoor
open Go.RowKit RR

/-- A slice of the program's tokens. -/
def Tok3 (w : World) (B : Nat) (ao : Option Addr) (L : List Tk) : Prop := ∀ i, (h : i < L.length) → ∃ b o, b < B ∧ ao = some ⟨b, o, none⟩ ∧ w.cell? ⟨b, o + i * 3, none⟩ = some (.string L[i].t) ∧ w.cell? ⟨b, o + i * 3 + 1, none⟩ = some (.int .i64 L[i].p) ∧ w.cell? ⟨b, o + i * 3 + 2, none⟩ = some (.bool (isNameB L[i].t))

theorem Tok3.below {w w' : World} {B : Nat} {ao : Option Addr} {L : List Tk} (h : Tok3 w B ao L) (hb : Below B w w') : Tok3 w' B ao L := fun i hi => by
  obtain ⟨b, o, h1, h2, h3, h4, h5⟩ := h i hi
  exact ⟨b, o, h1, h2, (hb.cell (p := ⟨b, o + i * 3, none⟩) h1).trans h3, (hb.cell (p := ⟨b, o + i * 3 + 1, none⟩) h1).trans h4, (hb.cell (p := ⟨b, o + i * 3 + 2, none⟩) h1).trans h5⟩

def nms : List Nm → List Value
  | [] => []
  | n :: r => .string n.word :: .int .i64 n.at_ :: .int .i64 n.role :: .int .i64 n.proc :: nms r
def cls : List Cl → List Value
  | [] => []
  | n :: r => .string n.word :: .int .i64 n.at_ :: .int .i64 n.values :: cls r

/-- The parser in memory. -/
structure PS (B : Nat) (ao : Option Addr) (cap : Nat) (L : List Tk) (σ : PSt) (vN vC : Value) (w : World) : Prop where
  blk : w.heap[B]? = some (.cells #[.slice ao L.length cap, .int .i64 σ.next, .int .i64 σ.depth, .int .i64 σ.proc, .bool σ.failed, vN, vC] 119 (0, 0))
  tok : Tok3 w B ao L
  nm : w.ownsRow (B + 1) 138 4 vN σ.names.length (nms σ.names)
  cl : w.ownsRow (B + 1) 143 3 vC σ.calls.length (cls σ.calls)
  le : σ.next ≤ L.length
  inv : Inv σ

/-- Of what there was, only the parser, names and calls may have turned. -/
structure Kp (B : Nat) (w w' : World) : Prop where
  bel : Below B w w'
  keep : ∀ (k : Nat) (c : Array Value) (T : TypeId) (f : Nat × Nat), w.heap[k]? = some (Obj.cells c T f) → T ≠ 119 → T ≠ 138 → T ≠ 143 → w'.heap[k]? = some (Obj.cells c T f)

theorem Kp.refl (B : Nat) (w : World) : Kp B w w := ⟨Below.refl _ _, fun _ _ _ _ h _ _ _ => h⟩
theorem Kp.trans {B : Nat} {a b c : World} (h : Kp B a b) (k : Kp B b c) : Kp B a c := ⟨h.bel.trans k.bel, fun n x T f h0 h1 h2 h3 => k.keep n x T f (h.keep n x T f h0 h1 h2 h3) h1 h2 h3⟩
theorem Kp.of_below {B : Nat} {w w' : World} (h : Below w.heap.size w w') (hB : B ≤ w.heap.size) : Kp B w w' :=
  ⟨h.mono hB, fun k _ _ _ h0 _ _ _ => (h.block k (Array.getElem?_eq_some_iff.1 h0).1).trans h0⟩

theorem PS.lt {B : Nat} {ao : Option Addr} {cap : Nat} {L : List Tk} {σ : PSt} {vN vC : Value} {w : World} (h : PS B ao cap L σ vN vC w) : B < w.heap.size := (Array.getElem?_eq_some_iff.1 h.blk).1
theorem PS.below {B : Nat} {ao : Option Addr} {cap : Nat} {L : List Tk} {σ : PSt} {vN vC : Value} {w w' : World} (h : PS B ao cap L σ vN vC w) (hb : Below w.heap.size w w') : PS B ao cap L σ vN vC w' :=
  ⟨(hb.block B h.lt).trans h.blk, h.tok.below (hb.mono (Nat.le_of_lt h.lt)), owns_below h.nm hb, owns_below h.cl hb, h.le, h.inv⟩

theorem PS.cells {B : Nat} {ao : Option Addr} {cap : Nat} {L : List Tk} {σ : PSt} {vN vC : Value} {w : World} (h : PS B ao cap L σ vN vC w) : w.cell? ⟨B, 0, none⟩ = some (.slice ao L.length cap) ∧ w.cell? ⟨B, 1, none⟩ = some (.int .i64 σ.next) ∧ w.cell? ⟨B, 2, none⟩ = some (.int .i64 σ.depth) ∧ w.cell? ⟨B, 3, none⟩ = some (.int .i64 σ.proc) ∧ w.cell? ⟨B, 4, none⟩ = some (.bool σ.failed) ∧ w.cell? ⟨B, 5, none⟩ = some vN ∧ w.cell? ⟨B, 6, none⟩ = some vC ∧ (∀ i, w.frozen? ⟨B, i, none⟩ = false) := by
  have hh := h.blk
  refine ⟨?_, ?_, ?_, ?_, ?_, ?_, ?_, fun i => ?_⟩ <;> simp [World.cell?, World.frozen?, hh]

set_option maxRecDepth 100000 in
set_option maxHeartbeats 1000000 in
theorem s_ahead {B : Nat} {ao : Option Addr} {cap : Nat} {L : List Tk} {σ : PSt} {vN vC : Value} (n : Nat) (w : World) (hL : L.length ≤ 500) (hn : n ≤ 1) (h : PS B ao cap L σ vN vC w) :
    Calls Tryz.prog 109 #[.pointer (some ⟨B, 0, none⟩), .int .i64 n] w fun e w' => e = .returned (.agg #[.string (σ.ahead L n).t, .int .i64 (σ.ahead L n).p, .bool (isNameB (σ.ahead L n).t)]) ∧ Below w.heap.size w w' := by
  obtain ⟨c0, c1, c2, c3, c4, c5, c6, hf⟩ := h.cells
  have hle := h.le
  have hlt := h.lt
  have he : isNameB (⟨#[]⟩ : ByteArray) = false := isName_empty rfl
  cases hfl : σ.failed
  · rw [hfl] at c4
    by_cases h2 : σ.next + n < L.length
    · obtain ⟨b, o, hb, hao, t1, t2, t3⟩ := h.tok (σ.next + n) h2
      subst hao
      have HA := hide (ahead_in hfl h2)
      have g2 : (σ.next : Int) + n < L.length := by omega
      have hbw : b < w.heap.size := by omega
      clear h hf
      go_enter Tryz.func109, Tryz.ntmps109
      go_wp2_with fail
      exact bodyPost_ret (v := .agg #[.string L[σ.next + n].t, .int .i64 L[σ.next + n].p, .bool (isNameB L[σ.next + n].t)]) (by simp [results, Tryz.results109, go_sem]) rfl ⟨by rw [HA.out], (Below.refl _ _).alloc (Nat.le_refl _) _⟩
    · have HA := hide (ahead_out (σ := σ) h2)
      have g2 : (L.length : Int) ≤ (σ.next : Int) + n := by omega
      clear h hf
      go_enter Tryz.func109, Tryz.ntmps109
      go_wp2_with fail
      exact bodyPost_ret (v := .agg #[.string ⟨#[]⟩, .int .i64 0, .bool false]) (by simp [results, Tryz.results109, go_sem]) rfl ⟨by rw [HA.out]; show _ = Ending.returned (.agg #[.string ⟨#[]⟩, .int .i64 ((0 : Nat) : Int), .bool (isNameB ⟨#[]⟩)]); rw [he]; rfl, (Below.refl _ _).alloc (Nat.le_refl _) _⟩
  · rw [hfl] at c4
    have HA := hide (ahead_failed (L := L) (n := n) hfl)
    clear h hf
    go_enter Tryz.func109, Tryz.ntmps109
    go_wp2_with fail
    exact bodyPost_ret (v := .agg #[.string ⟨#[]⟩, .int .i64 0, .bool false]) (by simp [results, Tryz.results109, go_sem]) rfl ⟨by rw [HA.out]; show _ = Ending.returned (.agg #[.string ⟨#[]⟩, .int .i64 ((0 : Nat) : Int), .bool (isNameB ⟨#[]⟩)]); rw [he]; rfl, (Below.refl _ _).alloc (Nat.le_refl _) _⟩

set_option maxHeartbeats 1000000 in
theorem s_sees {B : Nat} {ao : Option Addr} {cap : Nat} {L : List Tk} {σ : PSt} {vN vC : Value} (t : ByteArray) (w : World) (hL : L.length ≤ 500) (h : PS B ao cap L σ vN vC w) :
    Calls Tryz.prog 92 #[.pointer (some ⟨B, 0, none⟩), .string t] w fun e w' => e = .returned (.bool (σ.sees L t)) ∧ Below w.heap.size w w' := by
  have HS : Hid (σ.sees L t = ((σ.ahead L 0).t.toList == t.toList)) := by show _ = _; unfold PSt.sees; rw [seq_comm]
  go_enter Tryz.func92, Tryz.ntmps92
  go_wp2_with fail
  refine (s_ahead 0 _ hL (by omega) h).mono ?_
  rintro e w1 ⟨rfl, hb1⟩
  go_wp2_with fail
  go_ret
  exact ⟨ret_bool HS.out.symm, hb1.alloc hb1.size _⟩

set_option maxHeartbeats 1000000 in
theorem s_seesCall {B : Nat} {ao : Option Addr} {cap : Nat} {L : List Tk} {σ : PSt} {vN vC : Value} (w : World) (hL : L.length ≤ 500) (h : PS B ao cap L σ vN vC w) :
    Calls Tryz.prog 131 #[.pointer (some ⟨B, 0, none⟩)] w fun e w' => e = .returned (.bool (σ.seesCall L)) ∧ Below w.heap.size w w' := by
  have HS : Hid (σ.seesCall L = (isNameB (σ.ahead L 0).t && ((σ.ahead L 1).t.toList == [40]))) := by show _ = _; unfold PSt.seesCall; rw [lit_eq _ _ _ l40]
  go_enter Tryz.func131, Tryz.ntmps131
  go_wp2_with fail
  refine (s_ahead 0 _ hL (by omega) h).mono ?_
  rintro e w1 ⟨rfl, hb1⟩
  have hb1' : ∀ ob, Below w.heap.size w (w1.alloc ob) := fun ob => hb1.alloc hb1.size ob
  have hz1 := hb1.size
  go_wp2_with fail
  refine (s_ahead 1 _ hL (by omega) (h.below (hb1' _))).mono ?_
  rintro e w2 ⟨rfl, hb2⟩
  have hx := (hb2.cell (p := ⟨w1.heap.size, 2, none⟩) (by simp))
  have hz2 := hb2.size
  simp at hx hz2
  have hz3 : w1.heap.size < w2.heap.size := by omega
  have hbel := (hb1' _).trans (hb2.mono (by simp; omega))
  clear hb1'
  cases hN : isNameB (σ.ahead L 0).t
  · rw [hN] at hx
    go_wp2_with fail
    go_ret
    exact ⟨ret_bool (by rw [HS.out, hN]; rfl), hbel.alloc hbel.size _⟩
  · rw [hN] at hx
    go_wp2_with fail
    go_ret
    exact ⟨ret_bool (by rw [HS.out, hN]; rfl), hbel.alloc hbel.size _⟩

/-- A store into one of the parser's plain fields. -/
theorem ps_set {B : Nat} {ao : Option Addr} {cap : Nat} {L : List Tk} {σ σ' : PSt} {vN vC : Value} {w : World} (h : PS B ao cap L σ vN vC w) (i : Nat) (v : Value)
    (hb : (#[.slice ao L.length cap, .int .i64 σ.next, .int .i64 σ.depth, .int .i64 σ.proc, .bool σ.failed, vN, vC] : Array Value).setIfInBounds i v = #[.slice ao L.length cap, .int .i64 σ'.next, .int .i64 σ'.depth, .int .i64 σ'.proc, .bool σ'.failed, vN, vC])
    (hn : σ'.names = σ.names) (hc : σ'.calls = σ.calls) (hle : σ'.next ≤ L.length) (hinv : Inv σ') : PS B ao cap L σ' vN vC (w.setCell ⟨B, i, none⟩ v) ∧ Kp B w (w.setCell ⟨B, i, none⟩ v) := by
  have hbel : Below B w (w.setCell ⟨B, i, none⟩ v) := (Below.refl _ _).setCell (p := ⟨B, i, none⟩) (Nat.le_refl B) _
  refine ⟨⟨?_, h.tok.below hbel, ?_, ?_, hle, hinv⟩, hbel, ?_⟩
  · rw [cts_set h.blk i v, hb]
  · rw [hn]; exact ownsRow_setCell_below h.nm (Nat.lt_succ_self B) v
  · rw [hc]; exact ownsRow_setCell_below h.cl (Nat.lt_succ_self B) v
  · intro k c T f hk h1 _ _
    have hne : k ≠ B := by
      intro e
      subst e
      rw [h.blk] at hk
      simp at hk
      exact h1 hk.2.1.symm
    rw [Below.heap_setCell w ⟨B, i, none⟩ v k hne]; exact hk

theorem ps_fail {B : Nat} {ao : Option Addr} {cap : Nat} {L : List Tk} {σ : PSt} {vN vC : Value} {w : World} (h : PS B ao cap L σ vN vC w) : PS B ao cap L σ.fail vN vC (w.setCell ⟨B, 4, none⟩ (.bool true)) ∧ Kp B w (w.setCell ⟨B, 4, none⟩ (.bool true)) :=
  ps_set h 4 _ rfl rfl rfl h.le (inv_fail h.inv)
theorem ps_step {B : Nat} {ao : Option Addr} {cap : Nat} {L : List Tk} {σ : PSt} {vN vC : Value} {w : World} (h : PS B ao cap L σ vN vC w) (hlt : σ.next < L.length) : PS B ao cap L σ.step vN vC (w.setCell ⟨B, 1, none⟩ (.int .i64 ((σ.next : Int) + 1))) ∧ Kp B w (w.setCell ⟨B, 1, none⟩ (.int .i64 ((σ.next : Int) + 1))) :=
  ps_set h 1 _ rfl rfl rfl hlt (inv_step h.inv)

set_option maxHeartbeats 1000000 in
theorem s_take {B : Nat} {ao : Option Addr} {cap : Nat} {L : List Tk} {σ : PSt} {vN vC : Value} (t : ByteArray) (w : World) (hL : L.length ≤ 500) (ht : t ≠ ⟨#[]⟩) (h : PS B ao cap L σ vN vC w) :
    Calls Tryz.prog 90 #[.pointer (some ⟨B, 0, none⟩), .string t] w fun e w' => e = .returned (.tuple #[]) ∧ PS B ao cap L (σ.take L t) vN vC w' ∧ Kp B w w' := by
  have hle := h.le
  have hlt := h.lt
  cases hs : σ.sees L t
  · have HT : Hid (σ.take L t = σ.fail) := by show _ = _; unfold PSt.take; rw [hs]; rfl
    go_enter Tryz.func90, Tryz.ntmps90
    go_wp2_with fail
    refine (s_sees t _ hL h).mono ?_
    rintro e w1 ⟨rfl, hb1⟩
    have h1 := h.below hb1
    obtain ⟨c0, c1, c2, c3, c4, c5, c6, hf⟩ := h1.cells
    have f4 := hf 4
    clear hf
    go_wp2_with fail
    exact bodyPost_ret (v := .tuple #[]) (by simp [results, Tryz.results90, go_sem]) rfl ⟨rfl, by rw [HT.out]; exact (ps_fail h1).1, (Kp.of_below hb1 (Nat.le_of_lt hlt)).trans (ps_fail h1).2⟩
  · have HT : Hid (σ.take L t = σ.step) := by show _ = _; unfold PSt.take; rw [hs]; rfl
    have hnx := (sees_lt ht hs).1
    go_enter Tryz.func90, Tryz.ntmps90
    go_wp2_with fail
    refine (s_sees t _ hL h).mono ?_
    rintro e w1 ⟨rfl, hb1⟩
    have h1 := h.below hb1
    obtain ⟨c0, c1, c2, c3, c4, c5, c6, hf⟩ := h1.cells
    have f1 := hf 1
    clear hf
    go_wp2_with fail
    go_end0
    exact ⟨rfl, by rw [HT.out]; exact (ps_step h1 hnx).1, (Kp.of_below hb1 (Nat.le_of_lt hlt)).trans (ps_step h1 hnx).2⟩

set_option maxHeartbeats 1000000 in
theorem s_accept {B : Nat} {ao : Option Addr} {cap : Nat} {L : List Tk} {σ : PSt} {vN vC : Value} (t : ByteArray) (w : World) (hL : L.length ≤ 500) (ht : t ≠ ⟨#[]⟩) (h : PS B ao cap L σ vN vC w) :
    Calls Tryz.prog 88 #[.pointer (some ⟨B, 0, none⟩), .string t] w fun e w' => e = .returned (.bool (σ.sees L t)) ∧ PS B ao cap L (if σ.sees L t then σ.step else σ) vN vC w' ∧ Kp B w w' := by
  have hle := h.le
  have hlt := h.lt
  cases hs : σ.sees L t
  · go_enter Tryz.func88, Tryz.ntmps88
    go_wp2_with fail
    refine (s_sees t _ hL h).mono ?_
    rintro e w1 ⟨rfl, hb1⟩
    have h1 := h.below hb1
    go_wp2_with fail
    go_ret
    exact ⟨rfl, h1, Kp.of_below hb1 (Nat.le_of_lt hlt)⟩
  · have hnx := (sees_lt ht hs).1
    go_enter Tryz.func88, Tryz.ntmps88
    go_wp2_with fail
    refine (s_sees t _ hL h).mono ?_
    rintro e w1 ⟨rfl, hb1⟩
    have h1 := h.below hb1
    obtain ⟨c0, c1, c2, c3, c4, c5, c6, hf⟩ := h1.cells
    have f1 := hf 1
    clear hf
    go_wp2_with fail
    go_ret
    exact ⟨rfl, (ps_step h1 hnx).1, (Kp.of_below hb1 (Nat.le_of_lt hlt)).trans (ps_step h1 hnx).2⟩

end Go.Proofs.YtlpmkpjhdahfhaaGreatDoor
