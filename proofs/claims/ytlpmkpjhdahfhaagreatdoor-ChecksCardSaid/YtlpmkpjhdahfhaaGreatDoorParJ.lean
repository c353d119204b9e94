/- Contracts of the program: syntax.Read, check.Program, races.Check. -/
import Derived.Test.YtlpmkpjhdahfhaaGreatDoorParI
namespace Go.Proofs.YtlpmkpjhdahfhaaGreatDoor
open Go.RowKit RR

def start0 : PSt := ⟨0, 0, -1, false, [], []⟩

theorem tok3_of_owns {w : World} {base B : Nat} {v : Value} {L : List Tk} (h : w.ownsRow base 116 3 v L.length (toks3 L)) (hB : w.heap.size ≤ B) : ∃ ao cap, v = .slice ao L.length cap ∧ Tok3 w B ao L := by
  obtain ⟨h1, h2 | ⟨g, cap, cur, hv, hb, hh, hcap, hmax, hsz, htk⟩⟩ := h
  · refine ⟨none, 0, ?_, fun i hi => by omega⟩
    rw [h2.1, h2.2]
  · refine ⟨some ⟨g, 0, none⟩, cap, hv, fun i hi => ⟨g, 0, Nat.lt_of_lt_of_le (Array.getElem?_eq_some_iff.1 hh).1 hB, rfl, ?_⟩⟩
    have key : ∀ j, j < L.length * 3 → w.cell? ⟨g, 0 + j, none⟩ = (toks3 L)[j]? := by
      intro j hj
      have e2 : (cur.toList.take (L.length * 3))[j]? = (toks3 L)[j]? := by rw [htk]
      rw [List.getElem?_take_of_lt hj, Array.getElem?_toList] at e2
      simp only [World.cell?, hh, Nat.zero_add]
      exact e2
    have := toks3_get L i hi
    exact ⟨(key (i * 3) (by omega)).trans this.1, (key (i * 3 + 1) (by omega)).trans this.2.1, (key (i * 3 + 2) (by omega)).trans this.2.2⟩

theorem nms_get (a : List Nm) (i : Nat) (h : i < a.length) : (nms a)[i * 4]? = some (.string a[i].word) ∧ (nms a)[i * 4 + 1]? = some (.int .i64 a[i].at_) ∧ (nms a)[i * 4 + 2]? = some (.int .i64 a[i].role) ∧ (nms a)[i * 4 + 3]? = some (.int .i64 a[i].proc) := by
  induction a generalizing i with
  | nil => cases h
  | cons t r ih =>
    cases i with
    | zero => exact ⟨rfl, rfl, rfl, rfl⟩
    | succ k =>
      have := ih k (by simpa using h)
      rw [show (k + 1) * 4 = k * 4 + 1 + 1 + 1 + 1 from by omega]
      exact this
theorem cls_get (a : List Cl) (i : Nat) (h : i < a.length) : (cls a)[i * 3]? = some (.string a[i].word) ∧ (cls a)[i * 3 + 1]? = some (.int .i64 a[i].at_) ∧ (cls a)[i * 3 + 2]? = some (.int .i64 a[i].values) := by
  induction a generalizing i with
  | nil => cases h
  | cons t r ih =>
    cases i with
    | zero => exact ⟨rfl, rfl, rfl⟩
    | succ k =>
      have := ih k (by simpa using h)
      rw [show (k + 1) * 3 = k * 3 + 1 + 1 + 1 from by omega]
      exact this

theorem nmSl_of_owns {w : World} {base : Nat} {v : Value} {l : List Nm} (h : w.ownsRow base 138 4 v l.length (nms l)) : ∃ ao cap, v = .slice ao l.length cap ∧ NmSl w ao l := by
  obtain ⟨h1, h2 | ⟨g, cap, cur, hv, hb, hh, hcap, hmax, hsz, htk⟩⟩ := h
  · refine ⟨none, 0, ?_, fun i hi => by omega⟩
    rw [h2.1, h2.2]
  · refine ⟨some ⟨g, 0, none⟩, cap, hv, fun i hi => ⟨g, 0, (Array.getElem?_eq_some_iff.1 hh).1, rfl, ?_⟩⟩
    have key : ∀ j, j < l.length * 4 → w.cell? ⟨g, 0 + j, none⟩ = (nms l)[j]? := by
      intro j hj
      have e2 : (cur.toList.take (l.length * 4))[j]? = (nms l)[j]? := by rw [htk]
      rw [List.getElem?_take_of_lt hj, Array.getElem?_toList] at e2
      simp only [World.cell?, hh, Nat.zero_add]
      exact e2
    have := nms_get l i hi
    exact ⟨(key (i * 4) (by omega)).trans this.1, (key (i * 4 + 1) (by omega)).trans this.2.1, (key (i * 4 + 2) (by omega)).trans this.2.2.1, (key (i * 4 + 3) (by omega)).trans this.2.2.2⟩
theorem clSl_of_owns {w : World} {base : Nat} {v : Value} {l : List Cl} (h : w.ownsRow base 143 3 v l.length (cls l)) : ∃ ao cap, v = .slice ao l.length cap ∧ ClSl w ao l := by
  obtain ⟨h1, h2 | ⟨g, cap, cur, hv, hb, hh, hcap, hmax, hsz, htk⟩⟩ := h
  · refine ⟨none, 0, ?_, fun i hi => by omega⟩
    rw [h2.1, h2.2]
  · refine ⟨some ⟨g, 0, none⟩, cap, hv, fun i hi => ⟨g, 0, (Array.getElem?_eq_some_iff.1 hh).1, rfl, ?_⟩⟩
    have key : ∀ j, j < l.length * 3 → w.cell? ⟨g, 0 + j, none⟩ = (cls l)[j]? := by
      intro j hj
      have e2 : (cur.toList.take (l.length * 3))[j]? = (cls l)[j]? := by rw [htk]
      rw [List.getElem?_take_of_lt hj, Array.getElem?_toList] at e2
      simp only [World.cell?, hh, Nat.zero_add]
      exact e2
    have := cls_get l i hi
    exact ⟨(key (i * 3) (by omega)).trans this.1, (key (i * 3 + 1) (by omega)).trans this.2.1, (key (i * 3 + 2) (by omega)).trans this.2.2⟩

theorem two_set {w : World} {A : Nat} {u v x y : Value} {T : TypeId} (hA : w.heap[A]? = some (.cells #[u, v] T (0, 0))) : ((w.setCell ⟨A, 0, none⟩ x).setCell ⟨A, 1, none⟩ y).cell? ⟨A, 0, none⟩ = some x ∧ ((w.setCell ⟨A, 0, none⟩ x).setCell ⟨A, 1, none⟩ y).cell? ⟨A, 1, none⟩ = some y := by
  have h := cts_set (cts_set hA 0 x) 1 y
  constructor <;> simp [World.cell?, h]

theorem keepR {W : World} {A b q : Nat} {x y z : Value} {T : TypeId} (hc : W.cell? ⟨A + 1, 1, none⟩ = some x) (ht : W.cell? ⟨b, q, none⟩ = some y) (hA : W.heap[A]? = some (.cells #[z, z] T (0, 0))) (hn : b < A) :
    ((W.setCell ⟨A, 0, none⟩ z).setCell ⟨A, 1, none⟩ z).drew.cell? ⟨A + 1, 1, none⟩ = some x ∧ ((W.setCell ⟨A, 0, none⟩ z).setCell ⟨A, 1, none⟩ z).drew.cell? ⟨b, q, none⟩ = some y ∧ ((W.setCell ⟨A, 0, none⟩ z).setCell ⟨A, 1, none⟩ z).drew.cell? ⟨A, 0, none⟩ = some z ∧ ((W.setCell ⟨A, 0, none⟩ z).setCell ⟨A, 1, none⟩ z).drew.cell? ⟨A, 1, none⟩ = some z ∧ ((W.setCell ⟨A, 0, none⟩ z).setCell ⟨A, 1, none⟩ z).drew.frozen? ⟨A, 0, none⟩ = false ∧ ((W.setCell ⟨A, 0, none⟩ z).setCell ⟨A, 1, none⟩ z).drew.frozen? ⟨A, 1, none⟩ = false := by
  refine ⟨?_, ?_, (two_set hA).1, (two_set hA).2, ?_, ?_⟩
  · show ((W.setCell ⟨A, 0, none⟩ z).setCell ⟨A, 1, none⟩ z).cell? ⟨A + 1, 1, none⟩ = some x
    rw [World.cell?_setCell_far _ _ _ _ (by simp), World.cell?_setCell_far _ _ _ _ (by simp)]; exact hc
  · show ((W.setCell ⟨A, 0, none⟩ z).setCell ⟨A, 1, none⟩ z).cell? ⟨b, q, none⟩ = some y
    rw [World.cell?_setCell_far _ _ _ _ (by show A ≠ b; omega), World.cell?_setCell_far _ _ _ _ (by show A ≠ b; omega)]; exact ht
  · show ((W.setCell ⟨A, 0, none⟩ z).setCell ⟨A, 1, none⟩ z).frozen? ⟨A, 0, none⟩ = false
    rw [World.frozen?_setCell, World.frozen?_setCell]; simp [World.frozen?, hA]
  · show ((W.setCell ⟨A, 0, none⟩ z).setCell ⟨A, 1, none⟩ z).frozen? ⟨A, 1, none⟩ = false
    rw [World.frozen?_setCell, World.frozen?_setCell]; simp [World.frozen?, hA]

/-- What Read hands back. -/
def placeP (L : List Tk) (len : Nat) (σ : PSt) : Nat := if h : σ.next < L.length then L[σ.next].p else len

set_option maxRecDepth 100000 in
set_option maxHeartbeats 2000000 in
theorem s_read (L : List Tk) (len : Nat) (ao : Option Addr) (cap : Nat) (f : Nat) (σ : PSt) (w : World) (hL : L.length ≤ 500) (_hlen : len ≤ 500) (hT : ∀ B, w.heap.size ≤ B → Tok3 w B ao L) (hrun : programP L f start0 = some σ) :
    Calls Tryz.prog 36 #[.slice ao L.length cap, .int .i64 len] w fun e w' => Below w.heap.size w w' ∧
      ((σ.failed = false ∧ ∃ a1 c1 a2 c2, e = .returned (.tuple #[.agg #[.slice a1 σ.names.length c1, .slice a2 σ.calls.length c2], .int .i64 0, .bool true]) ∧ NmSl w' a1 σ.names ∧ ClSl w' a2 σ.calls ∧ Inv σ ∧ σ.next ≤ L.length) ∨
       (σ.failed = true ∧ e = .returned (.tuple #[.agg #[.slice none 0 0, .slice none 0 0], .int .i64 (placeP L len σ), .bool false]))) := by
  have HR := hide hrun
  clear hrun
  go_enter Tryz.func36, Tryz.ntmps36
  go_wp2_with fail
  have hA0 : (((w.alloc (.cells #[.slice none 0 0, .slice none 0 0] 82)).alloc (.cells #[.slice ao L.length cap, .int .i64 0, .int .i64 0, .int .i64 (-1), .bool false, .slice none 0 0, .slice none 0 0] 119))).heap[w.heap.size]? = some (.cells #[.slice none 0 0, .slice none 0 0] 82 (0, 0)) := (Below.heap_alloc _ _ _ (by simp)).trans (heap_alloc_new w _)
  have hbw : Below w.heap.size w (((w.alloc (.cells #[.slice none 0 0, .slice none 0 0] 82)).alloc (.cells #[.slice ao L.length cap, .int .i64 0, .int .i64 0, .int .i64 (-1), .bool false, .slice none 0 0, .slice none 0 0] 119))) := ((Below.refl _ _).alloc (Nat.le_refl _) _).alloc (by simp) _
  have hp0 : PS (w.heap.size + 1) ao cap L start0 (.slice none 0 0) (.slice none 0 0) (((w.alloc (.cells #[.slice none 0 0, .slice none 0 0] 82)).alloc (.cells #[.slice ao L.length cap, .int .i64 0, .int .i64 0, .int .i64 (-1), .bool false, .slice none 0 0, .slice none 0 0] 119))) := by
    refine ⟨?_, ?_, World.ownsRow_nil _ _ _ _, World.ownsRow_nil _ _ _ _, Nat.zero_le _, ⟨Nat.zero_le _, Nat.zero_le _⟩⟩
    · have := heap_alloc_new (w.alloc (.cells #[.slice none 0 0, .slice none 0 0] 82)) (.cells #[.slice ao L.length cap, .int .i64 0, .int .i64 0, .int .i64 (-1), .bool false, .slice none 0 0, .slice none 0 0] 119)
      simp only [World.size_alloc] at this
      exact this
    · intro i hi
      obtain ⟨b, o, h1, h2, h3, h4, h5⟩ := hT w.heap.size (Nat.le_refl _) i hi
      exact ⟨b, o, Nat.lt_succ_of_lt h1, h2, (hbw.cell (p := ⟨b, o + i * 3, none⟩) h1).trans h3, (hbw.cell (p := ⟨b, o + i * 3 + 1, none⟩) h1).trans h4, (hbw.cell (p := ⟨b, o + i * 3 + 2, none⟩) h1).trans h5⟩
  refine (s_program hL f start0 σ _ _ _ hp0 HR.out).mono ?_
  rintro e w2 ⟨rfl, vN, vC, hp, kp⟩
  have hA := (kp.bel.block w.heap.size (Nat.lt_succ_self _)).trans hA0
  have hb2 : Below w.heap.size w w2 := hbw.trans (kp.bel.mono (Nat.le_succ _))
  clear hp0 hA0 hbw kp
  have a0 : w2.cell? ⟨w.heap.size, 0, none⟩ = some (.slice none 0 0) := by simp [World.cell?, hA]
  have a1 : w2.cell? ⟨w.heap.size, 1, none⟩ = some (.slice none 0 0) := by simp [World.cell?, hA]
  have g0 : w2.frozen? ⟨w.heap.size, 0, none⟩ = false := by simp [World.frozen?, hA]
  have g1 : w2.frozen? ⟨w.heap.size, 1, none⟩ = false := by simp [World.frozen?, hA]
  obtain ⟨c0, c1, c2, c3, c4, c5, c6, hf⟩ := hp.cells
  have hle := hp.le
  have hBlt := hp.lt
  clear hf
  cases hfl : σ.failed
  · rw [hfl] at c4
    have hset : Below w.heap.size w ((w2.setCell ⟨w.heap.size, 0, none⟩ vN).setCell ⟨w.heap.size, 1, none⟩ vC) := (hb2.setCell (p := ⟨w.heap.size, 0, none⟩) (Nat.le_refl _) _).setCell (p := ⟨w.heap.size, 1, none⟩) (Nat.le_refl _) _
    have hn2 := ownsRow_setCell_below (ownsRow_setCell_below hp.nm (a := ⟨w.heap.size, 0, none⟩) (by show w.heap.size < w.heap.size + 1 + 1; omega) vN) (a := ⟨w.heap.size, 1, none⟩) (by show w.heap.size < w.heap.size + 1 + 1; omega) vC
    have hc2 := ownsRow_setCell_below (ownsRow_setCell_below hp.cl (a := ⟨w.heap.size, 0, none⟩) (by show w.heap.size < w.heap.size + 1 + 1; omega) vN) (a := ⟨w.heap.size, 1, none⟩) (by show w.heap.size < w.heap.size + 1 + 1; omega) vC
    have hinv := hp.inv
    obtain ⟨b1, d1, hv1, hs1⟩ := nmSl_of_owns hn2
    obtain ⟨b2, d2, hv2, hs2⟩ := clSl_of_owns hc2
    clear hn2 hc2 hp
    subst hv1
    subst hv2
    go_wp2_with fail
    refine bodyPost_ret (v := .tuple #[.agg #[.slice b1 σ.names.length d1, .slice b2 σ.calls.length d2], .int .i64 0, .bool true]) ?_ rfl ⟨hset, .inl ⟨hfl, b1, d1, b2, d2, rfl, hs1, hs2, hinv, hle⟩⟩
    have hr := two_set (x := .slice b1 σ.names.length d1) (y := .slice b2 σ.calls.length d2) hA
    simp [results, Tryz.results36, go_sem, hr.1, hr.2]
  · rw [hfl] at c4
    by_cases hlt : σ.next < L.length
    · obtain ⟨b, o, h1, h2, h3, h4, h5⟩ := hT w.heap.size (Nat.le_refl _) σ.next hlt
      subst h2
      have t4 := (hb2.cell (p := ⟨b, o + σ.next * 3 + 1, none⟩) h1).trans h4
      have HP : Hid (placeP L len σ = L[σ.next].p) := by show _ = _; unfold placeP; rw [dif_pos hlt]
      have hset : Below w.heap.size w ((w2.setCell ⟨w.heap.size, 0, none⟩ (.slice none 0 0)).setCell ⟨w.heap.size, 1, none⟩ (.slice none 0 0)) := (hb2.setCell (p := ⟨w.heap.size, 0, none⟩) (Nat.le_refl _) _).setCell (p := ⟨w.heap.size, 1, none⟩) (Nat.le_refl _) _
      have hlt' : (σ.next : Int) < L.length := by omega
      go_wp2_with fail
      go_region_held (fun w' => w'.cell? ⟨w.heap.size + 1, 1, none⟩ = some (.int .i64 σ.next) ∧ w'.cell? ⟨b, o + σ.next * 3 + 1, none⟩ = some (.int .i64 L[σ.next].p) ∧ w'.cell? ⟨w.heap.size, 0, none⟩ = some (.slice none 0 0) ∧ w'.cell? ⟨w.heap.size, 1, none⟩ = some (.slice none 0 0) ∧ w'.frozen? ⟨w.heap.size, 0, none⟩ = false ∧ w'.frozen? ⟨w.heap.size, 1, none⟩ = false) (first | exact ⟨c1, t4, a0, a1, g0, g1⟩ | exact keepR c1 t4 hA h1) (fail)
      go_wp2_with fail
      refine bodyPost_ret (v := .tuple #[.agg #[.slice none 0 0, .slice none 0 0], .int .i64 L[σ.next].p, .bool false]) ?_ rfl ⟨hset.drew, .inr ⟨hfl, by rw [HP.out]⟩⟩
      have hr := two_set (x := .slice none 0 0) (y := .slice none 0 0) hA
      simp [results, Tryz.results36, go_sem, hr.1, hr.2]
    · have HP : Hid (placeP L len σ = len) := by show _ = _; unfold placeP; rw [dif_neg hlt]
      have hset : Below w.heap.size w ((w2.setCell ⟨w.heap.size, 0, none⟩ (.slice none 0 0)).setCell ⟨w.heap.size, 1, none⟩ (.slice none 0 0)) := (hb2.setCell (p := ⟨w.heap.size, 0, none⟩) (Nat.le_refl _) _).setCell (p := ⟨w.heap.size, 1, none⟩) (Nat.le_refl _) _
      go_wp2_with fail
      refine bodyPost_ret (v := .tuple #[.agg #[.slice none 0 0, .slice none 0 0], .int .i64 len, .bool false]) ?_ rfl ⟨hset, .inr ⟨hfl, by rw [HP.out]⟩⟩
      have hr := two_set (x := .slice none 0 0) (y := .slice none 0 0) hA
      simp [results, Tryz.results36, go_sem, hr.1, hr.2]

end Go.Proofs.YtlpmkpjhdahfhaaGreatDoor
