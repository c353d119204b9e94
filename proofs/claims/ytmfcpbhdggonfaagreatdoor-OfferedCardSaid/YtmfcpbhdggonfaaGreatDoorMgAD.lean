/- Structs by value: whole loads and stores, results that lie in cells. -/
import Derived.Test.YtmfcpbhdggonfaaGreatDoorMgAC
import Derived.Laws.ResultCell
import Derived.Test.YtmfcpbhdggonfaaGreatDoorMgAA
namespace Go.Proofs.YtmfcpbhdggonfaaGreatDoor
open Go.RowKit

theorem res_cell {fn : Func} {p : Tmp} {ty : TypeId} {tmps : Array Value} {P : Program} {w : World} {b o : Nat} {cs : List Value} {d : TypeDesc} (h : fn.results = #[.cell p ty]) (ht : tmps.getD p undef = .pointer (some ⟨b, o, none⟩)) (hc : w.rangeAt b o cs) (hu : P.underlying ty = some d) (hd : d.isRow = true) (hi : (P.info? ty).map (·.size) = some cs.length) :
    (results fn tmps).run P w = .ok (.agg cs.toArray) w := by
  have h1 : (asAddr (tmps[p]?.getD undef)).run P w = .ok ⟨b, o, none⟩ w := by
    rw [Array.getD_eq_getD_getElem?] at ht
    rw [ht]; simp [asAddr]
  simp only [results, h]
  simp only [Sem.run_bind, Result.andThen, List.mapM_toArray, Array.getD_eq_getD_getElem?]
  simp [Sem.run_bind, Result.andThen, h1, run_loadVar_mid w b o ty cs d hc hu hd hi]
theorem res_cell_tmp {fn : Func} {p u : Tmp} {ty : TypeId} {tmps : Array Value} {P : Program} {w : World} {b o : Nat} {cs : List Value} {d : TypeDesc} {x : Value} (h : fn.results = #[.cell p ty, .tmp u]) (ht : tmps.getD p undef = .pointer (some ⟨b, o, none⟩)) (hx : tmps.getD u undef = x) (hc : w.rangeAt b o cs) (hu : P.underlying ty = some d) (hd : d.isRow = true) (hi : (P.info? ty).map (·.size) = some cs.length) :
    (results fn tmps).run P w = .ok (.tuple #[.agg cs.toArray, x]) w := by
  have h1 : (asAddr (tmps.getD p undef)).run P w = .ok ⟨b, o, none⟩ w := by rw [ht]; simp [asAddr]
  rw [results_cell_tmp h, h1]
  simp [Result.andThen, run_loadVar_mid w b o ty cs d hc hu hd hi, hx]

theorem there_of_block {w : World} {b : Nat} {C : Array Value} {t : TypeId} (hb : w.heap[b]? = some (.cells C t (0, 0))) {o n : Nat} (hn : o + n ≤ C.size) : w.there b o n := fun j hj => by
  refine ⟨?_, by simp [World.frozen?, hb]⟩
  rw [cell_of_row w b (o + j) C t (0, 0) hb, Array.getElem?_eq_getElem (by omega)]
  rfl
theorem range_of_block {w : World} {b : Nat} {xs : List Value} {t : TypeId} {fr : Nat × Nat} (hb : w.heap[b]? = some (.cells xs.toArray t fr)) {o : Nat} {cs : List Value} (h : ∀ j v, cs[j]? = some v → xs[o + j]? = some v) : w.rangeAt b o cs := fun j v hv => by
  rw [cell_of_row w b (o + j) _ t fr hb]
  simpa using h j v hv
theorem range_whole {w : World} {b : Nat} {xs : List Value} {t : TypeId} {fr : Nat × Nat} (hb : w.heap[b]? = some (.cells xs.toArray t fr)) : w.rangeAt b 0 xs := range_of_block hb fun j v hv => by simpa using hv

def setAll : Array Value → Nat → List Value → Array Value
  | C, _, [] => C
  | C, o, y :: r => setAll (C.setIfInBounds o y) (o + 1) r
theorem setOne_heap {w : World} {B : Nat} {cs : Array Value} {T : TypeId} (h : w.heap[B]? = some (.cells cs T (0, 0))) (o : Nat) (v : Value) : (w.setCell ⟨B, o, none⟩ v).heap[B]? = some (.cells (cs.setIfInBounds o v) T (0, 0)) := by
  simp only [World.setCell, Array.getElem?_modify]
  rw [if_pos trivial, h]
  rfl
theorem setCells_heap {T : TypeId} {b : Nat} : ∀ (ys : List Value) (o : Nat) (w : World) (C : Array Value), w.heap[b]? = some (.cells C T (0, 0)) → (w.setCells b o ys).heap[b]? = some (.cells (setAll C o ys) T (0, 0))
  | [], _, _, _, h => h
  | y :: r, o, _, _, h => setCells_heap r (o + 1) _ _ (setOne_heap h o y)
theorem setCells_other {b k : Nat} (hk : k ≠ b) : ∀ (ys : List Value) (o : Nat) (w : World), (w.setCells b o ys).heap[k]? = w.heap[k]?
  | [], _, _ => rfl
  | y :: r, o, w => (setCells_other hk r (o + 1) _).trans (Below.heap_setCell w ⟨b, o, none⟩ y k hk)
theorem setCells_below {W : World} {B b : Nat} (hb : B ≤ b) : ∀ (ys : List Value) (o : Nat) (w : World), Below B W w → Below B W (w.setCells b o ys)
  | [], _, _, h => h
  | y :: r, o, _, h => setCells_below hb r (o + 1) _ (h.setCell (p := ⟨b, o, none⟩) hb y)
theorem setCells_size {b : Nat} : ∀ (ys : List Value) (o : Nat) (w : World), (w.setCells b o ys).heap.size = w.heap.size
  | [], _, _ => rfl
  | y :: r, o, w => (setCells_size r (o + 1) _).trans (by simp)

theorem setAll_size : ∀ (ys : List Value) (o : Nat) (C : Array Value), (setAll C o ys).size = C.size
  | [], _, _ => rfl
  | y :: r, o, C => (setAll_size r (o + 1) _).trans (by simp)
theorem setAll_get : ∀ (ys : List Value) (o : Nat) (C : Array Value) (j : Nat), (setAll C o ys)[j]? = if o ≤ j ∧ j < o + ys.length ∧ j < C.size then ys[j - o]? else C[j]?
  | [], o, C, j => by rw [if_neg (by simp; omega)]; rfl
  | y :: r, o, C, j => by
    rw [setAll, setAll_get r (o + 1)]
    by_cases h : o = j
    · subst h
      rw [if_neg (by omega), Array.getElem?_setIfInBounds]
      by_cases h2 : o < C.size
      · have h3 : o ≤ o ∧ o < o + (y :: r).length ∧ o < C.size := ⟨Nat.le_refl _, by simp, h2⟩
        rw [if_pos (c := o ≤ o ∧ o < o + (y :: r).length ∧ o < C.size) h3]; simp [h2]
      · rw [if_neg (c := o ≤ o ∧ o < o + (y :: r).length ∧ o < C.size) (fun h => h2 h.2.2)]; simp [h2]
    · by_cases h2 : o + 1 ≤ j ∧ j < o + 1 + r.length ∧ j < C.size
      · rw [if_pos (by simpa using h2), if_pos ⟨by omega, by simp; omega, h2.2.2⟩, show j - o = (j - (o + 1)) + 1 by omega]
        rfl
      · rw [if_neg (by simpa using h2), if_neg (by simp; omega), Array.getElem?_setIfInBounds]
        simp [h]
theorem setAll_mid (pre mid post new : List Value) (h : new.length = mid.length) : setAll (pre ++ mid ++ post).toArray pre.length new = (pre ++ new ++ post).toArray := by
  apply Array.ext_getElem?
  intro j
  rw [setAll_get]
  simp only [List.getElem?_toArray, List.size_toArray, List.length_append]
  by_cases h1 : j < pre.length
  · rw [if_neg (by omega), List.append_assoc, List.append_assoc, List.getElem?_append_left h1, List.getElem?_append_left h1]
  · by_cases h2 : j < pre.length + mid.length
    · rw [if_pos ⟨by omega, by omega, by omega⟩, List.append_assoc, List.getElem?_append_right (by omega), List.getElem?_append_left (by omega)]
    · rw [if_neg (by omega), List.getElem?_append_right (by simp; omega), List.getElem?_append_right (by simp; omega)]
      simp [h]
theorem setAll_whole (old new : List Value) (h : new.length = old.length) : setAll old.toArray 0 new = new.toArray := by
  have := setAll_mid [] old [] new h
  simpa using this

end Go.Proofs.YtmfcpbhdggonfaaGreatDoor

namespace Go.Proofs.YtmfcpbhdggonfaaGreatDoor
open Go.RowKit RR

set_option maxHeartbeats 1000000 in
theorem st_Letter (i : Int) (ch : Bool) (w : World) :
    Calls Tryz.prog 197 #[.int .i64 i, .bool ch] w fun e w' => e = .returned (.string (letterF i ch)) ∧ w' = w := by
  by_cases h0 : i = 0
  · subst h0
    cases ch
    all_goals
      go_enter Tryz.func197, Tryz.ntmps197
      go_wp2
      go_ret
      exact ⟨rfl, rfl⟩
  by_cases h1 : i = 1
  · subst h1
    cases ch
    all_goals
      go_enter Tryz.func197, Tryz.ntmps197
      go_wp2
      go_ret
      exact ⟨rfl, rfl⟩
  by_cases h2 : i = 2
  · subst h2
    cases ch
    all_goals
      go_enter Tryz.func197, Tryz.ntmps197
      go_wp2
      go_ret
      exact ⟨rfl, rfl⟩
  · have HE : Hid (letterF i ch = ⟨#[]⟩) := by show _ = _; unfold letterF; rw [if_neg h0, if_neg h1, if_neg h2]
    by_cases hn : i < 0
    · clear h0 h1 h2
      go_enter Tryz.func197, Tryz.ntmps197
      go_wp2
      go_ret
      exact ⟨ret_str HE.out.symm, rfl⟩
    · have hp : 3 ≤ i := by omega
      clear h0 h1 h2
      go_enter Tryz.func197, Tryz.ntmps197
      go_wp2
      go_ret
      exact ⟨ret_str HE.out.symm, rfl⟩

def boL (b : Bool) : List Value := [.bool b]
set_option maxHeartbeats 1000000 in
theorem py_valueAt (ao : Option Addr) (cap : Nat) (vs : List Bool) (i : Int) (w : World) (hi : Flat w ao (vs.flatMap boL)) :
    Calls Tryz.prog 191 #[.slice ao vs.length cap, .int .i64 i] w fun e w' => e = .returned (.bool (valAt vs i)) ∧ w' = w := by
  by_cases h : 0 ≤ i ∧ i < vs.length
  · obtain ⟨k, rfl⟩ := Int.eq_ofNat_of_zero_le h.1
    have hlt : k < vs.length := by omega
    obtain ⟨b, o, hb, hao, hr⟩ := hi.get (f := boL) (n := 1) (fun _ => rfl) (by decide) k hlt
    subst hao
    have c0 : w.cell? ⟨b, o + k * 1, none⟩ = some (.bool vs[k]) := hr 0 _ rfl
    rw [Nat.mul_one] at c0
    have HE : Hid (valAt vs (k : Int) = vs[k]) := by show _ = _; unfold valAt; rw [if_pos h, Int.toNat_natCast, List.getElem?_eq_getElem hlt]; rfl
    clear h hr
    go_enter Tryz.func191, Tryz.ntmps191
    go_wp2
    go_ret
    exact ⟨ret_bool HE.out.symm, rfl⟩
  · have HE : Hid (valAt vs i = false) := by show _ = _; unfold valAt; rw [if_neg h]
    by_cases h0 : i < 0
    · clear h
      go_enter Tryz.func191, Tryz.ntmps191
      go_wp2
      go_ret
      exact ⟨ret_bool HE.out.symm, rfl⟩
    · have h1 : (vs.length : Int) ≤ i := by omega
      clear h
      go_enter Tryz.func191, Tryz.ntmps191
      go_wp2
      go_ret
      exact ⟨ret_bool HE.out.symm, rfl⟩

set_option maxHeartbeats 1000000 in
theorem py_bit (b : Bool) (w : World) : Calls Tryz.prog 155 #[.bool b] w fun e w' => e = .returned (.string (bitF b)) ∧ w' = w := by
  cases b
  all_goals
    go_enter Tryz.func155, Tryz.ntmps155
    go_wp2
    go_ret
    exact ⟨rfl, rfl⟩

set_option maxHeartbeats 1000000 in
theorem py_holderText (h : Int) (w : World) : Calls Tryz.prog 156 #[.int .i64 h] w fun e w' => e = .returned (.string (holderF h)) ∧ w' = w := by
  by_cases h0 : h = 0
  · subst h0
    go_enter Tryz.func156, Tryz.ntmps156
    go_wp2
    go_ret
    exact ⟨rfl, rfl⟩
  · have h1 : (h == 0) = false := beq_eq_false_iff_ne.2 h0
    have HE : Hid (holderF h = letterF (wrap64 (h - 1)) false) := by show _ = _; unfold holderF; rw [if_neg h0]
    clear h0
    go_enter Tryz.func156, Tryz.ntmps156
    go_wp2_with (go_at_call 197; refine (st_Letter _ _ _).mono ?_; rintro e w1 ⟨rfl, rfl⟩)
    go_ret
    exact ⟨ret_str (by rw [HE.out]), rfl⟩

def thrA (t : Thr) : Value := .agg #[.int .i64 t.count, .int .i64 t.f0.line, .bool t.f0.p0, .bool t.f0.p1, .bool t.f0.p2, .int .i64 t.f1.line, .bool t.f1.p0, .bool t.f1.p1, .bool t.f1.p2, .int .i64 t.f2.line, .bool t.f2.p0, .bool t.f2.p1, .bool t.f2.p2, .int .i64 t.f3.line, .bool t.f3.p0, .bool t.f3.p1, .bool t.f3.p2]
def frmA (f : Frm) : Value := .agg #[.int .i64 f.line, .bool f.p0, .bool f.p1, .bool f.p2]
def frmV : Option Frm → Value
  | some f => .tuple #[.agg #[.int .i64 f.line, .bool f.p0, .bool f.p1, .bool f.p2], .bool true]
  | none => .tuple #[.agg #[.int .i64 0, .bool false, .bool false, .bool false], .bool false]

set_option maxRecDepth 100000 in
set_option maxHeartbeats 2000000 in
theorem py_frame (t : Thr) (above : Int) (w : World) :
    Calls Tryz.prog 151 #[thrA t, .int .i64 above] w fun e w' => e = .returned (frmV (frameF t above)) ∧ Below w.heap.size w w' := by
  unfold thrA
  by_cases h : 0 ≤ wrap64 (wrap64 (t.count - 1) - above) ∧ wrap64 (wrap64 (t.count - 1) - above) < 4
  · have HE : Hid (frameF t above = some (t.f (wrap64 (wrap64 (t.count - 1) - above)).toNat)) := by show _ = _; unfold frameF; rw [if_pos h]
    have h4 : wrap64 (wrap64 (t.count - 1) - above) = 0 ∨ wrap64 (wrap64 (t.count - 1) - above) = 1 ∨ wrap64 (wrap64 (t.count - 1) - above) = 2 ∨ wrap64 (wrap64 (t.count - 1) - above) = 3 := by omega
    clear h
    rcases h4 with h | h | h | h
    all_goals
      rw [h] at HE
      go_enter Tryz.func151, Tryz.ntmps151
      go_wp2
      refine bodyPost_ret (v := frmV (frameF t above)) ?_ rfl ⟨rfl, ((Below.refl _ _).alloc (Nat.le_refl _) _).alloc (by simp) _⟩
      rw [HE.out]
      simp [results, Tryz.results151, go_sem, frmV, Thr.f]
  · have HE : Hid (frameF t above = none) := by show _ = _; unfold frameF; rw [if_neg h]
    by_cases h0 : wrap64 (wrap64 (t.count - 1) - above) < 0
    · clear h
      go_enter Tryz.func151, Tryz.ntmps151
      go_wp2
      refine bodyPost_ret (v := frmV (frameF t above)) ?_ rfl ⟨rfl, ((Below.refl _ _).alloc (Nat.le_refl _) _).alloc (by simp) _⟩
      rw [HE.out]
      simp [results, Tryz.results151, go_sem, frmV]
    · have h1 : 4 ≤ wrap64 (wrap64 (t.count - 1) - above) := by omega
      clear h
      go_enter Tryz.func151, Tryz.ntmps151
      go_wp2
      refine bodyPost_ret (v := frmV (frameF t above)) ?_ rfl ⟨rfl, ((Below.refl _ _).alloc (Nat.le_refl _) _).alloc (by simp) _⟩
      rw [HE.out]
      simp [results, Tryz.results151, go_sem, frmV]

end Go.Proofs.YtmfcpbhdggonfaaGreatDoor

namespace RR

abbrev NT := Nat
abbrev NT.nNames : NT := 0
abbrev NT.nMore : NT := 1
abbrev NT.nProcs : NT := 2
abbrev NT.nProc : NT := 3
abbrev NT.nParams : NT := 4
abbrev NT.nBlock : NT := 5
abbrev NT.nStmts : NT := 6
abbrev NT.nValues : NT := 7
abbrev NT.nValue : NT := 8
abbrev NT.nShared : NT := 9
abbrev NT.nLocks : NT := 10
abbrev NT.nExpr : NT := 11
abbrev NT.nOr : NT := 12
abbrev NT.nTerm : NT := 13
abbrev NT.nAnd : NT := 14
abbrev NT.nFactor : NT := 15
abbrev NT.nStmt : NT := 16
abbrev NT.nBehind : NT := 17
abbrev NT.nRight : NT := 18
abbrev NT.nLater : NT := 19
abbrev NT.nElse : NT := 20
abbrev NT.nResult : NT := 21

def NT.enc (x : NT) : ByteArray :=
  match x with
  | 0 => ⟨#[78, 65, 77, 69, 83]⟩
  | 1 => ⟨#[77, 79, 82, 69]⟩
  | 2 => ⟨#[80, 82, 79, 67, 83]⟩
  | 3 => ⟨#[80, 82, 79, 67]⟩
  | 4 => ⟨#[80, 65, 82, 65, 77, 83]⟩
  | 5 => ⟨#[66, 76, 79, 67, 75]⟩
  | 6 => ⟨#[83, 84, 77, 84, 83]⟩
  | 7 => ⟨#[86, 65, 76, 85, 69, 83]⟩
  | 8 => ⟨#[86, 65, 76, 85, 69]⟩
  | 9 => ⟨#[83, 72, 65, 82, 69, 68]⟩
  | 10 => ⟨#[76, 79, 67, 75, 83]⟩
  | 11 => ⟨#[69, 88, 80, 82]⟩
  | 12 => ⟨#[79, 82]⟩
  | 13 => ⟨#[84, 69, 82, 77]⟩
  | 14 => ⟨#[65, 78, 68]⟩
  | 15 => ⟨#[70, 65, 67, 84, 79, 82]⟩
  | 16 => ⟨#[83, 84, 77, 84]⟩
  | 17 => ⟨#[66, 69, 72, 73, 78, 68]⟩
  | 18 => ⟨#[82, 73, 71, 72, 84]⟩
  | 19 => ⟨#[76, 65, 84, 69, 82]⟩
  | 20 => ⟨#[69, 76, 83, 69]⟩
  | _ => ⟨#[82, 69, 83, 85, 76, 84]⟩

def becB (x : NT) (t : ByteArray) : List ByteArray :=
  match x with
  | 0 => [⟨#[78, 65, 77, 69]⟩, ⟨#[77, 79, 82, 69]⟩]
  | 1 => if t = ⟨#[44]⟩ then [⟨#[44]⟩, ⟨#[78, 65, 77, 69]⟩, ⟨#[77, 79, 82, 69]⟩] else []
  | 2 => if t = ⟨#[112, 114, 111, 99]⟩ then [⟨#[80, 82, 79, 67]⟩, ⟨#[80, 82, 79, 67, 83]⟩] else []
  | 3 => [⟨#[112, 114, 111, 99]⟩, ⟨#[78, 65, 77, 69]⟩, ⟨#[40]⟩, ⟨#[80, 65, 82, 65, 77, 83]⟩, ⟨#[41]⟩, ⟨#[66, 76, 79, 67, 75]⟩]
  | 4 => if t = ⟨#[41]⟩ then [] else [⟨#[78, 65, 77, 69, 83]⟩]
  | 5 => [⟨#[123]⟩, ⟨#[83, 84, 77, 84, 83]⟩, ⟨#[125]⟩]
  | 6 => if t = ⟨#[125]⟩ then [] else [⟨#[83, 84, 77, 84]⟩, ⟨#[83, 84, 77, 84, 83]⟩]
  | 7 => if t = ⟨#[41]⟩ then [] else [⟨#[69, 88, 80, 82]⟩, ⟨#[86, 65, 76, 85, 69]⟩]
  | 8 => if t = ⟨#[44]⟩ then [⟨#[44]⟩, ⟨#[69, 88, 80, 82]⟩, ⟨#[86, 65, 76, 85, 69]⟩] else []
  | 9 => if t = ⟨#[115, 104, 97, 114, 101, 100]⟩ then [⟨#[115, 104, 97, 114, 101, 100]⟩, ⟨#[78, 65, 77, 69, 83]⟩, ⟨#[59]⟩] else []
  | 10 => if t = ⟨#[108, 111, 99, 107, 115]⟩ then [⟨#[108, 111, 99, 107, 115]⟩, ⟨#[78, 65, 77, 69, 83]⟩, ⟨#[59]⟩] else []
  | 11 => [⟨#[84, 69, 82, 77]⟩, ⟨#[79, 82]⟩]
  | 12 => if t = ⟨#[124]⟩ then [⟨#[124]⟩, ⟨#[84, 69, 82, 77]⟩, ⟨#[79, 82]⟩] else []
  | 13 => [⟨#[70, 65, 67, 84, 79, 82]⟩, ⟨#[65, 78, 68]⟩]
  | 14 => if t = ⟨#[38]⟩ then [⟨#[38]⟩, ⟨#[70, 65, 67, 84, 79, 82]⟩, ⟨#[65, 78, 68]⟩] else []
  | 15 => if t = ⟨#[33]⟩ then [⟨#[33]⟩, ⟨#[70, 65, 67, 84, 79, 82]⟩] else if t = ⟨#[40]⟩ then [⟨#[40]⟩, ⟨#[69, 88, 80, 82]⟩, ⟨#[41]⟩] else if isNameB t = true then [t] else if t = ⟨#[116, 114, 117, 101]⟩ then [⟨#[116, 114, 117, 101]⟩] else if t = ⟨#[102, 97, 108, 115, 101]⟩ then [⟨#[102, 97, 108, 115, 101]⟩] else if t = ⟨#[63]⟩ then [⟨#[63]⟩] else [⟨#[78, 65, 77, 69]⟩]
  | 16 => if isNameB t = true then [⟨#[78, 65, 77, 69]⟩, ⟨#[66, 69, 72, 73, 78, 68]⟩] else if t = ⟨#[105, 102]⟩ then [⟨#[105, 102]⟩, ⟨#[40]⟩, ⟨#[69, 88, 80, 82]⟩, ⟨#[41]⟩, ⟨#[66, 76, 79, 67, 75]⟩, ⟨#[69, 76, 83, 69]⟩] else if t = ⟨#[119, 104, 105, 108, 101]⟩ then [⟨#[119, 104, 105, 108, 101]⟩, ⟨#[40]⟩, ⟨#[69, 88, 80, 82]⟩, ⟨#[41]⟩, ⟨#[66, 76, 79, 67, 75]⟩] else if t = ⟨#[97, 115, 115, 117, 109, 101]⟩ then [⟨#[97, 115, 115, 117, 109, 101]⟩, ⟨#[69, 88, 80, 82]⟩, ⟨#[59]⟩] else if t = ⟨#[97, 99, 113, 117, 105, 114, 101]⟩ then [⟨#[97, 99, 113, 117, 105, 114, 101]⟩, ⟨#[78, 65, 77, 69]⟩, ⟨#[59]⟩] else if t = ⟨#[114, 101, 108, 101, 97, 115, 101]⟩ then [⟨#[114, 101, 108, 101, 97, 115, 101]⟩, ⟨#[78, 65, 77, 69]⟩, ⟨#[59]⟩] else if t = ⟨#[114, 101, 116, 117, 114, 110]⟩ then [⟨#[114, 101, 116, 117, 114, 110]⟩, ⟨#[82, 69, 83, 85, 76, 84]⟩, ⟨#[59]⟩] else [⟨#[115, 107, 105, 112]⟩, ⟨#[59]⟩]
  | 17 => if t = ⟨#[40]⟩ then [⟨#[40]⟩, ⟨#[86, 65, 76, 85, 69, 83]⟩, ⟨#[41]⟩, ⟨#[59]⟩] else [⟨#[61]⟩, ⟨#[82, 73, 71, 72, 84]⟩, ⟨#[59]⟩]
  | 18 => if isNameB t = true then [⟨#[78, 65, 77, 69]⟩, ⟨#[76, 65, 84, 69, 82]⟩] else [⟨#[69, 88, 80, 82]⟩]
  | 19 => if t = ⟨#[40]⟩ then [⟨#[40]⟩, ⟨#[86, 65, 76, 85, 69, 83]⟩, ⟨#[41]⟩] else [⟨#[65, 78, 68]⟩, ⟨#[79, 82]⟩]
  | 20 => if t = ⟨#[101, 108, 115, 101]⟩ then [⟨#[101, 108, 115, 101]⟩, ⟨#[66, 76, 79, 67, 75]⟩] else []
  | _ => if t = ⟨#[59]⟩ then [] else [⟨#[69, 88, 80, 82]⟩]

theorem becB_result (t : ByteArray) : becB .nResult t = if t = ⟨#[59]⟩ then [] else [⟨#[69, 88, 80, 82]⟩] := rfl

def NT.all : List NT := [.nNames, .nMore, .nProcs, .nProc, .nParams, .nBlock, .nStmts, .nValues, .nValue, .nShared, .nLocks, .nExpr, .nOr, .nTerm, .nAnd, .nFactor, .nStmt, .nBehind, .nRight, .nLater, .nElse, .nResult]

theorem NT.inAll (x : NT) : ∃ m ∈ NT.all, m.enc = x.enc := by
  match x with
  | 0 => exact ⟨.nNames, by simp [NT.all], rfl⟩
  | 1 => exact ⟨.nMore, by simp [NT.all], rfl⟩
  | 2 => exact ⟨.nProcs, by simp [NT.all], rfl⟩
  | 3 => exact ⟨.nProc, by simp [NT.all], rfl⟩
  | 4 => exact ⟨.nParams, by simp [NT.all], rfl⟩
  | 5 => exact ⟨.nBlock, by simp [NT.all], rfl⟩
  | 6 => exact ⟨.nStmts, by simp [NT.all], rfl⟩
  | 7 => exact ⟨.nValues, by simp [NT.all], rfl⟩
  | 8 => exact ⟨.nValue, by simp [NT.all], rfl⟩
  | 9 => exact ⟨.nShared, by simp [NT.all], rfl⟩
  | 10 => exact ⟨.nLocks, by simp [NT.all], rfl⟩
  | 11 => exact ⟨.nExpr, by simp [NT.all], rfl⟩
  | 12 => exact ⟨.nOr, by simp [NT.all], rfl⟩
  | 13 => exact ⟨.nTerm, by simp [NT.all], rfl⟩
  | 14 => exact ⟨.nAnd, by simp [NT.all], rfl⟩
  | 15 => exact ⟨.nFactor, by simp [NT.all], rfl⟩
  | 16 => exact ⟨.nStmt, by simp [NT.all], rfl⟩
  | 17 => exact ⟨.nBehind, by simp [NT.all], rfl⟩
  | 18 => exact ⟨.nRight, by simp [NT.all], rfl⟩
  | 19 => exact ⟨.nLater, by simp [NT.all], rfl⟩
  | 20 => exact ⟨.nElse, by simp [NT.all], rfl⟩
  | k + 21 => exact ⟨.nResult, by simp [NT.all], rfl⟩

def ntOf (s : ByteArray) : Option NT := NT.all.find? fun n => decide (n.enc = s)

theorem ntOf_some {s : ByteArray} {n : NT} (h : ntOf s = some n) : s = n.enc := by
  have := List.find?_some h
  exact (of_decide_eq_true this).symm
theorem ntOf_none {s : ByteArray} (h : ntOf s = none) (n : NT) : s ≠ n.enc := by
  intro e
  obtain ⟨m, hm, he⟩ := NT.inAll n
  have := List.find?_eq_none.1 h m hm
  exact this (decide_eq_true (he.trans e.symm))

end RR

namespace Go.Proofs.YtmfcpbhdggonfaaGreatDoor
open Go.RowKit RR

def StrSl (w : World) (ao : Option Addr) (cap : Nat) (l : List ByteArray) : Prop := (ao = none → cap = 0) ∧ l.length ≤ cap ∧ ∀ i, (h : i < l.length) → ∃ b o, b < w.heap.size ∧ ao = some ⟨b, o, none⟩ ∧ w.cell? ⟨b, o + i, none⟩ = some (.string l[i])

theorem StrSl.below {w w' : World} {ao : Option Addr} {cap : Nat} {l : List ByteArray} (h : StrSl w ao cap l) (hb : Below w.heap.size w w') : StrSl w' ao cap l := ⟨h.1, h.2.1, fun i hi => by
  obtain ⟨b, o, h1, h2, h3⟩ := h.2.2 i hi
  exact ⟨b, o, Nat.lt_of_lt_of_le h1 hb.size, h2, (hb.cell (p := ⟨b, o + i, none⟩) h1).trans h3⟩⟩

theorem ret_strs_nil {w0 w : World} {l : List ByteArray} (h : l = []) (hb : Below w0.heap.size w0 w) : ∃ ao cap, Ending.returned (.slice none 0 0) = .returned (.slice ao l.length cap) ∧ StrSl w ao cap l ∧ Below w0.heap.size w0 w := by
  subst h; exact ⟨none, 0, rfl, ⟨fun _ => rfl, Nat.le_refl _, fun i hi => by cases hi⟩, hb⟩

theorem ret_strs {w0 w : World} {T : TypeId} {vs : Array Value} {l l' : List ByteArray} {n : Nat} (h : vs.toList = l.map Value.string) (hn : n = l.length) (e : l = l') (hb : Below w0.heap.size w0 w) : ∃ ao cap, Ending.returned (.slice (some ⟨w.heap.size, 0, none⟩) n n) = .returned (.slice ao l'.length cap) ∧ StrSl (w.alloc (.cells vs T)) ao cap l' ∧ Below w0.heap.size w0 (w.alloc (.cells vs T)) := by
  subst e; subst hn
  refine ⟨some ⟨w.heap.size, 0, none⟩, l.length, rfl, ⟨fun h => (by cases h), Nat.le_refl _, fun i hi => ⟨w.heap.size, 0, by simp, rfl, strs_alloc l vs h i hi⟩⟩, hb.alloc hb.size _⟩

theorem isNameB_eq (t : ByteArray) : isNameB t = ((match t.data.toList with | [] => false | c :: _ => isLetterB c) && !(memB kws t)) := by unfold isNameB; rw [bl]; rfl

theorem ne_of_lit {t c : ByteArray} {l : List UInt8} (h : (t.toList == l) = false) (hc : c.toList = l) : ¬ t = c := by
  intro e; subst e; rw [hc] at h; simp at h
theorem lit_ne {t c : ByteArray} (h : ¬ t = c) {l : List UInt8} (hc : c.toList = l) : (t.toList == l) = false := by
  rw [← hc, seq_comm]; exact decide_eq_false h

end Go.Proofs.YtmfcpbhdggonfaaGreatDoor

namespace Go.Proofs.YtmfcpbhdggonfaaGreatDoor
open Go.RowKit RR

theorem Tryz.infoStr : (Tryz.prog.info? 9).map (fun i => (i.zero, i.size, i.bytes)) = some (some (.string ⟨#[]⟩), 1, 16) := by kernel_rfl

def strs (l : List ByteArray) : List Value := l.map Value.string
theorem strs_append (a b : List ByteArray) : strs (a ++ b) = strs a ++ strs b := List.map_append
theorem strs_length (a : List ByteArray) : (strs a).length = a.length := List.length_map _

theorem nil_strs (w : World) (B : Nat) : w.ownsRow B 9 1 (.slice none 0 0) ([] : List ByteArray).length (strs []) := World.ownsRow_nil _ _ _ _

theorem app_strs {ops : Array Oper} {rest : List Oper} {o : Oper} {a : Act} {Q : Exit → Act → World → Prop} {w0 : World} {B : Nat} {v : Value} {l l2 : List ByteArray} {ao : Option Addr} {cap : Nat}
    (hown : w0.ownsRow B 9 1 v l.length (strs l)) (hi : StrSl w0 ao cap l2) (hl : l.length ≤ 100000) (hl2 : l2.length ≤ 100000) (hB : B ≤ w0.heap.size) (hgd : o.guard = none) (s x : Operand)
    (ho : o.op = .call { callee := .builtin .append, args := #[s, x], argTypes := #[49, 49] }) (hs : a.eval s = v)
    (hx : a.eval x = .slice ao l2.length cap)
    (h : ∀ v' w', w'.ownsRow B 9 1 v' (l ++ l2).length (strs (l ++ l2)) → (∀ a0, Below B a0 w0 → Below B a0 w') → wpList Tryz.prog ops Q rest (a.put o.dst v') w') :
    wpList Tryz.prog ops Q (o :: rest) a w0 := by
  obtain ⟨i0, hi0, hz0, hz1, hz2⟩ := info_parts Tryz.infoStr
  cases ao with
  | none =>
    have h0 : l2 = [] := by
      cases l2 with
      | nil => rfl
      | cons y r => obtain ⟨_, _, _, h2, _⟩ := hi.2.2 0 (by simp); cases h2
    subst h0
    refine wpList_append_own_none hgd s x 49 ho B 9 i0 1 Tryz.underlying49 hi0 v l.length (strs l) hs hown (by rw [hx, hi.1 rfl]; rfl) ?_
    refine h v w0 ?_ fun a0 h0 => h0
    rw [List.append_nil]; exact hown
  | some ad =>
    refine wpList_append_own _ hgd s x 49 ho B 9 i0 (.string ⟨#[]⟩) 1 16 Tryz.underlying49 hi0 hz0 hz1 hz2 rfl (by decide) v l.length (strs l) hs hown ad l2.length cap (strs l2) hx (by rw [strs_length, Nat.mul_one]) ?_ ?_ (by unfold maxLen; omega) (by omega) hB ?_
    · intro j u hj
      have hjl : j < l2.length := by
        have := (List.getElem?_eq_some_iff.1 hj).1
        rwa [strs_length] at this
      obtain ⟨b, o', h1, h2, h3⟩ := hi.2.2 j hjl
      have h2' := Option.some.inj h2
      subst h2'
      have hu : u = .string l2[j] := by
        rw [strs, List.getElem?_map, List.getElem?_eq_getElem hjl] at hj
        exact (Option.some.inj hj).symm
      subst hu
      rw [addr_add]; exact h3
    · intro u hu
      obtain ⟨n, _, rfl⟩ := List.mem_map.1 hu
      rfl
    · intro v' w' h1 h2 _
      refine h v' w' ?_ fun a0 h0 => h0.grown h2 hB fun k hk => (hown.lt k hk).1
      rw [strs_append, List.length_append]; exact h1

theorem strSl_of_owns {w : World} {base : Nat} {v : Value} {l : List ByteArray} (h : w.ownsRow base 9 1 v l.length (strs l)) : ∃ ao cap, v = .slice ao l.length cap ∧ StrSl w ao cap l := by
  obtain ⟨h1, h2 | ⟨g, cap, cur, hv, hb, hh, hcap, hmax, hsz, htk⟩⟩ := h
  · refine ⟨none, 0, ?_, fun _ => rfl, by omega, fun i hi => by omega⟩
    rw [h2.1, h2.2]
  · refine ⟨some ⟨g, 0, none⟩, cap, hv, fun h => by simp at h, hcap, fun i hi => ⟨g, 0, (Array.getElem?_eq_some_iff.1 hh).1, rfl, ?_⟩⟩
    have e1 : cur[i]? = some (.string l[i]) := by
      have e2 : (cur.toList.take (l.length * 1))[i]? = (strs l)[i]? := by rw [htk]
      rw [List.getElem?_take_of_lt (by omega), Array.getElem?_toList] at e2
      rw [e2, strs, List.getElem?_map, List.getElem?_eq_getElem hi]; rfl
    simp only [World.cell?, hh, Nat.zero_add]
    exact e1

end Go.Proofs.YtmfcpbhdggonfaaGreatDoor

namespace RR

def byteAt (s : ByteArray) (k : Nat) : UInt8 := if h : k < s.size then s[k] else 0
theorem byteAt_eq {s : ByteArray} {k : Nat} (h : k < s.size) : byteAt s k = s[k] := by unfold byteAt; rw [dif_pos h]
def runG (s : ByteArray) : Nat → Nat
  | 0 => s.size
  | d + 1 => if isLetterB (byteAt s (s.size - (d + 1))) then runG s d else s.size - (d + 1)
def runF (s : ByteArray) (k : Nat) : Nat := if k < s.size then runG s (s.size - k) else k
theorem runF_eq (s : ByteArray) (k : Nat) : runF s k = if h : k < s.size then if isLetterB s[k] then runF s (k + 1) else k else k := by
  unfold runF
  by_cases hk : k < s.size
  · have e : s.size - k = (s.size - (k + 1)) + 1 := by omega
    have e2 : s.size - ((s.size - (k + 1)) + 1) = k := by omega
    rw [if_pos hk, dif_pos hk, e, runG, e2, byteAt_eq hk]
    by_cases hk2 : k + 1 < s.size
    · rw [if_pos hk2]
    · rw [if_neg hk2, show s.size - (k + 1) = 0 by omega, show k + 1 = s.size by omega]; rfl
  · rw [if_neg hk, dif_neg hk]

theorem runF_le (s : ByteArray) (k : Nat) (h : k ≤ s.size) : k ≤ runF s k ∧ runF s k ≤ s.size := by
  induction hn : s.size - k using Nat.strongRecOn generalizing k with
  | ind n ih =>
    rw [runF_eq]
    by_cases h1 : k < s.size
    · rw [dif_pos h1]
      by_cases h2 : isLetterB s[k]
      · rw [if_pos h2]
        have := ih (s.size - (k + 1)) (by omega) (k + 1) (by omega) rfl
        omega
      · rw [if_neg h2]; omega
    · rw [dif_neg h1]; omega

def signs : List ByteArray := [⟨#[59]⟩, ⟨#[44]⟩, ⟨#[61]⟩, ⟨#[33]⟩, ⟨#[38]⟩, ⟨#[124]⟩, ⟨#[63]⟩, ⟨#[40]⟩, ⟨#[41]⟩, ⟨#[123]⟩, ⟨#[125]⟩]

def endAt (s : ByteArray) (i : Nat) (h : i < s.size) : Nat := if isLetterB s[i] then runF s (i + 1) else i + 1

theorem endAt_gt (s : ByteArray) (i : Nat) (h : i < s.size) : i < endAt s i h ∧ endAt s i h ≤ s.size := by
  unfold endAt
  by_cases h2 : isLetterB s[i]
  · rw [if_pos h2]; have := runF_le s (i + 1) (by omega); omega
  · rw [if_neg h2]; omega

def okAt (s : ByteArray) (i : Nat) (h : i < s.size) : Bool := (isLetterB s[i] && decide (endAt s i h - i ≤ 8)) || memB signs (s.extract i (endAt s i h))

def blankB (c : UInt8) : Bool := decide (c.toNat = 32) || decide (c.toNat = 10)

def lexN (s : ByteArray) : Nat → Nat → List Tk × Option Nat
  | 0, _ => ([], none)
  | n + 1, i =>
    if h : i < s.size then
      if blankB s[i] then lexN s n (i + 1)
      else if okAt s i h then (⟨s.extract i (endAt s i h), i⟩ :: (lexN s n (endAt s i h)).1, (lexN s n (endAt s i h)).2)
      else ([], some i)
    else ([], none)
theorem lexN_fuel (s : ByteArray) : ∀ n m i, s.size - i ≤ n → s.size - i ≤ m → lexN s n i = lexN s m i := by
  intro n
  induction n with
  | zero =>
    intro m i h1 _
    cases m with
    | zero => rfl
    | succ m => rw [lexN, lexN, dif_neg (by omega)]
  | succ n ih =>
    intro m i h1 h2
    cases m with
    | zero => rw [lexN, lexN, dif_neg (by omega)]
    | succ m =>
      rw [lexN, lexN]
      by_cases h : i < s.size
      · have hg := endAt_gt s i h
        rw [dif_pos h, dif_pos h, ih m (i + 1) (by omega) (by omega), ih m (endAt s i h) (by omega) (by omega)]
      · rw [dif_neg h, dif_neg h]
def lexF (s : ByteArray) (i : Nat) : List Tk × Option Nat := lexN s (s.size - i) i
theorem lexF_eq (s : ByteArray) (i : Nat) : lexF s i = if h : i < s.size then
    if blankB s[i] then lexF s (i + 1)
    else if okAt s i h then (⟨s.extract i (endAt s i h), i⟩ :: (lexF s (endAt s i h)).1, (lexF s (endAt s i h)).2)
    else ([], some i)
  else ([], none) := by
  unfold lexF
  by_cases h : i < s.size
  · have hg := endAt_gt s i h
    have e : s.size - i = (s.size - i - 1) + 1 := by omega
    rw [dif_pos h, e, lexN, dif_pos h, lexN_fuel s (s.size - i - 1) (s.size - (i + 1)) (i + 1) (by omega) (by omega), lexN_fuel s (s.size - i - 1) (s.size - endAt s i h) (endAt s i h) (by omega) (by omega)]
  · rw [dif_neg h, show s.size - i = 0 by omega, lexN]

theorem lexF_out {s : ByteArray} {i : Nat} (h : ¬ i < s.size) : lexF s i = ([], none) := by rw [lexF_eq, dif_neg h]
theorem lexF_blank {s : ByteArray} {i : Nat} (h : i < s.size) (hb : blankB s[i] = true) : lexF s i = lexF s (i + 1) := by rw [lexF_eq, dif_pos h, if_pos hb]
theorem lexF_bad {s : ByteArray} {i : Nat} (h : i < s.size) (hb : blankB s[i] = false) (ho : okAt s i h = false) : lexF s i = ([], some i) := by rw [lexF_eq, dif_pos h, hb, ho]; rfl
theorem lexF_ok {s : ByteArray} {i : Nat} (h : i < s.size) (hb : blankB s[i] = false) (ho : okAt s i h = true) : lexF s i = (⟨s.extract i (endAt s i h), i⟩ :: (lexF s (endAt s i h)).1, (lexF s (endAt s i h)).2) := by
  rw [lexF_eq, dif_pos h, hb, ho]; rfl

theorem ext_size (s : ByteArray) (i k : Nat) (h : i ≤ k) (hk : k ≤ s.size) : (s.extract i k).size = k - i := by
  rw [ByteArray.size_extract]; omega
theorem ext_first (s : ByteArray) (i k : Nat) (h : i < k) (hk : k ≤ s.size) (h' : 0 < (s.extract i k).size) : (s.extract i k)[0] = s[i] := by
  rw [ByteArray.getElem_extract]; rfl

theorem runF_yes {s : ByteArray} {k : Nat} (h : k < s.size) (h2 : isLetterB s[k] = true) : runF s k = runF s (k + 1) := by rw [runF_eq, dif_pos h, if_pos h2]
theorem runF_no {s : ByteArray} {k : Nat} (h : k < s.size) (h2 : isLetterB s[k] = false) : runF s k = k := by rw [runF_eq, dif_pos h, h2]; rfl
theorem runF_out {s : ByteArray} {k : Nat} (h : ¬ k < s.size) : runF s k = k := by rw [runF_eq, dif_neg h]

theorem lexF_len (s : ByteArray) (i : Nat) : (lexF s i).1.length ≤ s.size - i := by
  induction hn : s.size - i using Nat.strongRecOn generalizing i with
  | ind n ih =>
    by_cases h : i < s.size
    · cases hb : blankB s[i]
      · cases ho : okAt s i h
        · rw [lexF_bad h hb ho]; exact Nat.zero_le _
        · rw [lexF_ok h hb ho]
          have := endAt_gt s i h
          have := ih (s.size - endAt s i h) (by omega) (endAt s i h) rfl
          show (_ :: _).length ≤ _
          rw [List.length_cons]; omega
      · rw [lexF_blank h hb]
        have := ih (s.size - (i + 1)) (by omega) (i + 1) rfl
        omega
    · rw [lexF_out h]; exact Nat.zero_le _

end RR

namespace Go.Proofs.YtmfcpbhdggonfaaGreatDoor
open Go.RowKit RR

theorem Tryz.infoTok : (Tryz.prog.info? 90).map (fun i => (i.zero, i.size, i.bytes)) = some (some (.agg #[.string ⟨#[]⟩, .int .i64 0]), 2, 24) := by kernel_rfl

def toks : List Tk → List Value
  | [] => []
  | t :: r => .string t.t :: .int .i64 t.p :: toks r
theorem toks_append (a b : List Tk) : toks (a ++ b) = toks a ++ toks b := by
  induction a with
  | nil => rfl
  | cons t r ih => show _ :: _ :: toks (r ++ b) = _; rw [ih]; rfl
theorem toks_length (a : List Tk) : (toks a).length = a.length * 2 := by
  induction a with
  | nil => rfl
  | cons t r ih => show (toks r).length + 1 + 1 = _; rw [ih, List.length_cons]; omega
theorem toks_get (a : List Tk) (i : Nat) (h : i < a.length) : (toks a)[i * 2]? = some (.string a[i].t) ∧ (toks a)[i * 2 + 1]? = some (.int .i64 a[i].p) := by
  induction a generalizing i with
  | nil => cases h
  | cons t r ih =>
    cases i with
    | zero => exact ⟨rfl, rfl⟩
    | succ k =>
      have := ih k (by simpa using h)
      rw [show (k + 1) * 2 = k * 2 + 1 + 1 from by omega]
      exact this

theorem two_cells {w : World} {T : TypeId} {x y : Value} : ∀ (j : Nat) (u : Value), [x, y][j]? = some u → (w.alloc (.cells #[x, y] T)).cell? ((⟨w.heap.size, 0, none⟩ : Addr).add j) = some u := by
  intro j u hj
  have hh : (w.alloc (.cells #[x, y] T)).heap[w.heap.size]? = some (.cells #[x, y] T) := heap_alloc_new w _
  rw [addr_add]
  match j, hj with
  | 0, hj => simp only [World.cell?, hh]; exact hj
  | 1, hj => simp only [World.cell?, hh]; exact hj

theorem app_tok {ops : Array Oper} {rest : List Oper} {o : Oper} {a : Act} {Q : Exit → Act → World → Prop} {w0 : World} {B : Nat} {v : Value} {l : List Tk} (t : ByteArray) (p : Nat)
    (hown : w0.ownsRow B 90 2 v l.length (toks l)) (hl : l.length ≤ 100000) (hB : B ≤ w0.heap.size) (hgd : o.guard = none) (s x : Operand)
    (ho : o.op = .call { callee := .builtin .append, args := #[s, x], argTypes := #[69, 69] }) (hs : a.eval s = v)
    (hx : a.eval x = .slice (some ⟨w0.heap.size, 0, none⟩) 1 1)
    (h : ∀ v' w', w'.ownsRow B 90 2 v' (l ++ [(⟨t, p⟩ : Tk)]).length (toks (l ++ [(⟨t, p⟩ : Tk)])) → (∀ a0, Below B a0 w0 → Below B a0 w') → wpList Tryz.prog ops Q rest (a.put o.dst v') w') :
    wpList Tryz.prog ops Q (o :: rest) a (w0.alloc (.cells #[.string t, .int .i64 p] 90)) := by
  obtain ⟨i0, hi0, hz0, hz1, hz2⟩ := info_parts Tryz.infoTok
  refine wpList_append_own _ hgd s x 69 ho B 90 i0 (.agg #[.string ⟨#[]⟩, .int .i64 0]) 2 24 Tryz.underlying69 hi0 hz0 hz1 hz2 rfl (by decide) v l.length (toks l) hs (hown.alloc _) ⟨w0.heap.size, 0, none⟩ 1 1 [.string t, .int .i64 p] hx rfl two_cells ?_ (by unfold maxLen; omega) (by omega) (by simp; omega) ?_
  · intro u hu
    rcases List.mem_cons.1 hu with rfl | hu
    · rfl
    · rcases List.mem_cons.1 hu with rfl | hu
      · rfl
      · cases hu
  · intro v' w' h1 h2 _
    refine h v' w' ?_ fun a0 h0 => (h0.alloc hB _).grown h2 (by simp; omega) fun k hk => (hown.lt k hk).1
    rw [toks_append, List.length_append]; exact h1

theorem below_of_eq0 {w w' : World} (h : w' = w) : Below w.heap.size w w' := by subst h; exact Below.refl _ _

def TokSl (w : World) (ao : Option Addr) (L : List Tk) : Prop := L = [] ∨ ∃ b o, ao = some ⟨b, o, none⟩ ∧ ToksAt w b o L

theorem tokSl_of_owns {w : World} {base : Nat} {v : Value} {l : List Tk} (h : w.ownsRow base 90 2 v l.length (toks l)) : ∃ ao cap, v = .slice ao l.length cap ∧ TokSl w ao l := by
  obtain ⟨h1, h2 | ⟨g, cap, cur, hv, hb, hh, hcap, hmax, hsz, htk⟩⟩ := h
  · exact ⟨none, 0, by rw [h2.1, h2.2], .inl (List.length_eq_zero_iff.1 h2.2)⟩
  · refine ⟨some ⟨g, 0, none⟩, cap, hv, .inr ⟨g, 0, rfl, (Array.getElem?_eq_some_iff.1 hh).1, fun i hi => ?_⟩⟩
    have key : ∀ j, j < l.length * 2 → w.cell? ⟨g, 0 + j, none⟩ = (toks l)[j]? := by
      intro j hj
      have e2 : (cur.toList.take (l.length * 2))[j]? = (toks l)[j]? := by rw [htk]
      rw [List.getElem?_take_of_lt hj, Array.getElem?_toList] at e2
      simp only [World.cell?, hh, Nat.zero_add]
      exact e2
    have := toks_get l i hi
    exact ⟨(key (i * 2) (by omega)).trans this.1, (key (i * 2 + 1) (by omega)).trans this.2⟩

theorem signs_at {w : World} : StrsAt (w.alloc (.cells #[.string ⟨#[59]⟩, .string ⟨#[44]⟩, .string ⟨#[61]⟩, .string ⟨#[33]⟩, .string ⟨#[38]⟩, .string ⟨#[124]⟩, .string ⟨#[63]⟩, .string ⟨#[40]⟩, .string ⟨#[41]⟩, .string ⟨#[123]⟩, .string ⟨#[125]⟩] 9)) w.heap.size 0 signs :=
  strs_alloc signs _ rfl

theorem endAt_letter {s : ByteArray} {i : Nat} (h : i < s.size) (hL : isLetterB s[i] = true) : endAt s i h = runF s (i + 1) := by unfold endAt; rw [if_pos hL]
theorem endAt_other {s : ByteArray} {i : Nat} (h : i < s.size) (hL : isLetterB s[i] = false) : endAt s i h = i + 1 := by unfold endAt; rw [hL]; rfl

end Go.Proofs.YtmfcpbhdggonfaaGreatDoor

namespace Go.Proofs.YtmfcpbhdggonfaaGreatDoor
open Go.RowKit RR

set_option maxHeartbeats 400000 in
theorem t_isLetter (c : UInt8) (w : World) :
    Calls Tryz.prog 175 #[.int .u8 c.toNat] w fun e w' => e = .returned (.bool (isLetterB c)) ∧ w' = w := by
  go_enter Tryz.func175, Tryz.ntmps175
  go_wp2
  all_goals
    go_ret
    refine ⟨ret_bool ?_, rfl⟩
    unfold isLetterB
    rw [Bool.eq_iff_iff]; simp; try omega

set_option maxHeartbeats 400000 in
theorem t_isBlank (c : UInt8) (w : World) :
    Calls Tryz.prog 133 #[.int .u8 c.toNat] w fun e w' => e = .returned (.bool (blankB c)) ∧ w' = w := by
  go_enter Tryz.func133, Tryz.ntmps133
  by_cases h : (c.toNat : Int) = 32
  · have h' : ((c.toNat : Int) == 32) = true := beq_iff_eq.2 h
    have HB : Hid (blankB c = true) := by show _ = _; unfold blankB; rw [decide_eq_true (by omega : c.toNat = 32)]; rfl
    clear h
    go_wp2
    go_ret
    exact ⟨ret_bool HB.out.symm, rfl⟩
  · have h' : ((c.toNat : Int) == 32) = false := beq_eq_false_iff_ne.2 h
    by_cases h2 : (c.toNat : Int) = 10
    · have h2' : ((c.toNat : Int) == 10) = true := beq_iff_eq.2 h2
      have HB : Hid (blankB c = true) := by show _ = _; unfold blankB; rw [decide_eq_true (by omega : c.toNat = 10), Bool.or_true]
      clear h h2
      go_wp2
      go_ret
      exact ⟨ret_bool HB.out.symm, rfl⟩
    · have h2' : ((c.toNat : Int) == 10) = false := beq_eq_false_iff_ne.2 h2
      have HB : Hid (blankB c = false) := by show _ = _; unfold blankB; rw [decide_eq_false (by omega : ¬ c.toNat = 32), decide_eq_false (by omega : ¬ c.toNat = 10)]; rfl
      clear h h2
      go_wp2
      go_ret
      exact ⟨ret_bool HB.out.symm, rfl⟩

def signB (c : UInt8) : Bool := decide (c.toNat = 59) || decide (c.toNat = 44) || decide (c.toNat = 61) || decide (c.toNat = 33) || decide (c.toNat = 38) || decide (c.toNat = 124) || decide (c.toNat = 63) || decide (c.toNat = 40) || decide (c.toNat = 41) || decide (c.toNat = 123) || decide (c.toNat = 125)

set_option maxRecDepth 100000 in
set_option maxHeartbeats 2000000 in
theorem t_isSign (s : ByteArray) (i : Nat) (w : World) (_hs : s.size ≤ 500) (hi : i < s.size) :
    Calls Tryz.prog 174 #[.string s, .int .i64 i] w fun e w' => e = .returned (.bool (signB s[i])) ∧ w' = w := by
  have hi' : (i : Int) < s.size := by omega
  by_cases e0 : (s[i].toNat : Int) = 59
  · have f0 : ((s[i].toNat : Int) == 59) = true := beq_iff_eq.2 e0
    have HB : Hid (signB s[i] = true) := by show _ = _; unfold signB; simp; omega
    clear e0
    go_enter Tryz.func174, Tryz.ntmps174
    go_wp2
    go_ret
    exact ⟨ret_bool HB.out.symm, rfl⟩
  by_cases e1 : (s[i].toNat : Int) = 44
  · have f1 : ((s[i].toNat : Int) == 44) = true := beq_iff_eq.2 e1
    have HB : Hid (signB s[i] = true) := by show _ = _; unfold signB; simp; omega
    have f0 : ((s[i].toNat : Int) == 59) = false := beq_eq_false_iff_ne.2 e0
    clear e0 e1
    go_enter Tryz.func174, Tryz.ntmps174
    go_wp2
    go_ret
    exact ⟨ret_bool HB.out.symm, rfl⟩
  by_cases e2 : (s[i].toNat : Int) = 61
  · have f2 : ((s[i].toNat : Int) == 61) = true := beq_iff_eq.2 e2
    have HB : Hid (signB s[i] = true) := by show _ = _; unfold signB; simp; omega
    have f0 : ((s[i].toNat : Int) == 59) = false := beq_eq_false_iff_ne.2 e0
    have f1 : ((s[i].toNat : Int) == 44) = false := beq_eq_false_iff_ne.2 e1
    clear e0 e1 e2
    go_enter Tryz.func174, Tryz.ntmps174
    go_wp2
    go_ret
    exact ⟨ret_bool HB.out.symm, rfl⟩
  by_cases e3 : (s[i].toNat : Int) = 33
  · have f3 : ((s[i].toNat : Int) == 33) = true := beq_iff_eq.2 e3
    have HB : Hid (signB s[i] = true) := by show _ = _; unfold signB; simp; omega
    have f0 : ((s[i].toNat : Int) == 59) = false := beq_eq_false_iff_ne.2 e0
    have f1 : ((s[i].toNat : Int) == 44) = false := beq_eq_false_iff_ne.2 e1
    have f2 : ((s[i].toNat : Int) == 61) = false := beq_eq_false_iff_ne.2 e2
    clear e0 e1 e2 e3
    go_enter Tryz.func174, Tryz.ntmps174
    go_wp2
    go_ret
    exact ⟨ret_bool HB.out.symm, rfl⟩
  by_cases e4 : (s[i].toNat : Int) = 38
  · have f4 : ((s[i].toNat : Int) == 38) = true := beq_iff_eq.2 e4
    have HB : Hid (signB s[i] = true) := by show _ = _; unfold signB; simp; omega
    have f0 : ((s[i].toNat : Int) == 59) = false := beq_eq_false_iff_ne.2 e0
    have f1 : ((s[i].toNat : Int) == 44) = false := beq_eq_false_iff_ne.2 e1
    have f2 : ((s[i].toNat : Int) == 61) = false := beq_eq_false_iff_ne.2 e2
    have f3 : ((s[i].toNat : Int) == 33) = false := beq_eq_false_iff_ne.2 e3
    clear e0 e1 e2 e3 e4
    go_enter Tryz.func174, Tryz.ntmps174
    go_wp2
    go_ret
    exact ⟨ret_bool HB.out.symm, rfl⟩
  by_cases e5 : (s[i].toNat : Int) = 124
  · have f5 : ((s[i].toNat : Int) == 124) = true := beq_iff_eq.2 e5
    have HB : Hid (signB s[i] = true) := by show _ = _; unfold signB; simp; omega
    have f0 : ((s[i].toNat : Int) == 59) = false := beq_eq_false_iff_ne.2 e0
    have f1 : ((s[i].toNat : Int) == 44) = false := beq_eq_false_iff_ne.2 e1
    have f2 : ((s[i].toNat : Int) == 61) = false := beq_eq_false_iff_ne.2 e2
    have f3 : ((s[i].toNat : Int) == 33) = false := beq_eq_false_iff_ne.2 e3
    have f4 : ((s[i].toNat : Int) == 38) = false := beq_eq_false_iff_ne.2 e4
    clear e0 e1 e2 e3 e4 e5
    go_enter Tryz.func174, Tryz.ntmps174
    go_wp2
    go_ret
    exact ⟨ret_bool HB.out.symm, rfl⟩
  by_cases e6 : (s[i].toNat : Int) = 63
  · have f6 : ((s[i].toNat : Int) == 63) = true := beq_iff_eq.2 e6
    have HB : Hid (signB s[i] = true) := by show _ = _; unfold signB; simp; omega
    have f0 : ((s[i].toNat : Int) == 59) = false := beq_eq_false_iff_ne.2 e0
    have f1 : ((s[i].toNat : Int) == 44) = false := beq_eq_false_iff_ne.2 e1
    have f2 : ((s[i].toNat : Int) == 61) = false := beq_eq_false_iff_ne.2 e2
    have f3 : ((s[i].toNat : Int) == 33) = false := beq_eq_false_iff_ne.2 e3
    have f4 : ((s[i].toNat : Int) == 38) = false := beq_eq_false_iff_ne.2 e4
    have f5 : ((s[i].toNat : Int) == 124) = false := beq_eq_false_iff_ne.2 e5
    clear e0 e1 e2 e3 e4 e5 e6
    go_enter Tryz.func174, Tryz.ntmps174
    go_wp2
    go_ret
    exact ⟨ret_bool HB.out.symm, rfl⟩
  by_cases e7 : (s[i].toNat : Int) = 40
  · have f7 : ((s[i].toNat : Int) == 40) = true := beq_iff_eq.2 e7
    have HB : Hid (signB s[i] = true) := by show _ = _; unfold signB; simp; omega
    have f0 : ((s[i].toNat : Int) == 59) = false := beq_eq_false_iff_ne.2 e0
    have f1 : ((s[i].toNat : Int) == 44) = false := beq_eq_false_iff_ne.2 e1
    have f2 : ((s[i].toNat : Int) == 61) = false := beq_eq_false_iff_ne.2 e2
    have f3 : ((s[i].toNat : Int) == 33) = false := beq_eq_false_iff_ne.2 e3
    have f4 : ((s[i].toNat : Int) == 38) = false := beq_eq_false_iff_ne.2 e4
    have f5 : ((s[i].toNat : Int) == 124) = false := beq_eq_false_iff_ne.2 e5
    have f6 : ((s[i].toNat : Int) == 63) = false := beq_eq_false_iff_ne.2 e6
    clear e0 e1 e2 e3 e4 e5 e6 e7
    go_enter Tryz.func174, Tryz.ntmps174
    go_wp2
    go_ret
    exact ⟨ret_bool HB.out.symm, rfl⟩
  by_cases e8 : (s[i].toNat : Int) = 41
  · have f8 : ((s[i].toNat : Int) == 41) = true := beq_iff_eq.2 e8
    have HB : Hid (signB s[i] = true) := by show _ = _; unfold signB; simp; omega
    have f0 : ((s[i].toNat : Int) == 59) = false := beq_eq_false_iff_ne.2 e0
    have f1 : ((s[i].toNat : Int) == 44) = false := beq_eq_false_iff_ne.2 e1
    have f2 : ((s[i].toNat : Int) == 61) = false := beq_eq_false_iff_ne.2 e2
    have f3 : ((s[i].toNat : Int) == 33) = false := beq_eq_false_iff_ne.2 e3
    have f4 : ((s[i].toNat : Int) == 38) = false := beq_eq_false_iff_ne.2 e4
    have f5 : ((s[i].toNat : Int) == 124) = false := beq_eq_false_iff_ne.2 e5
    have f6 : ((s[i].toNat : Int) == 63) = false := beq_eq_false_iff_ne.2 e6
    have f7 : ((s[i].toNat : Int) == 40) = false := beq_eq_false_iff_ne.2 e7
    clear e0 e1 e2 e3 e4 e5 e6 e7 e8
    go_enter Tryz.func174, Tryz.ntmps174
    go_wp2
    go_ret
    exact ⟨ret_bool HB.out.symm, rfl⟩
  by_cases e9 : (s[i].toNat : Int) = 123
  · have f9 : ((s[i].toNat : Int) == 123) = true := beq_iff_eq.2 e9
    have HB : Hid (signB s[i] = true) := by show _ = _; unfold signB; simp; omega
    have f0 : ((s[i].toNat : Int) == 59) = false := beq_eq_false_iff_ne.2 e0
    have f1 : ((s[i].toNat : Int) == 44) = false := beq_eq_false_iff_ne.2 e1
    have f2 : ((s[i].toNat : Int) == 61) = false := beq_eq_false_iff_ne.2 e2
    have f3 : ((s[i].toNat : Int) == 33) = false := beq_eq_false_iff_ne.2 e3
    have f4 : ((s[i].toNat : Int) == 38) = false := beq_eq_false_iff_ne.2 e4
    have f5 : ((s[i].toNat : Int) == 124) = false := beq_eq_false_iff_ne.2 e5
    have f6 : ((s[i].toNat : Int) == 63) = false := beq_eq_false_iff_ne.2 e6
    have f7 : ((s[i].toNat : Int) == 40) = false := beq_eq_false_iff_ne.2 e7
    have f8 : ((s[i].toNat : Int) == 41) = false := beq_eq_false_iff_ne.2 e8
    clear e0 e1 e2 e3 e4 e5 e6 e7 e8 e9
    go_enter Tryz.func174, Tryz.ntmps174
    go_wp2
    go_ret
    exact ⟨ret_bool HB.out.symm, rfl⟩
  by_cases e10 : (s[i].toNat : Int) = 125
  · have f10 : ((s[i].toNat : Int) == 125) = true := beq_iff_eq.2 e10
    have HB : Hid (signB s[i] = true) := by show _ = _; unfold signB; simp; omega
    have f0 : ((s[i].toNat : Int) == 59) = false := beq_eq_false_iff_ne.2 e0
    have f1 : ((s[i].toNat : Int) == 44) = false := beq_eq_false_iff_ne.2 e1
    have f2 : ((s[i].toNat : Int) == 61) = false := beq_eq_false_iff_ne.2 e2
    have f3 : ((s[i].toNat : Int) == 33) = false := beq_eq_false_iff_ne.2 e3
    have f4 : ((s[i].toNat : Int) == 38) = false := beq_eq_false_iff_ne.2 e4
    have f5 : ((s[i].toNat : Int) == 124) = false := beq_eq_false_iff_ne.2 e5
    have f6 : ((s[i].toNat : Int) == 63) = false := beq_eq_false_iff_ne.2 e6
    have f7 : ((s[i].toNat : Int) == 40) = false := beq_eq_false_iff_ne.2 e7
    have f8 : ((s[i].toNat : Int) == 41) = false := beq_eq_false_iff_ne.2 e8
    have f9 : ((s[i].toNat : Int) == 123) = false := beq_eq_false_iff_ne.2 e9
    clear e0 e1 e2 e3 e4 e5 e6 e7 e8 e9 e10
    go_enter Tryz.func174, Tryz.ntmps174
    go_wp2
    go_ret
    exact ⟨ret_bool HB.out.symm, rfl⟩
  have f0 : ((s[i].toNat : Int) == 59) = false := beq_eq_false_iff_ne.2 e0
  have f1 : ((s[i].toNat : Int) == 44) = false := beq_eq_false_iff_ne.2 e1
  have f2 : ((s[i].toNat : Int) == 61) = false := beq_eq_false_iff_ne.2 e2
  have f3 : ((s[i].toNat : Int) == 33) = false := beq_eq_false_iff_ne.2 e3
  have f4 : ((s[i].toNat : Int) == 38) = false := beq_eq_false_iff_ne.2 e4
  have f5 : ((s[i].toNat : Int) == 124) = false := beq_eq_false_iff_ne.2 e5
  have f6 : ((s[i].toNat : Int) == 63) = false := beq_eq_false_iff_ne.2 e6
  have f7 : ((s[i].toNat : Int) == 40) = false := beq_eq_false_iff_ne.2 e7
  have f8 : ((s[i].toNat : Int) == 41) = false := beq_eq_false_iff_ne.2 e8
  have f9 : ((s[i].toNat : Int) == 123) = false := beq_eq_false_iff_ne.2 e9
  have f10 : ((s[i].toNat : Int) == 125) = false := beq_eq_false_iff_ne.2 e10
  have HB : Hid (signB s[i] = false) := by show _ = _; unfold signB; simp; omega
  clear e0 e1 e2 e3 e4 e5 e6 e7 e8 e9 e10
  go_enter Tryz.func174, Tryz.ntmps174
  go_wp2
  go_ret
  exact ⟨ret_bool HB.out.symm, rfl⟩

set_option maxRecDepth 100000 in
set_option maxHeartbeats 2000000 in
theorem t_hasMeaning (t : ByteArray) (w : World) :
    Calls Tryz.prog 176 #[.string t] w fun e w' => e = .returned (.bool (memB kws t)) ∧ w' = w := by
  by_cases e0 : t = ⟨#[115, 104, 97, 114, 101, 100]⟩
  · subst e0
    have HB : Hid (memB kws ⟨#[115, 104, 97, 114, 101, 100]⟩ = true) := by show _ = _; decide
    go_enter Tryz.func176, Tryz.ntmps176
    go_wp2
    go_ret
    exact ⟨ret_bool HB.out.symm, rfl⟩
  have f0 : (t.toList == [115, 104, 97, 114, 101, 100]) = false := lit_ne e0 (by rw [bl])
  by_cases e1 : t = ⟨#[108, 111, 99, 107, 115]⟩
  · subst e1
    have HB : Hid (memB kws ⟨#[108, 111, 99, 107, 115]⟩ = true) := by show _ = _; decide
    go_enter Tryz.func176, Tryz.ntmps176
    go_wp2
    go_ret
    exact ⟨ret_bool HB.out.symm, rfl⟩
  have f1 : (t.toList == [108, 111, 99, 107, 115]) = false := lit_ne e1 (by rw [bl])
  by_cases e2 : t = ⟨#[112, 114, 111, 99]⟩
  · subst e2
    have HB : Hid (memB kws ⟨#[112, 114, 111, 99]⟩ = true) := by show _ = _; decide
    go_enter Tryz.func176, Tryz.ntmps176
    go_wp2
    go_ret
    exact ⟨ret_bool HB.out.symm, rfl⟩
  have f2 : (t.toList == [112, 114, 111, 99]) = false := lit_ne e2 (by rw [bl])
  by_cases e3 : t = ⟨#[116, 104, 114, 101, 97, 100, 115]⟩
  · subst e3
    have HB : Hid (memB kws ⟨#[116, 104, 114, 101, 97, 100, 115]⟩ = true) := by show _ = _; decide
    go_enter Tryz.func176, Tryz.ntmps176
    go_wp2
    go_ret
    exact ⟨ret_bool HB.out.symm, rfl⟩
  have f3 : (t.toList == [116, 104, 114, 101, 97, 100, 115]) = false := lit_ne e3 (by rw [bl])
  by_cases e4 : t = ⟨#[105, 102]⟩
  · subst e4
    have HB : Hid (memB kws ⟨#[105, 102]⟩ = true) := by show _ = _; decide
    go_enter Tryz.func176, Tryz.ntmps176
    go_wp2
    go_ret
    exact ⟨ret_bool HB.out.symm, rfl⟩
  have f4 : (t.toList == [105, 102]) = false := lit_ne e4 (by rw [bl])
  by_cases e5 : t = ⟨#[101, 108, 115, 101]⟩
  · subst e5
    have HB : Hid (memB kws ⟨#[101, 108, 115, 101]⟩ = true) := by show _ = _; decide
    go_enter Tryz.func176, Tryz.ntmps176
    go_wp2
    go_ret
    exact ⟨ret_bool HB.out.symm, rfl⟩
  have f5 : (t.toList == [101, 108, 115, 101]) = false := lit_ne e5 (by rw [bl])
  by_cases e6 : t = ⟨#[119, 104, 105, 108, 101]⟩
  · subst e6
    have HB : Hid (memB kws ⟨#[119, 104, 105, 108, 101]⟩ = true) := by show _ = _; decide
    go_enter Tryz.func176, Tryz.ntmps176
    go_wp2
    go_ret
    exact ⟨ret_bool HB.out.symm, rfl⟩
  have f6 : (t.toList == [119, 104, 105, 108, 101]) = false := lit_ne e6 (by rw [bl])
  by_cases e7 : t = ⟨#[97, 115, 115, 117, 109, 101]⟩
  · subst e7
    have HB : Hid (memB kws ⟨#[97, 115, 115, 117, 109, 101]⟩ = true) := by show _ = _; decide
    go_enter Tryz.func176, Tryz.ntmps176
    go_wp2
    go_ret
    exact ⟨ret_bool HB.out.symm, rfl⟩
  have f7 : (t.toList == [97, 115, 115, 117, 109, 101]) = false := lit_ne e7 (by rw [bl])
  by_cases e8 : t = ⟨#[97, 99, 113, 117, 105, 114, 101]⟩
  · subst e8
    have HB : Hid (memB kws ⟨#[97, 99, 113, 117, 105, 114, 101]⟩ = true) := by show _ = _; decide
    go_enter Tryz.func176, Tryz.ntmps176
    go_wp2
    go_ret
    exact ⟨ret_bool HB.out.symm, rfl⟩
  have f8 : (t.toList == [97, 99, 113, 117, 105, 114, 101]) = false := lit_ne e8 (by rw [bl])
  by_cases e9 : t = ⟨#[114, 101, 108, 101, 97, 115, 101]⟩
  · subst e9
    have HB : Hid (memB kws ⟨#[114, 101, 108, 101, 97, 115, 101]⟩ = true) := by show _ = _; decide
    go_enter Tryz.func176, Tryz.ntmps176
    go_wp2
    go_ret
    exact ⟨ret_bool HB.out.symm, rfl⟩
  have f9 : (t.toList == [114, 101, 108, 101, 97, 115, 101]) = false := lit_ne e9 (by rw [bl])
  by_cases e10 : t = ⟨#[114, 101, 116, 117, 114, 110]⟩
  · subst e10
    have HB : Hid (memB kws ⟨#[114, 101, 116, 117, 114, 110]⟩ = true) := by show _ = _; decide
    go_enter Tryz.func176, Tryz.ntmps176
    go_wp2
    go_ret
    exact ⟨ret_bool HB.out.symm, rfl⟩
  have f10 : (t.toList == [114, 101, 116, 117, 114, 110]) = false := lit_ne e10 (by rw [bl])
  by_cases e11 : t = ⟨#[115, 107, 105, 112]⟩
  · subst e11
    have HB : Hid (memB kws ⟨#[115, 107, 105, 112]⟩ = true) := by show _ = _; decide
    go_enter Tryz.func176, Tryz.ntmps176
    go_wp2
    go_ret
    exact ⟨ret_bool HB.out.symm, rfl⟩
  have f11 : (t.toList == [115, 107, 105, 112]) = false := lit_ne e11 (by rw [bl])
  by_cases e12 : t = ⟨#[116, 114, 117, 101]⟩
  · subst e12
    have HB : Hid (memB kws ⟨#[116, 114, 117, 101]⟩ = true) := by show _ = _; decide
    go_enter Tryz.func176, Tryz.ntmps176
    go_wp2
    go_ret
    exact ⟨ret_bool HB.out.symm, rfl⟩
  have f12 : (t.toList == [116, 114, 117, 101]) = false := lit_ne e12 (by rw [bl])
  by_cases e13 : t = ⟨#[102, 97, 108, 115, 101]⟩
  · subst e13
    have HB : Hid (memB kws ⟨#[102, 97, 108, 115, 101]⟩ = true) := by show _ = _; decide
    go_enter Tryz.func176, Tryz.ntmps176
    go_wp2
    go_ret
    exact ⟨ret_bool HB.out.symm, rfl⟩
  have f13 : (t.toList == [102, 97, 108, 115, 101]) = false := lit_ne e13 (by rw [bl])
  have HB : Hid (memB kws t = false) := by
    show _ = _
    unfold memB kws
    simp only [List.any_cons, List.any_nil, Bool.or_false]
    rw [decide_eq_false (fun h => e0 h.symm), decide_eq_false (fun h => e1 h.symm), decide_eq_false (fun h => e2 h.symm), decide_eq_false (fun h => e3 h.symm), decide_eq_false (fun h => e4 h.symm), decide_eq_false (fun h => e5 h.symm), decide_eq_false (fun h => e6 h.symm), decide_eq_false (fun h => e7 h.symm), decide_eq_false (fun h => e8 h.symm), decide_eq_false (fun h => e9 h.symm), decide_eq_false (fun h => e10 h.symm), decide_eq_false (fun h => e11 h.symm), decide_eq_false (fun h => e12 h.symm), decide_eq_false (fun h => e13 h.symm)]
    rfl
  clear e0 e1 e2 e3 e4 e5 e6 e7 e8 e9 e10 e11 e12 e13
  go_enter Tryz.func176, Tryz.ntmps176
  go_wp2
  go_ret
  exact ⟨ret_bool HB.out.symm, rfl⟩

theorem runF_not {s : ByteArray} {k : Nat} (h : k < s.size) (h2 : isLetterB s[k] = false) : runF s k = k := runF_no h h2

set_option maxRecDepth 100000 in
set_option maxHeartbeats 1000000 in
theorem t_lettersAt (s : ByteArray) (i : Nat) (w : World) (hs : s.size ≤ 500) (hi : i < s.size) :
    Calls Tryz.prog 173 #[.string s, .int .i64 i] w fun e w' => e = .returned (.int .i64 ((runF s i - i : Nat) : Int)) ∧ w' = w := by
  go_enter Tryz.func173, Tryz.ntmps173
  go_wp2
  go_loop [5, 6] (fun v u => ∃ k : Nat, u = .int .i64 k ∧ v = .int .i64 ((k - i : Nat) : Int) ∧ i ≤ k ∧ k ≤ s.size ∧ runF s i = runF s k) (fun _ u => s.size - (intOf u).toNat)
  case atStart => exact ⟨i, rfl, by rw [Nat.sub_self]; rfl, Nat.le_refl _, by omega, rfl⟩
  case round =>
    obtain ⟨k, rfl, rfl, h1, h2, h3⟩ := hrel
    have H3 := hide h3
    clear h3
    by_cases hk : k < s.size
    · cases hL : isLetterB s[k]
      · have HE := hide (runF_no hk hL)
        go_wp2_with (go_at_call 175; refine (t_isLetter s[k] _).mono ?_; rintro e w' ⟨rfl, hw'⟩; subst hw')
        go_ret
        exact ⟨ret_int (by rw [H3.out, HE.out]), rfl⟩
      · have HE := hide (runF_yes hk hL)
        go_wp2_with (go_at_call 175; refine (t_isLetter s[k] _).mono ?_; rintro e w' ⟨rfl, hw'⟩; subst hw')
        go_round
        case rel => exact ⟨k + 1, by go_num, by congr 1; omega, by omega, by omega, by rw [H3.out, HE.out]⟩
        case measure => simp [intOf]; omega
    · have HE := hide (runF_out hk)
      go_wp2
      go_ret
      exact ⟨ret_int (by rw [H3.out, HE.out]), rfl⟩

end Go.Proofs.YtmfcpbhdggonfaaGreatDoor
