/- Structs by value: whole loads and stores, results that lie in cells. -/
import Derived.Test.YtmfcpbhdggonfaaGreatDoorMgAD
import Derived.Laws.ResultCell
import Derived.Test.YtmfcpbhdggonfaaGreatDoorMgAA
namespace Go.Proofs.YtmfcpbhdggonfaaGreatDoor
open Go.RowKit

theorem res_cell {fn : Func} {p : Tmp} {ty : TypeId} {tmps : Array Value} {P : Program} {w : World} {b o : Nat} {cs : List Value} {d : TypeDesc} (h : fn.results = #[.cell p ty]) (ht : tmps.getD p undef = .pointer (some ⟨b, o, none⟩)) (hc : w.rangeAt b o cs) (hu : P.underlying ty = some d) (hd : d.isRow = true) (hi : (P.info? ty).map (·.size) = some cs.length) :
    (results fn tmps).run P w = .ok (.agg cs.toArray) w := by
  have h1 : (asAddr (tmps[p]?.getD undef)).run P w = .ok ⟨b, o, none⟩ w := by
    rw [Array.getD_eq_getD_getElem?] at ht
    rw [ht]; simp [asAddr]
  simp only [results, h]
  simp only [Sem.run_bind, Result.andThen, List.mapM_toArray, Array.getD_eq_getD_getElem?]
  simp [Sem.run_bind, Result.andThen, h1, run_loadVar_mid w b o ty cs d hc hu hd hi]
theorem res_cell_tmp {fn : Func} {p u : Tmp} {ty : TypeId} {tmps : Array Value} {P : Program} {w : World} {b o : Nat} {cs : List Value} {d : TypeDesc} {x : Value} (h : fn.results = #[.cell p ty, .tmp u]) (ht : tmps.getD p undef = .pointer (some ⟨b, o, none⟩)) (hx : tmps.getD u undef = x) (hc : w.rangeAt b o cs) (hu : P.underlying ty = some d) (hd : d.isRow = true) (hi : (P.info? ty).map (·.size) = some cs.length) :
    (results fn tmps).run P w = .ok (.tuple #[.agg cs.toArray, x]) w := by
  have h1 : (asAddr (tmps.getD p undef)).run P w = .ok ⟨b, o, none⟩ w := by rw [ht]; simp [asAddr]
  rw [results_cell_tmp h, h1]
  simp [Result.andThen, run_loadVar_mid w b o ty cs d hc hu hd hi, hx]

/-- Where a block stands whole, its cells may be written. -/
theorem there_of_block {w : World} {b : Nat} {C : Array Value} {t : TypeId} (hb : w.heap[b]? = some (.cells C t (0, 0))) {o n : Nat} (hn : o + n ≤ C.size) : w.there b o n := fun j hj => by
  refine ⟨?_, by simp [World.frozen?, hb]⟩
  rw [cell_of_row w b (o + j) C t (0, 0) hb, Array.getElem?_eq_getElem (by omega)]
  rfl
theorem range_of_block {w : World} {b : Nat} {xs : List Value} {t : TypeId} {fr : Nat × Nat} (hb : w.heap[b]? = some (.cells xs.toArray t fr)) {o : Nat} {cs : List Value} (h : ∀ j v, cs[j]? = some v → xs[o + j]? = some v) : w.rangeAt b o cs := fun j v hv => by
  rw [cell_of_row w b (o + j) _ t fr hb]
  simpa using h j v hv
theorem range_whole {w : World} {b : Nat} {xs : List Value} {t : TypeId} {fr : Nat × Nat} (hb : w.heap[b]? = some (.cells xs.toArray t fr)) : w.rangeAt b 0 xs := range_of_block hb fun j v hv => by simpa using hv

/-- A row of cells, some of which are set. -/
def setAll : Array Value → Nat → List Value → Array Value
  | C, _, [] => C
  | C, o, y :: r => setAll (C.setIfInBounds o y) (o + 1) r
theorem setOne_heap {w : World} {B : Nat} {cs : Array Value} {T : TypeId} (h : w.heap[B]? = some (.cells cs T (0, 0))) (o : Nat) (v : Value) : (w.setCell ⟨B, o, none⟩ v).heap[B]? = some (.cells (cs.setIfInBounds o v) T (0, 0)) := by
  simp only [World.setCell, Array.getElem?_modify]
  rw [if_pos trivial, h]
  rfl
theorem setCells_heap {T : TypeId} {b : Nat} : ∀ (ys : List Value) (o : Nat) (w : World) (C : Array Value), w.heap[b]? = some (.cells C T (0, 0)) → (w.setCells b o ys).heap[b]? = some (.cells (setAll C o ys) T (0, 0))
  | [], _, _, _, h => h
  | y :: r, o, _, _, h => setCells_heap r (o + 1) _ _ (setOne_heap h o y)
theorem setCells_other {b k : Nat} (hk : k ≠ b) : ∀ (ys : List Value) (o : Nat) (w : World), (w.setCells b o ys).heap[k]? = w.heap[k]?
  | [], _, _ => rfl
  | y :: r, o, w => (setCells_other hk r (o + 1) _).trans (Below.heap_setCell w ⟨b, o, none⟩ y k hk)
theorem setCells_below {W : World} {B b : Nat} (hb : B ≤ b) : ∀ (ys : List Value) (o : Nat) (w : World), Below B W w → Below B W (w.setCells b o ys)
  | [], _, _, h => h
  | y :: r, o, _, h => setCells_below hb r (o + 1) _ (h.setCell (p := ⟨b, o, none⟩) hb y)
theorem setCells_size {b : Nat} : ∀ (ys : List Value) (o : Nat) (w : World), (w.setCells b o ys).heap.size = w.heap.size
  | [], _, _ => rfl
  | y :: r, o, w => (setCells_size r (o + 1) _).trans (by simp)

theorem setAll_size : ∀ (ys : List Value) (o : Nat) (C : Array Value), (setAll C o ys).size = C.size
  | [], _, _ => rfl
  | y :: r, o, C => (setAll_size r (o + 1) _).trans (by simp)
theorem setAll_get : ∀ (ys : List Value) (o : Nat) (C : Array Value) (j : Nat), (setAll C o ys)[j]? = if o ≤ j ∧ j < o + ys.length ∧ j < C.size then ys[j - o]? else C[j]?
  | [], o, C, j => by rw [if_neg (by simp; omega)]; rfl
  | y :: r, o, C, j => by
    rw [setAll, setAll_get r (o + 1)]
    by_cases h : o = j
    · subst h
      rw [if_neg (by omega), Array.getElem?_setIfInBounds]
      by_cases h2 : o < C.size
      · have h3 : o ≤ o ∧ o < o + (y :: r).length ∧ o < C.size := ⟨Nat.le_refl _, by simp, h2⟩
        rw [if_pos (c := o ≤ o ∧ o < o + (y :: r).length ∧ o < C.size) h3]; simp [h2]
      · rw [if_neg (c := o ≤ o ∧ o < o + (y :: r).length ∧ o < C.size) (fun h => h2 h.2.2)]; simp [h2]
    · by_cases h2 : o + 1 ≤ j ∧ j < o + 1 + r.length ∧ j < C.size
      · rw [if_pos (by simpa using h2), if_pos ⟨by omega, by simp; omega, h2.2.2⟩, show j - o = (j - (o + 1)) + 1 by omega]
        rfl
      · rw [if_neg (by simpa using h2), if_neg (by simp; omega), Array.getElem?_setIfInBounds]
        simp [h]
/-- A part of a row is set anew. -/
theorem setAll_mid (pre mid post new : List Value) (h : new.length = mid.length) : setAll (pre ++ mid ++ post).toArray pre.length new = (pre ++ new ++ post).toArray := by
  apply Array.ext_getElem?
  intro j
  rw [setAll_get]
  simp only [List.getElem?_toArray, List.size_toArray, List.length_append]
  by_cases h1 : j < pre.length
  · rw [if_neg (by omega), List.append_assoc, List.append_assoc, List.getElem?_append_left h1, List.getElem?_append_left h1]
  · by_cases h2 : j < pre.length + mid.length
    · rw [if_pos ⟨by omega, by omega, by omega⟩, List.append_assoc, List.getElem?_append_right (by omega), List.getElem?_append_left (by omega)]
    · rw [if_neg (by omega), List.getElem?_append_right (by simp; omega), List.getElem?_append_right (by simp; omega)]
      simp [h]
theorem setAll_whole (old new : List Value) (h : new.length = old.length) : setAll old.toArray 0 new = new.toArray := by
  have := setAll_mid [] old [] new h
  simpa using this

end Go.Proofs.YtmfcpbhdggonfaaGreatDoor

/- Contracts of the program's packages steps and play: letters, values, frames. -/
namespace Go.Proofs.YtmfcpbhdggonfaaGreatDoor
open Go.RowKit RR

set_option maxHeartbeats 1000000 in
theorem st_Letter (i : Int) (ch : Bool) (w : World) :
    Calls Tryz.prog 197 #[.int .i64 i, .bool ch] w fun e w' => e = .returned (.string (letterF i ch)) ∧ w' = w := by
  by_cases h0 : i = 0
  · subst h0
    cases ch
    all_goals
      go_enter Tryz.func197, Tryz.ntmps197
      go_wp2
      go_ret
      exact ⟨rfl, rfl⟩
  by_cases h1 : i = 1
  · subst h1
    cases ch
    all_goals
      go_enter Tryz.func197, Tryz.ntmps197
      go_wp2
      go_ret
      exact ⟨rfl, rfl⟩
  by_cases h2 : i = 2
  · subst h2
    cases ch
    all_goals
      go_enter Tryz.func197, Tryz.ntmps197
      go_wp2
      go_ret
      exact ⟨rfl, rfl⟩
  · have HE : Hid (letterF i ch = ⟨#[]⟩) := by show _ = _; unfold letterF; rw [if_neg h0, if_neg h1, if_neg h2]
    by_cases hn : i < 0
    · clear h0 h1 h2
      go_enter Tryz.func197, Tryz.ntmps197
      go_wp2
      go_ret
      exact ⟨ret_str HE.out.symm, rfl⟩
    · have hp : 3 ≤ i := by omega
      clear h0 h1 h2
      go_enter Tryz.func197, Tryz.ntmps197
      go_wp2
      go_ret
      exact ⟨ret_str HE.out.symm, rfl⟩

def boL (b : Bool) : List Value := [.bool b]
set_option maxHeartbeats 1000000 in
theorem py_valueAt (ao : Option Addr) (cap : Nat) (vs : List Bool) (i : Int) (w : World) (hi : Flat w ao (vs.flatMap boL)) :
    Calls Tryz.prog 191 #[.slice ao vs.length cap, .int .i64 i] w fun e w' => e = .returned (.bool (valAt vs i)) ∧ w' = w := by
  by_cases h : 0 ≤ i ∧ i < vs.length
  · obtain ⟨k, rfl⟩ := Int.eq_ofNat_of_zero_le h.1
    have hlt : k < vs.length := by omega
    obtain ⟨b, o, hb, hao, hr⟩ := hi.get (f := boL) (n := 1) (fun _ => rfl) (by decide) k hlt
    subst hao
    have c0 : w.cell? ⟨b, o + k * 1, none⟩ = some (.bool vs[k]) := hr 0 _ rfl
    rw [Nat.mul_one] at c0
    have HE : Hid (valAt vs (k : Int) = vs[k]) := by show _ = _; unfold valAt; rw [if_pos h, Int.toNat_natCast, List.getElem?_eq_getElem hlt]; rfl
    clear h hr
    go_enter Tryz.func191, Tryz.ntmps191
    go_wp2
    go_ret
    exact ⟨ret_bool HE.out.symm, rfl⟩
  · have HE : Hid (valAt vs i = false) := by show _ = _; unfold valAt; rw [if_neg h]
    by_cases h0 : i < 0
    · clear h
      go_enter Tryz.func191, Tryz.ntmps191
      go_wp2
      go_ret
      exact ⟨ret_bool HE.out.symm, rfl⟩
    · have h1 : (vs.length : Int) ≤ i := by omega
      clear h
      go_enter Tryz.func191, Tryz.ntmps191
      go_wp2
      go_ret
      exact ⟨ret_bool HE.out.symm, rfl⟩

set_option maxHeartbeats 1000000 in
theorem py_bit (b : Bool) (w : World) : Calls Tryz.prog 155 #[.bool b] w fun e w' => e = .returned (.string (bitF b)) ∧ w' = w := by
  cases b
  all_goals
    go_enter Tryz.func155, Tryz.ntmps155
    go_wp2
    go_ret
    exact ⟨rfl, rfl⟩

set_option maxHeartbeats 1000000 in
theorem py_holderText (h : Int) (w : World) : Calls Tryz.prog 156 #[.int .i64 h] w fun e w' => e = .returned (.string (holderF h)) ∧ w' = w := by
  by_cases h0 : h = 0
  · subst h0
    go_enter Tryz.func156, Tryz.ntmps156
    go_wp2
    go_ret
    exact ⟨rfl, rfl⟩
  · have h1 : (h == 0) = false := beq_eq_false_iff_ne.2 h0
    have HE : Hid (holderF h = letterF (wrap64 (h - 1)) false) := by show _ = _; unfold holderF; rw [if_neg h0]
    clear h0
    go_enter Tryz.func156, Tryz.ntmps156
    go_wp2_with (go_at_call 197; refine (st_Letter _ _ _).mono ?_; rintro e w1 ⟨rfl, rfl⟩)
    go_ret
    exact ⟨ret_str (by rw [HE.out]), rfl⟩

def thrA (t : Thr) : Value := .agg #[.int .i64 t.count, .int .i64 t.f0.line, .bool t.f0.p0, .bool t.f0.p1, .bool t.f0.p2, .int .i64 t.f1.line, .bool t.f1.p0, .bool t.f1.p1, .bool t.f1.p2, .int .i64 t.f2.line, .bool t.f2.p0, .bool t.f2.p1, .bool t.f2.p2, .int .i64 t.f3.line, .bool t.f3.p0, .bool t.f3.p1, .bool t.f3.p2]
def frmA (f : Frm) : Value := .agg #[.int .i64 f.line, .bool f.p0, .bool f.p1, .bool f.p2]
/-- What frame answers. -/
def frmV : Option Frm → Value
  | some f => .tuple #[.agg #[.int .i64 f.line, .bool f.p0, .bool f.p1, .bool f.p2], .bool true]
  | none => .tuple #[.agg #[.int .i64 0, .bool false, .bool false, .bool false], .bool false]

set_option maxRecDepth 100000 in
set_option maxHeartbeats 2000000 in
theorem py_frame (t : Thr) (above : Int) (w : World) :
    Calls Tryz.prog 151 #[thrA t, .int .i64 above] w fun e w' => e = .returned (frmV (frameF t above)) ∧ Below w.heap.size w w' := by
  unfold thrA
  by_cases h : 0 ≤ wrap64 (wrap64 (t.count - 1) - above) ∧ wrap64 (wrap64 (t.count - 1) - above) < 4
  · have HE : Hid (frameF t above = some (t.f (wrap64 (wrap64 (t.count - 1) - above)).toNat)) := by show _ = _; unfold frameF; rw [if_pos h]
    have h4 : wrap64 (wrap64 (t.count - 1) - above) = 0 ∨ wrap64 (wrap64 (t.count - 1) - above) = 1 ∨ wrap64 (wrap64 (t.count - 1) - above) = 2 ∨ wrap64 (wrap64 (t.count - 1) - above) = 3 := by omega
    clear h
    rcases h4 with h | h | h | h
    all_goals
      rw [h] at HE
      go_enter Tryz.func151, Tryz.ntmps151
      go_wp2
      refine bodyPost_ret (v := frmV (frameF t above)) ?_ rfl ⟨rfl, ((Below.refl _ _).alloc (Nat.le_refl _) _).alloc (by simp) _⟩
      rw [HE.out]
      simp [results, Tryz.results151, go_sem, frmV, Thr.f]
  · have HE : Hid (frameF t above = none) := by show _ = _; unfold frameF; rw [if_neg h]
    by_cases h0 : wrap64 (wrap64 (t.count - 1) - above) < 0
    · clear h
      go_enter Tryz.func151, Tryz.ntmps151
      go_wp2
      refine bodyPost_ret (v := frmV (frameF t above)) ?_ rfl ⟨rfl, ((Below.refl _ _).alloc (Nat.le_refl _) _).alloc (by simp) _⟩
      rw [HE.out]
      simp [results, Tryz.results151, go_sem, frmV]
    · have h1 : 4 ≤ wrap64 (wrap64 (t.count - 1) - above) := by omega
      clear h
      go_enter Tryz.func151, Tryz.ntmps151
      go_wp2
      refine bodyPost_ret (v := frmV (frameF t above)) ?_ rfl ⟨rfl, ((Below.refl _ _).alloc (Nat.le_refl _) _).alloc (by simp) _⟩
      rw [HE.out]
      simp [results, Tryz.results151, go_sem, frmV]

end Go.Proofs.YtmfcpbhdggonfaaGreatDoor

/- The grammar's symbols and what they become: plain functions. No Go here. -/
namespace RR

/-- A symbol that is no token, by its number. -/
abbrev NT := Nat
abbrev NT.nNames : NT := 0
abbrev NT.nMore : NT := 1
abbrev NT.nProcs : NT := 2
abbrev NT.nProc : NT := 3
abbrev NT.nParams : NT := 4
abbrev NT.nBlock : NT := 5
abbrev NT.nStmts : NT := 6
abbrev NT.nValues : NT := 7
abbrev NT.nValue : NT := 8
abbrev NT.nShared : NT := 9
abbrev NT.nLocks : NT := 10
abbrev NT.nExpr : NT := 11
abbrev NT.nOr : NT := 12
abbrev NT.nTerm : NT := 13
abbrev NT.nAnd : NT := 14
abbrev NT.nFactor : NT := 15
abbrev NT.nStmt : NT := 16
abbrev NT.nBehind : NT := 17
abbrev NT.nRight : NT := 18
abbrev NT.nLater : NT := 19
abbrev NT.nElse : NT := 20
abbrev NT.nResult : NT := 21

def NT.enc (x : NT) : ByteArray :=
  match x with
  | 0 => ⟨#[78, 65, 77, 69, 83]⟩
  | 1 => ⟨#[77, 79, 82, 69]⟩
  | 2 => ⟨#[80, 82, 79, 67, 83]⟩
  | 3 => ⟨#[80, 82, 79, 67]⟩
  | 4 => ⟨#[80, 65, 82, 65, 77, 83]⟩
  | 5 => ⟨#[66, 76, 79, 67, 75]⟩
  | 6 => ⟨#[83, 84, 77, 84, 83]⟩
  | 7 => ⟨#[86, 65, 76, 85, 69, 83]⟩
  | 8 => ⟨#[86, 65, 76, 85, 69]⟩
  | 9 => ⟨#[83, 72, 65, 82, 69, 68]⟩
  | 10 => ⟨#[76, 79, 67, 75, 83]⟩
  | 11 => ⟨#[69, 88, 80, 82]⟩
  | 12 => ⟨#[79, 82]⟩
  | 13 => ⟨#[84, 69, 82, 77]⟩
  | 14 => ⟨#[65, 78, 68]⟩
  | 15 => ⟨#[70, 65, 67, 84, 79, 82]⟩
  | 16 => ⟨#[83, 84, 77, 84]⟩
  | 17 => ⟨#[66, 69, 72, 73, 78, 68]⟩
  | 18 => ⟨#[82, 73, 71, 72, 84]⟩
  | 19 => ⟨#[76, 65, 84, 69, 82]⟩
  | 20 => ⟨#[69, 76, 83, 69]⟩
  | _ => ⟨#[82, 69, 83, 85, 76, 84]⟩

/-- What a symbol that is no token becomes, with the token t at hand. -/
def becB (x : NT) (t : ByteArray) : List ByteArray :=
  match x with
  | 0 => [⟨#[78, 65, 77, 69]⟩, ⟨#[77, 79, 82, 69]⟩]
  | 1 => if t = ⟨#[44]⟩ then [⟨#[44]⟩, ⟨#[78, 65, 77, 69]⟩, ⟨#[77, 79, 82, 69]⟩] else []
  | 2 => if t = ⟨#[112, 114, 111, 99]⟩ then [⟨#[80, 82, 79, 67]⟩, ⟨#[80, 82, 79, 67, 83]⟩] else []
  | 3 => [⟨#[112, 114, 111, 99]⟩, ⟨#[78, 65, 77, 69]⟩, ⟨#[40]⟩, ⟨#[80, 65, 82, 65, 77, 83]⟩, ⟨#[41]⟩, ⟨#[66, 76, 79, 67, 75]⟩]
  | 4 => if t = ⟨#[41]⟩ then [] else [⟨#[78, 65, 77, 69, 83]⟩]
  | 5 => [⟨#[123]⟩, ⟨#[83, 84, 77, 84, 83]⟩, ⟨#[125]⟩]
  | 6 => if t = ⟨#[125]⟩ then [] else [⟨#[83, 84, 77, 84]⟩, ⟨#[83, 84, 77, 84, 83]⟩]
  | 7 => if t = ⟨#[41]⟩ then [] else [⟨#[69, 88, 80, 82]⟩, ⟨#[86, 65, 76, 85, 69]⟩]
  | 8 => if t = ⟨#[44]⟩ then [⟨#[44]⟩, ⟨#[69, 88, 80, 82]⟩, ⟨#[86, 65, 76, 85, 69]⟩] else []
  | 9 => if t = ⟨#[115, 104, 97, 114, 101, 100]⟩ then [⟨#[115, 104, 97, 114, 101, 100]⟩, ⟨#[78, 65, 77, 69, 83]⟩, ⟨#[59]⟩] else []
  | 10 => if t = ⟨#[108, 111, 99, 107, 115]⟩ then [⟨#[108, 111, 99, 107, 115]⟩, ⟨#[78, 65, 77, 69, 83]⟩, ⟨#[59]⟩] else []
  | 11 => [⟨#[84, 69, 82, 77]⟩, ⟨#[79, 82]⟩]
  | 12 => if t = ⟨#[124]⟩ then [⟨#[124]⟩, ⟨#[84, 69, 82, 77]⟩, ⟨#[79, 82]⟩] else []
  | 13 => [⟨#[70, 65, 67, 84, 79, 82]⟩, ⟨#[65, 78, 68]⟩]
  | 14 => if t = ⟨#[38]⟩ then [⟨#[38]⟩, ⟨#[70, 65, 67, 84, 79, 82]⟩, ⟨#[65, 78, 68]⟩] else []
  | 15 => if t = ⟨#[33]⟩ then [⟨#[33]⟩, ⟨#[70, 65, 67, 84, 79, 82]⟩] else if t = ⟨#[40]⟩ then [⟨#[40]⟩, ⟨#[69, 88, 80, 82]⟩, ⟨#[41]⟩] else if isNameB t = true then [t] else if t = ⟨#[116, 114, 117, 101]⟩ then [⟨#[116, 114, 117, 101]⟩] else if t = ⟨#[102, 97, 108, 115, 101]⟩ then [⟨#[102, 97, 108, 115, 101]⟩] else if t = ⟨#[63]⟩ then [⟨#[63]⟩] else [⟨#[78, 65, 77, 69]⟩]
  | 16 => if isNameB t = true then [⟨#[78, 65, 77, 69]⟩, ⟨#[66, 69, 72, 73, 78, 68]⟩] else if t = ⟨#[105, 102]⟩ then [⟨#[105, 102]⟩, ⟨#[40]⟩, ⟨#[69, 88, 80, 82]⟩, ⟨#[41]⟩, ⟨#[66, 76, 79, 67, 75]⟩, ⟨#[69, 76, 83, 69]⟩] else if t = ⟨#[119, 104, 105, 108, 101]⟩ then [⟨#[119, 104, 105, 108, 101]⟩, ⟨#[40]⟩, ⟨#[69, 88, 80, 82]⟩, ⟨#[41]⟩, ⟨#[66, 76, 79, 67, 75]⟩] else if t = ⟨#[97, 115, 115, 117, 109, 101]⟩ then [⟨#[97, 115, 115, 117, 109, 101]⟩, ⟨#[69, 88, 80, 82]⟩, ⟨#[59]⟩] else if t = ⟨#[97, 99, 113, 117, 105, 114, 101]⟩ then [⟨#[97, 99, 113, 117, 105, 114, 101]⟩, ⟨#[78, 65, 77, 69]⟩, ⟨#[59]⟩] else if t = ⟨#[114, 101, 108, 101, 97, 115, 101]⟩ then [⟨#[114, 101, 108, 101, 97, 115, 101]⟩, ⟨#[78, 65, 77, 69]⟩, ⟨#[59]⟩] else if t = ⟨#[114, 101, 116, 117, 114, 110]⟩ then [⟨#[114, 101, 116, 117, 114, 110]⟩, ⟨#[82, 69, 83, 85, 76, 84]⟩, ⟨#[59]⟩] else [⟨#[115, 107, 105, 112]⟩, ⟨#[59]⟩]
  | 17 => if t = ⟨#[40]⟩ then [⟨#[40]⟩, ⟨#[86, 65, 76, 85, 69, 83]⟩, ⟨#[41]⟩, ⟨#[59]⟩] else [⟨#[61]⟩, ⟨#[82, 73, 71, 72, 84]⟩, ⟨#[59]⟩]
  | 18 => if isNameB t = true then [⟨#[78, 65, 77, 69]⟩, ⟨#[76, 65, 84, 69, 82]⟩] else [⟨#[69, 88, 80, 82]⟩]
  | 19 => if t = ⟨#[40]⟩ then [⟨#[40]⟩, ⟨#[86, 65, 76, 85, 69, 83]⟩, ⟨#[41]⟩] else [⟨#[65, 78, 68]⟩, ⟨#[79, 82]⟩]
  | 20 => if t = ⟨#[101, 108, 115, 101]⟩ then [⟨#[101, 108, 115, 101]⟩, ⟨#[66, 76, 79, 67, 75]⟩] else []
  | _ => if t = ⟨#[59]⟩ then [] else [⟨#[69, 88, 80, 82]⟩]

theorem becB_result (t : ByteArray) : becB .nResult t = if t = ⟨#[59]⟩ then [] else [⟨#[69, 88, 80, 82]⟩] := rfl

def NT.all : List NT := [.nNames, .nMore, .nProcs, .nProc, .nParams, .nBlock, .nStmts, .nValues, .nValue, .nShared, .nLocks, .nExpr, .nOr, .nTerm, .nAnd, .nFactor, .nStmt, .nBehind, .nRight, .nLater, .nElse, .nResult]

theorem NT.inAll (x : NT) : ∃ m ∈ NT.all, m.enc = x.enc := by
  match x with
  | 0 => exact ⟨.nNames, by simp [NT.all], rfl⟩
  | 1 => exact ⟨.nMore, by simp [NT.all], rfl⟩
  | 2 => exact ⟨.nProcs, by simp [NT.all], rfl⟩
  | 3 => exact ⟨.nProc, by simp [NT.all], rfl⟩
  | 4 => exact ⟨.nParams, by simp [NT.all], rfl⟩
  | 5 => exact ⟨.nBlock, by simp [NT.all], rfl⟩
  | 6 => exact ⟨.nStmts, by simp [NT.all], rfl⟩
  | 7 => exact ⟨.nValues, by simp [NT.all], rfl⟩
  | 8 => exact ⟨.nValue, by simp [NT.all], rfl⟩
  | 9 => exact ⟨.nShared, by simp [NT.all], rfl⟩
  | 10 => exact ⟨.nLocks, by simp [NT.all], rfl⟩
  | 11 => exact ⟨.nExpr, by simp [NT.all], rfl⟩
  | 12 => exact ⟨.nOr, by simp [NT.all], rfl⟩
  | 13 => exact ⟨.nTerm, by simp [NT.all], rfl⟩
  | 14 => exact ⟨.nAnd, by simp [NT.all], rfl⟩
  | 15 => exact ⟨.nFactor, by simp [NT.all], rfl⟩
  | 16 => exact ⟨.nStmt, by simp [NT.all], rfl⟩
  | 17 => exact ⟨.nBehind, by simp [NT.all], rfl⟩
  | 18 => exact ⟨.nRight, by simp [NT.all], rfl⟩
  | 19 => exact ⟨.nLater, by simp [NT.all], rfl⟩
  | 20 => exact ⟨.nElse, by simp [NT.all], rfl⟩
  | k + 21 => exact ⟨.nResult, by simp [NT.all], rfl⟩

/-- Which symbol that is no token it is, if any. -/
def ntOf (s : ByteArray) : Option NT := NT.all.find? fun n => decide (n.enc = s)

theorem ntOf_some {s : ByteArray} {n : NT} (h : ntOf s = some n) : s = n.enc := by
  have := List.find?_some h
  exact (of_decide_eq_true this).symm
theorem ntOf_none {s : ByteArray} (h : ntOf s = none) (n : NT) : s ≠ n.enc := by
  intro e
  obtain ⟨m, hm, he⟩ := NT.inAll n
  have := List.find?_eq_none.1 h m hm
  exact this (decide_eq_true (he.trans e.symm))

end RR
