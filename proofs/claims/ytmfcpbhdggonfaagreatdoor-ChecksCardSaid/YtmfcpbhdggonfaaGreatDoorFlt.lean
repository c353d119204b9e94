/- Rows of structs in memory that nobody writes any more: their cells, one after the other. -/
import Derived.Test.YtmfcpbhdggonfaaGreatDoorHide
import Derived.Deep.MidRow
import Derived.Test.YtmfcpbhdggonfaaGreatDoorQarA
namespace Go.Proofs.YtmfcpbhdggonfaaGreatDoor
open Go.RowKit RR

/-- The cells xs lie where the slice begins. -/
def Flat (w : World) (ao : Option Addr) (xs : List Value) : Prop := xs = [] ∨ ∃ b o, b < w.heap.size ∧ ao = some ⟨b, o, none⟩ ∧ w.rangeAt b o xs

theorem Flat.below {w w' : World} {ao : Option Addr} {xs : List Value} (h : Flat w ao xs) (hb : Below w.heap.size w w') : Flat w' ao xs := by
  rcases h with h | ⟨b, o, h1, h2, h3⟩
  · exact .inl h
  · exact .inr ⟨b, o, Nat.lt_of_lt_of_le h1 hb.size, h2, fun j v hv => (hb.cell (p := ⟨b, o + j, none⟩) h1).trans (h3 j v hv)⟩

theorem flatMap_at {α : Type} (f : α → List Value) (n : Nat) (hn : ∀ a, (f a).length = n) : ∀ (l : List α) (i : Nat) (h : i < l.length) (j : Nat), j < n → (l.flatMap f)[i * n + j]? = (f l[i])[j]?
  | [], i, h, j, hj => by simp at h
  | a :: r, 0, h, j, hj => by
    rw [List.flatMap_cons, List.getElem?_append_left (by rw [hn]; omega)]
    simp
  | a :: r, i + 1, h, j, hj => by
    rw [List.flatMap_cons, List.getElem?_append_right (by rw [hn, Nat.succ_mul]; omega)]
    have := flatMap_at f n hn r i (by simpa using h) j hj
    rw [hn, Nat.succ_mul, show i * n + n + j - n = i * n + j by omega, this]
    simp

/-- The i-th struct of a row. -/
theorem Flat.get {α : Type} {f : α → List Value} {n : Nat} (hn : ∀ a, (f a).length = n) (hp : 0 < n) {w : World} {ao : Option Addr} {l : List α} (h : Flat w ao (l.flatMap f)) (i : Nat) (hi : i < l.length) : ∃ b o, b < w.heap.size ∧ ao = some ⟨b, o, none⟩ ∧ w.rangeAt b (o + i * n) (f l[i]) := by
  rcases h with h | ⟨b, o, h1, h2, h3⟩
  · have := flatMap_at f n hn l i hi 0 hp
    have h2 : (f l[i])[0]? = none := by rw [← this, h]; rfl
    have h3 := List.getElem?_eq_none_iff.1 h2
    rw [hn] at h3
    omega
  · refine ⟨b, o, h1, h2, fun j v hv => ?_⟩
    have hj : j < n := by
      have := (List.getElem?_eq_some_iff.1 hv).1
      rw [hn] at this
      exact this
    rw [show o + i * n + j = o + (i * n + j) by omega]
    exact h3 (i * n + j) v ((flatMap_at f n hn l i hi j hj).trans hv)

theorem flat_of_owns {w : World} {base : Nat} {e : TypeId} {size : Nat} {v : Value} {n : Nat} {xs : List Value} (h : w.ownsRow base e size v n xs) : ∃ ao cap, v = .slice ao n cap ∧ Flat w ao xs := by
  obtain ⟨h1, h2 | ⟨g, cap, cur, hv, hb, hh, hcap, hmax, hsz, htk⟩⟩ := h
  · refine ⟨none, 0, ?_, .inl ?_⟩
    · rw [h2.1, h2.2]
    · exact List.eq_nil_of_length_eq_zero (by rw [h1, h2.2, Nat.zero_mul])
  · refine ⟨some ⟨g, 0, none⟩, cap, hv, .inr ⟨g, 0, (Array.getElem?_eq_some_iff.1 hh).1, rfl, fun j x hx => ?_⟩⟩
    have e2 : (cur.toList.take (n * size))[j]? = xs[j]? := by rw [htk]
    have hj := (List.getElem?_eq_some_iff.1 hx).1
    rw [List.getElem?_take_of_lt (by omega), Array.getElem?_toList] at e2
    simp only [World.cell?, hh, Nat.zero_add]
    rw [e2, hx]
    rfl

/-- The nodes and the statements of an outline, as they lie in memory. -/
def ndC (n : Nd) : List Value := [.int .i64 n.sign, .int .i64 n.name, .int .i64 n.left, .int .i64 n.right]
def exC (n : Int × Int) : List Value := [.int .i64 n.1, .int .i64 n.2]
def stC (x : Stm × Value) : List Value := [.int .i64 x.1.kind, .int .i64 x.1.at_, .int .i64 x.1.blk.proc, .int .i64 x.1.blk.owner, .bool x.1.blk.els, .int .i64 x.1.target, .int .i64 x.1.name, x.2]
/-- A slice of the EXPRs of a statement. -/
def ExSl (w : World) (v : Value) (l : List (Int × Int)) : Prop := ∃ ao cap, v = .slice ao l.length cap ∧ Flat w ao (l.flatMap exC)
/-- A slice of statements. -/
def StSl (w : World) (ao : Option Addr) (sts : List Stm) : Prop := ∃ l : List (Stm × Value), l.map Prod.fst = sts ∧ Flat w ao (l.flatMap stC) ∧ ∀ x ∈ l, ExSl w x.2 x.1.vals
def NdSl (w : World) (ao : Option Addr) (l : List Nd) : Prop := Flat w ao (l.flatMap ndC)
theorem ExSl.below {w w' : World} {v : Value} {l : List (Int × Int)} (h : ExSl w v l) (hb : Below w.heap.size w w') : ExSl w' v l := by
  obtain ⟨ao, cap, h1, h2⟩ := h
  exact ⟨ao, cap, h1, h2.below hb⟩
theorem StSl.below {w w' : World} {ao : Option Addr} {l : List Stm} (h : StSl w ao l) (hb : Below w.heap.size w w') : StSl w' ao l := by
  obtain ⟨m, h1, h2, h3⟩ := h
  exact ⟨m, h1, h2.below hb, fun x hx => (h3 x hx).below hb⟩
theorem NdSl.below {w w' : World} {ao : Option Addr} {l : List Nd} (h : NdSl w ao l) (hb : Below w.heap.size w w') : NdSl w' ao l := Flat.below h hb

end Go.Proofs.YtmfcpbhdggonfaaGreatDoor
