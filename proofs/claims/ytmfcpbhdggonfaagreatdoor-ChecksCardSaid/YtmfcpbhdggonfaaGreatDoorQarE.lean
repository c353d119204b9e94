/- Contracts of the program's parser: its small steps. -/
import Derived.Test.YtmfcpbhdggonfaaGreatDoorTokB
import Derived.Test.YtmfcpbhdggonfaaGreatDoorChkG
import Derived.Test.YtmfcpbhdggonfaaGreatDoorQarD
namespace Go.Proofs.YtmfcpbhdggonfaaGreatDoor
open Go.RowKit RR

/-- A slice of the program's tokens. -/
def Tok3 (w : World) (B : Nat) (ao : Option Addr) (L : List Tk) : Prop := ∀ i, (h : i < L.length) → ∃ b o, b < B ∧ ao = some ⟨b, o, none⟩ ∧ w.cell? ⟨b, o + i * 3, none⟩ = some (.string L[i].t) ∧ w.cell? ⟨b, o + i * 3 + 1, none⟩ = some (.int .i64 L[i].p) ∧ w.cell? ⟨b, o + i * 3 + 2, none⟩ = some (.bool (isNameB L[i].t))

theorem Tok3.below {w w' : World} {B : Nat} {ao : Option Addr} {L : List Tk} (h : Tok3 w B ao L) (hb : Below B w w') : Tok3 w' B ao L := fun i hi => by
  obtain ⟨b, o, h1, h2, h3, h4, h5⟩ := h i hi
  exact ⟨b, o, h1, h2, (hb.cell (p := ⟨b, o + i * 3, none⟩) h1).trans h3, (hb.cell (p := ⟨b, o + i * 3 + 1, none⟩) h1).trans h4, (hb.cell (p := ⟨b, o + i * 3 + 2, none⟩) h1).trans h5⟩

def nms : List Nm → List Value
  | [] => []
  | n :: r => .string n.word :: .int .i64 n.at_ :: .int .i64 n.role :: .int .i64 n.proc :: nms r
def cls : List Cl → List Value
  | [] => []
  | n :: r => .string n.word :: .int .i64 n.at_ :: .int .i64 n.values :: cls r

def ndc : List Nd → List Value
  | [] => []
  | n :: r => .int .i64 n.sign :: .int .i64 n.name :: .int .i64 n.left :: .int .i64 n.right :: ndc r
def exc : List (Int × Int) → List Value
  | [] => []
  | n :: r => .int .i64 n.1 :: .int .i64 n.2 :: exc r
/-- A statement's cells; v is the slice of its values. -/
def stc (s : Stm) (v : Value) : List Value := [.int .i64 s.kind, .int .i64 s.at_, .int .i64 s.blk.proc, .int .i64 s.blk.owner, .bool s.blk.els, .int .i64 s.target, .int .i64 s.name, v]
def smc : List (Stm × Value) → List Value
  | [] => []
  | s :: r => stc s.1 s.2 ++ smc r

/-- The statements in memory; the rows of their values lie below the block U. -/
def StAt (B U : Nat) (w : World) (sts : List Stm) (vS : Value) : Prop := ∃ l : List (Stm × Value), l.map Prod.fst = sts ∧ w.ownsRow (B + 1) 202 8 vS l.length (smc l) ∧ ∀ x ∈ l, w.ownsRow 0 248 2 x.2 x.1.vals.length (exc x.1.vals) ∧ ∀ g, x.2.ownBlock = some g → g < U

/-- The parser in memory. -/
structure PSx (B : Nat) (ao : Option Addr) (cap : Nat) (L : List Tk) (U : Nat) (σ : QSt) (vN vC vS vD : Value) (w : World) : Prop where
  blk : w.heap[B]? = some (.cells #[.slice ao L.length cap, .int .i64 σ.p.next, .int .i64 σ.p.depth, .int .i64 σ.p.proc, .bool σ.p.failed, vN, vC, vS, vD] 231 (0, 0))
  tok : Tok3 w B ao L
  nm : w.ownsRow (B + 1) 186 4 vN σ.p.names.length (nms σ.p.names)
  cl : w.ownsRow (B + 1) 286 3 vC σ.p.calls.length (cls σ.p.calls)
  nd : w.ownsRow (B + 1) 190 4 vD σ.nds.length (ndc σ.nds)
  st : StAt B U w σ.sts vS
  le : σ.p.next ≤ L.length
  inv : Inv σ.p
def PS (B : Nat) (ao : Option Addr) (cap : Nat) (L : List Tk) (U : Nat) (σ : QSt) (vS : Value) (w : World) : Prop := ∃ vN vC vD, PSx B ao cap L U σ vN vC vS vD w

/-- Of what there was, only the parser, names, calls and nodes may have turned. -/
structure Kp (B : Nat) (w w' : World) : Prop where
  bel : Below B w w'
  keep : ∀ (k : Nat) (c : Array Value) (T : TypeId) (f : Nat × Nat), w.heap[k]? = some (Obj.cells c T f) → T ≠ 231 → T ≠ 186 → T ≠ 286 → T ≠ 190 → w'.heap[k]? = some (Obj.cells c T f)

theorem Kp.refl (B : Nat) (w : World) : Kp B w w := ⟨Below.refl _ _, fun _ _ _ _ h _ _ _ _ => h⟩
theorem Kp.trans {B : Nat} {a b c : World} (h : Kp B a b) (k : Kp B b c) : Kp B a c := ⟨h.bel.trans k.bel, fun n x T f h0 h1 h2 h3 h4 => k.keep n x T f (h.keep n x T f h0 h1 h2 h3 h4) h1 h2 h3 h4⟩
theorem Kp.of_below {B : Nat} {w w' : World} (h : Below w.heap.size w w') (hB : B ≤ w.heap.size) : Kp B w w' :=
  ⟨h.mono hB, fun k _ _ _ h0 _ _ _ _ => (h.block k (Array.getElem?_eq_some_iff.1 h0).1).trans h0⟩

/-- A row stands where its block does. -/
theorem owns_keep {w w' : World} {base : Nat} {e : TypeId} {size : Nat} {v : Value} {n : Nat} {xs : List Value} (h : w.ownsRow base e size v n xs) (hk : ∀ (k : Nat) (c : Array Value) (f : Nat × Nat), w.heap[k]? = some (Obj.cells c e f) → some k = v.ownBlock → w'.heap[k]? = some (Obj.cells c e f)) : w'.ownsRow base e size v n xs := by
  refine ⟨h.1, ?_⟩
  rcases h.2 with hc | ⟨g, cp, cur, hv, hg, hh, r⟩
  · exact .inl hc
  · exact .inr ⟨g, cp, cur, hv, hg, hk g cur (0, 0) hh (by rw [hv]; rfl), r⟩
theorem StAt.keep {B U : Nat} {w w' : World} {sts : List Stm} {vS : Value} (h : StAt B U w sts vS) (h1 : ∀ (k : Nat) (c : Array Value) (f : Nat × Nat), w.heap[k]? = some (Obj.cells c 202 f) → some k = vS.ownBlock → w'.heap[k]? = some (Obj.cells c 202 f)) (h2 : ∀ (k : Nat) (c : Array Value) (f : Nat × Nat), k < U → w.heap[k]? = some (Obj.cells c 248 f) → w'.heap[k]? = some (Obj.cells c 248 f)) : StAt B U w' sts vS := by
  obtain ⟨l, e, o, v⟩ := h
  exact ⟨l, e, owns_keep o h1, fun x hx => ⟨owns_keep (v x hx).1 (fun k c f hk e => h2 k c f ((v x hx).2 k e.symm) hk), (v x hx).2⟩⟩
theorem StAt.kp {B U : Nat} {w w' : World} {sts : List Stm} {vS : Value} (h : StAt B U w sts vS) (k : Kp B w w') : StAt B U w' sts vS :=
  h.keep (fun n c f hk _ => k.keep n c _ f hk (by decide) (by decide) (by decide) (by decide)) (fun n c f _ hk => k.keep n c _ f hk (by decide) (by decide) (by decide) (by decide))
theorem StAt.fresh {B U : Nat} {w : World} {sts : List Stm} {vS : Value} (h : StAt B U w sts vS) : StAt B w.heap.size w sts vS := by
  obtain ⟨l, e, o, v⟩ := h
  exact ⟨l, e, o, fun x hx => ⟨(v x hx).1, fun g hg => ((v x hx).1.lt g hg).2⟩⟩

theorem PSx.lt {B : Nat} {ao : Option Addr} {cap : Nat} {L : List Tk} {U : Nat} {σ : QSt} {vN vC vS vD : Value} {w : World} (h : PSx B ao cap L U σ vN vC vS vD w) : B < w.heap.size := (Array.getElem?_eq_some_iff.1 h.blk).1
theorem PS.lt {B : Nat} {ao : Option Addr} {cap : Nat} {L : List Tk} {U : Nat} {σ : QSt} {vS : Value} {w : World} (h : PS B ao cap L U σ vS w) : B < w.heap.size := by obtain ⟨_, _, _, h⟩ := h; exact h.lt
theorem PS.le {B : Nat} {ao : Option Addr} {cap : Nat} {L : List Tk} {U : Nat} {σ : QSt} {vS : Value} {w : World} (h : PS B ao cap L U σ vS w) : σ.p.next ≤ L.length := by obtain ⟨_, _, _, h⟩ := h; exact h.le
theorem PS.inv {B : Nat} {ao : Option Addr} {cap : Nat} {L : List Tk} {U : Nat} {σ : QSt} {vS : Value} {w : World} (h : PS B ao cap L U σ vS w) : Inv σ.p := by obtain ⟨_, _, _, h⟩ := h; exact h.inv
theorem PSx.below {B : Nat} {ao : Option Addr} {cap : Nat} {L : List Tk} {U : Nat} {σ : QSt} {vN vC vS vD : Value} {w w' : World} (h : PSx B ao cap L U σ vN vC vS vD w) (hb : Below w.heap.size w w') : PSx B ao cap L U σ vN vC vS vD w' :=
  ⟨(hb.block B h.lt).trans h.blk, h.tok.below (hb.mono (Nat.le_of_lt h.lt)), owns_below h.nm hb, owns_below h.cl hb, owns_below h.nd hb, h.st.kp (Kp.of_below hb (Nat.le_of_lt h.lt)), h.le, h.inv⟩
theorem PS.below {B : Nat} {ao : Option Addr} {cap : Nat} {L : List Tk} {U : Nat} {σ : QSt} {vS : Value} {w w' : World} (h : PS B ao cap L U σ vS w) (hb : Below w.heap.size w w') : PS B ao cap L U σ vS w' := by
  obtain ⟨a, b, c, h⟩ := h; exact ⟨a, b, c, h.below hb⟩

theorem PS.fresh {B : Nat} {ao : Option Addr} {cap : Nat} {L : List Tk} {U : Nat} {σ : QSt} {vS : Value} {w : World} (h : PS B ao cap L U σ vS w) : PS B ao cap L w.heap.size σ vS w := by
  obtain ⟨a, b, c, h⟩ := h
  exact ⟨a, b, c, h.blk, h.tok, h.nm, h.cl, h.nd, h.st.fresh, h.le, h.inv⟩

theorem PSx.cells {B : Nat} {ao : Option Addr} {cap : Nat} {L : List Tk} {U : Nat} {σ : QSt} {vN vC vS vD : Value} {w : World} (h : PSx B ao cap L U σ vN vC vS vD w) : w.cell? ⟨B, 0, none⟩ = some (.slice ao L.length cap) ∧ w.cell? ⟨B, 1, none⟩ = some (.int .i64 σ.p.next) ∧ w.cell? ⟨B, 2, none⟩ = some (.int .i64 σ.p.depth) ∧ w.cell? ⟨B, 3, none⟩ = some (.int .i64 σ.p.proc) ∧ w.cell? ⟨B, 4, none⟩ = some (.bool σ.p.failed) ∧ w.cell? ⟨B, 5, none⟩ = some vN ∧ w.cell? ⟨B, 6, none⟩ = some vC ∧ w.cell? ⟨B, 7, none⟩ = some vS ∧ w.cell? ⟨B, 8, none⟩ = some vD ∧ (∀ i, w.frozen? ⟨B, i, none⟩ = false) := by
  have hh := h.blk
  refine ⟨?_, ?_, ?_, ?_, ?_, ?_, ?_, ?_, ?_, fun i => ?_⟩ <;> simp [World.cell?, World.frozen?, hh]

set_option maxRecDepth 100000 in
set_option maxHeartbeats 1000000 in
theorem s_ahead {B : Nat} {ao : Option Addr} {cap : Nat} {L : List Tk} {U : Nat} {σ : QSt} {vS : Value} (n : Nat) (w : World) (hL : L.length ≤ 500) (hn : n ≤ 1) (h : PS B ao cap L U σ vS w) :
    Calls Tryz.prog 207 #[.pointer (some ⟨B, 0, none⟩), .int .i64 n] w fun e w' => e = .returned (.agg #[.string (σ.p.ahead L n).t, .int .i64 (σ.p.ahead L n).p, .bool (isNameB (σ.p.ahead L n).t)]) ∧ Below w.heap.size w w' := by
  obtain ⟨vN, vC, vD, h⟩ := h
  obtain ⟨c0, c1, c2, c3, c4, c5, c6, c7, c8, hf⟩ := h.cells
  have hle := h.le
  have hlt := h.lt
  have he : isNameB (⟨#[]⟩ : ByteArray) = false := isName_empty rfl
  cases hfl : σ.p.failed
  · rw [hfl] at c4
    by_cases h2 : σ.p.next + n < L.length
    · obtain ⟨b, o, hb, hao, t1, t2, t3⟩ := h.tok (σ.p.next + n) h2
      subst hao
      have HA := hide (ahead_in hfl h2)
      have g2 : (σ.p.next : Int) + n < L.length := by omega
      have hbw : b < w.heap.size := by omega
      clear h hf
      go_enter Tryz.func207, Tryz.ntmps207
      go_wp2_with fail
      exact bodyPost_ret (v := .agg #[.string L[σ.p.next + n].t, .int .i64 L[σ.p.next + n].p, .bool (isNameB L[σ.p.next + n].t)]) (by simp [results, Tryz.results207, go_sem]) rfl ⟨by rw [HA.out], (Below.refl _ _).alloc (Nat.le_refl _) _⟩
    · have HA := hide (ahead_out (σ := σ.p) h2)
      have g2 : (L.length : Int) ≤ (σ.p.next : Int) + n := by omega
      clear h hf
      go_enter Tryz.func207, Tryz.ntmps207
      go_wp2_with fail
      exact bodyPost_ret (v := .agg #[.string ⟨#[]⟩, .int .i64 0, .bool false]) (by simp [results, Tryz.results207, go_sem]) rfl ⟨by rw [HA.out]; show _ = Ending.returned (.agg #[.string ⟨#[]⟩, .int .i64 ((0 : Nat) : Int), .bool (isNameB ⟨#[]⟩)]); rw [he]; rfl, (Below.refl _ _).alloc (Nat.le_refl _) _⟩
  · rw [hfl] at c4
    have HA := hide (ahead_failed (L := L) (n := n) hfl)
    clear h hf
    go_enter Tryz.func207, Tryz.ntmps207
    go_wp2_with fail
    exact bodyPost_ret (v := .agg #[.string ⟨#[]⟩, .int .i64 0, .bool false]) (by simp [results, Tryz.results207, go_sem]) rfl ⟨by rw [HA.out]; show _ = Ending.returned (.agg #[.string ⟨#[]⟩, .int .i64 ((0 : Nat) : Int), .bool (isNameB ⟨#[]⟩)]); rw [he]; rfl, (Below.refl _ _).alloc (Nat.le_refl _) _⟩

set_option maxHeartbeats 1000000 in
theorem s_sees {B : Nat} {ao : Option Addr} {cap : Nat} {L : List Tk} {U : Nat} {σ : QSt} {vS : Value} (t : ByteArray) (w : World) (hL : L.length ≤ 500) (h : PS B ao cap L U σ vS w) :
    Calls Tryz.prog 181 #[.pointer (some ⟨B, 0, none⟩), .string t] w fun e w' => e = .returned (.bool (σ.p.sees L t)) ∧ Below w.heap.size w w' := by
  have HS : Hid (σ.p.sees L t = ((σ.p.ahead L 0).t.toList == t.toList)) := by show _ = _; unfold PSt.sees; rw [seq_comm]
  go_enter Tryz.func181, Tryz.ntmps181
  go_wp2_with fail
  refine (s_ahead 0 _ hL (by omega) h).mono ?_
  rintro e w1 ⟨rfl, hb1⟩
  go_wp2_with fail
  go_ret
  exact ⟨ret_bool HS.out.symm, hb1.alloc hb1.size _⟩

set_option maxHeartbeats 1000000 in
theorem s_seesCall {B : Nat} {ao : Option Addr} {cap : Nat} {L : List Tk} {U : Nat} {σ : QSt} {vS : Value} (w : World) (hL : L.length ≤ 500) (h : PS B ao cap L U σ vS w) :
    Calls Tryz.prog 228 #[.pointer (some ⟨B, 0, none⟩)] w fun e w' => e = .returned (.bool (σ.p.seesCall L)) ∧ Below w.heap.size w w' := by
  have HS : Hid (σ.p.seesCall L = (isNameB (σ.p.ahead L 0).t && ((σ.p.ahead L 1).t.toList == [40]))) := by show _ = _; unfold PSt.seesCall; rw [lit_eq _ _ _ l40]
  go_enter Tryz.func228, Tryz.ntmps228
  go_wp2_with fail
  refine (s_ahead 0 _ hL (by omega) h).mono ?_
  rintro e w1 ⟨rfl, hb1⟩
  have hb1' : ∀ ob, Below w.heap.size w (w1.alloc ob) := fun ob => hb1.alloc hb1.size ob
  have hz1 := hb1.size
  go_wp2_with fail
  refine (s_ahead 1 _ hL (by omega) (h.below (hb1' _))).mono ?_
  rintro e w2 ⟨rfl, hb2⟩
  have hx := (hb2.cell (p := ⟨w1.heap.size, 2, none⟩) (by simp))
  have hz2 := hb2.size
  simp at hx hz2
  have hz3 : w1.heap.size < w2.heap.size := by omega
  have hbel := (hb1' _).trans (hb2.mono (by simp; omega))
  clear hb1'
  cases hN : isNameB (σ.p.ahead L 0).t
  · rw [hN] at hx
    go_wp2_with fail
    go_ret
    exact ⟨ret_bool (by rw [HS.out, hN]; rfl), hbel.alloc hbel.size _⟩
  · rw [hN] at hx
    go_wp2_with fail
    go_ret
    exact ⟨ret_bool (by rw [HS.out, hN]; rfl), hbel.alloc hbel.size _⟩

/-- A store into one of the parser's plain fields. -/
theorem ps_set {B : Nat} {ao : Option Addr} {cap : Nat} {L : List Tk} {U : Nat} {σ : QSt} {q : PSt} {vN vC vS vD : Value} {w : World} (h : PSx B ao cap L U σ vN vC vS vD w) (i : Nat) (v : Value)
    (hb : (#[.slice ao L.length cap, .int .i64 σ.p.next, .int .i64 σ.p.depth, .int .i64 σ.p.proc, .bool σ.p.failed, vN, vC, vS, vD] : Array Value).setIfInBounds i v = #[.slice ao L.length cap, .int .i64 q.next, .int .i64 q.depth, .int .i64 q.proc, .bool q.failed, vN, vC, vS, vD])
    (hn : q.names = σ.p.names) (hc : q.calls = σ.p.calls) (hle : q.next ≤ L.length) (hinv : Inv q) : PS B ao cap L U (σ.setp q) vS (w.setCell ⟨B, i, none⟩ v) ∧ Kp B w (w.setCell ⟨B, i, none⟩ v) := by
  have hbel : Below B w (w.setCell ⟨B, i, none⟩ v) := (Below.refl _ _).setCell (p := ⟨B, i, none⟩) (Nat.le_refl B) _
  have kp : Kp B w (w.setCell ⟨B, i, none⟩ v) := ⟨hbel, fun k c T f hk h1 _ _ _ => by
    have hne : k ≠ B := by
      intro e
      subst e
      rw [h.blk] at hk
      simp at hk
      exact h1 hk.2.1.symm
    rw [Below.heap_setCell w ⟨B, i, none⟩ v k hne]; exact hk⟩
  refine ⟨⟨vN, vC, vD, ?_, h.tok.below hbel, ?_, ?_, ?_, h.st.kp kp, hle, hinv⟩, kp⟩
  · rw [cts_set h.blk i v, hb]; rfl
  · show World.ownsRow _ (B + 1) _ 4 vN q.names.length (nms q.names)
    rw [hn]; exact ownsRow_setCell_below h.nm (Nat.lt_succ_self B) v
  · show World.ownsRow _ (B + 1) _ 3 vC q.calls.length (cls q.calls)
    rw [hc]; exact ownsRow_setCell_below h.cl (Nat.lt_succ_self B) v
  · exact ownsRow_setCell_below h.nd (Nat.lt_succ_self B) v

theorem ps_fail {B : Nat} {ao : Option Addr} {cap : Nat} {L : List Tk} {U : Nat} {σ : QSt} {vN vC vS vD : Value} {w : World} (h : PSx B ao cap L U σ vN vC vS vD w) : PS B ao cap L U (σ.setp σ.p.fail) vS (w.setCell ⟨B, 4, none⟩ (.bool true)) ∧ Kp B w (w.setCell ⟨B, 4, none⟩ (.bool true)) :=
  ps_set h 4 _ rfl rfl rfl h.le (inv_fail h.inv)
theorem ps_step {B : Nat} {ao : Option Addr} {cap : Nat} {L : List Tk} {U : Nat} {σ : QSt} {vN vC vS vD : Value} {w : World} (h : PSx B ao cap L U σ vN vC vS vD w) (hlt : σ.p.next < L.length) : PS B ao cap L U (σ.setp σ.p.step) vS (w.setCell ⟨B, 1, none⟩ (.int .i64 ((σ.p.next : Int) + 1))) ∧ Kp B w (w.setCell ⟨B, 1, none⟩ (.int .i64 ((σ.p.next : Int) + 1))) :=
  ps_set h 1 _ rfl rfl rfl hlt (inv_step h.inv)

set_option maxHeartbeats 1000000 in
theorem s_take {B : Nat} {ao : Option Addr} {cap : Nat} {L : List Tk} {U : Nat} {σ : QSt} {vS : Value} (t : ByteArray) (w : World) (hL : L.length ≤ 500) (ht : t ≠ ⟨#[]⟩) (h : PS B ao cap L U σ vS w) :
    Calls Tryz.prog 179 #[.pointer (some ⟨B, 0, none⟩), .string t] w fun e w' => e = .returned (.tuple #[]) ∧ PS B ao cap L U (σ.setp (σ.p.take L t)) vS w' ∧ Kp B w w' := by
  have hle := h.le
  have hlt := h.lt
  cases hs : σ.p.sees L t
  · have HT : Hid (σ.p.take L t = σ.p.fail) := by show _ = _; unfold PSt.take; rw [hs]; rfl
    go_enter Tryz.func179, Tryz.ntmps179
    go_wp2_with fail
    refine (s_sees t _ hL h).mono ?_
    rintro e w1 ⟨rfl, hb1⟩
    have h1 := h.below hb1
    obtain ⟨vN, vC, vD, h1⟩ := h1
    obtain ⟨c0, c1, c2, c3, c4, c5, c6, c7, c8, hf⟩ := h1.cells
    have f4 := hf 4
    clear hf
    go_wp2_with fail
    exact bodyPost_ret (v := .tuple #[]) (by simp [results, Tryz.results179, go_sem]) rfl ⟨rfl, by rw [HT.out]; exact (ps_fail h1).1, (Kp.of_below hb1 (Nat.le_of_lt hlt)).trans (ps_fail h1).2⟩
  · have HT : Hid (σ.p.take L t = σ.p.step) := by show _ = _; unfold PSt.take; rw [hs]; rfl
    have hnx := (sees_lt ht hs).1
    go_enter Tryz.func179, Tryz.ntmps179
    go_wp2_with fail
    refine (s_sees t _ hL h).mono ?_
    rintro e w1 ⟨rfl, hb1⟩
    have h1 := h.below hb1
    obtain ⟨vN, vC, vD, h1⟩ := h1
    obtain ⟨c0, c1, c2, c3, c4, c5, c6, c7, c8, hf⟩ := h1.cells
    have f1 := hf 1
    clear hf
    go_wp2_with fail
    go_end0
    exact ⟨rfl, by rw [HT.out]; exact (ps_step h1 hnx).1, (Kp.of_below hb1 (Nat.le_of_lt hlt)).trans (ps_step h1 hnx).2⟩

set_option maxHeartbeats 1000000 in
theorem s_accept {B : Nat} {ao : Option Addr} {cap : Nat} {L : List Tk} {U : Nat} {σ : QSt} {vS : Value} (t : ByteArray) (w : World) (hL : L.length ≤ 500) (ht : t ≠ ⟨#[]⟩) (h : PS B ao cap L U σ vS w) :
    Calls Tryz.prog 177 #[.pointer (some ⟨B, 0, none⟩), .string t] w fun e w' => e = .returned (.bool (σ.p.sees L t)) ∧ PS B ao cap L U (if σ.p.sees L t then σ.setp σ.p.step else σ) vS w' ∧ Kp B w w' := by
  have hle := h.le
  have hlt := h.lt
  cases hs : σ.p.sees L t
  · go_enter Tryz.func177, Tryz.ntmps177
    go_wp2_with fail
    refine (s_sees t _ hL h).mono ?_
    rintro e w1 ⟨rfl, hb1⟩
    have h1 := h.below hb1
    go_wp2_with fail
    go_ret
    exact ⟨rfl, h1, Kp.of_below hb1 (Nat.le_of_lt hlt)⟩
  · have hnx := (sees_lt ht hs).1
    go_enter Tryz.func177, Tryz.ntmps177
    go_wp2_with fail
    refine (s_sees t _ hL h).mono ?_
    rintro e w1 ⟨rfl, hb1⟩
    have h1 := h.below hb1
    obtain ⟨vN, vC, vD, h1⟩ := h1
    obtain ⟨c0, c1, c2, c3, c4, c5, c6, c7, c8, hf⟩ := h1.cells
    have f1 := hf 1
    clear hf
    go_wp2_with fail
    go_ret
    exact ⟨rfl, (ps_step h1 hnx).1, (Kp.of_below hb1 (Nat.le_of_lt hlt)).trans (ps_step h1 hnx).2⟩

end Go.Proofs.YtmfcpbhdggonfaaGreatDoor
