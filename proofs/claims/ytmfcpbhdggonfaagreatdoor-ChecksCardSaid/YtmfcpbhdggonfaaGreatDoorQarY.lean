/- The program's parser in memory: a statement that is being read. -/
import Derived.Test.YtmfcpbhdggonfaaGreatDoorQarI
namespace Go.Proofs.YtmfcpbhdggonfaaGreatDoor
open Go.RowKit RR

/-- A statement in a box of its own, with the row of its values. -/
structure BX (S : Nat) (s : Stm) (vV : Value) (w : World) : Prop where
  blk : w.heap[S]? = some (.cells #[.int .i64 s.kind, .int .i64 s.at_, .int .i64 s.blk.proc, .int .i64 s.blk.owner, .bool s.blk.els, .int .i64 s.target, .int .i64 s.name, vV] 202 (0, 0))
  row : w.ownsRow (S + 1) 248 2 vV s.vals.length (exc s.vals)
theorem BX.kp {B S : Nat} {s : Stm} {vV : Value} {w w' : World} (h : BX S s vV w) (k : Kp B w w') : BX S s vV w' :=
  ⟨k.keep S _ _ _ h.blk (by decide) (by decide) (by decide) (by decide), owns_keep h.row (fun n c f hk _ => k.keep n c _ f hk (by decide) (by decide) (by decide) (by decide))⟩
theorem BX.below {S : Nat} {s : Stm} {vV : Value} {w w' : World} (h : BX S s vV w) (hb : Below w.heap.size w w') : BX S s vV w' := h.kp (B := 0) (Kp.of_below hb (Nat.zero_le _))
theorem BX.lt {S : Nat} {s : Stm} {vV : Value} {w : World} (h : BX S s vV w) : S < w.heap.size := (Array.getElem?_eq_some_iff.1 h.blk).1
theorem BX.cells {S : Nat} {s : Stm} {vV : Value} {w : World} (h : BX S s vV w) : w.cell? ⟨S, 0, none⟩ = some (.int .i64 s.kind) ∧ w.cell? ⟨S, 1, none⟩ = some (.int .i64 s.at_) ∧ w.cell? ⟨S, 2, none⟩ = some (.int .i64 s.blk.proc) ∧ w.cell? ⟨S, 3, none⟩ = some (.int .i64 s.blk.owner) ∧ w.cell? ⟨S, 4, none⟩ = some (.bool s.blk.els) ∧ w.cell? ⟨S, 5, none⟩ = some (.int .i64 s.target) ∧ w.cell? ⟨S, 6, none⟩ = some (.int .i64 s.name) ∧ w.cell? ⟨S, 7, none⟩ = some vV ∧ (∀ i, w.frozen? ⟨S, i, none⟩ = false) := by
  have hh := h.blk
  refine ⟨?_, ?_, ?_, ?_, ?_, ?_, ?_, ?_, fun i => ?_⟩ <;> simp [World.cell?, World.frozen?, hh]

/-- Of what there was, only the parser, names, calls, nodes, the box and the row of its values may have turned. -/
structure KpS (B S : Nat) (vV : Value) (w : World) (vV' : Value) (w' : World) : Prop where
  bel : Below B w w'
  keep : ∀ (k : Nat) (c : Array Value) (T : TypeId) (f : Nat × Nat), w.heap[k]? = some (Obj.cells c T f) → T ≠ 231 → T ≠ 186 → T ≠ 286 → T ≠ 190 → k ≠ S → some k ≠ vV.ownBlock → w'.heap[k]? = some (Obj.cells c T f)
  own : vV'.ownBlock = vV.ownBlock ∨ ∀ g, vV'.ownBlock = some g → w.heap.size ≤ g
theorem Kp.s {B : Nat} {w w' : World} (h : Kp B w w') (S : Nat) (vV : Value) : KpS B S vV w vV w' := ⟨h.bel, fun k c T f h0 h1 h2 h3 h4 _ _ => h.keep k c T f h0 h1 h2 h3 h4, .inl rfl⟩
theorem KpS.trans {B S : Nat} {u v x : Value} {a b c : World} (h : KpS B S u a v b) (k : KpS B S v b x c) : KpS B S u a x c := by
  have hsz := h.bel.size
  refine ⟨h.bel.trans k.bel, fun n cs T f h0 h1 h2 h3 h4 h5 h6 => ?_, ?_⟩
  · refine k.keep n cs T f (h.keep n cs T f h0 h1 h2 h3 h4 h5 h6) h1 h2 h3 h4 h5 (fun e => ?_)
    rcases h.own with h7 | h7
    · rw [h7] at e; exact h6 e
    · have := h7 n e.symm
      have := (Array.getElem?_eq_some_iff.1 h0).1
      omega
  · rcases k.own with k1 | k1
    · rw [k1]; exact h.own
    · exact .inr fun g hg => by have := k1 g hg; omega

/-- What turns when the box or the row of its values is written. -/
structure FS (S : Nat) (vV : Value) (w w' : World) : Prop where
  bel : Below S w w'
  blk : ∀ k, k < w.heap.size → k ≠ S → some k ≠ vV.ownBlock → w'.heap[k]? = w.heap[k]?

theorem BX.ne {S : Nat} {s : Stm} {vV : Value} {w : World} (h : BX S s vV w) {k : Nat} {c : Array Value} {T : TypeId} {f : Nat × Nat} (hk : w.heap[k]? = some (Obj.cells c T f)) (h1 : T ≠ 202) (h2 : T ≠ 248) : k ≠ S ∧ some k ≠ vV.ownBlock := by
  refine ⟨fun e => ?_, fun e => ?_⟩
  · subst e
    rw [h.blk] at hk
    simp at hk
    exact h1 hk.2.1.symm
  · rcases h.row.2 with ⟨hv, _⟩ | ⟨g, cp, cur, hv, hg, hh, _⟩
    · rw [hv] at e; simp [Value.ownBlock] at e
    · rw [hv] at e
      simp [Value.ownBlock] at e
      subst e
      rw [hh] at hk
      simp at hk
      exact h2 hk.2.1.symm
theorem BX.hi {S : Nat} {s : Stm} {vV : Value} {w : World} (h : BX S s vV w) {k : Nat} (hk : k ≤ S) : some k ≠ vV.ownBlock := fun e => by
  have := (h.row.lt k e.symm).1; omega

theorem ps_fs {B : Nat} {ao : Option Addr} {cap : Nat} {L : List Tk} {U : Nat} {σ : QSt} {vS : Value} {S : Nat} {s : Stm} {vV : Value} {w w' : World} (h : PS B ao cap L U σ vS w) (hx : BX S s vV w) (hf : FS S vV w w') (hU : U ≤ S) (hB : B < S) (hvS : vS.ownBlock ≠ some S) : PS B ao cap L U σ vS w' := by
  obtain ⟨vN, vC, vD, h⟩ := h
  have lt : ∀ {k : Nat} {c : Array Value} {T : TypeId} {f : Nat × Nat}, w.heap[k]? = some (Obj.cells c T f) → k < w.heap.size := fun hk => (Array.getElem?_eq_some_iff.1 hk).1
  refine ⟨vN, vC, vD, (hf.bel.block B hB).trans h.blk, h.tok.below (hf.bel.mono (Nat.le_of_lt hB)), ?_, ?_, ?_, h.st.keep ?_ ?_, h.le, h.inv⟩
  · exact owns_keep h.nm (fun k c f hk _ => by have := hx.ne hk (by decide) (by decide); rw [hf.blk k (lt hk) this.1 this.2]; exact hk)
  · exact owns_keep h.cl (fun k c f hk _ => by have := hx.ne hk (by decide) (by decide); rw [hf.blk k (lt hk) this.1 this.2]; exact hk)
  · exact owns_keep h.nd (fun k c f hk _ => by have := hx.ne hk (by decide) (by decide); rw [hf.blk k (lt hk) this.1 this.2]; exact hk)
  · intro k c f hk e
    have h1 : k ≠ S := fun e2 => hvS (by rw [← e, e2])
    have h2 : some k ≠ vV.ownBlock := fun e2 => by
      rcases hx.row.2 with ⟨hv, _⟩ | ⟨g, cp, cur, hv, hg, hh, _⟩
      · rw [hv] at e2; simp [Value.ownBlock] at e2
      · rw [hv] at e2
        simp [Value.ownBlock] at e2
        subst e2
        rw [hh] at hk
        simp at hk
    rw [hf.blk k (lt hk) h1 h2]; exact hk
  · intro k c f hkU hk
    rw [hf.blk k (lt hk) (by omega) (hx.hi (by omega))]; exact hk
theorem FS.kps {B S : Nat} {vV vV' : Value} {w w' : World} (h : FS S vV w w') (hB : B ≤ S) (ho : vV'.ownBlock = vV.ownBlock ∨ ∀ g, vV'.ownBlock = some g → w.heap.size ≤ g) : KpS B S vV w vV' w' :=
  ⟨h.bel.mono hB, fun k _ _ _ h0 _ _ _ _ h5 h6 => (h.blk k (Array.getElem?_eq_some_iff.1 h0).1 h5 h6).trans h0, ho⟩

/-- A store into the box. -/
theorem bx_set {S : Nat} {s s' : Stm} {vV : Value} {w : World} (h : BX S s vV w) (i : Nat) (v : Value)
    (hb : (#[.int .i64 s.kind, .int .i64 s.at_, .int .i64 s.blk.proc, .int .i64 s.blk.owner, .bool s.blk.els, .int .i64 s.target, .int .i64 s.name, vV] : Array Value).setIfInBounds i v = #[.int .i64 s'.kind, .int .i64 s'.at_, .int .i64 s'.blk.proc, .int .i64 s'.blk.owner, .bool s'.blk.els, .int .i64 s'.target, .int .i64 s'.name, vV]) (hv : s'.vals = s.vals) : BX S s' vV (w.setCell ⟨S, i, none⟩ v) ∧ FS S vV w (w.setCell ⟨S, i, none⟩ v) := by
  refine ⟨⟨?_, ?_⟩, (Below.refl _ _).setCell (p := ⟨S, i, none⟩) (Nat.le_refl S) _, fun k _ hk _ => Below.heap_setCell w ⟨S, i, none⟩ v k hk⟩
  · rw [cts_set h.blk i v, hb]
  · rw [hv]; exact ownsRow_setCell_below h.row (Nat.lt_succ_self S) v

theorem exc_append (a b : List (Int × Int)) : exc (a ++ b) = exc a ++ exc b := by
  induction a with
  | nil => rfl
  | cons t r ih => show _ :: _ :: exc (r ++ b) = _; rw [ih]; rfl
theorem Tryz.infoEx : (Tryz.prog.info? 248).map (fun i => (i.zero, i.size, i.bytes)) = some (some (.agg #[.int .i64 0, .int .i64 0]), 2, 16) := by kernel_rfl
theorem two_one {a b : Value} (h1 : a.oneCell' = true) (h2 : b.oneCell' = true) : ∀ u ∈ [a, b], u.oneCell' = true := by
  intro u hu
  simp only [List.mem_cons, List.mem_nil_iff, or_false] at hu
  rcases hu with rfl | rfl <;> assumption
/-- What an append to the row of its values comes to. -/
structure Ap (S : Nat) (s : Stm) (vV : Value) (x y : Int) (w0 : World) (v' : Value) (w3 : World) : Prop where
  row : w3.ownsRow (S + 1) 248 2 v' (s.vals.length + 1) (exc s.vals ++ [.int .i64 x, .int .i64 y])
  fs : FS S vV w0 w3
  blk : w3.heap[S]? = w0.heap[S]?
  own : v'.ownBlock = vV.ownBlock ∨ ∀ g, v'.ownBlock = some g → w0.heap.size ≤ g

/-- s.Values = append(s.Values, Expr{x, y}). -/
theorem app_ex {ops : Array Oper} {rest : List Oper} {o : Oper} {a : Act} {Q : Exit → Act → World → Prop} {w0 : World} {S : Nat} {s : Stm} {vV : Value} (x y : Int)
    (hb : BX S s vV w0) (hl : s.vals.length ≤ 1000) (hgd : o.guard = none) (sp xp : Operand)
    (ho : o.op = .call { callee := .builtin .append, args := #[sp, xp], argTypes := #[200, 200] }) (hs : a.eval sp = vV) {nb : Nat}
    (hx : a.eval xp = .slice (some ⟨nb, 0, none⟩) 1 1) (hnb : nb = w0.heap.size)
    (h : ∀ g cap' w3, Ap S s vV x y w0 (.slice (some ⟨g, 0, none⟩) (s.vals.length + 1) cap') w3 → wpList Tryz.prog ops Q rest (a.put o.dst (.slice (some ⟨g, 0, none⟩) (s.vals.length + 1) cap')) w3) :
    wpList Tryz.prog ops Q (o :: rest) a (w0.alloc (.cells #[.int .i64 x, .int .i64 y] 248)) := by
  obtain ⟨i0, hi0, hz0, hz1, hz2⟩ := info_parts Tryz.infoEx
  subst hnb
  have hlt := hb.lt
  refine wpList_plain hgd fun _ hK => wp_append_lies _ sp xp 200 ho (S + 1) 248 i0 (.agg #[.int .i64 0, .int .i64 0]) 2 16 Tryz.underlying200 hi0 hz0 hz1 hz2 rfl (by decide) vV s.vals.length (exc s.vals) hs (hb.row.alloc _) ⟨w0.heap.size, 0, none⟩ 1 1 [.int .i64 x, .int .i64 y] hx rfl (World.news_of_block (heap_alloc_new w0 _)) (two_one rfl rfl) (by decide) (by unfold maxLen; omega) (by omega) (by simp; omega) _ rfl fun g cap' w3 hown3 hgrow hat _ => hK _ _ (h _ _ _ ⟨hown3, ⟨?_, ?_⟩, ?_, ?_⟩)
  · refine ⟨hgrow.os, hgrow.tape, hgrow.output, Nat.le_trans (by simp) hgrow.size, fun k hk => ?_⟩
    exact (hgrow.block k (by simp; omega) (hb.hi (by omega))).trans (Below.heap_alloc w0 _ k (by omega))
  · intro k hk _ h3
    exact (hgrow.block k (by simp; omega) h3).trans (Below.heap_alloc w0 _ k hk)
  · exact (hgrow.block S (by simp; omega) (hb.hi (Nat.le_refl _))).trans (Below.heap_alloc w0 _ S hlt)
  · rcases hat with h3 | h3
    · exact .inl h3.symm
    · refine .inr fun g' hg' => ?_
      simp [Value.ownBlock] at hg'
      rw [← hg', h3]
      simp
/-- And a store of it. -/
theorem bx_fin {S : Nat} {s : Stm} {vV : Value} {w0 w3 : World} {x y : Int} {v' : Value} (h2 : BX S s vV w0) (ha : Ap S s vV x y w0 v' w3) :
    BX S { s with vals := s.vals ++ [(x, y)] } v' (w3.setCell ⟨S, 7, none⟩ v') ∧ FS S vV w0 (w3.setCell ⟨S, 7, none⟩ v') := by
  refine ⟨⟨?_, ?_⟩, ha.fs.bel.setCell (p := ⟨S, 7, none⟩) (Nat.le_refl S) _, fun k hk h1 h3 => ?_⟩
  · rw [cts_set (ha.blk.trans h2.blk) 7 _]; rfl
  · have h4 : w3.ownsRow (S + 1) 248 2 v' (s.vals ++ [(x, y)]).length (exc (s.vals ++ [(x, y)])) := by
      rw [exc_append, List.length_append]; exact ha.row
    exact ownsRow_setCell_below h4 (Nat.lt_succ_self S) _
  · rw [Below.heap_setCell _ ⟨S, 7, none⟩ _ k h1]
    exact ha.fs.blk k hk h1 h3

end Go.Proofs.YtmfcpbhdggonfaaGreatDoor
