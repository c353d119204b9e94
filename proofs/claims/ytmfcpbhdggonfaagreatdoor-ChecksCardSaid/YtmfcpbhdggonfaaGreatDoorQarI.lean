/- Contracts of the program's parser: adding a statement. -/
import Derived.Test.YtmfcpbhdggonfaaGreatDoorQarX
namespace Go.Proofs.YtmfcpbhdggonfaaGreatDoor
open Go.RowKit RR

theorem Tryz.infoSt : (Tryz.prog.info? 202).map (fun i => (i.zero, i.size, i.bytes)) = some (some (.agg #[.int .i64 0, .int .i64 0, .int .i64 0, .int .i64 0, .bool false, .int .i64 0, .int .i64 0, .slice none 0 0]), 8, 80) := by kernel_rfl

/-- Of what there was, only the parser, names, calls, nodes and the row of statements may have turned. -/
structure Kp1 (B : Nat) (vS : Value) (w : World) (vS' : Value) (w' : World) : Prop where
  bel : Below B w w'
  keep : ∀ (k : Nat) (c : Array Value) (T : TypeId) (f : Nat × Nat), w.heap[k]? = some (Obj.cells c T f) → T ≠ 231 → T ≠ 186 → T ≠ 286 → T ≠ 190 → (T = 202 → some k ≠ vS.ownBlock) → w'.heap[k]? = some (Obj.cells c T f)
  own : vS'.ownBlock = vS.ownBlock ∨ ∀ g, vS'.ownBlock = some g → w.heap.size ≤ g

theorem Kp.one {B : Nat} {w w' : World} (h : Kp B w w') (vS : Value) : Kp1 B vS w vS w' := ⟨h.bel, fun k c T f h0 h1 h2 h3 h4 _ => h.keep k c T f h0 h1 h2 h3 h4, .inl rfl⟩
theorem Kp1.trans {B : Nat} {u v x : Value} {a b c : World} (h : Kp1 B u a v b) (k : Kp1 B v b x c) : Kp1 B u a x c := by
  have hsz := h.bel.size
  refine ⟨h.bel.trans k.bel, fun n cs T f h0 h1 h2 h3 h4 h5 => ?_, ?_⟩
  · refine k.keep n cs T f (h.keep n cs T f h0 h1 h2 h3 h4 h5) h1 h2 h3 h4 (fun e e2 => ?_)
    rcases h.own with h6 | h6
    · rw [h6] at e2; exact h5 e e2
    · have := h6 n e2.symm
      have := (Array.getElem?_eq_some_iff.1 h0).1
      omega
  · rcases k.own with k1 | k1
    · rw [k1]; exact h.own
    · exact .inr fun g hg => by have := k1 g hg; omega

theorem smc_append (a b : List (Stm × Value)) : smc (a ++ b) = smc a ++ smc b := by
  induction a with
  | nil => rfl
  | cons t r ih => show stc _ _ ++ smc (r ++ b) = (stc _ _ ++ smc r) ++ smc b; rw [ih, List.append_assoc]

theorem eight_one {a b c d e f g h : Value} (h1 : a.oneCell' = true) (h2 : b.oneCell' = true) (h3 : c.oneCell' = true) (h4 : d.oneCell' = true) (h5 : e.oneCell' = true) (h6 : f.oneCell' = true) (h7 : g.oneCell' = true) (h8 : h.oneCell' = true) : ∀ u ∈ [a, b, c, d, e, f, g, h], u.oneCell' = true := by
  intro u hu
  simp only [List.mem_cons, List.mem_nil_iff, or_false] at hu
  rcases hu with rfl | rfl | rfl | rfl | rfl | rfl | rfl | rfl <;> assumption

theorem st_fin {B : Nat} {ao : Option Addr} {cap : Nat} {L : List Tk} {U : Nat} {σ : QSt} {vN vC vS vD : Value} {w2 w3 : World} {o : Obj} {s : Stm} {vv : Value} {g cap' : Nat} {l : List (Stm × Value)} (h2 : PSx B ao cap L U σ vN vC vS vD w2) (hl : l.map Prod.fst = σ.sts) (hown : w2.ownsRow (B + 1) 202 8 vS l.length (smc l)) {U' : Nat} (hU : U ≤ U') (hvs : ∀ x ∈ l, w2.ownsRow 0 248 2 x.2 x.1.vals.length (exc x.1.vals) ∧ ∀ g, x.2.ownBlock = some g → g < U) (hvv : w2.ownsRow 0 248 2 vv s.vals.length (exc s.vals)) (hvb : ∀ g, vv.ownBlock = some g → g < U')
    (hown3 : w3.ownsRow (B + 1) 202 8 (.slice (some ⟨g, 0, none⟩) (l.length + 1) cap') (l.length + 1) (smc l ++ stc s vv)) (hgrow : (w2.alloc o).drew.grownBy w3 vS.ownBlock) (hat : vS.ownBlock = some g ∨ g = (w2.alloc o).drew.heap.size) :
    PSx B ao cap L U' (σ.add s) vN vC (.slice (some ⟨g, 0, none⟩) (l.length + 1) cap') vD (w3.setCell ⟨B, 7, none⟩ (.slice (some ⟨g, 0, none⟩) (l.length + 1) cap')) ∧ Kp1 B vS w2 (.slice (some ⟨g, 0, none⟩) (l.length + 1) cap') (w3.setCell ⟨B, 7, none⟩ (.slice (some ⟨g, 0, none⟩) (l.length + 1) cap')) := by
  have kB := grow_block hown hgrow B h2.lt (.inl (Nat.lt_succ_self B))
  have kp : Kp1 B vS w2 (.slice (some ⟨g, 0, none⟩) (l.length + 1) cap') (w3.setCell ⟨B, 7, none⟩ (.slice (some ⟨g, 0, none⟩) (l.length + 1) cap')) := by
    refine ⟨(grow_below h2.lt hown hgrow).setCell (p := ⟨B, 7, none⟩) (Nat.le_refl B) _, fun k c T f hk e1 e2 e3 e4 e5 => ?_, ?_⟩
    · have hne : k ≠ B := by
        intro e
        subst e
        rw [h2.blk] at hk
        simp at hk
        exact e1 hk.2.1.symm
      have hkl := (Array.getElem?_eq_some_iff.1 hk).1
      rw [Below.heap_setCell _ ⟨B, 7, none⟩ _ k hne]
      by_cases eT : T = 202
      · have h3 := hgrow.block k (by show k < (w2.alloc o).heap.size; simp; omega) (e5 eT)
        exact (h3.trans (Below.heap_alloc w2 o k hkl)).trans hk
      · rw [grow_block hown hgrow k hkl (.inr fun c' T' f' e6 => by rw [hk] at e6; simp at e6; rw [← e6.2.1]; exact eT)]
        exact hk
    · rcases hat with h | h
      · exact .inl h.symm
      · refine .inr fun g' hg' => ?_
        simp [Value.ownBlock] at hg'
        rw [← hg', h]
        show _ ≤ (w2.alloc o).heap.size
        simp
  have hexp : ∀ (k : Nat) (c : Array Value) (f : Nat × Nat), w2.heap[k]? = some (Obj.cells c 248 f) → (w3.setCell ⟨B, 7, none⟩ (.slice (some ⟨g, 0, none⟩) (l.length + 1) cap')).heap[k]? = some (Obj.cells c 248 f) := fun k c f hk => kp.keep k c _ f hk (by decide) (by decide) (by decide) (by decide) (fun e => absurd e (by decide))
  refine ⟨⟨?_, h2.tok.below kp.bel, ?_, ?_, ?_, ⟨l ++ [(s, vv)], ?_, ?_, ?_⟩, h2.le, h2.inv⟩, kp⟩
  · rw [cts_set (kB.trans h2.blk) 7 _]; rfl
  · exact ownsRow_setCell_below (grow_keep hown hgrow h2.nm (by decide)) (Nat.lt_succ_self B) _
  · exact ownsRow_setCell_below (grow_keep hown hgrow h2.cl (by decide)) (Nat.lt_succ_self B) _
  · exact ownsRow_setCell_below (grow_keep hown hgrow h2.nd (by decide)) (Nat.lt_succ_self B) _
  · rw [List.map_append, hl]; rfl
  · have h3 : w3.ownsRow (B + 1) 202 8 (.slice (some ⟨g, 0, none⟩) (l.length + 1) cap') (l ++ [(s, vv)]).length (smc (l ++ [(s, vv)])) := by
      rw [smc_append, List.length_append]
      have : smc [(s, vv)] = stc s vv := by show stc s vv ++ [] = _; rw [List.append_nil]
      rw [this]; exact hown3
    exact ownsRow_setCell_below h3 (Nat.lt_succ_self B) _
  · intro x hx
    rcases List.mem_append.1 hx with hx | hx
    · exact ⟨owns_keep (hvs x hx).1 (fun k c f hk _ => hexp k c f hk), fun g hg => Nat.lt_of_lt_of_le ((hvs x hx).2 g hg) hU⟩
    · rw [List.mem_singleton.1 hx]
      exact ⟨owns_keep hvv (fun k c f hk _ => hexp k c f hk), hvb⟩

set_option maxRecDepth 100000 in
set_option maxHeartbeats 16000000 in
theorem s_add {B : Nat} {ao : Option Addr} {cap : Nat} {L : List Tk} {U : Nat} {σ : QSt} {vS : Value} (s : Stm) (va : Option Addr) (vn vc : Nat) (w : World) (hn : σ.sts.length ≤ 9000) (h : PS B ao cap L U σ vS w) (hvv : w.ownsRow 0 248 2 (.slice va vn vc) s.vals.length (exc s.vals)) {U' : Nat} (hU : U ≤ U') (hvb : ∀ g, (Value.slice va vn vc).ownBlock = some g → g < U') :
    Calls Tryz.prog 206 #[.pointer (some ⟨B, 0, none⟩), .agg #[.int .i64 s.kind, .int .i64 s.at_, .int .i64 s.blk.proc, .int .i64 s.blk.owner, .bool s.blk.els, .int .i64 s.target, .int .i64 s.name, .slice va vn vc]] w fun e w' => e = .returned (.int .i64 σ.sts.length) ∧ ∃ vS', PS B ao cap L U' (σ.add s) vS' w' ∧ Kp1 B vS w vS' w' := by
  have hlt := h.lt
  obtain ⟨i0, hi0, hz0, hz1, hz2⟩ := info_parts Tryz.infoSt
  have hb1 : Below w.heap.size w (w.alloc (.cells #[.int .i64 s.kind, .int .i64 s.at_, .int .i64 s.blk.proc, .int .i64 s.blk.owner, .bool s.blk.els, .int .i64 s.target, .int .i64 s.name, .slice va vn vc] 202)) := (Below.refl _ _).alloc (Nat.le_refl _) _
  have h1 := h.below hb1
  have K1 := (Kp.of_below hb1 (Nat.le_of_lt hlt)).one vS
  have hvv2 := owns_below hvv hb1
  have hX : (w.alloc (.cells #[.int .i64 s.kind, .int .i64 s.at_, .int .i64 s.blk.proc, .int .i64 s.blk.owner, .bool s.blk.els, .int .i64 s.target, .int .i64 s.name, .slice va vn vc] 202)).heap[w.heap.size]? = some (.cells #[.int .i64 s.kind, .int .i64 s.at_, .int .i64 s.blk.proc, .int .i64 s.blk.owner, .bool s.blk.els, .int .i64 s.target, .int .i64 s.name, .slice va vn vc] 202 (0, 0)) := heap_alloc_new w _
  go_enter Tryz.func206, Tryz.ntmps206
  go_wp2_with fail
  generalize w.alloc (.cells #[.int .i64 s.kind, .int .i64 s.at_, .int .i64 s.blk.proc, .int .i64 s.blk.owner, .bool s.blk.els, .int .i64 s.target, .int .i64 s.name, .slice va vn vc] 202) = w2 at *
  generalize w.heap.size = X at *
  obtain ⟨vN, vC, vD, h2⟩ := h1
  obtain ⟨c0, c1, c2, c3, c4, c5, c6, c7, c8, hf⟩ := h2.cells
  have f7 := hf 7
  have x0 : w2.cell? ⟨X, 0, none⟩ = some (.int .i64 s.kind) := by simp [World.cell?, hX]
  have x1 : w2.cell? ⟨X, 1, none⟩ = some (.int .i64 s.at_) := by simp [World.cell?, hX]
  have x2 : w2.cell? ⟨X, 2, none⟩ = some (.int .i64 s.blk.proc) := by simp [World.cell?, hX]
  have x3 : w2.cell? ⟨X, 3, none⟩ = some (.int .i64 s.blk.owner) := by simp [World.cell?, hX]
  have x4 : w2.cell? ⟨X, 4, none⟩ = some (.bool s.blk.els) := by simp [World.cell?, hX]
  have x5 : w2.cell? ⟨X, 5, none⟩ = some (.int .i64 s.target) := by simp [World.cell?, hX]
  have x6 : w2.cell? ⟨X, 6, none⟩ = some (.int .i64 s.name) := by simp [World.cell?, hX]
  have x7 : w2.cell? ⟨X, 7, none⟩ = some (.slice va vn vc) := by simp [World.cell?, hX]
  clear hf
  obtain ⟨l, el, hown, hvs⟩ := h2.st
  have ell : l.length = σ.sts.length := by rw [← el]; simp
  have hzz : B < w2.heap.size := h2.lt
  have hbw : B + 1 ≤ w2.heap.size := hzz
  go_region_law (refine step_append_lies _ rfl (.tmp 9) (.tmp 11) 113 rfl (B + 1) 202 i0 (.agg #[.int .i64 0, .int .i64 0, .int .i64 0, .int .i64 0, .bool false, .int .i64 0, .int .i64 0, .slice none 0 0]) 8 80 Tryz.underlying113 hi0 hz0 hz1 hz2 rfl (by decide) vS l.length (smc l) rfl (by exact hown.alloc _) ⟨w2.heap.size, 0, none⟩ 1 1 (stc s (.slice va vn vc)) rfl rfl (by exact World.news_of_block (heap_alloc_new w2 _)) (eight_one rfl rfl rfl rfl rfl rfl rfl rfl) (by decide) (by unfold maxLen; omega) (by omega) (by simp; omega) _ rfl ?_; intro g cap' w3 hown3 hgrow hat hg; have kB := grow_block hown hgrow B hzz (.inl (Nat.lt_succ_self B)); have k7 : w3.cell? ⟨B, 7, none⟩ = some vS := (World.cell?_of_block (w := w2) kB).trans c7; have kf : w3.frozen? ⟨B, 7, none⟩ = false := (World.frozen?_of_block (w := w2) kB).trans f7)
  all_goals
    have hfin := st_fin (s := s) h2 el hown hU hvs hvv2 hvb hown3 hgrow hat
    rw [ell] at hfin
    clear hown3 hgrow hat hg kB c0 c1 c2 c3 c4 c5 c6 c7 c8 x0 x1 x2 x3 x4 x5 x6 x7 hown hi0 hz0 hz1 hz2 hvs
    go_wp2_with fail
    go_ret
    exact ⟨ret_int (by omega), _, ⟨_, _, _, hfin.1⟩, K1.trans hfin.2⟩

end Go.Proofs.YtmfcpbhdggonfaaGreatDoor
