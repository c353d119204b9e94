/- The program's parser in memory: behind an append. -/
import Derived.Test.YtmfcpbhdggonfaaGreatDoorQarE
import Derived.Deep.RegionLaw
import Derived.Deep.AppendLies
namespace Go.Proofs.YtmfcpbhdggonfaaGreatDoor
open Go.RowKit RR

theorem Tryz.infoNm : (Tryz.prog.info? 186).map (fun i => (i.zero, i.size, i.bytes)) = some (some (.agg #[.string ⟨#[]⟩, .int .i64 0, .int .i64 0, .int .i64 0]), 4, 40) := by kernel_rfl

theorem nms_append (a b : List Nm) : nms (a ++ b) = nms a ++ nms b := by
  induction a with
  | nil => rfl
  | cons t r ih => show _ :: _ :: _ :: _ :: nms (r ++ b) = _; rw [ih]; rfl

theorem four_one {a b c d : Value} (h1 : a.oneCell' = true) (h2 : b.oneCell' = true) (h3 : c.oneCell' = true) (h4 : d.oneCell' = true) : ∀ u ∈ [a, b, c, d], u.oneCell' = true := by
  intro u hu
  rcases List.mem_cons.1 hu with rfl | hu
  · exact h1
  rcases List.mem_cons.1 hu with rfl | hu
  · exact h2
  rcases List.mem_cons.1 hu with rfl | hu
  · exact h3
  rcases List.mem_cons.1 hu with rfl | hu
  · exact h4
  · cases hu

theorem four_cells {w : World} {T : TypeId} {a b c d : Value} : ∀ (j : Nat) (u : Value), [a, b, c, d][j]? = some u → (w.alloc (.cells #[a, b, c, d] T)).cell? ((⟨w.heap.size, 0, none⟩ : Addr).add j) = some u := by
  intro j u hj
  have hh : (w.alloc (.cells #[a, b, c, d] T)).heap[w.heap.size]? = some (.cells #[a, b, c, d] T) := heap_alloc_new w _
  rw [addr_add]
  match j, hj with
  | 0, hj => simp only [World.cell?, hh]; exact hj
  | 1, hj => simp only [World.cell?, hh]; exact hj
  | 2, hj => simp only [World.cell?, hh]; exact hj
  | 3, hj => simp only [World.cell?, hh]; exact hj

/-- Behind an append to the names: the parser's own block, and all blocks of another make, stand. -/
theorem grow_block {w2 w3 : World} {base : Nat} {e : TypeId} {size n : Nat} {v : Value} {xs : List Value} {o : Obj} (hown : w2.ownsRow base e size v n xs) (hg : (w2.alloc o).drew.grownBy w3 v.ownBlock) (k : Nat) (hk : k < w2.heap.size) (hne : k < base ∨ ∀ c T f, w2.heap[k]? = some (Obj.cells c T f) → T ≠ e) : w3.heap[k]? = w2.heap[k]? := by
  have h1 : some k ≠ v.ownBlock := by
    intro e1
    have hl := hown.lt k e1.symm
    rcases hne with h | h
    · omega
    · rcases hown.2 with ⟨rfl, _⟩ | ⟨g, cap, cur, rfl, _, hh, _⟩
      · simp [Value.ownBlock] at e1
      · simp [Value.ownBlock] at e1
        subst e1
        exact h _ _ _ hh rfl
  have h2 := hg.block k (by show k < (w2.alloc o).heap.size; simp; omega) h1
  exact h2.trans (Below.heap_alloc w2 o k hk)

theorem ndc_append (a b : List Nd) : ndc (a ++ b) = ndc a ++ ndc b := by
  induction a with
  | nil => rfl
  | cons t r ih => show _ :: _ :: _ :: _ :: ndc (r ++ b) = _; rw [ih]; rfl

/-- Another row stands behind an append. -/
theorem grow_keep {w2 w3 : World} {base : Nat} {e : TypeId} {size n : Nat} {v : Value} {xs : List Value} {o : Obj} (hown : w2.ownsRow base e size v n xs) (hg : (w2.alloc o).drew.grownBy w3 v.ownBlock) {base' : Nat} {e' : TypeId} {size' n' : Nat} {v' : Value} {xs' : List Value} (h : w2.ownsRow base' e' size' v' n' xs') (hne : e' ≠ e) : w3.ownsRow base' e' size' v' n' xs' :=
  owns_keep h (fun k c f hk _ => by
    rw [grow_block hown hg k (Array.getElem?_eq_some_iff.1 hk).1 (.inr fun c' T' f' e1 => by rw [hk] at e1; simp at e1; rw [← e1.2.1]; exact hne)]
    exact hk)
theorem grow_below {B : Nat} {w2 w3 : World} {e : TypeId} {size n : Nat} {v : Value} {xs : List Value} {o : Obj} (hB : B < w2.heap.size) (hown : w2.ownsRow (B + 1) e size v n xs) (hg : (w2.alloc o).drew.grownBy w3 v.ownBlock) : Below B w2 w3 :=
  ⟨hg.os, hg.tape, hg.output, Nat.le_trans (by simp) hg.size, fun k hk => grow_block hown hg k (Nat.lt_trans hk hB) (.inl (by omega))⟩
/-- Behind an append to a row of names, calls or nodes, and a store of it. -/
theorem grow_kp {B : Nat} {w2 w3 : World} {e : TypeId} {size n : Nat} {v : Value} {xs : List Value} {o : Obj} {cs : Array Value} (hblk : w2.heap[B]? = some (.cells cs 231 (0, 0))) (hown : w2.ownsRow (B + 1) e size v n xs) (hg : (w2.alloc o).drew.grownBy w3 v.ownBlock) (he : e = 186 ∨ e = 286 ∨ e = 190) (i : Nat) (v' : Value) : Kp B w2 (w3.setCell ⟨B, i, none⟩ v') := by
  have hB := (Array.getElem?_eq_some_iff.1 hblk).1
  refine ⟨(grow_below hB hown hg).setCell (p := ⟨B, i, none⟩) (Nat.le_refl B) _, fun k c T f hk e1 e2 e3 e4 => ?_⟩
  have hne : k ≠ B := by
    intro e
    subst e
    rw [hblk] at hk
    simp at hk
    exact e1 hk.2.1.symm
  rw [Below.heap_setCell _ ⟨B, i, none⟩ _ k hne, grow_block hown hg k (Array.getElem?_eq_some_iff.1 hk).1 (.inr fun c' T' f' e5 => by
    rw [hk] at e5; simp at e5; rw [← e5.2.1]
    rcases he with rfl | rfl | rfl
    · exact e2
    · exact e3
    · exact e4)]
  exact hk

theorem nd_fin {B : Nat} {ao : Option Addr} {cap : Nat} {L : List Tk} {U : Nat} {σ : QSt} {vN vC vS vD : Value} {w2 w3 : World} {o : Obj} {n : Nd} {v' : Value} (h2 : PSx B ao cap L U σ vN vC vS vD w2)
    (hown3 : w3.ownsRow (B + 1) 190 4 v' (σ.nds.length + 1) (ndc σ.nds ++ [.int .i64 n.sign, .int .i64 n.name, .int .i64 n.left, .int .i64 n.right])) (hgrow : (w2.alloc o).drew.grownBy w3 vD.ownBlock) :
    PSx B ao cap L U (σ.node n) vN vC vS v' (w3.setCell ⟨B, 8, none⟩ v') ∧ Kp B w2 (w3.setCell ⟨B, 8, none⟩ v') := by
  have kp := grow_kp h2.blk h2.nd hgrow (.inr (.inr rfl)) 8 v'
  have kB := grow_block h2.nd hgrow B h2.lt (.inl (Nat.lt_succ_self B))
  refine ⟨⟨?_, h2.tok.below kp.bel, ?_, ?_, ?_, h2.st.kp kp, h2.le, h2.inv⟩, kp⟩
  · rw [cts_set (kB.trans h2.blk) 8 v']; rfl
  · exact ownsRow_setCell_below (grow_keep h2.nd hgrow h2.nm (by decide)) (Nat.lt_succ_self B) _
  · exact ownsRow_setCell_below (grow_keep h2.nd hgrow h2.cl (by decide)) (Nat.lt_succ_self B) _
  · have h3 : w3.ownsRow (B + 1) 190 4 v' (σ.nds ++ [n]).length (ndc (σ.nds ++ [n])) := by
      rw [ndc_append, List.length_append]; exact hown3
    exact ownsRow_setCell_below h3 (Nat.lt_succ_self B) _

theorem nm_fin {B : Nat} {ao : Option Addr} {cap : Nat} {L : List Tk} {U : Nat} {σ : QSt} {vN vC vS vD : Value} {w2 w3 : World} {o : Obj} {t : ByteArray} {p role : Nat} {v' : Value} (h2 : PSx B ao cap L U σ vN vC vS vD w2) (hnx : σ.p.next < L.length)
    (hown3 : w3.ownsRow (B + 1) 186 4 v' (σ.p.names.length + 1) (nms σ.p.names ++ [.string t, .int .i64 p, .int .i64 role, .int .i64 σ.p.proc])) (hgrow : (w2.alloc o).drew.grownBy w3 vN.ownBlock) :
    PSx B ao cap L U (σ.setp { σ.p with next := σ.p.next + 1, names := σ.p.names ++ [⟨t, p, role, σ.p.proc⟩] }) v' vC vS vD ((w3.setCell ⟨B, 5, none⟩ v').setCell ⟨B, 1, none⟩ (.int .i64 ((σ.p.next : Int) + 1))) ∧ Kp B w2 ((w3.setCell ⟨B, 5, none⟩ v').setCell ⟨B, 1, none⟩ (.int .i64 ((σ.p.next : Int) + 1))) := by
  have kp0 := grow_kp h2.blk h2.nm hgrow (.inl rfl) 5 v'
  have kB := grow_block h2.nm hgrow B h2.lt (.inl (Nat.lt_succ_self B))
  have hblk := cts_set (kB.trans h2.blk) 5 v'
  have kp : Kp B w2 ((w3.setCell ⟨B, 5, none⟩ v').setCell ⟨B, 1, none⟩ (.int .i64 ((σ.p.next : Int) + 1))) := by
    refine ⟨kp0.bel.setCell (p := ⟨B, 1, none⟩) (Nat.le_refl B) _, fun k c T f hk e1 e2 e3 e4 => ?_⟩
    have hne : k ≠ B := by
      intro e
      subst e
      rw [h2.blk] at hk
      simp at hk
      exact e1 hk.2.1.symm
    rw [Below.heap_setCell _ ⟨B, 1, none⟩ _ k hne]
    exact kp0.keep k c T f hk e1 e2 e3 e4
  refine ⟨⟨?_, h2.tok.below kp.bel, ?_, ?_, ?_, h2.st.kp kp, hnx, inv_name h2.inv _⟩, kp⟩
  · rw [cts_set hblk 1 _]; rfl
  · have h3 : w3.ownsRow (B + 1) 186 4 v' (σ.p.names ++ [(⟨t, p, role, σ.p.proc⟩ : Nm)]).length (nms (σ.p.names ++ [(⟨t, p, role, σ.p.proc⟩ : Nm)])) := by
      rw [nms_append, List.length_append]; exact hown3
    exact ownsRow_setCell_below (ownsRow_setCell_below h3 (Nat.lt_succ_self B) _) (Nat.lt_succ_self B) _
  · exact ownsRow_setCell_below (ownsRow_setCell_below (grow_keep h2.nm hgrow h2.cl (by decide)) (Nat.lt_succ_self B) _) (Nat.lt_succ_self B) _
  · exact ownsRow_setCell_below (ownsRow_setCell_below (grow_keep h2.nm hgrow h2.nd (by decide)) (Nat.lt_succ_self B) _) (Nat.lt_succ_self B) _

end Go.Proofs.YtmfcpbhdggonfaaGreatDoor
