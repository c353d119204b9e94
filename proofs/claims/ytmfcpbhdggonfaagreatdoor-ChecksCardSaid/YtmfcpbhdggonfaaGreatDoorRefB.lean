/- Contracts of the reference's functions over tokens. -/
import Derived.Test.YtmfcpbhdggonfaaGreatDoorRefA
import Derived.Deep.QuietTactic
import Derived.BigQuiet
namespace Go.Proofs.YtmfcpbhdggonfaaGreatDoor
open Go.RowKit RR

/-- The tokens of a row: two cells each. -/
def ToksAt (w : World) (b o : Nat) (L : List Tk) : Prop :=
  b < w.heap.size ∧ ∀ i, (h : i < L.length) → w.cell? ⟨b, o + i * 2, none⟩ = some (.string L[i].t) ∧ w.cell? ⟨b, o + i * 2 + 1, none⟩ = some (.int .i64 L[i].p)

theorem ToksAt.below {w w' : World} {b o : Nat} {L : List Tk} (h : ToksAt w b o L) (hb : Below w.heap.size w w') : ToksAt w' b o L :=
  ⟨Nat.lt_of_lt_of_le h.1 hb.size, fun i hi => ⟨(hb.cell (p := ⟨b, o + i * 2, none⟩) h.1).trans (h.2 i hi).1, (hb.cell (p := ⟨b, o + i * 2 + 1, none⟩) h.1).trans (h.2 i hi).2⟩⟩

set_option maxHeartbeats 400000 in
theorem r_is (L : List Tk) (b o cap : Nat) (i : Int) (t : ByteArray) (w : World) (_hL : L.length ≤ 500) (hc : ToksAt w b o L) :
    Calls Tryz.prog 52 #[.agg #[.slice (some ⟨b, o, none⟩) L.length cap], .int .i64 i, .string t] w fun e w' => e = .returned (.bool (isB L i t)) ∧ Below w.heap.size w w' := by
  by_cases h0 : 0 ≤ i
  · by_cases h1 : i < L.length
    · obtain ⟨k, rfl⟩ := Int.eq_ofNat_of_zero_le h0
      have hk : k < L.length := by omega
      have hck := (hc.2 k hk).1
      have hb := hc.1
      have HR : Hid (isB L (k : Int) t = (L[k].t.toList == t.toList)) := isB_in hk t
      go_enter Tryz.func52, Tryz.ntmps52
      go_wp2
      go_ret
      exact ⟨ret_bool HR.out.symm, (Below.refl _ _).alloc (Nat.le_refl _) _⟩
    · have HR : Hid (isB L i t = false) := isB_out (.inr (by omega)) t
      go_enter Tryz.func52, Tryz.ntmps52
      go_wp2
      go_ret
      exact ⟨ret_bool HR.out.symm, (Below.refl _ _).alloc (Nat.le_refl _) _⟩
  · have HR : Hid (isB L i t = false) := isB_out (.inl (by omega)) t
    go_enter Tryz.func52, Tryz.ntmps52
    go_wp2
    go_ret
    exact ⟨ret_bool HR.out.symm, (Below.refl _ _).alloc (Nat.le_refl _) _⟩

set_option maxHeartbeats 400000 in
theorem r_least (a b : Int) (w : World) :
    Calls Tryz.prog 80 #[.int .i64 a, .int .i64 b] w fun e w' => e = .returned (.int .i64 (leastB a b)) ∧ w' = w := by
  go_enter Tryz.func80, Tryz.ntmps80
  go_wp2
  all_goals
    go_ret
    refine ⟨ret_int ?_, rfl⟩
    unfold leastB
    split <;> omega

theorem below_drewN (B : Nat) (w : World) (n : Nat) : Below B w (w.drewN n) := ⟨rfl, rfl, rfl, Nat.le_refl _, fun _ _ => rfl⟩

/-- A slice of numbers of tokens. -/
def IntSl (w : World) (ao : Option Addr) (cap : Nat) (l : List Nat) : Prop := (ao = none → cap = 0) ∧ l.length ≤ cap ∧ ∀ i, (h : i < l.length) → ∃ b o, b < w.heap.size ∧ ao = some ⟨b, o, none⟩ ∧ w.cell? ⟨b, o + i, none⟩ = some (.int .i64 l[i])

theorem IntSl.below {w w' : World} {ao : Option Addr} {cap : Nat} {l : List Nat} (h : IntSl w ao cap l) (hb : Below w.heap.size w w') : IntSl w' ao cap l := ⟨h.1, h.2.1, fun i hi => by
  obtain ⟨b, o, h1, h2, h3⟩ := h.2.2 i hi
  exact ⟨b, o, Nat.lt_of_lt_of_le h1 hb.size, h2, (hb.cell (p := ⟨b, o + i, none⟩) h1).trans h3⟩⟩

set_option maxHeartbeats 400000 in
theorem r_has (ao : Option Addr) (cap : Nat) (l : List Nat) (i : Int) (w : World) (hl : l.length ≤ 2000) (hc : IntSl w ao cap l) :
    Calls Tryz.prog 84 #[.slice ao l.length cap, .int .i64 i] w fun e w' => e = .returned (.bool (hasB l i)) ∧ w' = w := by
  go_enter Tryz.func84, Tryz.ntmps84
  go_wp2
  go_loop [5] (fun i' => ∃ k : Nat, k ≤ l.length ∧ i' = .int .i64 k ∧ hasB (l.take k) i = false) (fun i => l.length - (intOf i).toNat)
  case atStart => exact ⟨0, Nat.zero_le _, rfl, rfl⟩
  case round =>
    obtain ⟨k, hk, rfl, hn⟩ := hrel
    by_cases hlt : k < l.length
    · obtain ⟨b, o, hb, rfl, hck⟩ := hc.2.2 k hlt
      have HS : Hid (hasB (l.take (k + 1)) i = (hasB (l.take k) i || decide ((l[k] : Int) = i))) := hasB_snoc l i k hlt
      have HN : Hid (hasB (l.take k) i = false) := hn
      clear hn
      by_cases he : (l[k] : Int) = i
      · have he' : ((l[k] : Int) == i) = true := beq_iff_eq.2 he
        have HE : Hid ((l[k] : Int) = i) := he
        clear he
        go_wp2
        go_ret
        exact ⟨ret_bool (hasB_get l i k hlt HE.out).symm, rfl⟩
      · have he' : ((l[k] : Int) == i) = false := beq_eq_false_iff_ne.2 he
        go_wp2
        go_round
        case rel => exact ⟨k + 1, by omega, by go_num, by rw [HS.out, HN.out, decide_eq_false he]; rfl⟩
        case measure => simp [intOf]; omega
    · go_wp2
      go_ret
      exact ⟨ret_bool (by rw [← hn, List.take_of_length_le (by omega)]), rfl⟩

set_option maxHeartbeats 400000 in
theorem r_index (L : List Tk) (b o cap : Nat) (ao : Option Addr) (cap' : Nat) (l : List Nat) (t : ByteArray) (w : World) (_hL : L.length ≤ 500) (hc : ToksAt w b o L) (hl : l.length ≤ 2000) (hi : IntSl w ao cap' l) (hin : ∀ j ∈ l, j < L.length) :
    Calls Tryz.prog 54 #[.agg #[.slice (some ⟨b, o, none⟩) L.length cap], .slice ao l.length cap', .string t] w fun e w' => e = .returned (.int .i64 (indexB L l t)) ∧ Below w.heap.size w w' := by
  have hbb := hc.1
  go_enter Tryz.func54, Tryz.ntmps54
  go_wp2
  go_loopw [7] (fun i wr => ∃ k : Nat, k ≤ l.length ∧ i = .int .i64 k ∧ (∀ j, (hj : j < k) → (hk : k ≤ l.length) → ((tk L (l[j]'(by omega))).t = t) = False) ∧ wr.cell? ⟨w.heap.size, 0, none⟩ = some (.slice (some ⟨b, o, none⟩) L.length cap) ∧ Below w.heap.size w wr) (fun i _ => l.length - (intOf i).toNat)
  case atStart => exact ⟨0, Nat.zero_le _, rfl, fun j hj => absurd hj (by omega), by simp, (Below.refl _ _).alloc (Nat.le_refl _) _⟩
  case round =>
    obtain ⟨k, hk, rfl, hn, hcell, hbel⟩ := hrel
    by_cases hlt : k < l.length
    · obtain ⟨b', o', hb', rfl, hck⟩ := (hi.below hbel).2.2 k hlt
      have hm : l[k] < L.length := hin _ (List.getElem_mem _)
      have hct := ((hc.below hbel).2 l[k] hm).1
      have HN := hide hn
      have HB := hide hbel
      have HC := hide hcell
      clear hn hbel
      by_cases he : (L[l[k]].t.toList == t.toList) = true
      · go_wp2
        go_quiet (fail)
        go_wp2
        go_ret
        exact ⟨ret_int (indexB_get L l t k hlt (fun j hj => HN.out j hj hk) (by rw [tk_eq hm]; exact toList_inj.1 (by simpa using he))).symm, HB.out.trans (below_drewN _ _ _)⟩
      · replace he : (L[l[k]].t.toList == t.toList) = false := by simpa using he
        go_wp2
        go_quiet (fail)
        go_wp2
        go_roundw
        case rel =>
          refine ⟨k + 1, by omega, by go_num, fun j hj hk' => ?_, by simpa using hcell, HB.out.trans (below_drewN _ _ _)⟩
          by_cases hjk : j < k
          · exact HN.out j hjk hk
          · have : j = k := by omega
            subst this
            rw [tk_eq hm]
            exact eq_false fun e => by rw [e] at he; simp at he
        case measure => simp [intOf]; omega
    · go_wp2
      go_ret
      have : k = l.length := by omega
      subst this
      exact ⟨ret_int (indexB_none L l t fun j hj => hn j hj (Nat.le_refl _)).symm, hbel⟩

end Go.Proofs.YtmfcpbhdggonfaaGreatDoor
