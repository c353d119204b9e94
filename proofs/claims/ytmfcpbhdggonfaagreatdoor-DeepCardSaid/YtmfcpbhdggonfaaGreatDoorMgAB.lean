/- Contracts of the reference's functions over tokens: lists of names. -/
import Derived.Test.YtmfcpbhdggonfaaGreatDoorMgAA
import Derived.Laws.AppendOwnNone
import Derived.Deep.RegionWith
import Derived.Deep.RegionHeld
namespace Go.Proofs.YtmfcpbhdggonfaaGreatDoor
open Go.RowKit RR

theorem go_below {w w1 : World} {ao : Option Addr} {cap : Nat} {l l' : List Nat} (h : IntSl w1 ao cap l) (e : l = l') (hb : Below w.heap.size w w1) : ∃ ao' cap', Ending.returned (.slice ao l.length cap) = .returned (.slice ao' l'.length cap') ∧ IntSl w1 ao' cap' l' ∧ Below w.heap.size w w1 := by
  subst e; exact ⟨ao, cap, rfl, h, hb⟩

set_option maxHeartbeats 400000 in
theorem r_params (L : List Tk) (b o cap : Nat) (i : Nat) (w : World) (hL : L.length ≤ 500) (ht : ∀ k, (h : k < L.length) → L[k].t.size ≤ 500) (hc : ToksAt w b o L) (hi : i ≤ 999) :
    Calls Tryz.prog 56 #[.agg #[.slice (some ⟨b, o, none⟩) L.length cap], .int .i64 i] w fun e w' => ∃ ao cap, e = .returned (.slice ao (paramsB L i).length cap) ∧ IntSl w' ao cap (paramsB L i) ∧ Below w.heap.size w w' := by
  obtain ⟨hcell, hsz, hbel⟩ := bx (Below.refl (w.heap.size + 1) (w.alloc (.cells #[.slice (some ⟨b, o, none⟩) L.length cap] 71)))
  have hct := hc.below hbel
  go_enter Tryz.func56, Tryz.ntmps56
  go_wp2_with (go_at_call 87; refine (r_names L b o cap (i + 1) _ hL ht hct (by omega)).mono ?_; rintro e w1 ⟨ao, cp, rfl, hs, hb1⟩)
  go_ret
  exact go_below hs rfl (hbel.trans (hb1.mono (by simp)))

theorem wordF_out {L : List Tk} {t : ByteArray} {k : Nat} (h : ¬ k < L.length) : wordF L t k = [] := by rw [wordF_eq, if_neg h]
theorem wordF_yes {L : List Tk} {t : ByteArray} {k : Nat} (h : k < L.length) (h2 : isB L k t = true) : wordF L t k = namesF L (k + 1) := by rw [wordF_eq, if_pos h, h2]; rfl
theorem wordF_no {L : List Tk} {t : ByteArray} {k : Nat} (h : k < L.length) (h2 : isB L k t = false) : wordF L t k = wordF L t (k + 1) := by rw [wordF_eq, if_pos h, h2]; rfl

set_option maxHeartbeats 400000 in
theorem r_word (L : List Tk) (b o cap : Nat) (t : ByteArray) (w : World) (hL : L.length ≤ 500) (ht : ∀ k, (h : k < L.length) → L[k].t.size ≤ 500) (hc : ToksAt w b o L) :
    Calls Tryz.prog 79 #[.agg #[.slice (some ⟨b, o, none⟩) L.length cap], .string t] w fun e w' => ∃ ao cap, e = .returned (.slice ao (wordB L t).length cap) ∧ IntSl w' ao cap (wordB L t) ∧ Below w.heap.size w w' := by
  go_enter Tryz.func79, Tryz.ntmps79
  go_wp2
  go_loopw [5] (fun u wr => ∃ (k : Nat), u = .int .i64 k ∧ k ≤ L.length ∧ wordB L t = wordF L t k ∧ Below (w.heap.size + 1) (w.alloc (.cells #[.slice (some ⟨b, o, none⟩) L.length cap] 71)) wr) (fun u _ => L.length - (intOf u).toNat)
  case atStart => exact ⟨0, by go_num, by omega, rfl, Below.refl _ _⟩
  case round =>
    obtain ⟨k, rfl, hk, hn, hbx⟩ := hrel
    obtain ⟨hcell, hsz, hbel⟩ := bx hbx
    have hct := hc.below hbel
    have HN := hide hn
    have HB := hide hbx
    clear hn hbel hbx
    by_cases hlt : k < L.length
    · cases hB : isB L (k : Int) t
      · have HE := hide (wordF_no hlt hB)
        go_wp2_with (go_at_call 52; refine (r_is L b o cap _ _ _ hL hct).mono ?_; rintro e w1 ⟨rfl, hb1⟩)
        go_roundw
        case rel => exact ⟨k + 1, by go_num, by omega, by rw [HN.out, HE.out], HB.out.trans (hb1.mono hsz)⟩
        case measure => simp [intOf]; omega
      · have HE := hide (wordF_yes hlt hB)
        go_wp2_with (first | (go_at_call 52; refine (r_is L b o cap _ _ _ hL hct).mono ?_; rintro e w1 ⟨rfl, hb1⟩; obtain ⟨hcell1, hsz1, hbel1⟩ := bx (HB.out.trans (hb1.mono hsz)); have hct1 := hc.below hbel1) | (go_at_call 87; refine (r_names L b o cap k _ hL ht hct1 (by omega)).mono ?_; rintro e w2 ⟨ao, cp, rfl, hs, hb2⟩))
        go_ret
        exact go_below hs (by rw [HN.out, HE.out]) (hbel1.trans (hb2.mono (by omega)))
    · have HE := hide (wordF_out (t := t) hlt)
      go_wp2
      go_ret
      refine ⟨none, 0, ?_, ⟨fun _ => rfl, ?_, fun i hi => ?_⟩, (bx HB.out).2.2⟩
      · rw [HN.out, HE.out]; rfl
      · rw [HN.out, HE.out]; exact Nat.le_refl _
      · rw [HN.out, HE.out] at hi; cases hi

theorem procsF_out {L : List Tk} {k : Nat} (h : ¬ k < L.length) : procsF L k = [] := by rw [procsF_eq, if_neg h]
theorem procsF_yes {L : List Tk} {k : Nat} (h : k < L.length) (h2 : isB L k ⟨#[112, 114, 111, 99]⟩ = true) : procsF L k = (k + 1) :: procsF L (k + 1) := by rw [procsF_eq, if_pos h, h2]; rfl
theorem procsF_no {L : List Tk} {k : Nat} (h : k < L.length) (h2 : isB L k ⟨#[112, 114, 111, 99]⟩ = false) : procsF L k = procsF L (k + 1) := by rw [procsF_eq, if_pos h, h2]; rfl

set_option maxHeartbeats 1000000 in
theorem r_procs (L : List Tk) (b o cap : Nat) (w : World) (hL : L.length ≤ 500) (hc : ToksAt w b o L) :
    Calls Tryz.prog 53 #[.agg #[.slice (some ⟨b, o, none⟩) L.length cap]] w fun e w' => ∃ ao cap, e = .returned (.slice ao (procsB L).length cap) ∧ IntSl w' ao cap (procsB L) ∧ Below w.heap.size w w' := by
  go_enter Tryz.func53, Tryz.ntmps53
  go_wp2
  go_loopw [3, 4] (fun v u wr => ∃ (k : Nat) (acc : List Nat), u = .int .i64 k ∧ k ≤ L.length ∧ acc.length ≤ k ∧ acc ++ procsF L k = procsB L ∧ wr.ownsRow (w.heap.size + 1) 3 1 v acc.length (ints acc) ∧ Below (w.heap.size + 1) (w.alloc (.cells #[.slice (some ⟨b, o, none⟩) L.length cap] 71)) wr) (fun _ u _ => L.length - (intOf u).toNat)
  case atStart => exact ⟨0, [], by go_num, by omega, by simp, rfl, World.ownsRow_nil _ _ _ _, Below.refl _ _⟩
  case round =>
    obtain ⟨k, acc, rfl, hk, hacc, hn, hown, hbx⟩ := hrel
    obtain ⟨hcell, hsz, hbel⟩ := bx hbx
    have hct := hc.below hbel
    have HN := hide hn
    have HB := hide hbx
    clear hn hbel hbx
    by_cases hlt : k < L.length
    · cases hB : isB L (k : Int) ⟨#[112, 114, 111, 99]⟩
      · have HE := hide (procsF_no hlt hB)
        go_wp2_with (go_at_call 52; refine (r_is L b o cap _ _ _ hL hct).mono ?_; rintro e w1 ⟨rfl, hb1⟩)
        go_roundw
        case rel => exact ⟨k + 1, acc, by go_num, by omega, by omega, by rw [← HN.out, HE.out], owns_below hown hb1, HB.out.trans (hb1.mono hsz)⟩
        case measure => simp [intOf]; omega
      · have HE := hide (procsF_yes hlt hB)
        go_wp2_with (first | (go_at_call 52; refine (r_is L b o cap _ _ _ hL hct).mono ?_; rintro e w1 ⟨rfl, hb1⟩; have hown1 := owns_below hown hb1; have hsz1 : w.heap.size < w1.heap.size := Nat.lt_of_lt_of_le hsz hb1.size) | (at_builtin; refine app_int (k + 1) hown1 (by omega) (by omega) rfl _ _ rfl rfl rfl ?_; intro v2 w2 hown2 hb2))
        go_roundw
        case rel => exact ⟨k + 1, acc ++ [k + 1], by go_num, by omega, by simp; omega, by rw [← HN.out, HE.out, List.append_assoc]; rfl, hown2, hb2 _ (HB.out.trans (hb1.mono hsz))⟩
        case measure => simp [intOf]; omega
    · have HE := hide (procsF_out hlt)
      go_wp2
      go_ret
      refine ret_ints hown ?_ (bx HB.out).2.2
      rw [← HN.out, HE.out, List.append_nil]

theorem addr_add (b o j : Nat) : (⟨b, o, none⟩ : Addr).add j = ⟨b, o + j, none⟩ := by
  unfold Addr.add
  by_cases h : j = 0
  · rw [if_pos h, h]; rfl
  · rw [if_neg h]

theorem nil_ints (w : World) (B : Nat) : w.ownsRow B 3 1 (.slice none 0 0) ([] : List Nat).length (ints []) := World.ownsRow_nil _ _ _ _

/-- l = append(l, m...): numbers onto a slice of the call's own. -/
theorem app_ints {ops : Array Oper} {rest : List Oper} {o : Oper} {a : Act} {Q : Exit → Act → World → Prop} {w0 : World} {B : Nat} {v : Value} {l l2 : List Nat} {ao : Option Addr} {cap : Nat}
    (hown : w0.ownsRow B 3 1 v l.length (ints l)) (hi : IntSl w0 ao cap l2) (hl : l.length ≤ 100000) (hl2 : l2.length ≤ 100000) (hB : B ≤ w0.heap.size) (hgd : o.guard = none) (s x : Operand)
    (ho : o.op = .call { callee := .builtin .append, args := #[s, x], argTypes := #[93, 93] }) (hs : a.eval s = v)
    (hx : a.eval x = .slice ao l2.length cap)
    (h : ∀ v' w', w'.ownsRow B 3 1 v' (l ++ l2).length (ints (l ++ l2)) → (∀ a0, Below B a0 w0 → Below B a0 w') → wpList Tryz.prog ops Q rest (a.put o.dst v') w') :
    wpList Tryz.prog ops Q (o :: rest) a w0 := by
  obtain ⟨i0, hi0, hz0, hz1, hz2⟩ := info_parts Tryz.infoInt
  cases ao with
  | none =>
    have h0 : l2 = [] := by
      cases l2 with
      | nil => rfl
      | cons y r => obtain ⟨_, _, _, h2, _⟩ := hi.2.2 0 (by simp); cases h2
    subst h0
    refine wpList_append_own_none hgd s x 93 ho B 3 i0 1 Tryz.underlying93 hi0 v l.length (ints l) hs hown (by rw [hx, hi.1 rfl]; rfl) ?_
    refine h v w0 ?_ fun a0 h0 => h0
    rw [List.append_nil]; exact hown
  | some ad =>
    refine wpList_append_own _ hgd s x 93 ho B 3 i0 (.int .i64 0) 1 8 Tryz.underlying93 hi0 hz0 hz1 hz2 rfl (by decide) v l.length (ints l) hs hown ad l2.length cap (ints l2) hx (by rw [ints_length, Nat.mul_one]) ?_ ?_ (by unfold maxLen; omega) (by omega) hB ?_
    · intro j u hj
      have hjl : j < l2.length := by
        have := (List.getElem?_eq_some_iff.1 hj).1
        rwa [ints_length] at this
      obtain ⟨b, o', h1, h2, h3⟩ := hi.2.2 j hjl
      have h2' := Option.some.inj h2
      subst h2'
      have hu : u = .int .i64 l2[j] := by
        rw [ints, List.getElem?_map, List.getElem?_eq_getElem hjl] at hj
        exact (Option.some.inj hj).symm
      subst hu
      rw [addr_add]; exact h3
    · intro u hu
      obtain ⟨n, _, rfl⟩ := List.mem_map.1 hu
      rfl
    · intro v' w' h1 h2 _
      refine h v' w' ?_ fun a0 h0 => h0.grown h2 hB fun k hk => (hown.lt k hk).1
      rw [ints_append, List.length_append]; exact h1

theorem wordB_len (L : List Tk) (t : ByteArray) : (wordB L t).length ≤ L.length := wordF_len L t 0
theorem procsB_len (L : List Tk) : (procsB L).length ≤ L.length := Nat.le_trans (procsF_len L 0) (Nat.sub_le _ _)

set_option maxHeartbeats 1000000 in
theorem r_owners (L : List Tk) (b o cap : Nat) (w : World) (hL : L.length ≤ 500) (ht : ∀ k, (h : k < L.length) → L[k].t.size ≤ 500) (hc : ToksAt w b o L) :
    Calls Tryz.prog 81 #[.agg #[.slice (some ⟨b, o, none⟩) L.length cap]] w fun e w' => ∃ ao cap, e = .returned (.slice ao (ownersB L).length cap) ∧ IntSl w' ao cap (ownersB L) ∧ Below w.heap.size w w' := by
  have hx0 := Below.refl (w.heap.size + 1) (w.alloc (.cells #[.slice (some ⟨b, o, none⟩) L.length cap] 71))
  obtain ⟨hcell, hsz, hbel⟩ := bx hx0
  have hct := hc.below hbel
  have l1 := wordB_len L kShared
  have l2 := wordB_len L kLocks
  have l3 := procsB_len L
  go_enter Tryz.func81, Tryz.ntmps81
  go_wp2_with fail
  refine (r_word L b o cap kShared _ hL ht hct).mono ?_
  rintro e w1 ⟨ao1, cp1, rfl, hs1, hb1⟩
  have hx1 := hx0.trans (hb1.mono (by simp))
  obtain ⟨hcell1, hsz1, hbel1⟩ := bx hx1
  have hct1 := hc.below hbel1
  go_wp2_with (at_builtin; refine app_ints (nil_ints _ (w.heap.size + 1)) hs1 (by simp) (by omega) hsz1 rfl _ _ rfl rfl rfl ?_; intro v2 w2 hown2 hb2; have hx2 := hb2 _ hx1; obtain ⟨hcell2, hsz2, hbel2⟩ := bx hx2; have hct2 := hc.below hbel2)
  refine (r_word L b o cap kLocks _ hL ht hct2).mono ?_
  rintro e w3 ⟨ao3, cp3, rfl, hs3, hb3⟩
  have hx3 := hx2.trans (hb3.mono hsz2)
  have hown3 := owns_below hown2 hb3
  obtain ⟨hcell3, hsz3, hbel3⟩ := bx hx3
  go_wp2_with (at_builtin; refine app_ints hown3 hs3 (by simp; omega) (by omega) hsz3 rfl _ _ rfl rfl rfl ?_; intro v4 w4 hown4 hb4; have hx4 := hb4 _ hx3; obtain ⟨hcell4, hsz4, hbel4⟩ := bx hx4; have hct4 := hc.below hbel4)
  refine (r_procs L b o cap _ hL hct4).mono ?_
  rintro e w5 ⟨ao5, cp5, rfl, hs5, hb5⟩
  have hx5 := hx4.trans (hb5.mono hsz4)
  have hown5 := owns_below hown4 hb5
  obtain ⟨hcell5, hsz5, hbel5⟩ := bx hx5
  go_wp2_with (at_builtin; refine app_ints hown5 hs5 (by simp; omega) (by omega) hsz5 rfl _ _ rfl rfl rfl ?_; intro v6 w6 hown6 hb6; have hx6 := hb6 _ hx5)
  go_ret
  exact ret_ints hown6 rfl (bx hx6).2.2

theorem isB_lt {L : List Tk} {i : Nat} {t : ByteArray} (h : isB L (i : Int) t = true) : i < L.length := by
  by_cases h1 : i < L.length
  · exact h1
  · rw [isB_out (.inr (by omega))] at h; cases h

theorem mateF_out {L : List Tk} {st d : Int} {f : Nat} {k n : Int} (h : ¬ (0 ≤ k ∧ k < L.length)) : mateF L st d f k n = d := by
  cases f with
  | zero => rfl
  | succ f => rw [mateF, if_neg h]

theorem lit_eq (t : ByteArray) (c : ByteArray) (l : List UInt8) (h : c.toList = l) : (t.toList == l) = decide (t = c) := by rw [← h, seq_comm]
theorem l40 : (⟨#[40]⟩ : ByteArray).toList = [40] := by rw [bl]
theorem l41 : (⟨#[41]⟩ : ByteArray).toList = [41] := by rw [bl]
theorem l123 : (⟨#[123]⟩ : ByteArray).toList = [123] := by rw [bl]
theorem l125 : (⟨#[125]⟩ : ByteArray).toList = [125] := by rw [bl]

theorem mate_step {L : List Tk} {st d : Int} {f k : Nat} {n : Int} (h : k < L.length) : ∃ δ : Int, -1 ≤ δ ∧ δ ≤ 1 ∧ mateF L st d (f + 1) k n = (if n + δ = 0 then (k : Int) else mateF L st d f (k + st) (n + δ)) ∧
    (((L[k].t.toList == [40]) = true ∧ (L[k].t.toList == [41]) = false ∧ (L[k].t.toList == [125]) = false ∧ δ = 1) ∨ ((L[k].t.toList == [40]) = false ∧ (L[k].t.toList == [123]) = true ∧ (L[k].t.toList == [41]) = false ∧ (L[k].t.toList == [125]) = false ∧ δ = 1) ∨
     ((L[k].t.toList == [40]) = false ∧ (L[k].t.toList == [123]) = false ∧ (L[k].t.toList == [41]) = true ∧ δ = -1) ∨ ((L[k].t.toList == [40]) = false ∧ (L[k].t.toList == [123]) = false ∧ (L[k].t.toList == [41]) = false ∧ (L[k].t.toList == [125]) = true ∧ δ = -1) ∨
     ((L[k].t.toList == [40]) = false ∧ (L[k].t.toList == [123]) = false ∧ (L[k].t.toList == [41]) = false ∧ (L[k].t.toList == [125]) = false ∧ δ = 0)) := by
  have e : mateF L st d (f + 1) k n = (let n1 := if L[k].t = ⟨#[40]⟩ ∨ L[k].t = ⟨#[123]⟩ then n + 1 else n
      let n2 := if L[k].t = ⟨#[41]⟩ ∨ L[k].t = ⟨#[125]⟩ then n1 - 1 else n1
      if n2 = 0 then (k : Int) else mateF L st d f (k + st) n2) := by
    rw [mateF, if_pos ⟨by omega, by omega⟩, Int.toNat_natCast, tk_eq h]
  rw [e, lit_eq _ _ _ l40, lit_eq _ _ _ l41, lit_eq _ _ _ l123, lit_eq _ _ _ l125]
  generalize L[k].t = t
  by_cases a1 : t = ⟨#[40]⟩
  · subst a1
    exact ⟨1, by omega, by omega, by rfl, .inl ⟨by decide, by decide, by decide, rfl⟩⟩
  by_cases a2 : t = ⟨#[123]⟩
  · subst a2
    exact ⟨1, by omega, by omega, by rfl, .inr (.inl ⟨by decide, by decide, by decide, by decide, rfl⟩)⟩
  by_cases a3 : t = ⟨#[41]⟩
  · subst a3
    exact ⟨-1, by omega, by omega, by rfl, .inr (.inr (.inl ⟨by decide, by decide, by decide, rfl⟩))⟩
  by_cases a4 : t = ⟨#[125]⟩
  · subst a4
    exact ⟨-1, by omega, by omega, by rfl, .inr (.inr (.inr (.inl ⟨by decide, by decide, by decide, by decide, rfl⟩)))⟩
  refine ⟨0, by omega, by omega, ?_, .inr (.inr (.inr (.inr ⟨decide_eq_false a1, decide_eq_false a2, decide_eq_false a3, decide_eq_false a4, rfl⟩)))⟩
  simp only [a1, a2, a3, a4, or_self, if_false, Int.add_zero]

set_option maxHeartbeats 4000000 in
theorem r_mate (L : List Tk) (b o cap : Nat) (i : Nat) (w : World) (hL : L.length ≤ 500) (hi : i ≤ 500) (hc : ToksAt w b o L) :
    Calls Tryz.prog 86 #[.agg #[.slice (some ⟨b, o, none⟩) L.length cap], .int .i64 i] w fun e w' => e = .returned (.int .i64 (mateB L i)) ∧ Below w.heap.size w w' := by
  have hx0 := Below.refl (w.heap.size + 1) (w.alloc (.cells #[.slice (some ⟨b, o, none⟩) L.length cap] 71))
  obtain ⟨hcell, hsz, hbel⟩ := bx hx0
  have hct := hc.below hbel
  cases h1 : isB L (i : Int) ⟨#[41]⟩
  · cases h2 : isB L (i : Int) ⟨#[125]⟩
    · go_enter Tryz.func86, Tryz.ntmps86
      go_wp2_with fail
      refine (r_is L b o cap _ _ _ hL hct).mono ?_
      rintro e w1 ⟨rfl, hb1⟩
      have hx1 := hx0.trans (hb1.mono (by simp))
      obtain ⟨hcell1, hsz1, hbel1⟩ := bx hx1
      have hct1 := hc.below hbel1
      go_wp2_with fail
      refine (r_is L b o cap _ _ _ hL hct1).mono ?_
      rintro e w2 ⟨rfl, hb2⟩
      have hx2 := hx1.trans (hb2.mono hsz1)
      go_wp2_with fail
      have HM : Hid (mateB L i = mateF L (1) i (L.length + 1) i 0) := by show mateB L i = _; unfold mateB; rw [h1, h2]; rfl
      go_loopw [6, 7] (fun v u wr => ∃ (k n : Int) (f : Nat), v = .int .i64 n ∧ u = .int .i64 k ∧ -1 ≤ k ∧ k ≤ 500 ∧ (L.length : Int) + 1 ≤ f + k ∧ f ≤ 501 ∧ -501 + f ≤ n ∧ n ≤ 501 - f ∧ mateB L i = mateF L (1) i f k n ∧ Below (w.heap.size + 1) (w.alloc (.cells #[.slice (some ⟨b, o, none⟩) L.length cap] 71)) wr) (fun _ u _ => ((L.length : Int) - intOf u).toNat)
      case atStart => exact ⟨i, 0, L.length + 1, rfl, rfl, by omega, by omega, by omega, by omega, by omega, by omega, HM.out, hx2⟩
      case round =>
        obtain ⟨k, n, f, rfl, rfl, k1, k2, hf1, hf2, hf3, hf4, hn, hbx⟩ := hrel
        obtain ⟨hcellr, hszr, hbelr⟩ := bx hbx
        have hctr := hc.below hbelr
        have HN := hide hn
        have HB := hide hbx
        clear hn hbelr hbx HM
        by_cases h0 : 0 ≤ k ∧ k < L.length
        · obtain ⟨q, rfl⟩ := Int.eq_ofNat_of_zero_le h0.1
          have hq : q < L.length := by omega
          have hck := (hctr.2 q hq).1
          obtain ⟨f', rfl⟩ : ∃ f', f = f' + 1 := ⟨f - 1, by omega⟩
          obtain ⟨δ, hd1, hd2, hst, hcs⟩ := mate_step (L := L) (st := 1) (d := i) (f := f') (n := n) hq
          have HST := hide hst
          clear hst h0
          by_cases hz : n + δ = 0
          · have HZ := hide hz
            rcases hcs with ⟨c1, c2, c3, rfl⟩ | ⟨c1, c2, c3, c4, rfl⟩ | ⟨c1, c2, c3, rfl⟩ | ⟨c1, c2, c3, c4, rfl⟩ | ⟨c1, c2, c3, c4, rfl⟩
            all_goals
              first
              | (have hz' : (n + 1 == 0) = true := beq_iff_eq.2 hz; clear hz; go_wp2; go_ret; exact ⟨ret_int (by rw [HN.out, HST.out, if_pos HZ.out]), (bx HB.out).2.2⟩)
              | (have hz' : (n - 1 == 0) = true := beq_iff_eq.2 (by omega); clear hz; go_wp2; go_ret; exact ⟨ret_int (by rw [HN.out, HST.out, if_pos HZ.out]), (bx HB.out).2.2⟩)
              | (have hz' : (n == 0) = true := beq_iff_eq.2 (by omega); clear hz; go_wp2; go_ret; exact ⟨ret_int (by rw [HN.out, HST.out, if_pos HZ.out]), (bx HB.out).2.2⟩)
          · have HZ := hide hz
            rcases hcs with ⟨c1, c2, c3, rfl⟩ | ⟨c1, c2, c3, c4, rfl⟩ | ⟨c1, c2, c3, rfl⟩ | ⟨c1, c2, c3, c4, rfl⟩ | ⟨c1, c2, c3, c4, rfl⟩
            · have hz' : (n + 1 == 0) = false := beq_eq_false_iff_ne.2 hz
              clear hz
              go_wp2
              go_roundw
              case rel => exact ⟨q + (1), n + 1, f', rfl, by go_num, by omega, by omega, by omega, by omega, by omega, by omega, by rw [HN.out, HST.out, if_neg HZ.out], HB.out⟩
              case measure => simp [intOf]; omega
            · have hz' : (n + 1 == 0) = false := beq_eq_false_iff_ne.2 hz
              clear hz
              go_wp2
              go_roundw
              case rel => exact ⟨q + (1), n + 1, f', rfl, by go_num, by omega, by omega, by omega, by omega, by omega, by omega, by rw [HN.out, HST.out, if_neg HZ.out], HB.out⟩
              case measure => simp [intOf]; omega
            · have hz' : (n - 1 == 0) = false := beq_eq_false_iff_ne.2 (by omega)
              clear hz
              go_wp2
              go_roundw
              case rel => exact ⟨q + (1), n + -1, f', by go_num, by go_num, by omega, by omega, by omega, by omega, by omega, by omega, by rw [HN.out, HST.out, if_neg HZ.out], HB.out⟩
              case measure => simp [intOf]; omega
            · have hz' : (n - 1 == 0) = false := beq_eq_false_iff_ne.2 (by omega)
              clear hz
              go_wp2
              go_roundw
              case rel => exact ⟨q + (1), n + -1, f', by go_num, by go_num, by omega, by omega, by omega, by omega, by omega, by omega, by rw [HN.out, HST.out, if_neg HZ.out], HB.out⟩
              case measure => simp [intOf]; omega
            · have hz' : (n == 0) = false := beq_eq_false_iff_ne.2 (by omega)
              clear hz
              go_wp2
              go_roundw
              case rel => exact ⟨q + (1), n + 0, f', by go_num, by go_num, by omega, by omega, by omega, by omega, by omega, by omega, by rw [HN.out, HST.out, if_neg HZ.out], HB.out⟩
              case measure => simp [intOf]; omega
        · have HR := hide (mateF_out (st := 1) (d := i) (f := f) (n := n) h0)
          by_cases h00 : 0 ≤ k
          · have h01 : (L.length : Int) ≤ k := by omega
            clear h0
            go_wp2
            go_ret
            exact ⟨ret_int (by rw [HN.out, HR.out]), (bx HB.out).2.2⟩
          · clear h0
            go_wp2
            go_ret
            exact ⟨ret_int (by rw [HN.out, HR.out]), (bx HB.out).2.2⟩
    · go_enter Tryz.func86, Tryz.ntmps86
      go_wp2_with fail
      refine (r_is L b o cap _ _ _ hL hct).mono ?_
      rintro e w1 ⟨rfl, hb1⟩
      have hx1 := hx0.trans (hb1.mono (by simp))
      obtain ⟨hcell1, hsz1, hbel1⟩ := bx hx1
      have hct1 := hc.below hbel1
      go_wp2_with fail
      refine (r_is L b o cap _ _ _ hL hct1).mono ?_
      rintro e w2 ⟨rfl, hb2⟩
      have hx2 := hx1.trans (hb2.mono hsz1)
      go_wp2_with fail
      have hiL := isB_lt h2
      have HM : Hid (mateB L i = mateF L (-1) i (L.length + 1) i 0) := by show mateB L i = _; unfold mateB; rw [h1, h2]; rfl
      go_loopw [6, 7] (fun v u wr => ∃ (k n : Int) (f : Nat), v = .int .i64 n ∧ u = .int .i64 k ∧ -1 ≤ k ∧ k ≤ 500 ∧ k + 2 ≤ f ∧ f ≤ 501 ∧ -501 + f ≤ n ∧ n ≤ 501 - f ∧ mateB L i = mateF L (-1) i f k n ∧ Below (w.heap.size + 1) (w.alloc (.cells #[.slice (some ⟨b, o, none⟩) L.length cap] 71)) wr) (fun _ u _ => (intOf u + 1).toNat)
      case atStart => exact ⟨i, 0, L.length + 1, rfl, rfl, by omega, by omega, by omega, by omega, by omega, by omega, HM.out, hx2⟩
      case round =>
        obtain ⟨k, n, f, rfl, rfl, k1, k2, hf1, hf2, hf3, hf4, hn, hbx⟩ := hrel
        obtain ⟨hcellr, hszr, hbelr⟩ := bx hbx
        have hctr := hc.below hbelr
        have HN := hide hn
        have HB := hide hbx
        clear hn hbelr hbx HM
        by_cases h0 : 0 ≤ k ∧ k < L.length
        · obtain ⟨q, rfl⟩ := Int.eq_ofNat_of_zero_le h0.1
          have hq : q < L.length := by omega
          have hck := (hctr.2 q hq).1
          obtain ⟨f', rfl⟩ : ∃ f', f = f' + 1 := ⟨f - 1, by omega⟩
          obtain ⟨δ, hd1, hd2, hst, hcs⟩ := mate_step (L := L) (st := -1) (d := i) (f := f') (n := n) hq
          have HST := hide hst
          clear hst h0
          by_cases hz : n + δ = 0
          · have HZ := hide hz
            rcases hcs with ⟨c1, c2, c3, rfl⟩ | ⟨c1, c2, c3, c4, rfl⟩ | ⟨c1, c2, c3, rfl⟩ | ⟨c1, c2, c3, c4, rfl⟩ | ⟨c1, c2, c3, c4, rfl⟩
            all_goals
              first
              | (have hz' : (n + 1 == 0) = true := beq_iff_eq.2 hz; clear hz; go_wp2; go_ret; exact ⟨ret_int (by rw [HN.out, HST.out, if_pos HZ.out]), (bx HB.out).2.2⟩)
              | (have hz' : (n - 1 == 0) = true := beq_iff_eq.2 (by omega); clear hz; go_wp2; go_ret; exact ⟨ret_int (by rw [HN.out, HST.out, if_pos HZ.out]), (bx HB.out).2.2⟩)
              | (have hz' : (n == 0) = true := beq_iff_eq.2 (by omega); clear hz; go_wp2; go_ret; exact ⟨ret_int (by rw [HN.out, HST.out, if_pos HZ.out]), (bx HB.out).2.2⟩)
          · have HZ := hide hz
            rcases hcs with ⟨c1, c2, c3, rfl⟩ | ⟨c1, c2, c3, c4, rfl⟩ | ⟨c1, c2, c3, rfl⟩ | ⟨c1, c2, c3, c4, rfl⟩ | ⟨c1, c2, c3, c4, rfl⟩
            · have hz' : (n + 1 == 0) = false := beq_eq_false_iff_ne.2 hz
              clear hz
              go_wp2
              go_roundw
              case rel => exact ⟨q + (-1), n + 1, f', rfl, by go_num, by omega, by omega, by omega, by omega, by omega, by omega, by rw [HN.out, HST.out, if_neg HZ.out], HB.out⟩
              case measure => simp [intOf]; omega
            · have hz' : (n + 1 == 0) = false := beq_eq_false_iff_ne.2 hz
              clear hz
              go_wp2
              go_roundw
              case rel => exact ⟨q + (-1), n + 1, f', rfl, by go_num, by omega, by omega, by omega, by omega, by omega, by omega, by rw [HN.out, HST.out, if_neg HZ.out], HB.out⟩
              case measure => simp [intOf]; omega
            · have hz' : (n - 1 == 0) = false := beq_eq_false_iff_ne.2 (by omega)
              clear hz
              go_wp2
              go_roundw
              case rel => exact ⟨q + (-1), n + -1, f', by go_num, by go_num, by omega, by omega, by omega, by omega, by omega, by omega, by rw [HN.out, HST.out, if_neg HZ.out], HB.out⟩
              case measure => simp [intOf]; omega
            · have hz' : (n - 1 == 0) = false := beq_eq_false_iff_ne.2 (by omega)
              clear hz
              go_wp2
              go_roundw
              case rel => exact ⟨q + (-1), n + -1, f', by go_num, by go_num, by omega, by omega, by omega, by omega, by omega, by omega, by rw [HN.out, HST.out, if_neg HZ.out], HB.out⟩
              case measure => simp [intOf]; omega
            · have hz' : (n == 0) = false := beq_eq_false_iff_ne.2 (by omega)
              clear hz
              go_wp2
              go_roundw
              case rel => exact ⟨q + (-1), n + 0, f', by go_num, by go_num, by omega, by omega, by omega, by omega, by omega, by omega, by rw [HN.out, HST.out, if_neg HZ.out], HB.out⟩
              case measure => simp [intOf]; omega
        · have HR := hide (mateF_out (st := -1) (d := i) (f := f) (n := n) h0)
          by_cases h00 : 0 ≤ k
          · have h01 : (L.length : Int) ≤ k := by omega
            clear h0
            go_wp2
            go_ret
            exact ⟨ret_int (by rw [HN.out, HR.out]), (bx HB.out).2.2⟩
          · clear h0
            go_wp2
            go_ret
            exact ⟨ret_int (by rw [HN.out, HR.out]), (bx HB.out).2.2⟩
  · have h2 : True := trivial
    · go_enter Tryz.func86, Tryz.ntmps86
      go_wp2_with fail
      refine (r_is L b o cap _ _ _ hL hct).mono ?_
      rintro e w1 ⟨rfl, hb1⟩
      have hx2 := hx0.trans (hb1.mono (by simp))
      go_wp2_with fail
      have hiL := isB_lt h1
      have HM : Hid (mateB L i = mateF L (-1) i (L.length + 1) i 0) := by show mateB L i = _; unfold mateB; rw [h1]; rfl
      go_loopw [6, 7] (fun v u wr => ∃ (k n : Int) (f : Nat), v = .int .i64 n ∧ u = .int .i64 k ∧ -1 ≤ k ∧ k ≤ 500 ∧ k + 2 ≤ f ∧ f ≤ 501 ∧ -501 + f ≤ n ∧ n ≤ 501 - f ∧ mateB L i = mateF L (-1) i f k n ∧ Below (w.heap.size + 1) (w.alloc (.cells #[.slice (some ⟨b, o, none⟩) L.length cap] 71)) wr) (fun _ u _ => (intOf u + 1).toNat)
      case atStart => exact ⟨i, 0, L.length + 1, rfl, rfl, by omega, by omega, by omega, by omega, by omega, by omega, HM.out, hx2⟩
      case round =>
        obtain ⟨k, n, f, rfl, rfl, k1, k2, hf1, hf2, hf3, hf4, hn, hbx⟩ := hrel
        obtain ⟨hcellr, hszr, hbelr⟩ := bx hbx
        have hctr := hc.below hbelr
        have HN := hide hn
        have HB := hide hbx
        clear hn hbelr hbx HM
        by_cases h0 : 0 ≤ k ∧ k < L.length
        · obtain ⟨q, rfl⟩ := Int.eq_ofNat_of_zero_le h0.1
          have hq : q < L.length := by omega
          have hck := (hctr.2 q hq).1
          obtain ⟨f', rfl⟩ : ∃ f', f = f' + 1 := ⟨f - 1, by omega⟩
          obtain ⟨δ, hd1, hd2, hst, hcs⟩ := mate_step (L := L) (st := -1) (d := i) (f := f') (n := n) hq
          have HST := hide hst
          clear hst h0
          by_cases hz : n + δ = 0
          · have HZ := hide hz
            rcases hcs with ⟨c1, c2, c3, rfl⟩ | ⟨c1, c2, c3, c4, rfl⟩ | ⟨c1, c2, c3, rfl⟩ | ⟨c1, c2, c3, c4, rfl⟩ | ⟨c1, c2, c3, c4, rfl⟩
            all_goals
              first
              | (have hz' : (n + 1 == 0) = true := beq_iff_eq.2 hz; clear hz; go_wp2; go_ret; exact ⟨ret_int (by rw [HN.out, HST.out, if_pos HZ.out]), (bx HB.out).2.2⟩)
              | (have hz' : (n - 1 == 0) = true := beq_iff_eq.2 (by omega); clear hz; go_wp2; go_ret; exact ⟨ret_int (by rw [HN.out, HST.out, if_pos HZ.out]), (bx HB.out).2.2⟩)
              | (have hz' : (n == 0) = true := beq_iff_eq.2 (by omega); clear hz; go_wp2; go_ret; exact ⟨ret_int (by rw [HN.out, HST.out, if_pos HZ.out]), (bx HB.out).2.2⟩)
          · have HZ := hide hz
            rcases hcs with ⟨c1, c2, c3, rfl⟩ | ⟨c1, c2, c3, c4, rfl⟩ | ⟨c1, c2, c3, rfl⟩ | ⟨c1, c2, c3, c4, rfl⟩ | ⟨c1, c2, c3, c4, rfl⟩
            · have hz' : (n + 1 == 0) = false := beq_eq_false_iff_ne.2 hz
              clear hz
              go_wp2
              go_roundw
              case rel => exact ⟨q + (-1), n + 1, f', rfl, by go_num, by omega, by omega, by omega, by omega, by omega, by omega, by rw [HN.out, HST.out, if_neg HZ.out], HB.out⟩
              case measure => simp [intOf]; omega
            · have hz' : (n + 1 == 0) = false := beq_eq_false_iff_ne.2 hz
              clear hz
              go_wp2
              go_roundw
              case rel => exact ⟨q + (-1), n + 1, f', rfl, by go_num, by omega, by omega, by omega, by omega, by omega, by omega, by rw [HN.out, HST.out, if_neg HZ.out], HB.out⟩
              case measure => simp [intOf]; omega
            · have hz' : (n - 1 == 0) = false := beq_eq_false_iff_ne.2 (by omega)
              clear hz
              go_wp2
              go_roundw
              case rel => exact ⟨q + (-1), n + -1, f', by go_num, by go_num, by omega, by omega, by omega, by omega, by omega, by omega, by rw [HN.out, HST.out, if_neg HZ.out], HB.out⟩
              case measure => simp [intOf]; omega
            · have hz' : (n - 1 == 0) = false := beq_eq_false_iff_ne.2 (by omega)
              clear hz
              go_wp2
              go_roundw
              case rel => exact ⟨q + (-1), n + -1, f', by go_num, by go_num, by omega, by omega, by omega, by omega, by omega, by omega, by rw [HN.out, HST.out, if_neg HZ.out], HB.out⟩
              case measure => simp [intOf]; omega
            · have hz' : (n == 0) = false := beq_eq_false_iff_ne.2 (by omega)
              clear hz
              go_wp2
              go_roundw
              case rel => exact ⟨q + (-1), n + 0, f', by go_num, by go_num, by omega, by omega, by omega, by omega, by omega, by omega, by rw [HN.out, HST.out, if_neg HZ.out], HB.out⟩
              case measure => simp [intOf]; omega
        · have HR := hide (mateF_out (st := -1) (d := i) (f := f) (n := n) h0)
          by_cases h00 : 0 ≤ k
          · have h01 : (L.length : Int) ≤ k := by omega
            clear h0
            go_wp2
            go_ret
            exact ⟨ret_int (by rw [HN.out, HR.out]), (bx HB.out).2.2⟩
          · clear h0
            go_wp2
            go_ret
            exact ⟨ret_int (by rw [HN.out, HR.out]), (bx HB.out).2.2⟩

end Go.Proofs.YtmfcpbhdggonfaaGreatDoor

/- Contracts of the reference's checks on names: too many. -/
namespace Go.Proofs.YtmfcpbhdggonfaaGreatDoor
open Go.RowKit RR

theorem keep1 {wr W w1 : World} {a : Addr} {x : Value} (ha : a.block < wr.heap.size) (h : W.cell? a = some x ∧ Below wr.heap.size wr W) (hb : Below W.heap.size W w1) : w1.cell? a = some x ∧ Below wr.heap.size wr w1 :=
  ⟨(hb.cell (Nat.lt_of_lt_of_le ha h.2.size)).trans h.1, h.2.trans (hb.mono h.2.size)⟩
theorem keep2 {wr W w1 : World} {a c : Addr} {x y : Value} (ha : a.block < wr.heap.size) (hc : c.block < wr.heap.size) (h : W.cell? a = some x ∧ W.cell? c = some y ∧ Below wr.heap.size wr W) (hb : Below W.heap.size W w1) : w1.cell? a = some x ∧ w1.cell? c = some y ∧ Below wr.heap.size wr w1 :=
  ⟨(hb.cell (Nat.lt_of_lt_of_le ha h.2.2.size)).trans h.1, (hb.cell (Nat.lt_of_lt_of_le hc h.2.2.size)).trans h.2.1, h.2.2.trans (hb.mono h.2.2.size)⟩

set_option maxHeartbeats 2000000 in
theorem r_many (L : List Tk) (b o cap : Nat) (w : World) (hL : L.length ≤ 500) (ht : ∀ k, (h : k < L.length) → L[k].t.size ≤ 500) (hp : ProcOk L) (hc : ToksAt w b o L) :
    Calls Tryz.prog 47 #[.agg #[.slice (some ⟨b, o, none⟩) L.length cap]] w fun e w' => e = .returned (.int .i64 (manyB L)) ∧ Below w.heap.size w w' := by
  have hx0 := Below.refl (w.heap.size + 1) (w.alloc (.cells #[.slice (some ⟨b, o, none⟩) L.length cap] 71))
  obtain ⟨hcell, hsz, hbel⟩ := bx hx0
  have hct := hc.below hbel
  have l1 := wordB_len L ⟨#[115, 104, 97, 114, 101, 100]⟩
  have l2 := wordB_len L ⟨#[108, 111, 99, 107, 115]⟩
  have l3 := procsB_len L
  have l4 := wordB_len L ⟨#[116, 104, 114, 101, 97, 100, 115]⟩
  go_enter Tryz.func47, Tryz.ntmps47
  go_wp2_with fail
  go_region_held (fun w' => w'.cell? ⟨w.heap.size, 0, none⟩ = some (.slice (some ⟨b, o, none⟩) L.length cap) ∧ Below (w.alloc (.cells #[.slice (some ⟨b, o, none⟩) L.length cap] 71)).heap.size (w.alloc (.cells #[.slice (some ⟨b, o, none⟩) L.length cap] 71)) w') (first | exact ⟨hcell, (Below.refl _ _).drew⟩ | exact keep1 hsz (by assumption) (by assumption)) (first | (go_at_call 79; refine (r_word L b o cap _ _ hL ht ?_).mono ?_; exact hct.below (Below.refl _ _).drew; rintro e w21 ⟨ao1, cp1, rfl, hs1, hb1⟩) | (go_at_call 78; refine (r_past L b o cap _ _ _ _ _ ?_ hL ?_ ?_ ?_).mono ?_; exact hct.below ((Below.refl _ _).drew.trans hb1); exact Nat.le_trans l1 (by omega); exact hs1; exact wordF_lt _ _ _; rintro e w2 ⟨rfl, hb2⟩))
  have hbb := ((Below.refl _ _).drew.trans hb1).trans (hb2.mono hb1.size)
  clear hb1 hb2 hs1
  have hx2 := hx0.trans (hbb.mono hsz)
  obtain ⟨hcell2, hsz2, hbel2⟩ := bx hx2
  have hct2 := hc.below hbel2
  clear hbb hbel2 hcell hsz hbel hct
  go_wp2_with fail
  go_region_held (fun w' => w'.cell? ⟨w.heap.size, 0, none⟩ = some (.slice (some ⟨b, o, none⟩) L.length cap) ∧ Below (w2).heap.size (w2) w') (first | exact ⟨hcell2, (Below.refl _ _).drew⟩ | exact keep1 hsz2 (by assumption) (by assumption)) (first | (go_at_call 79; refine (r_word L b o cap _ _ hL ht ?_).mono ?_; exact hct2.below (Below.refl _ _).drew; rintro e w31 ⟨ao1, cp1, rfl, hs1, hb1⟩) | (go_at_call 78; refine (r_past L b o cap _ _ _ _ _ ?_ hL ?_ ?_ ?_).mono ?_; exact hct2.below ((Below.refl _ _).drew.trans hb1); exact Nat.le_trans l2 (by omega); exact hs1; exact wordF_lt _ _ _; rintro e w3 ⟨rfl, hb2⟩))
  have hbb := ((Below.refl _ _).drew.trans hb1).trans (hb2.mono hb1.size)
  clear hb1 hb2 hs1
  have hx3 := hx2.trans (hbb.mono hsz2)
  obtain ⟨hcell3, hsz3, hbel3⟩ := bx hx3
  have hct3 := hc.below hbel3
  clear hcell2 hsz2 hbb
  generalize hv1 : pastB L (wordB L ⟨#[115, 104, 97, 114, 101, 100]⟩) 4 = p1
  generalize hv2 : pastB L (wordB L ⟨#[108, 111, 99, 107, 115]⟩) 3 = p2
  have HV1 := hide hv1
  have HV2 := hide hv2
  clear hv1 hv2
  go_wp2_with (first | (go_at_call 80; refine (r_least _ _ _).mono ?_; rintro e w' ⟨rfl, rfl⟩))
  refine (r_procs L b o cap _ hL hct3).mono ?_
  rintro e w4 ⟨ao4, cp4, rfl, hs4, hb4⟩
  have hx4 := hx3.trans (hb4.mono hsz3)
  obtain ⟨hcell4, hsz4, hbel4⟩ := bx hx4
  have hct4 := hc.below hbel4
  have hin4 := procsF_lt hp 0
  go_wp2_with fail
  refine (r_past L b o cap _ _ (procsB L) 4 _ hct4 hL (by omega) hs4 hin4).mono ?_
  rintro e w5 ⟨rfl, hb5⟩
  have hx5 := hx4.trans (hb5.mono hsz4)
  have hs5 := hs4.below hb5
  go_wp2_with (first | (go_at_call 80; refine (r_least _ _ _).mono ?_; rintro e w' ⟨rfl, rfl⟩))
  have HM : Hid (manyB L = leastB (manyF L (leastB (leastB p1 p2) (pastB L (procsB L) 4)) (procsB L)) (pastB L (wordB L ⟨#[116, 104, 114, 101, 97, 100, 115]⟩) 3)) := by
    show manyB L = _; rw [← HV1.out, ← HV2.out]; rfl
  generalize hP : procsB L = P at *
  have HP := hide hP
  clear hP
  generalize hA : leastB (leastB p1 p2) (pastB L P 4) = A at *
  have hin5 : ∀ j ∈ P, j < L.length := by rw [← HP.out]; exact hin4
  clear hA hcell4 hsz4 hbel4 hct4 hs4 hb5 hb4 hcell3 hsz3 hbel3 hct3 hx2 hx3 hx4 hin4 HV1 HV2
  go_loopw [3, 4, 6] (fun v3 v4 u wr => ∃ (k : Nat) (x y : Int), v3 = .int .i64 x ∧ v4 = .int .i64 y ∧ u = .int .i64 k ∧ k ≤ P.length ∧ manyF L x (P.drop k) = manyF L A P ∧ IntSl wr ao4 cp4 P ∧ Below (w.heap.size + 1) (w.alloc (.cells #[.slice (some ⟨b, o, none⟩) L.length cap] 71)) wr) (fun _ _ u _ => P.length - (intOf u).toNat)
  case atStart => exact ⟨0, A, _, rfl, rfl, rfl, Nat.zero_le _, rfl, hs5, hx5⟩
  case round =>
    obtain ⟨k, x, y, rfl, rfl, rfl, hk, hn, hsr, hbx⟩ := hrel
    obtain ⟨hcellr, hszr, hbelr⟩ := bx hbx
    have hctr := hc.below hbelr
    have HN := hide hn
    have HB := hide hbx
    have HS := hide hsr
    clear hn hbelr hbx
    by_cases hlt : k < P.length
    · obtain ⟨b', o', hb', hao, hck⟩ := hsr.2.2 k hlt
      subst hao
      have hj := hin5 P[k] (List.getElem_mem _)
      have lp : (paramsB L P[k]).length ≤ L.length := Nat.le_trans (namesF_len L (P[k] + 2)) (Nat.sub_le _ _)
      clear hsr
      go_wp2_with fail
      go_region_held (fun w' => w'.cell? ⟨w.heap.size, 0, none⟩ = some (.slice (some ⟨b, o, none⟩) L.length cap) ∧ w'.cell? ⟨b', o' + k, none⟩ = some (.int .i64 P[k]) ∧ Below wr.heap.size wr w') (first | exact ⟨hcellr, hck, (Below.refl _ _).drew⟩ | exact keep2 hszr hb' (by assumption) (by assumption)) (first | (go_at_call 56; refine (r_params L b o cap _ _ hL ht ?_ ?_).mono ?_; exact hctr.below (Below.refl _ _).drew; exact (by omega); rintro e w1 ⟨ao1, cp1, rfl, hs1, hb1⟩) | (go_at_call 78; refine (r_past L b o cap _ _ _ _ _ ?_ hL ?_ ?_ ?_).mono ?_; exact hctr.below ((Below.refl _ _).drew.trans hb1); exact Nat.le_trans lp (by omega); exact hs1; exact fun j hj => (namesF_lt L _ j hj).2; rintro e w2 ⟨rfl, hb2⟩))
      have hy := ((Below.refl _ _).drew.trans hb1).trans (hb2.mono hb1.size)
      clear hb1 hb2 hs1
      go_wp2_with (first | (go_at_call 80; refine (r_least _ _ _).mono ?_; rintro e w' ⟨rfl, rfl⟩))
      go_roundw
      case rel => exact ⟨k + 1, _, _, rfl, rfl, by go_num, by omega, by rw [← HN.out, List.drop_eq_getElem_cons hlt]; rfl, HS.out.below hy, HB.out.trans (hy.mono hszr)⟩
      case measure => simp [intOf]; omega
    · have HE : Hid (x = manyF L A P) := by show x = _; rw [← HN.out, List.drop_of_length_le (by omega)]; rfl
      go_wp2_with fail
      go_region_held (fun w' => w'.cell? ⟨w.heap.size, 0, none⟩ = some (.slice (some ⟨b, o, none⟩) L.length cap) ∧ Below (wr).heap.size (wr) w') (first | exact ⟨hcellr, (Below.refl _ _).drew⟩ | exact keep1 hszr (by assumption) (by assumption)) (first | (go_at_call 79; refine (r_word L b o cap _ _ hL ht ?_).mono ?_; exact hctr.below (Below.refl _ _).drew; rintro e w21 ⟨ao1, cp1, rfl, hs1, hb1⟩) | (go_at_call 78; refine (r_past L b o cap _ _ _ _ _ ?_ hL ?_ ?_ ?_).mono ?_; exact hctr.below ((Below.refl _ _).drew.trans hb1); exact Nat.le_trans l4 (by omega); exact hs1; exact wordF_lt _ _ _; rintro e w2 ⟨rfl, hb2⟩))
      have hbb := ((Below.refl _ _).drew.trans hb1).trans (hb2.mono hb1.size)
      clear hb1 hb2 hs1
      have hy := HB.out.trans (hbb.mono hszr)
      go_wp2_with (first | (go_at_call 80; refine (r_least _ _ _).mono ?_; rintro e w' ⟨rfl, rfl⟩))
      go_ret
      exact ⟨ret_int (by rw [HM.out, HE.out]), (bx hy).2.2⟩

end Go.Proofs.YtmfcpbhdggonfaaGreatDoor

/- The checks on names as the program makes them: plain functions. No Go here. -/
namespace RR

/-- A name where it stands: roles: 0 shared, 1 lock, 2 procedure, 3 parameter, 4 truth, 5 lock used, 6 called, 7 thread. -/
structure Nm where
  word : ByteArray
  at_ : Nat
  role : Nat
  proc : Int

structure Cl where
  word : ByteArray
  at_ : Nat
  values : Nat

def isWholeB (r : Nat) : Bool := decide (r = 0) || decide (r = 1) || decide (r = 2)
def isGivenB (ns : List Nm) (word : ByteArray) (role : Nat) : Bool := ns.any fun n => decide (n.role = role) && decide (n.word = word)
def isParamB (ns : List Nm) (word : ByteArray) (proc : Int) : Bool := ns.any fun n => decide (n.role = 3) && decide (n.proc = proc) && decide (n.word = word)

theorem any_snoc {α : Type} (p : α → Bool) (l : List α) (k : Nat) (h : k < l.length) : (l.take (k + 1)).any p = ((l.take k).any p || p l[k]) := by
  rw [List.take_succ_eq_append_getElem h, List.any_append]; simp
theorem any_get {α : Type} (p : α → Bool) (l : List α) (k : Nat) (h : k < l.length) (e : p l[k] = true) : l.any p = true :=
  List.any_eq_true.2 ⟨l[k], List.getElem_mem _, e⟩

/-- Is the name n, where it is used, what it is not? -/
def misusedB (ns : List Nm) (n : Nm) : Bool :=
  if n.role = 4 then !isGivenB ns n.word 0 && !isParamB ns n.word n.proc
  else if n.role = 5 then !isGivenB ns n.word 1
  else if n.role = 6 ∨ n.role = 7 then !isGivenB ns n.word 2
  else false

/-- Does the name m, number j, clash with the name n, number i? -/
def clashB (i : Nat) (n : Nm) (j : Nat) (m : Nm) : Bool :=
  decide (m.word = n.word) && ((isWholeB n.role && isWholeB m.role && decide (j < i)) || (decide (n.role = 3) && isWholeB m.role) || (decide (n.role = 3) && decide (m.role = 3) && decide (m.proc = n.proc) && decide (j < i)))

def nmAt (ns : List Nm) (k : Nat) : Nm := ns[k]?.getD ⟨⟨#[]⟩, 0, 0, 0⟩
theorem nmAt_eq {ns : List Nm} {k : Nat} (h : k < ns.length) : nmAt ns k = ns[k] := by unfold nmAt; rw [List.getElem?_eq_getElem h]; rfl
def clashG (ns : List Nm) (i : Nat) (n : Nm) : Nat → Bool
  | 0 => false
  | d + 1 => clashB i n (ns.length - (d + 1)) (nmAt ns (ns.length - (d + 1))) || clashG ns i n d
def clashF (ns : List Nm) (i : Nat) (n : Nm) (j : Nat) : Bool := clashG ns i n (ns.length - j)
theorem clashF_eq (ns : List Nm) (i : Nat) (n : Nm) (j : Nat) : clashF ns i n j = if h : j < ns.length then clashB i n j ns[j] || clashF ns i n (j + 1) else false := by
  unfold clashF
  by_cases hk : j < ns.length
  · have e : ns.length - j = (ns.length - (j + 1)) + 1 := by omega
    have e2 : ns.length - ((ns.length - (j + 1)) + 1) = j := by omega
    rw [dif_pos hk, e, clashG, e2, nmAt_eq hk]
  · rw [dif_neg hk, show ns.length - j = 0 by omega]; rfl

theorem clashF_out {ns : List Nm} {i : Nat} {n : Nm} {j : Nat} (h : ¬ j < ns.length) : clashF ns i n j = false := by rw [clashF_eq, dif_neg h]
theorem clashF_yes {ns : List Nm} {i : Nat} {n : Nm} {j : Nat} (h : j < ns.length) (e : clashB i n j ns[j] = true) : clashF ns i n j = true := by rw [clashF_eq, dif_pos h, e]; rfl
theorem clashF_no {ns : List Nm} {i : Nat} {n : Nm} {j : Nat} (h : j < ns.length) (e : clashB i n j ns[j] = false) : clashF ns i n j = clashF ns i n (j + 1) := by rw [clashF_eq, dif_pos h, e]; rfl

/-- The place of the first name, from k on, of which p holds. -/
def firstG (p : Nat → Nm → Bool) (ns : List Nm) : Nat → Option Nat
  | 0 => none
  | d + 1 => if p (ns.length - (d + 1)) (nmAt ns (ns.length - (d + 1))) then some (nmAt ns (ns.length - (d + 1))).at_ else firstG p ns d
def firstF (p : Nat → Nm → Bool) (ns : List Nm) (k : Nat) : Option Nat := firstG p ns (ns.length - k)
theorem firstF_eq (p : Nat → Nm → Bool) (ns : List Nm) (k : Nat) : firstF p ns k = if h : k < ns.length then if p k ns[k] then some ns[k].at_ else firstF p ns (k + 1) else none := by
  unfold firstF
  by_cases hk : k < ns.length
  · have e : ns.length - k = (ns.length - (k + 1)) + 1 := by omega
    have e2 : ns.length - ((ns.length - (k + 1)) + 1) = k := by omega
    rw [dif_pos hk, e, firstG, e2, nmAt_eq hk]
  · rw [dif_neg hk, show ns.length - k = 0 by omega]; rfl

theorem firstF_out {p : Nat → Nm → Bool} {ns : List Nm} {k : Nat} (h : ¬ k < ns.length) : firstF p ns k = none := by rw [firstF_eq, dif_neg h]
theorem firstF_yes {p : Nat → Nm → Bool} {ns : List Nm} {k : Nat} (h : k < ns.length) (e : p k ns[k] = true) : firstF p ns k = some ns[k].at_ := by rw [firstF_eq, dif_pos h, if_pos e]
theorem firstF_no {p : Nat → Nm → Bool} {ns : List Nm} {k : Nat} (h : k < ns.length) (e : p k ns[k] = false) : firstF p ns k = firstF p ns (k + 1) := by rw [firstF_eq, dif_pos h, e]; rfl

def twiceP (ns : List Nm) : Option Nat := firstF (fun i n => clashF ns i n 0) ns 0
def misP (ns : List Nm) : Option Nat := firstF (fun _ n => misusedB ns n) ns 0

end RR

/- The checks on names as the program makes them, more: too many, calls. No Go here. -/
namespace RR

def pstep (word : ByteArray) (pc : Int × Nat) (n : Nm) : Int × Nat :=
  let p := if n.role = 2 ∧ n.word = word then n.proc else pc.1
  (p, if n.role = 3 ∧ n.proc = p then pc.2 + 1 else pc.2)
def paramsP (ns : List Nm) (word : ByteArray) : Nat := (ns.foldl (pstep word) (-1, 0)).2

theorem foldl_snoc {α β : Type} (f : β → α → β) (b : β) (l : List α) (k : Nat) (h : k < l.length) : (l.take (k + 1)).foldl f b = f ((l.take k).foldl f b) l[k] := by
  rw [List.take_succ_eq_append_getElem h, List.foldl_append]; rfl

/-- How many names of each kind there are so far. -/
structure Cts where
  sh : Nat
  lo : Nat
  pr : Nat
  pa : Nat
  th : Nat
def Cts.add (c : Cts) (r : Nat) : Cts :=
  if r = 0 then { c with sh := c.sh + 1 } else if r = 1 then { c with lo := c.lo + 1 } else if r = 2 then { c with pr := c.pr + 1, pa := 0 } else if r = 3 then { c with pa := c.pa + 1 } else if r = 7 then { c with th := c.th + 1 } else c
def Cts.too (c : Cts) : Bool := decide (4 < c.sh) || decide (3 < c.lo) || decide (4 < c.pr) || decide (3 < c.pa) || decide (3 < c.th)

def manyF2 (ns : List Nm) (c : Cts) : Option Nat :=
  match ns with
  | [] => none
  | n :: r => if (c.add n.role).too then some n.at_ else manyF2 r (c.add n.role)
def manyP (ns : List Nm) : Option Nat := manyF2 ns ⟨0, 0, 0, 0, 0⟩

def wrongP (ns : List Nm) : List Cl → Option Nat
  | [] => none
  | c :: r => if c.values ≠ paramsP ns c.word then some c.at_ else wrongP ns r

/-- The error and its place. -/
def outCheck (ns : List Nm) (cs : List Cl) : Int × Int :=
  match manyP ns with
  | some p => (4, p)
  | none => match twiceP ns with
    | some p => (5, p)
    | none => match misP ns with
      | some p => (5, p)
      | none => match wrongP ns cs with
        | some p => (6, p)
        | none => (0, 0)

end RR

/- Contracts of the program's package check: names. -/
namespace Go.Proofs.YtmfcpbhdggonfaaGreatDoor
open Go.RowKit RR

/-- A slice of names. -/
def NmSl (w : World) (ao : Option Addr) (l : List Nm) : Prop := ∀ i, (h : i < l.length) → ∃ b o, b < w.heap.size ∧ ao = some ⟨b, o, none⟩ ∧ w.cell? ⟨b, o + i * 4, none⟩ = some (.string l[i].word) ∧ w.cell? ⟨b, o + i * 4 + 1, none⟩ = some (.int .i64 l[i].at_) ∧ w.cell? ⟨b, o + i * 4 + 2, none⟩ = some (.int .i64 l[i].role) ∧ w.cell? ⟨b, o + i * 4 + 3, none⟩ = some (.int .i64 l[i].proc)

theorem NmSl.below {w w' : World} {ao : Option Addr} {l : List Nm} (h : NmSl w ao l) (hb : Below w.heap.size w w') : NmSl w' ao l := fun i hi => by
  obtain ⟨b, o, h1, h2, h3, h4, h5, h6⟩ := h i hi
  exact ⟨b, o, Nat.lt_of_lt_of_le h1 hb.size, h2, (hb.cell (p := ⟨b, o + i * 4, none⟩) h1).trans h3, (hb.cell (p := ⟨b, o + i * 4 + 1, none⟩) h1).trans h4, (hb.cell (p := ⟨b, o + i * 4 + 2, none⟩) h1).trans h5, (hb.cell (p := ⟨b, o + i * 4 + 3, none⟩) h1).trans h6⟩

set_option maxHeartbeats 400000 in
theorem c_isWhole (r : Nat) (w : World) :
    Calls Tryz.prog 208 #[.int .i64 r] w fun e w' => e = .returned (.bool (isWholeB r)) ∧ w' = w := by
  have H : ∀ a b c : Bool, ((r : Int) == 0) = a → ((r : Int) == 1) = b → ((r : Int) == 2) = c → isWholeB r = (a || b || c) := by
    intro a b c ha hb hc
    subst ha; subst hb; subst hc
    unfold isWholeB
    rw [Bool.eq_iff_iff]; simp; omega
  cases h0 : ((r : Int) == 0)
  · cases h1 : ((r : Int) == 1)
    · cases h2 : ((r : Int) == 2)
      all_goals
        have HE := hide (H _ _ _ h0 h1 h2)
        clear H
        go_enter Tryz.func208, Tryz.ntmps208
        go_wp2
        go_ret
        exact ⟨ret_bool (by rw [HE.out]; rfl), rfl⟩
    · have HE := hide (H _ _ _ h0 h1 rfl)
      clear H
      go_enter Tryz.func208, Tryz.ntmps208
      go_wp2
      go_ret
      exact ⟨ret_bool (by rw [HE.out]; rfl), rfl⟩
  · have HE := hide (H _ _ _ h0 rfl rfl)
    clear H
    go_enter Tryz.func208, Tryz.ntmps208
    go_wp2
    go_ret
    exact ⟨ret_bool (by rw [HE.out]; rfl), rfl⟩

set_option maxRecDepth 100000 in
set_option maxHeartbeats 1000000 in
theorem c_isGiven (ao : Option Addr) (cap : Nat) (l : List Nm) (t : ByteArray) (r : Nat) (w : World) (hl : l.length ≤ 1000) (hi : NmSl w ao l) :
    Calls Tryz.prog 209 #[.slice ao l.length cap, .string t, .int .i64 r] w fun e w' => e = .returned (.bool (isGivenB l t r)) ∧ Below w.heap.size w w' := by
  go_enter Tryz.func209, Tryz.ntmps209
  go_wp2
  go_loopw [11] (fun u wr => ∃ k : Nat, u = .int .i64 k ∧ k ≤ l.length ∧ isGivenB (l.take k) t r = false ∧ Below w.heap.size w wr) (fun u _ => l.length - (intOf u).toNat)
  case atStart => exact ⟨0, rfl, Nat.zero_le _, rfl, Below.refl _ _⟩
  case round =>
    obtain ⟨k, rfl, hk, hn, hbel⟩ := hrel
    by_cases hlt : k < l.length
    · obtain ⟨b, o, hb, hao, c1, c2, c3, c4⟩ := (hi.below hbel) k hlt
      subst hao
      have HS : Hid (isGivenB (l.take (k + 1)) t r = (isGivenB (l.take k) t r || (decide (l[k].role = r) && decide (l[k].word = t)))) := any_snoc _ l k hlt
      have HN := hide hn
      clear hn
      by_cases hr : (l[k].role : Int) = r
      · have hr' : ((l[k].role : Int) == r) = true := beq_iff_eq.2 hr
        have HR : Hid (l[k].role = r) := by show _ = _; omega
        cases hw : (l[k].word.toList == t.toList)
        · have HW : Hid (¬ l[k].word = t) := fun e => by rw [e] at hw; simp at hw
          clear hr
          go_wp2
          go_roundw
          case rel => exact ⟨k + 1, by go_num, by omega, by rw [HS.out, HN.out, decide_eq_false HW.out, Bool.and_false]; rfl, hbel.alloc hbel.size _⟩
          case measure => simp [intOf]; omega
        · have HW : Hid (l[k].word = t) := toList_inj.1 (by simpa using hw)
          clear hr
          go_wp2
          go_ret
          exact ⟨ret_bool (any_get _ l k hlt (by show (decide _ && decide _) = true; rw [decide_eq_true HR.out, decide_eq_true HW.out]; rfl)).symm, hbel.alloc hbel.size _⟩
      · have hr' : ((l[k].role : Int) == r) = false := beq_eq_false_iff_ne.2 hr
        have HR : Hid (¬ l[k].role = r) := fun e => hr (by omega)
        clear hr
        go_wp2
        go_roundw
        case rel => exact ⟨k + 1, by go_num, by omega, by rw [HS.out, HN.out, decide_eq_false HR.out]; rfl, hbel.alloc hbel.size _⟩
        case measure => simp [intOf]; omega
    · go_wp2
      go_ret
      exact ⟨ret_bool (by rw [← hn, List.take_of_length_le (by omega)]), hbel⟩

set_option maxRecDepth 100000 in
set_option maxHeartbeats 1000000 in
theorem c_isParam (ao : Option Addr) (cap : Nat) (l : List Nm) (t : ByteArray) (r : Int) (w : World) (hl : l.length ≤ 1000) (hi : NmSl w ao l) :
    Calls Tryz.prog 210 #[.slice ao l.length cap, .string t, .int .i64 r] w fun e w' => e = .returned (.bool (isParamB l t r)) ∧ Below w.heap.size w w' := by
  go_enter Tryz.func210, Tryz.ntmps210
  go_wp2
  go_loopw [11] (fun u wr => ∃ k : Nat, u = .int .i64 k ∧ k ≤ l.length ∧ isParamB (l.take k) t r = false ∧ Below w.heap.size w wr) (fun u _ => l.length - (intOf u).toNat)
  case atStart => exact ⟨0, rfl, Nat.zero_le _, rfl, Below.refl _ _⟩
  case round =>
    obtain ⟨k, rfl, hk, hn, hbel⟩ := hrel
    by_cases hlt : k < l.length
    · obtain ⟨b, o, hb, hao, c1, c2, c3, c4⟩ := (hi.below hbel) k hlt
      subst hao
      have HS : Hid (isParamB (l.take (k + 1)) t r = (isParamB (l.take k) t r || (decide (l[k].role = 3) && decide (l[k].proc = r) && decide (l[k].word = t)))) := any_snoc _ l k hlt
      have HN := hide hn
      clear hn
      by_cases hr : (l[k].role : Int) = 3
      · have hr' : ((l[k].role : Int) == 3) = true := beq_iff_eq.2 hr
        have HR : Hid (l[k].role = 3) := by show _ = _; omega
        by_cases hq : l[k].proc = r
        · have hq' : (l[k].proc == r) = true := beq_iff_eq.2 hq
          have HQ := hide hq
          cases hw : (l[k].word.toList == t.toList)
          · have HW : Hid (¬ l[k].word = t) := fun e => by rw [e] at hw; simp at hw
            clear hr hq
            go_wp2
            go_roundw
            case rel => exact ⟨k + 1, by go_num, by omega, by rw [HS.out, HN.out, decide_eq_false HW.out, Bool.and_false]; rfl, hbel.alloc hbel.size _⟩
            case measure => simp [intOf]; omega
          · have HW : Hid (l[k].word = t) := toList_inj.1 (by simpa using hw)
            clear hr hq
            go_wp2
            go_ret
            exact ⟨ret_bool (any_get _ l k hlt (by show (decide _ && decide _ && decide _) = true; rw [decide_eq_true HR.out, decide_eq_true HQ.out, decide_eq_true HW.out]; rfl)).symm, hbel.alloc hbel.size _⟩
        · have hq' : (l[k].proc == r) = false := beq_eq_false_iff_ne.2 hq
          have HQ := hide hq
          clear hr hq
          go_wp2
          go_roundw
          case rel => exact ⟨k + 1, by go_num, by omega, by rw [HS.out, HN.out, decide_eq_false HQ.out, Bool.and_false]; rfl, hbel.alloc hbel.size _⟩
          case measure => simp [intOf]; omega
      · have hr' : ((l[k].role : Int) == 3) = false := beq_eq_false_iff_ne.2 hr
        have HR : Hid (¬ l[k].role = 3) := fun e => hr (by omega)
        clear hr
        go_wp2
        go_roundw
        case rel => exact ⟨k + 1, by go_num, by omega, by rw [HS.out, HN.out, decide_eq_false HR.out]; rfl, hbel.alloc hbel.size _⟩
        case measure => simp [intOf]; omega
    · go_wp2
      go_ret
      exact ⟨ret_bool (by rw [← hn, List.take_of_length_le (by omega)]), hbel⟩

end Go.Proofs.YtmfcpbhdggonfaaGreatDoor
