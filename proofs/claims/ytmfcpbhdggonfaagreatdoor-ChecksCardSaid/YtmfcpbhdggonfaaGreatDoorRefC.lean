/- Contracts of the reference's functions over tokens that call others in loops. -/
import Derived.Test.YtmfcpbhdggonfaaGreatDoorRefB
namespace Go.Proofs.YtmfcpbhdggonfaaGreatDoor
open Go.RowKit RR

/-- What is known behind a box with a program in it. -/
theorem bx {w wr : World} {T : TypeId} {v : Value} (hb : Below (w.heap.size + 1) (w.alloc (.cells #[v] T)) wr) : wr.cell? ⟨w.heap.size, 0, none⟩ = some v ∧ w.heap.size < wr.heap.size ∧ Below w.heap.size w wr := by
  have h1 : (w.alloc (.cells #[v] T)).cell? ⟨w.heap.size, 0, none⟩ = some v := by simp
  have h2 := hb.size
  refine ⟨(hb.cell (p := ⟨w.heap.size, 0, none⟩) (Nat.lt_succ_self _)).trans h1, ?_, ((Below.refl _ _).alloc (Nat.le_refl _) _).trans (hb.mono (Nat.le_succ _))⟩
  simp at h2; omega

set_option maxHeartbeats 400000 in
theorem r_home (L : List Tk) (b o cap : Nat) (i : Nat) (w : World) (hL : L.length ≤ 500) (hc : ToksAt w b o L) (hi : i ≤ 1000) :
    Calls Tryz.prog 85 #[.agg #[.slice (some ⟨b, o, none⟩) L.length cap], .int .i64 i] w fun e w' => e = .returned (.int .i64 (homeB L i)) ∧ Below w.heap.size w w' := by
  go_enter Tryz.func85, Tryz.ntmps85
  go_wp2
  go_loopw [5] (fun u wr => ∃ k : Nat, k ≤ i ∧ u = .int .i64 k ∧ homeB L i = homeB L k ∧ Below (w.heap.size + 1) (w.alloc (.cells #[.slice (some ⟨b, o, none⟩) L.length cap] 71)) wr) (fun u _ => (intOf u).toNat)
  case atStart => exact ⟨i, Nat.le_refl _, rfl, rfl, Below.refl _ _⟩
  case round =>
    obtain ⟨k, hk, rfl, hn, hbx⟩ := hrel
    obtain ⟨hcell, hsz, hbel⟩ := bx hbx
    have hct := hc.below hbel
    have HN := hide hn
    have HB := hide hbx
    clear hn hbel hbx
    cases k with
    | zero =>
      go_wp2
      go_ret
      exact ⟨ret_int (by rw [HN.out]; rfl), (bx HB.out).2.2⟩
    | succ m =>
      cases hB : isB L (m : Int) ⟨#[112, 114, 111, 99]⟩
      · have HR : Hid (homeB L (m + 1) = homeB L m) := by show homeB L (m + 1) = homeB L m; rw [homeB, kProc, hB]; exact if_neg (by decide)
        go_wp2_with (go_at_call 52; refine (r_is L b o cap _ _ _ hL hct).mono ?_; rintro e w1 ⟨rfl, hb1⟩)
        go_roundw
        case rel => exact ⟨m, by omega, rfl, by rw [HN.out, HR.out], HB.out.trans (hb1.mono hsz)⟩
        case measure => simp [intOf]
      · have HR : Hid (homeB L (m + 1) = m + 1) := by show homeB L (m + 1) = m + 1; rw [homeB, kProc, hB]; exact if_pos rfl
        go_wp2_with (go_at_call 52; refine (r_is L b o cap _ _ _ hL hct).mono ?_; rintro e w1 ⟨rfl, hb1⟩)
        go_ret
        exact ⟨ret_int (by rw [HN.out, HR.out]; omega), (bx (HB.out.trans (hb1.mono hsz))).2.2⟩

set_option maxHeartbeats 400000 in
theorem r_past (L : List Tk) (b o cap : Nat) (ao : Option Addr) (cap' : Nat) (l : List Nat) (m : Nat) (w : World) (hc : ToksAt w b o L) (_hL : L.length ≤ 500) (_hl : l.length ≤ 2000) (hi : IntSl w ao cap' l) (hin : ∀ j ∈ l, j < L.length) :
    Calls Tryz.prog 78 #[.agg #[.slice (some ⟨b, o, none⟩) L.length cap], .slice ao l.length cap', .int .i64 m] w fun e w' => e = .returned (.int .i64 (pastB L l m)) ∧ Below w.heap.size w w' := by
  have hbb := hc.1
  by_cases hm : m < l.length
  · obtain ⟨b', o', hb', rfl, hck⟩ := hi.2.2 m hm
    have hj : l[m] < L.length := hin _ (List.getElem_mem _)
    have hct := (hc.2 l[m] hj).2
    have HR : Hid (pastB L l m = L[l[m]].p) := by unfold pastB; rw [if_pos hm, nth_eq hm, tk_eq hj]; exact rfl
    go_enter Tryz.func78, Tryz.ntmps78
    go_wp2
    go_quiet (fail)
    go_wp2
    go_ret
    exact ⟨ret_int HR.out.symm, ((Below.refl _ _).alloc (Nat.le_refl _) _).trans (below_drewN _ _ _)⟩
  · have HR : Hid (pastB L l m = -1) := by show pastB L l m = -1; unfold pastB; rw [if_neg hm]
    go_enter Tryz.func78, Tryz.ntmps78
    go_wp2
    go_ret
    exact ⟨ret_int HR.out.symm, (Below.refl _ _).alloc (Nat.le_refl _) _⟩

theorem Tryz.infoInt : (Tryz.prog.info? 3).map (fun i => (i.zero, i.size, i.bytes)) = some (some (.int .i64 0), 1, 8) := by kernel_rfl

theorem intSl_of_owns {w : World} {base : Nat} {v : Value} {l : List Nat} (h : w.ownsRow base 3 1 v l.length (ints l)) : ∃ ao cap, v = .slice ao l.length cap ∧ IntSl w ao cap l := by
  obtain ⟨h1, h2 | ⟨g, cap, cur, hv, hb, hh, hcap, hmax, hsz, htk⟩⟩ := h
  · refine ⟨none, 0, ?_, fun _ => rfl, by omega, fun i hi => by omega⟩
    rw [h2.1, h2.2]
  · refine ⟨some ⟨g, 0, none⟩, cap, hv, fun h => by simp at h, hcap, fun i hi => ⟨g, 0, (Array.getElem?_eq_some_iff.1 hh).1, rfl, ?_⟩⟩
    have e1 : cur[i]? = some (.int .i64 l[i]) := by
      have e2 : (cur.toList.take (l.length * 1))[i]? = (ints l)[i]? := by rw [htk]
      rw [List.getElem?_take_of_lt (by omega), Array.getElem?_toList] at e2
      rw [e2, ints, List.getElem?_map, List.getElem?_eq_getElem hi]; rfl
    simp only [World.cell?, hh, Nat.zero_add]
    exact e1

theorem owns_below {w w' : World} {base : Nat} {e : TypeId} {size : Nat} {v : Value} {n : Nat} {xs : List Value} (h : w.ownsRow base e size v n xs) (hb : Below w.heap.size w w') : w'.ownsRow base e size v n xs := by
  refine ⟨h.1, ?_⟩
  rcases h.2 with h2 | ⟨g, cap, cur, hv, hg, hh, r⟩
  · exact .inl h2
  · exact .inr ⟨g, cap, cur, hv, hg, by rw [hb.block g (Array.getElem?_eq_some_iff.1 hh).1]; exact hh, r⟩

theorem ret_ints {w wr : World} {base : Nat} {v : Value} {l l' : List Nat} (h : wr.ownsRow base 3 1 v l.length (ints l)) (e : l = l') (hb : Below w.heap.size w wr) : ∃ ao cap, Ending.returned v = .returned (.slice ao l'.length cap) ∧ IntSl wr ao cap l' ∧ Below w.heap.size w wr := by
  subst e
  obtain ⟨ao, cap, rfl, hs⟩ := intSl_of_owns h
  exact ⟨ao, cap, rfl, hs, hb⟩

theorem one_cell {w : World} {T : TypeId} {x : Value} : ∀ (j : Nat) (u : Value), [x][j]? = some u → (w.alloc (.cells #[x] T)).cell? ((⟨w.heap.size, 0, none⟩ : Addr).add j) = some u := by
  intro j u hj
  match j, hj with
  | 0, hj => simp at hj; subst hj; simp [Addr.add]

theorem int_one {k : Int} : ∀ u ∈ [Value.int .i64 k], u.oneCell' = true := by intro u hu; simp at hu; subst hu; rfl

/-- l = append(l, k): one number onto a slice of the call's own. -/
theorem app_int {ops : Array Oper} {rest : List Oper} {o : Oper} {a : Act} {Q : Exit → Act → World → Prop} {w0 : World} {B : Nat} {v : Value} {l : List Nat} (k : Nat)
    (hown : w0.ownsRow B 3 1 v l.length (ints l)) (hl : l.length ≤ 100000) (hB : B ≤ w0.heap.size) (hgd : o.guard = none) (s x : Operand)
    (ho : o.op = .call { callee := .builtin .append, args := #[s, x], argTypes := #[93, 93] }) (hs : a.eval s = v)
    (hx : a.eval x = .slice (some ⟨w0.heap.size, 0, none⟩) 1 1)
    (h : ∀ v' w', w'.ownsRow B 3 1 v' (l ++ [k]).length (ints (l ++ [k])) → (∀ a0, Below B a0 w0 → Below B a0 w') → wpList Tryz.prog ops Q rest (a.put o.dst v') w') :
    wpList Tryz.prog ops Q (o :: rest) a (w0.alloc (.cells #[.int .i64 k] 3)) := by
  obtain ⟨i0, hi0, hz0, hz1, hz2⟩ := info_parts Tryz.infoInt
  refine wpList_append_own _ hgd s x 93 ho B 3 i0 (.int .i64 0) 1 8 Tryz.underlying93 hi0 hz0 hz1 hz2 rfl (by decide) v l.length (ints l) hs (hown.alloc _) ⟨w0.heap.size, 0, none⟩ 1 1 [.int .i64 k] hx rfl one_cell int_one (by unfold maxLen; omega) (by omega) (by simp; omega) ?_
  intro v' w' h1 h2 _
  refine h v' w' ?_ fun a0 h0 => (h0.alloc hB _).grown h2 (by simp; omega) fun k hk => (hown.lt k hk).1
  rw [ints_append, List.length_append]; exact h1

theorem namesF_out {L : List Tk} {k : Nat} (h : ¬ k < L.length) : namesF L k = [] := by rw [namesF_eq, if_neg h]
theorem namesF_no {L : List Tk} {k : Nat} (h : k < L.length) (h2 : isNameB L[k].t = false) : namesF L k = [] := by rw [namesF_eq, if_pos h, tk_eq h, h2]; rfl
theorem namesF_last {L : List Tk} {k : Nat} (h : k < L.length) (h2 : isNameB L[k].t = true) (h3 : isB L (k + 1 : Nat) ⟨#[44]⟩ = false) : namesF L k = [k] := by rw [namesF_eq, if_pos h, tk_eq h, h2, h3]; rfl
theorem namesF_more {L : List Tk} {k : Nat} (h : k < L.length) (h2 : isNameB L[k].t = true) (h3 : isB L (k + 1 : Nat) ⟨#[44]⟩ = true) : namesF L k = k :: namesF L (k + 2) := by rw [namesF_eq, if_pos h, tk_eq h, h2, h3]; rfl

set_option maxHeartbeats 1000000 in
theorem r_names (L : List Tk) (b o cap : Nat) (i : Nat) (w : World) (hL : L.length ≤ 500) (ht : ∀ k, (h : k < L.length) → L[k].t.size ≤ 500) (hc : ToksAt w b o L) (hi : i ≤ 1000) :
    Calls Tryz.prog 87 #[.agg #[.slice (some ⟨b, o, none⟩) L.length cap], .int .i64 i] w fun e w' => ∃ ao cap, e = .returned (.slice ao (namesF L (i + 1)).length cap) ∧ IntSl w' ao cap (namesF L (i + 1)) ∧ Below w.heap.size w w' := by
  obtain ⟨i0, hi0, hz0, hz1, hz2⟩ := info_parts Tryz.infoInt
  go_enter Tryz.func87, Tryz.ntmps87
  go_wp2
  go_loopw [5, 6] (fun v u wr => ∃ (k : Nat) (acc : List Nat), u = .int .i64 k ∧ k ≤ 1002 ∧ acc.length ≤ k ∧ acc ++ namesF L k = namesF L (i + 1) ∧ wr.ownsRow (w.heap.size + 1) 3 1 v acc.length (ints acc) ∧ Below (w.heap.size + 1) (w.alloc (.cells #[.slice (some ⟨b, o, none⟩) L.length cap] 71)) wr) (fun _ u _ => 2000 - (intOf u).toNat)
  case atStart => exact ⟨i + 1, [], by go_num, by omega, by simp, rfl, World.ownsRow_nil _ _ _ _, Below.refl _ _⟩
  case round =>
    obtain ⟨k, acc, rfl, hk, hacc, hn, hown, hbx⟩ := hrel
    obtain ⟨hcell, hsz, hbel⟩ := bx hbx
    have hct := hc.below hbel
    have HN := hide hn
    have HB := hide hbx
    clear hn hbel hbx
    by_cases hlt : k < L.length
    · have hck := (hct.2 k hlt).1
      have hts := ht k hlt
      cases hNm : isNameB L[k].t
      · have HE := hide (namesF_no hlt hNm)
        go_wp2_with (go_at_call 49; refine (r_isName _ _ hts).mono ?_; rintro e w1 ⟨rfl, hb1⟩)
        go_ret
        refine ret_ints (owns_below hown hb1) ?_ (bx (HB.out.trans (hb1.mono hsz))).2.2
        rw [← HN.out, HE.out, List.append_nil]
      · cases hCm : isB L ((k : Int) + 1) ⟨#[44]⟩
        · have HE := hide (namesF_last hlt hNm hCm)
          go_wp2_with (first | (go_at_call 49; refine (r_isName _ _ hts).mono ?_; rintro e w1 ⟨rfl, hb1⟩; have hown1 := owns_below hown hb1; have hsz1 : w.heap.size < w1.heap.size := Nat.lt_of_lt_of_le hsz hb1.size) | (at_builtin; refine app_int k hown1 (by omega) (by omega) rfl _ _ rfl rfl rfl ?_; intro v2 w2 hown2 hb2; obtain ⟨hcell2, hsz2, hbel2⟩ := bx (hb2 _ (HB.out.trans (hb1.mono hsz))); have hct2 := hc.below hbel2; have HB2 := hide (hb2 _ (HB.out.trans (hb1.mono hsz))); clear hbel2 hb2) | (go_at_call 52; refine (r_is L b o cap _ _ _ hL hct2).mono ?_; rintro e w3 ⟨rfl, hb3⟩))
          go_ret
          refine ret_ints (owns_below hown2 hb3) ?_ (bx (HB2.out.trans (hb3.mono hsz2))).2.2
          rw [← HN.out, HE.out]
        · have HE := hide (namesF_more hlt hNm hCm)
          go_wp2_with (first | (go_at_call 49; refine (r_isName _ _ hts).mono ?_; rintro e w1 ⟨rfl, hb1⟩; have hown1 := owns_below hown hb1; have hsz1 : w.heap.size < w1.heap.size := Nat.lt_of_lt_of_le hsz hb1.size) | (at_builtin; refine app_int k hown1 (by omega) (by omega) rfl _ _ rfl rfl rfl ?_; intro v2 w2 hown2 hb2; obtain ⟨hcell2, hsz2, hbel2⟩ := bx (hb2 _ (HB.out.trans (hb1.mono hsz))); have hct2 := hc.below hbel2; have HB2 := hide (hb2 _ (HB.out.trans (hb1.mono hsz))); clear hbel2 hb2) | (go_at_call 52; refine (r_is L b o cap _ _ _ hL hct2).mono ?_; rintro e w3 ⟨rfl, hb3⟩))
          go_roundw
          case rel => exact ⟨k + 2, acc ++ [k], by go_num, by omega, by simp; omega, by rw [← HN.out, HE.out, List.append_assoc]; rfl, owns_below hown2 hb3, HB2.out.trans (hb3.mono hsz2)⟩
          case measure => simp [intOf]; omega
    · have HE := hide (namesF_out hlt)
      go_wp2
      go_ret
      refine ret_ints hown ?_ (bx HB.out).2.2
      rw [← HN.out, HE.out, List.append_nil]

end Go.Proofs.YtmfcpbhdggonfaaGreatDoor
