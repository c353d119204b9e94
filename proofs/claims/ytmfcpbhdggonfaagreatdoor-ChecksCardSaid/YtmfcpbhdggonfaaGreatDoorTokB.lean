/- Contracts of the program's package token: Cut. -/
import Derived.Test.YtmfcpbhdggonfaaGreatDoorTokA
namespace Go.Proofs.YtmfcpbhdggonfaaGreatDoor
open Go.RowKit RR

/-- How many bytes the token has that begins at i. -/
def sizeB (s : ByteArray) (i : Nat) (h : i < s.size) : Nat :=
  if 8 < runF s i - i then 0 else if runF s i - i = 0 ∧ signB s[i] = true then 1 else runF s i - i

set_option maxRecDepth 100000 in
set_option maxHeartbeats 1000000 in
theorem t_sizeAt (s : ByteArray) (i : Nat) (w : World) (hs : s.size ≤ 500) (hi : i < s.size) :
    Calls Tryz.prog 134 #[.string s, .int .i64 i] w fun e w' => e = .returned (.int .i64 (sizeB s i hi)) ∧ w' = w := by
  have hr := runF_le s i (by omega)
  by_cases h8 : 8 < runF s i - i
  · have HR : Hid (sizeB s i hi = 0) := by show _ = _; unfold sizeB; rw [if_pos h8]
    go_enter Tryz.func134, Tryz.ntmps134
    go_wp2_with fail
    refine (t_lettersAt s i _ hs hi).mono ?_
    rintro e w' ⟨rfl, hw'⟩
    subst hw'
    generalize runF s i - i = m at *
    have h8' : (8 : Int) < m := by omega
    go_wp2
    go_ret
    exact ⟨ret_int (by rw [HR.out]; rfl), rfl⟩
  · by_cases h0 : runF s i - i = 0
    · cases hS : signB s[i]
      · have HR : Hid (sizeB s i hi = 0) := by show _ = _; unfold sizeB; rw [if_neg h8, if_neg (by rw [hS]; simp)]; exact h0
        go_enter Tryz.func134, Tryz.ntmps134
        go_wp2_with fail
        refine (t_lettersAt s i _ hs hi).mono ?_
        rintro e w' ⟨rfl, hw'⟩
        subst hw'
        rw [h0]
        clear h8 h0 hr
        go_wp2_with fail
        refine (t_isSign s i _ hs hi).mono ?_
        rintro e w' ⟨rfl, hw'⟩
        subst hw'
        go_wp2_with fail
        go_ret
        exact ⟨ret_int (by rw [HR.out]; rfl), rfl⟩
      · have HR : Hid (sizeB s i hi = 1) := by show _ = _; unfold sizeB; rw [if_neg h8, if_pos ⟨h0, hS⟩]
        go_enter Tryz.func134, Tryz.ntmps134
        go_wp2_with fail
        refine (t_lettersAt s i _ hs hi).mono ?_
        rintro e w' ⟨rfl, hw'⟩
        subst hw'
        rw [h0]
        clear h8 h0 hr
        go_wp2_with fail
        refine (t_isSign s i _ hs hi).mono ?_
        rintro e w' ⟨rfl, hw'⟩
        subst hw'
        go_wp2_with fail
        go_ret
        exact ⟨ret_int (by rw [HR.out]; rfl), rfl⟩
    · have HR : Hid (sizeB s i hi = runF s i - i) := by show _ = _; unfold sizeB; rw [if_neg h8, if_neg (fun h => h0 h.1)]
      go_enter Tryz.func134, Tryz.ntmps134
      go_wp2_with fail
      refine (t_lettersAt s i _ hs hi).mono ?_
      rintro e w' ⟨rfl, hw'⟩
      subst hw'
      generalize runF s i - i = m at *
      have h8' : (m : Int) ≤ 8 := by omega
      have h0' : ((m : Int) == 0) = false := beq_eq_false_iff_ne.2 (by omega)
      clear h0
      go_wp2_with fail
      go_ret
      exact ⟨ret_int (by rw [HR.out]), rfl⟩

set_option maxRecDepth 100000 in
set_option maxHeartbeats 1000000 in
theorem t_tokenAt (s : ByteArray) (i n : Nat) (w : World) (hs : s.size ≤ 500) (hi : i < s.size) (hn : 1 ≤ n) (hin : i + n ≤ s.size) :
    Calls Tryz.prog 135 #[.string s, .int .i64 i, .int .i64 n] w fun e w' => e = .returned (.agg #[.string (s.extract i (i + n)), .int .i64 i, .bool (isLetterB s[i] && !(memB kws (s.extract i (i + n))))]) ∧ Below w.heap.size w w' := by
  have a1 : (n : Int) ≤ s.size - i := by omega
  have a2 : ((i + n : Nat) : Int) ≤ s.size := by omega
  go_enter Tryz.func135, Tryz.ntmps135
  cases hL : isLetterB s[i]
  · go_wp2_with fail
    refine (t_isLetter s[i] _).mono ?_
    rintro e w' ⟨rfl, hw'⟩
    subst hw'
    go_wp2_with fail
    exact bodyPost_ret (v := .agg #[.string (s.extract i (i + n)), .int .i64 i, .bool false]) (by simp [results, Tryz.results135, go_sem]) rfl ⟨rfl, (Below.refl _ _).alloc (Nat.le_refl _) _⟩
  · go_wp2_with fail
    refine (t_isLetter s[i] _).mono ?_
    rintro e w' ⟨rfl, hw'⟩
    subst hw'
    go_wp2_with fail
    refine (t_hasMeaning _ _).mono ?_
    rintro e w' ⟨rfl, hw'⟩
    subst hw'
    go_wp2_with fail
    exact bodyPost_ret (v := .agg #[.string (s.extract i (i + n)), .int .i64 i, .bool !memB kws (s.extract i (i + n))]) (by simp [results, Tryz.results135, go_sem]) rfl ⟨by rw [Bool.true_and], (Below.refl _ _).alloc (Nat.le_refl _) _⟩

theorem ext_one (s : ByteArray) (i : Nat) (h : i < s.size) : s.extract i (i + 1) = ⟨#[s[i]]⟩ := by
  apply toList_inj.1
  rw [bl, bl]
  apply List.ext_getElem?
  intro k
  have h1 : (s.extract i (i + 1)).size = 1 := by rw [ext_size s i (i + 1) (by omega) (by omega)]; omega
  cases k with
  | zero =>
    have h2 : 0 < (s.extract i (i + 1)).size := by omega
    have e := ext_first s i (i + 1) (by omega) (by omega) h2
    have e2 : (s.extract i (i + 1)).data.toList[0]? = some (s.extract i (i + 1))[0] := List.getElem?_eq_getElem (l := (s.extract i (i + 1)).data.toList) (i := 0) h2
    rw [e2, e]; rfl
  | succ k =>
    rw [List.getElem?_eq_none (by have : (s.extract i (i + 1)).data.toList.length = 1 := h1
                                  omega)]
    rfl

theorem sign_one (s : ByteArray) (i : Nat) (h : i < s.size) : memB signs (s.extract i (i + 1)) = signB s[i] := by
  rw [ext_one s i h]
  generalize s[i] = c
  have key : ∀ d : UInt8, decide ((⟨#[d]⟩ : ByteArray) = ⟨#[c]⟩) = decide (c.toNat = d.toNat) := by
    intro d
    rw [Bool.eq_iff_iff, decide_eq_true_iff, decide_eq_true_iff]
    constructor
    · intro e; injection e with e; simp at e; rw [e]
    · intro e
      have : c = d := UInt8.toNat_inj.1 e
      rw [this]
  unfold memB signs signB
  simp only [List.any_cons, List.any_nil, Bool.or_false, key, Bool.or_assoc]
  rfl

theorem size_ok (s : ByteArray) (i : Nat) (h : i < s.size) : (okAt s i h = true ∧ sizeB s i h ≠ 0 ∧ endAt s i h = i + sizeB s i h) ∨ (okAt s i h = false ∧ sizeB s i h = 0) := by
  have hg := endAt_gt s i h
  cases hL : isLetterB s[i]
  · have he := endAt_other h hL
    have hr := runF_no h hL
    have hs := sign_one s i h
    unfold okAt sizeB
    rw [hL, he, hr, hs, Nat.sub_self]
    cases hS : signB s[i]
    · right; simp
    · left; simp
  · have he := endAt_letter h hL
    have hr : runF s i = endAt s i h := by rw [he, runF_yes h hL]
    unfold okAt sizeB
    rw [hL, hr]
    by_cases h8 : 8 < endAt s i h - i
    · right
      rw [if_pos h8, decide_eq_false (by omega)]
      refine ⟨?_, rfl⟩
      have : memB signs (s.extract i (endAt s i h)) = false := by
        unfold memB
        rw [List.any_eq_false]
        intro x hx
        rw [decide_eq_true_iff]
        intro e
        have h1 : x.size = endAt s i h - i := by rw [e]; exact ext_size s i _ (by omega) (by omega)
        have h2 : x.size = 1 := by
          simp only [signs, List.mem_cons, List.not_mem_nil, or_false] at hx
          rcases hx with rfl | rfl | rfl | rfl | rfl | rfl | rfl | rfl | rfl | rfl | rfl <;> rfl
        omega
      rw [this]; rfl
    · left
      rw [if_neg h8, if_neg (by omega), decide_eq_true (by omega)]
      exact ⟨rfl, by omega, by omega⟩

theorem name_ok (s : ByteArray) (i n : Nat) (h : i < s.size) (hn : 1 ≤ n) (hin : i + n ≤ s.size) : (isLetterB s[i] && !(memB kws (s.extract i (i + n)))) = isNameB (s.extract i (i + n)) := by
  have h1 : 0 < (s.extract i (i + n)).size := by rw [ext_size s i (i + n) (by omega) hin]; omega
  rw [isName_pos h1, ext_first s i (i + n) (by omega) hin h1]

theorem Tryz.infoTok3 : (Tryz.prog.info? 228).map (fun i => (i.zero, i.size, i.bytes)) = some (some (.agg #[.string ⟨#[]⟩, .int .i64 0, .bool false]), 3, 32) := by kernel_rfl

def toks3 : List Tk → List Value
  | [] => []
  | t :: r => .string t.t :: .int .i64 t.p :: .bool (isNameB t.t) :: toks3 r
theorem toks3_append (a b : List Tk) : toks3 (a ++ b) = toks3 a ++ toks3 b := by
  induction a with
  | nil => rfl
  | cons t r ih => show _ :: _ :: _ :: toks3 (r ++ b) = _; rw [ih]; rfl
theorem toks3_get (a : List Tk) (i : Nat) (h : i < a.length) : (toks3 a)[i * 3]? = some (.string a[i].t) ∧ (toks3 a)[i * 3 + 1]? = some (.int .i64 a[i].p) ∧ (toks3 a)[i * 3 + 2]? = some (.bool (isNameB a[i].t)) := by
  induction a generalizing i with
  | nil => cases h
  | cons t r ih =>
    cases i with
    | zero => exact ⟨rfl, rfl, rfl⟩
    | succ k =>
      have := ih k (by simpa using h)
      rw [show (k + 1) * 3 = k * 3 + 1 + 1 + 1 from by omega]
      exact this

theorem three_cells {w : World} {T : TypeId} {x y z : Value} : ∀ (j : Nat) (u : Value), [x, y, z][j]? = some u → (w.alloc (.cells #[x, y, z] T)).cell? ((⟨w.heap.size, 0, none⟩ : Addr).add j) = some u := by
  intro j u hj
  have hh : (w.alloc (.cells #[x, y, z] T)).heap[w.heap.size]? = some (.cells #[x, y, z] T) := heap_alloc_new w _
  rw [addr_add]
  match j, hj with
  | 0, hj => simp only [World.cell?, hh]; exact hj
  | 1, hj => simp only [World.cell?, hh]; exact hj
  | 2, hj => simp only [World.cell?, hh]; exact hj

/-- l = append(l, Token{t, p, name}). -/
theorem app_tok3 {ops : Array Oper} {rest : List Oper} {o : Oper} {a : Act} {Q : Exit → Act → World → Prop} {w0 : World} {B : Nat} {v : Value} {l : List Tk} (t : ByteArray) (p : Nat)
    (hown : w0.ownsRow B 228 3 v l.length (toks3 l)) (hl : l.length ≤ 100000) (hB : B ≤ w0.heap.size) (hgd : o.guard = none) (s x : Operand)
    (ho : o.op = .call { callee := .builtin .append, args := #[s, x], argTypes := #[174, 174] }) (hs : a.eval s = v) {nb : Nat}
    (hx : a.eval x = .slice (some ⟨nb, 0, none⟩) 1 1) (hnb : nb = w0.heap.size)
    (h : ∀ v' w', w'.ownsRow B 228 3 v' (l ++ [(⟨t, p⟩ : Tk)]).length (toks3 (l ++ [(⟨t, p⟩ : Tk)])) → (∀ a0, Below B a0 w0 → Below B a0 w') → wpList Tryz.prog ops Q rest (a.put o.dst v') w') :
    wpList Tryz.prog ops Q (o :: rest) a (w0.alloc (.cells #[.string t, .int .i64 p, .bool (isNameB t)] 228)) := by
  obtain ⟨i0, hi0, hz0, hz1, hz2⟩ := info_parts Tryz.infoTok3
  subst hnb
  refine wpList_append_own _ hgd s x 174 ho B 228 i0 (.agg #[.string ⟨#[]⟩, .int .i64 0, .bool false]) 3 32 Tryz.underlying174 hi0 hz0 hz1 hz2 rfl (by decide) v l.length (toks3 l) hs (hown.alloc _) ⟨w0.heap.size, 0, none⟩ 1 1 [.string t, .int .i64 p, .bool (isNameB t)] hx rfl three_cells ?_ (by unfold maxLen; omega) (by omega) (by simp; omega) ?_
  · intro u hu
    rcases List.mem_cons.1 hu with rfl | hu
    · rfl
    · rcases List.mem_cons.1 hu with rfl | hu
      · rfl
      · rcases List.mem_cons.1 hu with rfl | hu
        · rfl
        · cases hu
  · intro v' w' h1 h2 _
    refine h v' w' ?_ fun a0 h0 => (h0.alloc hB _).grown h2 (by simp; omega) fun k hk => (hown.lt k hk).1
    rw [toks3_append, List.length_append]; exact h1

set_option maxRecDepth 100000 in
set_option maxHeartbeats 1000000 in
theorem t_cut (s : ByteArray) (w : World) (hs : s.size ≤ 500) :
    Calls Tryz.prog 99 #[.string s] w fun e w' => ((lexF s 0).2 = none ∧ ∃ v, e = .returned (.tuple #[v, .int .i64 0, .bool true]) ∧ w'.ownsRow w.heap.size 228 3 v (lexF s 0).1.length (toks3 (lexF s 0).1) ∧ Below w.heap.size w w') ∨ (∃ p : Nat, (lexF s 0).2 = some p ∧ e = .returned (.tuple #[.slice none 0 0, .int .i64 p, .bool false]) ∧ Below w.heap.size w w') := by
  go_enter Tryz.func99, Tryz.ntmps99
  go_wp2_with fail
  go_loopw [5, 6] (fun v u wr => ∃ (i : Nat) (acc : List Tk), u = .int .i64 i ∧ i ≤ s.size ∧ acc.length ≤ i ∧ (acc ++ (lexF s i).1, (lexF s i).2) = lexF s 0 ∧ wr.ownsRow w.heap.size 228 3 v acc.length (toks3 acc) ∧ Below w.heap.size w wr) (fun _ u _ => s.size - (intOf u).toNat)
  case atStart => exact ⟨0, [], rfl, Nat.zero_le _, Nat.zero_le _, rfl, World.ownsRow_nil _ _ _ _, Below.refl _ _⟩
  case round =>
    obtain ⟨i, acc, rfl, hi, hacc, hn, hown, hbel⟩ := hrel
    have HN := hide hn
    clear hn
    by_cases hlt : i < s.size
    · cases hB : blankB s[i]
      · rcases size_ok s i hlt with ⟨ho, hz, he⟩ | ⟨ho, hz⟩
        · have hg := endAt_gt s i hlt
          have HE : Hid (lexF s i = (⟨s.extract i (i + sizeB s i hlt), i⟩ :: (lexF s (i + sizeB s i hlt)).1, (lexF s (i + sizeB s i hlt)).2)) := by show _ = _; rw [lexF_ok hlt hB ho, he]
          have hin : i + sizeB s i hlt ≤ s.size := by omega
          go_wp2_with fail
          refine (t_isBlank s[i] _).mono ?_
          rintro e w1 ⟨rfl, hw1⟩
          subst hw1
          go_wp2_with fail
          refine (t_sizeAt s i _ hs hlt).mono ?_
          rintro e w1 ⟨rfl, hw1⟩
          subst hw1
          generalize sizeB s i hlt = m at *
          have hm1 : 1 ≤ m := by omega
          have hm0 : ((m : Int) == 0) = false := beq_eq_false_iff_ne.2 (by omega)
          have HNM := hide (name_ok s i m hlt hm1 hin)
          clear he hz hg
          go_wp2_with fail
          refine (t_tokenAt s i m _ hs hlt hm1 hin).mono ?_
          rintro e w2 ⟨rfl, hb2⟩
          rw [HNM.out]
          have hown2 := owns_below hown hb2
          have hbel2 := hbel.trans (hb2.mono hbel.size)
          go_wp2_with (at_builtin; refine app_tok3 (s.extract i (i + m)) i (hown2.alloc _) (by omega) (Nat.le_trans hbel2.size (by simp)) rfl _ _ rfl rfl rfl (by simp) ?_; intro v3 w3 hown3 hb3)
          go_roundw
          case rel => exact ⟨i + m, acc ++ [⟨s.extract i (i + m), i⟩], by go_num, by omega, by simp; omega, by rw [← HN.out, HE.out, List.append_assoc]; rfl, hown3, hb3 _ (hbel2.alloc hbel2.size _)⟩
          case measure => simp [intOf]; omega
        · have HE := hide (lexF_bad hlt hB ho)
          go_wp2_with fail
          refine (t_isBlank s[i] _).mono ?_
          rintro e w1 ⟨rfl, hw1⟩
          subst hw1
          go_wp2_with fail
          refine (t_sizeAt s i _ hs hlt).mono ?_
          rintro e w1 ⟨rfl, hw1⟩
          subst hw1
          rw [hz]
          go_wp2_with fail
          go_ret3
          exact .inr ⟨i, by rw [← HN.out, HE.out], rfl, hbel⟩
      · have HE := hide (lexF_blank hlt hB)
        go_wp2_with fail
        refine (t_isBlank s[i] _).mono ?_
        rintro e w1 ⟨rfl, hw1⟩
        subst hw1
        go_wp2_with fail
        go_roundw
        case rel => exact ⟨i + 1, acc, by go_num, by omega, by omega, by rw [← HN.out, HE.out], hown, hbel⟩
        case measure => simp [intOf]; omega
    · have HE := hide (lexF_out hlt)
      go_wp2_with fail
      go_ret3
      have he : lexF s 0 = (acc, none) := by rw [← HN.out, HE.out, List.append_nil]
      exact .inl ⟨by rw [he], _, rfl, by rw [he]; exact hown, hbel⟩

end Go.Proofs.YtmfcpbhdggonfaaGreatDoor
