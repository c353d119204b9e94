/- Contracts of the program's package token: Cut. -/
import Derived.Test.YtmfcpbhdggonfaaGreatDoorMgAD
import Derived.Test.YtmfcpbhdggonfaaGreatDoorMgAB
import Derived.Test.YtmfcpbhdggonfaaGreatDoorMgAC
namespace Go.Proofs.YtmfcpbhdggonfaaGreatDoor
open Go.RowKit RR

def sizeB (s : ByteArray) (i : Nat) (h : i < s.size) : Nat :=
  if 8 < runF s i - i then 0 else if runF s i - i = 0 ∧ signB s[i] = true then 1 else runF s i - i

set_option maxRecDepth 100000 in
set_option maxHeartbeats 1000000 in
theorem t_sizeAt (s : ByteArray) (i : Nat) (w : World) (hs : s.size ≤ 500) (hi : i < s.size) :
    Calls Tryz.prog 134 #[.string s, .int .i64 i] w fun e w' => e = .returned (.int .i64 (sizeB s i hi)) ∧ w' = w := by
  have hr := runF_le s i (by omega)
  by_cases h8 : 8 < runF s i - i
  · have HR : Hid (sizeB s i hi = 0) := by show _ = _; unfold sizeB; rw [if_pos h8]
    go_enter Tryz.func134, Tryz.ntmps134
    go_wp2_with fail
    refine (t_lettersAt s i _ hs hi).mono ?_
    rintro e w' ⟨rfl, hw'⟩
    subst hw'
    generalize runF s i - i = m at *
    have h8' : (8 : Int) < m := by omega
    go_wp2
    go_ret
    exact ⟨ret_int (by rw [HR.out]; rfl), rfl⟩
  · by_cases h0 : runF s i - i = 0
    · cases hS : signB s[i]
      · have HR : Hid (sizeB s i hi = 0) := by show _ = _; unfold sizeB; rw [if_neg h8, if_neg (by rw [hS]; simp)]; exact h0
        go_enter Tryz.func134, Tryz.ntmps134
        go_wp2_with fail
        refine (t_lettersAt s i _ hs hi).mono ?_
        rintro e w' ⟨rfl, hw'⟩
        subst hw'
        rw [h0]
        clear h8 h0 hr
        go_wp2_with fail
        refine (t_isSign s i _ hs hi).mono ?_
        rintro e w' ⟨rfl, hw'⟩
        subst hw'
        go_wp2_with fail
        go_ret
        exact ⟨ret_int (by rw [HR.out]; rfl), rfl⟩
      · have HR : Hid (sizeB s i hi = 1) := by show _ = _; unfold sizeB; rw [if_neg h8, if_pos ⟨h0, hS⟩]
        go_enter Tryz.func134, Tryz.ntmps134
        go_wp2_with fail
        refine (t_lettersAt s i _ hs hi).mono ?_
        rintro e w' ⟨rfl, hw'⟩
        subst hw'
        rw [h0]
        clear h8 h0 hr
        go_wp2_with fail
        refine (t_isSign s i _ hs hi).mono ?_
        rintro e w' ⟨rfl, hw'⟩
        subst hw'
        go_wp2_with fail
        go_ret
        exact ⟨ret_int (by rw [HR.out]; rfl), rfl⟩
    · have HR : Hid (sizeB s i hi = runF s i - i) := by show _ = _; unfold sizeB; rw [if_neg h8, if_neg (fun h => h0 h.1)]
      go_enter Tryz.func134, Tryz.ntmps134
      go_wp2_with fail
      refine (t_lettersAt s i _ hs hi).mono ?_
      rintro e w' ⟨rfl, hw'⟩
      subst hw'
      generalize runF s i - i = m at *
      have h8' : (m : Int) ≤ 8 := by omega
      have h0' : ((m : Int) == 0) = false := beq_eq_false_iff_ne.2 (by omega)
      clear h0
      go_wp2_with fail
      go_ret
      exact ⟨ret_int (by rw [HR.out]), rfl⟩

set_option maxRecDepth 100000 in
set_option maxHeartbeats 1000000 in
theorem t_tokenAt (s : ByteArray) (i n : Nat) (w : World) (hs : s.size ≤ 500) (hi : i < s.size) (hn : 1 ≤ n) (hin : i + n ≤ s.size) :
    Calls Tryz.prog 135 #[.string s, .int .i64 i, .int .i64 n] w fun e w' => e = .returned (.agg #[.string (s.extract i (i + n)), .int .i64 i, .bool (isLetterB s[i] && !(memB kws (s.extract i (i + n))))]) ∧ Below w.heap.size w w' := by
  have a1 : (n : Int) ≤ s.size - i := by omega
  have a2 : ((i + n : Nat) : Int) ≤ s.size := by omega
  go_enter Tryz.func135, Tryz.ntmps135
  cases hL : isLetterB s[i]
  · go_wp2_with fail
    refine (t_isLetter s[i] _).mono ?_
    rintro e w' ⟨rfl, hw'⟩
    subst hw'
    go_wp2_with fail
    exact bodyPost_ret (v := .agg #[.string (s.extract i (i + n)), .int .i64 i, .bool false]) (by simp [results, Tryz.results135, go_sem]) rfl ⟨rfl, (Below.refl _ _).alloc (Nat.le_refl _) _⟩
  · go_wp2_with fail
    refine (t_isLetter s[i] _).mono ?_
    rintro e w' ⟨rfl, hw'⟩
    subst hw'
    go_wp2_with fail
    refine (t_hasMeaning _ _).mono ?_
    rintro e w' ⟨rfl, hw'⟩
    subst hw'
    go_wp2_with fail
    exact bodyPost_ret (v := .agg #[.string (s.extract i (i + n)), .int .i64 i, .bool !memB kws (s.extract i (i + n))]) (by simp [results, Tryz.results135, go_sem]) rfl ⟨by rw [Bool.true_and], (Below.refl _ _).alloc (Nat.le_refl _) _⟩

theorem ext_one (s : ByteArray) (i : Nat) (h : i < s.size) : s.extract i (i + 1) = ⟨#[s[i]]⟩ := by
  apply toList_inj.1
  rw [bl, bl]
  apply List.ext_getElem?
  intro k
  have h1 : (s.extract i (i + 1)).size = 1 := by rw [ext_size s i (i + 1) (by omega) (by omega)]; omega
  cases k with
  | zero =>
    have h2 : 0 < (s.extract i (i + 1)).size := by omega
    have e := ext_first s i (i + 1) (by omega) (by omega) h2
    have e2 : (s.extract i (i + 1)).data.toList[0]? = some (s.extract i (i + 1))[0] := List.getElem?_eq_getElem (l := (s.extract i (i + 1)).data.toList) (i := 0) h2
    rw [e2, e]; rfl
  | succ k =>
    rw [List.getElem?_eq_none (by have : (s.extract i (i + 1)).data.toList.length = 1 := h1
                                  omega)]
    rfl

theorem sign_one (s : ByteArray) (i : Nat) (h : i < s.size) : memB signs (s.extract i (i + 1)) = signB s[i] := by
  rw [ext_one s i h]
  generalize s[i] = c
  have key : ∀ d : UInt8, decide ((⟨#[d]⟩ : ByteArray) = ⟨#[c]⟩) = decide (c.toNat = d.toNat) := by
    intro d
    rw [Bool.eq_iff_iff, decide_eq_true_iff, decide_eq_true_iff]
    constructor
    · intro e; injection e with e; simp at e; rw [e]
    · intro e
      have : c = d := UInt8.toNat_inj.1 e
      rw [this]
  unfold memB signs signB
  simp only [List.any_cons, List.any_nil, Bool.or_false, key, Bool.or_assoc]
  rfl

theorem size_ok (s : ByteArray) (i : Nat) (h : i < s.size) : (okAt s i h = true ∧ sizeB s i h ≠ 0 ∧ endAt s i h = i + sizeB s i h) ∨ (okAt s i h = false ∧ sizeB s i h = 0) := by
  have hg := endAt_gt s i h
  cases hL : isLetterB s[i]
  · have he := endAt_other h hL
    have hr := runF_no h hL
    have hs := sign_one s i h
    unfold okAt sizeB
    rw [hL, he, hr, hs, Nat.sub_self]
    cases hS : signB s[i]
    · right; simp
    · left; simp
  · have he := endAt_letter h hL
    have hr : runF s i = endAt s i h := by rw [he, runF_yes h hL]
    unfold okAt sizeB
    rw [hL, hr]
    by_cases h8 : 8 < endAt s i h - i
    · right
      rw [if_pos h8, decide_eq_false (by omega)]
      refine ⟨?_, rfl⟩
      have : memB signs (s.extract i (endAt s i h)) = false := by
        unfold memB
        rw [List.any_eq_false]
        intro x hx
        rw [decide_eq_true_iff]
        intro e
        have h1 : x.size = endAt s i h - i := by rw [e]; exact ext_size s i _ (by omega) (by omega)
        have h2 : x.size = 1 := by
          simp only [signs, List.mem_cons, List.not_mem_nil, or_false] at hx
          rcases hx with rfl | rfl | rfl | rfl | rfl | rfl | rfl | rfl | rfl | rfl | rfl <;> rfl
        omega
      rw [this]; rfl
    · left
      rw [if_neg h8, if_neg (by omega), decide_eq_true (by omega)]
      exact ⟨rfl, by omega, by omega⟩

theorem name_ok (s : ByteArray) (i n : Nat) (h : i < s.size) (hn : 1 ≤ n) (hin : i + n ≤ s.size) : (isLetterB s[i] && !(memB kws (s.extract i (i + n)))) = isNameB (s.extract i (i + n)) := by
  have h1 : 0 < (s.extract i (i + n)).size := by rw [ext_size s i (i + n) (by omega) hin]; omega
  rw [isName_pos h1, ext_first s i (i + n) (by omega) hin h1]

theorem Tryz.infoTok3 : (Tryz.prog.info? 228).map (fun i => (i.zero, i.size, i.bytes)) = some (some (.agg #[.string ⟨#[]⟩, .int .i64 0, .bool false]), 3, 32) := by kernel_rfl

def toks3 : List Tk → List Value
  | [] => []
  | t :: r => .string t.t :: .int .i64 t.p :: .bool (isNameB t.t) :: toks3 r
theorem toks3_append (a b : List Tk) : toks3 (a ++ b) = toks3 a ++ toks3 b := by
  induction a with
  | nil => rfl
  | cons t r ih => show _ :: _ :: _ :: toks3 (r ++ b) = _; rw [ih]; rfl
theorem toks3_get (a : List Tk) (i : Nat) (h : i < a.length) : (toks3 a)[i * 3]? = some (.string a[i].t) ∧ (toks3 a)[i * 3 + 1]? = some (.int .i64 a[i].p) ∧ (toks3 a)[i * 3 + 2]? = some (.bool (isNameB a[i].t)) := by
  induction a generalizing i with
  | nil => cases h
  | cons t r ih =>
    cases i with
    | zero => exact ⟨rfl, rfl, rfl⟩
    | succ k =>
      have := ih k (by simpa using h)
      rw [show (k + 1) * 3 = k * 3 + 1 + 1 + 1 from by omega]
      exact this

theorem three_cells {w : World} {T : TypeId} {x y z : Value} : ∀ (j : Nat) (u : Value), [x, y, z][j]? = some u → (w.alloc (.cells #[x, y, z] T)).cell? ((⟨w.heap.size, 0, none⟩ : Addr).add j) = some u := by
  intro j u hj
  have hh : (w.alloc (.cells #[x, y, z] T)).heap[w.heap.size]? = some (.cells #[x, y, z] T) := heap_alloc_new w _
  rw [addr_add]
  match j, hj with
  | 0, hj => simp only [World.cell?, hh]; exact hj
  | 1, hj => simp only [World.cell?, hh]; exact hj
  | 2, hj => simp only [World.cell?, hh]; exact hj

theorem app_tok3 {ops : Array Oper} {rest : List Oper} {o : Oper} {a : Act} {Q : Exit → Act → World → Prop} {w0 : World} {B : Nat} {v : Value} {l : List Tk} (t : ByteArray) (p : Nat)
    (hown : w0.ownsRow B 228 3 v l.length (toks3 l)) (hl : l.length ≤ 100000) (hB : B ≤ w0.heap.size) (hgd : o.guard = none) (s x : Operand)
    (ho : o.op = .call { callee := .builtin .append, args := #[s, x], argTypes := #[174, 174] }) (hs : a.eval s = v) {nb : Nat}
    (hx : a.eval x = .slice (some ⟨nb, 0, none⟩) 1 1) (hnb : nb = w0.heap.size)
    (h : ∀ v' w', w'.ownsRow B 228 3 v' (l ++ [(⟨t, p⟩ : Tk)]).length (toks3 (l ++ [(⟨t, p⟩ : Tk)])) → (∀ a0, Below B a0 w0 → Below B a0 w') → wpList Tryz.prog ops Q rest (a.put o.dst v') w') :
    wpList Tryz.prog ops Q (o :: rest) a (w0.alloc (.cells #[.string t, .int .i64 p, .bool (isNameB t)] 228)) := by
  obtain ⟨i0, hi0, hz0, hz1, hz2⟩ := info_parts Tryz.infoTok3
  subst hnb
  refine wpList_append_own _ hgd s x 174 ho B 228 i0 (.agg #[.string ⟨#[]⟩, .int .i64 0, .bool false]) 3 32 Tryz.underlying174 hi0 hz0 hz1 hz2 rfl (by decide) v l.length (toks3 l) hs (hown.alloc _) ⟨w0.heap.size, 0, none⟩ 1 1 [.string t, .int .i64 p, .bool (isNameB t)] hx rfl three_cells ?_ (by unfold maxLen; omega) (by omega) (by simp; omega) ?_
  · intro u hu
    rcases List.mem_cons.1 hu with rfl | hu
    · rfl
    · rcases List.mem_cons.1 hu with rfl | hu
      · rfl
      · rcases List.mem_cons.1 hu with rfl | hu
        · rfl
        · cases hu
  · intro v' w' h1 h2 _
    refine h v' w' ?_ fun a0 h0 => (h0.alloc hB _).grown h2 (by simp; omega) fun k hk => (hown.lt k hk).1
    rw [toks3_append, List.length_append]; exact h1

set_option maxRecDepth 100000 in
set_option maxHeartbeats 1000000 in
theorem t_cut (s : ByteArray) (w : World) (hs : s.size ≤ 500) :
    Calls Tryz.prog 99 #[.string s] w fun e w' => ((lexF s 0).2 = none ∧ ∃ v, e = .returned (.tuple #[v, .int .i64 0, .bool true]) ∧ w'.ownsRow w.heap.size 228 3 v (lexF s 0).1.length (toks3 (lexF s 0).1) ∧ Below w.heap.size w w') ∨ (∃ p : Nat, (lexF s 0).2 = some p ∧ e = .returned (.tuple #[.slice none 0 0, .int .i64 p, .bool false]) ∧ Below w.heap.size w w') := by
  go_enter Tryz.func99, Tryz.ntmps99
  go_wp2_with fail
  go_loopw [5, 6] (fun v u wr => ∃ (i : Nat) (acc : List Tk), u = .int .i64 i ∧ i ≤ s.size ∧ acc.length ≤ i ∧ (acc ++ (lexF s i).1, (lexF s i).2) = lexF s 0 ∧ wr.ownsRow w.heap.size 228 3 v acc.length (toks3 acc) ∧ Below w.heap.size w wr) (fun _ u _ => s.size - (intOf u).toNat)
  case atStart => exact ⟨0, [], rfl, Nat.zero_le _, Nat.zero_le _, rfl, World.ownsRow_nil _ _ _ _, Below.refl _ _⟩
  case round =>
    obtain ⟨i, acc, rfl, hi, hacc, hn, hown, hbel⟩ := hrel
    have HN := hide hn
    clear hn
    by_cases hlt : i < s.size
    · cases hB : blankB s[i]
      · rcases size_ok s i hlt with ⟨ho, hz, he⟩ | ⟨ho, hz⟩
        · have hg := endAt_gt s i hlt
          have HE : Hid (lexF s i = (⟨s.extract i (i + sizeB s i hlt), i⟩ :: (lexF s (i + sizeB s i hlt)).1, (lexF s (i + sizeB s i hlt)).2)) := by show _ = _; rw [lexF_ok hlt hB ho, he]
          have hin : i + sizeB s i hlt ≤ s.size := by omega
          go_wp2_with fail
          refine (t_isBlank s[i] _).mono ?_
          rintro e w1 ⟨rfl, hw1⟩
          subst hw1
          go_wp2_with fail
          refine (t_sizeAt s i _ hs hlt).mono ?_
          rintro e w1 ⟨rfl, hw1⟩
          subst hw1
          generalize sizeB s i hlt = m at *
          have hm1 : 1 ≤ m := by omega
          have hm0 : ((m : Int) == 0) = false := beq_eq_false_iff_ne.2 (by omega)
          have HNM := hide (name_ok s i m hlt hm1 hin)
          clear he hz hg
          go_wp2_with fail
          refine (t_tokenAt s i m _ hs hlt hm1 hin).mono ?_
          rintro e w2 ⟨rfl, hb2⟩
          rw [HNM.out]
          have hown2 := owns_below hown hb2
          have hbel2 := hbel.trans (hb2.mono hbel.size)
          go_wp2_with (at_builtin; refine app_tok3 (s.extract i (i + m)) i (hown2.alloc _) (by omega) (Nat.le_trans hbel2.size (by simp)) rfl _ _ rfl rfl rfl (by simp) ?_; intro v3 w3 hown3 hb3)
          go_roundw
          case rel => exact ⟨i + m, acc ++ [⟨s.extract i (i + m), i⟩], by go_num, by omega, by simp; omega, by rw [← HN.out, HE.out, List.append_assoc]; rfl, hown3, hb3 _ (hbel2.alloc hbel2.size _)⟩
          case measure => simp [intOf]; omega
        · have HE := hide (lexF_bad hlt hB ho)
          go_wp2_with fail
          refine (t_isBlank s[i] _).mono ?_
          rintro e w1 ⟨rfl, hw1⟩
          subst hw1
          go_wp2_with fail
          refine (t_sizeAt s i _ hs hlt).mono ?_
          rintro e w1 ⟨rfl, hw1⟩
          subst hw1
          rw [hz]
          go_wp2_with fail
          go_ret3
          exact .inr ⟨i, by rw [← HN.out, HE.out], rfl, hbel⟩
      · have HE := hide (lexF_blank hlt hB)
        go_wp2_with fail
        refine (t_isBlank s[i] _).mono ?_
        rintro e w1 ⟨rfl, hw1⟩
        subst hw1
        go_wp2_with fail
        go_roundw
        case rel => exact ⟨i + 1, acc, by go_num, by omega, by omega, by rw [← HN.out, HE.out], hown, hbel⟩
        case measure => simp [intOf]; omega
    · have HE := hide (lexF_out hlt)
      go_wp2_with fail
      go_ret3
      have he : lexF s 0 = (acc, none) := by rw [← HN.out, HE.out, List.append_nil]
      exact .inl ⟨by rw [he], _, rfl, by rw [he]; exact hown, hbel⟩

end Go.Proofs.YtmfcpbhdggonfaaGreatDoor

namespace Go.Proofs.YtmfcpbhdggonfaaGreatDoor
open Go.RowKit RR

set_option maxRecDepth 100000 in
set_option maxHeartbeats 2000000 in
theorem c_paramsOf (ao : Option Addr) (cap : Nat) (l : List Nm) (t : ByteArray) (w : World) (hl : l.length ≤ 1000) (hi : NmSl w ao l) :
    Calls Tryz.prog 187 #[.slice ao l.length cap, .string t] w fun e w' => e = .returned (.int .i64 (paramsP l t)) ∧ Below w.heap.size w w' := by
  go_enter Tryz.func187, Tryz.ntmps187
  go_wp2
  go_loopw [5, 6, 11] (fun v5 v6 u wr => ∃ (k : Nat) (p : Int) (q : Nat), v5 = .int .i64 p ∧ v6 = .int .i64 q ∧ u = .int .i64 k ∧ k ≤ l.length ∧ q ≤ k ∧ (l.take k).foldl (pstep t) (-1, 0) = (p, q) ∧ Below w.heap.size w wr) (fun _ _ u _ => l.length - (intOf u).toNat)
  case atStart => exact ⟨0, -1, 0, rfl, rfl, rfl, Nat.zero_le _, Nat.zero_le _, rfl, Below.refl _ _⟩
  case round =>
    obtain ⟨k, p, q, rfl, rfl, rfl, hk, hq, hn, hbel⟩ := hrel
    by_cases hlt : k < l.length
    · obtain ⟨b, o, hb, hao, c1, c2, c3, c4⟩ := (hi.below hbel) k hlt
      subst hao
      have HS : Hid ((l.take (k + 1)).foldl (pstep t) (-1, 0) = pstep t (p, q) l[k]) := by show _ = _; rw [foldl_snoc _ _ l k hlt, hn]
      clear hn
      by_cases h2 : l[k].role = 2
      · have e2 : ((l[k].role : Int) == 2) = true := beq_iff_eq.2 (by omega)
        have e3 : ((l[k].role : Int) == 3) = false := beq_eq_false_iff_ne.2 (by omega)
        cases hw : (l[k].word.toList == t.toList)
        · have HW : Hid (¬ l[k].word = t) := fun e => by rw [e] at hw; simp at hw
          have HE : Hid (pstep t (p, q) l[k] = (p, q)) := by show _ = _; unfold pstep; dsimp only; rw [if_neg (fun h => HW.out h.2), if_neg (by omega)]
          clear h2
          go_wp2_with fail
          go_roundw
          case rel => exact ⟨k + 1, p, q, rfl, rfl, by go_num, by omega, by omega, by rw [HS.out, HE.out], hbel.alloc hbel.size _⟩
          case measure => simp [intOf]; omega
        · have HW : Hid (l[k].word = t) := toList_inj.1 (by simpa using hw)
          have HE : Hid (pstep t (p, q) l[k] = (l[k].proc, q)) := by show _ = _; unfold pstep; dsimp only; rw [if_pos ⟨h2, HW.out⟩, if_neg (by omega)]
          clear h2
          go_wp2_with fail
          go_roundw
          case rel => exact ⟨k + 1, l[k].proc, q, rfl, rfl, by go_num, by omega, by omega, by rw [HS.out, HE.out], hbel.alloc hbel.size _⟩
          case measure => simp [intOf]; omega
      · have e2 : ((l[k].role : Int) == 2) = false := beq_eq_false_iff_ne.2 (by omega)
        by_cases h3 : l[k].role = 3
        · have e3 : ((l[k].role : Int) == 3) = true := beq_iff_eq.2 (by omega)
          by_cases hp : l[k].proc = p
          · have ep : (l[k].proc == p) = true := beq_iff_eq.2 hp
            have HE : Hid (pstep t (p, q) l[k] = (p, q + 1)) := by show _ = _; unfold pstep; dsimp only; rw [if_neg (fun h => h2 h.1), if_pos ⟨h3, hp⟩]
            clear h2 h3 hp
            go_wp2_with fail
            go_roundw
            case rel => exact ⟨k + 1, p, q + 1, rfl, by go_num, by go_num, by omega, by omega, by rw [HS.out, HE.out], hbel.alloc hbel.size _⟩
            case measure => simp [intOf]; omega
          · have ep : (l[k].proc == p) = false := beq_eq_false_iff_ne.2 hp
            have HE : Hid (pstep t (p, q) l[k] = (p, q)) := by show _ = _; unfold pstep; dsimp only; rw [if_neg (fun h => h2 h.1), if_neg (fun h => hp h.2)]
            clear h2 h3 hp
            go_wp2_with fail
            go_roundw
            case rel => exact ⟨k + 1, p, q, rfl, rfl, by go_num, by omega, by omega, by rw [HS.out, HE.out], hbel.alloc hbel.size _⟩
            case measure => simp [intOf]; omega
        · have e3 : ((l[k].role : Int) == 3) = false := beq_eq_false_iff_ne.2 (by omega)
          have HE : Hid (pstep t (p, q) l[k] = (p, q)) := by show _ = _; unfold pstep; dsimp only; rw [if_neg (fun h => h2 h.1), if_neg (fun h => h3 h.1)]
          clear h2 h3
          go_wp2_with fail
          go_roundw
          case rel => exact ⟨k + 1, p, q, rfl, rfl, by go_num, by omega, by omega, by rw [HS.out, HE.out], hbel.alloc hbel.size _⟩
          case measure => simp [intOf]; omega
    · have HE : Hid (paramsP l t = q) := by show _ = _; unfold paramsP; rw [← List.take_of_length_le (l := l) (i := k) (by omega), hn]
      clear hn
      go_wp2_with fail
      go_ret
      exact ⟨ret_int (by rw [HE.out]), hbel⟩

def ClSl (w : World) (ao : Option Addr) (l : List Cl) : Prop := ∀ i, (h : i < l.length) → ∃ b o, b < w.heap.size ∧ ao = some ⟨b, o, none⟩ ∧ w.cell? ⟨b, o + i * 3, none⟩ = some (.string l[i].word) ∧ w.cell? ⟨b, o + i * 3 + 1, none⟩ = some (.int .i64 l[i].at_) ∧ w.cell? ⟨b, o + i * 3 + 2, none⟩ = some (.int .i64 l[i].values)

theorem ClSl.below {w w' : World} {ao : Option Addr} {l : List Cl} (h : ClSl w ao l) (hb : Below w.heap.size w w') : ClSl w' ao l := fun i hi => by
  obtain ⟨b, o, h1, h2, h3, h4, h5⟩ := h i hi
  exact ⟨b, o, Nat.lt_of_lt_of_le h1 hb.size, h2, (hb.cell (p := ⟨b, o + i * 3, none⟩) h1).trans h3, (hb.cell (p := ⟨b, o + i * 3 + 1, none⟩) h1).trans h4, (hb.cell (p := ⟨b, o + i * 3 + 2, none⟩) h1).trans h5⟩

theorem ob {w wr : World} {T : TypeId} {x0 x1 x2 x3 : Value} (hb : Below (w.heap.size + 1) (w.alloc (.cells #[x0, x1, x2, x3] T)) wr) : wr.cell? ⟨w.heap.size, 0, none⟩ = some x0 ∧ wr.cell? ⟨w.heap.size, 1, none⟩ = some x1 ∧ wr.cell? ⟨w.heap.size, 2, none⟩ = some x2 ∧ wr.cell? ⟨w.heap.size, 3, none⟩ = some x3 ∧ w.heap.size < wr.heap.size ∧ Below w.heap.size w wr := by
  have h2 := hb.size
  refine ⟨(hb.cell (p := ⟨w.heap.size, 0, none⟩) (Nat.lt_succ_self _)).trans (by simp), (hb.cell (p := ⟨w.heap.size, 1, none⟩) (Nat.lt_succ_self _)).trans (by simp), (hb.cell (p := ⟨w.heap.size, 2, none⟩) (Nat.lt_succ_self _)).trans (by simp), (hb.cell (p := ⟨w.heap.size, 3, none⟩) (Nat.lt_succ_self _)).trans (by simp), ?_, ((Below.refl _ _).alloc (Nat.le_refl _) _).trans (hb.mono (Nat.le_succ _))⟩
  simp at h2; omega

theorem keep5 {wr W w1 : World} {a c d : Addr} {x y z : Value} (ha : a.block < wr.heap.size) (hc : c.block < wr.heap.size) (hd : d.block < wr.heap.size) (h : W.cell? a = some x ∧ W.cell? c = some y ∧ W.cell? d = some z ∧ Below wr.heap.size wr W) (hb : Below W.heap.size W w1) : w1.cell? a = some x ∧ w1.cell? c = some y ∧ w1.cell? d = some z ∧ Below wr.heap.size wr w1 :=
  ⟨(hb.cell (Nat.lt_of_lt_of_le ha h.2.2.2.size)).trans h.1, (hb.cell (Nat.lt_of_lt_of_le hc h.2.2.2.size)).trans h.2.1, (hb.cell (Nat.lt_of_lt_of_le hd h.2.2.2.size)).trans h.2.2.1, h.2.2.2.trans (hb.mono h.2.2.2.size)⟩

set_option maxRecDepth 100000 in
set_option maxHeartbeats 2000000 in
theorem c_firstWrongCall (ao ac : Option Addr) (cap capc : Nat) (a2 a3 : Option Addr) (n2 c2 n3 c3 : Nat) (l : List Nm) (cs : List Cl) (w : World) (hl : l.length ≤ 1000) (hcs : cs.length ≤ 1000) (hi : NmSl w ao l) (hc : ClSl w ac cs) :
    Calls Tryz.prog 140 #[.agg #[.slice ao l.length cap, .slice ac cs.length capc, .slice a2 n2 c2, .slice a3 n3 c3]] w fun e w' => e = .returned (optOut (wrongP l cs)) ∧ Below w.heap.size w w' := by
  have hx0 := Below.refl (w.heap.size + 1) (w.alloc (.cells #[.slice ao l.length cap, .slice ac cs.length capc, .slice a2 n2 c2, .slice a3 n3 c3] 116))
  obtain ⟨o0, o1, o2, o3, hsz0, hbel0⟩ := ob hx0
  go_enter Tryz.func140, Tryz.ntmps140
  go_wp2_with fail
  go_loopw [9] (fun u wr => ∃ (k : Nat), u = .int .i64 k ∧ k ≤ cs.length ∧ wrongP l (cs.drop k) = wrongP l cs ∧ Below (w.heap.size + 1) (w.alloc (.cells #[.slice ao l.length cap, .slice ac cs.length capc, .slice a2 n2 c2, .slice a3 n3 c3] 116)) wr) (fun u _ => cs.length - (intOf u).toNat)
  case atStart => exact ⟨0, rfl, Nat.zero_le _, rfl, hx0⟩
  case round =>
    obtain ⟨k, rfl, hk, hn, hbx⟩ := hrel
    have HN := hide hn
    have HB := hide hbx
    obtain ⟨q0, q1, q2, q3, hsz, hbel⟩ := ob hbx
    clear hn hbx o0 o1 hsz0 hbel0 hx0
    by_cases hlt : k < cs.length
    · obtain ⟨b, o, hb, hao, c1, c2, c3⟩ := (hc.below hbel) k hlt
      subst hao
      have hsl := hi.below hbel
      have HD : Hid (cs.drop k = cs[k] :: cs.drop (k + 1)) := List.drop_eq_getElem_cons hlt
      by_cases hv : (cs[k].values : Int) = paramsP l cs[k].word
      · have hv' : ((cs[k].values : Int) != (paramsP l cs[k].word : Int)) = false := by rw [hv]; simp
        have HE : Hid (wrongP l (cs.drop k) = wrongP l (cs.drop (k + 1))) := by show _ = _; rw [HD.out, wrongP, if_neg (by omega)]
        clear hv
        have x0 : (wr.alloc (.cells #[.string cs[k].word, .int .i64 cs[k].at_, .int .i64 cs[k].values] 286)).cell? ⟨wr.heap.size, 0, none⟩ = some (.string cs[k].word) := by simp
        have x1 : (wr.alloc (.cells #[.string cs[k].word, .int .i64 cs[k].at_, .int .i64 cs[k].values] 286)).cell? ⟨wr.heap.size, 1, none⟩ = some (.int .i64 cs[k].at_) := by simp
        have x2 : (wr.alloc (.cells #[.string cs[k].word, .int .i64 cs[k].at_, .int .i64 cs[k].values] 286)).cell? ⟨wr.heap.size, 2, none⟩ = some (.int .i64 cs[k].values) := by simp
        have xq : (wr.alloc (.cells #[.string cs[k].word, .int .i64 cs[k].at_, .int .i64 cs[k].values] 286)).cell? ⟨w.heap.size, 0, none⟩ = some (.slice ao l.length cap) := by rw [World.cell?_alloc_lt _ _ _ hsz]; exact q0
        have hbX : Below wr.heap.size wr (wr.alloc (.cells #[.string cs[k].word, .int .i64 cs[k].at_, .int .i64 cs[k].values] 286)) := (Below.refl _ _).alloc (Nat.le_refl _) _
        have hzX : wr.heap.size < (wr.alloc (.cells #[.string cs[k].word, .int .i64 cs[k].at_, .int .i64 cs[k].values] 286)).heap.size := by simp
        go_wp2_with fail
        generalize (wr.alloc (.cells #[.string cs[k].word, .int .i64 cs[k].at_, .int .i64 cs[k].values] 286)) = wx at *
        have hslx := hsl.below hbX
        have hqX : w.heap.size < wx.heap.size := by omega
        go_region_held (fun w' => w'.cell? ⟨w.heap.size, 0, none⟩ = some (.slice ao l.length cap) ∧ w'.cell? ⟨wr.heap.size, 0, none⟩ = some (.string cs[k].word) ∧ w'.cell? ⟨wr.heap.size, 2, none⟩ = some (.int .i64 cs[k].values) ∧ Below wx.heap.size wx w') (first | exact ⟨xq, x0, x2, (Below.refl _ _).drew⟩ | exact keep5 hqX hzX hzX (by assumption) (by assumption)) (first | (go_at_call 187; refine (c_paramsOf _ _ l _ _ hl ?_).mono ?_; exact hslx.below (Below.refl _ _).drew; rintro e w2 ⟨rfl, hb2⟩))
        have hb3 : Below wx.heap.size wx w2 := (Below.refl _ _).drew.trans hb2
        have hx3 := (hb3.cell (p := ⟨wr.heap.size, 1, none⟩) hzX).trans x1
        have hfin := (HB.out.trans (hbX.mono hsz)).trans (hb3.mono hqX)
        clear hb2
        go_wp2_with fail
        go_roundw
        case rel => exact ⟨k + 1, by go_num, by omega, by rw [← HN.out, HE.out], hfin⟩
        case measure => simp [intOf]; omega
      · have hv' : ((cs[k].values : Int) != (paramsP l cs[k].word : Int)) = true := bne_iff_ne.2 hv
        have HE : Hid (wrongP l (cs.drop k) = some cs[k].at_) := by show _ = _; rw [HD.out, wrongP, if_pos (by omega)]
        clear hv
        have x0 : (wr.alloc (.cells #[.string cs[k].word, .int .i64 cs[k].at_, .int .i64 cs[k].values] 286)).cell? ⟨wr.heap.size, 0, none⟩ = some (.string cs[k].word) := by simp
        have x1 : (wr.alloc (.cells #[.string cs[k].word, .int .i64 cs[k].at_, .int .i64 cs[k].values] 286)).cell? ⟨wr.heap.size, 1, none⟩ = some (.int .i64 cs[k].at_) := by simp
        have x2 : (wr.alloc (.cells #[.string cs[k].word, .int .i64 cs[k].at_, .int .i64 cs[k].values] 286)).cell? ⟨wr.heap.size, 2, none⟩ = some (.int .i64 cs[k].values) := by simp
        have xq : (wr.alloc (.cells #[.string cs[k].word, .int .i64 cs[k].at_, .int .i64 cs[k].values] 286)).cell? ⟨w.heap.size, 0, none⟩ = some (.slice ao l.length cap) := by rw [World.cell?_alloc_lt _ _ _ hsz]; exact q0
        have hbX : Below wr.heap.size wr (wr.alloc (.cells #[.string cs[k].word, .int .i64 cs[k].at_, .int .i64 cs[k].values] 286)) := (Below.refl _ _).alloc (Nat.le_refl _) _
        have hzX : wr.heap.size < (wr.alloc (.cells #[.string cs[k].word, .int .i64 cs[k].at_, .int .i64 cs[k].values] 286)).heap.size := by simp
        go_wp2_with fail
        generalize (wr.alloc (.cells #[.string cs[k].word, .int .i64 cs[k].at_, .int .i64 cs[k].values] 286)) = wx at *
        have hslx := hsl.below hbX
        have hqX : w.heap.size < wx.heap.size := by omega
        go_region_held (fun w' => w'.cell? ⟨w.heap.size, 0, none⟩ = some (.slice ao l.length cap) ∧ w'.cell? ⟨wr.heap.size, 0, none⟩ = some (.string cs[k].word) ∧ w'.cell? ⟨wr.heap.size, 2, none⟩ = some (.int .i64 cs[k].values) ∧ Below wx.heap.size wx w') (first | exact ⟨xq, x0, x2, (Below.refl _ _).drew⟩ | exact keep5 hqX hzX hzX (by assumption) (by assumption)) (first | (go_at_call 187; refine (c_paramsOf _ _ l _ _ hl ?_).mono ?_; exact hslx.below (Below.refl _ _).drew; rintro e w2 ⟨rfl, hb2⟩))
        have hb3 : Below wx.heap.size wx w2 := (Below.refl _ _).drew.trans hb2
        have hx3 := (hb3.cell (p := ⟨wr.heap.size, 1, none⟩) hzX).trans x1
        have hfin := (HB.out.trans (hbX.mono hsz)).trans (hb3.mono hqX)
        clear hb2
        go_wp2_with fail
        go_ret2
        exact ⟨by rw [← HN.out, HE.out]; rfl, (ob hfin).2.2.2.2.2⟩
    · go_wp2
      go_ret2
      exact ⟨by rw [← HN.out, List.drop_of_length_le (by omega)]; rfl, hbel⟩

theorem outCheck1 {ns : List Nm} {cs : List Cl} {p : Nat} (h : manyP ns = some p) : outCheck ns cs = (4, (p : Int)) := by unfold outCheck; rw [h]
theorem outCheck2 {ns : List Nm} {cs : List Cl} {p : Nat} (h : manyP ns = none) (h2 : twiceP ns = some p) : outCheck ns cs = (5, (p : Int)) := by unfold outCheck; rw [h, h2]
theorem outCheck3 {ns : List Nm} {cs : List Cl} {p : Nat} (h : manyP ns = none) (h2 : twiceP ns = none) (h3 : misP ns = some p) : outCheck ns cs = (5, (p : Int)) := by unfold outCheck; rw [h, h2, h3]
theorem outCheck4 {ns : List Nm} {cs : List Cl} {p : Nat} (h : manyP ns = none) (h2 : twiceP ns = none) (h3 : misP ns = none) (h4 : wrongP ns cs = some p) : outCheck ns cs = (6, (p : Int)) := by unfold outCheck; rw [h, h2, h3, h4]
theorem outCheck5 {ns : List Nm} {cs : List Cl} (h : manyP ns = none) (h2 : twiceP ns = none) (h3 : misP ns = none) (h4 : wrongP ns cs = none) : outCheck ns cs = (0, 0) := by unfold outCheck; rw [h, h2, h3, h4]

set_option maxRecDepth 100000 in
set_option maxHeartbeats 2000000 in
theorem c_checkOutline (ao ac : Option Addr) (cap capc : Nat) (a2 a3 : Option Addr) (n2 c2 n3 c3 : Nat) (l : List Nm) (cs : List Cl) (w : World) (hl : l.length ≤ 999) (hcs : cs.length ≤ 1000) (hi : NmSl w ao l) (hc : ClSl w ac cs) :
    Calls Tryz.prog 101 #[.agg #[.slice ao l.length cap, .slice ac cs.length capc, .slice a2 n2 c2, .slice a3 n3 c3]] w fun e w' => e = .returned (.tuple #[.int .i64 (outCheck l cs).1, .int .i64 (outCheck l cs).2]) ∧ Below w.heap.size w w' := by
  have hx0 := Below.refl (w.heap.size + 1) (w.alloc (.cells #[.slice ao l.length cap, .slice ac cs.length capc, .slice a2 n2 c2, .slice a3 n3 c3] 116))
  obtain ⟨o0, o1, o2, o3, hsz0, hbel0⟩ := ob hx0
  have hi0 := hi.below hbel0
  go_enter Tryz.func101, Tryz.ntmps101
  go_wp2_with fail
  refine (c_firstTooMany _ _ l _ hl hi0).mono ?_
  rintro e w1 ⟨rfl, hb1⟩
  have hx1 := hx0.trans (hb1.mono hsz0)
  obtain ⟨p0, p1, p2, p3, hsz1, hbel1⟩ := ob hx1
  have hi1 := hi.below hbel1
  clear o0 o1 hbel0 hx0 hi0 hb1
  cases h1 : manyP l with
  | some p =>
    have HE := hide (outCheck1 (cs := cs) h1)
    unfold optOut
    go_wp2_with fail
    go_ret2
    exact ⟨by rw [HE.out]; rfl, hbel1⟩
  | none =>
  unfold optOut
  go_wp2_with fail
  refine (c_firstGivenTwice _ _ l _ (by omega) hi1).mono ?_
  rintro e w2 ⟨rfl, hb2⟩
  have hx2 := hx1.trans (hb2.mono hsz1)
  obtain ⟨q0, q1, q2, q3, hsz2, hbel2⟩ := ob hx2
  have hi2 := hi.below hbel2
  clear p0 p1 hbel1 hx1 hi1 hb2
  cases h2 : twiceP l with
  | some p =>
    have HE := hide (outCheck2 (cs := cs) h1 h2)
    unfold optOut
    go_wp2_with fail
    go_ret2
    exact ⟨by rw [HE.out]; rfl, hbel2⟩
  | none =>
  unfold optOut
  go_wp2_with fail
  refine (c_firstMisused _ _ l _ (by omega) hi2).mono ?_
  rintro e w3 ⟨rfl, hb3⟩
  have hx3 := hx2.trans (hb3.mono hsz2)
  obtain ⟨r0, r1, r2, r3, hsz3, hbel3⟩ := ob hx3
  have hi3 := hi.below hbel3
  have hc3 := hc.below hbel3
  clear q0 q1 hbel2 hx2 hi2 hb3
  cases h3 : misP l with
  | some p =>
    have HE := hide (outCheck3 (cs := cs) h1 h2 h3)
    unfold optOut
    go_wp2_with fail
    go_ret2
    exact ⟨by rw [HE.out]; rfl, hbel3⟩
  | none =>
  unfold optOut
  go_wp2_with fail
  refine (c_firstWrongCall _ _ _ _ _ _ _ _ _ _ l cs _ (by omega) hcs hi3 hc3).mono ?_
  rintro e w4 ⟨rfl, hb4⟩
  have hbel4 := hbel3.trans (hb4.mono hbel3.size)
  clear hb4
  cases h4 : wrongP l cs with
  | some p =>
    have HE := hide (outCheck4 (cs := cs) h1 h2 h3 h4)
    unfold optOut
    go_wp2_with fail
    go_ret2
    exact ⟨by rw [HE.out]; rfl, hbel4⟩
  | none =>
  have HE := hide (outCheck5 (cs := cs) h1 h2 h3 h4)
  unfold optOut
  go_wp2_with fail
  go_ret2
  exact ⟨by rw [HE.out]; rfl, hbel4⟩

end Go.Proofs.YtmfcpbhdggonfaaGreatDoor

namespace RR
open Go Go.RowKit

theorem bind_proj {α β γ δ : Type} {o : Option α} {g : α → Option β} {h : β → δ} {p : α → γ} {k : γ → Option δ} (e : ∀ r, (g r).map h = k (p r)) : (o.bind g).map h = (o.map p).bind k := by
  cases o with
  | none => rfl
  | some a => exact e a
theorem map_map' {α β γ : Type} {o : Option α} {g : α → β} {h : β → γ} : (o.map g).map h = o.map (fun a => h (g a)) := by cases o <;> rfl
theorem map_bind' {α β γ : Type} {o : Option α} {g : α → β} {k : β → Option γ} : (o.map g).bind k = o.bind (fun a => k (g a)) := by cases o <;> rfl

theorem nots_proj (L : List Tk) : ∀ (f : Nat) (σ : QSt) (n : Nat), (notsQ L f σ n).map (fun r => r.1.p) = notsP L f σ.p := by
  intro f
  induction f with
  | zero => intro σ n; rfl
  | succ f ih =>
    intro σ n
    rw [notsQ, notsP]
    cases hs : σ.p.sees L ⟨#[33]⟩
    · rfl
    · rw [if_pos rfl, if_pos rfl, ih]
      unfold PSt.take
      rw [hs]; rfl
theorem addNots_p : ∀ (n : Nat) (σ : QSt) (w : Int), (addNots n σ w).1.p = σ.p := by
  intro n
  induction n with
  | zero => intro σ w; rfl
  | succ n ih => intro σ w; rw [addNots, ih]; rfl

theorem plain_proj (L : List Tk) {br : QSt → Option (QSt × Int)} {bp : PSt → Option PSt} (σ : QSt) (h : (br σ).map (fun r => r.1.p) = bp σ.p) : (plainQ L br σ).map (fun r => r.1.p) =
    if (σ.p.ahead L 0).t = ⟨#[40]⟩ then bp σ.p
      else if (σ.p.ahead L 0).t = ⟨#[116, 114, 117, 101]⟩ ∨ (σ.p.ahead L 0).t = ⟨#[102, 97, 108, 115, 101]⟩ ∨ (σ.p.ahead L 0).t = ⟨#[63]⟩ then some (σ.p.take L (σ.p.ahead L 0).t)
      else some (σ.p.takeName L 4) := by
  unfold plainQ
  by_cases h1 : (σ.p.ahead L 0).t = ⟨#[40]⟩
  · rw [if_pos h1, if_pos h1, h]
  · rw [if_neg h1, if_neg h1]
    by_cases h2 : (σ.p.ahead L 0).t = ⟨#[116, 114, 117, 101]⟩
    · rw [if_pos h2, if_pos (.inl h2), h2]; rfl
    · rw [if_neg h2]
      by_cases h3 : (σ.p.ahead L 0).t = ⟨#[102, 97, 108, 115, 101]⟩
      · rw [if_pos h3, if_pos (.inr (.inl h3)), h3]; rfl
      · rw [if_neg h3]
        by_cases h4 : (σ.p.ahead L 0).t = ⟨#[63]⟩
        · rw [if_pos h4, if_pos (.inr (.inr h4)), h4]; rfl
        · rw [if_neg h4, if_neg (fun e => e.elim h2 (fun e => e.elim h3 h4))]; rfl

theorem exprs_proj (L : List Tk) : ∀ f : Nat, (∀ σ, (exprQ L f σ).map (fun r => r.1.p) = exprP L f σ.p) ∧ (∀ σ w, (orQ L f σ w).map (fun r => r.1.p) = orP L f σ.p) ∧ (∀ σ, (termQ L f σ).map (fun r => r.1.p) = termP L f σ.p) ∧ (∀ σ w, (andQ L f σ w).map (fun r => r.1.p) = andP L f σ.p) ∧ (∀ σ, (factorQ L f σ).map (fun r => r.1.p) = factorP L f σ.p) ∧ (∀ σ, (bracketedQ L f σ).map (fun r => r.1.p) = bracketedP L f σ.p) := by
  intro f
  induction f with
  | zero => exact ⟨fun _ => rfl, fun _ _ => rfl, fun _ => rfl, fun _ _ => rfl, fun _ => rfl, fun _ => rfl⟩
  | succ f ih =>
    obtain ⟨i1, i2, i3, i4, i5, i6⟩ := ih
    refine ⟨fun σ => ?_, fun σ w => ?_, fun σ => ?_, fun σ w => ?_, fun σ => ?_, fun σ => ?_⟩
    · rw [exprQ_succ, exprP_succ, bind_proj (p := fun r => r.1.p) (k := orP L f) (fun r => i2 r.1 r.2), i3]
    · rw [orQ_succ, orP_succ]
      split
      · rw [bind_proj (p := fun r => r.1.p) (k := orP L f) (fun r => i2 _ _), i3]; rfl
      · rfl
    · rw [termQ_succ, termP_succ, bind_proj (p := fun r => r.1.p) (k := andP L f) (fun r => i4 r.1 r.2), i5]
    · rw [andQ_succ, andP_succ]
      split
      · rw [bind_proj (p := fun r => r.1.p) (k := andP L f) (fun r => i4 _ _), i5]; rfl
      · rfl
    · rw [factorQ_succ, factorP_succ, ← nots_proj L f σ 0]
      refine bind_proj (p := fun r : QSt × Nat => r.1.p) (fun r => ?_)
      rw [map_map', ← plain_proj L (br := bracketedQ L f) (bp := bracketedP L f) r.1 (i6 r.1)]
      congr 1
      funext q
      exact addNots_p _ _ _
    · rw [bracketedQ_succ, bracketedP_succ, map_map', show exprP L f (enterP L σ.p ⟨#[40]⟩) = _ from (i1 (σ.setp (enterP L σ.p ⟨#[40]⟩))).symm, map_map']; rfl

theorem expr_proj (L : List Tk) (f : Nat) (σ : QSt) : (exprQ L f σ).map (fun r => r.1.p) = exprP L f σ.p := (exprs_proj L f).1 σ
theorem expr_at (L : List Tk) (f : Nat) (σ : QSt) (q : PSt) : exprP L f q = (exprQ L f (σ.setp q)).map (fun r => r.1.p) := (expr_proj L f (σ.setp q)).symm
theorem value_proj (L : List Tk) (f : Nat) (σ : QSt) (v : List (Int × Int)) : (valueQ L f σ v).map (fun r => r.1.p) = exprP L f σ.p := by
  unfold valueQ; rw [map_map', ← expr_proj]
theorem value_len {L : List Tk} {f : Nat} {σ : QSt} {v : List (Int × Int)} {r : QSt × List (Int × Int)} (h : valueQ L f σ v = some r) : r.2.length = v.length + 1 := by
  unfold valueQ at h
  obtain ⟨a, _, rfl⟩ := Option.map_eq_some_iff.1 h
  simp
theorem values_proj (L : List Tk) : ∀ (f : Nat) (σ : QSt) (v : List (Int × Int)), (valuesQ L f σ v).map (fun r => (r.1.p, r.2.length)) = valuesP L f σ.p v.length := by
  intro f
  induction f with
  | zero => intro σ v; rfl
  | succ f ih =>
    intro σ v
    rw [valuesQ, valuesP]
    split
    · rw [expr_at L f σ σ.p.step]
      unfold valueQ
      rw [map_bind', map_bind']
      cases exprQ L f (σ.setp σ.p.step) with
      | none => rfl
      | some a =>
        show (valuesQ L f a.1 (v ++ [_])).map _ = valuesP L f a.1.p (v.length + 1)
        rw [ih, List.length_append]; rfl
    · rfl
theorem cond_proj (L : List Tk) (f : Nat) (σ : QSt) (v : List (Int × Int)) : (condQ L f σ v).map (fun r => r.1.p) = bracketedP L f σ.p := by
  cases f with
  | zero => rfl
  | succ f =>
    rw [condQ, bracketedP_succ, map_map', expr_at L f σ (enterP L σ.p ⟨#[40]⟩)]
    unfold valueQ
    rw [map_map', map_map']; rfl
theorem call_proj (L : List Tk) (f : Nat) (σ : QSt) (s : Stm) (hs : s.vals = []) : (callQ L f σ s).map (fun r => r.1.p) = callP L f σ.p := by
  unfold callQ callP
  rw [map_map', hs]
  split
  · rfl
  · rw [expr_at L f σ (enterP L (σ.p.takeName L 6) ⟨#[40]⟩)]
    unfold valueQ
    rw [map_bind', map_bind']
    cases exprQ L f (σ.setp (enterP L (σ.p.takeName L 6) ⟨#[40]⟩)) with
    | none => rfl
    | some a =>
      show (valuesQ L f a.1 ([] ++ [_])).map _ = (valuesP L f a.1.p 1).map _
      have := values_proj L f a.1 ([] ++ [(((σ.setp (enterP L (σ.p.takeName L 6) ⟨#[40]⟩)).nds.length : Int), a.2)])
      have e : (([] : List (Int × Int)) ++ [(((σ.setp (enterP L (σ.p.takeName L 6) ⟨#[40]⟩)).nds.length : Int), a.2)]).length = 1 := rfl
      rw [e] at this
      rw [← this, map_map']; rfl
theorem assigned_proj (L : List Tk) (f : Nat) (σ : QSt) (s : Stm) (hs : s.vals = []) : (assignedQ L f σ s).map (fun r => r.1.p) = assignedP L f σ.p := by
  unfold assignedQ assignedP
  split
  · exact call_proj L f σ s hs
  · rw [map_map', ← value_proj L f σ s.vals]
theorem aoc_proj (L : List Tk) (f : Nat) (σ : QSt) (s : Stm) (hs : s.vals = []) : (aocQ L f σ s).map (fun r => r.p) = assignOrCallP L f σ.p := by
  unfold aocQ assignOrCallP
  rw [map_map']
  split
  · rw [← call_proj L f σ { s with kind := 1 } hs, map_map']; rfl
  · have := assigned_proj L f (σ.setp ((σ.p.takeName L 4).take L ⟨#[61]⟩)) { s with kind := 1, target := nameIx L σ.p } hs
    show Option.map _ (assignedQ L f _ _) = Option.map _ (assignedP L f (σ.setp ((σ.p.takeName L 4).take L ⟨#[61]⟩)).p)
    rw [← this, map_map']; rfl
theorem giveBack_proj (L : List Tk) (f : Nat) (σ : QSt) (s : Stm) : (giveBackQ L f σ s).map (fun r => r.p) = giveBackP L f σ.p := by
  unfold giveBackQ giveBackP
  rw [map_map']
  split
  · rfl
  · rw [show exprP L f (σ.p.take L ⟨#[114, 101, 116, 117, 114, 110]⟩) = exprP L f (σ.setp (σ.p.take L ⟨#[114, 101, 116, 117, 114, 110]⟩)).p by rfl, ← value_proj L f (σ.setp (σ.p.take L ⟨#[114, 101, 116, 117, 114, 110]⟩)) s.vals, map_map']; rfl
theorem assume_proj (L : List Tk) (f : Nat) (σ : QSt) (s : Stm) : (assumeQ L f σ s).map (fun r => r.p) = (exprP L f (σ.p.take L ⟨#[97, 115, 115, 117, 109, 101]⟩)).map fun τ => τ.take L ⟨#[59]⟩ := by
  unfold assumeQ
  rw [map_map', show exprP L f (σ.p.take L ⟨#[97, 115, 115, 117, 109, 101]⟩) = exprP L f (σ.setp (σ.p.take L ⟨#[97, 115, 115, 117, 109, 101]⟩)).p by rfl, ← value_proj L f (σ.setp (σ.p.take L ⟨#[97, 115, 115, 117, 109, 101]⟩)) s.vals, map_map']; rfl

theorem blocks_proj (L : List Tk) : ∀ f : Nat, (∀ σ b, (blockQ L f σ b).map (fun r => r.1.p) = blockP L f σ.p) ∧ (∀ σ b, (stmtsQ L f σ b).map (fun r => r.1.p) = stmtsP L f σ.p) ∧ (∀ σ b, (statementQ L f σ b).map (fun r => r.1.p) = statementP L f σ.p) ∧ (∀ σ b, (branchQ L f σ b).map (fun r => r.1.p) = branchP L f σ.p) := by
  intro f
  induction f with
  | zero => exact ⟨fun _ _ => rfl, fun _ _ => rfl, fun _ _ => rfl, fun _ _ => rfl⟩
  | succ f ih =>
    obtain ⟨i1, i2, i3, i4⟩ := ih
    refine ⟨fun σ b => ?_, fun σ b => ?_, fun σ b => ?_, fun σ b => ?_⟩
    · rw [blockQ_succ, blockP_succ, map_map', show stmtsP L f (enterP L σ.p ⟨#[123]⟩) = stmtsP L f (σ.setp (enterP L σ.p ⟨#[123]⟩)).p by rfl, ← i2 _ b, map_map']; rfl
    · rw [stmtsQ_succ, stmtsP_succ]
      split
      · rw [bind_proj (p := fun r : QSt × Nat => r.1.p) (k := stmtsP L f) (fun r => i2 r.1 b), i3]
      · rfl
    · rw [statementQ_succ, statementP_succ]
      by_cases h1 : (σ.p.ahead L 0).t = ⟨#[105, 102]⟩
      · rw [if_pos h1, if_pos h1, i4]
      rw [if_neg h1, if_neg h1]
      by_cases h2 : (σ.p.ahead L 0).t = ⟨#[119, 104, 105, 108, 101]⟩
      · rw [if_pos h2, if_pos h2]
        unfold loopQ
        rw [show bracketedP L f (σ.p.take L ⟨#[119, 104, 105, 108, 101]⟩) = bracketedP L f (σ.setp (σ.p.take L ⟨#[119, 104, 105, 108, 101]⟩)).p by rfl, ← cond_proj L f _ []]
        refine bind_proj (p := fun r : QSt × List (Int × Int) => r.1.p) (fun r => ?_)
        rw [map_map']; exact i1 (r.1.add { newStm L σ b with kind := 3, vals := r.2 }) ⟨b.proc, r.1.sts.length, false⟩
      rw [if_neg h2, if_neg h2]
      by_cases h3 : (σ.p.ahead L 0).t = ⟨#[97, 115, 115, 117, 109, 101]⟩
      · rw [if_pos h3, if_pos h3, map_map', ← assume_proj L f σ (newStm L σ b)]
      rw [if_neg h3, if_neg h3]
      by_cases h4 : (σ.p.ahead L 0).t = ⟨#[97, 99, 113, 117, 105, 114, 101]⟩
      · rw [if_pos h4, if_pos (.inl h4)]; rfl
      rw [if_neg h4]
      by_cases h5 : (σ.p.ahead L 0).t = ⟨#[114, 101, 108, 101, 97, 115, 101]⟩
      · rw [if_pos h5, if_pos (.inr h5)]; rfl
      have h45 : ¬ ((σ.p.ahead L 0).t = ⟨#[97, 99, 113, 117, 105, 114, 101]⟩ ∨ (σ.p.ahead L 0).t = ⟨#[114, 101, 108, 101, 97, 115, 101]⟩) := fun e => Or.elim e h4 h5
      rw [if_neg h5, if_neg h45]
      by_cases h6 : (σ.p.ahead L 0).t = ⟨#[114, 101, 116, 117, 114, 110]⟩
      · rw [if_pos h6, if_pos h6, map_map', ← giveBack_proj L f σ (newStm L σ b)]
      rw [if_neg h6, if_neg h6]
      by_cases h7 : (σ.p.ahead L 0).t = ⟨#[115, 107, 105, 112]⟩
      · rw [if_pos h7, if_pos h7]; rfl
      rw [if_neg h7, if_neg h7, map_map', ← aoc_proj L f σ (newStm L σ b) rfl]
    · rw [branchQ_succ, branchP_succ, show bracketedP L f (σ.p.take L ⟨#[105, 102]⟩) = bracketedP L f (σ.setp (σ.p.take L ⟨#[105, 102]⟩)).p by rfl, ← cond_proj L f _ []]
      refine bind_proj (p := fun r : QSt × List (Int × Int) => r.1.p) (fun r => ?_)
      rw [show blockP L f r.1.p = blockP L f (r.1.add { newStm L σ b with kind := 2, vals := r.2 }).p by rfl, ← i1 _ ⟨b.proc, r.1.sts.length, false⟩]
      refine bind_proj (p := fun r : QSt × Nat => r.1.p) (fun c => ?_)
      split
      · rw [map_map']; exact i1 (c.1.setp c.1.p.step) ⟨b.proc, r.1.sts.length, true⟩
      · rfl
theorem block_proj (L : List Tk) (f : Nat) (σ : QSt) (b : Blk) : (blockQ L f σ b).map (fun r => r.1.p) = blockP L f σ.p := (blocks_proj L f).1 σ b

theorem procedure_proj (L : List Tk) (f : Nat) (σ : QSt) : (procedureQ L f σ).map (fun r => r.p) = procedureP L f σ.p := by
  unfold procedureQ procedureP
  simp only
  generalize (if (enterP L (({ σ.p.take L ⟨#[112, 114, 111, 99]⟩ with proc := wrap64 ((σ.p.take L ⟨#[112, 114, 111, 99]⟩).proc + 1) } : PSt).takeName L 2) ⟨#[40]⟩).sees L ⟨#[41]⟩ then some (enterP L (({ σ.p.take L ⟨#[112, 114, 111, 99]⟩ with proc := wrap64 ((σ.p.take L ⟨#[112, 114, 111, 99]⟩).proc + 1) } : PSt).takeName L 2) ⟨#[40]⟩) else moreP L 3 f ((enterP L (({ σ.p.take L ⟨#[112, 114, 111, 99]⟩ with proc := wrap64 ((σ.p.take L ⟨#[112, 114, 111, 99]⟩).proc + 1) } : PSt).takeName L 2) ⟨#[40]⟩).takeName L 3)) = o
  cases o with
  | none => rfl
  | some e =>
    show (Option.map _ (blockQ L f _ _)).map _ = blockP L f (σ.setp (leaveP L e ⟨#[41]⟩)).p
    rw [map_map', ← block_proj L f _ ⟨(leaveP L e ⟨#[41]⟩).proc, -1, false⟩]; rfl
theorem procs_proj (L : List Tk) : ∀ (f : Nat) (σ : QSt), (procsQ L f σ).map (fun r => r.p) = procsP L f σ.p := by
  intro f
  induction f with
  | zero => intro σ; rfl
  | succ f ih =>
    intro σ
    rw [procsQ, procsP]
    split
    · rw [bind_proj (p := fun r : QSt => r.p) (k := procsP L f) ih, procedure_proj]
    · rfl
theorem program_proj (L : List Tk) (f : Nat) (σ : QSt) : (programQ L f σ).map (fun r => r.p) = programP L f σ.p := by
  unfold programQ programP
  cases listP L f ⟨#[115, 104, 97, 114, 101, 100]⟩ 0 σ.p with
  | none => rfl
  | some a =>
    show Option.map _ ((listP L f _ 1 a).bind _) = (listP L f _ 1 a).bind _
    cases listP L f ⟨#[108, 111, 99, 107, 115]⟩ 1 a with
    | none => rfl
    | some b =>
      show Option.map _ ((procedureQ L f (σ.setp b)).bind _) = (procedureP L f (σ.setp b).p).bind _
      rw [← procedure_proj]
      refine bind_proj (p := fun r : QSt => r.p) (fun c => ?_)
      rw [← procs_proj]
      refine bind_proj (p := fun r : QSt => r.p) (fun d => ?_)
      rw [map_map']; rfl

end RR

namespace RR

def tAt (L : List Tk) (i : Nat) : ByteArray := if h : i < L.length then L[i].t else ⟨#[]⟩
def pAt (L : List Tk) (len : Nat) (i : Nat) : Nat := if h : i < L.length then L[i].p else len
theorem tAt_in {L : List Tk} {i : Nat} (h : i < L.length) : tAt L i = L[i].t := by unfold tAt; rw [dif_pos h]
theorem tAt_out {L : List Tk} {i : Nat} (h : ¬ i < L.length) : tAt L i = ⟨#[]⟩ := by unfold tAt; rw [dif_neg h]
theorem pAt_in {L : List Tk} {len i : Nat} (h : i < L.length) : pAt L len i = L[i].p := by unfold pAt; rw [dif_pos h]
theorem pAt_out {L : List Tk} {len i : Nat} (h : ¬ i < L.length) : pAt L len i = len := by unfold pAt; rw [dif_neg h]

abbrev Res := Option Nat
abbrev Res.ok : Res := none
abbrev Res.err (p : Nat) : Res := some p

def delta (t : ByteArray) : Int := if t = ⟨#[40]⟩ ∨ t = ⟨#[123]⟩ then 1 else if t = ⟨#[41]⟩ ∨ t = ⟨#[125]⟩ then -1 else 0

def kNAME : ByteArray := ⟨#[78, 65, 77, 69]⟩

def fits (x t : ByteArray) : Bool := decide (x = t) || (decide (x = ⟨#[78, 65, 77, 69]⟩) && isNameB t)

def roomB (W : List ByteArray) (op : Int) (i : Nat) : Bool := decide (W.length ≤ 5000) && decide (i ≤ 600) && decide (-600 ≤ op) && decide (op ≤ 6) && !(match W with | [] => false | x :: _ => decide (x = ⟨#[]⟩))

def runM (L : List Tk) (len : Nat) : Nat → List ByteArray → Int → Nat → Option Res
  | 0, _, _, _ => none
  | g + 1, W, op, i =>
    if roomB W op i then
      match W with
      | [] => some (if i < L.length then .err (pAt L len i) else .ok)
      | x :: R =>
        match ntOf x with
        | some n => runM L len g (becB n (tAt L i) ++ R) op i
        | none =>
          if fits x (tAt L i) then
            if op + delta (tAt L i) ≤ 6 then runM L len g R (op + delta (tAt L i)) (i + 1) else some (.err (pAt L len i))
          else some (.err (pAt L len i))
    else none

theorem room_of {L : List Tk} {len g : Nat} {W : List ByteArray} {op : Int} {i : Nat} {r : Res} (h : runM L len (g + 1) W op i = some r) : W.length ≤ 5000 ∧ i ≤ 600 ∧ -600 ≤ op ∧ op ≤ 6 := by
  rw [runM.eq_def] at h
  simp only at h
  by_cases hr : roomB W op i
  · unfold roomB at hr
    simp only [Bool.and_eq_true, decide_eq_true_iff] at hr
    omega
  · rw [if_neg hr] at h; cases h

theorem head_of {L : List Tk} {len g : Nat} {x : ByteArray} {R : List ByteArray} {op : Int} {i : Nat} {r : Res} (h : runM L len (g + 1) (x :: R) op i = some r) : ¬ x = ⟨#[]⟩ := by
  rw [runM.eq_def] at h
  simp only at h
  by_cases hr : roomB (x :: R) op i
  · unfold roomB at hr
    rw [Bool.and_eq_true] at hr
    simpa using hr.2
  · rw [if_neg hr] at h; cases h

theorem runM_nil {L : List Tk} {len g : Nat} {op : Int} {i : Nat} {r : Res} (h : runM L len (g + 1) [] op i = some r) : r = if i < L.length then .err (pAt L len i) else .ok := by
  have hr := room_of h
  rw [runM, if_pos (by unfold roomB; simp; omega)] at h
  exact (Option.some.inj h).symm
theorem runM_nt {L : List Tk} {len g : Nat} {x : ByteArray} {R : List ByteArray} {op : Int} {i : Nat} {n : NT} {r : Res} (h : runM L len (g + 1) (x :: R) op i = some r) (hx : ntOf x = some n) : runM L len g (becB n (tAt L i) ++ R) op i = some r := by
  rw [runM] at h
  by_cases hr : roomB (x :: R) op i
  · rw [if_pos hr] at h
    simp only [hx] at h
    exact h
  · rw [if_neg hr] at h; cases h
theorem runM_tok {L : List Tk} {len g : Nat} {x : ByteArray} {R : List ByteArray} {op : Int} {i : Nat} {r : Res} (h : runM L len (g + 1) (x :: R) op i = some r) (hx : ntOf x = none) :
    (if fits x (tAt L i) then
            if op + delta (tAt L i) ≤ 6 then runM L len g R (op + delta (tAt L i)) (i + 1) else some (.err (pAt L len i))
          else some (.err (pAt L len i))) = some r := by
  rw [runM] at h
  by_cases hr : roomB (x :: R) op i
  · rw [if_pos hr] at h
    simp only [hx] at h
    exact h
  · rw [if_neg hr] at h; cases h

theorem delta5 (t : ByteArray) : (t = ⟨#[40]⟩ ∧ delta t = 1) ∨ (t = ⟨#[123]⟩ ∧ delta t = 1) ∨ (t = ⟨#[41]⟩ ∧ delta t = -1) ∨ (t = ⟨#[125]⟩ ∧ delta t = -1) ∨ (¬ t = ⟨#[40]⟩ ∧ ¬ t = ⟨#[123]⟩ ∧ ¬ t = ⟨#[41]⟩ ∧ ¬ t = ⟨#[125]⟩ ∧ delta t = 0) := by
  by_cases a1 : t = ⟨#[40]⟩
  · subst a1; exact .inl ⟨rfl, by decide⟩
  by_cases a2 : t = ⟨#[123]⟩
  · subst a2; exact .inr (.inl ⟨rfl, by decide⟩)
  by_cases a3 : t = ⟨#[41]⟩
  · subst a3; exact .inr (.inr (.inl ⟨rfl, by decide⟩))
  by_cases a4 : t = ⟨#[125]⟩
  · subst a4; exact .inr (.inr (.inr (.inl ⟨rfl, by decide⟩)))
  refine .inr (.inr (.inr (.inr ⟨a1, a2, a3, a4, ?_⟩)))
  unfold delta
  rw [if_neg (fun h => h.elim a1 a2), if_neg (fun h => h.elim a3 a4)]

theorem fits_eq {x t : ByteArray} (h : x = t) : fits x t = true := by unfold fits; rw [decide_eq_true h]; rfl
theorem fits_name {x t : ByteArray} (h : x = ⟨#[78, 65, 77, 69]⟩) (hn : isNameB t = true) : fits x t = true := by unfold fits; rw [decide_eq_true h, hn, Bool.true_and, Bool.or_true]
theorem fits_no1 {x t : ByteArray} (h : ¬ x = t) (h2 : ¬ x = ⟨#[78, 65, 77, 69]⟩) : fits x t = false := by unfold fits; rw [decide_eq_false h, decide_eq_false h2]; rfl
theorem fits_no2 {x t : ByteArray} (h : ¬ x = t) (hn : isNameB t = false) : fits x t = false := by unfold fits; rw [decide_eq_false h, hn, Bool.and_false]; rfl

def startW : List ByteArray := [⟨#[83, 72, 65, 82, 69, 68]⟩, ⟨#[76, 79, 67, 75, 83]⟩, ⟨#[80, 82, 79, 67]⟩, ⟨#[80, 82, 79, 67, 83]⟩, ⟨#[116, 104, 114, 101, 97, 100, 115]⟩, ⟨#[78, 65, 77, 69, 83]⟩, ⟨#[59]⟩]

end RR
