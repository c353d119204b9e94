/- How a text is cut into tokens: plain functions. No Go here. -/
import Derived.Test.YtmfcpbhdggonfaaGreatDoorMgAA
import Derived.Test.YtmfcpbhdggonfaaGreatDoorMgAF
namespace RR

/-- The end of a row of letters from k on. -/
def byteAt (s : ByteArray) (k : Nat) : UInt8 := if h : k < s.size then s[k] else 0
theorem byteAt_eq {s : ByteArray} {k : Nat} (h : k < s.size) : byteAt s k = s[k] := by unfold byteAt; rw [dif_pos h]
def runG (s : ByteArray) : Nat → Nat
  | 0 => s.size
  | d + 1 => if isLetterB (byteAt s (s.size - (d + 1))) then runG s d else s.size - (d + 1)
def runF (s : ByteArray) (k : Nat) : Nat := if k < s.size then runG s (s.size - k) else k
theorem runF_eq (s : ByteArray) (k : Nat) : runF s k = if h : k < s.size then if isLetterB s[k] then runF s (k + 1) else k else k := by
  unfold runF
  by_cases hk : k < s.size
  · have e : s.size - k = (s.size - (k + 1)) + 1 := by omega
    have e2 : s.size - ((s.size - (k + 1)) + 1) = k := by omega
    rw [if_pos hk, dif_pos hk, e, runG, e2, byteAt_eq hk]
    by_cases hk2 : k + 1 < s.size
    · rw [if_pos hk2]
    · rw [if_neg hk2, show s.size - (k + 1) = 0 by omega, show k + 1 = s.size by omega]; rfl
  · rw [if_neg hk, dif_neg hk]

theorem runF_le (s : ByteArray) (k : Nat) (h : k ≤ s.size) : k ≤ runF s k ∧ runF s k ≤ s.size := by
  induction hn : s.size - k using Nat.strongRecOn generalizing k with
  | ind n ih =>
    rw [runF_eq]
    by_cases h1 : k < s.size
    · rw [dif_pos h1]
      by_cases h2 : isLetterB s[k]
      · rw [if_pos h2]
        have := ih (s.size - (k + 1)) (by omega) (k + 1) (by omega) rfl
        omega
      · rw [if_neg h2]; omega
    · rw [dif_neg h1]; omega

def signs : List ByteArray := [⟨#[59]⟩, ⟨#[44]⟩, ⟨#[61]⟩, ⟨#[33]⟩, ⟨#[38]⟩, ⟨#[124]⟩, ⟨#[63]⟩, ⟨#[40]⟩, ⟨#[41]⟩, ⟨#[123]⟩, ⟨#[125]⟩]

/-- The end of the token that begins at i. -/
def endAt (s : ByteArray) (i : Nat) (h : i < s.size) : Nat := if isLetterB s[i] then runF s (i + 1) else i + 1

theorem endAt_gt (s : ByteArray) (i : Nat) (h : i < s.size) : i < endAt s i h ∧ endAt s i h ≤ s.size := by
  unfold endAt
  by_cases h2 : isLetterB s[i]
  · rw [if_pos h2]; have := runF_le s (i + 1) (by omega); omega
  · rw [if_neg h2]; omega

/-- Does a token begin at i? -/
def okAt (s : ByteArray) (i : Nat) (h : i < s.size) : Bool := (isLetterB s[i] && decide (endAt s i h - i ≤ 8)) || memB signs (s.extract i (endAt s i h))

def blankB (c : UInt8) : Bool := decide (c.toNat = 32) || decide (c.toNat = 10)

/-- The tokens from i on, or the place at which none begins. -/
def lexN (s : ByteArray) : Nat → Nat → List Tk × Option Nat
  | 0, _ => ([], none)
  | n + 1, i =>
    if h : i < s.size then
      if blankB s[i] then lexN s n (i + 1)
      else if okAt s i h then (⟨s.extract i (endAt s i h), i⟩ :: (lexN s n (endAt s i h)).1, (lexN s n (endAt s i h)).2)
      else ([], some i)
    else ([], none)
theorem lexN_fuel (s : ByteArray) : ∀ n m i, s.size - i ≤ n → s.size - i ≤ m → lexN s n i = lexN s m i := by
  intro n
  induction n with
  | zero =>
    intro m i h1 _
    cases m with
    | zero => rfl
    | succ m => rw [lexN, lexN, dif_neg (by omega)]
  | succ n ih =>
    intro m i h1 h2
    cases m with
    | zero => rw [lexN, lexN, dif_neg (by omega)]
    | succ m =>
      rw [lexN, lexN]
      by_cases h : i < s.size
      · have hg := endAt_gt s i h
        rw [dif_pos h, dif_pos h, ih m (i + 1) (by omega) (by omega), ih m (endAt s i h) (by omega) (by omega)]
      · rw [dif_neg h, dif_neg h]
def lexF (s : ByteArray) (i : Nat) : List Tk × Option Nat := lexN s (s.size - i) i
theorem lexF_eq (s : ByteArray) (i : Nat) : lexF s i = if h : i < s.size then
    if blankB s[i] then lexF s (i + 1)
    else if okAt s i h then (⟨s.extract i (endAt s i h), i⟩ :: (lexF s (endAt s i h)).1, (lexF s (endAt s i h)).2)
    else ([], some i)
  else ([], none) := by
  unfold lexF
  by_cases h : i < s.size
  · have hg := endAt_gt s i h
    have e : s.size - i = (s.size - i - 1) + 1 := by omega
    rw [dif_pos h, e, lexN, dif_pos h, lexN_fuel s (s.size - i - 1) (s.size - (i + 1)) (i + 1) (by omega) (by omega), lexN_fuel s (s.size - i - 1) (s.size - endAt s i h) (endAt s i h) (by omega) (by omega)]
  · rw [dif_neg h, show s.size - i = 0 by omega, lexN]

theorem lexF_out {s : ByteArray} {i : Nat} (h : ¬ i < s.size) : lexF s i = ([], none) := by rw [lexF_eq, dif_neg h]
theorem lexF_blank {s : ByteArray} {i : Nat} (h : i < s.size) (hb : blankB s[i] = true) : lexF s i = lexF s (i + 1) := by rw [lexF_eq, dif_pos h, if_pos hb]
theorem lexF_bad {s : ByteArray} {i : Nat} (h : i < s.size) (hb : blankB s[i] = false) (ho : okAt s i h = false) : lexF s i = ([], some i) := by rw [lexF_eq, dif_pos h, hb, ho]; rfl
theorem lexF_ok {s : ByteArray} {i : Nat} (h : i < s.size) (hb : blankB s[i] = false) (ho : okAt s i h = true) : lexF s i = (⟨s.extract i (endAt s i h), i⟩ :: (lexF s (endAt s i h)).1, (lexF s (endAt s i h)).2) := by
  rw [lexF_eq, dif_pos h, hb, ho]; rfl

theorem ext_size (s : ByteArray) (i k : Nat) (h : i ≤ k) (hk : k ≤ s.size) : (s.extract i k).size = k - i := by
  rw [ByteArray.size_extract]; omega
theorem ext_first (s : ByteArray) (i k : Nat) (h : i < k) (hk : k ≤ s.size) (h' : 0 < (s.extract i k).size) : (s.extract i k)[0] = s[i] := by
  rw [ByteArray.getElem_extract]; rfl

theorem runF_yes {s : ByteArray} {k : Nat} (h : k < s.size) (h2 : isLetterB s[k] = true) : runF s k = runF s (k + 1) := by rw [runF_eq, dif_pos h, if_pos h2]
theorem runF_no {s : ByteArray} {k : Nat} (h : k < s.size) (h2 : isLetterB s[k] = false) : runF s k = k := by rw [runF_eq, dif_pos h, h2]; rfl
theorem runF_out {s : ByteArray} {k : Nat} (h : ¬ k < s.size) : runF s k = k := by rw [runF_eq, dif_neg h]

theorem lexF_len (s : ByteArray) (i : Nat) : (lexF s i).1.length ≤ s.size - i := by
  induction hn : s.size - i using Nat.strongRecOn generalizing i with
  | ind n ih =>
    by_cases h : i < s.size
    · cases hb : blankB s[i]
      · cases ho : okAt s i h
        · rw [lexF_bad h hb ho]; exact Nat.zero_le _
        · rw [lexF_ok h hb ho]
          have := endAt_gt s i h
          have := ih (s.size - endAt s i h) (by omega) (endAt s i h) rfl
          show (_ :: _).length ≤ _
          rw [List.length_cons]; omega
      · rw [lexF_blank h hb]
        have := ih (s.size - (i + 1)) (by omega) (i + 1) rfl
        omega
    · rw [lexF_out h]; exact Nat.zero_le _

end RR

/- The contract of the reference's 'Tokens'. -/
namespace Go.Proofs.YtmfcpbhdggonfaaGreatDoor
open Go.RowKit RR

theorem Tryz.infoTok : (Tryz.prog.info? 90).map (fun i => (i.zero, i.size, i.bytes)) = some (some (.agg #[.string ⟨#[]⟩, .int .i64 0]), 2, 24) := by kernel_rfl

def toks : List Tk → List Value
  | [] => []
  | t :: r => .string t.t :: .int .i64 t.p :: toks r
theorem toks_append (a b : List Tk) : toks (a ++ b) = toks a ++ toks b := by
  induction a with
  | nil => rfl
  | cons t r ih => show _ :: _ :: toks (r ++ b) = _; rw [ih]; rfl
theorem toks_length (a : List Tk) : (toks a).length = a.length * 2 := by
  induction a with
  | nil => rfl
  | cons t r ih => show (toks r).length + 1 + 1 = _; rw [ih, List.length_cons]; omega
theorem toks_get (a : List Tk) (i : Nat) (h : i < a.length) : (toks a)[i * 2]? = some (.string a[i].t) ∧ (toks a)[i * 2 + 1]? = some (.int .i64 a[i].p) := by
  induction a generalizing i with
  | nil => cases h
  | cons t r ih =>
    cases i with
    | zero => exact ⟨rfl, rfl⟩
    | succ k =>
      have := ih k (by simpa using h)
      rw [show (k + 1) * 2 = k * 2 + 1 + 1 from by omega]
      exact this

theorem two_cells {w : World} {T : TypeId} {x y : Value} : ∀ (j : Nat) (u : Value), [x, y][j]? = some u → (w.alloc (.cells #[x, y] T)).cell? ((⟨w.heap.size, 0, none⟩ : Addr).add j) = some u := by
  intro j u hj
  have hh : (w.alloc (.cells #[x, y] T)).heap[w.heap.size]? = some (.cells #[x, y] T) := heap_alloc_new w _
  rw [addr_add]
  match j, hj with
  | 0, hj => simp only [World.cell?, hh]; exact hj
  | 1, hj => simp only [World.cell?, hh]; exact hj

/-- l = append(l, Token{t, p}). -/
theorem app_tok {ops : Array Oper} {rest : List Oper} {o : Oper} {a : Act} {Q : Exit → Act → World → Prop} {w0 : World} {B : Nat} {v : Value} {l : List Tk} (t : ByteArray) (p : Nat)
    (hown : w0.ownsRow B 90 2 v l.length (toks l)) (hl : l.length ≤ 100000) (hB : B ≤ w0.heap.size) (hgd : o.guard = none) (s x : Operand)
    (ho : o.op = .call { callee := .builtin .append, args := #[s, x], argTypes := #[69, 69] }) (hs : a.eval s = v)
    (hx : a.eval x = .slice (some ⟨w0.heap.size, 0, none⟩) 1 1)
    (h : ∀ v' w', w'.ownsRow B 90 2 v' (l ++ [(⟨t, p⟩ : Tk)]).length (toks (l ++ [(⟨t, p⟩ : Tk)])) → (∀ a0, Below B a0 w0 → Below B a0 w') → wpList Tryz.prog ops Q rest (a.put o.dst v') w') :
    wpList Tryz.prog ops Q (o :: rest) a (w0.alloc (.cells #[.string t, .int .i64 p] 90)) := by
  obtain ⟨i0, hi0, hz0, hz1, hz2⟩ := info_parts Tryz.infoTok
  refine wpList_append_own _ hgd s x 69 ho B 90 i0 (.agg #[.string ⟨#[]⟩, .int .i64 0]) 2 24 Tryz.underlying69 hi0 hz0 hz1 hz2 rfl (by decide) v l.length (toks l) hs (hown.alloc _) ⟨w0.heap.size, 0, none⟩ 1 1 [.string t, .int .i64 p] hx rfl two_cells ?_ (by unfold maxLen; omega) (by omega) (by simp; omega) ?_
  · intro u hu
    rcases List.mem_cons.1 hu with rfl | hu
    · rfl
    · rcases List.mem_cons.1 hu with rfl | hu
      · rfl
      · cases hu
  · intro v' w' h1 h2 _
    refine h v' w' ?_ fun a0 h0 => (h0.alloc hB _).grown h2 (by simp; omega) fun k hk => (hown.lt k hk).1
    rw [toks_append, List.length_append]; exact h1

theorem below_of_eq0 {w w' : World} (h : w' = w) : Below w.heap.size w w' := by subst h; exact Below.refl _ _

/-- A slice of tokens, nil or not. -/
def TokSl (w : World) (ao : Option Addr) (L : List Tk) : Prop := L = [] ∨ ∃ b o, ao = some ⟨b, o, none⟩ ∧ ToksAt w b o L

theorem tokSl_of_owns {w : World} {base : Nat} {v : Value} {l : List Tk} (h : w.ownsRow base 90 2 v l.length (toks l)) : ∃ ao cap, v = .slice ao l.length cap ∧ TokSl w ao l := by
  obtain ⟨h1, h2 | ⟨g, cap, cur, hv, hb, hh, hcap, hmax, hsz, htk⟩⟩ := h
  · exact ⟨none, 0, by rw [h2.1, h2.2], .inl (List.length_eq_zero_iff.1 h2.2)⟩
  · refine ⟨some ⟨g, 0, none⟩, cap, hv, .inr ⟨g, 0, rfl, (Array.getElem?_eq_some_iff.1 hh).1, fun i hi => ?_⟩⟩
    have key : ∀ j, j < l.length * 2 → w.cell? ⟨g, 0 + j, none⟩ = (toks l)[j]? := by
      intro j hj
      have e2 : (cur.toList.take (l.length * 2))[j]? = (toks l)[j]? := by rw [htk]
      rw [List.getElem?_take_of_lt hj, Array.getElem?_toList] at e2
      simp only [World.cell?, hh, Nat.zero_add]
      exact e2
    have := toks_get l i hi
    exact ⟨(key (i * 2) (by omega)).trans this.1, (key (i * 2 + 1) (by omega)).trans this.2⟩

theorem signs_at {w : World} : StrsAt (w.alloc (.cells #[.string ⟨#[59]⟩, .string ⟨#[44]⟩, .string ⟨#[61]⟩, .string ⟨#[33]⟩, .string ⟨#[38]⟩, .string ⟨#[124]⟩, .string ⟨#[63]⟩, .string ⟨#[40]⟩, .string ⟨#[41]⟩, .string ⟨#[123]⟩, .string ⟨#[125]⟩] 9)) w.heap.size 0 signs :=
  strs_alloc signs _ rfl

theorem endAt_letter {s : ByteArray} {i : Nat} (h : i < s.size) (hL : isLetterB s[i] = true) : endAt s i h = runF s (i + 1) := by unfold endAt; rw [if_pos hL]
theorem endAt_other {s : ByteArray} {i : Nat} (h : i < s.size) (hL : isLetterB s[i] = false) : endAt s i h = i + 1 := by unfold endAt; rw [hL]; rfl

set_option maxRecDepth 100000 in
set_option maxHeartbeats 1000000 in
theorem r_tokens (s : ByteArray) (w : World) (hs : s.size ≤ 500) :
    Calls Tryz.prog 75 #[.string s] w fun e w' => ((lexF s 0).2 = none ∧ ∃ ao cap, e = .returned (.tuple #[.slice ao (lexF s 0).1.length cap, .int .i64 (-1)]) ∧ TokSl w' ao (lexF s 0).1 ∧ Below w.heap.size w w') ∨ (∃ p : Nat, (lexF s 0).2 = some p ∧ e = .returned (.tuple #[.slice none 0 0, .int .i64 p]) ∧ Below w.heap.size w w') := by
  go_enter Tryz.func75, Tryz.ntmps75
  go_wp2_with fail
  go_loopw [4, 5] (fun v u wr => ∃ (i : Nat) (acc : List Tk), u = .int .i64 i ∧ i ≤ s.size ∧ acc.length ≤ i ∧ (acc ++ (lexF s i).1, (lexF s i).2) = lexF s 0 ∧ wr.ownsRow w.heap.size 90 2 v acc.length (toks acc) ∧ Below w.heap.size w wr) (fun _ u _ => s.size - (intOf u).toNat)
  case atStart => exact ⟨0, [], rfl, Nat.zero_le _, Nat.zero_le _, rfl, World.ownsRow_nil _ _ _ _, Below.refl _ _⟩
  case round =>
    obtain ⟨i, acc, rfl, hi, hacc, hn, hown, hbel⟩ := hrel
    have HN := hide hn
    clear hn
    by_cases hlt : i < s.size
    · by_cases h32 : (s[i].toNat : Int) = 32
      · have HB : Hid (blankB s[i] = true) := by show _ = _; unfold blankB; rw [decide_eq_true (by omega : s[i].toNat = 32)]; rfl
        have h32' : ((s[i].toNat : Int) == 32) = true := beq_iff_eq.2 h32
        have HE := hide (lexF_blank hlt HB.out)
        clear h32
        go_wp2_with fail
        go_roundw
        case rel => exact ⟨i + 1, acc, by go_num, by omega, by omega, by rw [← HN.out, HE.out], hown, hbel⟩
        case measure => simp [intOf]; omega
      · have h32' : ((s[i].toNat : Int) == 32) = false := beq_eq_false_iff_ne.2 h32
        by_cases h10 : (s[i].toNat : Int) = 10
        · have HB : Hid (blankB s[i] = true) := by show _ = _; unfold blankB; rw [decide_eq_true (by omega : s[i].toNat = 10), Bool.or_true]
          have h10' : ((s[i].toNat : Int) == 10) = true := beq_iff_eq.2 h10
          have HE := hide (lexF_blank hlt HB.out)
          clear h10 h32
          go_wp2_with fail
          go_roundw
          case rel => exact ⟨i + 1, acc, by go_num, by omega, by omega, by rw [← HN.out, HE.out], hown, hbel⟩
          case measure => simp [intOf]; omega
        · have HB : Hid (blankB s[i] = false) := by show _ = _; unfold blankB; rw [decide_eq_false (by omega : ¬ s[i].toNat = 32), decide_eq_false (by omega : ¬ s[i].toNat = 10)]; rfl
          have h10' : ((s[i].toNat : Int) == 10) = false := beq_eq_false_iff_ne.2 h10
          clear h10 h32
          go_wp2_with fail
          go_loop [6] (fun u => ∃ k : Nat, u = .int .i64 k ∧ i + 1 ≤ k ∧ k ≤ s.size ∧ (isLetterB s[i] = true → runF s (i + 1) = runF s k) ∧ (isLetterB s[i] = false → k = i + 1)) (fun u => s.size - (intOf u).toNat)
          case atStart => exact ⟨i + 1, by go_num, by omega, by omega, fun _ => rfl, fun _ => rfl⟩
          case round =>
            obtain ⟨k, rfl, hk1, hk2, hr1, hr2⟩ := hrel
            cases hL : isLetterB s[i]
            · have hke := hr2 hL
              have HD : Hid (endAt s i hlt = k) := by show _ = _; rw [endAt_other hlt hL]; exact hke.symm
              clear hr1 hr2 hke
              go_wp2_with fail
              refine (r_isLetter s[i] _).mono ?_
              rintro e w' ⟨rfl, hw'⟩
              subst hw'
              have hei : endAt s i hlt = k := HD.out
              have hex : (s.extract i k).size = k - i := ext_size s i k (by omega) hk2
              have hF : ∀ h', isLetterB ((s.extract i k)[0]'h') = false := fun h' => by rw [ext_first s i k (by omega) hk2]; exact hL
              have HX := hide hex
              clear hei hex
              go_wp2_with fail
              refine (r_isLetter _ _).mono ?_
              rintro e w1 ⟨rfl, hw1⟩
              subst hw1
              cases hS : memB signs (s.extract i k)
              · have HOK : Hid (okAt s i hlt = false) := by show _ = _; unfold okAt; rw [hL, HD.out, hS]; rfl
                have HE := hide (lexF_bad hlt HB.out HOK.out)
                go_wp2_with fail
                refine (r_in (s.extract i k) _ _ _ signs _ (by decide) signs_at).mono ?_
                rintro e w2 ⟨rfl, hw2⟩
                have hb2 := below_of_eq0 hw2
                have hown2 := owns_below (hown.alloc _) hb2
                have hbel2 := (hbel.alloc hbel.size _).trans (hb2.mono (Nat.le_trans hbel.size (by simp)))
                clear hw2
                go_wp2_with fail
                go_ret2
                exact .inr ⟨i, by rw [← HN.out, HE.out], rfl, hbel2⟩
              · have HOK : Hid (okAt s i hlt = true) := by show _ = _; unfold okAt; rw [hL, HD.out, hS]; rfl
                have HE := hide (lexF_ok hlt HB.out HOK.out)
                go_wp2_with fail
                refine (r_in (s.extract i k) _ _ _ signs _ (by decide) signs_at).mono ?_
                rintro e w2 ⟨rfl, hw2⟩
                have hb2 := below_of_eq0 hw2
                have hown2 := owns_below (hown.alloc _) hb2
                have hbel2 := (hbel.alloc hbel.size _).trans (hb2.mono (Nat.le_trans hbel.size (by simp)))
                clear hw2
                go_wp2_with (at_builtin; refine app_tok (s.extract i k) i hown2 (by omega) hbel2.size rfl _ _ rfl rfl rfl ?_; intro v3 w3 hown3 hb3)
                go_roundw
                case rel => exact ⟨k, acc ++ [⟨s.extract i k, i⟩], rfl, by omega, by simp; omega, by rw [← HN.out, HE.out, HD.out, List.append_assoc]; rfl, hown3, hb3 _ hbel2⟩
                case measure => simp [intOf]; omega
            · have hru := hr1 hL
              clear hr1 hr2
              by_cases hks : k < s.size
              · cases hL2 : isLetterB s[k]
                · have HD : Hid (endAt s i hlt = k) := by show _ = _; rw [endAt_letter hlt hL, hru, runF_no hks hL2]
                  clear hru
                  go_wp2_with fail
                  refine (r_isLetter s[i] _).mono ?_
                  rintro e w' ⟨rfl, hw'⟩
                  subst hw'
                  go_wp2_with fail
                  refine (r_isLetter s[k] _).mono ?_
                  rintro e w' ⟨rfl, hw'⟩
                  subst hw'
                  have hei : endAt s i hlt = k := HD.out
                  have hex : (s.extract i k).size = k - i := ext_size s i k (by omega) hk2
                  have hF : ∀ h', isLetterB ((s.extract i k)[0]'h') = true := fun h' => by rw [ext_first s i k (by omega) hk2]; exact hL
                  have HX := hide hex
                  clear hei hex
                  go_wp2_with fail
                  refine (r_isLetter _ _).mono ?_
                  rintro e w1 ⟨rfl, hw1⟩
                  subst hw1
                  by_cases h8 : (k : Int) - i ≤ 8
                  · have h8d : decide (k - i ≤ 8) = true := decide_eq_true (by omega)
                    have h8s : decide (((k - i : Nat) : Int) ≤ 8) = true := decide_eq_true (by omega)
                    cases hS : memB signs (s.extract i k)
                    · have HOK : Hid (okAt s i hlt = true) := by show _ = _; unfold okAt; rw [hL, HD.out, hS, h8d]; rfl
                      have HE := hide (lexF_ok hlt HB.out HOK.out)
                      go_wp2_with fail
                      refine (r_in (s.extract i k) _ _ _ signs _ (by decide) signs_at).mono ?_
                      rintro e w2 ⟨rfl, hw2⟩
                      have hb2 := below_of_eq0 hw2
                      have hown2 := owns_below (hown.alloc _) hb2
                      have hbel2 := (hbel.alloc hbel.size _).trans (hb2.mono (Nat.le_trans hbel.size (by simp)))
                      clear hw2
                      go_wp2_with (at_builtin; refine app_tok (s.extract i k) i hown2 (by omega) hbel2.size rfl _ _ rfl rfl rfl ?_; intro v3 w3 hown3 hb3)
                      go_roundw
                      case rel => exact ⟨k, acc ++ [⟨s.extract i k, i⟩], rfl, by omega, by simp; omega, by rw [← HN.out, HE.out, HD.out, List.append_assoc]; rfl, hown3, hb3 _ hbel2⟩
                      case measure => simp [intOf]; omega
                    · have HOK : Hid (okAt s i hlt = true) := by show _ = _; unfold okAt; rw [hL, HD.out, hS, h8d]; rfl
                      have HE := hide (lexF_ok hlt HB.out HOK.out)
                      go_wp2_with fail
                      refine (r_in (s.extract i k) _ _ _ signs _ (by decide) signs_at).mono ?_
                      rintro e w2 ⟨rfl, hw2⟩
                      have hb2 := below_of_eq0 hw2
                      have hown2 := owns_below (hown.alloc _) hb2
                      have hbel2 := (hbel.alloc hbel.size _).trans (hb2.mono (Nat.le_trans hbel.size (by simp)))
                      clear hw2
                      go_wp2_with (at_builtin; refine app_tok (s.extract i k) i hown2 (by omega) hbel2.size rfl _ _ rfl rfl rfl ?_; intro v3 w3 hown3 hb3)
                      go_roundw
                      case rel => exact ⟨k, acc ++ [⟨s.extract i k, i⟩], rfl, by omega, by simp; omega, by rw [← HN.out, HE.out, HD.out, List.append_assoc]; rfl, hown3, hb3 _ hbel2⟩
                      case measure => simp [intOf]; omega
                  · have h8d : decide (k - i ≤ 8) = false := decide_eq_false (by omega)
                    have h8s : decide (((k - i : Nat) : Int) ≤ 8) = false := decide_eq_false (by omega)
                    cases hS : memB signs (s.extract i k)
                    · have HOK : Hid (okAt s i hlt = false) := by show _ = _; unfold okAt; rw [hL, HD.out, hS, h8d]; rfl
                      have HE := hide (lexF_bad hlt HB.out HOK.out)
                      go_wp2_with fail
                      refine (r_in (s.extract i k) _ _ _ signs _ (by decide) signs_at).mono ?_
                      rintro e w2 ⟨rfl, hw2⟩
                      have hb2 := below_of_eq0 hw2
                      have hown2 := owns_below (hown.alloc _) hb2
                      have hbel2 := (hbel.alloc hbel.size _).trans (hb2.mono (Nat.le_trans hbel.size (by simp)))
                      clear hw2
                      go_wp2_with fail
                      go_ret2
                      exact .inr ⟨i, by rw [← HN.out, HE.out], rfl, hbel2⟩
                    · have HOK : Hid (okAt s i hlt = true) := by show _ = _; unfold okAt; rw [hL, HD.out, hS, h8d]; rfl
                      have HE := hide (lexF_ok hlt HB.out HOK.out)
                      go_wp2_with fail
                      refine (r_in (s.extract i k) _ _ _ signs _ (by decide) signs_at).mono ?_
                      rintro e w2 ⟨rfl, hw2⟩
                      have hb2 := below_of_eq0 hw2
                      have hown2 := owns_below (hown.alloc _) hb2
                      have hbel2 := (hbel.alloc hbel.size _).trans (hb2.mono (Nat.le_trans hbel.size (by simp)))
                      clear hw2
                      go_wp2_with (at_builtin; refine app_tok (s.extract i k) i hown2 (by omega) hbel2.size rfl _ _ rfl rfl rfl ?_; intro v3 w3 hown3 hb3)
                      go_roundw
                      case rel => exact ⟨k, acc ++ [⟨s.extract i k, i⟩], rfl, by omega, by simp; omega, by rw [← HN.out, HE.out, HD.out, List.append_assoc]; rfl, hown3, hb3 _ hbel2⟩
                      case measure => simp [intOf]; omega
                · have HRU : Hid (runF s (i + 1) = runF s (k + 1)) := by show _ = _; rw [hru, runF_yes hks hL2]
                  clear hru
                  go_wp2_with fail
                  refine (r_isLetter s[i] _).mono ?_
                  rintro e w' ⟨rfl, hw'⟩
                  subst hw'
                  go_wp2_with fail
                  refine (r_isLetter s[k] _).mono ?_
                  rintro e w' ⟨rfl, hw'⟩
                  subst hw'
                  go_wp2_with fail
                  go_round
                  case rel => exact ⟨k + 1, by go_num, by omega, by omega, fun _ => HRU.out, fun h => absurd h (by decide)⟩
                  case measure => simp [intOf]; omega
              · have HD : Hid (endAt s i hlt = k) := by show _ = _; rw [endAt_letter hlt hL, hru, runF_out hks]
                clear hru
                go_wp2_with fail
                refine (r_isLetter s[i] _).mono ?_
                rintro e w' ⟨rfl, hw'⟩
                subst hw'
                have hei : endAt s i hlt = k := HD.out
                have hex : (s.extract i k).size = k - i := ext_size s i k (by omega) hk2
                have hF : ∀ h', isLetterB ((s.extract i k)[0]'h') = true := fun h' => by rw [ext_first s i k (by omega) hk2]; exact hL
                have HX := hide hex
                clear hei hex
                go_wp2_with fail
                refine (r_isLetter _ _).mono ?_
                rintro e w1 ⟨rfl, hw1⟩
                subst hw1
                by_cases h8 : (k : Int) - i ≤ 8
                · have h8d : decide (k - i ≤ 8) = true := decide_eq_true (by omega)
                  have h8s : decide (((k - i : Nat) : Int) ≤ 8) = true := decide_eq_true (by omega)
                  cases hS : memB signs (s.extract i k)
                  · have HOK : Hid (okAt s i hlt = true) := by show _ = _; unfold okAt; rw [hL, HD.out, hS, h8d]; rfl
                    have HE := hide (lexF_ok hlt HB.out HOK.out)
                    go_wp2_with fail
                    refine (r_in (s.extract i k) _ _ _ signs _ (by decide) signs_at).mono ?_
                    rintro e w2 ⟨rfl, hw2⟩
                    have hb2 := below_of_eq0 hw2
                    have hown2 := owns_below (hown.alloc _) hb2
                    have hbel2 := (hbel.alloc hbel.size _).trans (hb2.mono (Nat.le_trans hbel.size (by simp)))
                    clear hw2
                    go_wp2_with (at_builtin; refine app_tok (s.extract i k) i hown2 (by omega) hbel2.size rfl _ _ rfl rfl rfl ?_; intro v3 w3 hown3 hb3)
                    go_roundw
                    case rel => exact ⟨k, acc ++ [⟨s.extract i k, i⟩], rfl, by omega, by simp; omega, by rw [← HN.out, HE.out, HD.out, List.append_assoc]; rfl, hown3, hb3 _ hbel2⟩
                    case measure => simp [intOf]; omega
                  · have HOK : Hid (okAt s i hlt = true) := by show _ = _; unfold okAt; rw [hL, HD.out, hS, h8d]; rfl
                    have HE := hide (lexF_ok hlt HB.out HOK.out)
                    go_wp2_with fail
                    refine (r_in (s.extract i k) _ _ _ signs _ (by decide) signs_at).mono ?_
                    rintro e w2 ⟨rfl, hw2⟩
                    have hb2 := below_of_eq0 hw2
                    have hown2 := owns_below (hown.alloc _) hb2
                    have hbel2 := (hbel.alloc hbel.size _).trans (hb2.mono (Nat.le_trans hbel.size (by simp)))
                    clear hw2
                    go_wp2_with (at_builtin; refine app_tok (s.extract i k) i hown2 (by omega) hbel2.size rfl _ _ rfl rfl rfl ?_; intro v3 w3 hown3 hb3)
                    go_roundw
                    case rel => exact ⟨k, acc ++ [⟨s.extract i k, i⟩], rfl, by omega, by simp; omega, by rw [← HN.out, HE.out, HD.out, List.append_assoc]; rfl, hown3, hb3 _ hbel2⟩
                    case measure => simp [intOf]; omega
                · have h8d : decide (k - i ≤ 8) = false := decide_eq_false (by omega)
                  have h8s : decide (((k - i : Nat) : Int) ≤ 8) = false := decide_eq_false (by omega)
                  cases hS : memB signs (s.extract i k)
                  · have HOK : Hid (okAt s i hlt = false) := by show _ = _; unfold okAt; rw [hL, HD.out, hS, h8d]; rfl
                    have HE := hide (lexF_bad hlt HB.out HOK.out)
                    go_wp2_with fail
                    refine (r_in (s.extract i k) _ _ _ signs _ (by decide) signs_at).mono ?_
                    rintro e w2 ⟨rfl, hw2⟩
                    have hb2 := below_of_eq0 hw2
                    have hown2 := owns_below (hown.alloc _) hb2
                    have hbel2 := (hbel.alloc hbel.size _).trans (hb2.mono (Nat.le_trans hbel.size (by simp)))
                    clear hw2
                    go_wp2_with fail
                    go_ret2
                    exact .inr ⟨i, by rw [← HN.out, HE.out], rfl, hbel2⟩
                  · have HOK : Hid (okAt s i hlt = true) := by show _ = _; unfold okAt; rw [hL, HD.out, hS, h8d]; rfl
                    have HE := hide (lexF_ok hlt HB.out HOK.out)
                    go_wp2_with fail
                    refine (r_in (s.extract i k) _ _ _ signs _ (by decide) signs_at).mono ?_
                    rintro e w2 ⟨rfl, hw2⟩
                    have hb2 := below_of_eq0 hw2
                    have hown2 := owns_below (hown.alloc _) hb2
                    have hbel2 := (hbel.alloc hbel.size _).trans (hb2.mono (Nat.le_trans hbel.size (by simp)))
                    clear hw2
                    go_wp2_with (at_builtin; refine app_tok (s.extract i k) i hown2 (by omega) hbel2.size rfl _ _ rfl rfl rfl ?_; intro v3 w3 hown3 hb3)
                    go_roundw
                    case rel => exact ⟨k, acc ++ [⟨s.extract i k, i⟩], rfl, by omega, by simp; omega, by rw [← HN.out, HE.out, HD.out, List.append_assoc]; rfl, hown3, hb3 _ hbel2⟩
                    case measure => simp [intOf]; omega
    · have HE := hide (lexF_out hlt)
      go_wp2_with fail
      go_ret2
      obtain ⟨ao, cap, hv, hsl⟩ := tokSl_of_owns hown
      have he : lexF s 0 = (acc, none) := by rw [← HN.out, HE.out, List.append_nil]
      refine .inl ⟨by rw [he], ao, cap, ?_, by rw [he]; exact hsl, hbel⟩
      rw [he]; exact congrArg (fun v => Ending.returned (.tuple #[v, .int .i64 (-1)])) hv
end Go.Proofs.YtmfcpbhdggonfaaGreatDoor

/- Contracts of the program's package token. -/
namespace Go.Proofs.YtmfcpbhdggonfaaGreatDoor
open Go.RowKit RR

set_option maxHeartbeats 400000 in
theorem t_isLetter (c : UInt8) (w : World) :
    Calls Tryz.prog 175 #[.int .u8 c.toNat] w fun e w' => e = .returned (.bool (isLetterB c)) ∧ w' = w := by
  go_enter Tryz.func175, Tryz.ntmps175
  go_wp2
  all_goals
    go_ret
    refine ⟨ret_bool ?_, rfl⟩
    unfold isLetterB
    rw [Bool.eq_iff_iff]; simp; try omega

set_option maxHeartbeats 400000 in
theorem t_isBlank (c : UInt8) (w : World) :
    Calls Tryz.prog 133 #[.int .u8 c.toNat] w fun e w' => e = .returned (.bool (blankB c)) ∧ w' = w := by
  go_enter Tryz.func133, Tryz.ntmps133
  by_cases h : (c.toNat : Int) = 32
  · have h' : ((c.toNat : Int) == 32) = true := beq_iff_eq.2 h
    have HB : Hid (blankB c = true) := by show _ = _; unfold blankB; rw [decide_eq_true (by omega : c.toNat = 32)]; rfl
    clear h
    go_wp2
    go_ret
    exact ⟨ret_bool HB.out.symm, rfl⟩
  · have h' : ((c.toNat : Int) == 32) = false := beq_eq_false_iff_ne.2 h
    by_cases h2 : (c.toNat : Int) = 10
    · have h2' : ((c.toNat : Int) == 10) = true := beq_iff_eq.2 h2
      have HB : Hid (blankB c = true) := by show _ = _; unfold blankB; rw [decide_eq_true (by omega : c.toNat = 10), Bool.or_true]
      clear h h2
      go_wp2
      go_ret
      exact ⟨ret_bool HB.out.symm, rfl⟩
    · have h2' : ((c.toNat : Int) == 10) = false := beq_eq_false_iff_ne.2 h2
      have HB : Hid (blankB c = false) := by show _ = _; unfold blankB; rw [decide_eq_false (by omega : ¬ c.toNat = 32), decide_eq_false (by omega : ¬ c.toNat = 10)]; rfl
      clear h h2
      go_wp2
      go_ret
      exact ⟨ret_bool HB.out.symm, rfl⟩

def signB (c : UInt8) : Bool := decide (c.toNat = 59) || decide (c.toNat = 44) || decide (c.toNat = 61) || decide (c.toNat = 33) || decide (c.toNat = 38) || decide (c.toNat = 124) || decide (c.toNat = 63) || decide (c.toNat = 40) || decide (c.toNat = 41) || decide (c.toNat = 123) || decide (c.toNat = 125)

set_option maxRecDepth 100000 in
set_option maxHeartbeats 2000000 in
theorem t_isSign (s : ByteArray) (i : Nat) (w : World) (_hs : s.size ≤ 500) (hi : i < s.size) :
    Calls Tryz.prog 174 #[.string s, .int .i64 i] w fun e w' => e = .returned (.bool (signB s[i])) ∧ w' = w := by
  have hi' : (i : Int) < s.size := by omega
  by_cases e0 : (s[i].toNat : Int) = 59
  · have f0 : ((s[i].toNat : Int) == 59) = true := beq_iff_eq.2 e0
    have HB : Hid (signB s[i] = true) := by show _ = _; unfold signB; simp; omega
    clear e0
    go_enter Tryz.func174, Tryz.ntmps174
    go_wp2
    go_ret
    exact ⟨ret_bool HB.out.symm, rfl⟩
  by_cases e1 : (s[i].toNat : Int) = 44
  · have f1 : ((s[i].toNat : Int) == 44) = true := beq_iff_eq.2 e1
    have HB : Hid (signB s[i] = true) := by show _ = _; unfold signB; simp; omega
    have f0 : ((s[i].toNat : Int) == 59) = false := beq_eq_false_iff_ne.2 e0
    clear e0 e1
    go_enter Tryz.func174, Tryz.ntmps174
    go_wp2
    go_ret
    exact ⟨ret_bool HB.out.symm, rfl⟩
  by_cases e2 : (s[i].toNat : Int) = 61
  · have f2 : ((s[i].toNat : Int) == 61) = true := beq_iff_eq.2 e2
    have HB : Hid (signB s[i] = true) := by show _ = _; unfold signB; simp; omega
    have f0 : ((s[i].toNat : Int) == 59) = false := beq_eq_false_iff_ne.2 e0
    have f1 : ((s[i].toNat : Int) == 44) = false := beq_eq_false_iff_ne.2 e1
    clear e0 e1 e2
    go_enter Tryz.func174, Tryz.ntmps174
    go_wp2
    go_ret
    exact ⟨ret_bool HB.out.symm, rfl⟩
  by_cases e3 : (s[i].toNat : Int) = 33
  · have f3 : ((s[i].toNat : Int) == 33) = true := beq_iff_eq.2 e3
    have HB : Hid (signB s[i] = true) := by show _ = _; unfold signB; simp; omega
    have f0 : ((s[i].toNat : Int) == 59) = false := beq_eq_false_iff_ne.2 e0
    have f1 : ((s[i].toNat : Int) == 44) = false := beq_eq_false_iff_ne.2 e1
    have f2 : ((s[i].toNat : Int) == 61) = false := beq_eq_false_iff_ne.2 e2
    clear e0 e1 e2 e3
    go_enter Tryz.func174, Tryz.ntmps174
    go_wp2
    go_ret
    exact ⟨ret_bool HB.out.symm, rfl⟩
  by_cases e4 : (s[i].toNat : Int) = 38
  · have f4 : ((s[i].toNat : Int) == 38) = true := beq_iff_eq.2 e4
    have HB : Hid (signB s[i] = true) := by show _ = _; unfold signB; simp; omega
    have f0 : ((s[i].toNat : Int) == 59) = false := beq_eq_false_iff_ne.2 e0
    have f1 : ((s[i].toNat : Int) == 44) = false := beq_eq_false_iff_ne.2 e1
    have f2 : ((s[i].toNat : Int) == 61) = false := beq_eq_false_iff_ne.2 e2
    have f3 : ((s[i].toNat : Int) == 33) = false := beq_eq_false_iff_ne.2 e3
    clear e0 e1 e2 e3 e4
    go_enter Tryz.func174, Tryz.ntmps174
    go_wp2
    go_ret
    exact ⟨ret_bool HB.out.symm, rfl⟩
  by_cases e5 : (s[i].toNat : Int) = 124
  · have f5 : ((s[i].toNat : Int) == 124) = true := beq_iff_eq.2 e5
    have HB : Hid (signB s[i] = true) := by show _ = _; unfold signB; simp; omega
    have f0 : ((s[i].toNat : Int) == 59) = false := beq_eq_false_iff_ne.2 e0
    have f1 : ((s[i].toNat : Int) == 44) = false := beq_eq_false_iff_ne.2 e1
    have f2 : ((s[i].toNat : Int) == 61) = false := beq_eq_false_iff_ne.2 e2
    have f3 : ((s[i].toNat : Int) == 33) = false := beq_eq_false_iff_ne.2 e3
    have f4 : ((s[i].toNat : Int) == 38) = false := beq_eq_false_iff_ne.2 e4
    clear e0 e1 e2 e3 e4 e5
    go_enter Tryz.func174, Tryz.ntmps174
    go_wp2
    go_ret
    exact ⟨ret_bool HB.out.symm, rfl⟩
  by_cases e6 : (s[i].toNat : Int) = 63
  · have f6 : ((s[i].toNat : Int) == 63) = true := beq_iff_eq.2 e6
    have HB : Hid (signB s[i] = true) := by show _ = _; unfold signB; simp; omega
    have f0 : ((s[i].toNat : Int) == 59) = false := beq_eq_false_iff_ne.2 e0
    have f1 : ((s[i].toNat : Int) == 44) = false := beq_eq_false_iff_ne.2 e1
    have f2 : ((s[i].toNat : Int) == 61) = false := beq_eq_false_iff_ne.2 e2
    have f3 : ((s[i].toNat : Int) == 33) = false := beq_eq_false_iff_ne.2 e3
    have f4 : ((s[i].toNat : Int) == 38) = false := beq_eq_false_iff_ne.2 e4
    have f5 : ((s[i].toNat : Int) == 124) = false := beq_eq_false_iff_ne.2 e5
    clear e0 e1 e2 e3 e4 e5 e6
    go_enter Tryz.func174, Tryz.ntmps174
    go_wp2
    go_ret
    exact ⟨ret_bool HB.out.symm, rfl⟩
  by_cases e7 : (s[i].toNat : Int) = 40
  · have f7 : ((s[i].toNat : Int) == 40) = true := beq_iff_eq.2 e7
    have HB : Hid (signB s[i] = true) := by show _ = _; unfold signB; simp; omega
    have f0 : ((s[i].toNat : Int) == 59) = false := beq_eq_false_iff_ne.2 e0
    have f1 : ((s[i].toNat : Int) == 44) = false := beq_eq_false_iff_ne.2 e1
    have f2 : ((s[i].toNat : Int) == 61) = false := beq_eq_false_iff_ne.2 e2
    have f3 : ((s[i].toNat : Int) == 33) = false := beq_eq_false_iff_ne.2 e3
    have f4 : ((s[i].toNat : Int) == 38) = false := beq_eq_false_iff_ne.2 e4
    have f5 : ((s[i].toNat : Int) == 124) = false := beq_eq_false_iff_ne.2 e5
    have f6 : ((s[i].toNat : Int) == 63) = false := beq_eq_false_iff_ne.2 e6
    clear e0 e1 e2 e3 e4 e5 e6 e7
    go_enter Tryz.func174, Tryz.ntmps174
    go_wp2
    go_ret
    exact ⟨ret_bool HB.out.symm, rfl⟩
  by_cases e8 : (s[i].toNat : Int) = 41
  · have f8 : ((s[i].toNat : Int) == 41) = true := beq_iff_eq.2 e8
    have HB : Hid (signB s[i] = true) := by show _ = _; unfold signB; simp; omega
    have f0 : ((s[i].toNat : Int) == 59) = false := beq_eq_false_iff_ne.2 e0
    have f1 : ((s[i].toNat : Int) == 44) = false := beq_eq_false_iff_ne.2 e1
    have f2 : ((s[i].toNat : Int) == 61) = false := beq_eq_false_iff_ne.2 e2
    have f3 : ((s[i].toNat : Int) == 33) = false := beq_eq_false_iff_ne.2 e3
    have f4 : ((s[i].toNat : Int) == 38) = false := beq_eq_false_iff_ne.2 e4
    have f5 : ((s[i].toNat : Int) == 124) = false := beq_eq_false_iff_ne.2 e5
    have f6 : ((s[i].toNat : Int) == 63) = false := beq_eq_false_iff_ne.2 e6
    have f7 : ((s[i].toNat : Int) == 40) = false := beq_eq_false_iff_ne.2 e7
    clear e0 e1 e2 e3 e4 e5 e6 e7 e8
    go_enter Tryz.func174, Tryz.ntmps174
    go_wp2
    go_ret
    exact ⟨ret_bool HB.out.symm, rfl⟩
  by_cases e9 : (s[i].toNat : Int) = 123
  · have f9 : ((s[i].toNat : Int) == 123) = true := beq_iff_eq.2 e9
    have HB : Hid (signB s[i] = true) := by show _ = _; unfold signB; simp; omega
    have f0 : ((s[i].toNat : Int) == 59) = false := beq_eq_false_iff_ne.2 e0
    have f1 : ((s[i].toNat : Int) == 44) = false := beq_eq_false_iff_ne.2 e1
    have f2 : ((s[i].toNat : Int) == 61) = false := beq_eq_false_iff_ne.2 e2
    have f3 : ((s[i].toNat : Int) == 33) = false := beq_eq_false_iff_ne.2 e3
    have f4 : ((s[i].toNat : Int) == 38) = false := beq_eq_false_iff_ne.2 e4
    have f5 : ((s[i].toNat : Int) == 124) = false := beq_eq_false_iff_ne.2 e5
    have f6 : ((s[i].toNat : Int) == 63) = false := beq_eq_false_iff_ne.2 e6
    have f7 : ((s[i].toNat : Int) == 40) = false := beq_eq_false_iff_ne.2 e7
    have f8 : ((s[i].toNat : Int) == 41) = false := beq_eq_false_iff_ne.2 e8
    clear e0 e1 e2 e3 e4 e5 e6 e7 e8 e9
    go_enter Tryz.func174, Tryz.ntmps174
    go_wp2
    go_ret
    exact ⟨ret_bool HB.out.symm, rfl⟩
  by_cases e10 : (s[i].toNat : Int) = 125
  · have f10 : ((s[i].toNat : Int) == 125) = true := beq_iff_eq.2 e10
    have HB : Hid (signB s[i] = true) := by show _ = _; unfold signB; simp; omega
    have f0 : ((s[i].toNat : Int) == 59) = false := beq_eq_false_iff_ne.2 e0
    have f1 : ((s[i].toNat : Int) == 44) = false := beq_eq_false_iff_ne.2 e1
    have f2 : ((s[i].toNat : Int) == 61) = false := beq_eq_false_iff_ne.2 e2
    have f3 : ((s[i].toNat : Int) == 33) = false := beq_eq_false_iff_ne.2 e3
    have f4 : ((s[i].toNat : Int) == 38) = false := beq_eq_false_iff_ne.2 e4
    have f5 : ((s[i].toNat : Int) == 124) = false := beq_eq_false_iff_ne.2 e5
    have f6 : ((s[i].toNat : Int) == 63) = false := beq_eq_false_iff_ne.2 e6
    have f7 : ((s[i].toNat : Int) == 40) = false := beq_eq_false_iff_ne.2 e7
    have f8 : ((s[i].toNat : Int) == 41) = false := beq_eq_false_iff_ne.2 e8
    have f9 : ((s[i].toNat : Int) == 123) = false := beq_eq_false_iff_ne.2 e9
    clear e0 e1 e2 e3 e4 e5 e6 e7 e8 e9 e10
    go_enter Tryz.func174, Tryz.ntmps174
    go_wp2
    go_ret
    exact ⟨ret_bool HB.out.symm, rfl⟩
  have f0 : ((s[i].toNat : Int) == 59) = false := beq_eq_false_iff_ne.2 e0
  have f1 : ((s[i].toNat : Int) == 44) = false := beq_eq_false_iff_ne.2 e1
  have f2 : ((s[i].toNat : Int) == 61) = false := beq_eq_false_iff_ne.2 e2
  have f3 : ((s[i].toNat : Int) == 33) = false := beq_eq_false_iff_ne.2 e3
  have f4 : ((s[i].toNat : Int) == 38) = false := beq_eq_false_iff_ne.2 e4
  have f5 : ((s[i].toNat : Int) == 124) = false := beq_eq_false_iff_ne.2 e5
  have f6 : ((s[i].toNat : Int) == 63) = false := beq_eq_false_iff_ne.2 e6
  have f7 : ((s[i].toNat : Int) == 40) = false := beq_eq_false_iff_ne.2 e7
  have f8 : ((s[i].toNat : Int) == 41) = false := beq_eq_false_iff_ne.2 e8
  have f9 : ((s[i].toNat : Int) == 123) = false := beq_eq_false_iff_ne.2 e9
  have f10 : ((s[i].toNat : Int) == 125) = false := beq_eq_false_iff_ne.2 e10
  have HB : Hid (signB s[i] = false) := by show _ = _; unfold signB; simp; omega
  clear e0 e1 e2 e3 e4 e5 e6 e7 e8 e9 e10
  go_enter Tryz.func174, Tryz.ntmps174
  go_wp2
  go_ret
  exact ⟨ret_bool HB.out.symm, rfl⟩

set_option maxRecDepth 100000 in
set_option maxHeartbeats 2000000 in
theorem t_hasMeaning (t : ByteArray) (w : World) :
    Calls Tryz.prog 176 #[.string t] w fun e w' => e = .returned (.bool (memB kws t)) ∧ w' = w := by
  by_cases e0 : t = ⟨#[115, 104, 97, 114, 101, 100]⟩
  · subst e0
    have HB : Hid (memB kws ⟨#[115, 104, 97, 114, 101, 100]⟩ = true) := by show _ = _; decide
    go_enter Tryz.func176, Tryz.ntmps176
    go_wp2
    go_ret
    exact ⟨ret_bool HB.out.symm, rfl⟩
  have f0 : (t.toList == [115, 104, 97, 114, 101, 100]) = false := lit_ne e0 (by rw [bl])
  by_cases e1 : t = ⟨#[108, 111, 99, 107, 115]⟩
  · subst e1
    have HB : Hid (memB kws ⟨#[108, 111, 99, 107, 115]⟩ = true) := by show _ = _; decide
    go_enter Tryz.func176, Tryz.ntmps176
    go_wp2
    go_ret
    exact ⟨ret_bool HB.out.symm, rfl⟩
  have f1 : (t.toList == [108, 111, 99, 107, 115]) = false := lit_ne e1 (by rw [bl])
  by_cases e2 : t = ⟨#[112, 114, 111, 99]⟩
  · subst e2
    have HB : Hid (memB kws ⟨#[112, 114, 111, 99]⟩ = true) := by show _ = _; decide
    go_enter Tryz.func176, Tryz.ntmps176
    go_wp2
    go_ret
    exact ⟨ret_bool HB.out.symm, rfl⟩
  have f2 : (t.toList == [112, 114, 111, 99]) = false := lit_ne e2 (by rw [bl])
  by_cases e3 : t = ⟨#[116, 104, 114, 101, 97, 100, 115]⟩
  · subst e3
    have HB : Hid (memB kws ⟨#[116, 104, 114, 101, 97, 100, 115]⟩ = true) := by show _ = _; decide
    go_enter Tryz.func176, Tryz.ntmps176
    go_wp2
    go_ret
    exact ⟨ret_bool HB.out.symm, rfl⟩
  have f3 : (t.toList == [116, 104, 114, 101, 97, 100, 115]) = false := lit_ne e3 (by rw [bl])
  by_cases e4 : t = ⟨#[105, 102]⟩
  · subst e4
    have HB : Hid (memB kws ⟨#[105, 102]⟩ = true) := by show _ = _; decide
    go_enter Tryz.func176, Tryz.ntmps176
    go_wp2
    go_ret
    exact ⟨ret_bool HB.out.symm, rfl⟩
  have f4 : (t.toList == [105, 102]) = false := lit_ne e4 (by rw [bl])
  by_cases e5 : t = ⟨#[101, 108, 115, 101]⟩
  · subst e5
    have HB : Hid (memB kws ⟨#[101, 108, 115, 101]⟩ = true) := by show _ = _; decide
    go_enter Tryz.func176, Tryz.ntmps176
    go_wp2
    go_ret
    exact ⟨ret_bool HB.out.symm, rfl⟩
  have f5 : (t.toList == [101, 108, 115, 101]) = false := lit_ne e5 (by rw [bl])
  by_cases e6 : t = ⟨#[119, 104, 105, 108, 101]⟩
  · subst e6
    have HB : Hid (memB kws ⟨#[119, 104, 105, 108, 101]⟩ = true) := by show _ = _; decide
    go_enter Tryz.func176, Tryz.ntmps176
    go_wp2
    go_ret
    exact ⟨ret_bool HB.out.symm, rfl⟩
  have f6 : (t.toList == [119, 104, 105, 108, 101]) = false := lit_ne e6 (by rw [bl])
  by_cases e7 : t = ⟨#[97, 115, 115, 117, 109, 101]⟩
  · subst e7
    have HB : Hid (memB kws ⟨#[97, 115, 115, 117, 109, 101]⟩ = true) := by show _ = _; decide
    go_enter Tryz.func176, Tryz.ntmps176
    go_wp2
    go_ret
    exact ⟨ret_bool HB.out.symm, rfl⟩
  have f7 : (t.toList == [97, 115, 115, 117, 109, 101]) = false := lit_ne e7 (by rw [bl])
  by_cases e8 : t = ⟨#[97, 99, 113, 117, 105, 114, 101]⟩
  · subst e8
    have HB : Hid (memB kws ⟨#[97, 99, 113, 117, 105, 114, 101]⟩ = true) := by show _ = _; decide
    go_enter Tryz.func176, Tryz.ntmps176
    go_wp2
    go_ret
    exact ⟨ret_bool HB.out.symm, rfl⟩
  have f8 : (t.toList == [97, 99, 113, 117, 105, 114, 101]) = false := lit_ne e8 (by rw [bl])
  by_cases e9 : t = ⟨#[114, 101, 108, 101, 97, 115, 101]⟩
  · subst e9
    have HB : Hid (memB kws ⟨#[114, 101, 108, 101, 97, 115, 101]⟩ = true) := by show _ = _; decide
    go_enter Tryz.func176, Tryz.ntmps176
    go_wp2
    go_ret
    exact ⟨ret_bool HB.out.symm, rfl⟩
  have f9 : (t.toList == [114, 101, 108, 101, 97, 115, 101]) = false := lit_ne e9 (by rw [bl])
  by_cases e10 : t = ⟨#[114, 101, 116, 117, 114, 110]⟩
  · subst e10
    have HB : Hid (memB kws ⟨#[114, 101, 116, 117, 114, 110]⟩ = true) := by show _ = _; decide
    go_enter Tryz.func176, Tryz.ntmps176
    go_wp2
    go_ret
    exact ⟨ret_bool HB.out.symm, rfl⟩
  have f10 : (t.toList == [114, 101, 116, 117, 114, 110]) = false := lit_ne e10 (by rw [bl])
  by_cases e11 : t = ⟨#[115, 107, 105, 112]⟩
  · subst e11
    have HB : Hid (memB kws ⟨#[115, 107, 105, 112]⟩ = true) := by show _ = _; decide
    go_enter Tryz.func176, Tryz.ntmps176
    go_wp2
    go_ret
    exact ⟨ret_bool HB.out.symm, rfl⟩
  have f11 : (t.toList == [115, 107, 105, 112]) = false := lit_ne e11 (by rw [bl])
  by_cases e12 : t = ⟨#[116, 114, 117, 101]⟩
  · subst e12
    have HB : Hid (memB kws ⟨#[116, 114, 117, 101]⟩ = true) := by show _ = _; decide
    go_enter Tryz.func176, Tryz.ntmps176
    go_wp2
    go_ret
    exact ⟨ret_bool HB.out.symm, rfl⟩
  have f12 : (t.toList == [116, 114, 117, 101]) = false := lit_ne e12 (by rw [bl])
  by_cases e13 : t = ⟨#[102, 97, 108, 115, 101]⟩
  · subst e13
    have HB : Hid (memB kws ⟨#[102, 97, 108, 115, 101]⟩ = true) := by show _ = _; decide
    go_enter Tryz.func176, Tryz.ntmps176
    go_wp2
    go_ret
    exact ⟨ret_bool HB.out.symm, rfl⟩
  have f13 : (t.toList == [102, 97, 108, 115, 101]) = false := lit_ne e13 (by rw [bl])
  have HB : Hid (memB kws t = false) := by
    show _ = _
    unfold memB kws
    simp only [List.any_cons, List.any_nil, Bool.or_false]
    rw [decide_eq_false (fun h => e0 h.symm), decide_eq_false (fun h => e1 h.symm), decide_eq_false (fun h => e2 h.symm), decide_eq_false (fun h => e3 h.symm), decide_eq_false (fun h => e4 h.symm), decide_eq_false (fun h => e5 h.symm), decide_eq_false (fun h => e6 h.symm), decide_eq_false (fun h => e7 h.symm), decide_eq_false (fun h => e8 h.symm), decide_eq_false (fun h => e9 h.symm), decide_eq_false (fun h => e10 h.symm), decide_eq_false (fun h => e11 h.symm), decide_eq_false (fun h => e12 h.symm), decide_eq_false (fun h => e13 h.symm)]
    rfl
  clear e0 e1 e2 e3 e4 e5 e6 e7 e8 e9 e10 e11 e12 e13
  go_enter Tryz.func176, Tryz.ntmps176
  go_wp2
  go_ret
  exact ⟨ret_bool HB.out.symm, rfl⟩

theorem runF_not {s : ByteArray} {k : Nat} (h : k < s.size) (h2 : isLetterB s[k] = false) : runF s k = k := runF_no h h2

set_option maxRecDepth 100000 in
set_option maxHeartbeats 1000000 in
theorem t_lettersAt (s : ByteArray) (i : Nat) (w : World) (hs : s.size ≤ 500) (hi : i < s.size) :
    Calls Tryz.prog 173 #[.string s, .int .i64 i] w fun e w' => e = .returned (.int .i64 ((runF s i - i : Nat) : Int)) ∧ w' = w := by
  go_enter Tryz.func173, Tryz.ntmps173
  go_wp2
  go_loop [5, 6] (fun v u => ∃ k : Nat, u = .int .i64 k ∧ v = .int .i64 ((k - i : Nat) : Int) ∧ i ≤ k ∧ k ≤ s.size ∧ runF s i = runF s k) (fun _ u => s.size - (intOf u).toNat)
  case atStart => exact ⟨i, rfl, by rw [Nat.sub_self]; rfl, Nat.le_refl _, by omega, rfl⟩
  case round =>
    obtain ⟨k, rfl, rfl, h1, h2, h3⟩ := hrel
    have H3 := hide h3
    clear h3
    by_cases hk : k < s.size
    · cases hL : isLetterB s[k]
      · have HE := hide (runF_no hk hL)
        go_wp2_with (go_at_call 175; refine (t_isLetter s[k] _).mono ?_; rintro e w' ⟨rfl, hw'⟩; subst hw')
        go_ret
        exact ⟨ret_int (by rw [H3.out, HE.out]), rfl⟩
      · have HE := hide (runF_yes hk hL)
        go_wp2_with (go_at_call 175; refine (t_isLetter s[k] _).mono ?_; rintro e w' ⟨rfl, hw'⟩; subst hw')
        go_round
        case rel => exact ⟨k + 1, by go_num, by congr 1; omega, by omega, by omega, by rw [H3.out, HE.out]⟩
        case measure => simp [intOf]; omega
    · have HE := hide (runF_out hk)
      go_wp2
      go_ret
      exact ⟨ret_int (by rw [H3.out, HE.out]), rfl⟩

end Go.Proofs.YtmfcpbhdggonfaaGreatDoor
