/- The contract of the reference's 'Tokens'. -/
import Derived.Test.YtmfcpbhdggonfaaGreatDoorRefK
import Derived.Test.YtmfcpbhdggonfaaGreatDoorLex
namespace Go.Proofs.YtmfcpbhdggonfaaGreatDoor
open Go.RowKit RR

theorem Tryz.infoTok : (Tryz.prog.info? 90).map (fun i => (i.zero, i.size, i.bytes)) = some (some (.agg #[.string ⟨#[]⟩, .int .i64 0]), 2, 24) := by kernel_rfl

def toks : List Tk → List Value
  | [] => []
  | t :: r => .string t.t :: .int .i64 t.p :: toks r
theorem toks_append (a b : List Tk) : toks (a ++ b) = toks a ++ toks b := by
  induction a with
  | nil => rfl
  | cons t r ih => show _ :: _ :: toks (r ++ b) = _; rw [ih]; rfl
theorem toks_length (a : List Tk) : (toks a).length = a.length * 2 := by
  induction a with
  | nil => rfl
  | cons t r ih => show (toks r).length + 1 + 1 = _; rw [ih, List.length_cons]; omega
theorem toks_get (a : List Tk) (i : Nat) (h : i < a.length) : (toks a)[i * 2]? = some (.string a[i].t) ∧ (toks a)[i * 2 + 1]? = some (.int .i64 a[i].p) := by
  induction a generalizing i with
  | nil => cases h
  | cons t r ih =>
    cases i with
    | zero => exact ⟨rfl, rfl⟩
    | succ k =>
      have := ih k (by simpa using h)
      rw [show (k + 1) * 2 = k * 2 + 1 + 1 from by omega]
      exact this

theorem two_cells {w : World} {T : TypeId} {x y : Value} : ∀ (j : Nat) (u : Value), [x, y][j]? = some u → (w.alloc (.cells #[x, y] T)).cell? ((⟨w.heap.size, 0, none⟩ : Addr).add j) = some u := by
  intro j u hj
  have hh : (w.alloc (.cells #[x, y] T)).heap[w.heap.size]? = some (.cells #[x, y] T) := heap_alloc_new w _
  rw [addr_add]
  match j, hj with
  | 0, hj => simp only [World.cell?, hh]; exact hj
  | 1, hj => simp only [World.cell?, hh]; exact hj

/-- l = append(l, Token{t, p}). -/
theorem app_tok {ops : Array Oper} {rest : List Oper} {o : Oper} {a : Act} {Q : Exit → Act → World → Prop} {w0 : World} {B : Nat} {v : Value} {l : List Tk} (t : ByteArray) (p : Nat)
    (hown : w0.ownsRow B 90 2 v l.length (toks l)) (hl : l.length ≤ 100000) (hB : B ≤ w0.heap.size) (hgd : o.guard = none) (s x : Operand)
    (ho : o.op = .call { callee := .builtin .append, args := #[s, x], argTypes := #[69, 69] }) (hs : a.eval s = v)
    (hx : a.eval x = .slice (some ⟨w0.heap.size, 0, none⟩) 1 1)
    (h : ∀ v' w', w'.ownsRow B 90 2 v' (l ++ [(⟨t, p⟩ : Tk)]).length (toks (l ++ [(⟨t, p⟩ : Tk)])) → (∀ a0, Below B a0 w0 → Below B a0 w') → wpList Tryz.prog ops Q rest (a.put o.dst v') w') :
    wpList Tryz.prog ops Q (o :: rest) a (w0.alloc (.cells #[.string t, .int .i64 p] 90)) := by
  obtain ⟨i0, hi0, hz0, hz1, hz2⟩ := info_parts Tryz.infoTok
  refine wpList_append_own _ hgd s x 69 ho B 90 i0 (.agg #[.string ⟨#[]⟩, .int .i64 0]) 2 24 Tryz.underlying69 hi0 hz0 hz1 hz2 rfl (by decide) v l.length (toks l) hs (hown.alloc _) ⟨w0.heap.size, 0, none⟩ 1 1 [.string t, .int .i64 p] hx rfl two_cells ?_ (by unfold maxLen; omega) (by omega) (by simp; omega) ?_
  · intro u hu
    rcases List.mem_cons.1 hu with rfl | hu
    · rfl
    · rcases List.mem_cons.1 hu with rfl | hu
      · rfl
      · cases hu
  · intro v' w' h1 h2 _
    refine h v' w' ?_ fun a0 h0 => (h0.alloc hB _).grown h2 (by simp; omega) fun k hk => (hown.lt k hk).1
    rw [toks_append, List.length_append]; exact h1

theorem below_of_eq0 {w w' : World} (h : w' = w) : Below w.heap.size w w' := by subst h; exact Below.refl _ _

/-- A slice of tokens, nil or not. -/
def TokSl (w : World) (ao : Option Addr) (L : List Tk) : Prop := L = [] ∨ ∃ b o, ao = some ⟨b, o, none⟩ ∧ ToksAt w b o L

theorem tokSl_of_owns {w : World} {base : Nat} {v : Value} {l : List Tk} (h : w.ownsRow base 90 2 v l.length (toks l)) : ∃ ao cap, v = .slice ao l.length cap ∧ TokSl w ao l := by
  obtain ⟨h1, h2 | ⟨g, cap, cur, hv, hb, hh, hcap, hmax, hsz, htk⟩⟩ := h
  · exact ⟨none, 0, by rw [h2.1, h2.2], .inl (List.length_eq_zero_iff.1 h2.2)⟩
  · refine ⟨some ⟨g, 0, none⟩, cap, hv, .inr ⟨g, 0, rfl, (Array.getElem?_eq_some_iff.1 hh).1, fun i hi => ?_⟩⟩
    have key : ∀ j, j < l.length * 2 → w.cell? ⟨g, 0 + j, none⟩ = (toks l)[j]? := by
      intro j hj
      have e2 : (cur.toList.take (l.length * 2))[j]? = (toks l)[j]? := by rw [htk]
      rw [List.getElem?_take_of_lt hj, Array.getElem?_toList] at e2
      simp only [World.cell?, hh, Nat.zero_add]
      exact e2
    have := toks_get l i hi
    exact ⟨(key (i * 2) (by omega)).trans this.1, (key (i * 2 + 1) (by omega)).trans this.2⟩

theorem signs_at {w : World} : StrsAt (w.alloc (.cells #[.string ⟨#[59]⟩, .string ⟨#[44]⟩, .string ⟨#[61]⟩, .string ⟨#[33]⟩, .string ⟨#[38]⟩, .string ⟨#[124]⟩, .string ⟨#[63]⟩, .string ⟨#[40]⟩, .string ⟨#[41]⟩, .string ⟨#[123]⟩, .string ⟨#[125]⟩] 9)) w.heap.size 0 signs :=
  strs_alloc signs _ rfl

theorem endAt_letter {s : ByteArray} {i : Nat} (h : i < s.size) (hL : isLetterB s[i] = true) : endAt s i h = runF s (i + 1) := by unfold endAt; rw [if_pos hL]
theorem endAt_other {s : ByteArray} {i : Nat} (h : i < s.size) (hL : isLetterB s[i] = false) : endAt s i h = i + 1 := by unfold endAt; rw [hL]; rfl

set_option maxRecDepth 100000 in
set_option maxHeartbeats 1000000 in
theorem r_tokens (s : ByteArray) (w : World) (hs : s.size ≤ 500) :
    Calls Tryz.prog 75 #[.string s] w fun e w' => ((lexF s 0).2 = none ∧ ∃ ao cap, e = .returned (.tuple #[.slice ao (lexF s 0).1.length cap, .int .i64 (-1)]) ∧ TokSl w' ao (lexF s 0).1 ∧ Below w.heap.size w w') ∨ (∃ p : Nat, (lexF s 0).2 = some p ∧ e = .returned (.tuple #[.slice none 0 0, .int .i64 p]) ∧ Below w.heap.size w w') := by
  go_enter Tryz.func75, Tryz.ntmps75
  go_wp2_with fail
  go_loopw [4, 5] (fun v u wr => ∃ (i : Nat) (acc : List Tk), u = .int .i64 i ∧ i ≤ s.size ∧ acc.length ≤ i ∧ (acc ++ (lexF s i).1, (lexF s i).2) = lexF s 0 ∧ wr.ownsRow w.heap.size 90 2 v acc.length (toks acc) ∧ Below w.heap.size w wr) (fun _ u _ => s.size - (intOf u).toNat)
  case atStart => exact ⟨0, [], rfl, Nat.zero_le _, Nat.zero_le _, rfl, World.ownsRow_nil _ _ _ _, Below.refl _ _⟩
  case round =>
    obtain ⟨i, acc, rfl, hi, hacc, hn, hown, hbel⟩ := hrel
    have HN := hide hn
    clear hn
    by_cases hlt : i < s.size
    · by_cases h32 : (s[i].toNat : Int) = 32
      · have HB : Hid (blankB s[i] = true) := by show _ = _; unfold blankB; rw [decide_eq_true (by omega : s[i].toNat = 32)]; rfl
        have h32' : ((s[i].toNat : Int) == 32) = true := beq_iff_eq.2 h32
        have HE := hide (lexF_blank hlt HB.out)
        clear h32
        go_wp2_with fail
        go_roundw
        case rel => exact ⟨i + 1, acc, by go_num, by omega, by omega, by rw [← HN.out, HE.out], hown, hbel⟩
        case measure => simp [intOf]; omega
      · have h32' : ((s[i].toNat : Int) == 32) = false := beq_eq_false_iff_ne.2 h32
        by_cases h10 : (s[i].toNat : Int) = 10
        · have HB : Hid (blankB s[i] = true) := by show _ = _; unfold blankB; rw [decide_eq_true (by omega : s[i].toNat = 10), Bool.or_true]
          have h10' : ((s[i].toNat : Int) == 10) = true := beq_iff_eq.2 h10
          have HE := hide (lexF_blank hlt HB.out)
          clear h10 h32
          go_wp2_with fail
          go_roundw
          case rel => exact ⟨i + 1, acc, by go_num, by omega, by omega, by rw [← HN.out, HE.out], hown, hbel⟩
          case measure => simp [intOf]; omega
        · have HB : Hid (blankB s[i] = false) := by show _ = _; unfold blankB; rw [decide_eq_false (by omega : ¬ s[i].toNat = 32), decide_eq_false (by omega : ¬ s[i].toNat = 10)]; rfl
          have h10' : ((s[i].toNat : Int) == 10) = false := beq_eq_false_iff_ne.2 h10
          clear h10 h32
          go_wp2_with fail
          go_loop [6] (fun u => ∃ k : Nat, u = .int .i64 k ∧ i + 1 ≤ k ∧ k ≤ s.size ∧ (isLetterB s[i] = true → runF s (i + 1) = runF s k) ∧ (isLetterB s[i] = false → k = i + 1)) (fun u => s.size - (intOf u).toNat)
          case atStart => exact ⟨i + 1, by go_num, by omega, by omega, fun _ => rfl, fun _ => rfl⟩
          case round =>
            obtain ⟨k, rfl, hk1, hk2, hr1, hr2⟩ := hrel
            cases hL : isLetterB s[i]
            · have hke := hr2 hL
              have HD : Hid (endAt s i hlt = k) := by show _ = _; rw [endAt_other hlt hL]; exact hke.symm
              clear hr1 hr2 hke
              go_wp2_with fail
              refine (r_isLetter s[i] _).mono ?_
              rintro e w' ⟨rfl, hw'⟩
              subst hw'
              have hei : endAt s i hlt = k := HD.out
              have hex : (s.extract i k).size = k - i := ext_size s i k (by omega) hk2
              have hF : ∀ h', isLetterB ((s.extract i k)[0]'h') = false := fun h' => by rw [ext_first s i k (by omega) hk2]; exact hL
              have HX := hide hex
              clear hei hex
              go_wp2_with fail
              refine (r_isLetter _ _).mono ?_
              rintro e w1 ⟨rfl, hw1⟩
              subst hw1
              cases hS : memB signs (s.extract i k)
              · have HOK : Hid (okAt s i hlt = false) := by show _ = _; unfold okAt; rw [hL, HD.out, hS]; rfl
                have HE := hide (lexF_bad hlt HB.out HOK.out)
                go_wp2_with fail
                refine (r_in (s.extract i k) _ _ _ signs _ (by decide) signs_at).mono ?_
                rintro e w2 ⟨rfl, hw2⟩
                have hb2 := below_of_eq0 hw2
                have hown2 := owns_below (hown.alloc _) hb2
                have hbel2 := (hbel.alloc hbel.size _).trans (hb2.mono (Nat.le_trans hbel.size (by simp)))
                clear hw2
                go_wp2_with fail
                go_ret2
                exact .inr ⟨i, by rw [← HN.out, HE.out], rfl, hbel2⟩
              · have HOK : Hid (okAt s i hlt = true) := by show _ = _; unfold okAt; rw [hL, HD.out, hS]; rfl
                have HE := hide (lexF_ok hlt HB.out HOK.out)
                go_wp2_with fail
                refine (r_in (s.extract i k) _ _ _ signs _ (by decide) signs_at).mono ?_
                rintro e w2 ⟨rfl, hw2⟩
                have hb2 := below_of_eq0 hw2
                have hown2 := owns_below (hown.alloc _) hb2
                have hbel2 := (hbel.alloc hbel.size _).trans (hb2.mono (Nat.le_trans hbel.size (by simp)))
                clear hw2
                go_wp2_with (at_builtin; refine app_tok (s.extract i k) i hown2 (by omega) hbel2.size rfl _ _ rfl rfl rfl ?_; intro v3 w3 hown3 hb3)
                go_roundw
                case rel => exact ⟨k, acc ++ [⟨s.extract i k, i⟩], rfl, by omega, by simp; omega, by rw [← HN.out, HE.out, HD.out, List.append_assoc]; rfl, hown3, hb3 _ hbel2⟩
                case measure => simp [intOf]; omega
            · have hru := hr1 hL
              clear hr1 hr2
              by_cases hks : k < s.size
              · cases hL2 : isLetterB s[k]
                · have HD : Hid (endAt s i hlt = k) := by show _ = _; rw [endAt_letter hlt hL, hru, runF_no hks hL2]
                  clear hru
                  go_wp2_with fail
                  refine (r_isLetter s[i] _).mono ?_
                  rintro e w' ⟨rfl, hw'⟩
                  subst hw'
                  go_wp2_with fail
                  refine (r_isLetter s[k] _).mono ?_
                  rintro e w' ⟨rfl, hw'⟩
                  subst hw'
                  have hei : endAt s i hlt = k := HD.out
                  have hex : (s.extract i k).size = k - i := ext_size s i k (by omega) hk2
                  have hF : ∀ h', isLetterB ((s.extract i k)[0]'h') = true := fun h' => by rw [ext_first s i k (by omega) hk2]; exact hL
                  have HX := hide hex
                  clear hei hex
                  go_wp2_with fail
                  refine (r_isLetter _ _).mono ?_
                  rintro e w1 ⟨rfl, hw1⟩
                  subst hw1
                  by_cases h8 : (k : Int) - i ≤ 8
                  · have h8d : decide (k - i ≤ 8) = true := decide_eq_true (by omega)
                    have h8s : decide (((k - i : Nat) : Int) ≤ 8) = true := decide_eq_true (by omega)
                    cases hS : memB signs (s.extract i k)
                    · have HOK : Hid (okAt s i hlt = true) := by show _ = _; unfold okAt; rw [hL, HD.out, hS, h8d]; rfl
                      have HE := hide (lexF_ok hlt HB.out HOK.out)
                      go_wp2_with fail
                      refine (r_in (s.extract i k) _ _ _ signs _ (by decide) signs_at).mono ?_
                      rintro e w2 ⟨rfl, hw2⟩
                      have hb2 := below_of_eq0 hw2
                      have hown2 := owns_below (hown.alloc _) hb2
                      have hbel2 := (hbel.alloc hbel.size _).trans (hb2.mono (Nat.le_trans hbel.size (by simp)))
                      clear hw2
                      go_wp2_with (at_builtin; refine app_tok (s.extract i k) i hown2 (by omega) hbel2.size rfl _ _ rfl rfl rfl ?_; intro v3 w3 hown3 hb3)
                      go_roundw
                      case rel => exact ⟨k, acc ++ [⟨s.extract i k, i⟩], rfl, by omega, by simp; omega, by rw [← HN.out, HE.out, HD.out, List.append_assoc]; rfl, hown3, hb3 _ hbel2⟩
                      case measure => simp [intOf]; omega
                    · have HOK : Hid (okAt s i hlt = true) := by show _ = _; unfold okAt; rw [hL, HD.out, hS, h8d]; rfl
                      have HE := hide (lexF_ok hlt HB.out HOK.out)
                      go_wp2_with fail
                      refine (r_in (s.extract i k) _ _ _ signs _ (by decide) signs_at).mono ?_
                      rintro e w2 ⟨rfl, hw2⟩
                      have hb2 := below_of_eq0 hw2
                      have hown2 := owns_below (hown.alloc _) hb2
                      have hbel2 := (hbel.alloc hbel.size _).trans (hb2.mono (Nat.le_trans hbel.size (by simp)))
                      clear hw2
                      go_wp2_with (at_builtin; refine app_tok (s.extract i k) i hown2 (by omega) hbel2.size rfl _ _ rfl rfl rfl ?_; intro v3 w3 hown3 hb3)
                      go_roundw
                      case rel => exact ⟨k, acc ++ [⟨s.extract i k, i⟩], rfl, by omega, by simp; omega, by rw [← HN.out, HE.out, HD.out, List.append_assoc]; rfl, hown3, hb3 _ hbel2⟩
                      case measure => simp [intOf]; omega
                  · have h8d : decide (k - i ≤ 8) = false := decide_eq_false (by omega)
                    have h8s : decide (((k - i : Nat) : Int) ≤ 8) = false := decide_eq_false (by omega)
                    cases hS : memB signs (s.extract i k)
                    · have HOK : Hid (okAt s i hlt = false) := by show _ = _; unfold okAt; rw [hL, HD.out, hS, h8d]; rfl
                      have HE := hide (lexF_bad hlt HB.out HOK.out)
                      go_wp2_with fail
                      refine (r_in (s.extract i k) _ _ _ signs _ (by decide) signs_at).mono ?_
                      rintro e w2 ⟨rfl, hw2⟩
                      have hb2 := below_of_eq0 hw2
                      have hown2 := owns_below (hown.alloc _) hb2
                      have hbel2 := (hbel.alloc hbel.size _).trans (hb2.mono (Nat.le_trans hbel.size (by simp)))
                      clear hw2
                      go_wp2_with fail
                      go_ret2
                      exact .inr ⟨i, by rw [← HN.out, HE.out], rfl, hbel2⟩
                    · have HOK : Hid (okAt s i hlt = true) := by show _ = _; unfold okAt; rw [hL, HD.out, hS, h8d]; rfl
                      have HE := hide (lexF_ok hlt HB.out HOK.out)
                      go_wp2_with fail
                      refine (r_in (s.extract i k) _ _ _ signs _ (by decide) signs_at).mono ?_
                      rintro e w2 ⟨rfl, hw2⟩
                      have hb2 := below_of_eq0 hw2
                      have hown2 := owns_below (hown.alloc _) hb2
                      have hbel2 := (hbel.alloc hbel.size _).trans (hb2.mono (Nat.le_trans hbel.size (by simp)))
                      clear hw2
                      go_wp2_with (at_builtin; refine app_tok (s.extract i k) i hown2 (by omega) hbel2.size rfl _ _ rfl rfl rfl ?_; intro v3 w3 hown3 hb3)
                      go_roundw
                      case rel => exact ⟨k, acc ++ [⟨s.extract i k, i⟩], rfl, by omega, by simp; omega, by rw [← HN.out, HE.out, HD.out, List.append_assoc]; rfl, hown3, hb3 _ hbel2⟩
                      case measure => simp [intOf]; omega
                · have HRU : Hid (runF s (i + 1) = runF s (k + 1)) := by show _ = _; rw [hru, runF_yes hks hL2]
                  clear hru
                  go_wp2_with fail
                  refine (r_isLetter s[i] _).mono ?_
                  rintro e w' ⟨rfl, hw'⟩
                  subst hw'
                  go_wp2_with fail
                  refine (r_isLetter s[k] _).mono ?_
                  rintro e w' ⟨rfl, hw'⟩
                  subst hw'
                  go_wp2_with fail
                  go_round
                  case rel => exact ⟨k + 1, by go_num, by omega, by omega, fun _ => HRU.out, fun h => absurd h (by decide)⟩
                  case measure => simp [intOf]; omega
              · have HD : Hid (endAt s i hlt = k) := by show _ = _; rw [endAt_letter hlt hL, hru, runF_out hks]
                clear hru
                go_wp2_with fail
                refine (r_isLetter s[i] _).mono ?_
                rintro e w' ⟨rfl, hw'⟩
                subst hw'
                have hei : endAt s i hlt = k := HD.out
                have hex : (s.extract i k).size = k - i := ext_size s i k (by omega) hk2
                have hF : ∀ h', isLetterB ((s.extract i k)[0]'h') = true := fun h' => by rw [ext_first s i k (by omega) hk2]; exact hL
                have HX := hide hex
                clear hei hex
                go_wp2_with fail
                refine (r_isLetter _ _).mono ?_
                rintro e w1 ⟨rfl, hw1⟩
                subst hw1
                by_cases h8 : (k : Int) - i ≤ 8
                · have h8d : decide (k - i ≤ 8) = true := decide_eq_true (by omega)
                  have h8s : decide (((k - i : Nat) : Int) ≤ 8) = true := decide_eq_true (by omega)
                  cases hS : memB signs (s.extract i k)
                  · have HOK : Hid (okAt s i hlt = true) := by show _ = _; unfold okAt; rw [hL, HD.out, hS, h8d]; rfl
                    have HE := hide (lexF_ok hlt HB.out HOK.out)
                    go_wp2_with fail
                    refine (r_in (s.extract i k) _ _ _ signs _ (by decide) signs_at).mono ?_
                    rintro e w2 ⟨rfl, hw2⟩
                    have hb2 := below_of_eq0 hw2
                    have hown2 := owns_below (hown.alloc _) hb2
                    have hbel2 := (hbel.alloc hbel.size _).trans (hb2.mono (Nat.le_trans hbel.size (by simp)))
                    clear hw2
                    go_wp2_with (at_builtin; refine app_tok (s.extract i k) i hown2 (by omega) hbel2.size rfl _ _ rfl rfl rfl ?_; intro v3 w3 hown3 hb3)
                    go_roundw
                    case rel => exact ⟨k, acc ++ [⟨s.extract i k, i⟩], rfl, by omega, by simp; omega, by rw [← HN.out, HE.out, HD.out, List.append_assoc]; rfl, hown3, hb3 _ hbel2⟩
                    case measure => simp [intOf]; omega
                  · have HOK : Hid (okAt s i hlt = true) := by show _ = _; unfold okAt; rw [hL, HD.out, hS, h8d]; rfl
                    have HE := hide (lexF_ok hlt HB.out HOK.out)
                    go_wp2_with fail
                    refine (r_in (s.extract i k) _ _ _ signs _ (by decide) signs_at).mono ?_
                    rintro e w2 ⟨rfl, hw2⟩
                    have hb2 := below_of_eq0 hw2
                    have hown2 := owns_below (hown.alloc _) hb2
                    have hbel2 := (hbel.alloc hbel.size _).trans (hb2.mono (Nat.le_trans hbel.size (by simp)))
                    clear hw2
                    go_wp2_with (at_builtin; refine app_tok (s.extract i k) i hown2 (by omega) hbel2.size rfl _ _ rfl rfl rfl ?_; intro v3 w3 hown3 hb3)
                    go_roundw
                    case rel => exact ⟨k, acc ++ [⟨s.extract i k, i⟩], rfl, by omega, by simp; omega, by rw [← HN.out, HE.out, HD.out, List.append_assoc]; rfl, hown3, hb3 _ hbel2⟩
                    case measure => simp [intOf]; omega
                · have h8d : decide (k - i ≤ 8) = false := decide_eq_false (by omega)
                  have h8s : decide (((k - i : Nat) : Int) ≤ 8) = false := decide_eq_false (by omega)
                  cases hS : memB signs (s.extract i k)
                  · have HOK : Hid (okAt s i hlt = false) := by show _ = _; unfold okAt; rw [hL, HD.out, hS, h8d]; rfl
                    have HE := hide (lexF_bad hlt HB.out HOK.out)
                    go_wp2_with fail
                    refine (r_in (s.extract i k) _ _ _ signs _ (by decide) signs_at).mono ?_
                    rintro e w2 ⟨rfl, hw2⟩
                    have hb2 := below_of_eq0 hw2
                    have hown2 := owns_below (hown.alloc _) hb2
                    have hbel2 := (hbel.alloc hbel.size _).trans (hb2.mono (Nat.le_trans hbel.size (by simp)))
                    clear hw2
                    go_wp2_with fail
                    go_ret2
                    exact .inr ⟨i, by rw [← HN.out, HE.out], rfl, hbel2⟩
                  · have HOK : Hid (okAt s i hlt = true) := by show _ = _; unfold okAt; rw [hL, HD.out, hS, h8d]; rfl
                    have HE := hide (lexF_ok hlt HB.out HOK.out)
                    go_wp2_with fail
                    refine (r_in (s.extract i k) _ _ _ signs _ (by decide) signs_at).mono ?_
                    rintro e w2 ⟨rfl, hw2⟩
                    have hb2 := below_of_eq0 hw2
                    have hown2 := owns_below (hown.alloc _) hb2
                    have hbel2 := (hbel.alloc hbel.size _).trans (hb2.mono (Nat.le_trans hbel.size (by simp)))
                    clear hw2
                    go_wp2_with (at_builtin; refine app_tok (s.extract i k) i hown2 (by omega) hbel2.size rfl _ _ rfl rfl rfl ?_; intro v3 w3 hown3 hb3)
                    go_roundw
                    case rel => exact ⟨k, acc ++ [⟨s.extract i k, i⟩], rfl, by omega, by simp; omega, by rw [← HN.out, HE.out, HD.out, List.append_assoc]; rfl, hown3, hb3 _ hbel2⟩
                    case measure => simp [intOf]; omega
    · have HE := hide (lexF_out hlt)
      go_wp2_with fail
      go_ret2
      obtain ⟨ao, cap, hv, hsl⟩ := tokSl_of_owns hown
      have he : lexF s 0 = (acc, none) := by rw [← HN.out, HE.out, List.append_nil]
      refine .inl ⟨by rw [he], ao, cap, ?_, by rw [he]; exact hsl, hbel⟩
      rw [he]; exact congrArg (fun v => Ending.returned (.tuple #[v, .int .i64 (-1)])) hv
end Go.Proofs.YtmfcpbhdggonfaaGreatDoor
