/- Contracts of the program's package check: calls; the whole outline. -/
import Derived.Test.YtmfcpbhdggonfaaGreatDoorChkE
namespace Go.Proofs.YtmfcpbhdggonfaaGreatDoor
open Go.RowKit RR

set_option maxRecDepth 100000 in
set_option maxHeartbeats 2000000 in
theorem c_paramsOf (ao : Option Addr) (cap : Nat) (l : List Nm) (t : ByteArray) (w : World) (hl : l.length ≤ 1000) (hi : NmSl w ao l) :
    Calls Tryz.prog 187 #[.slice ao l.length cap, .string t] w fun e w' => e = .returned (.int .i64 (paramsP l t)) ∧ Below w.heap.size w w' := by
  go_enter Tryz.func187, Tryz.ntmps187
  go_wp2
  go_loopw [5, 6, 11] (fun v5 v6 u wr => ∃ (k : Nat) (p : Int) (q : Nat), v5 = .int .i64 p ∧ v6 = .int .i64 q ∧ u = .int .i64 k ∧ k ≤ l.length ∧ q ≤ k ∧ (l.take k).foldl (pstep t) (-1, 0) = (p, q) ∧ Below w.heap.size w wr) (fun _ _ u _ => l.length - (intOf u).toNat)
  case atStart => exact ⟨0, -1, 0, rfl, rfl, rfl, Nat.zero_le _, Nat.zero_le _, rfl, Below.refl _ _⟩
  case round =>
    obtain ⟨k, p, q, rfl, rfl, rfl, hk, hq, hn, hbel⟩ := hrel
    by_cases hlt : k < l.length
    · obtain ⟨b, o, hb, hao, c1, c2, c3, c4⟩ := (hi.below hbel) k hlt
      subst hao
      have HS : Hid ((l.take (k + 1)).foldl (pstep t) (-1, 0) = pstep t (p, q) l[k]) := by show _ = _; rw [foldl_snoc _ _ l k hlt, hn]
      clear hn
      by_cases h2 : l[k].role = 2
      · have e2 : ((l[k].role : Int) == 2) = true := beq_iff_eq.2 (by omega)
        have e3 : ((l[k].role : Int) == 3) = false := beq_eq_false_iff_ne.2 (by omega)
        cases hw : (l[k].word.toList == t.toList)
        · have HW : Hid (¬ l[k].word = t) := fun e => by rw [e] at hw; simp at hw
          have HE : Hid (pstep t (p, q) l[k] = (p, q)) := by show _ = _; unfold pstep; dsimp only; rw [if_neg (fun h => HW.out h.2), if_neg (by omega)]
          clear h2
          go_wp2_with fail
          go_roundw
          case rel => exact ⟨k + 1, p, q, rfl, rfl, by go_num, by omega, by omega, by rw [HS.out, HE.out], hbel.alloc hbel.size _⟩
          case measure => simp [intOf]; omega
        · have HW : Hid (l[k].word = t) := toList_inj.1 (by simpa using hw)
          have HE : Hid (pstep t (p, q) l[k] = (l[k].proc, q)) := by show _ = _; unfold pstep; dsimp only; rw [if_pos ⟨h2, HW.out⟩, if_neg (by omega)]
          clear h2
          go_wp2_with fail
          go_roundw
          case rel => exact ⟨k + 1, l[k].proc, q, rfl, rfl, by go_num, by omega, by omega, by rw [HS.out, HE.out], hbel.alloc hbel.size _⟩
          case measure => simp [intOf]; omega
      · have e2 : ((l[k].role : Int) == 2) = false := beq_eq_false_iff_ne.2 (by omega)
        by_cases h3 : l[k].role = 3
        · have e3 : ((l[k].role : Int) == 3) = true := beq_iff_eq.2 (by omega)
          by_cases hp : l[k].proc = p
          · have ep : (l[k].proc == p) = true := beq_iff_eq.2 hp
            have HE : Hid (pstep t (p, q) l[k] = (p, q + 1)) := by show _ = _; unfold pstep; dsimp only; rw [if_neg (fun h => h2 h.1), if_pos ⟨h3, hp⟩]
            clear h2 h3 hp
            go_wp2_with fail
            go_roundw
            case rel => exact ⟨k + 1, p, q + 1, rfl, by go_num, by go_num, by omega, by omega, by rw [HS.out, HE.out], hbel.alloc hbel.size _⟩
            case measure => simp [intOf]; omega
          · have ep : (l[k].proc == p) = false := beq_eq_false_iff_ne.2 hp
            have HE : Hid (pstep t (p, q) l[k] = (p, q)) := by show _ = _; unfold pstep; dsimp only; rw [if_neg (fun h => h2 h.1), if_neg (fun h => hp h.2)]
            clear h2 h3 hp
            go_wp2_with fail
            go_roundw
            case rel => exact ⟨k + 1, p, q, rfl, rfl, by go_num, by omega, by omega, by rw [HS.out, HE.out], hbel.alloc hbel.size _⟩
            case measure => simp [intOf]; omega
        · have e3 : ((l[k].role : Int) == 3) = false := beq_eq_false_iff_ne.2 (by omega)
          have HE : Hid (pstep t (p, q) l[k] = (p, q)) := by show _ = _; unfold pstep; dsimp only; rw [if_neg (fun h => h2 h.1), if_neg (fun h => h3 h.1)]
          clear h2 h3
          go_wp2_with fail
          go_roundw
          case rel => exact ⟨k + 1, p, q, rfl, rfl, by go_num, by omega, by omega, by rw [HS.out, HE.out], hbel.alloc hbel.size _⟩
          case measure => simp [intOf]; omega
    · have HE : Hid (paramsP l t = q) := by show _ = _; unfold paramsP; rw [← List.take_of_length_le (l := l) (i := k) (by omega), hn]
      clear hn
      go_wp2_with fail
      go_ret
      exact ⟨ret_int (by rw [HE.out]), hbel⟩

/-- A slice of calls. -/
def ClSl (w : World) (ao : Option Addr) (l : List Cl) : Prop := ∀ i, (h : i < l.length) → ∃ b o, b < w.heap.size ∧ ao = some ⟨b, o, none⟩ ∧ w.cell? ⟨b, o + i * 3, none⟩ = some (.string l[i].word) ∧ w.cell? ⟨b, o + i * 3 + 1, none⟩ = some (.int .i64 l[i].at_) ∧ w.cell? ⟨b, o + i * 3 + 2, none⟩ = some (.int .i64 l[i].values)

theorem ClSl.below {w w' : World} {ao : Option Addr} {l : List Cl} (h : ClSl w ao l) (hb : Below w.heap.size w w') : ClSl w' ao l := fun i hi => by
  obtain ⟨b, o, h1, h2, h3, h4, h5⟩ := h i hi
  exact ⟨b, o, Nat.lt_of_lt_of_le h1 hb.size, h2, (hb.cell (p := ⟨b, o + i * 3, none⟩) h1).trans h3, (hb.cell (p := ⟨b, o + i * 3 + 1, none⟩) h1).trans h4, (hb.cell (p := ⟨b, o + i * 3 + 2, none⟩) h1).trans h5⟩

/-- What is known behind a box with an outline in it. -/
theorem ob {w wr : World} {T : TypeId} {x0 x1 x2 x3 : Value} (hb : Below (w.heap.size + 1) (w.alloc (.cells #[x0, x1, x2, x3] T)) wr) : wr.cell? ⟨w.heap.size, 0, none⟩ = some x0 ∧ wr.cell? ⟨w.heap.size, 1, none⟩ = some x1 ∧ wr.cell? ⟨w.heap.size, 2, none⟩ = some x2 ∧ wr.cell? ⟨w.heap.size, 3, none⟩ = some x3 ∧ w.heap.size < wr.heap.size ∧ Below w.heap.size w wr := by
  have h2 := hb.size
  refine ⟨(hb.cell (p := ⟨w.heap.size, 0, none⟩) (Nat.lt_succ_self _)).trans (by simp), (hb.cell (p := ⟨w.heap.size, 1, none⟩) (Nat.lt_succ_self _)).trans (by simp), (hb.cell (p := ⟨w.heap.size, 2, none⟩) (Nat.lt_succ_self _)).trans (by simp), (hb.cell (p := ⟨w.heap.size, 3, none⟩) (Nat.lt_succ_self _)).trans (by simp), ?_, ((Below.refl _ _).alloc (Nat.le_refl _) _).trans (hb.mono (Nat.le_succ _))⟩
  simp at h2; omega

theorem keep5 {wr W w1 : World} {a c d : Addr} {x y z : Value} (ha : a.block < wr.heap.size) (hc : c.block < wr.heap.size) (hd : d.block < wr.heap.size) (h : W.cell? a = some x ∧ W.cell? c = some y ∧ W.cell? d = some z ∧ Below wr.heap.size wr W) (hb : Below W.heap.size W w1) : w1.cell? a = some x ∧ w1.cell? c = some y ∧ w1.cell? d = some z ∧ Below wr.heap.size wr w1 :=
  ⟨(hb.cell (Nat.lt_of_lt_of_le ha h.2.2.2.size)).trans h.1, (hb.cell (Nat.lt_of_lt_of_le hc h.2.2.2.size)).trans h.2.1, (hb.cell (Nat.lt_of_lt_of_le hd h.2.2.2.size)).trans h.2.2.1, h.2.2.2.trans (hb.mono h.2.2.2.size)⟩

set_option maxRecDepth 100000 in
set_option maxHeartbeats 2000000 in
theorem c_firstWrongCall (ao ac : Option Addr) (cap capc : Nat) (a2 a3 : Option Addr) (n2 c2 n3 c3 : Nat) (l : List Nm) (cs : List Cl) (w : World) (hl : l.length ≤ 1000) (hcs : cs.length ≤ 1000) (hi : NmSl w ao l) (hc : ClSl w ac cs) :
    Calls Tryz.prog 140 #[.agg #[.slice ao l.length cap, .slice ac cs.length capc, .slice a2 n2 c2, .slice a3 n3 c3]] w fun e w' => e = .returned (optOut (wrongP l cs)) ∧ Below w.heap.size w w' := by
  have hx0 := Below.refl (w.heap.size + 1) (w.alloc (.cells #[.slice ao l.length cap, .slice ac cs.length capc, .slice a2 n2 c2, .slice a3 n3 c3] 116))
  obtain ⟨o0, o1, o2, o3, hsz0, hbel0⟩ := ob hx0
  go_enter Tryz.func140, Tryz.ntmps140
  go_wp2_with fail
  go_loopw [9] (fun u wr => ∃ (k : Nat), u = .int .i64 k ∧ k ≤ cs.length ∧ wrongP l (cs.drop k) = wrongP l cs ∧ Below (w.heap.size + 1) (w.alloc (.cells #[.slice ao l.length cap, .slice ac cs.length capc, .slice a2 n2 c2, .slice a3 n3 c3] 116)) wr) (fun u _ => cs.length - (intOf u).toNat)
  case atStart => exact ⟨0, rfl, Nat.zero_le _, rfl, hx0⟩
  case round =>
    obtain ⟨k, rfl, hk, hn, hbx⟩ := hrel
    have HN := hide hn
    have HB := hide hbx
    obtain ⟨q0, q1, q2, q3, hsz, hbel⟩ := ob hbx
    clear hn hbx o0 o1 hsz0 hbel0 hx0
    by_cases hlt : k < cs.length
    · obtain ⟨b, o, hb, hao, c1, c2, c3⟩ := (hc.below hbel) k hlt
      subst hao
      have hsl := hi.below hbel
      have HD : Hid (cs.drop k = cs[k] :: cs.drop (k + 1)) := List.drop_eq_getElem_cons hlt
      by_cases hv : (cs[k].values : Int) = paramsP l cs[k].word
      · have hv' : ((cs[k].values : Int) != (paramsP l cs[k].word : Int)) = false := by rw [hv]; simp
        have HE : Hid (wrongP l (cs.drop k) = wrongP l (cs.drop (k + 1))) := by show _ = _; rw [HD.out, wrongP, if_neg (by omega)]
        clear hv
        have x0 : (wr.alloc (.cells #[.string cs[k].word, .int .i64 cs[k].at_, .int .i64 cs[k].values] 286)).cell? ⟨wr.heap.size, 0, none⟩ = some (.string cs[k].word) := by simp
        have x1 : (wr.alloc (.cells #[.string cs[k].word, .int .i64 cs[k].at_, .int .i64 cs[k].values] 286)).cell? ⟨wr.heap.size, 1, none⟩ = some (.int .i64 cs[k].at_) := by simp
        have x2 : (wr.alloc (.cells #[.string cs[k].word, .int .i64 cs[k].at_, .int .i64 cs[k].values] 286)).cell? ⟨wr.heap.size, 2, none⟩ = some (.int .i64 cs[k].values) := by simp
        have xq : (wr.alloc (.cells #[.string cs[k].word, .int .i64 cs[k].at_, .int .i64 cs[k].values] 286)).cell? ⟨w.heap.size, 0, none⟩ = some (.slice ao l.length cap) := by rw [World.cell?_alloc_lt _ _ _ hsz]; exact q0
        have hbX : Below wr.heap.size wr (wr.alloc (.cells #[.string cs[k].word, .int .i64 cs[k].at_, .int .i64 cs[k].values] 286)) := (Below.refl _ _).alloc (Nat.le_refl _) _
        have hzX : wr.heap.size < (wr.alloc (.cells #[.string cs[k].word, .int .i64 cs[k].at_, .int .i64 cs[k].values] 286)).heap.size := by simp
        go_wp2_with fail
        generalize (wr.alloc (.cells #[.string cs[k].word, .int .i64 cs[k].at_, .int .i64 cs[k].values] 286)) = wx at *
        have hslx := hsl.below hbX
        have hqX : w.heap.size < wx.heap.size := by omega
        go_region_held (fun w' => w'.cell? ⟨w.heap.size, 0, none⟩ = some (.slice ao l.length cap) ∧ w'.cell? ⟨wr.heap.size, 0, none⟩ = some (.string cs[k].word) ∧ w'.cell? ⟨wr.heap.size, 2, none⟩ = some (.int .i64 cs[k].values) ∧ Below wx.heap.size wx w') (first | exact ⟨xq, x0, x2, (Below.refl _ _).drew⟩ | exact keep5 hqX hzX hzX (by assumption) (by assumption)) (first | (go_at_call 187; refine (c_paramsOf _ _ l _ _ hl ?_).mono ?_; exact hslx.below (Below.refl _ _).drew; rintro e w2 ⟨rfl, hb2⟩))
        have hb3 : Below wx.heap.size wx w2 := (Below.refl _ _).drew.trans hb2
        have hx3 := (hb3.cell (p := ⟨wr.heap.size, 1, none⟩) hzX).trans x1
        have hfin := (HB.out.trans (hbX.mono hsz)).trans (hb3.mono hqX)
        clear hb2
        go_wp2_with fail
        go_roundw
        case rel => exact ⟨k + 1, by go_num, by omega, by rw [← HN.out, HE.out], hfin⟩
        case measure => simp [intOf]; omega
      · have hv' : ((cs[k].values : Int) != (paramsP l cs[k].word : Int)) = true := bne_iff_ne.2 hv
        have HE : Hid (wrongP l (cs.drop k) = some cs[k].at_) := by show _ = _; rw [HD.out, wrongP, if_pos (by omega)]
        clear hv
        have x0 : (wr.alloc (.cells #[.string cs[k].word, .int .i64 cs[k].at_, .int .i64 cs[k].values] 286)).cell? ⟨wr.heap.size, 0, none⟩ = some (.string cs[k].word) := by simp
        have x1 : (wr.alloc (.cells #[.string cs[k].word, .int .i64 cs[k].at_, .int .i64 cs[k].values] 286)).cell? ⟨wr.heap.size, 1, none⟩ = some (.int .i64 cs[k].at_) := by simp
        have x2 : (wr.alloc (.cells #[.string cs[k].word, .int .i64 cs[k].at_, .int .i64 cs[k].values] 286)).cell? ⟨wr.heap.size, 2, none⟩ = some (.int .i64 cs[k].values) := by simp
        have xq : (wr.alloc (.cells #[.string cs[k].word, .int .i64 cs[k].at_, .int .i64 cs[k].values] 286)).cell? ⟨w.heap.size, 0, none⟩ = some (.slice ao l.length cap) := by rw [World.cell?_alloc_lt _ _ _ hsz]; exact q0
        have hbX : Below wr.heap.size wr (wr.alloc (.cells #[.string cs[k].word, .int .i64 cs[k].at_, .int .i64 cs[k].values] 286)) := (Below.refl _ _).alloc (Nat.le_refl _) _
        have hzX : wr.heap.size < (wr.alloc (.cells #[.string cs[k].word, .int .i64 cs[k].at_, .int .i64 cs[k].values] 286)).heap.size := by simp
        go_wp2_with fail
        generalize (wr.alloc (.cells #[.string cs[k].word, .int .i64 cs[k].at_, .int .i64 cs[k].values] 286)) = wx at *
        have hslx := hsl.below hbX
        have hqX : w.heap.size < wx.heap.size := by omega
        go_region_held (fun w' => w'.cell? ⟨w.heap.size, 0, none⟩ = some (.slice ao l.length cap) ∧ w'.cell? ⟨wr.heap.size, 0, none⟩ = some (.string cs[k].word) ∧ w'.cell? ⟨wr.heap.size, 2, none⟩ = some (.int .i64 cs[k].values) ∧ Below wx.heap.size wx w') (first | exact ⟨xq, x0, x2, (Below.refl _ _).drew⟩ | exact keep5 hqX hzX hzX (by assumption) (by assumption)) (first | (go_at_call 187; refine (c_paramsOf _ _ l _ _ hl ?_).mono ?_; exact hslx.below (Below.refl _ _).drew; rintro e w2 ⟨rfl, hb2⟩))
        have hb3 : Below wx.heap.size wx w2 := (Below.refl _ _).drew.trans hb2
        have hx3 := (hb3.cell (p := ⟨wr.heap.size, 1, none⟩) hzX).trans x1
        have hfin := (HB.out.trans (hbX.mono hsz)).trans (hb3.mono hqX)
        clear hb2
        go_wp2_with fail
        go_ret2
        exact ⟨by rw [← HN.out, HE.out]; rfl, (ob hfin).2.2.2.2.2⟩
    · go_wp2
      go_ret2
      exact ⟨by rw [← HN.out, List.drop_of_length_le (by omega)]; rfl, hbel⟩

theorem outCheck1 {ns : List Nm} {cs : List Cl} {p : Nat} (h : manyP ns = some p) : outCheck ns cs = (4, (p : Int)) := by unfold outCheck; rw [h]
theorem outCheck2 {ns : List Nm} {cs : List Cl} {p : Nat} (h : manyP ns = none) (h2 : twiceP ns = some p) : outCheck ns cs = (5, (p : Int)) := by unfold outCheck; rw [h, h2]
theorem outCheck3 {ns : List Nm} {cs : List Cl} {p : Nat} (h : manyP ns = none) (h2 : twiceP ns = none) (h3 : misP ns = some p) : outCheck ns cs = (5, (p : Int)) := by unfold outCheck; rw [h, h2, h3]
theorem outCheck4 {ns : List Nm} {cs : List Cl} {p : Nat} (h : manyP ns = none) (h2 : twiceP ns = none) (h3 : misP ns = none) (h4 : wrongP ns cs = some p) : outCheck ns cs = (6, (p : Int)) := by unfold outCheck; rw [h, h2, h3, h4]
theorem outCheck5 {ns : List Nm} {cs : List Cl} (h : manyP ns = none) (h2 : twiceP ns = none) (h3 : misP ns = none) (h4 : wrongP ns cs = none) : outCheck ns cs = (0, 0) := by unfold outCheck; rw [h, h2, h3, h4]

set_option maxRecDepth 100000 in
set_option maxHeartbeats 2000000 in
theorem c_checkOutline (ao ac : Option Addr) (cap capc : Nat) (a2 a3 : Option Addr) (n2 c2 n3 c3 : Nat) (l : List Nm) (cs : List Cl) (w : World) (hl : l.length ≤ 999) (hcs : cs.length ≤ 1000) (hi : NmSl w ao l) (hc : ClSl w ac cs) :
    Calls Tryz.prog 101 #[.agg #[.slice ao l.length cap, .slice ac cs.length capc, .slice a2 n2 c2, .slice a3 n3 c3]] w fun e w' => e = .returned (.tuple #[.int .i64 (outCheck l cs).1, .int .i64 (outCheck l cs).2]) ∧ Below w.heap.size w w' := by
  have hx0 := Below.refl (w.heap.size + 1) (w.alloc (.cells #[.slice ao l.length cap, .slice ac cs.length capc, .slice a2 n2 c2, .slice a3 n3 c3] 116))
  obtain ⟨o0, o1, o2, o3, hsz0, hbel0⟩ := ob hx0
  have hi0 := hi.below hbel0
  go_enter Tryz.func101, Tryz.ntmps101
  go_wp2_with fail
  refine (c_firstTooMany _ _ l _ hl hi0).mono ?_
  rintro e w1 ⟨rfl, hb1⟩
  have hx1 := hx0.trans (hb1.mono hsz0)
  obtain ⟨p0, p1, p2, p3, hsz1, hbel1⟩ := ob hx1
  have hi1 := hi.below hbel1
  clear o0 o1 hbel0 hx0 hi0 hb1
  cases h1 : manyP l with
  | some p =>
    have HE := hide (outCheck1 (cs := cs) h1)
    unfold optOut
    go_wp2_with fail
    go_ret2
    exact ⟨by rw [HE.out]; rfl, hbel1⟩
  | none =>
  unfold optOut
  go_wp2_with fail
  refine (c_firstGivenTwice _ _ l _ (by omega) hi1).mono ?_
  rintro e w2 ⟨rfl, hb2⟩
  have hx2 := hx1.trans (hb2.mono hsz1)
  obtain ⟨q0, q1, q2, q3, hsz2, hbel2⟩ := ob hx2
  have hi2 := hi.below hbel2
  clear p0 p1 hbel1 hx1 hi1 hb2
  cases h2 : twiceP l with
  | some p =>
    have HE := hide (outCheck2 (cs := cs) h1 h2)
    unfold optOut
    go_wp2_with fail
    go_ret2
    exact ⟨by rw [HE.out]; rfl, hbel2⟩
  | none =>
  unfold optOut
  go_wp2_with fail
  refine (c_firstMisused _ _ l _ (by omega) hi2).mono ?_
  rintro e w3 ⟨rfl, hb3⟩
  have hx3 := hx2.trans (hb3.mono hsz2)
  obtain ⟨r0, r1, r2, r3, hsz3, hbel3⟩ := ob hx3
  have hi3 := hi.below hbel3
  have hc3 := hc.below hbel3
  clear q0 q1 hbel2 hx2 hi2 hb3
  cases h3 : misP l with
  | some p =>
    have HE := hide (outCheck3 (cs := cs) h1 h2 h3)
    unfold optOut
    go_wp2_with fail
    go_ret2
    exact ⟨by rw [HE.out]; rfl, hbel3⟩
  | none =>
  unfold optOut
  go_wp2_with fail
  refine (c_firstWrongCall _ _ _ _ _ _ _ _ _ _ l cs _ (by omega) hcs hi3 hc3).mono ?_
  rintro e w4 ⟨rfl, hb4⟩
  have hbel4 := hbel3.trans (hb4.mono hbel3.size)
  clear hb4
  cases h4 : wrongP l cs with
  | some p =>
    have HE := hide (outCheck4 (cs := cs) h1 h2 h3 h4)
    unfold optOut
    go_wp2_with fail
    go_ret2
    exact ⟨by rw [HE.out]; rfl, hbel4⟩
  | none =>
  have HE := hide (outCheck5 (cs := cs) h1 h2 h3 h4)
  unfold optOut
  go_wp2_with fail
  go_ret2
  exact ⟨by rw [HE.out]; rfl, hbel4⟩

end Go.Proofs.YtmfcpbhdggonfaaGreatDoor
