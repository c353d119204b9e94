/- The statement Guarded: the answers, by reckoning. -/
import Derived.Test.YtmfcpbhdggonfaaGreatDoorMgBG
import Derived.Test.YtmfcpbhdggonfaaGreatDoorMgBL
import Derived.Test.YtmfcpbhdggonfaaGreatDoorMgBN
import Derived.Test.YtmfcpbhdggonfaaGreatDoorMgBO
namespace Go.Proofs.YtmfcpbhdggonfaaGreatDoor
open Go.RowKit RR

theorem ba_of {b : ByteArray} {l : List UInt8} (h : (b.data.toList == l) = true) : b = ⟨l.toArray⟩ := by
  have h2 : b.data.toList = l := by simpa using h
  subst h2
  rfl
def gCh (lock : Bool) : ByteArray := if lock then ⟨#[97, 99, 113, 117, 105, 114, 101, 32, 109, 59, 32, 120, 32, 61, 32, 33, 120, 59, 32, 114, 101, 108, 101, 97, 115, 101, 32, 109, 59]⟩ else ⟨#[120, 32, 61, 32, 33, 120, 59]⟩
def gT (lock : Bool) (K L : Nat) : ByteArray := (⟨#[115, 104, 97, 114, 101, 100, 32, 120, 59, 32, 108, 111, 99, 107, 115, 32, 109, 59, 32, 112, 114, 111, 99, 32, 112, 40, 41, 32, 123]⟩ : ByteArray) ++ timesG ⟨#[32, 115, 107, 105, 112, 59]⟩ K ++ gCh lock ++ ⟨#[125, 32, 112, 114, 111, 99, 32, 113, 40, 41, 32, 123]⟩ ++ timesG ⟨#[115, 107, 105, 112, 59, 32]⟩ L ++ gCh lock ++ ⟨#[32, 125, 32, 116, 104, 114, 101, 97, 100, 115, 32, 112, 44, 32, 113, 59]⟩
def gAlls (K L d : Nat) : ByteArray := timesG ⟨#[97]⟩ (K + d) ++ timesG ⟨#[98]⟩ (L + d)
def gW (K L : Nat) : Nat := (if 0 < K then 1 else 0) + (if 0 < L then 1 else 0)
def gS (K L : Nat) : List UInt8 := List.replicate K 97 ++ List.replicate L 98
def gOk (K L m k : Nat) (r : Rp) : Bool := !r.dead && (r.deadBy.data.toList == []) && (r.race == (decide (gW K L ≤ m) && decide (K + L ≤ k))) && (r.raceBy.data.toList == (if r.race then gS K L else [])) && decide (1 ≤ r.points) && decide (r.points ≤ 600)
def gAll (p : Plan) (K L : Nat) : Bool := (List.range 6).all fun i => match traceF p ((i : Int) + 1) 61 (beginF p) with
  | none => false
  | some l => (List.range 61).all fun k => match l[min k (l.length - 1)]? with
    | none => false
    | some r => gOk K L (i + 1) k r
def gLok (r : Rp) : Bool := !r.dead && (r.deadBy.data.toList == []) && !r.race && (r.raceBy.data.toList == []) && r.whole
def gLock (p : Plan) : Bool := (List.range 6).all fun i => (match searchP p ((i : Int) + 1) 60 with
  | (r, e) => decide (e = 0) && gLok r)
def gView (x : Vw × Int × Int) : Bool := (x.1.text.data.toList == [48, 47, 45, 47, 47]) && (x.1.enabled.data.toList == []) && !x.1.race && !x.1.dead && decide (x.2.1 = 0) && decide (x.2.2 = 0)
def gP0 (K L : Nat) (x : Vw × Int × Int) : Bool := (x.1.race == (decide (K = 0) && decide (L = 0))) && !x.1.dead && decide (x.2.1 = 0) && decide (x.2.2 = 0)
def gPr (x : Vw × Int × Int) : Bool := x.1.race && decide (x.2.1 = 0) && decide (x.2.2 = 0)
def ctxG (s : ByteArray) (n : Nat) : Bool := decide (s.size ≤ 200) && (List.range s.size).all (fun j => decide (0 ≤ thr (atB s j))) && decide (cntB s s.size = n)
theorem ctxG_of {s : ByteArray} {n : Nat} (h : ctxG s n = true) : ctxN s = ((n : Int), 0) ∧ s.size ≤ 200 := by
  unfold ctxG at h
  simp only [Bool.and_eq_true, decide_eq_true_eq] at h
  exact ⟨by rw [ctx_ok h.1.1 (fun j hj => of_decide_eq_true (List.all_eq_true.1 h.1.2 j (List.mem_range.2 hj))), h.2], h.1.1⟩
theorem ctx_nil : ctxN ⟨#[]⟩ = (0, 0) := by
  rw [ctx_ok (by decide) (fun j hj => absurd hj (Nat.not_lt_zero _))]; rfl
def gB (K L : Nat) : Bool := goodB (gT false K L) && atsM (planOf (gT false K L)) && gAll (planOf (gT false K L)) K L && gView (playP (planOf (gT false K L)) (gAlls K L 2)) && gP0 K L (playP (planOf (gT false K L)) ⟨#[]⟩) && gPr (playP (planOf (gT false K L)) ⟨(gS K L).toArray⟩) && ctxG ⟨(gS K L).toArray⟩ (gW K L)
def gC (K L : Nat) : Bool := goodB (gT true K L) && atsM (planOf (gT true K L)) && gLock (planOf (gT true K L)) && gView (playP (planOf (gT true K L)) (gAlls K L 4))
theorem gB_00 : gB 0 0 = true := by kernel_rfl
theorem gB_01 : gB 0 1 = true := by kernel_rfl
theorem gB_02 : gB 0 2 = true := by kernel_rfl
theorem gB_10 : gB 1 0 = true := by kernel_rfl
theorem gB_11 : gB 1 1 = true := by kernel_rfl
theorem gB_12 : gB 1 2 = true := by kernel_rfl
theorem gB_20 : gB 2 0 = true := by kernel_rfl
theorem gB_21 : gB 2 1 = true := by kernel_rfl
theorem gB_22 : gB 2 2 = true := by kernel_rfl
theorem gC_00 : gC 0 0 = true := by kernel_rfl
theorem gC_01 : gC 0 1 = true := by kernel_rfl
theorem gC_10 : gC 1 0 = true := by kernel_rfl
theorem gC_11 : gC 1 1 = true := by kernel_rfl
theorem gB_all (K L : Nat) (hK : K < 3) (hL : L < 3) : gB K L = true := by
  have hk : K = 0 ∨ K = 1 ∨ K = 2 := by omega
  have hl : L = 0 ∨ L = 1 ∨ L = 2 := by omega
  rcases hk with rfl | rfl | rfl <;> rcases hl with rfl | rfl | rfl
  · exact gB_00
  · exact gB_01
  · exact gB_02
  · exact gB_10
  · exact gB_11
  · exact gB_12
  · exact gB_20
  · exact gB_21
  · exact gB_22
theorem gC_all (K L : Nat) (hK : K < 2) (hL : L < 2) : gC K L = true := by
  have hk : K = 0 ∨ K = 1 := by omega
  have hl : L = 0 ∨ L = 1 := by omega
  rcases hk with rfl | rfl <;> rcases hl with rfl | rfl
  · exact gC_00
  · exact gC_01
  · exact gC_10
  · exact gC_11
structure GdR (K L m k : Nat) (r : Rp) : Prop where
  dead : r.dead = false
  deadBy : r.deadBy = ⟨#[]⟩
  race : r.race = (decide (gW K L ≤ m) && decide (K + L ≤ k))
  raceBy : r.raceBy = if r.race then ⟨(gS K L).toArray⟩ else ⟨#[]⟩
  p1 : 1 ≤ r.points
  p6 : r.points ≤ 600
theorem gdR_of {K L m k : Nat} {r : Rp} (h : gOk K L m k r = true) : GdR K L m k r := by
  unfold gOk at h
  simp only [Bool.and_eq_true, Bool.not_eq_true', decide_eq_true_eq] at h
  obtain ⟨⟨⟨⟨⟨h1, h2⟩, h3⟩, h4⟩, h5⟩, h6⟩ := h
  refine ⟨h1, ba_of h2, by simpa using h3, ?_, h5, h6⟩
  cases hd : r.race
  · rw [hd] at h4; exact ba_of h4
  · rw [hd] at h4; exact ba_of h4
theorem gd_all {p : Plan} {K L : Nat} (h : gAll p K L = true) (i k : Nat) (hi : i < 6) (hk : k < 61) : ∃ r, searchP p (1 + (i : Int)) k = (r, 0) ∧ GdR K L (i + 1) k r := by
  unfold gAll at h
  have h1 := List.all_eq_true.1 h i (List.mem_range.2 hi)
  cases ht : traceF p ((i : Int) + 1) 61 (beginF p) with
  | none => rw [ht] at h1; cases h1
  | some l =>
    rw [ht] at h1
    have h2 := List.all_eq_true.1 h1 k (List.mem_range.2 hk)
    obtain ⟨r, h3, h4⟩ := search_trace (p := p) (most := (i : Int) + 1) (by omega) (by omega) ht k (by omega)
    rw [h4] at h2
    exact ⟨r, by rw [Int.add_comm]; exact h3, gdR_of h2⟩
theorem gd_lock {p : Plan} (h : gLock p = true) (i : Nat) (hi : i < 6) : ∃ r, searchP p (1 + (i : Int)) 60 = (r, 0) ∧ (r.dead = false ∧ r.deadBy = ⟨#[]⟩) ∧ r.race = false ∧ r.raceBy = ⟨#[]⟩ ∧ r.whole = true := by
  unfold gLock at h
  have h1 := List.all_eq_true.1 h i (List.mem_range.2 hi)
  cases hs : searchP p ((i : Int) + 1) 60 with
  | mk r e =>
    rw [hs] at h1
    have h1 : (decide (e = 0) && gLok r) = true := h1
    unfold gLok at h1
    simp only [Bool.and_eq_true, Bool.not_eq_true', decide_eq_true_eq] at h1
    obtain ⟨h0, ⟨⟨⟨h2, h3⟩, h4⟩, h5⟩, h6⟩ := h1
    exact ⟨r, by rw [Int.add_comm, hs, h0], ⟨h2, ba_of h3⟩, h4, ba_of h5, h6⟩
theorem sea_gd {text : ByteArray} {r : Rp} {c : Int} {k : Nat} (hg : goodB text = true) (h1 : ¬ c < 1) (h6 : ¬ 6 < c) (hk : k ≤ 60) (hs : searchP (planOf text) c k = (r, 0)) (hd : r.dead = false) (hb : r.deadBy = ⟨#[]⟩) (w : World) :
    Calls Tryz.prog 20 #[.string text, .int .i64 c, .int .i64 k] w fun e w' => e = .returned (.tuple #[.agg #[.bool r.race, .bool false, .string r.raceBy, .string ⟨#[]⟩, .bool r.whole, .int .i64 r.points], .int .i64 0]) ∧ Below w.heap.size w w' := by
  refine (m_Search text c k _ _ _ w (good_of hg) h1 h6 hk).mono ?_
  rintro e w' ⟨rfl, hb2⟩
  refine ⟨?_, hb2⟩
  show Ending.returned (.tuple #[.agg (rpL (searchP (planOf text) c k).1).toArray, .int .i64 (searchP (planOf text) c k).2]) = _
  rw [hs]
  show Ending.returned (.tuple #[.agg #[.bool r.race, .bool r.dead, .string r.raceBy, .string r.deadBy, .bool r.whole, .int .i64 r.points], .int .i64 0]) = _
  rw [hd, hb]
theorem play_gd {text s : ByteArray} (hg : goodB text = true) (ha : atsM (planOf text) = true) (hs : s.size ≤ 200) (hv : gView (playP (planOf text) s) = true) {w : World} (ht : TabOk w) : Calls Tryz.prog 22 #[.string text, .string s] w fun e w' => e = .returned (.tuple #[.agg #[.string ⟨#[48, 47, 45, 47, 47]⟩, .string ⟨#[]⟩, .bool false, .bool false], .int .i64 0, .int .i64 0]) ∧ Below w.heap.size w w' := by
  generalize hx : playP (planOf text) s = x at hv
  obtain ⟨⟨T, E, rc, dd⟩, e1, e2⟩ := x
  unfold gView at hv
  simp only [Bool.and_eq_true, Bool.not_eq_true', decide_eq_true_eq] at hv
  obtain ⟨⟨⟨⟨⟨h1, h2⟩, h3⟩, h4⟩, h5⟩, h6⟩ := hv
  have h1 : T = ⟨#[48, 47, 45, 47, 47]⟩ := ba_of h1
  have h2 : E = ⟨#[]⟩ := ba_of h2
  subst h1 h2 h3 h4 h5 h6
  exact (play_tab hg ha hs hx ht).mono fun _ _ h => h
theorem shw_gd {text : ByteArray} {W : World} {K L m k : Nat} {r : Rp} (hg : goodB text = true) (ha : atsM (planOf text) = true) (ht : TabOk W) (hr : GdR K L m k r) (hKL : K = 0 ∧ L = 0 → r.race = true)
    (q0 : gP0 K L (playP (planOf text) ⟨#[]⟩) = true) (qd : gPr (playP (planOf text) ⟨(gS K L).toArray⟩) = true) (hc : ctxG ⟨(gS K L).toArray⟩ (gW K L) = true) (hs : (⟨(gS K L).toArray⟩ : ByteArray).size = K + L) : Shw W text r.raceBy ⟨#[]⟩ r.race false r.points m k := by
  have play0 : ∀ w, Below W.heap.size W w → Calls Tryz.prog 22 #[.string text, .string ⟨#[]⟩] w fun e w' => (∃ T E, e = .returned (.tuple #[.agg #[.string T, .string E, .bool (decide (K = 0) && decide (L = 0)), .bool false], .int .i64 0, .int .i64 0])) ∧ Below w.heap.size w w' := by
    intro w hw
    generalize hx : playP (planOf text) ⟨#[]⟩ = x at q0
    obtain ⟨⟨T, E, rc, dd⟩, e1, e2⟩ := x
    unfold gP0 at q0
    simp only [Bool.and_eq_true, Bool.not_eq_true', decide_eq_true_eq] at q0
    obtain ⟨⟨⟨h1, h2⟩, h3⟩, h4⟩ := q0
    have h1 : rc = (decide (K = 0) && decide (L = 0)) := by simpa using h1
    subst h1 h2 h3 h4
    exact (play_tab hg ha (by decide) hx (ht.below hw)).mono fun _ _ h => ⟨⟨T, E, h.1⟩, h.2⟩
  have playr : ∀ w, Below W.heap.size W w → Calls Tryz.prog 22 #[.string text, .string ⟨(gS K L).toArray⟩] w fun e w' => (∃ T E d, e = .returned (.tuple #[.agg #[.string T, .string E, .bool true, .bool d], .int .i64 0, .int .i64 0])) ∧ Below w.heap.size w w' := by
    intro w hw
    generalize hx : playP (planOf text) ⟨(gS K L).toArray⟩ = x at qd
    obtain ⟨⟨T, E, rc, dd⟩, e1, e2⟩ := x
    unfold gPr at qd
    simp only [Bool.and_eq_true, decide_eq_true_eq] at qd
    obtain ⟨⟨h1, h2⟩, h3⟩ := qd
    subst h1 h2 h3
    exact (play_tab hg ha (ctxG_of hc).2 hx (ht.below hw)).mono fun _ _ h => ⟨⟨T, E, dd, h.1⟩, h.2⟩
  have hn1 := hr.p1
  have hn6 := hr.p6
  have hdd := hr.race
  have hdb := hr.raceBy
  have cn : ∃ n : Int, ¬ (m : Int) < n ∧ ∀ w, Calls Tryz.prog 34 #[.string ⟨#[]⟩] w fun e w' => e = .returned (.tuple #[.int .i64 n, .int .i64 0]) ∧ w' = w := ⟨0, by omega, fun w => by have := m_Contexts ⟨#[]⟩ w (by decide); rwa [ctx_nil] at this⟩
  have pd : ∀ w, Below W.heap.size W w → Calls Tryz.prog 22 #[.string text, .string ⟨#[]⟩] w fun e w' => (∃ T E r, e = .returned (.tuple #[.agg #[.string T, .string E, .bool r, .bool false], .int .i64 0, .int .i64 0])) ∧ Below w.heap.size w w' := fun w hw => (play0 w hw).mono fun _ _ h => ⟨by obtain ⟨T, E, h1⟩ := h.1; exact ⟨T, E, _, h1⟩, h.2⟩
  have l0 : ¬ (k : Int) < (((⟨#[]⟩ : ByteArray).size : Nat) : Int) := by show ¬ (k : Int) < ((0 : Nat) : Int); omega
  cases hd : r.race with
  | false =>
    rw [hd] at hdb
    have hdb : r.raceBy = ⟨#[]⟩ := hdb
    have hkl : (decide (K = 0) && decide (L = 0)) = false := by
      cases hq : (decide (K = 0) && decide (L = 0)) with
      | false => rfl
      | true =>
        simp only [Bool.and_eq_true, decide_eq_true_eq] at hq
        rw [hKL hq] at hd; cases hd
    rw [hdb]
    rw [hkl] at play0
    exact { p1 := fun w hw => (play0 w hw).mono fun _ _ h => ⟨by obtain ⟨T, E, h1⟩ := h.1; exact ⟨T, E, false, h1⟩, h.2⟩, p2 := pd, c1 := cn, c2 := cn, l1 := l0, l2 := l0, r0 := fun _ => rfl, d0 := fun _ => rfl, n1 := by omega, n6 := by omega }
  | true =>
    rw [hd] at hdb hdd
    have hdb : r.raceBy = ⟨(gS K L).toArray⟩ := hdb
    have hnm : gW K L ≤ m ∧ K + L ≤ k := by simpa using hdd.symm
    rw [hdb]
    exact { p1 := playr, p2 := pd, c1 := ⟨gW K L, by omega, fun w => by
        have h2 := (ctxG_of hc).2
        have := m_Contexts ⟨(gS K L).toArray⟩ w (by unfold maxLen; omega)
        rwa [(ctxG_of hc).1] at this⟩, c2 := cn, l1 := by rw [hs]; omega, l2 := l0, r0 := (fun h => by cases h), d0 := fun _ => rfl, n1 := by omega, n6 := by omega }
theorem gS_size (K L : Nat) : (⟨(gS K L).toArray⟩ : ByteArray).size = K + L := by
  unfold gS
  show ((List.replicate K 97 ++ List.replicate L 98 : List UInt8).toArray).size = K + L
  simp
theorem timesR_of (s : ByteArray) (hs : s.size ≤ 10) (x : Int) (n : Nat) (hx : x = n) (hn : n ≤ 1000) : TimesR s x (timesG s n) := fun w => by
  subst hx
  exact k_timesG s n hn (by omega) w
theorem timesG_le (s : ByteArray) (hs : s.size ≤ 10) (n : Nat) (hn : n ≤ 10) : (timesG s n).size ≤ 100 := by
  rw [timesG_size]
  exact Nat.mul_le_mul hn hs
theorem k_pickN (c m : Int) (hc : -9223372036854775808 ≤ c ∧ c ≤ 9223372036854775807) (hm : 0 < m ∧ m ≤ 1000) : ∃ j : Nat, (j : Int) < m ∧ PickR c m j := k_pickG c m hc hm
theorem alls_size (K L d : Nat) (hK : K + d ≤ 10) (hL : L + d ≤ 10) : (gAlls K L d).size ≤ 200 := by
  unfold gAlls
  rw [ByteArray.size_append, timesG_size, timesG_size]
  show (K + d) * 1 + (L + d) * 1 ≤ 200
  omega

theorem k_Guarded_all (k l c n : Int) (hk : -9223372036854775808 ≤ k ∧ k ≤ 9223372036854775807) (hl : -9223372036854775808 ≤ l ∧ l ≤ 9223372036854775807) (hc : -9223372036854775808 ≤ c ∧ c ≤ 9223372036854775807) (hn : -9223372036854775808 ≤ n ∧ n ≤ 9223372036854775807) (lock : Bool) (W : World) (ht : TabOk W) :
    Calls Tryz.prog 10 #[.int .i64 k, .int .i64 l, .int .i64 c, .int .i64 n, .bool lock] W fun e w' => e = .returned (.bool true) ∧ Below W.heap.size W w' := by
  obtain ⟨K, hK, q1⟩ := k_pickN k 3 hk (by decide)
  obtain ⟨L, hL, q2⟩ := k_pickN l 3 hl (by decide)
  obtain ⟨j1, h1, q3⟩ := k_pickN c 6 hc (by decide)
  obtain ⟨j2, h2, q4⟩ := k_pickN n 61 hn (by decide)
  cases lock
  · have hB := gB_all K L (by omega) (by omega)
    unfold gB at hB
    simp only [Bool.and_eq_true] at hB
    obtain ⟨⟨⟨⟨⟨⟨b1, b2⟩, b3⟩, b4⟩, b5⟩, b6⟩, b7⟩ := hB
    obtain ⟨r, hr, hR⟩ := gd_all b3 j1 j2 (by omega) (by omega)
    refine k_Guarded_bare k l c n K L j1 j2 (by omega) (by omega) (by omega) (by omega) W r.race r.whole _ _ _ _ r.raceBy r.points q1 q2 q3 q4 (timesR_of _ (by decide) K K rfl (by omega)) (timesR_of _ (by decide) L L rfl (by omega)) (timesR_of _ (by decide) _ (K + 2) (by omega) (by omega)) (timesR_of _ (by decide) _ (L + 2) (by omega) (by omega)) (timesG_le _ (by decide) _ (by omega)) (timesG_le _ (by decide) _ (by omega)) (timesG_le _ (by decide) _ (by omega)) (timesG_le _ (by decide) _ (by omega))
      (fun w _ => sea_gd (text := gT false K L) b1 (by omega) (by omega) (by omega) hr hR.dead hR.deadBy w) (fun w hw => play_gd (text := gT false K L) b1 b2 (alls_size K L 2 (by omega) (by omega)) b4 (ht.below hw)) ?_ ?_ (fun w hw => ?_)
    · have e1 : decide (gW K L ≤ j1 + 1) = decide ((if 0 < K then (1 : Int) else 0) + (if 0 < L then 1 else 0) ≤ 1 + j1) := decide_eq_decide.2 (by unfold gW; split <;> split <;> omega)
      have e2 : decide (K + L ≤ j2) = decide ((K : Int) + L ≤ j2) := decide_eq_decide.2 (by omega)
      rw [hR.race, e1, e2]
    · intro hd
      have := hR.raceBy
      rw [hd] at this
      rw [this]; exact gS_size K L
    · have hsh := k_shown W (gT false K L) r.raceBy ⟨#[]⟩ r.race false r.whole r.points ((j1 + 1 : Nat) : Int) (j2 : Int) (shw_gd b1 b2 ht hR (fun hq => by rw [hR.race, hq.1, hq.2, decide_eq_true (by unfold gW; simp), decide_eq_true (by omega)]; rfl) b5 b6 b7 (gS_size K L)) w hw
      have e : ((j1 + 1 : Nat) : Int) = 1 + (j1 : Int) := by omega
      rw [e] at hsh
      exact hsh
  · have hB := gC_all (K % 2) (L % 2) (by omega) (by omega)
    unfold gC at hB
    simp only [Bool.and_eq_true] at hB
    obtain ⟨⟨⟨b1, b2⟩, b3⟩, b4⟩ := hB
    obtain ⟨r, hr, hR1, hR2, hR3, hR4⟩ := gd_lock b3 j1 (by omega)
    have m1 : (K : Int) % 2 = ((K % 2 : Nat) : Int) := by omega
    have m2 : (L : Int) % 2 = ((L % 2 : Nat) : Int) := by omega
    exact k_Guarded_lock k l c n K L (K % 2) (L % 2) j1 j2 (by rw [Int.tmod_eq_emod_of_nonneg (by omega)]; exact m1) (by rw [Int.tmod_eq_emod_of_nonneg (by omega)]; exact m2) m1 m2 (by omega) (by omega) (by omega) (by omega) (by omega) (by omega) W r.race r.whole _ _ _ _ _ _ r.raceBy r.points q1 q2 q3 q4 (timesR_of _ (by decide) _ (K % 2) rfl (by omega)) (timesR_of _ (by decide) _ (L % 2) rfl (by omega)) (timesR_of _ (by decide) _ (K % 2 + 4) (by omega) (by omega)) (timesR_of _ (by decide) _ (L % 2 + 4) (by omega) (by omega)) (timesR_of _ (by decide) _ (K % 2 + 2) (by omega) (by omega)) (timesR_of _ (by decide) _ (L % 2 + 2) (by omega) (by omega)) (timesG_le _ (by decide) _ (by omega)) (timesG_le _ (by decide) _ (by omega)) (timesG_le _ (by decide) _ (by omega)) (timesG_le _ (by decide) _ (by omega)) (timesG_le _ (by decide) _ (by omega)) (timesG_le _ (by decide) _ (by omega))
      (fun w _ => sea_gd (text := gT true (K % 2) (L % 2)) (k := 60) b1 (by omega) (by omega) (by omega) hr hR1.1 hR1.2 w) (fun w hw => play_gd (text := gT true (K % 2) (L % 2)) b1 b2 (alls_size _ _ 4 (by omega) (by omega)) b4 (ht.below hw)) ⟨hR2, hR3, hR4⟩

end Go.Proofs.YtmfcpbhdggonfaaGreatDoor
