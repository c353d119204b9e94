/- The statement Rings: the answers, by reckoning. -/
import Derived.Test.YtmfcpbhdggonfaaGreatDoorMgBG
import Derived.Test.YtmfcpbhdggonfaaGreatDoorMgBL
import Derived.Test.YtmfcpbhdggonfaaGreatDoorMgBN
import Derived.Test.YtmfcpbhdggonfaaGreatDoorMgBO
namespace Go.Proofs.YtmfcpbhdggonfaaGreatDoor
open Go.RowKit RR

theorem ba_of {b : ByteArray} {l : List UInt8} (h : (b.data.toList == l) = true) : b = ⟨l.toArray⟩ := by
  have h2 : b.data.toList = l := by simpa using h
  subst h2
  rfl
/-- What a report must be. -/
def ringOk (n : Nat) (db : List UInt8) (m k : Nat) (r : Rp) : Bool := !r.race && (r.raceBy.data.toList == []) && (r.dead == (decide (n ≤ m) && decide (n ≤ k))) && (r.deadBy.data.toList == (if r.dead then db else [])) && decide (1 ≤ r.points) && decide (r.points ≤ 600)
def ringAll (p : Plan) (n : Nat) (db : List UInt8) : Bool := (List.range 6).all fun i => match traceF p ((i : Int) + 1) 61 (beginF p) with
  | none => false
  | some l => (List.range 61).all fun k => match l[min k (l.length - 1)]? with
    | none => false
    | some r => ringOk n db (i + 1) k r
def ringThree (p : Plan) (n : Nat) (db : List UInt8) : Bool := (List.range 6).all fun i => (match searchP p ((i : Int) + 1) 3 with
  | (r, e) => decide (e = 0) && ringOk n db (i + 1) 3 r)
structure RingR (n : Nat) (db : List UInt8) (m k : Nat) (r : Rp) : Prop where
  race : r.race = false
  raceBy : r.raceBy = ⟨#[]⟩
  dead : r.dead = (decide (n ≤ m) && decide (n ≤ k))
  deadBy : r.deadBy = if r.dead then ⟨db.toArray⟩ else ⟨#[]⟩
  p1 : 1 ≤ r.points
  p6 : r.points ≤ 600
theorem ringR_of {n m k : Nat} {db : List UInt8} {r : Rp} (h : ringOk n db m k r = true) : RingR n db m k r := by
  unfold ringOk at h
  simp only [Bool.and_eq_true, Bool.not_eq_true', decide_eq_true_eq] at h
  obtain ⟨⟨⟨⟨⟨h1, h2⟩, h3⟩, h4⟩, h5⟩, h6⟩ := h
  refine ⟨h1, ba_of h2, by simpa using h3, ?_, h5, h6⟩
  cases hd : r.dead
  · rw [hd] at h4; exact ba_of h4
  · rw [hd] at h4; exact ba_of h4
theorem ring_two {p : Plan} {n : Nat} {db : List UInt8} (h : ringAll p n db = true) (i k : Nat) (hi : i < 6) (hk : k < 61) : ∃ r, searchP p (1 + (i : Int)) k = (r, 0) ∧ RingR n db (i + 1) k r := by
  unfold ringAll at h
  have h1 := List.all_eq_true.1 h i (List.mem_range.2 hi)
  cases ht : traceF p ((i : Int) + 1) 61 (beginF p) with
  | none => rw [ht] at h1; cases h1
  | some l =>
    rw [ht] at h1
    have h2 := List.all_eq_true.1 h1 k (List.mem_range.2 hk)
    obtain ⟨r, h3, h4⟩ := search_trace (p := p) (most := (i : Int) + 1) (by omega) (by omega) ht k (by omega)
    rw [h4] at h2
    exact ⟨r, by rw [Int.add_comm]; exact h3, ringR_of h2⟩
theorem ring_three {p : Plan} {n : Nat} {db : List UInt8} (h : ringThree p n db = true) (i : Nat) (hi : i < 6) : ∃ r, searchP p (1 + (i : Int)) 3 = (r, 0) ∧ RingR n db (i + 1) 3 r := by
  unfold ringThree at h
  have h1 := List.all_eq_true.1 h i (List.mem_range.2 hi)
  cases hs : searchP p ((i : Int) + 1) 3 with
  | mk r e =>
    rw [hs] at h1
    have h1 : (decide (e = 0) && ringOk n db (i + 1) 3 r) = true := h1
    simp only [Bool.and_eq_true, decide_eq_true_eq] at h1
    exact ⟨r, by rw [Int.add_comm, hs, h1.1], ringR_of h1.2⟩
theorem sea_of {text : ByteArray} {r : Rp} {c : Int} {k : Nat} {n : Nat} {db : List UInt8} {m : Nat} (hg : goodB text = true) (h1 : ¬ c < 1) (h6 : ¬ 6 < c) (hk : k ≤ 60) (hs : searchP (planOf text) c k = (r, 0)) (hr : RingR n db m k r) (w : World) :
    Calls Tryz.prog 20 #[.string text, .int .i64 c, .int .i64 k] w fun e w' => e = .returned (.tuple #[.agg #[.bool false, .bool r.dead, .string ⟨#[]⟩, .string r.deadBy, .bool r.whole, .int .i64 r.points], .int .i64 0]) ∧ Below w.heap.size w w' := by
  refine (m_Search text c k _ _ _ w (good_of hg) h1 h6 hk).mono ?_
  rintro e w' ⟨rfl, hb⟩
  refine ⟨?_, hb⟩
  show Ending.returned (.tuple #[.agg (rpL (searchP (planOf text) c k).1).toArray, .int .i64 (searchP (planOf text) c k).2]) = _
  rw [hs]
  show Ending.returned (.tuple #[.agg #[.bool r.race, .bool r.dead, .string r.raceBy, .string r.deadBy, .bool r.whole, .int .i64 r.points], .int .i64 0]) = _
  rw [hr.race, hr.raceBy]
theorem ctx_nil : ctxN ⟨#[]⟩ = (0, 0) := by
  rw [ctx_ok (by decide) (fun j hj => absurd hj (Nat.not_lt_zero _))]; rfl
/-- A schedule in which no thread makes two steps in a row. -/
def ctxB (s : ByteArray) (n : Nat) : Bool := decide (s.size ≤ 200) && (List.range s.size).all (fun j => decide (0 ≤ thr (atB s j))) && decide (cntB s s.size = n)
theorem ctx_of {s : ByteArray} {n : Nat} (h : ctxB s n = true) : ctxN s = ((n : Int), 0) := by
  unfold ctxB at h
  simp only [Bool.and_eq_true, decide_eq_true_eq] at h
  rw [ctx_ok h.1.1 (fun j hj => of_decide_eq_true (List.all_eq_true.1 h.1.2 j (List.mem_range.2 hj))), h.2]
theorem shw_of {text : ByteArray} {W : World} {n m k : Nat} {db : List UInt8} {r : Rp} (hg : goodB text = true) (ha : atsM (planOf text) = true) (ht : TabOk W) (hr : RingR n db m k r)
    (q0 : (fun x : Vw × Int × Int => (x.1.race, x.1.dead, x.2.1, x.2.2)) (playP (planOf text) ⟨#[]⟩) = (false, false, 0, 0)) (qd : (fun x : Vw × Int × Int => (x.1.dead, x.2.1, x.2.2)) (playP (planOf text) ⟨db.toArray⟩) = (true, 0, 0))
    (hc : ctxB ⟨db.toArray⟩ n = true) (hs : (⟨db.toArray⟩ : ByteArray).size = n) : Shw W text ⟨#[]⟩ r.deadBy false r.dead r.points m k := by
  have play0 : ∀ w, Below W.heap.size W w → Calls Tryz.prog 22 #[.string text, .string ⟨#[]⟩] w fun e w' => (∃ T E, e = .returned (.tuple #[.agg #[.string T, .string E, .bool false, .bool false], .int .i64 0, .int .i64 0])) ∧ Below w.heap.size w w' := by
    intro w hw
    generalize hx : playP (planOf text) ⟨#[]⟩ = x at q0
    obtain ⟨⟨T, E, rc, dd⟩, e1, e2⟩ := x
    have q0 : (rc, dd, e1, e2) = (false, false, (0 : Int), (0 : Int)) := q0
    cases q0
    exact (play_tab hg ha (by decide) hx (ht.below hw)).mono fun _ _ h => ⟨⟨T, E, h.1⟩, h.2⟩
  have playd : ∀ w, Below W.heap.size W w → Calls Tryz.prog 22 #[.string text, .string ⟨db.toArray⟩] w fun e w' => (∃ T E rc, e = .returned (.tuple #[.agg #[.string T, .string E, .bool rc, .bool true], .int .i64 0, .int .i64 0])) ∧ Below w.heap.size w w' := by
    intro w hw
    generalize hx : playP (planOf text) ⟨db.toArray⟩ = x at qd
    obtain ⟨⟨T, E, rc, dd⟩, e1, e2⟩ := x
    have qd : (dd, e1, e2) = (true, (0 : Int), (0 : Int)) := qd
    cases qd
    have hs2 : (⟨db.toArray⟩ : ByteArray).size ≤ 200 := by
      unfold ctxB at hc
      simp only [Bool.and_eq_true, decide_eq_true_eq] at hc
      exact hc.1.1
    exact (play_tab hg ha hs2 hx (ht.below hw)).mono fun _ _ h => ⟨⟨T, E, rc, h.1⟩, h.2⟩
  have hn1 := hr.p1
  have hn6 := hr.p6
  have hdd := hr.dead
  have hdb := hr.deadBy
  cases hd : r.dead with
  | false =>
    rw [hd] at hdb
    have hdb : r.deadBy = ⟨#[]⟩ := hdb
    rw [hdb]
    exact {
      p1 := fun w hw => (play0 w hw).mono fun _ _ h => ⟨by obtain ⟨T, E, h1⟩ := h.1; exact ⟨T, E, false, h1⟩, h.2⟩
      p2 := fun w hw => (play0 w hw).mono fun _ _ h => ⟨by obtain ⟨T, E, h1⟩ := h.1; exact ⟨T, E, false, h1⟩, h.2⟩
      c1 := ⟨0, by omega, fun w => by have := m_Contexts ⟨#[]⟩ w (by decide); rwa [ctx_nil] at this⟩
      c2 := ⟨0, by omega, fun w => by have := m_Contexts ⟨#[]⟩ w (by decide); rwa [ctx_nil] at this⟩
      l1 := by show ¬ (k : Int) < ((0 : Nat) : Int); omega
      l2 := by show ¬ (k : Int) < ((0 : Nat) : Int); omega
      r0 := fun _ => rfl
      d0 := fun _ => rfl
      n1 := by omega
      n6 := by omega }
  | true =>
    rw [hd] at hdb hdd
    have hdb : r.deadBy = ⟨db.toArray⟩ := hdb
    have hnm : n ≤ m ∧ n ≤ k := by simpa using hdd.symm
    rw [hdb]
    exact {
      p1 := fun w hw => (play0 w hw).mono fun _ _ h => ⟨by obtain ⟨T, E, h1⟩ := h.1; exact ⟨T, E, false, h1⟩, h.2⟩
      p2 := fun w hw => (playd w hw).mono fun _ _ h => ⟨by obtain ⟨T, E, rc, h1⟩ := h.1; exact ⟨T, E, rc, h1⟩, h.2⟩
      c1 := ⟨0, by omega, fun w => by have := m_Contexts ⟨#[]⟩ w (by decide); rwa [ctx_nil] at this⟩
      c2 := ⟨n, by omega, fun w => by
        have := m_Contexts ⟨db.toArray⟩ w (by rw [hs]; unfold maxLen; have := hnm.2; unfold ctxB at hc; simp only [Bool.and_eq_true, decide_eq_true_eq] at hc; omega)
        rwa [ctx_of hc] at this⟩
      l1 := by show ¬ (k : Int) < ((0 : Nat) : Int); omega
      l2 := by rw [hs]; omega
      r0 := fun _ => rfl
      d0 := fun h => by cases h
      n1 := by omega
      n6 := by omega }

def ringDW : ByteArray := ⟨#[108, 111, 99, 107, 115, 32, 109, 44, 32, 110, 59, 32, 112, 114, 111, 99, 32, 112, 40, 41, 32, 123, 32, 97, 99, 113, 117, 105, 114, 101, 32, 109, 59, 32, 97, 99, 113, 117, 105, 114, 101, 32, 110, 59, 32, 114, 101, 108, 101, 97, 115, 101, 32, 110, 59, 32, 114, 101, 108, 101, 97, 115, 101, 32, 109, 59, 32, 125, 32, 112, 114, 111, 99, 32, 113, 40, 41, 32, 123, 32, 97, 99, 113, 117, 105, 114, 101, 32, 110, 59, 32, 97, 99, 113, 117, 105, 114, 101, 32, 109, 59, 32, 114, 101, 108, 101, 97, 115, 101, 32, 109, 59, 32, 114, 101, 108, 101, 97, 115, 101, 32, 110, 59, 32, 125, 32, 116, 104, 114, 101, 97, 100, 115, 32, 112, 44, 32, 113, 59]⟩
theorem ringDW_good : goodB ringDW = true := by kernel_rfl
theorem ringDW_ats : atsM (planOf ringDW) = true := by kernel_rfl
theorem ringDW_all : ringAll (planOf ringDW) 2 [97, 98] = true := by kernel_rfl
theorem ringDW_p0 : (fun x : Vw × Int × Int => (x.1.race, x.1.dead, x.2.1, x.2.2)) (playP (planOf ringDW) ⟨#[]⟩) = (false, false, 0, 0) := by kernel_rfl
theorem ringDW_pd : (fun x : Vw × Int × Int => (x.1.dead, x.2.1, x.2.2)) (playP (planOf ringDW) ⟨([97, 98] : List UInt8).toArray⟩) = (true, 0, 0) := by kernel_rfl
theorem ringDW_play : (fun x : Vw × Int × Int => (x.1.enabled.data.toList, x.1.race, x.1.dead, x.2.1, x.2.2)) (playP (planOf ringDW) ⟨#[97, 98]⟩) = ([], false, true, 0, 0) := by kernel_rfl
theorem ringDW_ctx : ctxB ⟨([97, 98] : List UInt8).toArray⟩ 2 = true := by kernel_rfl
theorem ringDW_holds (c s : Int) (hc : -9223372036854775808 ≤ c ∧ c ≤ 9223372036854775807) (hs : -9223372036854775808 ≤ s ∧ s ≤ 9223372036854775807) (W : World) (ht : TabOk W) :
    Calls Tryz.prog 11 #[.bool false, .int .i64 c, .int .i64 s, .bool false] W fun e w' => e = .returned (.bool true) ∧ Below W.heap.size W w' := by
  obtain ⟨j1, h1, hp1⟩ := k_pickM c 6 hc (by decide)
  obtain ⟨j2, h2, hp2⟩ := k_pickM s 61 hs (by decide)
  obtain ⟨r, hr, hR⟩ := ring_two ringDW_all j1 j2 (by omega) (by omega)
  refine k_Rings_two_whole c s j1 j2 W r.dead r.whole r.deadBy r.points (by omega) (by omega) hp1 hp2 (fun w _ => sea_of (k := j2) ringDW_good (by omega) (by omega) (by omega) hr hR w) (fun w hw => ?_) ?_ ?_ (fun w hw => ?_)
  · have q := ringDW_play
    generalize hx : playP (planOf ringDW) ⟨#[97, 98]⟩ = x at q
    obtain ⟨⟨T, E, rc, dd⟩, e1, e2⟩ := x
    have q : (E.data.toList, rc, dd, e1, e2) = (([] : List UInt8), false, true, (0 : Int), (0 : Int)) := q
    have q1 : E = ⟨#[]⟩ := ba_of (l := []) (by rw [(Prod.mk.inj q).1]; rfl)
    have q2 := (Prod.mk.inj q).2
    cases q2
    subst q1
    exact (play_tab ringDW_good ringDW_ats (by decide) hx (ht.below hw)).mono fun _ _ h => ⟨⟨T, h.1⟩, h.2⟩
  · rw [hR.dead, (decide_eq_decide.2 (by omega) : decide (2 ≤ j1 + 1) = decide ((2 : Int) ≤ 1 + j1)), (decide_eq_decide.2 (by omega) : decide (2 ≤ j2) = decide ((2 : Int) ≤ (j2 : Int)))]
  · intro hd
    have := hR.deadBy
    rw [hd] at this
    rw [this]; rfl
  · have hsh := k_shown W ringDW ⟨#[]⟩ r.deadBy false r.dead r.whole r.points ((j1 + 1 : Nat) : Int) ((j2 : Nat) : Int) (shw_of ringDW_good ringDW_ats ht hR ringDW_p0 ringDW_pd ringDW_ctx rfl) w hw
    have e : ((j1 + 1 : Nat) : Int) = 1 + (j1 : Int) := by omega
    rw [e] at hsh
    exact hsh

def ringDB : ByteArray := ⟨#[108, 111, 99, 107, 115, 32, 109, 44, 32, 110, 59, 32, 112, 114, 111, 99, 32, 112, 40, 41, 32, 123, 32, 97, 99, 113, 117, 105, 114, 101, 32, 109, 59, 32, 97, 99, 113, 117, 105, 114, 101, 32, 110, 59, 32, 114, 101, 108, 101, 97, 115, 101, 32, 110, 59, 32, 114, 101, 108, 101, 97, 115, 101, 32, 109, 59, 32, 125, 32, 112, 114, 111, 99, 32, 113, 40, 41, 32, 123, 32, 97, 99, 113, 117, 105, 114, 101, 32, 109, 59, 32, 97, 99, 113, 117, 105, 114, 101, 32, 110, 59, 32, 114, 101, 108, 101, 97, 115, 101, 32, 110, 59, 32, 114, 101, 108, 101, 97, 115, 101, 32, 109, 59, 32, 125, 32, 116, 104, 114, 101, 97, 100, 115, 32, 112, 44, 32, 113, 59]⟩
theorem ringDB_good : goodB ringDB = true := by kernel_rfl
theorem ringDB_ats : atsM (planOf ringDB) = true := by kernel_rfl
theorem ringDB_all : ringAll (planOf ringDB) 1000 [97, 98] = true := by kernel_rfl
theorem ringDB_play : playP (planOf ringDB) ⟨#[97, 98]⟩ = (zVw, 8, 1) := by kernel_rfl
theorem ringDB_holds (c s : Int) (hc : -9223372036854775808 ≤ c ∧ c ≤ 9223372036854775807) (hs : -9223372036854775808 ≤ s ∧ s ≤ 9223372036854775807) (W : World) (ht : TabOk W) :
    Calls Tryz.prog 11 #[.bool false, .int .i64 c, .int .i64 s, .bool true] W fun e w' => e = .returned (.bool true) ∧ Below W.heap.size W w' := by
  obtain ⟨j1, h1, hp1⟩ := k_pickM c 6 hc (by decide)
  obtain ⟨j2, h2, hp2⟩ := k_pickM s 61 hs (by decide)
  obtain ⟨r, hr, hR⟩ := ring_two ringDB_all j1 j2 (by omega) (by omega)
  refine k_Rings_two_broken c s j1 j2 W r.dead r.whole r.deadBy r.points (by omega) (by omega) hp1 hp2 (fun w _ => sea_of (k := j2) ringDB_good (by omega) (by omega) (by omega) hr hR w) (fun w hw => (play_tab ringDB_good ringDB_ats (by decide) ringDB_play (ht.below hw)).mono fun _ _ h => h) ?_
  have hd : r.dead = false := by
    rw [hR.dead, decide_eq_false (by omega), Bool.false_and]
  refine ⟨hd, ?_⟩
  have := hR.deadBy
  rw [hd] at this
  exact this

def ringTW : ByteArray := ⟨#[108, 111, 99, 107, 115, 32, 109, 44, 32, 110, 44, 32, 111, 59, 32, 112, 114, 111, 99, 32, 112, 40, 41, 32, 123, 32, 97, 99, 113, 117, 105, 114, 101, 32, 109, 59, 32, 97, 99, 113, 117, 105, 114, 101, 32, 110, 59, 32, 114, 101, 108, 101, 97, 115, 101, 32, 110, 59, 32, 114, 101, 108, 101, 97, 115, 101, 32, 109, 59, 32, 125, 32, 112, 114, 111, 99, 32, 113, 40, 41, 32, 123, 32, 97, 99, 113, 117, 105, 114, 101, 32, 110, 59, 32, 97, 99, 113, 117, 105, 114, 101, 32, 111, 59, 32, 114, 101, 108, 101, 97, 115, 101, 32, 111, 59, 32, 114, 101, 108, 101, 97, 115, 101, 32, 110, 59, 32, 125, 32, 112, 114, 111, 99, 32, 114, 40, 41, 32, 123, 32, 97, 99, 113, 117, 105, 114, 101, 32, 111, 59, 32, 97, 99, 113, 117, 105, 114, 101, 32, 109, 59, 32, 114, 101, 108, 101, 97, 115, 101, 32, 109, 59, 32, 114, 101, 108, 101, 97, 115, 101, 32, 111, 59, 32, 125, 32, 116, 104, 114, 101, 97, 100, 115, 32, 112, 44, 32, 113, 44, 32, 114, 59]⟩
theorem ringTW_good : goodB ringTW = true := by kernel_rfl
theorem ringTW_ats : atsM (planOf ringTW) = true := by kernel_rfl
theorem ringTW_all : ringThree (planOf ringTW) 3 [97, 98, 99] = true := by kernel_rfl
theorem ringTW_p0 : (fun x : Vw × Int × Int => (x.1.race, x.1.dead, x.2.1, x.2.2)) (playP (planOf ringTW) ⟨#[]⟩) = (false, false, 0, 0) := by kernel_rfl
theorem ringTW_pd : (fun x : Vw × Int × Int => (x.1.dead, x.2.1, x.2.2)) (playP (planOf ringTW) ⟨([97, 98, 99] : List UInt8).toArray⟩) = (true, 0, 0) := by kernel_rfl
theorem ringTW_play : (fun x : Vw × Int × Int => (x.1.enabled.data.toList, x.1.race, x.1.dead, x.2.1, x.2.2)) (playP (planOf ringTW) ⟨#[97, 98, 99]⟩) = ([], false, true, 0, 0) := by kernel_rfl
theorem ringTW_ctx : ctxB ⟨([97, 98, 99] : List UInt8).toArray⟩ 3 = true := by kernel_rfl
theorem ringTW_holds (c s : Int) (hc : -9223372036854775808 ≤ c ∧ c ≤ 9223372036854775807) (hs : -9223372036854775808 ≤ s ∧ s ≤ 9223372036854775807) (W : World) (ht : TabOk W) :
    Calls Tryz.prog 11 #[.bool true, .int .i64 c, .int .i64 s, .bool false] W fun e w' => e = .returned (.bool true) ∧ Below W.heap.size W w' := by
  obtain ⟨j1, h1, hp1⟩ := k_pickM c 6 hc (by decide)
  obtain ⟨j2, h2, hp2⟩ := k_pickM s 61 hs (by decide)
  obtain ⟨r, hr, hR⟩ := ring_three ringTW_all j1 (by omega)
  refine k_Rings_three_whole c s j1 j2 W r.dead r.whole r.deadBy r.points (by omega) (by omega) hp1 hp2 (fun w _ => sea_of (k := 3) ringTW_good (by omega) (by omega) (by omega) hr hR w) (fun w hw => ?_) ?_ ?_ (fun w hw => ?_)
  · have q := ringTW_play
    generalize hx : playP (planOf ringTW) ⟨#[97, 98, 99]⟩ = x at q
    obtain ⟨⟨T, E, rc, dd⟩, e1, e2⟩ := x
    have q : (E.data.toList, rc, dd, e1, e2) = (([] : List UInt8), false, true, (0 : Int), (0 : Int)) := q
    have q1 : E = ⟨#[]⟩ := ba_of (l := []) (by rw [(Prod.mk.inj q).1]; rfl)
    have q2 := (Prod.mk.inj q).2
    cases q2
    subst q1
    exact (play_tab ringTW_good ringTW_ats (by decide) hx (ht.below hw)).mono fun _ _ h => ⟨⟨T, h.1⟩, h.2⟩
  · rw [hR.dead, (decide_eq_decide.2 (by omega) : decide (3 ≤ j1 + 1) = decide ((3 : Int) ≤ 1 + j1)), (decide_eq_decide.2 (by omega) : decide (3 ≤ 3) = decide ((3 : Int) ≤ (3 : Int)))]
  · intro hd
    have := hR.deadBy
    rw [hd] at this
    rw [this]; rfl
  · have hsh := k_shown W ringTW ⟨#[]⟩ r.deadBy false r.dead r.whole r.points ((j1 + 1 : Nat) : Int) ((3 : Nat) : Int) (shw_of ringTW_good ringTW_ats ht hR ringTW_p0 ringTW_pd ringTW_ctx rfl) w hw
    have e : ((j1 + 1 : Nat) : Int) = 1 + (j1 : Int) := by omega
    rw [e] at hsh
    exact hsh

def ringTB : ByteArray := ⟨#[108, 111, 99, 107, 115, 32, 109, 44, 32, 110, 44, 32, 111, 59, 32, 112, 114, 111, 99, 32, 112, 40, 41, 32, 123, 32, 97, 99, 113, 117, 105, 114, 101, 32, 109, 59, 32, 97, 99, 113, 117, 105, 114, 101, 32, 110, 59, 32, 114, 101, 108, 101, 97, 115, 101, 32, 110, 59, 32, 114, 101, 108, 101, 97, 115, 101, 32, 109, 59, 32, 125, 32, 112, 114, 111, 99, 32, 113, 40, 41, 32, 123, 32, 97, 99, 113, 117, 105, 114, 101, 32, 110, 59, 32, 97, 99, 113, 117, 105, 114, 101, 32, 111, 59, 32, 114, 101, 108, 101, 97, 115, 101, 32, 111, 59, 32, 114, 101, 108, 101, 97, 115, 101, 32, 110, 59, 32, 125, 32, 112, 114, 111, 99, 32, 114, 40, 41, 32, 123, 32, 97, 99, 113, 117, 105, 114, 101, 32, 109, 59, 32, 97, 99, 113, 117, 105, 114, 101, 32, 111, 59, 32, 114, 101, 108, 101, 97, 115, 101, 32, 111, 59, 32, 114, 101, 108, 101, 97, 115, 101, 32, 109, 59, 32, 125, 32, 116, 104, 114, 101, 97, 100, 115, 32, 112, 44, 32, 113, 44, 32, 114, 59]⟩
theorem ringTB_good : goodB ringTB = true := by kernel_rfl
theorem ringTB_ats : atsM (planOf ringTB) = true := by kernel_rfl
theorem ringTB_all : ringThree (planOf ringTB) 1000 [97, 98, 99] = true := by kernel_rfl
theorem ringTB_play : playP (planOf ringTB) ⟨#[97, 98, 99]⟩ = (zVw, 8, 2) := by kernel_rfl
theorem ringTB_holds (c s : Int) (hc : -9223372036854775808 ≤ c ∧ c ≤ 9223372036854775807) (hs : -9223372036854775808 ≤ s ∧ s ≤ 9223372036854775807) (W : World) (ht : TabOk W) :
    Calls Tryz.prog 11 #[.bool true, .int .i64 c, .int .i64 s, .bool true] W fun e w' => e = .returned (.bool true) ∧ Below W.heap.size W w' := by
  obtain ⟨j1, h1, hp1⟩ := k_pickM c 6 hc (by decide)
  obtain ⟨j2, h2, hp2⟩ := k_pickM s 61 hs (by decide)
  obtain ⟨r, hr, hR⟩ := ring_three ringTB_all j1 (by omega)
  refine k_Rings_three_broken c s j1 j2 W r.dead r.whole r.deadBy r.points (by omega) (by omega) hp1 hp2 (fun w _ => sea_of (k := 3) ringTB_good (by omega) (by omega) (by omega) hr hR w) (fun w hw => (play_tab ringTB_good ringTB_ats (by decide) ringTB_play (ht.below hw)).mono fun _ _ h => h) ?_
  have hd : r.dead = false := by
    rw [hR.dead, decide_eq_false (by omega), Bool.false_and]
  refine ⟨hd, ?_⟩
  have := hR.deadBy
  rw [hd] at this
  exact this

theorem k_Rings_all (three broken : Bool) (c s : Int) (hc : -9223372036854775808 ≤ c ∧ c ≤ 9223372036854775807) (hs : -9223372036854775808 ≤ s ∧ s ≤ 9223372036854775807) (W : World) (ht : TabOk W) :
    Calls Tryz.prog 11 #[.bool three, .int .i64 c, .int .i64 s, .bool broken] W fun e w' => e = .returned (.bool true) ∧ Below W.heap.size W w' := by
  cases three <;> cases broken
  · exact ringDW_holds c s hc hs W ht
  · exact ringDB_holds c s hc hs W ht
  · exact ringTW_holds c s hc hs W ht
  · exact ringTB_holds c s hc hs W ht

end Go.Proofs.YtmfcpbhdggonfaaGreatDoor
