/- Contracts of the statements' own package: contains, thread. -/
import Derived.Test.YtmfcpbhdggonfaaGreatDoorMgBK
namespace Go.Proofs.YtmfcpbhdggonfaaGreatDoor
open Go.RowKit RR

def hasB (s : ByteArray) (b : UInt8) : Bool := s.data.toList.any (fun c => c.toNat == b.toNat)
theorem any_step {l : List UInt8} {f : UInt8 → Bool} {k : Nat} (h : k < l.length) : (l.take (k + 1)).any f = ((l.take k).any f || f l[k]) := by
  rw [List.take_succ_eq_append_getElem h, List.any_append]
  simp
theorem get_list (s : ByteArray) (k : Nat) (h : k < s.size) : s[k] = s.data.toList[k]'(by rw [← size_list]; exact h) := rfl

set_option maxRecDepth 100000 in
set_option maxHeartbeats 2000000 in
theorem k_contains (s : ByteArray) (b : UInt8) (hm : s.size ≤ 1000) (w : World) :
    Calls Tryz.prog 23 #[.string s, .int .u8 b.toNat] w fun e w' => e = .returned (.bool (hasB s b)) ∧ w' = w := by
  go_enter Tryz.func23, Tryz.ntmps23
  go_wp2
  go_loop [5] (fun u => ∃ k : Nat, u = .int .i64 k ∧ k ≤ s.size ∧ (s.data.toList.take k).any (fun c => c.toNat == b.toNat) = false) (fun u => s.size - (intOf u).toNat)
  case atStart => exact ⟨0, rfl, Nat.zero_le _, rfl⟩
  case round =>
    obtain ⟨k, rfl, hk, hn⟩ := hrel
    have HN := hide hn
    clear hn
    by_cases hlt : k < s.size
    · have hlt' : (k : Int) < s.size := by omega
      have hl : k < s.data.toList.length := by rw [← size_list]; exact hlt
      have HA := hide (any_step (f := fun c => c.toNat == b.toNat) hl)
      have HG := hide (get_list s k hlt)
      by_cases he : s[k].toNat = b.toNat
      · have hb : ((s[k].toNat : Int) == (b.toNat : Int)) = true := beq_iff_eq.2 (by omega)
        have HE : Hid (hasB s b = true) := by
          show _ = _
          unfold hasB
          rw [List.any_eq_true]
          exact ⟨s.data.toList[k], List.getElem_mem hl, by rw [← HG.out]; simpa using he⟩
        clear he HA HG
        go_wp2
        go_ret
        exact ⟨ret_bool HE.out.symm, rfl⟩
      · have hb : ((s[k].toNat : Int) == (b.toNat : Int)) = false := beq_eq_false_iff_ne.2 (by omega)
        have HE : Hid ((s.data.toList.take (k + 1)).any (fun c => c.toNat == b.toNat) = false) := by
          show _ = _
          rw [HA.out, HN.out, ← HG.out]
          simpa using he
        clear he HA HG
        go_wp2
        refine ⟨⟨k + 1, by go_num, by omega, HE.out⟩, ?_⟩
        simp [intOf]; omega
    · have hks : k = s.size := by omega
      subst hks
      have HE : Hid (hasB s b = false) := by
        show _ = _
        unfold hasB
        have := HN.out
        rwa [size_list, List.take_length] at this
      go_wp2
      go_ret
      exact ⟨ret_bool HE.out.symm, rfl⟩

theorem hasB_mem {s : ByteArray} {b : UInt8} : hasB s b = true ↔ b ∈ s.data.toList := by
  unfold hasB
  rw [List.any_eq_true]
  constructor
  · rintro ⟨c, hc, he⟩
    have : c = b := UInt8.toNat_inj.1 (by simpa using he)
    exact this ▸ hc
  · exact fun h => ⟨b, h, by simp⟩
theorem letters_list : ∀ x ∈ [((0 : Int), false), (0, true), (1, false), (1, true), (2, false), (2, true)], ∃ b : UInt8, (letterF x.1 x.2).data.toList = [b] ∧ readB b = some x := by
  intro x hx
  simp only [List.mem_cons, List.not_mem_nil, or_false] at hx
  rcases hx with rfl | rfl | rfl | rfl | rfl | rfl
  · exact ⟨97, rfl, rfl⟩
  · exact ⟨65, rfl, rfl⟩
  · exact ⟨98, rfl, rfl⟩
  · exact ⟨66, rfl, rfl⟩
  · exact ⟨99, rfl, rfl⟩
  · exact ⟨67, rfl, rfl⟩
theorem readB_inj {a b : UInt8} {x : Int × Bool} (ha : readB a = some x) (hb : readB b = some x) : a = b := by
  apply UInt8.toNat_inj.1
  unfold readB at ha hb
  split at ha
  · cases ha
    split at hb
    · have := congrArg Prod.fst (Option.some.inj hb); simp at this; omega
    · split at hb
      · have := congrArg Prod.snd (Option.some.inj hb); simp at this
      · cases hb
  · split at ha
    · cases ha
      split at hb
      · have := congrArg Prod.snd (Option.some.inj hb); simp at this
      · split at hb
        · have := congrArg Prod.fst (Option.some.inj hb); simp at this; omega
        · cases hb
    · cases ha
theorem readB_six {b : UInt8} {x : Int × Bool} (h : readB b = some x) : x ∈ [((0 : Int), false), (0, true), (1, false), (1, true), (2, false), (2, true)] := by
  obtain ⟨i, ch⟩ := x
  unfold readB at h
  split at h
  · rename_i hb
    have h1 := congrArg Prod.fst (Option.some.inj h)
    have h2 := congrArg Prod.snd (Option.some.inj h)
    simp only at h1 h2
    subst h2
    have : i = 0 ∨ i = 1 ∨ i = 2 := by omega
    rcases this with rfl | rfl | rfl <;> simp
  · split at h
    · rename_i hb
      have h1 := congrArg Prod.fst (Option.some.inj h)
      have h2 := congrArg Prod.snd (Option.some.inj h)
      simp only at h1 h2
      subst h2
      have : i = 0 ∨ i = 1 ∨ i = 2 := by omega
      rcases this with rfl | rfl | rfl <;> simp
    · cases h
theorem enabled_iff (p : Plan) (c : Cfg) (b : UInt8) : hasB (enabledF p c) b = ((readB b).bind fun x => stepF p c x.1 x.2).isSome := by
  rw [Bool.eq_iff_iff, hasB_mem, enabled_list, List.mem_flatMap]
  constructor
  · rintro ⟨x, hx, hb⟩
    obtain ⟨h1, h2⟩ := letterIf_mem.1 hb
    obtain ⟨a, h3, h4⟩ := letters_list x hx
    rw [h3, List.mem_singleton] at h2
    subst h2
    rw [h4]
    exact h1
  · intro h
    cases hr : readB b with
    | none => rw [hr] at h; cases h
    | some x =>
      rw [hr] at h
      refine ⟨x, readB_six hr, letterIf_mem.2 ⟨h, ?_⟩⟩
      obtain ⟨a, h3, h4⟩ := letters_list x (readB_six hr)
      rw [h3, List.mem_singleton]
      exact readB_inj hr h4

set_option maxRecDepth 100000 in
set_option maxHeartbeats 2000000 in
theorem k_thread (b : UInt8) (i : Int) (ch : Bool) (h : readB b = some (i, ch)) (w : World) :
    Calls Tryz.prog 40 #[.int .u8 b.toNat] w fun e w' => e = .returned (.int .i64 i) ∧ w' = w := by
  unfold readB at h
  by_cases h1 : 97 ≤ b.toNat ∧ b.toNat ≤ 99
  · rw [if_pos h1] at h
    have hi : (b.toNat : Int) - 97 = i := congrArg Prod.fst (Option.some.inj h)
    have HI := hide hi
    have h2 : (97 : Int) ≤ b.toNat := by omega
    have h3 : (b.toNat : Int) ≤ 99 := by omega
    clear h h1 hi
    go_enter Tryz.func40, Tryz.ntmps40
    go_wp2
    go_ret
    exact ⟨ret_int HI.out, rfl⟩
  · rw [if_neg h1] at h
    by_cases h2 : 65 ≤ b.toNat ∧ b.toNat ≤ 67
    · rw [if_pos h2] at h
      have hi : (b.toNat : Int) - 65 = i := congrArg Prod.fst (Option.some.inj h)
      have HI := hide hi
      have h3 : ¬ (97 : Int) ≤ b.toNat := by omega
      have h4 : (65 : Int) ≤ b.toNat := by omega
      have h5 : (b.toNat : Int) ≤ 67 := by omega
      clear h h1 h2 hi
      go_enter Tryz.func40, Tryz.ntmps40
      go_wp2
      go_ret
      exact ⟨ret_int HI.out, rfl⟩
    · rw [if_neg h2] at h; cases h

end Go.Proofs.YtmfcpbhdggonfaaGreatDoor

namespace Go.Proofs.YtmfcpbhdggonfaaGreatDoor
open Go.RowKit RR

structure Wk where
  s : ByteArray
  ctx : Nat
  last : Int
  race : Int
  dead : Int
def zWk : Wk := ⟨⟨#[]⟩, 0, -1, -1, -1⟩
def seenW (p : Plan) (most : Int) (i : Nat) (c : Cfg) (w : Wk) : Wk :=
  let w1 : Wk := if decide ((w.ctx : Int) ≤ most) && raceF p c && decide (w.race < 0) then { w with race := i } else w
  if decide ((w1.ctx : Int) ≤ most) && deadF p c && decide (w1.dead < 0) then { w1 with dead := i } else w1
def nextB (p : Plan) (path : ByteArray) (i : Nat) (c : Cfg) : UInt8 := byteB (enabledF p c) ((byteB path i).toNat % (enabledF p c).size)
def stepW (b : UInt8) (t : Int) (w : Wk) : Wk := { w with s := w.s ++ ⟨#[b]⟩, ctx := if t ≠ w.last then w.ctx + 1 else w.ctx, last := t }
def walkW (p : Plan) (path : ByteArray) (most : Int) : Nat → Nat → Cfg → Wk → Wk
  | 0, _, _, w => w
  | d + 1, i, c, w =>
    if (enabledF p c).size = 0 ∨ path.size ≤ i then seenW p most i c w else
      match readB (nextB p path i c) with
      | none => seenW p most i c w
      | some x =>
        match stepF p c x.1 x.2 with
        | none => seenW p most i c w
        | some c1 => walkW p path most d (i + 1) c1 (stepW (nextB p path i c) x.1 (seenW p most i c w))
theorem seenW_s (p : Plan) (most : Int) (i : Nat) (c : Cfg) (w : Wk) : (seenW p most i c w).s = w.s ∧ (seenW p most i c w).ctx = w.ctx ∧ (seenW p most i c w).last = w.last := by
  unfold seenW
  simp only []
  split <;> split <;> exact ⟨rfl, rfl, rfl⟩
theorem nextB_step {p : Plan} {path : ByteArray} {i : Nat} {c : Cfg} (h : ¬ (enabledF p c).size = 0) : ∃ x c1, readB (nextB p path i c) = some x ∧ stepF p c x.1 x.2 = some c1 := by
  have hlt : (byteB path i).toNat % (enabledF p c).size < (enabledF p c).size := Nat.mod_lt _ (Nat.pos_of_ne_zero h)
  have hm : nextB p path i c ∈ (enabledF p c).data.toList := by
    unfold nextB
    rw [byte_list, List.getElem?_eq_getElem (by rw [← size_list]; exact hlt)]
    exact List.getElem_mem _
  have := enabled_iff p c (nextB p path i c)
  rw [hasB_mem.2 hm] at this
  cases hr : readB (nextB p path i c) with
  | none => rw [hr] at this; cases this
  | some x =>
    rw [hr] at this
    obtain ⟨c1, hc⟩ := Option.isSome_iff_exists.1 this.symm
    exact ⟨x, c1, rfl, hc⟩
theorem walkW_ok (p : Plan) (path : ByteArray) (most : Int) : ∀ (d i : Nat) (c : Cfg) (w : Wk), followF p w.s w.s.size 0 (start1 p) = .ok c → w.s.size + d ≤ 200 → ∃ c', followF p (walkW p path most d i c w).s (walkW p path most d i c w).s.size 0 (start1 p) = .ok c' ∧ (walkW p path most d i c w).s.size ≤ w.s.size + d
  | 0, _, c, w, h, _ => ⟨c, h, Nat.le_refl _⟩
  | d + 1, i, c, w, h, hs => by
    unfold walkW
    have hq := seenW_s p most i c w
    split
    · rw [hq.1]; exact ⟨c, h, by omega⟩
    · rename_i hn
      obtain ⟨x, c1, hr, hc⟩ := nextB_step (p := p) (path := path) (i := i) (c := c) (fun e => hn (.inl e))
      rw [hr]
      simp only []
      rw [hc]
      simp only []
      have hs1 : (stepW (nextB p path i c) x.1 (seenW p most i c w)).s = w.s ++ ⟨#[nextB p path i c]⟩ := by
        show (seenW p most i c w).s ++ _ = _
        rw [hq.1]
      have hz : (stepW (nextB p path i c) x.1 (seenW p most i c w)).s.size = w.s.size + 1 := by rw [hs1, ByteArray.size_append]; rfl
      have hf : followF p (stepW (nextB p path i c) x.1 (seenW p most i c w)).s (stepW (nextB p path i c) x.1 (seenW p most i c w)).s.size 0 (start1 p) = .ok c1 := by
        rw [hs1]
        exact follow_more h (by rw [hr]; exact hc)
      obtain ⟨c', h1, h2⟩ := walkW_ok p path most d (i + 1) c1 _ hf (by omega)
      exact ⟨c', h1, by omega⟩
theorem follow_part {p : Plan} {s : ByteArray} {c : Cfg} (h : followF p s s.size 0 (start1 p) = .ok c) (n : Nat) (hn : n ≤ s.size) : ∃ c', followF p s n 0 (start1 p) = .ok c' := by
  rw [show s.size = n + (s.size - n) by omega, follow_cut] at h
  cases hq : followF p s n 0 (start1 p) with
  | error j => rw [hq] at h; cases h
  | ok c' => exact ⟨c', rfl⟩

end Go.Proofs.YtmfcpbhdggonfaaGreatDoor

namespace Go.Proofs.YtmfcpbhdggonfaaGreatDoor
open Go.RowKit RR

theorem at_byte (s : ByteArray) (k : Nat) : atB s k = byteB s k := rfl
theorem cnt_app (s t : ByteArray) : ∀ k, k ≤ s.size → cntB (s ++ t) k = cntB s k ∧ lastB (s ++ t) k = lastB s k
  | 0, _ => ⟨rfl, rfl⟩
  | k + 1, h => by
    have ih := cnt_app s t k (by omega)
    have hb : atB (s ++ t) k = atB s k := byte_left s t k (by omega)
    refine ⟨?_, ?_⟩
    · show cntB (s ++ t) k + (if thr (atB (s ++ t) k) = lastB (s ++ t) k then 0 else 1) = cntB s k + (if thr (atB s k) = lastB s k then 0 else 1)
      rw [hb, ih.1, ih.2]
    · show thr (atB (s ++ t) k) = thr (atB s k)
      rw [hb]
theorem thr_read {b : UInt8} {x : Int × Bool} (h : readB b = some x) : thr b = x.1 ∧ 0 ≤ thr b := by
  unfold readB at h
  unfold thr
  split at h
  · rename_i hb
    rw [if_pos hb]
    have h1 := congrArg Prod.fst (Option.some.inj h)
    exact ⟨h1, by omega⟩
  · rename_i hb
    rw [if_neg hb]
    split at h
    · rename_i hc
      rw [if_pos hc]
      have h1 := congrArg Prod.fst (Option.some.inj h)
      exact ⟨h1, by omega⟩
    · cases h
structure WkOk (w : Wk) : Prop where
  all : ∀ j, j < w.s.size → 0 ≤ thr (atB w.s j)
  ctx : w.ctx = cntB w.s w.s.size
  last : w.last = lastB w.s w.s.size
theorem WkOk.zero : WkOk zWk := ⟨fun _ hj => absurd hj (Nat.not_lt_zero _), rfl, rfl⟩
theorem WkOk.seen {w : Wk} (h : WkOk w) (p : Plan) (most : Int) (i : Nat) (c : Cfg) : WkOk (seenW p most i c w) := by
  obtain ⟨h1, h2, h3⟩ := seenW_s p most i c w
  exact ⟨by rw [h1]; exact h.all, by rw [h1, h2]; exact h.ctx, by rw [h1, h3]; exact h.last⟩
theorem WkOk.step {w : Wk} (h : WkOk w) {b : UInt8} {x : Int × Bool} (hb : readB b = some x) : WkOk (stepW b x.1 w) := by
  have hz : (w.s ++ ⟨#[b]⟩).size = w.s.size + 1 := by rw [ByteArray.size_append]; rfl
  have hm : atB (w.s ++ ⟨#[b]⟩) w.s.size = b := by
    have := byte_mid w.s b ⟨#[]⟩
    rwa [show (⟨#[b]⟩ : ByteArray) ++ ⟨#[]⟩ = ⟨#[b]⟩ from rfl] at this
  obtain ⟨t1, t2⟩ := thr_read hb
  have hq := cnt_app w.s ⟨#[b]⟩ w.s.size (Nat.le_refl _)
  refine ⟨fun j hj => ?_, ?_, ?_⟩
  · have hj : j < (w.s ++ ⟨#[b]⟩).size := hj
    show 0 ≤ thr (atB (w.s ++ ⟨#[b]⟩) j)
    by_cases e : j = w.s.size
    · subst e; rw [hm]; exact t2
    · rw [show atB (w.s ++ ⟨#[b]⟩) j = atB w.s j from byte_left _ _ _ (by omega)]
      exact h.all j (by omega)
  · show (if x.1 ≠ w.last then w.ctx + 1 else w.ctx) = cntB (w.s ++ ⟨#[b]⟩) (w.s ++ ⟨#[b]⟩).size
    rw [hz, cntB, hq.1, hq.2, hm, t1, ← h.ctx, ← h.last]
    by_cases e : x.1 = w.last
    · rw [if_neg (fun hne => hne e), if_pos e, Nat.add_zero]
    · rw [if_pos e, if_neg e]
  · show x.1 = lastB (w.s ++ ⟨#[b]⟩) (w.s ++ ⟨#[b]⟩).size
    rw [hz, lastB, hm, t1]
theorem WkOk.ctxN {w : Wk} (h : WkOk w) (hs : w.s.size ≤ 200) : ctxN w.s = ((w.ctx : Int), 0) := by
  rw [ctx_ok hs h.all, h.ctx]
theorem WkOk.ctx_le {w : Wk} (h : WkOk w) : w.ctx ≤ w.s.size := by rw [h.ctx]; exact cntB_le _ _

end Go.Proofs.YtmfcpbhdggonfaaGreatDoor
