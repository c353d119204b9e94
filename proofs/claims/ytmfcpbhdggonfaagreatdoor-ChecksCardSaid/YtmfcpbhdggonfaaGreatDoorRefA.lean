/- Contracts of the reference's small functions. -/
import Derived.Test.YtmfcpbhdggonfaaGreatDoorHide
import Derived.Test.YtmfcpbhdggonfaaGreatDoorPure
namespace Go.Proofs.YtmfcpbhdggonfaaGreatDoor
open Go.RowKit RR

set_option maxHeartbeats 400000 in
theorem r_isLetter (c : UInt8) (w : World) :
    Calls Tryz.prog 82 #[.int .u8 c.toNat] w fun e w' => e = .returned (.bool (isLetterB c)) ∧ w' = w := by
  go_enter Tryz.func82, Tryz.ntmps82
  go_wp2
  all_goals
    go_ret
    refine ⟨ret_bool ?_, rfl⟩
    unfold isLetterB
    rw [Bool.eq_iff_iff]; simp; try omega

/-- The texts of a row of strings. -/
def StrsAt (w : World) (b o : Nat) (l : List ByteArray) : Prop := ∀ i, (h : i < l.length) → w.cell? ⟨b, o + i, none⟩ = some (.string l[i])

theorem strs_alloc {w : World} {e : TypeId} (l : List ByteArray) (vs : Array Value) (h : vs.toList = l.map Value.string) : StrsAt (w.alloc (.cells vs e)) w.heap.size 0 l := by
  intro i hi
  have hh : (w.alloc (.cells vs e)).heap[w.heap.size]? = some (.cells vs e) := heap_alloc_new w _
  have hv : vs[i]? = some (.string l[i]) := by
    rw [← Array.getElem?_toList, h, List.getElem?_map, List.getElem?_eq_getElem hi]; rfl
  simp only [World.cell?, hh, Nat.zero_add]
  exact hv

set_option maxHeartbeats 400000 in
theorem r_in (t : ByteArray) (b o : Nat) (cap : Nat) (l : List ByteArray) (w : World) (hl : l.length ≤ 1000) (hc : StrsAt w b o l) :
    Calls Tryz.prog 83 #[.string t, .slice (some ⟨b, o, none⟩) l.length cap] w fun e w' => e = .returned (.bool (memB l t)) ∧ w' = w := by
  go_enter Tryz.func83, Tryz.ntmps83
  go_wp2
  go_loop [5] (fun i => ∃ k : Nat, k ≤ l.length ∧ i = .int .i64 k ∧ memB (l.take k) t = false) (fun i => l.length - (intOf i).toNat)
  case atStart => exact ⟨0, Nat.zero_le _, rfl, rfl⟩
  case round =>
    obtain ⟨k, hk, rfl, hn⟩ := hrel
    by_cases hlt : k < l.length
    · have hck := hc k hlt
      have HS' : Hid (memB (l.take (k + 1)) t = (memB (l.take k) t || (l[k].toList == t.toList))) := memB_snoc l t k hlt
      have HN : Hid (memB (l.take k) t = false) := hn
      clear hn
      go_wp2
      · go_ret
        refine ⟨ret_bool ?_, rfl⟩
        have h1 : (l[k].toList == t.toList) = true := by assumption
        have : l[k] = t := toList_inj.1 (by simpa using h1)
        rw [← this]; exact (memB_get l k hlt).symm
      · go_round
        case rel => exact ⟨k + 1, by omega, by go_num, by rw [HS'.out, HN.out]; simpa using ‹(l[k].toList == t.toList) = false›⟩
        case measure => simp [intOf]; omega
    · go_wp2
      go_ret
      refine ⟨ret_bool ?_, rfl⟩
      rw [← hn, List.take_of_length_le (by omega)]

theorem kws_at {w : World} : StrsAt (w.alloc (.cells #[.string ⟨#[115, 104, 97, 114, 101, 100]⟩, .string ⟨#[108, 111, 99, 107, 115]⟩, .string ⟨#[112, 114, 111, 99]⟩, .string ⟨#[116, 104, 114, 101, 97, 100, 115]⟩, .string ⟨#[105, 102]⟩, .string ⟨#[101, 108, 115, 101]⟩, .string ⟨#[119, 104, 105, 108, 101]⟩, .string ⟨#[97, 115, 115, 117, 109, 101]⟩, .string ⟨#[97, 99, 113, 117, 105, 114, 101]⟩, .string ⟨#[114, 101, 108, 101, 97, 115, 101]⟩, .string ⟨#[114, 101, 116, 117, 114, 110]⟩, .string ⟨#[115, 107, 105, 112]⟩, .string ⟨#[116, 114, 117, 101]⟩, .string ⟨#[102, 97, 108, 115, 101]⟩] 9)) w.heap.size 0 kws :=
  strs_alloc kws _ rfl

set_option maxHeartbeats 400000 in
theorem r_isName (t : ByteArray) (w : World) (ht : t.size ≤ 500) :
    Calls Tryz.prog 49 #[.string t] w fun e w' => e = .returned (.bool (isNameB t)) ∧ Below w.heap.size w w' := by
  by_cases h0 : t.size = 0
  · have he : t.toList.isEmpty = true := by simp [empty_of h0]
    go_enter Tryz.func49, Tryz.ntmps49
    go_wp2
    go_ret
    exact ⟨ret_bool (isName_empty h0).symm, Below.refl _ _⟩
  · have hp : 0 < t.size := by omega
    have he : t.toList.isEmpty = false := by rw [cons_of hp]; rfl
    clear h0
    go_enter Tryz.func49, Tryz.ntmps49
    have HN : Hid (isNameB t = (isLetterB t[0] && !(memB kws t))) := isName_pos hp
    cases hL : isLetterB t[0]
    · go_wp2_with (go_at_call 82; refine (r_isLetter _ _).mono ?_; rintro e w' ⟨rfl, rfl⟩)
      go_ret
      exact ⟨ret_bool (by rw [HN.out, hL]; rfl), Below.refl _ _⟩
    · go_wp2_with (first | (go_at_call 82; refine (r_isLetter _ _).mono ?_; rintro e w' ⟨rfl, rfl⟩) | (go_at_call 83; refine (r_in t _ _ _ kws _ (by decide) kws_at).mono ?_; rintro e w' ⟨rfl, rfl⟩))
      go_ret
      exact ⟨ret_bool (by rw [HN.out, hL]; rfl), (Below.refl _ _).alloc (Nat.le_refl _) _⟩

end Go.Proofs.YtmfcpbhdggonfaaGreatDoor
