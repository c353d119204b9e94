/- Contracts of the reference's 'front' and of strings that are put together. -/
import Derived.Test.YtmfcpbhdggonfaaGreatDoorRefI
namespace Go.Proofs.YtmfcpbhdggonfaaGreatDoor
open Go.RowKit RR

theorem Tryz.infoStr : (Tryz.prog.info? 9).map (fun i => (i.zero, i.size, i.bytes)) = some (some (.string ⟨#[]⟩), 1, 16) := by kernel_rfl

def strs (l : List ByteArray) : List Value := l.map Value.string
theorem strs_append (a b : List ByteArray) : strs (a ++ b) = strs a ++ strs b := List.map_append
theorem strs_length (a : List ByteArray) : (strs a).length = a.length := List.length_map _

theorem nil_strs (w : World) (B : Nat) : w.ownsRow B 9 1 (.slice none 0 0) ([] : List ByteArray).length (strs []) := World.ownsRow_nil _ _ _ _

/-- l = append(l, m...): strings onto a slice of the call's own. -/
theorem app_strs {ops : Array Oper} {rest : List Oper} {o : Oper} {a : Act} {Q : Exit → Act → World → Prop} {w0 : World} {B : Nat} {v : Value} {l l2 : List ByteArray} {ao : Option Addr} {cap : Nat}
    (hown : w0.ownsRow B 9 1 v l.length (strs l)) (hi : StrSl w0 ao cap l2) (hl : l.length ≤ 100000) (hl2 : l2.length ≤ 100000) (hB : B ≤ w0.heap.size) (hgd : o.guard = none) (s x : Operand)
    (ho : o.op = .call { callee := .builtin .append, args := #[s, x], argTypes := #[49, 49] }) (hs : a.eval s = v)
    (hx : a.eval x = .slice ao l2.length cap)
    (h : ∀ v' w', w'.ownsRow B 9 1 v' (l ++ l2).length (strs (l ++ l2)) → (∀ a0, Below B a0 w0 → Below B a0 w') → wpList Tryz.prog ops Q rest (a.put o.dst v') w') :
    wpList Tryz.prog ops Q (o :: rest) a w0 := by
  obtain ⟨i0, hi0, hz0, hz1, hz2⟩ := info_parts Tryz.infoStr
  cases ao with
  | none =>
    have h0 : l2 = [] := by
      cases l2 with
      | nil => rfl
      | cons y r => obtain ⟨_, _, _, h2, _⟩ := hi.2.2 0 (by simp); cases h2
    subst h0
    refine wpList_append_own_none hgd s x 49 ho B 9 i0 1 Tryz.underlying49 hi0 v l.length (strs l) hs hown (by rw [hx, hi.1 rfl]; rfl) ?_
    refine h v w0 ?_ fun a0 h0 => h0
    rw [List.append_nil]; exact hown
  | some ad =>
    refine wpList_append_own _ hgd s x 49 ho B 9 i0 (.string ⟨#[]⟩) 1 16 Tryz.underlying49 hi0 hz0 hz1 hz2 rfl (by decide) v l.length (strs l) hs hown ad l2.length cap (strs l2) hx (by rw [strs_length, Nat.mul_one]) ?_ ?_ (by unfold maxLen; omega) (by omega) hB ?_
    · intro j u hj
      have hjl : j < l2.length := by
        have := (List.getElem?_eq_some_iff.1 hj).1
        rwa [strs_length] at this
      obtain ⟨b, o', h1, h2, h3⟩ := hi.2.2 j hjl
      have h2' := Option.some.inj h2
      subst h2'
      have hu : u = .string l2[j] := by
        rw [strs, List.getElem?_map, List.getElem?_eq_getElem hjl] at hj
        exact (Option.some.inj hj).symm
      subst hu
      rw [addr_add]; exact h3
    · intro u hu
      obtain ⟨n, _, rfl⟩ := List.mem_map.1 hu
      rfl
    · intro v' w' h1 h2 _
      refine h v' w' ?_ fun a0 h0 => h0.grown h2 hB fun k hk => (hown.lt k hk).1
      rw [strs_append, List.length_append]; exact h1

theorem strSl_of_owns {w : World} {base : Nat} {v : Value} {l : List ByteArray} (h : w.ownsRow base 9 1 v l.length (strs l)) : ∃ ao cap, v = .slice ao l.length cap ∧ StrSl w ao cap l := by
  obtain ⟨h1, h2 | ⟨g, cap, cur, hv, hb, hh, hcap, hmax, hsz, htk⟩⟩ := h
  · refine ⟨none, 0, ?_, fun _ => rfl, by omega, fun i hi => by omega⟩
    rw [h2.1, h2.2]
  · refine ⟨some ⟨g, 0, none⟩, cap, hv, fun h => by simp at h, hcap, fun i hi => ⟨g, 0, (Array.getElem?_eq_some_iff.1 hh).1, rfl, ?_⟩⟩
    have e1 : cur[i]? = some (.string l[i]) := by
      have e2 : (cur.toList.take (l.length * 1))[i]? = (strs l)[i]? := by rw [htk]
      rw [List.getElem?_take_of_lt (by omega), Array.getElem?_toList] at e2
      rw [e2, strs, List.getElem?_map, List.getElem?_eq_getElem hi]; rfl
    simp only [World.cell?, hh, Nat.zero_add]
    exact e1

set_option maxHeartbeats 1000000 in
theorem r_front (ao1 ao2 : Option Addr) (c1 c2 : Nat) (m l : List ByteArray) (w : World) (hm : m.length ≤ 10000) (hl : l.length ≤ 10000) (h1 : StrSl w ao1 c1 m) (h2 : StrSl w ao2 c2 l) :
    Calls Tryz.prog 77 #[.slice ao1 m.length c1, .slice ao2 l.length c2] w fun e w' => ∃ ao cap, e = .returned (.slice ao (m ++ l).length cap) ∧ StrSl w' ao cap (m ++ l) ∧ Below w.heap.size w w' := by
  go_enter Tryz.func77, Tryz.ntmps77
  go_wp2_with (first | (at_builtin; refine app_strs (nil_strs _ w.heap.size) h1 (by simp) (by omega) (Nat.le_refl _) rfl (.tmp 6) (.tmp 7) rfl rfl rfl ?_; intro v2 w2 hown2 hb2; have hx2 := hb2 _ (Below.refl _ _); have h22 := h2.below hx2) | (at_builtin; refine app_strs hown2 h22 (by simp; omega) (by omega) hx2.size rfl (.tmp 9) (.tmp 10) rfl rfl rfl ?_; intro v3 w3 hown3 hb3; have hx3 := hb3 _ hx2))
  go_ret
  obtain ⟨ao, cap, hv, hs⟩ := strSl_of_owns hown3
  exact ⟨ao, cap, congrArg Ending.returned hv, hs, hx3⟩

end Go.Proofs.YtmfcpbhdggonfaaGreatDoor
