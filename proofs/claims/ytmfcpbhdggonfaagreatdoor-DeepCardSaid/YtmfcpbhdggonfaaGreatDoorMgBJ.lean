/- Programs that may be, by reckoning. -/
import Derived.Test.YtmfcpbhdggonfaaGreatDoorMgBC
import Derived.Test.YtmfcpbhdggonfaaGreatDoorQst
import Derived.Test.YtmfcpbhdggonfaaGreatDoorPzE
import Derived.Test.YtmfcpbhdggonfaaGreatDoorPzF
namespace Go.Proofs.YtmfcpbhdggonfaaGreatDoor
open Go.RowKit RR

def toksF (s : ByteArray) : List Tk := (lexF s 0).1
def runF (s : ByteArray) : QSt := (programQ (toksF s) 600 startQ).getD startQ
def planOf (s : ByteArray) : Plan := planF (runF s).p.names (runF s).sts (runF s).nds
/-- All that is asked of a text, as one truth. -/
def goodB (s : ByteArray) : Bool :=
  decide (s.size ≤ 500) && (lexF s 0).2.isNone && decide ((toksF s).length ≤ 500) && (programQ (toksF s) 600 startQ).isSome && decide ((endP (toksF s) s.size (runF s).p).1 = 0)
  && (runF s).sts.all (fun x => decide (x.vals.length ≤ 9000)) && decide ((planOf s).shared ≤ 1000) && decide ((planOf s).locks ≤ 1000) && decide ((planOf s).threads.length ≤ 1000) && decide ((planOf s).procs.length ≤ 1000) && decide ((planOf s).lines.length ≤ 10000) && decide ((planOf s).nodes.length ≤ 10000) && (planOf s).lines.all (fun x => decide (x.vals.length ≤ 10000))
  && decide ((runF s).p.names.length ≤ 500) && decide ((runF s).sts.length ≤ 9000) && decide ((runF s).nds.length ≤ 9000)
theorem good_of {s : ByteArray} (h : goodB s = true) : GoodP s (runF s).p.names (runF s).sts (runF s).nds := by
  unfold goodB at h
  simp only [Bool.and_eq_true, decide_eq_true_eq, List.all_eq_true] at h
  obtain ⟨⟨⟨⟨⟨⟨⟨⟨⟨⟨⟨⟨⟨⟨⟨h1, h2⟩, h3⟩, h4⟩, h5⟩, h6⟩, h7⟩, h8⟩, h9⟩, h10⟩, h11⟩, h12⟩, h13⟩, h14⟩, h15⟩, h16⟩ := h
  have hl : lexF s 0 = (toksF s, none) := by
    have : (lexF s 0).2 = none := by simpa using h2
    unfold toksF
    rw [← this]
  have hrun : programQ (toksF s) 600 startQ = some (runF s) := by
    unfold runF
    obtain ⟨x, hx⟩ := Option.isSome_iff_exists.1 h4
    rw [hx]; rfl
  refine ⟨fun w => ?_, h14, h15, h16, h6, h7, h8, h9, h10, h11, h12, h13⟩
  refine (c_parseX s w h1 (toksF s) hl h3 600 (runF s) hrun).mono ?_
  rintro e w' ⟨⟨_, h⟩, hb⟩
  obtain ⟨a1, c1, a2, c2, a3, c3, a4, c4, q1, q2, q3, q4, _⟩ := h h5
  exact ⟨⟨a1, c1, a2, _, c2, a3, c3, a4, c4, q1, q2, q3, q4⟩, hb⟩
def atsB (p : Plan) : Bool := p.lines.all fun a => decide (a.at_ < 100)
theorem itoa_small {i : Nat} (h : i < 100) : (itoaF i).size ≤ 1000 := by
  have hall : (List.range 100).all (fun i => decide ((itoaF i).size ≤ 1000)) = true := by kernel_rfl
  rw [List.all_eq_true] at hall
  exact of_decide_eq_true (hall i (List.mem_range.2 h))
theorem pit_of {p : Plan} (h : atsB p = true) (w : World) : PIt p w := by
  have hs : ∀ n, (lineAt p n).at_ < 100 := by
    intro n
    unfold atsB at h
    rw [List.all_eq_true] at h
    unfold lineAt
    split
    · cases hq : p.lines[n.toNat]? with
      | none => decide
      | some a => exact of_decide_eq_true (h a (List.mem_of_getElem? hq))
    · decide
  exact fun n => ⟨ItOk.small w _ (hs n), itoa_small (hs n)⟩
/-- Play of such a program. -/
theorem play_of {text s : ByteArray} {r : Vw × Int × Int} (hg : goodB text = true) (ha : atsB (planOf text) = true) (hs : s.size ≤ 200) (hr : playP (planOf text) s = r) (w : World) : Calls Tryz.prog 22 #[.string text, .string s] w fun e w' => PlP r w e w' := by
  rw [← hr]
  exact m_Play text s _ _ _ w (good_of hg) (pit_of ha w) hs

end Go.Proofs.YtmfcpbhdggonfaaGreatDoor

/- The statement Deep: a procedure that calls itself. -/
namespace Go.Proofs.YtmfcpbhdggonfaaGreatDoor
open Go.RowKit RR

def tx_false : ByteArray := ⟨#[115, 104, 97, 114, 101, 100, 32, 120, 59, 32, 112, 114, 111, 99, 32, 112, 40, 118, 41, 32, 123, 32, 105, 102, 32, 40, 63, 41, 32, 123, 32, 120, 32, 61, 32, 112, 40, 118, 41, 59, 32, 114, 101, 116, 117, 114, 110, 32, 33, 120, 59, 32, 125, 32, 114, 101, 116, 117, 114, 110, 32, 116, 114, 117, 101, 59, 32, 125, 32, 116, 104, 114, 101, 97, 100, 115, 32, 112, 59]⟩
theorem good_false : goodB tx_false = true := by kernel_rfl
theorem ats_false : atsB (planOf tx_false) = true := by kernel_rfl
theorem row_false_Aa : PlayR tx_false ⟨#[65, 97]⟩ ⟨#[48, 47, 47, 51, 49, 58, 48, 44, 50, 50, 58, 48]⟩ ⟨#[97, 65]⟩ false false 0 0 := fun w => play_of (r := (⟨⟨#[48, 47, 47, 51, 49, 58, 48, 44, 50, 50, 58, 48]⟩, ⟨#[97, 65]⟩, false, false⟩, 0, 0)) good_false ats_false (by decide) (by kernel_rfl) w
theorem row_false_Aaaa : PlayR tx_false ⟨#[65, 97, 97, 97]⟩ ⟨#[49, 47, 47, 52, 49, 58, 48]⟩ ⟨#[97]⟩ false false 0 0 := fun w => play_of (r := (⟨⟨#[49, 47, 47, 52, 49, 58, 48]⟩, ⟨#[97]⟩, false, false⟩, 0, 0)) good_false ats_false (by decide) (by kernel_rfl) w
theorem row_false_Aaaaa : PlayR tx_false ⟨#[65, 97, 97, 97, 97]⟩ ⟨#[49, 47, 47]⟩ ⟨#[]⟩ false false 0 0 := fun w => play_of (r := (⟨⟨#[49, 47, 47]⟩, ⟨#[]⟩, false, false⟩, 0, 0)) good_false ats_false (by decide) (by kernel_rfl) w
theorem row_false_AaAa : PlayR tx_false ⟨#[65, 97, 65, 97]⟩ ⟨#[48, 47, 47, 51, 49, 58, 48, 44, 51, 49, 58, 48, 44, 50, 50, 58, 48]⟩ ⟨#[97, 65]⟩ false false 0 0 := fun w => play_of (r := (⟨⟨#[48, 47, 47, 51, 49, 58, 48, 44, 51, 49, 58, 48, 44, 50, 50, 58, 48]⟩, ⟨#[97, 65]⟩, false, false⟩, 0, 0)) good_false ats_false (by decide) (by kernel_rfl) w
theorem row_false_AaAaaa : PlayR tx_false ⟨#[65, 97, 65, 97, 97, 97]⟩ ⟨#[49, 47, 47, 51, 49, 58, 48, 44, 52, 49, 58, 48]⟩ ⟨#[97]⟩ false false 0 0 := fun w => play_of (r := (⟨⟨#[49, 47, 47, 51, 49, 58, 48, 44, 52, 49, 58, 48]⟩, ⟨#[97]⟩, false, false⟩, 0, 0)) good_false ats_false (by decide) (by kernel_rfl) w
theorem row_false_AaAaaaa : PlayR tx_false ⟨#[65, 97, 65, 97, 97, 97, 97]⟩ ⟨#[48, 47, 47, 52, 49, 58, 48]⟩ ⟨#[97]⟩ false false 0 0 := fun w => play_of (r := (⟨⟨#[48, 47, 47, 52, 49, 58, 48]⟩, ⟨#[97]⟩, false, false⟩, 0, 0)) good_false ats_false (by decide) (by kernel_rfl) w
theorem row_false_AaAaaaaa : PlayR tx_false ⟨#[65, 97, 65, 97, 97, 97, 97, 97]⟩ ⟨#[48, 47, 47]⟩ ⟨#[]⟩ false false 0 0 := fun w => play_of (r := (⟨⟨#[48, 47, 47]⟩, ⟨#[]⟩, false, false⟩, 0, 0)) good_false ats_false (by decide) (by kernel_rfl) w
theorem row_false_AaAaAa : PlayR tx_false ⟨#[65, 97, 65, 97, 65, 97]⟩ ⟨#[48, 47, 47, 51, 49, 58, 48, 44, 51, 49, 58, 48, 44, 51, 49, 58, 48, 44, 50, 50, 58, 48]⟩ ⟨#[97, 65]⟩ false false 0 0 := fun w => play_of (r := (⟨⟨#[48, 47, 47, 51, 49, 58, 48, 44, 51, 49, 58, 48, 44, 51, 49, 58, 48, 44, 50, 50, 58, 48]⟩, ⟨#[97, 65]⟩, false, false⟩, 0, 0)) good_false ats_false (by decide) (by kernel_rfl) w
theorem row_false_AaAaAaaa : PlayR tx_false ⟨#[65, 97, 65, 97, 65, 97, 97, 97]⟩ ⟨#[49, 47, 47, 51, 49, 58, 48, 44, 51, 49, 58, 48, 44, 52, 49, 58, 48]⟩ ⟨#[97]⟩ false false 0 0 := fun w => play_of (r := (⟨⟨#[49, 47, 47, 51, 49, 58, 48, 44, 51, 49, 58, 48, 44, 52, 49, 58, 48]⟩, ⟨#[97]⟩, false, false⟩, 0, 0)) good_false ats_false (by decide) (by kernel_rfl) w
theorem row_false_AaAaAaaaa : PlayR tx_false ⟨#[65, 97, 65, 97, 65, 97, 97, 97, 97]⟩ ⟨#[48, 47, 47, 51, 49, 58, 48, 44, 52, 49, 58, 48]⟩ ⟨#[97]⟩ false false 0 0 := fun w => play_of (r := (⟨⟨#[48, 47, 47, 51, 49, 58, 48, 44, 52, 49, 58, 48]⟩, ⟨#[97]⟩, false, false⟩, 0, 0)) good_false ats_false (by decide) (by kernel_rfl) w
theorem row_false_AaAaAaaaaa : PlayR tx_false ⟨#[65, 97, 65, 97, 65, 97, 97, 97, 97, 97]⟩ ⟨#[49, 47, 47, 52, 49, 58, 48]⟩ ⟨#[97]⟩ false false 0 0 := fun w => play_of (r := (⟨⟨#[49, 47, 47, 52, 49, 58, 48]⟩, ⟨#[97]⟩, false, false⟩, 0, 0)) good_false ats_false (by decide) (by kernel_rfl) w
theorem row_false_AaAaAaaaaaa : PlayR tx_false ⟨#[65, 97, 65, 97, 65, 97, 97, 97, 97, 97, 97]⟩ ⟨#[49, 47, 47]⟩ ⟨#[]⟩ false false 0 0 := fun w => play_of (r := (⟨⟨#[49, 47, 47]⟩, ⟨#[]⟩, false, false⟩, 0, 0)) good_false ats_false (by decide) (by kernel_rfl) w
theorem row_false_AaAaAaAa : PlayR tx_false ⟨#[65, 97, 65, 97, 65, 97, 65, 97]⟩ ⟨#[]⟩ ⟨#[]⟩ false false 8 7 := fun w => play_of (r := (⟨⟨#[]⟩, ⟨#[]⟩, false, false⟩, 8, 7)) good_false ats_false (by decide) (by kernel_rfl) w
theorem row_false_AaAaAaA : PlayR tx_false ⟨#[65, 97, 65, 97, 65, 97, 65]⟩ ⟨#[48, 47, 47, 51, 49, 58, 48, 44, 51, 49, 58, 48, 44, 51, 49, 58, 48, 44, 51, 49, 58, 48]⟩ ⟨#[]⟩ false false 0 0 := fun w => play_of (r := (⟨⟨#[48, 47, 47, 51, 49, 58, 48, 44, 51, 49, 58, 48, 44, 51, 49, 58, 48, 44, 51, 49, 58, 48]⟩, ⟨#[]⟩, false, false⟩, 0, 0)) good_false ats_false (by decide) (by kernel_rfl) w
def tx_true : ByteArray := ⟨#[115, 104, 97, 114, 101, 100, 32, 120, 59, 32, 112, 114, 111, 99, 32, 112, 40, 118, 41, 32, 123, 32, 105, 102, 32, 40, 63, 41, 32, 123, 32, 120, 32, 61, 32, 112, 40, 33, 118, 41, 59, 32, 114, 101, 116, 117, 114, 110, 32, 33, 120, 59, 32, 125, 32, 114, 101, 116, 117, 114, 110, 32, 116, 114, 117, 101, 59, 32, 125, 32, 116, 104, 114, 101, 97, 100, 115, 32, 112, 59]⟩
theorem good_true : goodB tx_true = true := by kernel_rfl
theorem ats_true : atsB (planOf tx_true) = true := by kernel_rfl
theorem row_true_Aa : PlayR tx_true ⟨#[65, 97]⟩ ⟨#[48, 47, 47, 51, 49, 58, 48, 44, 50, 50, 58, 49]⟩ ⟨#[97, 65]⟩ false false 0 0 := fun w => play_of (r := (⟨⟨#[48, 47, 47, 51, 49, 58, 48, 44, 50, 50, 58, 49]⟩, ⟨#[97, 65]⟩, false, false⟩, 0, 0)) good_true ats_true (by decide) (by kernel_rfl) w
theorem row_true_Aaaa : PlayR tx_true ⟨#[65, 97, 97, 97]⟩ ⟨#[49, 47, 47, 52, 50, 58, 48]⟩ ⟨#[97]⟩ false false 0 0 := fun w => play_of (r := (⟨⟨#[49, 47, 47, 52, 50, 58, 48]⟩, ⟨#[97]⟩, false, false⟩, 0, 0)) good_true ats_true (by decide) (by kernel_rfl) w
theorem row_true_Aaaaa : PlayR tx_true ⟨#[65, 97, 97, 97, 97]⟩ ⟨#[49, 47, 47]⟩ ⟨#[]⟩ false false 0 0 := fun w => play_of (r := (⟨⟨#[49, 47, 47]⟩, ⟨#[]⟩, false, false⟩, 0, 0)) good_true ats_true (by decide) (by kernel_rfl) w
theorem row_true_AaAa : PlayR tx_true ⟨#[65, 97, 65, 97]⟩ ⟨#[48, 47, 47, 51, 49, 58, 48, 44, 51, 49, 58, 49, 44, 50, 50, 58, 48]⟩ ⟨#[97, 65]⟩ false false 0 0 := fun w => play_of (r := (⟨⟨#[48, 47, 47, 51, 49, 58, 48, 44, 51, 49, 58, 49, 44, 50, 50, 58, 48]⟩, ⟨#[97, 65]⟩, false, false⟩, 0, 0)) good_true ats_true (by decide) (by kernel_rfl) w
theorem row_true_AaAaaa : PlayR tx_true ⟨#[65, 97, 65, 97, 97, 97]⟩ ⟨#[49, 47, 47, 51, 49, 58, 48, 44, 52, 50, 58, 49]⟩ ⟨#[97]⟩ false false 0 0 := fun w => play_of (r := (⟨⟨#[49, 47, 47, 51, 49, 58, 48, 44, 52, 50, 58, 49]⟩, ⟨#[97]⟩, false, false⟩, 0, 0)) good_true ats_true (by decide) (by kernel_rfl) w
theorem row_true_AaAaaaa : PlayR tx_true ⟨#[65, 97, 65, 97, 97, 97, 97]⟩ ⟨#[48, 47, 47, 52, 50, 58, 48]⟩ ⟨#[97]⟩ false false 0 0 := fun w => play_of (r := (⟨⟨#[48, 47, 47, 52, 50, 58, 48]⟩, ⟨#[97]⟩, false, false⟩, 0, 0)) good_true ats_true (by decide) (by kernel_rfl) w
theorem row_true_AaAaaaaa : PlayR tx_true ⟨#[65, 97, 65, 97, 97, 97, 97, 97]⟩ ⟨#[48, 47, 47]⟩ ⟨#[]⟩ false false 0 0 := fun w => play_of (r := (⟨⟨#[48, 47, 47]⟩, ⟨#[]⟩, false, false⟩, 0, 0)) good_true ats_true (by decide) (by kernel_rfl) w
theorem row_true_AaAaAa : PlayR tx_true ⟨#[65, 97, 65, 97, 65, 97]⟩ ⟨#[48, 47, 47, 51, 49, 58, 48, 44, 51, 49, 58, 49, 44, 51, 49, 58, 48, 44, 50, 50, 58, 49]⟩ ⟨#[97, 65]⟩ false false 0 0 := fun w => play_of (r := (⟨⟨#[48, 47, 47, 51, 49, 58, 48, 44, 51, 49, 58, 49, 44, 51, 49, 58, 48, 44, 50, 50, 58, 49]⟩, ⟨#[97, 65]⟩, false, false⟩, 0, 0)) good_true ats_true (by decide) (by kernel_rfl) w
theorem row_true_AaAaAaaa : PlayR tx_true ⟨#[65, 97, 65, 97, 65, 97, 97, 97]⟩ ⟨#[49, 47, 47, 51, 49, 58, 48, 44, 51, 49, 58, 49, 44, 52, 50, 58, 48]⟩ ⟨#[97]⟩ false false 0 0 := fun w => play_of (r := (⟨⟨#[49, 47, 47, 51, 49, 58, 48, 44, 51, 49, 58, 49, 44, 52, 50, 58, 48]⟩, ⟨#[97]⟩, false, false⟩, 0, 0)) good_true ats_true (by decide) (by kernel_rfl) w
theorem row_true_AaAaAaaaa : PlayR tx_true ⟨#[65, 97, 65, 97, 65, 97, 97, 97, 97]⟩ ⟨#[48, 47, 47, 51, 49, 58, 48, 44, 52, 50, 58, 49]⟩ ⟨#[97]⟩ false false 0 0 := fun w => play_of (r := (⟨⟨#[48, 47, 47, 51, 49, 58, 48, 44, 52, 50, 58, 49]⟩, ⟨#[97]⟩, false, false⟩, 0, 0)) good_true ats_true (by decide) (by kernel_rfl) w
theorem row_true_AaAaAaaaaa : PlayR tx_true ⟨#[65, 97, 65, 97, 65, 97, 97, 97, 97, 97]⟩ ⟨#[49, 47, 47, 52, 50, 58, 48]⟩ ⟨#[97]⟩ false false 0 0 := fun w => play_of (r := (⟨⟨#[49, 47, 47, 52, 50, 58, 48]⟩, ⟨#[97]⟩, false, false⟩, 0, 0)) good_true ats_true (by decide) (by kernel_rfl) w
theorem row_true_AaAaAaaaaaa : PlayR tx_true ⟨#[65, 97, 65, 97, 65, 97, 97, 97, 97, 97, 97]⟩ ⟨#[49, 47, 47]⟩ ⟨#[]⟩ false false 0 0 := fun w => play_of (r := (⟨⟨#[49, 47, 47]⟩, ⟨#[]⟩, false, false⟩, 0, 0)) good_true ats_true (by decide) (by kernel_rfl) w
theorem row_true_AaAaAaAa : PlayR tx_true ⟨#[65, 97, 65, 97, 65, 97, 65, 97]⟩ ⟨#[]⟩ ⟨#[]⟩ false false 8 7 := fun w => play_of (r := (⟨⟨#[]⟩, ⟨#[]⟩, false, false⟩, 8, 7)) good_true ats_true (by decide) (by kernel_rfl) w
theorem row_true_AaAaAaA : PlayR tx_true ⟨#[65, 97, 65, 97, 65, 97, 65]⟩ ⟨#[48, 47, 47, 51, 49, 58, 48, 44, 51, 49, 58, 49, 44, 51, 49, 58, 48, 44, 51, 49, 58, 49]⟩ ⟨#[]⟩ false false 0 0 := fun w => play_of (r := (⟨⟨#[48, 47, 47, 51, 49, 58, 48, 44, 51, 49, 58, 49, 44, 51, 49, 58, 48, 44, 51, 49, 58, 49]⟩, ⟨#[]⟩, false, false⟩, 0, 0)) good_true ats_true (by decide) (by kernel_rfl) w

set_option maxRecDepth 100000 in
theorem k_Deep (n : Int) (hn : -9223372036854775808 ≤ n ∧ n ≤ 9223372036854775807) (flip : Bool) (w : World) :
    Calls Tryz.prog 14 #[.int .i64 n, .bool flip] w fun e w' => e = .returned (.bool true) ∧ Below w.heap.size w w' := by
  have key : ∃ j : Int, (j = 0 ∨ j = 1 ∨ j = 2) ∧ ∀ w, Calls Tryz.prog 18 #[.int .i64 n, .int .i64 3] w fun e w' => e = .returned (.int .i64 j) ∧ w' = w := k_pickJ n hn
  obtain ⟨j, hj, hp⟩ := key
  cases flip
  · rcases hj with rfl | rfl | rfl
    · exact k_Deep_false1 n w row_false_Aa row_false_Aaaa row_false_Aaaaa row_false_AaAaAaAa row_false_AaAaAaA hp
    · exact k_Deep_false2 n w row_false_AaAa row_false_AaAaaa row_false_AaAaaaa row_false_AaAaaaaa row_false_AaAaAaAa row_false_AaAaAaA hp
    · exact k_Deep_false3 n w row_false_AaAaAa row_false_AaAaAaaa row_false_AaAaAaaaa row_false_AaAaAaaaaa row_false_AaAaAaaaaaa row_false_AaAaAaAa row_false_AaAaAaA hp
  · rcases hj with rfl | rfl | rfl
    · exact k_Deep_true1 n w row_true_Aa row_true_Aaaa row_true_Aaaaa row_true_AaAaAaAa row_true_AaAaAaA hp
    · exact k_Deep_true2 n w row_true_AaAa row_true_AaAaaa row_true_AaAaaaa row_true_AaAaaaaa row_true_AaAaAaAa row_true_AaAaAaA hp
    · exact k_Deep_true3 n w row_true_AaAaAa row_true_AaAaAaaa row_true_AaAaAaaaa row_true_AaAaAaaaaa row_true_AaAaAaaaaaa row_true_AaAaAaAa row_true_AaAaAaA hp

end Go.Proofs.YtmfcpbhdggonfaaGreatDoor
