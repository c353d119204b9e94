/- The statement Refused: the programs' answers, by reckoning. -/
import Derived.Test.YtmfcpbhdggonfabGreatDoorMgBE
import Derived.Test.YtmfcpbhdggonfabGreatDoorMgBF
namespace Go.Proofs.YtmfcpbhdggonfabGreatDoor
open Go.RowKit RR

def badV (s : ByteArray) : Int × Int := match (lexF s 0).2 with
  | some p => (2, p)
  | none => endP (toksF s) s.size (runF s).p
def badB (s : ByteArray) : Bool := decide (s.size ≤ 500) && ((lexF s 0).2.isSome || (decide ((toksF s).length ≤ 500) && (programQ (toksF s) 600 startQ).isSome))
theorem bad_of {s : ByteArray} {E P : Int} (h : badB s = true) (hv : badV s = (E, P)) : BadP s E P := by
  intro w
  unfold badB at h
  simp only [Bool.and_eq_true, decide_eq_true_eq, Bool.or_eq_true] at h
  obtain ⟨h1, h2⟩ := h
  unfold badV at hv
  cases hl : (lexF s 0).2 with
  | some p =>
    rw [hl] at hv
    have hv : ((2 : Int), (p : Int)) = (E, P) := hv
    cases hv
    exact c_token s w h1 p hl
  | none =>
    rw [hl] at hv h2
    have hv : endP (toksF s) s.size (runF s).p = (E, P) := hv
    have h2 : (toksF s).length ≤ 500 ∧ (programQ (toksF s) 600 startQ).isSome = true := by simpa using h2
    have hl2 : lexF s 0 = (toksF s, none) := by
      unfold toksF
      rw [← hl]
    have hrun : programQ (toksF s) 600 startQ = some (runF s) := by
      unfold runF
      obtain ⟨x, hx⟩ := Option.isSome_iff_exists.1 h2.2
      rw [hx]; rfl
    have hc := c_parse s w h1 (toksF s) hl2 h2.1 600 (runF s) hrun
    rw [hv] at hc
    exact hc

theorem refu_of {s : ByteArray} {E P : Int} (h : BadP s E P) (hE : ¬ E = 0) : Refu s E P where
  chk := fun w => m_check s w E P (hide fun w => m_prog s w E P (hide h))
  ply := fun w => m_Play_any s _ (zVw, E, P) (fun w => py_Program_bad s _ E P w h hE) w
  sea := fun w => m_Search_err s 0 (-1) E (fun w => se_Program_bad s 0 (-1) E P w h hE) w

theorem ref_all : refT.all (fun x => badB x.1 && decide (badV x.1 = x.2) && decide (¬ x.2.1 = 0)) = true := by kernel_rfl
theorem ref_table (k : Nat) (hk : k < refT.length) : Refu refT[k].1 refT[k].2.1 refT[k].2.2 := by
  have h := List.all_eq_true.1 ref_all _ (List.getElem_mem hk)
  simp only [Bool.and_eq_true, decide_eq_true_eq] at h
  exact refu_of (bad_of h.1.1 h.1.2) h.2

def longT : ByteArray := timesF ⟨#[97]⟩ 201
def long2 : ByteArray := timesF ⟨#[97]⟩ 200
theorem good_good : goodB goodT = true := by kernel_rfl
theorem good_ats : atsB (planOf goodT) = true := by kernel_rfl
theorem good_play : (fun r : Vw × Int × Int => (r.1.enabled, r.2.1, r.2.2)) (playP (planOf goodT) long2) = (⟨#[97, 98]⟩, 0, 0) := by kernel_rfl
theorem long_ctx : ctxN longT = (0, 1) := ctx_long (by unfold longT; rw [timesF_size]; decide)
theorem long2_all (j : Nat) (hj : j < long2.size) : atB long2 j = 97 := by
  have h : (List.range 200).all (fun j => atB long2 j == 97) = true := by kernel_rfl
  have hj2 : j < 200 := by
    have : long2.size = 200 := by unfold long2; rw [timesF_size]; rfl
    omega
  exact beq_iff_eq.1 (List.all_eq_true.1 h j (List.mem_range.2 hj2))
theorem long2_ctx : ctxN long2 = (1, 0) := by
  rw [ctx_ok (by unfold long2; rw [timesF_size]; decide) (fun j hj => by rw [long2_all j hj]; decide)]
  have h : cntB long2 long2.size = 1 := by kernel_rfl
  rw [h]; rfl
theorem abx_ctx : ctxN ⟨#[97, 98, 120]⟩ = (0, 7) := ctx_bad (j := 2) (by decide) (by decide) (by decide)

theorem goo : ∃ T, Goo goodT longT long2 T := by
  have hp := good_play
  generalize hr : playP (planOf goodT) long2 = r at hp
  obtain ⟨⟨T, en, rc, dd⟩, E, P⟩ := r
  have hp : (en, E, P) = ((⟨#[97, 98]⟩ : ByteArray), (0 : Int), (0 : Int)) := hp
  cases hp
  have hs2 : long2.size = 200 := by unfold long2; rw [timesF_size]; rfl
  have hs1 : longT.size = 201 := by unfold longT; rw [timesF_size]; rfl
  refine ⟨T, ?_⟩
  exact {
    tim := fun w => k_times ⟨#[97]⟩ 201 (by decide) (by decide) w
    siz := hs1
    cut := by kernel_rfl
    chk := fun w => m_check goodT w 0 0 (hide fun w => m_prog goodT w 0 0 (hide (bad_of (by kernel_rfl) (by kernel_rfl))))
    long := fun w => m_Play_any goodT longT (zVw, 1, 0) (fun w => py_Program_long goodT longT _ _ _ w (good_of good_good) (by omega) (by omega)) w
    ply := fun w => (play_of good_good good_ats (by omega) hr w).mono fun _ _ h => ⟨⟨rc, dd, h.1⟩, h.2⟩
    c1 := fun w => by have := m_Contexts longT w (by unfold maxLen; omega); rwa [long_ctx] at this
    c2 := fun w => by have := m_Contexts long2 w (by unfold maxLen; omega); rwa [long2_ctx] at this
    c3 := fun w => by have := m_Contexts ⟨#[97, 98, 120]⟩ w (by decide); rwa [abx_ctx] at this
    s1 := fun c hc w => m_Search_err goodT c 3 7 (fun w => se_Program_arg goodT c 3 _ _ _ w (good_of good_good) (by omega)) w
    s2 := fun n hn w => m_Search_err goodT 1 n 7 (fun w => se_Program_arg goodT 1 n _ _ _ w (good_of good_good) (by omega)) w }

theorem k_Refused_all (n : Int) (w : World) : Calls Tryz.prog 3 #[.int .i64 n] w fun e w' => e = .returned (.bool true) ∧ Below w.heap.size w w' := by
  obtain ⟨T, h⟩ := goo
  exact k_Refused n ref_table _ _ T h w

end Go.Proofs.YtmfcpbhdggonfabGreatDoor
