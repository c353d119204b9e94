/- The contract of the reference's 'Check'. -/
import Derived.Test.YtmfcpbhdggonfaaGreatDoorRefM
import Derived.Test.YtmfcpbhdggonfaaGreatDoorRefG
import Derived.Test.YtmfcpbhdggonfaaGreatDoorRefH
import Derived.Test.YtmfcpbhdggonfaaGreatDoorPure
namespace Go.Proofs.YtmfcpbhdggonfaaGreatDoor
open Go.RowKit RR

set_option maxRecDepth 100000 in
set_option maxHeartbeats 1000000 in
theorem r_check_err (s : ByteArray) (w : World) (E P : Int) (hE : 1 ≤ E) (hE2 : E ≤ 3)
    (hread : Hid (∀ w, Calls Tryz.prog 46 #[.string s] w fun e w' => e = .returned (.tuple #[.slice none 0 0, .int .i64 E, .int .i64 P]) ∧ Below w.heap.size w w')) :
    Calls Tryz.prog 31 #[.string s] w fun e w' => e = .returned (.tuple #[.agg #[.slice none 0 0], .int .i64 E, .int .i64 P]) ∧ Below w.heap.size w w' := by
  have hne : (E != 0) = true := by rw [bne_iff_ne]; omega
  go_enter Tryz.func31, Tryz.ntmps31
  go_wp2_with fail
  refine (hread.out _).mono ?_
  rintro e w1 ⟨rfl, hb1⟩
  obtain ⟨hcl, hfz⟩ := bcell hb1
  have hz := hb1.size
  have c0 := (hcl w.heap.size 0 (by simp; omega))
  have c1 := (hcl (w.heap.size + 1) 0 (by simp))
  have f0 := (hfz w.heap.size 0 (by simp; omega))
  clear hcl hfz hread
  simp at c0 c1 f0 hz
  go_wp2_with fail
  refine bodyPost_ret (v := .tuple #[.agg #[.slice none 0 0], .int .i64 E, .int .i64 P]) (by simp [results, Tryz.results31, go_sem, c0]) rfl ⟨rfl, ?_⟩
  exact ((((Below.refl _ _).alloc (Nat.le_refl _) _).alloc (by simp) _).trans (hb1.mono (by simp; omega))).setCell (Nat.le_refl _) _

/-- What is known in the midst of 'Check'. -/
structure Ck (w wr : World) (b o cap : Nat) (L : List Tk) : Prop where
  cP : wr.cell? ⟨w.heap.size + 1, 0, none⟩ = some (.slice (some ⟨b, o, none⟩) L.length cap)
  cR : wr.cell? ⟨w.heap.size, 0, none⟩ = some (.slice none 0 0)
  fR : wr.frozen? ⟨w.heap.size, 0, none⟩ = false
  sz : w.heap.size + 1 < wr.heap.size
  tk : ToksAt wr b o L
  bel : Below w.heap.size w wr
  nb : b ≠ w.heap.size

theorem Ck.below {w wr w' : World} {b o cap : Nat} {L : List Tk} (h : Ck w wr b o cap L) (hb : Below wr.heap.size wr w') : Ck w w' b o cap L :=
  ⟨(hb.cell (p := ⟨w.heap.size + 1, 0, none⟩) h.sz).trans h.cP, (hb.cell (p := ⟨w.heap.size, 0, none⟩) (Nat.lt_of_succ_lt h.sz)).trans h.cR, (hb.frozen (p := ⟨w.heap.size, 0, none⟩) (Nat.lt_of_succ_lt h.sz)).trans h.fR, Nat.lt_of_lt_of_le h.sz hb.size, h.tk.below hb, h.bel.trans (hb.mono h.bel.size), h.nb⟩

theorem toks_set {w : World} {b o : Nat} {L : List Tk} {a : Addr} {v : Value} (h : ToksAt w b o L) (hne : a.block ≠ b) : ToksAt (w.setCell a v) b o L :=
  ⟨by simpa [World.setCell] using h.1, fun i hi => ⟨(World.cell?_setCell_far w a ⟨b, o + i * 2, none⟩ v hne).trans (h.2 i hi).1, (World.cell?_setCell_far w a ⟨b, o + i * 2 + 1, none⟩ v hne).trans (h.2 i hi).2⟩⟩

theorem not_block {w : World} {b o B : Nat} {L : List Tk} {v : Value} {T : TypeId} (h : ToksAt w b o L) (hL : L ≠ []) (hB : w.heap[B]? = some (.cells #[v] T)) : b ≠ B := by
  intro e
  subst e
  have h0 : 0 < L.length := List.length_pos_iff.2 hL
  have := (h.2 0 h0).2
  simp only [World.cell?, hB] at this
  simp at this

theorem Ck.fin {w wr : World} {b o cap : Nat} {L : List Tk} (h : Ck w wr b o cap L) (v : Value) : ToksAt (wr.setCell ⟨w.heap.size, 0, none⟩ v) b o L ∧ Below w.heap.size w (wr.setCell ⟨w.heap.size, 0, none⟩ v) :=
  ⟨toks_set h.tk (fun e => h.nb e.symm), h.bel.setCell (Nat.le_refl _) _⟩

theorem keepS {W : World} {B b q : Nat} {v x y z : Value} (hp : W.cell? ⟨B + 1, 0, none⟩ = some x) (hc : W.cell? ⟨b, q, none⟩ = some y) (hr : W.cell? ⟨B, 0, none⟩ = some z) (hf : W.frozen? ⟨B, 0, none⟩ = false) (hn : B ≠ b) :
    (W.setCell ⟨B, 0, none⟩ v).drew.cell? ⟨B + 1, 0, none⟩ = some x ∧ (W.setCell ⟨B, 0, none⟩ v).drew.cell? ⟨b, q, none⟩ = some y ∧ (∃ z, (W.setCell ⟨B, 0, none⟩ v).drew.cell? ⟨B, 0, none⟩ = some z) ∧ (W.setCell ⟨B, 0, none⟩ v).drew.frozen? ⟨B, 0, none⟩ = false := by
  refine ⟨?_, ?_, ⟨v, ?_⟩, ?_⟩
  · show (W.setCell ⟨B, 0, none⟩ v).cell? ⟨B + 1, 0, none⟩ = some x
    rw [World.cell?_setCell_far _ _ _ _ (by simp)]; exact hp
  · show (W.setCell ⟨B, 0, none⟩ v).cell? ⟨b, q, none⟩ = some y
    rw [World.cell?_setCell_far _ _ _ _ hn]; exact hc
  · show (W.setCell ⟨B, 0, none⟩ v).cell? ⟨B, 0, none⟩ = some v
    exact World.cell?_setCell_same' _ _ _ (by rw [hr]; rfl)
  · show (W.setCell ⟨B, 0, none⟩ v).frozen? ⟨B, 0, none⟩ = false
    rw [World.frozen?_setCell]; exact hf

set_option maxRecDepth 100000 in
set_option maxHeartbeats 8000000 in
theorem r_check_ok (s : ByteArray) (w : World) (hs : s.size ≤ 500) (L : List Tk) (hl : lexF s 0 = (L, none)) (ht : ∀ k, (h : k < L.length) → L[k].t.size ≤ 500) (hL : L.length ≤ 500) (hne : L ≠ []) (n : Nat) (hr : runM L s.size n startW 0 0 = some .ok) (hp : ProcOk L) (hcall : CallOk L) :
    Calls Tryz.prog 31 #[.string s] w fun e w' => ∃ b o cap, e = .returned (.tuple #[.agg #[.slice (some ⟨b, o, none⟩) L.length cap], .int .i64 (namesCheck L).1, .int .i64 (namesCheck L).2]) ∧ ToksAt w' b o L ∧ Below w.heap.size w w' := by
  go_enter Tryz.func31, Tryz.ntmps31
  go_wp2_with fail
  refine (r_read s _ hs L hl ht hL n .ok hr).mono ?_
  rintro e w1 ⟨ao, cap, rfl, hT, hb1⟩
  obtain ⟨b, o, hao, hTk⟩ := hT.resolve_left hne
  subst hao
  obtain ⟨hcl, hfz⟩ := bcell hb1
  have hz := hb1.size
  have c0 := (hcl w.heap.size 0 (by simp; omega))
  have c1 := (hcl (w.heap.size + 1) 0 (by simp))
  have f0 := (hfz w.heap.size 0 (by simp; omega))
  have f1 := (hfz (w.heap.size + 1) 0 (by simp))
  clear hcl hfz hr hl
  simp at c0 c1 f0 f1 hz
  have hB0 : w1.heap[w.heap.size]? = some (.cells #[.slice none 0 0] 71) := by
    rw [hb1.block _ (by simp; omega)]
    show ((w.heap.push _).push _)[w.heap.size]? = _
    simp [Array.getElem?_push]
  have hB1 : w1.heap[w.heap.size + 1]? = some (.cells #[.slice none 0 0] 71) := by
    rw [hb1.block _ (by simp)]
    show ((w.heap.push _).push _)[w.heap.size + 1]? = _
    rw [Array.getElem?_push, if_pos (by simp)]
  have n0 := not_block hTk hne hB0
  have n1 := not_block hTk hne hB1
  have hbel : Below w.heap.size w w1 := (((Below.refl _ _).alloc (Nat.le_refl _) _).alloc (by simp) _).trans (hb1.mono (by simp; omega))
  have ck2 : Ck w (w1.setCell ⟨w.heap.size + 1, 0, none⟩ (.slice (some ⟨b, o, none⟩) L.length cap)) b o cap L := by
    refine ⟨World.cell?_setCell_same' _ _ _ (by rw [c1]; rfl), ?_, ?_, ?_, toks_set hTk (fun e => n1 e.symm), hbel.setCell (Nat.le_succ _) _, n0⟩
    · rw [World.cell?_setCell_far _ _ _ _ (by simp)]; exact c0
    · rw [World.frozen?_setCell]; exact f0
    · simp [World.setCell]; omega
  unfold resOut
  go_wp2_with fail
  generalize (w1.setCell ⟨w.heap.size + 1, 0, none⟩ (.slice (some ⟨b, o, none⟩) L.length cap)) = w2 at *
  clear c0 c1 f0 f1 hz hB0 hB1 n1 hbel hb1 hTk hT
  refine (r_many L b o cap _ hL ht hp ck2.tk).mono ?_
  rintro e w3 ⟨rfl, hb3⟩
  have ck3 := ck2.below hb3
  clear hb3
  have p3 := ck3.cP
  have q3 := ck3.cR
  have g3 := ck3.fR
  by_cases hM : 0 ≤ manyB L
  · have HE : Hid (namesCheck L = (4, manyB L)) := by show _ = _; unfold namesCheck; rw [if_pos hM]
    go_wp2_with fail
    refine bodyPost_ret (v := .tuple #[.agg #[.slice (some ⟨b, o, none⟩) L.length cap], .int .i64 4, .int .i64 (manyB L)]) (by simp [results, Tryz.results31, go_sem, ck3.cR]) rfl ⟨b, o, cap, by rw [HE.out], (ck3.fin _).1, (ck3.fin _).2⟩
  have hM' : manyB L < 0 := by omega
  go_wp2_with fail
  refine (r_twice L b o cap _ hL ht hp ck3.tk).mono ?_
  rintro e w4 ⟨rfl, hb4⟩
  have ck4 := ck3.below hb4
  clear hb4 p3 q3 g3
  have p4 := ck4.cP
  have q4 := ck4.cR
  have g4 := ck4.fR
  by_cases hW : 0 ≤ twiceB L
  · have HE : Hid (namesCheck L = (5, twiceB L)) := by show _ = _; unfold namesCheck; rw [if_neg (by omega : ¬ 0 ≤ manyB L), if_pos hW]
    go_wp2_with fail
    refine bodyPost_ret (v := .tuple #[.agg #[.slice (some ⟨b, o, none⟩) L.length cap], .int .i64 5, .int .i64 (twiceB L)]) (by simp [results, Tryz.results31, go_sem, ck4.cR]) rfl ⟨b, o, cap, by rw [HE.out], (ck4.fin _).1, (ck4.fin _).2⟩
  have hW' : twiceB L < 0 := by omega
  have HN0 : Hid (namesCheck L = match misF L 0 with | some p => (5, (p : Int)) | none => match ariF L 0 with | some p => (6, (p : Int)) | none => (0, 0)) := by show _ = _; unfold namesCheck; rw [if_neg (by omega : ¬ 0 ≤ manyB L), if_neg (by omega : ¬ 0 ≤ twiceB L)]; rfl
  clear hM hW ck2 ck3
  go_wp2_with fail
  clear p4 q4 g4
  go_loopw [9] (fun u wr => ∃ i : Nat, u = .int .i64 i ∧ i ≤ L.length ∧ misF L i = misF L 0 ∧ Ck w wr b o cap L) (fun u _ => L.length - (intOf u).toNat)
  case atStart => exact ⟨0, rfl, Nat.zero_le _, rfl, ck4⟩
  case round =>
    obtain ⟨i, rfl, hi, hmis, ck⟩ := hrel
    have HM := hide hmis
    clear hmis ck4
    by_cases hlt : i < L.length
    · have hck := (ck.tk.2 i hlt).1
      have hck2 := (ck.tk.2 i hlt).2
      have htz := ht i hlt
      have p0 := ck.cP
      have q0 := ck.cR
      have g0 := ck.fR
      cases hN : isNameB L[i].t
      · have HS : Hid (misF L i = misF L (i + 1)) := misF_no hlt (by rw [hN]; rfl)
        go_wp2_with fail
        refine (r_isName _ _ htz).mono ?_
        rintro e wA ⟨rfl, hbA⟩
        have ckA := ck.below hbA
        clear hbA p0 q0 g0 hck hck2
        have pA := ckA.cP
        have qA := ckA.cR
        have gA := ckA.fR
        go_wp2_with fail
        refine (r_given L b o cap i _ hL ht hp ckA.tk).mono ?_
        rintro e wB ⟨rfl, hbB⟩
        have ckB := ckA.below hbB
        clear hbB pA qA gA
        have pB := ckB.cP
        have qB := ckB.cR
        have gB := ckB.fR
        go_wp2_with fail
        go_roundw
        case rel => exact ⟨i + 1, by go_num, by omega, by rw [← HM.out, HS.out], ckB⟩
        case measure => simp [intOf]; omega
      · cases hG : givenB L i
        · cases hR : rightB L i
          · have HS : Hid (misF L i = some L[i].p) := misF_yes hlt (by rw [hN, hG, hR]; rfl)
            have HE : Hid (namesCheck L = (5, (L[i].p : Int))) := by show _ = _; rw [HN0.out, ← HM.out, HS.out]
            go_wp2_with fail
            refine (r_isName _ _ htz).mono ?_
            rintro e wA ⟨rfl, hbA⟩
            have ckA := ck.below hbA
            clear hbA p0 q0 g0 hck hck2
            have pA := ckA.cP
            have qA := ckA.cR
            have gA := ckA.fR
            go_wp2_with fail
            refine (r_given L b o cap i _ hL ht hp ckA.tk).mono ?_
            rintro e wB ⟨rfl, hbB⟩
            have ckB := ckA.below hbB
            clear hbB pA qA gA
            have pB := ckB.cP
            have qB := ckB.cR
            have gB := ckB.fR
            go_wp2_with fail
            refine (r_right L b o cap i _ hL ht hp ckB.tk hlt).mono ?_
            rintro e wC ⟨rfl, hbC⟩
            have ckC := ckB.below hbC
            clear hbC pB qB gB
            have pC := ckC.cP
            have qC := ckC.cR
            have gC := ckC.fR
            have hcx := (ckC.tk.2 i hlt).2
            have n0' : w.heap.size ≠ b := fun e => n0 e.symm
            go_wp2_with fail
            go_region_held (fun w' => w'.cell? ⟨w.heap.size + 1, 0, none⟩ = some (.slice (some ⟨b, o, none⟩) L.length cap) ∧ w'.cell? ⟨b, o + i * 2 + 1, none⟩ = some (.int .i64 L[i].p) ∧ (∃ z, w'.cell? ⟨w.heap.size, 0, none⟩ = some z) ∧ w'.frozen? ⟨w.heap.size, 0, none⟩ = false) (first | exact ⟨pC, hcx, ⟨_, qC⟩, gC⟩ | exact keepS pC hcx qC gC n0') (fail)
            go_wp2_with fail
            refine bodyPost_ret (v := .tuple #[.agg #[.slice (some ⟨b, o, none⟩) L.length cap], .int .i64 5, .int .i64 L[i].p]) (by simp [results, Tryz.results31, go_sem, ckC.cR]) rfl ⟨b, o, cap, by rw [HE.out], (ckC.fin (.slice (some ⟨b, o, none⟩) L.length cap)).1, (ckC.fin (.slice (some ⟨b, o, none⟩) L.length cap)).2.drew⟩
          · have HS : Hid (misF L i = misF L (i + 1)) := misF_no hlt (by rw [hN, hG, hR]; rfl)
            go_wp2_with fail
            refine (r_isName _ _ htz).mono ?_
            rintro e wA ⟨rfl, hbA⟩
            have ckA := ck.below hbA
            clear hbA p0 q0 g0 hck hck2
            have pA := ckA.cP
            have qA := ckA.cR
            have gA := ckA.fR
            go_wp2_with fail
            refine (r_given L b o cap i _ hL ht hp ckA.tk).mono ?_
            rintro e wB ⟨rfl, hbB⟩
            have ckB := ckA.below hbB
            clear hbB pA qA gA
            have pB := ckB.cP
            have qB := ckB.cR
            have gB := ckB.fR
            go_wp2_with fail
            refine (r_right L b o cap i _ hL ht hp ckB.tk hlt).mono ?_
            rintro e wC ⟨rfl, hbC⟩
            have ckC := ckB.below hbC
            clear hbC pB qB gB
            go_wp2_with fail
            go_roundw
            case rel => exact ⟨i + 1, by go_num, by omega, by rw [← HM.out, HS.out], ckC⟩
            case measure => simp [intOf]; omega
        · have HS : Hid (misF L i = misF L (i + 1)) := misF_no hlt (by rw [hN, hG]; rfl)
          go_wp2_with fail
          refine (r_isName _ _ htz).mono ?_
          rintro e wA ⟨rfl, hbA⟩
          have ckA := ck.below hbA
          clear hbA p0 q0 g0 hck hck2
          have pA := ckA.cP
          have qA := ckA.cR
          have gA := ckA.fR
          go_wp2_with fail
          refine (r_given L b o cap i _ hL ht hp ckA.tk).mono ?_
          rintro e wB ⟨rfl, hbB⟩
          have ckB := ckA.below hbB
          clear hbB pA qA gA
          have pB := ckB.cP
          have qB := ckB.cR
          have gB := ckB.fR
          go_wp2_with fail
          go_roundw
          case rel => exact ⟨i + 1, by go_num, by omega, by rw [← HM.out, HS.out], ckB⟩
          case measure => simp [intOf]; omega
    · have hms : misF L 0 = none := by rw [← HM.out, misF_out hlt]
      have HN1 : Hid (namesCheck L = match ariF L 0 with | some p => (6, (p : Int)) | none => (0, 0)) := by show _ = _; rw [HN0.out, hms]
      have HALL := hide (misF_none 0 hms)
      clear hms HM HN0
      have hQ0 : ∀ j ∈ procsB L, j < L.length := procsF_lt hp 0
      have hQ1 := procsB_len L
      go_wp2_with fail
      go_loopw [13] (fun u wr => ∃ i : Nat, u = .int .i64 i ∧ i ≤ L.length ∧ ariF L i = ariF L 0 ∧ Ck w wr b o cap L) (fun u _ => L.length - (intOf u).toNat)
      case atStart => exact ⟨0, rfl, Nat.zero_le _, rfl, ck⟩
      case round =>
        clear hi hlt ck
        obtain ⟨i, rfl, hi, hari, ck⟩ := hrel
        have HM := hide hari
        clear hari
        by_cases hlt : i < L.length
        · have hck := (ck.tk.2 i hlt).1
          have hck2 := (ck.tk.2 i hlt).2
          have htz := ht i hlt
          have p0 := ck.cP
          have q0 := ck.cR
          have g0 := ck.fR
          cases hN : isNameB L[i].t
          · have HS : Hid (ariF L i = ariF L (i + 1)) := ariF_no hlt (by rw [hN]; rfl)
            go_wp2_with fail
            refine (r_isName _ _ htz).mono ?_
            rintro e wA ⟨rfl, hbA⟩
            have ckA := ck.below hbA
            clear hbA p0 q0 g0 hck hck2
            have pA := ckA.cP
            have qA := ckA.cR
            have gA := ckA.fR
            go_wp2_with fail
            refine (r_given L b o cap i _ hL ht hp ckA.tk).mono ?_
            rintro e wB ⟨rfl, hbB⟩
            have ckB := ckA.below hbB
            clear hbB pA qA gA
            have pB := ckB.cP
            have qB := ckB.cR
            have gB := ckB.fR
            go_wp2_with fail
            go_roundw
            case rel => exact ⟨i + 1, by go_num, by omega, by rw [← HM.out, HS.out], ckB⟩
            case measure => simp [intOf]; omega
          · cases hG : givenB L i
            · cases hP : isB L ((i : Int) + 1) ⟨#[40]⟩
              · have HS : Hid (ariF L i = ariF L (i + 1)) := ariF_no hlt (by rw [hN, hG, hP]; rfl)
                go_wp2_with fail
                refine (r_isName _ _ htz).mono ?_
                rintro e wA ⟨rfl, hbA⟩
                have ckA := ck.below hbA
                clear hbA p0 q0 g0 hck hck2
                have pA := ckA.cP
                have qA := ckA.cR
                have gA := ckA.fR
                go_wp2_with fail
                refine (r_given L b o cap i _ hL ht hp ckA.tk).mono ?_
                rintro e wB ⟨rfl, hbB⟩
                have ckB := ckA.below hbB
                clear hbB pA qA gA
                have pB := ckB.cP
                have qB := ckB.cR
                have gB := ckB.fR
                go_wp2_with fail
                refine (r_is L b o cap _ _ _ hL ckB.tk).mono ?_
                rintro e wC ⟨rfl, hbC⟩
                have ckC := ckB.below hbC
                clear hbC pB qB gB
                have pC := ckC.cP
                have qC := ckC.cR
                have gC := ckC.fR
                go_wp2_with fail
                go_roundw
                case rel => exact ⟨i + 1, by go_num, by omega, by rw [← HM.out, HS.out], ckC⟩
                case measure => simp [intOf]; omega
              · have hrt : rightB L i = true := by have := HALL.out i (Nat.zero_le _) hlt; rw [hN, hG] at this; simpa using this
                have hix := hcall i hlt hN hG hP hrt
                by_cases hV : valuesB L (i + 1) = (paramsB L (procOf L i)).length
                · have HS : Hid (ariF L i = ariF L (i + 1)) := ariF_no hlt (by rw [hN, hG, hP, decide_eq_false (fun h => h hV)]; rfl)
                  have HV := hide hV
                  clear hV hrt
                  go_wp2_with fail
                  refine (r_isName _ _ htz).mono ?_
                  rintro e wA ⟨rfl, hbA⟩
                  have ckA := ck.below hbA
                  clear hbA p0 q0 g0 hck hck2
                  have pA := ckA.cP
                  have qA := ckA.cR
                  have gA := ckA.fR
                  go_wp2_with fail
                  refine (r_given L b o cap i _ hL ht hp ckA.tk).mono ?_
                  rintro e wB ⟨rfl, hbB⟩
                  have ckB := ckA.below hbB
                  clear hbB pA qA gA
                  have pB := ckB.cP
                  have qB := ckB.cR
                  have gB := ckB.fR
                  go_wp2_with fail
                  refine (r_is L b o cap _ _ _ hL ckB.tk).mono ?_
                  rintro e wC ⟨rfl, hbC⟩
                  have ckC := ckB.below hbC
                  clear hbC pB qB gB
                  have pC := ckC.cP
                  have qC := ckC.cR
                  have gC := ckC.fR
                  go_wp2_with fail
                  refine (r_procs L b o cap _ hL ckC.tk).mono ?_
                  rintro e wD ⟨aoQ, cpQ, rfl, hsQ, hbD⟩
                  have ckD := ckC.below hbD
                  clear hbD pC qC gC
                  have pD := ckD.cP
                  have qD := ckD.cR
                  have gD := ckD.fR
                  have hcx := (ckD.tk.2 i hlt).1
                  have hbx := ckD.tk.1
                  have hsz := ckD.sz
                  go_wp2_with fail
                  go_region_held (fun w' => w'.cell? ⟨w.heap.size + 1, 0, none⟩ = some (.slice (some ⟨b, o, none⟩) L.length cap) ∧ w'.cell? ⟨b, o + i * 2, none⟩ = some (.string L[i].t) ∧ Below wD.heap.size wD w') (first | exact ⟨pD, hcx, (Below.refl _ _).drew⟩ | exact keep2 hsz hbx (by assumption) (by assumption)) (first | (go_at_call 54; refine (r_index L b o cap _ _ _ _ _ hL ?_ (by omega) ?_ hQ0).mono ?_; exact ckD.tk.below (Below.refl _ _).drew; exact hsQ.below (Below.refl _ _).drew; rintro e wE ⟨rfl, hbE⟩))
                  have hbDE : Below wD.heap.size wD wE := (Below.refl _ _).drew.trans hbE
                  have ckE := ckD.below hbDE
                  have hsQE := hsQ.below hbDE
                  clear hbE hbDE pD qD gD hcx hbx hsz
                  have pE := ckE.cP
                  have qE := ckE.cR
                  have gE := ckE.fR
                  go_wp2_with fail
                  refine (r_values L b o cap (i + 1) _ hL (by omega) ckE.tk).mono ?_
                  rintro e wF ⟨rfl, hbF⟩
                  have ckF := ckE.below hbF
                  have hsQF := hsQE.below hbF
                  clear hbF pE qE gE
                  have pF := ckF.cP
                  have qF := ckF.cR
                  have gF := ckF.fR
                  obtain ⟨kq, hkq⟩ := Int.eq_ofNat_of_zero_le hix
                  have hkl : kq < (procsB L).length := by have := (indexB_lt L (procsB L) L[i].t).1; omega
                  obtain ⟨bq, oq, hbq, haoq, hcq⟩ := hsQF.2.2 kq hkl
                  subst haoq
                  have hjq := hQ0 (procsB L)[kq] (List.getElem_mem _)
                  have lp : (paramsB L (procsB L)[kq]).length ≤ L.length := Nat.le_trans (namesF_len L _) (Nat.sub_le _ _)
                  have HPO : Hid (procOf L i = (procsB L)[kq]) := by show _ = _; unfold procOf; rw [tk_eq hlt, hkq, Int.toNat_natCast, nth_eq hkl]
                  have hszF := ckF.sz
                  rw [hkq]
                  have HKQ := hide hkq
                  clear hkq
                  go_wp2_with fail
                  go_region_held (fun w' => w'.cell? ⟨w.heap.size + 1, 0, none⟩ = some (.slice (some ⟨b, o, none⟩) L.length cap) ∧ w'.cell? ⟨bq, oq + kq, none⟩ = some (.int .i64 (procsB L)[kq]) ∧ Below wF.heap.size wF w') (first | exact ⟨pF, hcq, (Below.refl _ _).drew⟩ | exact keep2 hszF hbq (by assumption) (by assumption)) (first | (go_at_call 56; refine (r_params L b o cap _ _ hL ht ?_ ?_).mono ?_; exact ckF.tk.below (Below.refl _ _).drew; exact (by omega); rintro e wG ⟨aoM, cpM, rfl, hsM, hbG⟩))
                  have ckG := ckF.below ((Below.refl _ _).drew.trans hbG)
                  clear hbG pF qF gF hsM
                  have pG := ckG.cP
                  have qG := ckG.cR
                  have gG := ckG.fR
                  have hv' : (valuesB L (i + 1) != ((paramsB L (procsB L)[kq]).length : Int)) = false := by rw [HV.out, HPO.out]; simp
                  go_wp2_with fail
                  go_roundw
                  case rel => exact ⟨i + 1, by go_num, by omega, by rw [← HM.out, HS.out], ckG⟩
                  case measure => simp [intOf]; omega
                · have HS : Hid (ariF L i = some L[i].p) := ariF_yes hlt (by rw [hN, hG, hP, decide_eq_true hV]; rfl)
                  have HE : Hid (namesCheck L = (6, (L[i].p : Int))) := by show _ = _; rw [HN1.out, ← HM.out, HS.out]
                  have HV := hide hV
                  clear hV hrt
                  go_wp2_with fail
                  refine (r_isName _ _ htz).mono ?_
                  rintro e wA ⟨rfl, hbA⟩
                  have ckA := ck.below hbA
                  clear hbA p0 q0 g0 hck hck2
                  have pA := ckA.cP
                  have qA := ckA.cR
                  have gA := ckA.fR
                  go_wp2_with fail
                  refine (r_given L b o cap i _ hL ht hp ckA.tk).mono ?_
                  rintro e wB ⟨rfl, hbB⟩
                  have ckB := ckA.below hbB
                  clear hbB pA qA gA
                  have pB := ckB.cP
                  have qB := ckB.cR
                  have gB := ckB.fR
                  go_wp2_with fail
                  refine (r_is L b o cap _ _ _ hL ckB.tk).mono ?_
                  rintro e wC ⟨rfl, hbC⟩
                  have ckC := ckB.below hbC
                  clear hbC pB qB gB
                  have pC := ckC.cP
                  have qC := ckC.cR
                  have gC := ckC.fR
                  go_wp2_with fail
                  refine (r_procs L b o cap _ hL ckC.tk).mono ?_
                  rintro e wD ⟨aoQ, cpQ, rfl, hsQ, hbD⟩
                  have ckD := ckC.below hbD
                  clear hbD pC qC gC
                  have pD := ckD.cP
                  have qD := ckD.cR
                  have gD := ckD.fR
                  have hcx := (ckD.tk.2 i hlt).1
                  have hbx := ckD.tk.1
                  have hsz := ckD.sz
                  go_wp2_with fail
                  go_region_held (fun w' => w'.cell? ⟨w.heap.size + 1, 0, none⟩ = some (.slice (some ⟨b, o, none⟩) L.length cap) ∧ w'.cell? ⟨b, o + i * 2, none⟩ = some (.string L[i].t) ∧ Below wD.heap.size wD w') (first | exact ⟨pD, hcx, (Below.refl _ _).drew⟩ | exact keep2 hsz hbx (by assumption) (by assumption)) (first | (go_at_call 54; refine (r_index L b o cap _ _ _ _ _ hL ?_ (by omega) ?_ hQ0).mono ?_; exact ckD.tk.below (Below.refl _ _).drew; exact hsQ.below (Below.refl _ _).drew; rintro e wE ⟨rfl, hbE⟩))
                  have hbDE : Below wD.heap.size wD wE := (Below.refl _ _).drew.trans hbE
                  have ckE := ckD.below hbDE
                  have hsQE := hsQ.below hbDE
                  clear hbE hbDE pD qD gD hcx hbx hsz
                  have pE := ckE.cP
                  have qE := ckE.cR
                  have gE := ckE.fR
                  go_wp2_with fail
                  refine (r_values L b o cap (i + 1) _ hL (by omega) ckE.tk).mono ?_
                  rintro e wF ⟨rfl, hbF⟩
                  have ckF := ckE.below hbF
                  have hsQF := hsQE.below hbF
                  clear hbF pE qE gE
                  have pF := ckF.cP
                  have qF := ckF.cR
                  have gF := ckF.fR
                  obtain ⟨kq, hkq⟩ := Int.eq_ofNat_of_zero_le hix
                  have hkl : kq < (procsB L).length := by have := (indexB_lt L (procsB L) L[i].t).1; omega
                  obtain ⟨bq, oq, hbq, haoq, hcq⟩ := hsQF.2.2 kq hkl
                  subst haoq
                  have hjq := hQ0 (procsB L)[kq] (List.getElem_mem _)
                  have lp : (paramsB L (procsB L)[kq]).length ≤ L.length := Nat.le_trans (namesF_len L _) (Nat.sub_le _ _)
                  have HPO : Hid (procOf L i = (procsB L)[kq]) := by show _ = _; unfold procOf; rw [tk_eq hlt, hkq, Int.toNat_natCast, nth_eq hkl]
                  have hszF := ckF.sz
                  rw [hkq]
                  have HKQ := hide hkq
                  clear hkq
                  go_wp2_with fail
                  go_region_held (fun w' => w'.cell? ⟨w.heap.size + 1, 0, none⟩ = some (.slice (some ⟨b, o, none⟩) L.length cap) ∧ w'.cell? ⟨bq, oq + kq, none⟩ = some (.int .i64 (procsB L)[kq]) ∧ Below wF.heap.size wF w') (first | exact ⟨pF, hcq, (Below.refl _ _).drew⟩ | exact keep2 hszF hbq (by assumption) (by assumption)) (first | (go_at_call 56; refine (r_params L b o cap _ _ hL ht ?_ ?_).mono ?_; exact ckF.tk.below (Below.refl _ _).drew; exact (by omega); rintro e wG ⟨aoM, cpM, rfl, hsM, hbG⟩))
                  have ckG := ckF.below ((Below.refl _ _).drew.trans hbG)
                  clear hbG pF qF gF hsM
                  have pG := ckG.cP
                  have qG := ckG.cR
                  have gG := ckG.fR
                  have hv' : (valuesB L (i + 1) != ((paramsB L (procsB L)[kq]).length : Int)) = true := by rw [← HPO.out]; exact bne_iff_ne.2 HV.out
                  have hcx := (ckG.tk.2 i hlt).2
                  have n0' : w.heap.size ≠ b := fun e => n0 e.symm
                  go_wp2_with fail
                  go_region_held (fun w' => w'.cell? ⟨w.heap.size + 1, 0, none⟩ = some (.slice (some ⟨b, o, none⟩) L.length cap) ∧ w'.cell? ⟨b, o + i * 2 + 1, none⟩ = some (.int .i64 L[i].p) ∧ (∃ z, w'.cell? ⟨w.heap.size, 0, none⟩ = some z) ∧ w'.frozen? ⟨w.heap.size, 0, none⟩ = false) (first | exact ⟨pG, hcx, ⟨_, qG⟩, gG⟩ | exact keepS pG hcx qG gG n0') (fail)
                  go_wp2_with fail
                  refine bodyPost_ret (v := .tuple #[.agg #[.slice (some ⟨b, o, none⟩) L.length cap], .int .i64 6, .int .i64 L[i].p]) (by simp [results, Tryz.results31, go_sem, ckG.cR]) rfl ⟨b, o, cap, by rw [HE.out], (ckG.fin (.slice (some ⟨b, o, none⟩) L.length cap)).1, (ckG.fin (.slice (some ⟨b, o, none⟩) L.length cap)).2.drew⟩
            · have HS : Hid (ariF L i = ariF L (i + 1)) := ariF_no hlt (by rw [hN, hG]; rfl)
              go_wp2_with fail
              refine (r_isName _ _ htz).mono ?_
              rintro e wA ⟨rfl, hbA⟩
              have ckA := ck.below hbA
              clear hbA p0 q0 g0 hck hck2
              have pA := ckA.cP
              have qA := ckA.cR
              have gA := ckA.fR
              go_wp2_with fail
              refine (r_given L b o cap i _ hL ht hp ckA.tk).mono ?_
              rintro e wB ⟨rfl, hbB⟩
              have ckB := ckA.below hbB
              clear hbB pA qA gA
              have pB := ckB.cP
              have qB := ckB.cR
              have gB := ckB.fR
              go_wp2_with fail
              go_roundw
              case rel => exact ⟨i + 1, by go_num, by omega, by rw [← HM.out, HS.out], ckB⟩
              case measure => simp [intOf]; omega
        · have HE : Hid (namesCheck L = (0, 0)) := by show _ = _; rw [HN1.out, ← HM.out, ariF_out hlt]
          have p0 := ck.cP
          have q0 := ck.cR
          have g0 := ck.fR
          go_wp2_with fail
          refine bodyPost_ret (v := .tuple #[.agg #[.slice (some ⟨b, o, none⟩) L.length cap], .int .i64 0, .int .i64 0]) (by simp [results, Tryz.results31, go_sem, ck.cR]) rfl ⟨b, o, cap, by rw [HE.out], (ck.fin _).1, (ck.fin _).2⟩

end Go.Proofs.YtmfcpbhdggonfaaGreatDoor
