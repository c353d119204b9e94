/- The statement Offered, over what it calls. -/
import Derived.Test.YtmfcpbhdggonfaaGreatDoorMgBL
import Derived.BigQuiet
import Derived.Deep.CutBlock
import Derived.Deep.DeepCutAuto
namespace Go.Proofs.YtmfcpbhdggonfaaGreatDoor
open Go.RowKit RR

def vwA (r : Vw × Int × Int) : Value := .tuple #[.agg #[.string r.1.text, .string r.1.enabled, .bool r.1.race, .bool r.1.dead], .int .i64 r.2.1, .int .i64 r.2.2]
structure OffN (p : Plan) (s : ByteArray) (n : Nat) : Prop where
  ok : (playP p s).2.1 = 0
  small : (playP p s).1.enabled.size ≤ 1000
  yes : ∀ b, hasB (playP p s).1.enabled b = true → (playP p (s ++ ⟨#[b]⟩)).2.1 = 0
  no : ∀ b, hasB (playP p s).1.enabled b = false → playP p (s ++ ⟨#[b]⟩) = (zVw, 8, (n : Int)) ∧ playP p (s ++ ⟨#[b]⟩ ++ ⟨#[97]⟩) = (zVw, 8, (n : Int))
theorem enabled_small (p : Plan) (c : Cfg) : (enabledF p c).size ≤ 1000 := by
  have e : ∀ i ch, (letterIfF p c i ch).size ≤ 1 := fun i ch => by
    unfold letterIfF
    split
    · unfold letterF
      repeat' split
      all_goals decide
    · decide
  have h0 := e 0 false
  have h1 := e 0 true
  have h2 := e 1 false
  have h3 := e 1 true
  have h4 := e 2 false
  have h5 := e 2 true
  unfold enabledF
  simp only [ByteArray.size_append]
  have z : (⟨#[]⟩ : ByteArray).size = 0 := rfl
  omega
theorem follow_ext {p : Plan} {s : ByteArray} {n : Nat} (hn : n ≤ s.size) : followF p (s.extract 0 n) n 0 (start1 p) = followF p s n 0 (start1 p) := by
  refine follow_same p _ _ n 0 _ fun j _ hj => ?_
  have hs : (s.extract 0 n).size = n := by rw [ByteArray.size_extract]; omega
  unfold byteB
  rw [dif_pos (by omega), dif_pos (by omega), ByteArray.getElem_extract]
  simp
theorem off_of {p : Plan} {s : ByteArray} {c : Cfg} (h : followF p s s.size 0 (start1 p) = .ok c) (n : Nat) (hn : n ≤ s.size) (hs : s.size ≤ 100) : OffN p (s.extract 0 n) n := by
  obtain ⟨c', hc⟩ := follow_part h n hn
  rw [← follow_ext hn] at hc
  have hz : (s.extract 0 n).size = n := by rw [ByteArray.size_extract]; omega
  generalize s.extract 0 n = t at *
  rw [← hz] at hc
  have hp : playP p t = (viewF p c', 0, 0) := by
    unfold playP
    rw [if_neg (by omega), hc]
  refine ⟨by rw [hp], by rw [hp]; exact enabled_small p c', fun b hb => ?_, fun b hb => ?_⟩
  · rw [hp] at hb
    have hb : hasB (enabledF p c') b = true := hb
    rw [enabled_iff] at hb
    obtain ⟨c1, h1⟩ := Option.isSome_iff_exists.1 hb
    have := follow_more hc h1
    unfold playP
    rw [if_neg (by rw [ByteArray.size_append]; show ¬ 200 < t.size + 1; omega), this]
  · rw [hp] at hb
    have hb : hasB (enabledF p c') b = false := hb
    rw [enabled_iff] at hb
    have h1 : ((readB b).bind fun x => stepF p c' x.1 x.2) = none := by simpa using hb
    refine ⟨?_, ?_⟩
    · have := follow_error hc h1 ⟨#[]⟩ (by show t.size + (1 + 0) ≤ 200; omega)
      rw [hz] at this
      have e : t ++ (⟨#[b]⟩ ++ (⟨#[]⟩ : ByteArray)) = t ++ ⟨#[b]⟩ := by
        have : (⟨#[b]⟩ : ByteArray) ++ (⟨#[]⟩ : ByteArray) = ⟨#[b]⟩ := ByteArray.append_empty
        rw [this]
      rw [e] at this
      exact this
    · have := follow_error hc h1 ⟨#[97]⟩ (by show t.size + (1 + 1) ≤ 200; omega)
      rw [hz, ← ByteArray.append_assoc] at this
      exact this

def ProgC (W : World) (raw tx : ByteArray) : Prop := ∀ w, Below W.heap.size W w → Calls Tryz.prog 17 #[.string raw] w fun e w' => e = .returned (.string tx) ∧ Below w.heap.size w w'
def WalkC (W : World) (tx path : ByteArray) (most : Int) (k : Wk) : Prop := ∀ w, Below W.heap.size W w → Calls Tryz.prog 19 #[.string tx, .string path, .int .i64 most] w fun e w' => e = .returned (.tuple #[.agg #[.string k.s, .int .i64 k.ctx, .int .i64 k.last, .int .i64 k.race, .int .i64 k.dead], .bool true]) ∧ Below w.heap.size w w'
def PlayC (W : World) (p : Plan) (tx : ByteArray) : Prop := ∀ s, s.size ≤ 200 → ∀ w, Below W.heap.size W w → Calls Tryz.prog 22 #[.string tx, .string s] w fun e w' => e = .returned (vwA (playP p s)) ∧ Below w.heap.size w w'
theorem cellB6 {w w' : World} {a : Addr} {x : Value} (h : w.cell? a = some x) (hb : Below w.heap.size w w') : w'.cell? a = some x := (hb.cell (p := a) (World.block_lt_of_cell? w a h)).trans h
theorem cellS6 {w : World} {a : Addr} {x : Value} {ob : Obj} (h : w.cell? a = some x) : (w.alloc ob).cell? a = some x := (World.cell?_alloc_lt _ _ _ (World.block_lt_of_cell? w a h)).trans h
theorem letter_ext (s : ByteArray) (i : Nat) (h : i < s.size) : s.extract i (i + 1) = ⟨#[s[i]]⟩ := by
  have hz : (s.extract i (i + 1)).size = 1 := by rw [ByteArray.size_extract]; omega
  refine ByteArray.ext_getElem (by rw [hz]; rfl) fun j h1 h2 => ?_
  have hj : j = 0 := by rw [hz] at h1; omega
  subst hj
  rw [ByteArray.getElem_extract]
  rfl

set_option maxRecDepth 100000 in
set_option maxHeartbeats 16000000 in
theorem k_Offered (W : World) (p : Plan) (raw path tx : ByteArray) (k : Wk) (hPR : ProgC W raw tx) (hWA : WalkC W tx path 1 k) (hPL : PlayC W p tx) (hz : k.s.size ≤ 100) (hO : ∀ n, n ≤ k.s.size → OffN p (k.s.extract 0 n) n) :
    Calls Tryz.prog 9 #[.string raw, .string path] W fun e w' => e = .returned (.bool true) ∧ Below W.heap.size W w' := by
  have HPR := hide hPR
  have HWA := hide hWA
  have HPL := hide hPL
  have HO := hide hO
  clear hPR hWA hPL hO
  go_enter Tryz.func9, Tryz.ntmps9
  go_wp2_with fail
  refine (HPR.out _ (Below.refl _ _)).mono ?_
  rintro e w1 ⟨rfl, hb1⟩
  have HB1 := hide hb1
  clear hb1
  go_wp2_with fail
  refine (HWA.out _ HB1.out).mono ?_
  rintro e w2 ⟨rfl, hb2⟩
  have HB2 := hide (HB1.out.trans (hb2.mono HB1.out.size))
  clear hb2 HB1
  go_upto_region 3 with fail
  have c6 : (w2.alloc (.cells #[.string k.s, .int .i64 k.ctx, .int .i64 k.last, .int .i64 k.race, .int .i64 k.dead] 31)).cell? ⟨w2.heap.size, 0, none⟩ = some (.string k.s) := by simp
  have HB3 := hide (HB2.out.alloc HB2.out.size (.cells #[.string k.s, .int .i64 k.ctx, .int .i64 k.last, .int .i64 k.race, .int .i64 k.dead] 31))
  clear HB2
  generalize w2.alloc (.cells #[.string k.s, .int .i64 k.ctx, .int .i64 k.last, .int .i64 k.race, .int .i64 k.dead] 31) = w3 at *
  generalize w2.heap.size = B at *
  have HS : Hid (∃ S, S = k.s) := ⟨_, rfl⟩
  obtain ⟨S, hS⟩ := HS.out
  rw [← hS] at c6 hz HO
  clear HS hS
  go_upto_region 6 with fail
  have HLT : Hid (∃ LT : ByteArray, LT = ⟨#[97, 98, 99, 65, 66, 67, 100, 63]⟩) := ⟨_, rfl⟩
  obtain ⟨LT, hLT⟩ := HLT.out
  rw [← hLT]
  have hl1 : LT.size ≤ 8 := by rw [hLT]; decide
  clear HLT hLT
  go_wp2_with fail
  go_loopw [9] (fun u wr => ∃ n : Nat, u = .int .i64 n ∧ n ≤ S.size + 1 ∧ wr.cell? ⟨B, 0, none⟩ = some (.string S) ∧ Below W.heap.size W wr) (fun u _ => S.size + 1 - (intOf u).toNat)
  case atStart => exact ⟨0, rfl, Nat.zero_le _, c6, HB3.out⟩
  case round =>
    obtain ⟨n, rfl, hn, c6', hb⟩ := hrel
    have HB := hide hb
    clear c6 HB3 hb
    by_cases hlt : n ≤ S.size
    · have hlt' : (n : Int) ≤ S.size := by omega
      have HN := hide (HO.out n hlt)
      have hsz : (S.extract 0 n).size ≤ 100 := by rw [ByteArray.size_extract]; omega
      go_wp2_with fail
      generalize S.extract 0 n = s at *
      refine (HPL.out s (by omega) _ HB.out).mono ?_
      rintro e w4 ⟨rfl, hb4⟩
      have c6 := cellB6 c6' hb4
      have HB4 := hide (HB.out.trans (hb4.mono HB.out.size))
      clear hb4 HB c6'
      have HOK := hide HN.out.ok
      have hsm := HN.out.small
      unfold vwA
      rw [HOK.out]
      generalize (playP p s).2.2 = at0 at *
      have HYES := hide HN.out.yes
      have HNO := hide HN.out.no
      generalize (playP p s).1.enabled = E at *
      generalize (playP p s).1.text = T at *
      generalize (playP p s).1.race = rc at *
      generalize (playP p s).1.dead = dd at *
      clear HN HOK
      go_upto_region 13 with fail
      have c6b := cellS6 (ob := (.cells #[.string T, .string E, .bool rc, .bool dd] 42)) c6
      have cV : (w4.alloc (.cells #[.string T, .string E, .bool rc, .bool dd] 42)).cell? ⟨w4.heap.size, 1, none⟩ = some (.string E) := by simp
      have HB5 := hide (HB4.out.alloc HB4.out.size (.cells #[.string T, .string E, .bool rc, .bool dd] 42))
      clear HB4 c6
      generalize w4.alloc (.cells #[.string T, .string E, .bool rc, .bool dd] 42) = w5 at *
      generalize w4.heap.size = V at *
      go_wp2_with fail
      go_loopw [14] (fun u wr => ∃ i : Nat, u = .int .i64 i ∧ i ≤ LT.size ∧ wr.cell? ⟨B, 0, none⟩ = some (.string S) ∧ wr.cell? ⟨V, 1, none⟩ = some (.string E) ∧ Below W.heap.size W wr) (fun u _ => LT.size - (intOf u).toNat)
      case atStart => exact ⟨0, rfl, Nat.zero_le _, c6b, cV, HB5.out⟩
      case round =>
        obtain ⟨i, rfl, hi, d6, dV, hb⟩ := hrel
        have HB := hide hb
        clear c6b cV HB5 hb
        by_cases hil : i < LT.size
        · have hil' : (i : Int) < LT.size := by omega
          have hx := letter_ext LT i hil
          have hsx : (s ++ (⟨#[LT[i]]⟩ : ByteArray)).size ≤ 101 := by rw [ByteArray.size_append]; show s.size + 1 ≤ 101; omega
          have hsy : (s ++ (⟨#[LT[i]]⟩ : ByteArray) ++ (⟨#[97]⟩ : ByteArray)).size ≤ 102 := by rw [ByteArray.size_append, ByteArray.size_append]; show s.size + 1 + 1 ≤ 102; omega
          have HX1 : Hid (∀ w, Below W.heap.size W w → Calls Tryz.prog 22 #[.string tx, .string (s ++ ⟨#[LT[i]]⟩ ++ ⟨#[97]⟩)] w fun e w' => e = .returned (vwA (playP p (s ++ ⟨#[LT[i]]⟩ ++ ⟨#[97]⟩))) ∧ Below w.heap.size w w') := HPL.out _ (by omega)
          have HX2 : Hid (∀ w, Below W.heap.size W w → Calls Tryz.prog 22 #[.string tx, .string (s ++ ⟨#[LT[i]]⟩)] w fun e w' => e = .returned (vwA (playP p (s ++ ⟨#[LT[i]]⟩))) ∧ Below w.heap.size w w') := HPL.out _ (by omega)
          have HH : Hid (hasB E LT[i] = true → (playP p (s ++ ⟨#[LT[i]]⟩)).2.1 = 0) := HYES.out LT[i]
          have HG : Hid (hasB E LT[i] = false → playP p (s ++ ⟨#[LT[i]]⟩) = (zVw, 8, (n : Int)) ∧ playP p (s ++ ⟨#[LT[i]]⟩ ++ ⟨#[97]⟩) = (zVw, 8, (n : Int))) := HNO.out LT[i]
          have hsz0 : s.size + 1 ≤ 101 := by omega
          generalize playP p (s ++ ⟨#[LT[i]]⟩ ++ ⟨#[97]⟩) = r1 at *
          generalize playP p (s ++ ⟨#[LT[i]]⟩) = r2 at *
          obtain ⟨⟨t1, n1, rc1, dd1⟩, f1, a1⟩ := r1
          obtain ⟨⟨t2, n2, rc2, dd2⟩, f2, a2⟩ := r2
          go_upto_region 16 with fail
          go_wp2_with fail
          refine (HX1.out _ HB.out).mono ?_
          rintro e w6 ⟨rfl, hb6⟩
          have e6 := cellB6 d6 hb6
          have eV := cellB6 dV hb6
          have HB6 := hide (HB.out.trans (hb6.mono HB.out.size))
          clear hb6 HB d6 dV HX1
          unfold vwA
          dsimp only
          go_upto_region 17 with fail
          have g6 := cellS6 (ob := (.cells #[.string t1, .string n1, .bool rc1, .bool dd1] 42)) e6
          have gV := cellS6 (ob := (.cells #[.string t1, .string n1, .bool rc1, .bool dd1] 42)) eV
          have cT : (w6.alloc (.cells #[.string t1, .string n1, .bool rc1, .bool dd1] 42)).cell? ⟨w6.heap.size, 0, none⟩ = some (.string t1) := by simp
          have HB7 := hide (HB6.out.alloc HB6.out.size (.cells #[.string t1, .string n1, .bool rc1, .bool dd1] 42))
          clear HB6 e6 eV
          generalize w6.alloc (.cells #[.string t1, .string n1, .bool rc1, .bool dd1] 42) = w7 at *
          generalize w6.heap.size = X at *
          go_cut [18] (fun u wx => u = .bool (hasB E LT[i]) ∧ wx.heap = w7.heap ∧ Below W.heap.size W wx)
          case first =>
            go_wp2_with (go_quiet (first | (go_at_call 23; refine Calls.quiet_of_same (k_contains E LT[i] hsm _))))
            go_meet
            case rel => exact ⟨rfl, rfl, HB7.out.trans ⟨rfl, rfl, rfl, Nat.le_refl _, fun _ _ => rfl⟩⟩
          case rest =>
            obtain ⟨rfl, hhp, hb8⟩ := hcut
            have hcell : ∀ a, wc.cell? a = w7.cell? a := fun a => by
              obtain ⟨b, o, q⟩ := a
              cases q with
              | none => simp only [World.cell?, hhp]
              | some q => simp only [World.cell?, hhp]
            have h6 := (hcell _).trans g6
            have hV := (hcell _).trans gV
            have hT := (hcell _).trans cT
            have HB8 := hide hb8
            clear hcell hhp hb8 HB7 g6 gV cT
            go_wp2_with fail
            refine (HX2.out _ HB8.out).mono ?_
            rintro e w9 ⟨rfl, hb9⟩
            have e6 := cellB6 h6 hb9
            have eV := cellB6 hV hb9
            have eT := cellB6 hT hb9
            have HB9 := hide (HB8.out.trans (hb9.mono HB8.out.size))
            clear hb9 HB8 h6 hV hT HX2
            unfold vwA
            dsimp only
            go_upto_region 19 with fail
            have i6 := cellS6 (ob := (.cells #[.string t2, .string n2, .bool rc2, .bool dd2] 42)) e6
            have iV := cellS6 (ob := (.cells #[.string t2, .string n2, .bool rc2, .bool dd2] 42)) eV
            have iT := cellS6 (ob := (.cells #[.string t2, .string n2, .bool rc2, .bool dd2] 42)) eT
            have iY : (w9.alloc (.cells #[.string t2, .string n2, .bool rc2, .bool dd2] 42)).cell? ⟨w9.heap.size, 0, none⟩ = some (.string t2) := by simp
            have HB10 := hide (HB9.out.alloc HB9.out.size (.cells #[.string t2, .string n2, .bool rc2, .bool dd2] 42))
            clear HB9 e6 eV eT
            generalize w9.alloc (.cells #[.string t2, .string n2, .bool rc2, .bool dd2] 42) = w10 at *
            generalize w9.heap.size = Y at *
            by_cases hin : hasB E LT[i] = true
            · have h20 : f2 = 0 := HH.out hin
              rw [hin]
              subst h20
              clear HH HG hin
              go_wp2_with fail
              refine ⟨⟨i + 1, by go_num, by omega, i6, iV, HB10.out⟩, ?_⟩
              simp [intOf]; omega
            · have hin2 : hasB E LT[i] = false := by simpa using hin
              obtain ⟨q2, q1⟩ := HG.out hin2
              have x1 : t1 = ⟨#[]⟩ := congrArg (fun r : Vw × Int × Int => r.1.text) q1
              have x2 : f1 = 8 := congrArg (fun r : Vw × Int × Int => r.2.1) q1
              have x3 : a1 = n := congrArg (fun r : Vw × Int × Int => r.2.2) q1
              have y1 : t2 = ⟨#[]⟩ := congrArg (fun r : Vw × Int × Int => r.1.text) q2
              have y2 : f2 = 8 := congrArg (fun r : Vw × Int × Int => r.2.1) q2
              have y3 : a2 = n := congrArg (fun r : Vw × Int × Int => r.2.2) q2
              clear q1 q2 HH HG hin
              rw [hin2]
              clear hin2
              subst x1 x2 x3 y1 y2 y3
              go_wp2_with fail
              refine ⟨⟨i + 1, by go_num, by omega, i6, iV, HB10.out⟩, ?_⟩
              simp [intOf]; omega
        · have hie : ¬ (i : Int) < LT.size := by omega
          go_wp2_with fail
          refine ⟨⟨n + 1, by go_num, by omega, d6, HB.out⟩, ?_⟩
          simp [intOf]; omega
    · have hne : ¬ (n : Int) ≤ S.size := by omega
      go_wp2_with fail
      go_ret
      exact ⟨rfl, HB.out⟩

end Go.Proofs.YtmfcpbhdggonfaaGreatDoor
