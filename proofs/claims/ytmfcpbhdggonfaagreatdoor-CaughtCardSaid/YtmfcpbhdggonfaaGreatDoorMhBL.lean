/- Contracts of the statements' own package: walk. -/
import Derived.Test.YtmfcpbhdggonfaaGreatDoorMhBK
import Derived.Test.YtmfcpbhdggonfaaGreatDoorMhBH
import Derived.Test.YtmfcpbhdggonfaaGreatDoorMhAC
import Derived.Laws.IdiomStrings
namespace Go.Proofs.YtmfcpbhdggonfaaGreatDoor
open Go.RowKit RR
def wkL (w:Wk):List Value:=[.string w.s,.int .i64 w.ctx,.int .i64 w.last,.int .i64 w.race,.int .i64 w.dead]
def headT:ByteArray:=⟨#[48,48,47,45,45,47]⟩
set_option maxRecDepth 100000 in
set_option maxHeartbeats 1000000 in
theorem k_beginsT (s t:ByteArray) (w:World) (h:t.size ≤ s.size) (he:s.extract 0 t.size = t):Calls Tryz.prog 25 #[.string s,.string t] w fun e w'=>e = .returned (.bool true)∧w' = w:=by
 have hi:(t.size:Int) ≤ s.size:=by omega
 go_enter Tryz.func25,Tryz.ntmps25
 go_wp2
 go_ret
 exact ⟨rfl,rfl⟩
def seenA (p:Plan) (most:Int) (i:Nat) (c:Cfg) (w:Wk):Wk:=if decide ((w.ctx:Int) ≤ most) && raceF p c && decide (w.race < 0) then { w with race:=(i:Int) } else w
def seenB (p:Plan) (most:Int) (i:Nat) (c:Cfg) (w:Wk):Wk:=if decide ((w.ctx:Int) ≤ most) && deadF p c && decide (w.dead < 0) then { w with dead:=(i:Int) } else w
theorem seen_ab (p:Plan) (most:Int) (i:Nat) (c:Cfg) (w:Wk):seenB p most i c (seenA p most i c w) = seenW p most i c w:=rfl
theorem readB_range {b:UInt8} {x:Int × Bool} (h:readB b = some x):0 ≤ x.1∧x.1 ≤ 2:=by
 unfold readB at h
 split at h
 ·have:=Option.some.inj h; subst this; simp only []; omega
 ·split at h
  ·have:=Option.some.inj h; subst this; simp only []; omega
  ·cases h
theorem no_list {E:ByteArray} (h:¬ E.size = 0):¬ E.toList = []:=fun e=>h (by
 have h:E = ⟨#[]⟩:=toList_inj.1 (by simpa using e)
 rw [h]; rfl)
theorem one_byte (wc:World) (B o:Nat) (x:Value) (nb:UInt8):(convert 84 9 (.slice (some ⟨wc.heap.size,0,none⟩) 1 1)).run Tryz.prog ((wc.setCell ⟨B,o,none⟩ x).alloc (.cells #[.int .u8 nb.toNat] 5)) = .ok (.string ⟨#[nb]⟩) ((wc.setCell ⟨B,o,none⟩ x).alloc (.cells #[.int .u8 nb.toNat] 5)):=by
 have hz:(wc.setCell ⟨B,o,none⟩ x).heap.size = wc.heap.size:=by simp
 refine run_convert_bytes_back (P:=Tryz.prog) _ 84 9 5 ⟨wc.heap.size,0,none⟩ 1 [nb] Tryz.underlying84 Tryz.underlying5 Tryz.underlying9 (fun j hj=>?_)
 have hj0:j = 0:=by simp at hj; omega
 subst hj0
 have:=World.cell?_alloc_mark (wc.setCell ⟨B,o,none⟩ x) #[.int .u8 nb.toNat] 5 (0,0) 0
 rw [hz] at this
 exact this
theorem walk_result {v:Wk} {w:World} {b:Nat} {tmps:Array Value} (h:w.heap[b]? = some (.cells (wkL v).toArray 31 (0,0))) (ht:tmps.getD 6 undef = .pointer (some ⟨b,0,none⟩)) (hx:tmps.getD 7 undef = .bool true):(results Tryz.f19 tmps).run Tryz.prog w = .ok (.tuple #[.agg (wkL v).toArray,.bool true]) w :=
 res_cell_tmp rfl ht hx (range_whole h) Tryz.underlying31 rfl (by kernel_rfl)
def PlayW (W:World) (p:Plan) (tx:ByteArray):Prop:=∀ s c,s.size ≤ 200→followF p s s.size 0 (start1 p) = .ok c→∀ w,Below W.heap.size W w→Calls Tryz.prog 22 #[.string tx,.string s] w fun e w'=>e = .returned (.tuple #[.agg #[.string (textF p c),.string (enabledF p c),.bool (raceF p c),.bool (deadF p c)],.int .i64 0,.int .i64 0])∧Below w.heap.size w w'
set_option maxRecDepth 100000 in
set_option maxHeartbeats 16000000 in
theorem k_walk (W:World) (p:Plan) (tx path:ByteArray) (most:Int) (hP:PlayW W p tx) (hh:6 ≤ (textF p (start1 p)).size∧(textF p (start1 p)).extract 0 6 = headT) (_hm:0 ≤ most∧most ≤ 100) (_hpath:path.size ≤ 9223372036854775807) (w:World) (hw:Below W.heap.size W w) :
    Calls Tryz.prog 19 #[.string tx,.string path,.int .i64 most] w fun e w'=>e = .returned (.tuple #[.agg (wkL (walkW p path most 41 0 (start1 p) zWk)).toArray,.bool true])∧Below w.heap.size w w':=by
 have HP:=hide hP
 have HH:=hide hh
 have HW:=hide hw
 clear hP hh hw
 go_enter Tryz.func19,Tryz.ntmps19
 go_upto_region 2 with fail
 have h6:((w.alloc (.cells #[.string ⟨#[]⟩,.int .i64 0,.int .i64 0,.int .i64 0,.int .i64 0] 31)).alloc (.cells #[.string ⟨#[]⟩,.int .i64 0,.int .i64 (-1),.int .i64 (-1),.int .i64 (-1)] 31)).heap[w.heap.size]? = some (.cells #[.string ⟨#[]⟩,.int .i64 0,.int .i64 0,.int .i64 0,.int .i64 0] 31 (0,0)):=(Below.heap_alloc _ _ _ (by simp)).trans (heap_alloc_new _ _)
 have h8:((w.alloc (.cells #[.string ⟨#[]⟩,.int .i64 0,.int .i64 0,.int .i64 0,.int .i64 0] 31)).alloc (.cells #[.string ⟨#[]⟩,.int .i64 0,.int .i64 (-1),.int .i64 (-1),.int .i64 (-1)] 31)).heap[w.heap.size + 1]? = some (.cells (wkL zWk).toArray 31 (0,0)):=by
  have:=heap_alloc_new (w.alloc (.cells #[.string ⟨#[]⟩,.int .i64 0,.int .i64 0,.int .i64 0,.int .i64 0] 31)) (.cells #[.string ⟨#[]⟩,.int .i64 0,.int .i64 (-1),.int .i64 (-1),.int .i64 (-1)] 31)
  have e:(w.alloc (.cells #[.string ⟨#[]⟩,.int .i64 0,.int .i64 0,.int .i64 0,.int .i64 0] 31)).heap.size = w.heap.size + 1:=by simp
  rw [e] at this
  exact this
 have HB0:Hid (Below w.heap.size w ((w.alloc (.cells #[.string ⟨#[]⟩,.int .i64 0,.int .i64 0,.int .i64 0,.int .i64 0] 31)).alloc (.cells #[.string ⟨#[]⟩,.int .i64 0,.int .i64 (-1),.int .i64 (-1),.int .i64 (-1)] 31))):=((Below.refl _ _).alloc (Nat.le_refl _) _).alloc (by simp) _
 generalize (w.alloc (.cells #[.string ⟨#[]⟩,.int .i64 0,.int .i64 0,.int .i64 0,.int .i64 0] 31)).alloc (.cells #[.string ⟨#[]⟩,.int .i64 0,.int .i64 (-1),.int .i64 (-1),.int .i64 (-1)] 31) = w0 at *
 have hBl:w.heap.size < w.heap.size + 1:=Nat.lt_succ_self _
 generalize w.heap.size + 1 = B at *
 go_wp2_with fail
 go_loopw [9] (fun u wr=>∃ (k:Nat) (c:Cfg) (v:Wk),u = .int .i64 k∧k ≤ 41∧v.s.size = k∧followF p v.s v.s.size 0 (start1 p) = .ok c∧WkOk v∧walkW p path most (41 - k) k c v = walkW p path most 41 0 (start1 p) zWk∧wr.heap[B]? = some (.cells (wkL v).toArray 31 (0,0))∧wr.heap[w.heap.size]? = some (.cells #[.string ⟨#[]⟩,.int .i64 0,.int .i64 0,.int .i64 0,.int .i64 0] 31 (0,0))∧Below w.heap.size w wr) (fun u _=>42 - (intOf u).toNat)
 case atStart=>exact ⟨0,start1 p,zWk,rfl,by decide,rfl,rfl,WkOk.zero,rfl,h8,h6,HB0.out⟩
 case round =>
  obtain ⟨k,c,v,rfl,hk,hsz,hf,hok,hwk,b8,b6,hbr⟩:=hrel
  have HF:=hide hf
  have HO:=hide hok
  have HWK:=hide hwk
  have HBR:=hide hbr
  have HSZ:=hide hsz
  clear hf hok hwk hbr hsz h6 h8
  by_cases hlt:k ≤ 40
  ·have hlt':(k:Int) ≤ 40:=by omega
   have hz8:B < wr.heap.size:=(Array.getElem?_eq_some_iff.1 b8).1
   have c0:wr.cell? ⟨B,0,none⟩ = some (.string v.s):=by simp [World.cell?,b8,wkL]
   have c1:wr.cell? ⟨B,1,none⟩ = some (.int .i64 v.ctx):=by simp [World.cell?,b8,wkL]
   go_wp2_with fail
   refine (HP.out v.s c (by rw [HSZ.out]; omega) HF.out _ (HW.out.trans (HBR.out.mono HW.out.size))).mono ?_
   rintro e w3 ⟨rfl,hb3⟩
   have HT:Hid (k = 0→6 ≤ (textF p c).size∧(textF p c).extract 0 6 = headT):=fun hk0=>by
    have h1:=HF.out
    rw [HSZ.out,hk0] at h1
    have h1:(Except.ok (start1 p):Except Nat Cfg) = .ok c:=h1
    cases h1
    exact HH.out
   have HD:Hid (deadF p c = true→(enabledF p c).size = 0):=fun hd=>by
    unfold deadF at hd
    simp only [Bool.and_eq_true] at hd
    simpa using hd.2
   have b8':=(hb3.block _ hz8).trans b8
   have hz6:w.heap.size < wr.heap.size:=(Array.getElem?_eq_some_iff.1 b6).1
   have b6':=(hb3.block _ hz6).trans b6
   have HB3:=hide (HBR.out.trans (hb3.mono HBR.out.size))
   have z3:wr.heap.size ≤ w3.heap.size:=hb3.size
   clear c0 c1 b8 b6 hb3 HBR
   generalize textF p c = T at *
   generalize hE:enabledF p c = E at *
   generalize hrc:raceF p c = rc at *
   generalize hdd:deadF p c = dd at *
   have HE:=hide hE
   have HRC:=hide hrc
   have HDD:=hide hdd
   clear hE hrc hdd
   go_upto_region 6 with fail
   have b8:=(Below.heap_alloc w3 (.cells #[.string T,.string E,.bool rc,.bool dd] 42) _ (by omega)).trans b8'
   have b6:=(Below.heap_alloc w3 (.cells #[.string T,.string E,.bool rc,.bool dd] 42) _ (by omega)).trans b6'
   have v0:(w3.alloc (.cells #[.string T,.string E,.bool rc,.bool dd] 42)).cell? ⟨w3.heap.size,0,none⟩ = some (.string T):=by simp
   have v1:(w3.alloc (.cells #[.string T,.string E,.bool rc,.bool dd] 42)).cell? ⟨w3.heap.size,1,none⟩ = some (.string E):=by simp
   have v2:(w3.alloc (.cells #[.string T,.string E,.bool rc,.bool dd] 42)).cell? ⟨w3.heap.size,2,none⟩ = some (.bool rc):=by simp
   have v3:(w3.alloc (.cells #[.string T,.string E,.bool rc,.bool dd] 42)).cell? ⟨w3.heap.size,3,none⟩ = some (.bool dd):=by simp
   have HB4:=hide (HB3.out.alloc HB3.out.size (.cells #[.string T,.string E,.bool rc,.bool dd] 42))
   have hVB:B < w3.heap.size:=by omega
   clear b8' b6' HB3
   generalize w3.alloc (.cells #[.string T,.string E,.bool rc,.bool dd] 42) = w4 at *
   generalize w3.heap.size = V at *
   have c0:w4.cell? ⟨B,0,none⟩ = some (.string v.s):=by simp [World.cell?,b8,wkL]
   have c1:w4.cell? ⟨B,1,none⟩ = some (.int .i64 v.ctx):=by simp [World.cell?,b8,wkL]
   have HC:Hid (ctxN v.s = ((v.ctx:Int),0)):=HO.out.ctxN (by rw [HSZ.out]; omega)
   go_wp2_with fail
   refine (m_Contexts v.s _ (by rw [HSZ.out]; unfold maxLen; omega)).mono ?_
   rintro e w5 ⟨rfl,rfl⟩
   rw [HC.out]
   go_upto_region 9 with fail
   go_cut [59] (fun u wx=>u = .bool false∧w5 = wx)
   case first =>
    by_cases hk0:k = 0
    ·obtain ⟨q1,q2⟩:=HT.out hk0
     subst hk0
     go_wp2_with (go_at_call 25; refine (k_beginsT T headT _ q1 q2).mono ?_; rintro e w6 ⟨rfl,rfl⟩)
     go_meet
     case rel=>exact ⟨rfl,rfl⟩
    ·have hk1:((k:Int) == 0) = false:=beq_eq_false_iff_ne.2 (by omega)
     go_wp2_with fail
     go_meet
     case rel=>exact ⟨rfl,rfl⟩
   case rest =>
    obtain ⟨rfl,hq⟩:=hcut
    subst hq
    go_upto_region 11 with fail
    have c3:w5.cell? ⟨B,3,none⟩ = some (.int .i64 v.race):=by simp [World.cell?,b8,wkL]
    have f3:w5.frozen? ⟨B,3,none⟩ = false:=by simp [World.frozen?,b8]
    go_cut [73] (fun u wx=>u = .bool (decide ((v.ctx:Int) ≤ most) && rc && decide (v.race < 0))∧w5 = wx)
    case first =>
     by_cases g1:(v.ctx:Int) ≤ most
     ·cases rc
      ·go_wp2_with fail
       go_meet
       case rel=>exact ⟨by simp,rfl⟩
      ·by_cases g3:v.race < 0
       ·go_wp2_with fail
        go_meet
        case rel=>exact ⟨by simp [g1,g3],rfl⟩
       ·go_wp2_with fail
        go_meet
        case rel=>exact ⟨by simp [g3],rfl⟩
     ·have G1:=hide g1
      go_wp2_with fail
      go_meet
      case rel=>exact ⟨by rw [decide_eq_false (Int.not_le.2 G1.out)]; rfl,rfl⟩
    case rest =>
     obtain ⟨rfl,hq⟩:=hcut
     subst hq
     have HV1:Hid (∃ va:Wk,va = if (decide ((v.ctx:Int) ≤ most) && rc && decide (v.race < 0)) = true then { v with race:=(k:Int) } else v):=⟨_,rfl⟩
     obtain ⟨va,hv1⟩:=HV1.out
     clear HV1
     have HS1:Hid (va = seenA p most k c v):=by show _ = _; rw [hv1]; unfold seenA; rw [HRC.out]
     generalize (decide ((v.ctx:Int) ≤ most) && rc && decide (v.race < 0)) = b1 at *
     go_upto_if 73 with fail
     go_cut [] (fun wx=>wx.heap[B]? = some (.cells (wkL va).toArray 31 (0,0))∧(∀ j,j ≠ B→wx.heap[j]? = w5.heap[j]?)∧Below w.heap.size w wx)
     case first =>
      cases b1
      ·have hv:va = v:=hv1
       subst hv
       go_wp2_with fail
       go_meet
       case rel=>exact ⟨b8,fun _ _=>rfl,HB4.out⟩
      ·have hv:va = { v with race:=(k:Int) }:=hv1
       subst hv
       go_wp2_with fail
       go_meet
       case rel=>exact ⟨wset b8 3 _,fun j hj=>wset_ne _ _ _ _ _ hj,HB4.out.setCell (p:=⟨B,3,none⟩) (Nat.le_of_lt hBl) _⟩
     case rest =>
      obtain ⟨d8,dj,hb6⟩:=hcut
      have b6x:=(dj _ (by omega)).trans b6
      have y1:wc.cell? ⟨V,1,none⟩ = some (.string E):=by have e:=dj V (by omega); simp only [World.cell?] at v1 ⊢; rw [e]; exact v1
      have y3:wc.cell? ⟨V,3,none⟩ = some (.bool dd):=by have e:=dj V (by omega); simp only [World.cell?] at v3 ⊢; rw [e]; exact v3
      have HB6:=hide hb6
      have HV1:=hide hv1
      have e1:va.ctx = v.ctx∧va.dead = v.dead:=by rw [hv1]; split <;> exact ⟨rfl,rfl⟩
      clear b8 b6 v0 v2 v3 c0 c1 c3 f3 dj hb6 hv1 HB4
      have c1:wc.cell? ⟨B,1,none⟩ = some (.int .i64 va.ctx):=by simp [World.cell?,d8,wkL]
      have c4:wc.cell? ⟨B,4,none⟩ = some (.int .i64 va.dead):=by simp [World.cell?,d8,wkL]
      have f4:wc.frozen? ⟨B,4,none⟩ = false:=by simp [World.frozen?,d8]
      have HE1:=hide e1
      clear e1
      go_upto_region 13 with fail
      go_cut [88] (fun u wx=>u = .bool (decide ((va.ctx:Int) ≤ most) && dd && decide (va.dead < 0))∧wc = wx)
      case first =>
       by_cases g1:(va.ctx:Int) ≤ most
       ·cases dd
        ·go_wp2_with fail
         go_meet
         case rel=>exact ⟨by simp,rfl⟩
        ·by_cases g3:va.dead < 0
         ·go_wp2_with fail
          go_meet
          case rel=>exact ⟨by simp [g1,g3],rfl⟩
         ·go_wp2_with fail
          go_meet
          case rel=>exact ⟨by simp [g3],rfl⟩
       ·have G1:=hide g1
        go_wp2_with fail
        go_meet
        case rel=>exact ⟨by rw [decide_eq_false (Int.not_le.2 G1.out)]; rfl,rfl⟩
      case rest =>
       obtain ⟨rfl,hq⟩:=hcut
       subst hq
       have HV2:Hid (∃ vb:Wk,vb = if (decide ((va.ctx:Int) ≤ most) && dd && decide (va.dead < 0)) = true then { va with dead:=(k:Int) } else va):=⟨_,rfl⟩
       obtain ⟨vb,hv2⟩:=HV2.out
       clear HV2
       have HS2:Hid (vb = seenW p most k c v):=by show _ = _; rw [← seen_ab,← HS1.out,hv2]; unfold seenB; rw [HDD.out]
       generalize (decide ((va.ctx:Int) ≤ most) && dd && decide (va.dead < 0)) = b2 at *
       go_upto_if 88 with fail
       go_cut [] (fun wx=>wx.heap[B]? = some (.cells (wkL vb).toArray 31 (0,0))∧(∀ j,j ≠ B→wx.heap[j]? = wc.heap[j]?)∧Below w.heap.size w wx)
       case first =>
        cases b2
        ·have hv:vb = va:=hv2
         subst hv
         go_wp2_with fail
         go_meet
         case rel=>exact ⟨d8,fun _ _=>rfl,HB6.out⟩
        ·have hv:vb = { va with dead:=(k:Int) }:=hv2
         subst hv
         go_wp2_with fail
         go_meet
         case rel=>exact ⟨wset d8 4 _,fun j hj=>wset_ne _ _ _ _ _ hj,HB6.out.setCell (p:=⟨B,4,none⟩) (Nat.le_of_lt hBl) _⟩
       case rest =>
        obtain ⟨e8,ej,hb7⟩:=hcut
        have b6y:=(ej _ (by omega)).trans b6x
        have z1:wc.cell? ⟨V,1,none⟩ = some (.string E):=by have e:=ej V (by omega); simp only [World.cell?] at y1 ⊢; rw [e]; exact y1
        have z3:wc.cell? ⟨V,3,none⟩ = some (.bool dd):=by have e:=ej V (by omega); simp only [World.cell?] at y3 ⊢; rw [e]; exact y3
        have HB7:=hide hb7
        clear d8 b6x y1 y3 c1 c4 f4 ej hb7 hv2 HB6 HS1 HE1 HV1
        go_upto_region 15 with fail
        go_cut [97] (fun u wx=>u = .bool false∧wc = wx)
        case first =>
         cases dd
         ·go_wp2_with fail
          go_meet
          case rel=>exact ⟨rfl,rfl⟩
         ·have hE0:E = ⟨#[]⟩:=by
            have:=HD.out rfl
            exact ByteArray.ext (Array.size_eq_zero_iff.1 this)
          rw [hE0] at z1
          go_wp2_with fail
          go_meet
          case rel=>exact ⟨rfl,rfl⟩
        case rest =>
         obtain ⟨rfl,hq⟩:=hcut
         subst hq
         clear z3
         go_upto_region 17 with fail
         clear v1
         have HSW:=hide (seenW_s p most k c v)
         rw [← HS2.out] at HSW
         have q0:wc.cell? ⟨B,0,none⟩ = some (.string vb.s):=by simp [World.cell?,e8,wkL]
         have q1:wc.cell? ⟨B,1,none⟩ = some (.int .i64 vb.ctx):=by simp [World.cell?,e8,wkL]
         have q2:wc.cell? ⟨B,2,none⟩ = some (.int .i64 vb.last):=by simp [World.cell?,e8,wkL]
         have f0:wc.frozen? ⟨B,0,none⟩ = false:=by simp [World.frozen?,e8]
         have f1:wc.frozen? ⟨B,1,none⟩ = false:=by simp [World.frozen?,e8]
         have f2:wc.frozen? ⟨B,2,none⟩ = false:=by simp [World.frozen?,e8]
         by_cases hstop:E.size = 0 ∨ path.size ≤ k
         ·have HE1:Hid (walkW p path most 41 0 (start1 p) zWk = vb):=by
            show _ = _
            rw [← HWK.out,HS2.out]
            obtain ⟨d,hd⟩:∃ d,41 - k = d + 1:=⟨40 - k,by omega⟩
            rw [hd,walkW,HE.out,if_pos hstop]
          have q3:wc.cell? ⟨B,3,none⟩ = some (.int .i64 vb.race):=by simp [World.cell?,e8,wkL]
          have q4:wc.cell? ⟨B,4,none⟩ = some (.int .i64 vb.dead):=by simp [World.cell?,e8,wkL]
          have o0:wc.cell? ⟨w.heap.size,0,none⟩ = some (.string ⟨#[]⟩):=by simp [World.cell?,b6y]
          have o1:wc.cell? ⟨w.heap.size,1,none⟩ = some (.int .i64 0):=by simp [World.cell?,b6y]
          have o2:wc.cell? ⟨w.heap.size,2,none⟩ = some (.int .i64 0):=by simp [World.cell?,b6y]
          have o3:wc.cell? ⟨w.heap.size,3,none⟩ = some (.int .i64 0):=by simp [World.cell?,b6y]
          have o4:wc.cell? ⟨w.heap.size,4,none⟩ = some (.int .i64 0):=by simp [World.cell?,b6y]
          have g0:wc.frozen? ⟨w.heap.size,0,none⟩ = false:=by simp [World.frozen?,b6y]
          have g1:wc.frozen? ⟨w.heap.size,1,none⟩ = false:=by simp [World.frozen?,b6y]
          have g2:wc.frozen? ⟨w.heap.size,2,none⟩ = false:=by simp [World.frozen?,b6y]
          have g3:wc.frozen? ⟨w.heap.size,3,none⟩ = false:=by simp [World.frozen?,b6y]
          have g4:wc.frozen? ⟨w.heap.size,4,none⟩ = false:=by simp [World.frozen?,b6y]
          have HSET:Hid (∀ (a:ByteArray) (b:Nat) (c d e:Int),(((((wc.setCell ⟨w.heap.size,0,none⟩ (.string a)).setCell ⟨w.heap.size,1,none⟩ (.int .i64 b)).setCell ⟨w.heap.size,2,none⟩ (.int .i64 c)).setCell ⟨w.heap.size,3,none⟩ (.int .i64 d)).setCell ⟨w.heap.size,4,none⟩ (.int .i64 e)).heap[w.heap.size]? = some (.cells (wkL ⟨a,b,c,d,e⟩).toArray 31 (0,0))):=fun a b c d e=>wset (wset (wset (wset (wset b6y 0 _) 1 _) 2 _) 3 _) 4 _
          have HBEL:Hid (∀ (a b c d e:Value),Below w.heap.size w (((((wc.setCell ⟨w.heap.size,0,none⟩ a).setCell ⟨w.heap.size,1,none⟩ b).setCell ⟨w.heap.size,2,none⟩ c).setCell ⟨w.heap.size,3,none⟩ d).setCell ⟨w.heap.size,4,none⟩ e)):=fun a b c d e=>((((HB7.out.setCell (p:=⟨w.heap.size,0,none⟩) (Nat.le_refl _) _).setCell (p:=⟨w.heap.size,1,none⟩) (Nat.le_refl _) _).setCell (p:=⟨w.heap.size,2,none⟩) (Nat.le_refl _) _).setCell (p:=⟨w.heap.size,3,none⟩) (Nat.le_refl _) _).setCell (p:=⟨w.heap.size,4,none⟩) (Nat.le_refl _) _
          clear b6y e8 f0 f1 f2 HB7
          go_cut [107] (fun u wx=>u = .bool true∧wc = wx)
          case first =>
           by_cases hE0:E.size = 0
           ·have hE:E = ⟨#[]⟩:=ByteArray.ext (Array.size_eq_zero_iff.1 hE0)
            rw [hE] at z1
            clear hstop hE0 hE
            go_wp2_with fail
            go_meet
            case rel=>exact ⟨rfl,rfl⟩
           ·have hp:(path.size:Int) ≤ k:=by omega
            have hEq:¬ E.toList = []:=no_list hE0
            clear hstop hE0
            go_wp2_with fail
            go_meet
            case rel=>exact ⟨rfl,rfl⟩
          case rest =>
           obtain ⟨rfl,hq⟩:=hcut
           subst hq
           clear hstop
           go_wp2_with fail
           refine bodyPost_ret (walk_result (HSET.out _ _ _ _ _) rfl rfl) rfl ⟨?_,HBEL.out _ _ _ _ _⟩
           exact congrArg (fun x:Wk=>Ending.returned (.tuple #[.agg (wkL x).toArray,.bool true])) HE1.out.symm
         ·have hE0:¬ E.size = 0:=fun h=>hstop (.inl h)
          have hpk:k < path.size:=by omega
          have hp:(k:Int) < path.size:=by omega
          have hEq:¬ E.toList = []:=no_list hE0
          have hns:¬ (enabledF p c).size = 0:=by rw [HE.out]; exact hE0
          obtain ⟨x,cn,hrd,hst⟩:=nextB_step (p:=p) (path:=path) (i:=k) (c:=c) hns
          have HNX:Hid (walkW p path most (41 - (k + 1)) (k + 1) cn (stepW (nextB p path k c) x.1 vb) = walkW p path most 41 0 (start1 p) zWk):=by
           show _ = _
           rw [← HWK.out,HS2.out]
           obtain ⟨d,hd⟩:∃ d,41 - k = d + 1:=⟨40 - k,by omega⟩
           rw [show 41 - (k + 1) = d by omega,hd,walkW,HE.out,if_neg hstop,hrd]
           simp only []
           rw [hst]
          have HFN:Hid (followF p (stepW (nextB p path k c) x.1 vb).s (stepW (nextB p path k c) x.1 vb).s.size 0 (start1 p) = .ok cn):=by
           show _ = _
           show followF p (vb.s ++ ⟨#[nextB p path k c]⟩) (vb.s ++ ⟨#[nextB p path k c]⟩).size 0 (start1 p) = .ok cn
           rw [HSW.out.1]
           exact follow_more HF.out (by rw [hrd]; exact hst)
          have HON:Hid (WkOk (stepW (nextB p path k c) x.1 vb)):=by
           show WkOk _
           rw [HS2.out]
           exact (HO.out.seen p most k c).step hrd
          have hmE:path[k].toNat % E.size < E.size:=Nat.mod_lt _ (Nat.pos_of_ne_zero hE0)
          have HNB:Hid (nextB p path k c = E[path[k].toNat % E.size]):=by
           show _ = _
           unfold nextB
           rw [HE.out]
           have e1:byteB path k = path[k]:=by unfold byteB; rw [dif_pos hpk]
           rw [e1]
           unfold byteB; rw [dif_pos hmE]
          have HRD:=hide hrd
          generalize nextB p path k c = nb at *
          have HSZN:Hid ((stepW nb x.1 vb).s.size = k + 1):=by
           show (vb.s ++ ⟨#[nb]⟩).size = k + 1
           rw [ByteArray.size_append,HSW.out.1,HSZ.out]; rfl
          have hx0:0 ≤ x.1∧x.1 ≤ 2:=readB_range HRD.out
          have hctx:vb.ctx ≤ 50:=by have:=HO.out.ctx_le; rw [HSZ.out] at this; rw [HSW.out.2.1]; omega
          have hvs:vb.s.size ≤ 50:=by rw [HSW.out.1,HSZ.out]; omega
          clear hstop hns hst hrd HE HS2 HSW HSZ HF HO HWK
          have HE8:=hide e8
          have HB6:=hide b6y
          go_cut [107] (fun u wx=>u = .bool false∧wc = wx)
          case first =>
           clear q0 q1 q2 f0 f1 f2 e8 b6y
           go_wp2_with fail
           go_meet
           case rel =>
            have h1:E.toList.isEmpty = false:=by simpa using hEq
            have h2:decide (path.size ≤ k) = false:=decide_eq_false (by omega)
            exact ⟨by rw [h1,h2]; rfl,rfl⟩
          case rest =>
           obtain ⟨rfl,hq⟩:=hcut
           subst hq
           clear q0 q1 q2 f0 f1 f2 e8 b6y hEq
           go_upto_region 19 with fail
           go_cut [15] (fun u wx=>u = .int .u8 nb.toNat∧wx.heap = wc.heap∧Below w.heap.size w wx)
           case first =>
            have hidx:(wrap64 (path[k].toNat:Int)).tmod (E.size:Int) = ((path[k].toNat % E.size:Nat):Int):=by rw [wrap_u8]; exact Int.ofNat_tmod ..
            generalize path[k].toNat % E.size = m at *
            have hm':(m:Int) < E.size:=Int.ofNat_lt.2 hmE
            go_wp2_with (go_quiet (fail))
            go_meet
            case rel=>exact ⟨by rw [HNB.out],rfl,HB7.out.trans (below_dW _ _)⟩
           case rest =>
            obtain ⟨rfl,hhp,hb9⟩:=hcut
            have e9:wc.heap[B]? = some (.cells (wkL vb).toArray 31 (0,0)):=by rw [hhp]; exact HE8.out
            have b9:=HB6.out
            rw [← hhp] at b9
            have q2:wc.cell? ⟨B,2,none⟩ = some (.int .i64 vb.last):=by simp [World.cell?,e9,wkL]
            have HB9:=hide hb9
            clear z1 HE8 HB6 HB7 HNB hmE hhp hb9 HD HRC HDD HC HP HH HB0
            have HE9:=hide e9
            have HD9:=hide b9
            clear e9 b9
            go_upto_region 20 with fail
            go_cut [124] (fun u wx=>u = .bool (decide (x.1 ≠ vb.last))∧wx.heap = wc.heap∧Below w.heap.size w wx)
            case first =>
             go_wp2_with (go_quiet (first | (go_at_call 40; refine Calls.quiet_of_same (k_thread nb x.1 x.2 HRD.out _))))
             go_meet
             case rel=>exact ⟨by first | rfl | (by_cases h:x.1 = vb.last <;> simp [h]),rfl,HB9.out.trans (below_dW _ _)⟩
            case rest =>
             obtain ⟨rfl,hhp,hb10⟩:=hcut
             have e10:wc.heap[B]? = some (.cells (wkL vb).toArray 31 (0,0)):=by rw [hhp]; exact HE9.out
             have b10:=HD9.out
             rw [← hhp] at b10
             have q1:wc.cell? ⟨B,1,none⟩ = some (.int .i64 vb.ctx):=by simp [World.cell?,e10,wkL]
             have f1:wc.frozen? ⟨B,1,none⟩ = false:=by simp [World.frozen?,e10]
             have HB10:=hide hb10
             clear q2 HE9 HD9 HB9 hhp hb10
             have HE10:=hide e10
             have HD10:=hide b10
             clear e10 b10
             have HVD:Hid (∃ vd:Wk,vd = { vb with ctx:=if x.1 ≠ vb.last then vb.ctx + 1 else vb.ctx }):=⟨_,rfl⟩
             obtain ⟨vd,hvd⟩:=HVD.out
             have HV:=hide hvd
             clear HVD hvd
             go_upto_if 124 with fail
             go_cut [] (fun wx=>wx.heap[B]? = some (.cells (wkL vd).toArray 31 (0,0))∧(∀ j,j ≠ B→wx.heap[j]? = wc.heap[j]?)∧Below w.heap.size w wx)
             case first =>
              by_cases hl:x.1 = vb.last
              ·have hv:vd = vb:=by have:=HV.out; rw [if_neg (fun h=>h hl)] at this; exact this
               have hl2:decide (x.1 ≠ vb.last) = false:=decide_eq_false (fun h=>h hl)
               rw [hl2]
               subst hv
               clear hl hl2 HV
               go_wp2_with fail
               go_meet
               case rel=>exact ⟨HE10.out,fun _ _=>rfl,HB10.out⟩
              ·have hv:vd = { vb with ctx:=vb.ctx + 1 }:=by have:=HV.out; rw [if_pos hl] at this; exact this
               have hl2:decide (x.1 ≠ vb.last) = true:=decide_eq_true hl
               rw [hl2]
               subst hv
               clear hl hl2 HV
               go_wp2_with fail
               go_meet
               case rel=>exact ⟨wset HE10.out 1 _,fun j hj=>wset_ne _ _ _ _ _ hj,HB10.out.setCell (p:=⟨B,1,none⟩) (Nat.le_of_lt hBl) _⟩
             case rest =>
              obtain ⟨e11,ej11,hb11⟩:=hcut
              have b11:=(ej11 _ (by omega)).trans HD10.out
              have q2:wc.cell? ⟨B,2,none⟩ = some (.int .i64 vd.last):=by simp [World.cell?,e11,wkL]
              have f2:wc.frozen? ⟨B,2,none⟩ = false:=by simp [World.frozen?,e11]
              have q0:wc.cell? ⟨B,0,none⟩ = some (.string vd.s):=by simp [World.cell?,e11,wkL]
              have f0:wc.frozen? ⟨B,0,none⟩ = false:=by simp [World.frozen?,e11]
              have HE11:=hide e11
              have HD11:=hide b11
              have HB11:=hide hb11
              have hds:vd.s.size ≤ 50:=by rw [HV.out]; exact hvs
              clear q1 f1 HE10 HD10 HB10 ej11 e11 b11 hb11
              have hcv:=one_byte wc B 2 (.int .i64 x.1) nb
              have hzB:B < wc.heap.size:=(Array.getElem?_eq_some_iff.1 HE11.out).1
              have HG:Hid (∀ (o:Obj),(((wc.setCell ⟨B,2,none⟩ (.int .i64 x.1)).setCell ⟨B,0,none⟩ (.string (vd.s ++ ⟨#[nb]⟩))).alloc o).heap[B]? = some (.cells (wkL (stepW nb x.1 vb)).toArray 31 (0,0))):=fun o=>by
               have h1:=wset HE11.out 2 (.int .i64 x.1)
               have h2:=wset h1 0 (.string (vd.s ++ ⟨#[nb]⟩))
               have h3:=(Below.heap_alloc ((wc.setCell ⟨B,2,none⟩ (.int .i64 x.1)).setCell ⟨B,0,none⟩ (.string (vd.s ++ ⟨#[nb]⟩))) o _ (by simpa using hzB)).trans h2
               rw [h3,HV.out]
               rfl
              have HG6:Hid (∀ (o:Obj),(((wc.setCell ⟨B,2,none⟩ (.int .i64 x.1)).setCell ⟨B,0,none⟩ (.string (vd.s ++ ⟨#[nb]⟩))).alloc o).heap[w.heap.size]? = some (.cells #[.string ⟨#[]⟩,.int .i64 0,.int .i64 0,.int .i64 0,.int .i64 0] 31 (0,0))):=fun o=>by
               rw [Below.heap_alloc _ _ _ (by simp; omega),wset_ne _ _ _ _ _ (by omega),wset_ne _ _ _ _ _ (by omega)]
               exact HD11.out
              have HGB:Hid (∀ (o:Obj),Below w.heap.size w (((wc.setCell ⟨B,2,none⟩ (.int .i64 x.1)).setCell ⟨B,0,none⟩ (.string (vd.s ++ ⟨#[nb]⟩))).alloc o)):=fun o=>((HB11.out.setCell (p:=⟨B,2,none⟩) (Nat.le_of_lt hBl) _).setCell (p:=⟨B,0,none⟩) (Nat.le_of_lt hBl) _).alloc (by simp; omega) o
              clear HE11 HD11 HB11
              go_wp2_with (go_at_call 40; refine (k_thread nb x.1 x.2 HRD.out _).mono ?_; rintro e w' ⟨rfl,rfl⟩)
              refine ⟨⟨k + 1,cn,stepW nb x.1 vb,by go_num,by omega,HSZN.out,HFN.out,HON.out,HNX.out,HG.out _,HG6.out _,HGB.out _⟩,?_⟩
              simp [intOf]; omega
  ·have hk41:k = 41:=by omega
   subst hk41
   have HE1:Hid (walkW p path most 41 0 (start1 p) zWk = v):=HWK.out.symm
   have q0:wr.cell? ⟨B,0,none⟩ = some (.string v.s):=by simp [World.cell?,b8,wkL]
   have q1:wr.cell? ⟨B,1,none⟩ = some (.int .i64 v.ctx):=by simp [World.cell?,b8,wkL]
   have q2:wr.cell? ⟨B,2,none⟩ = some (.int .i64 v.last):=by simp [World.cell?,b8,wkL]
   have q3:wr.cell? ⟨B,3,none⟩ = some (.int .i64 v.race):=by simp [World.cell?,b8,wkL]
   have q4:wr.cell? ⟨B,4,none⟩ = some (.int .i64 v.dead):=by simp [World.cell?,b8,wkL]
   have o0:wr.cell? ⟨w.heap.size,0,none⟩ = some (.string ⟨#[]⟩):=by simp [World.cell?,b6]
   have o1:wr.cell? ⟨w.heap.size,1,none⟩ = some (.int .i64 0):=by simp [World.cell?,b6]
   have o2:wr.cell? ⟨w.heap.size,2,none⟩ = some (.int .i64 0):=by simp [World.cell?,b6]
   have o3:wr.cell? ⟨w.heap.size,3,none⟩ = some (.int .i64 0):=by simp [World.cell?,b6]
   have o4:wr.cell? ⟨w.heap.size,4,none⟩ = some (.int .i64 0):=by simp [World.cell?,b6]
   have g0:wr.frozen? ⟨w.heap.size,0,none⟩ = false:=by simp [World.frozen?,b6]
   have g1:wr.frozen? ⟨w.heap.size,1,none⟩ = false:=by simp [World.frozen?,b6]
   have g2:wr.frozen? ⟨w.heap.size,2,none⟩ = false:=by simp [World.frozen?,b6]
   have g3:wr.frozen? ⟨w.heap.size,3,none⟩ = false:=by simp [World.frozen?,b6]
   have g4:wr.frozen? ⟨w.heap.size,4,none⟩ = false:=by simp [World.frozen?,b6]
   have HSET:Hid (∀ (a:ByteArray) (b:Nat) (c d e:Int),(((((wr.setCell ⟨w.heap.size,0,none⟩ (.string a)).setCell ⟨w.heap.size,1,none⟩ (.int .i64 b)).setCell ⟨w.heap.size,2,none⟩ (.int .i64 c)).setCell ⟨w.heap.size,3,none⟩ (.int .i64 d)).setCell ⟨w.heap.size,4,none⟩ (.int .i64 e)).heap[w.heap.size]? = some (.cells (wkL ⟨a,b,c,d,e⟩).toArray 31 (0,0))):=fun a b c d e=>wset (wset (wset (wset (wset b6 0 _) 1 _) 2 _) 3 _) 4 _
   have HBEL:Hid (∀ (a b c d e:Value),Below w.heap.size w (((((wr.setCell ⟨w.heap.size,0,none⟩ a).setCell ⟨w.heap.size,1,none⟩ b).setCell ⟨w.heap.size,2,none⟩ c).setCell ⟨w.heap.size,3,none⟩ d).setCell ⟨w.heap.size,4,none⟩ e)):=fun a b c d e=>((((HBR.out.setCell (p:=⟨w.heap.size,0,none⟩) (Nat.le_refl _) _).setCell (p:=⟨w.heap.size,1,none⟩) (Nat.le_refl _) _).setCell (p:=⟨w.heap.size,2,none⟩) (Nat.le_refl _) _).setCell (p:=⟨w.heap.size,3,none⟩) (Nat.le_refl _) _).setCell (p:=⟨w.heap.size,4,none⟩) (Nat.le_refl _) _
   clear b6 b8 HBR hk hlt
   go_wp2_with fail
   refine bodyPost_ret (walk_result (HSET.out _ _ _ _ _) rfl rfl) rfl ⟨?_,HBEL.out _ _ _ _ _⟩
   exact congrArg (fun x:Wk=>Ending.returned (.tuple #[.agg (wkL x).toArray,.bool true])) HE1.out.symm
end Go.Proofs.YtmfcpbhdggonfaaGreatDoor
