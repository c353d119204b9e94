/- Contracts of the statements' own package: the writer of programs: block, stmt. -/
import Derived.Test.YtmfcpbhdggonfaaGreatDoorMiBH
namespace Go.Proofs.YtmfcpbhdggonfaaGreatDoor
open Go.RowKit RR
structure WAt (F B:Nat) (raw:ByteArray) (v:Bool) (ws:WS) (w:World):Prop where
 feed:FeedAt F raw ws.at_ w
 wrt:WrtAt F B (flat ws.ps) v ws.room w
 fit:WFit raw ws
theorem WAt.ptr {F B:Nat} {raw:ByteArray} {v:Bool} {ws:WS} {w:World} (h:WAt F B raw v ws w):w.cell? ⟨B,0,none⟩ = some (.pointer (some ⟨F,0,none⟩)):=by have:=h.wrt; unfold WrtAt at this; simp [World.cell?,this]
theorem WAt.room {F B:Nat} {raw:ByteArray} {v:Bool} {ws:WS} {w:World} (h:WAt F B raw v ws w):w.cell? ⟨B,3,none⟩ = some (.int .i64 ws.room):=by have:=h.wrt; unfold WrtAt at this; simp [World.cell?,this]
structure Lay (N F B:Nat) (raw:ByteArray):Prop where
 raw:raw.size ≤ 9223372036854775807
 nf:N ≤ F
 nb:N ≤ B
 ne:B ≠ F
theorem w_next {N F B:Nat} {raw:ByteArray} (hL:Lay N F B raw) {v:Bool} {ws:WS} (n:Nat) (hn:0 < n∧n ≤ 16) (w:World) (h:WAt F B raw v ws w) :
    Calls Tryz.prog 39 #[.pointer (some ⟨F,0,none⟩),.int .i64 n] w fun e w'=>e = .returned (.int .i64 (nxW raw n ws.at_).1)∧WAt F B raw v (ws.to_ (nxW raw n ws.at_).2) w'∧Kw N F B w w' :=
 (k_next N F B raw ws.at_ n hn hL.raw w h.feed h.fit.at_ hL.nf hL.ne).mono fun _ _ ⟨h1,h2,h3,h4⟩=>⟨h1,⟨h2,h3.trans h.wrt,h.fit.to (nx_in raw n h.fit.at_)⟩,h4⟩
theorem w_put {N F B:Nat} {raw:ByteArray} (hL:Lay N F B raw) {v:Bool} {ws:WS} (p:List ByteArray) {t:ByteArray} (ht:flat p = t) (hp:t.size ≤ 50) (hr:-50 ≤ ws.room) (w:World) (h:WAt F B raw v ws w) :
    Calls Tryz.prog 37 #[.pointer (some ⟨B,0,none⟩),.string t] w fun e w'=>e = .returned (.tuple #[])∧WAt F B raw v (ws.put p) w'∧Kw N F B w w':=by
 subst ht
 have:=h.fit.small
 refine (k_put N F B (flat ws.ps) v ws.room (flat p) w h.wrt hL.nb (Ne.symm hL.ne) (by omega) (by omega) (by omega)).mono ?_
 rintro e w' ⟨h1,h2,h3,h4⟩
 refine ⟨h1,⟨h3.trans h.feed,?_,h.fit.put p (by omega)⟩,h4⟩
 show WrtAt F B (flat (ws.ps ++ p)) v (ws.room - (flat p).size) w'
 rw [flat_app]; exact h2
theorem w_expr {N F B:Nat} {raw:ByteArray} (hL:Lay N F B raw) {v:Bool} {ws:WS} (w:World) (h:WAt F B raw v ws w) :
    Calls Tryz.prog 98 #[.pointer (some ⟨B,0,none⟩)] w fun e w'=>e = .returned (.string (flat (exprW raw v ws.at_).1))∧WAt F B raw v (ws.to_ (exprW raw v ws.at_).2) w'∧Kw N F B w w' :=
 (k_expr N F B raw ws.at_ (flat ws.ps) v ws.room hL.raw w h.feed h.wrt h.fit.at_ ⟨hL.nf,hL.nb⟩ hL.ne).mono fun _ _ ⟨h1,h2,h3,h4⟩=>⟨h1,⟨h2,h3,h.fit.to (expr_in raw v h.fit.at_)⟩,h4⟩
def SdStmt (N F B:Nat) (raw:ByteArray) (v:Bool) (d:Nat):Prop:=∀ (ws:WS) (w:World),WAt F B raw v ws w→60 < ws.room→Calls Tryz.prog 66 #[.pointer (some ⟨B,0,none⟩),.int .i64 d] w fun e w'=>e = .returned (.tuple #[])∧WAt F B raw v (stmtW raw v d ws) w'∧Kw N F B w w'
def SdBlock (N F B:Nat) (raw:ByteArray) (v:Bool) (d:Nat):Prop:=∀ (ws:WS) (w:World),WAt F B raw v ws w→-40 ≤ ws.room→Calls Tryz.prog 38 #[.pointer (some ⟨B,0,none⟩),.int .i64 d] w fun e w'=>e = .returned (.tuple #[])∧WAt F B raw v (blockW raw (stmtW raw v d) ws) w'∧Kw N F B w w'
set_option maxRecDepth 100000 in
set_option maxHeartbeats 2000000 in
theorem k_block {N F B:Nat} {raw:ByteArray} (hL:Lay N F B raw) {v:Bool} {d:Nat} (hd:d ≤ 2) (hst:SdStmt N F B raw v d):SdBlock N F B raw v d:=by
 intro ws w hw hr
 have HL:=hide hL
 have HST:=hide hst
 have HW:=hide hw
 clear hL hst hw
 go_enter Tryz.func38,Tryz.ntmps38
 go_wp2_with fail
 refine (w_put HL.out [tBO,tB] (t:=⟨#[123,32]⟩) rfl (by decide) (by omega) _ HW.out).mono ?_
 rintro e w1 ⟨rfl,a1,k1⟩
 have r1:(ws.put [tBO,tB]).room = ws.room - 2:=rfl
 have HQ:Hid (blockW raw (stmtW raw v d) ws = (loopW (stmtW raw v d) (nxW raw 4 (ws.put [tBO,tB]).at_).1 ((ws.put [tBO,tB]).to_ (nxW raw 4 (ws.put [tBO,tB]).at_).2)).put [tBS,tB]):=rfl
 generalize ws.put [tBO,tB] = ws1 at *
 have c0:=a1.ptr
 have HA1:=hide a1
 have HK1:=hide k1
 clear a1 k1
 go_wp2_with fail
 refine (w_next HL.out 4 (by decide) _ HA1.out).mono ?_
 rintro e w2 ⟨rfl,a2,k2⟩
 have hn:=nxW_lt raw ws1.at_ (n:=4) (by decide)
 have r2:(ws1.to_ (nxW raw 4 ws1.at_).2).room = ws.room - 2:=r1
 generalize ws1.to_ (nxW raw 4 ws1.at_).2 = ws2 at *
 generalize (nxW raw 4 ws1.at_).1 = n at *
 have HA2:=hide a2
 have HK2:=hide (HK1.out.trans k2)
 clear a2 k2 HA1 HK1 c0 r1
 go_wp2_with fail
 go_loopw [4] (fun u wr=>∃ (j:Nat) (s:WS),u = .int .i64 j∧j ≤ 3∧loopW (stmtW raw v d) j s = loopW (stmtW raw v d) n ws2∧WAt F B raw v s wr∧Kw N F B w wr∧(ws.room - 2 ≤ s.room ∨ 18 ≤ s.room)) (fun u _=>(intOf u).toNat)
 case atStart=>exact ⟨n,ws2,rfl,by omega,rfl,HA2.out,HK2.out,.inl (by omega)⟩
 case round =>
  obtain ⟨j,s,rfl,hj,hlw,ha,hk,hroom⟩:=hrel
  have HLW:=hide hlw
  have HA:=hide ha
  have HK:=hide hk
  have c3:=ha.room
  have hsm:=ha.fit.small
  have hs50:-50 ≤ s.room:=by omega
  clear hlw ha hk HA2 HK2 hroom r2 hr
  by_cases hj0:j = 0
  ·subst hj0
   have HE:Hid (blockW raw (stmtW raw v d) ws = s.put [tBS,tB]):=by show _ = _; rw [HQ.out,← HLW.out]; rfl
   clear HLW HQ
   go_wp2_with fail
   refine (w_put HL.out [tBS,tB] (t:=⟨#[125,32]⟩) rfl (by decide) (by omega) _ HA.out).mono ?_
   rintro e w3 ⟨rfl,a3,k3⟩
   have HA3:=hide a3
   have HK3:=hide (HK.out.trans k3)
   clear a3 k3
   go_wp2_with fail
   go_end0
   exact ⟨rfl,by rw [HE.out]; exact HA3.out,HK3.out⟩
  ·obtain ⟨j',hj'⟩:∃ j',j = j' + 1:=⟨j - 1,by omega⟩
   subst hj'
   by_cases h60:60 < s.room
   ·have HN:Hid (loopW (stmtW raw v d) j' (stmtW raw v d s) = loopW (stmtW raw v d) n ws2):=by show _ = _; rw [← HLW.out,loopW,if_pos h60]
    have hjp:(0:Int) < (j':Int) + 1:=by omega
    have H60:=hide h60
    clear HLW
    go_wp2_with fail
    refine (HST.out s _ HA.out H60.out).mono ?_
    rintro e w3 ⟨rfl,a3,k3⟩
    have HA3:=hide a3
    have HK3:=hide (HK.out.trans k3)
    have hr3:18 ≤ (stmtW raw v d s).room:=by
     obtain ⟨_,_,_,_,q⟩:=stmt_ok raw v d s
     have:=q H60.out
     omega
    clear a3 k3 HA HK
    go_wp2_with fail
    refine ⟨⟨j',stmtW raw v d s,by go_num,by omega,HN.out,HA3.out,HK3.out,.inr hr3⟩,?_⟩
    simp [intOf]
   ·have HE:Hid (blockW raw (stmtW raw v d) ws = s.put [tBS,tB]):=by show _ = _; rw [HQ.out,← HLW.out,loopW,if_neg h60]
    have hjp:(0:Int) < (j':Int) + 1:=by omega
    clear HLW HQ
    go_wp2_with fail
    refine (w_put HL.out [tBS,tB] (t:=⟨#[125,32]⟩) rfl (by decide) (by omega) _ HA.out).mono ?_
    rintro e w3 ⟨rfl,a3,k3⟩
    have HA3:=hide a3
    have HK3:=hide (HK.out.trans k3)
    clear a3 k3
    go_wp2_with fail
    go_end0
    exact ⟨rfl,by rw [HE.out]; exact HA3.out,HK3.out⟩
def headCells:Array Value:=#[.string ⟨#[120,32,61,32]⟩,.string ⟨#[121,32,61,32]⟩,.string ⟨#[120,32,61,32]⟩,.string ⟨#[97,99,113,117,105,114,101,32,109,59,32]⟩,.string ⟨#[114,101,108,101,97,115,101,32,109,59,32]⟩,.string ⟨#[97,99,113,117,105,114,101,32,110,59,32]⟩,.string ⟨#[114,101,108,101,97,115,101,32,110,59,32]⟩,.string ⟨#[115,107,105,112,59,32]⟩,.string ⟨#[113,40,41,59,32]⟩,.string ⟨#[114,101,116,117,114,110,32]⟩,.string ⟨#[105,102,32,40]⟩,.string ⟨#[119,104,105,108,101,32,40]⟩,.string ⟨#[97,115,115,117,109,101,32]⟩,.string ⟨#[120,32,61,32,112,40]⟩,.string ⟨#[112,40]⟩,.string ⟨#[121,32,61,32,113,40,41,59,32]⟩]
theorem head_cell (k:Nat) (h:k < 16):headCells[k]? = some (.string (flat (headW k)))∧(flat (headW k)).size ≤ 11:=by
 match k,h with
 | 0,_=>exact ⟨rfl,by decide⟩
 | 1,_=>exact ⟨rfl,by decide⟩
 | 2,_=>exact ⟨rfl,by decide⟩
 | 3,_=>exact ⟨rfl,by decide⟩
 | 4,_=>exact ⟨rfl,by decide⟩
 | 5,_=>exact ⟨rfl,by decide⟩
 | 6,_=>exact ⟨rfl,by decide⟩
 | 7,_=>exact ⟨rfl,by decide⟩
 | 8,_=>exact ⟨rfl,by decide⟩
 | 9,_=>exact ⟨rfl,by decide⟩
 | 10,_=>exact ⟨rfl,by decide⟩
 | 11,_=>exact ⟨rfl,by decide⟩
 | 12,_=>exact ⟨rfl,by decide⟩
 | 13,_=>exact ⟨rfl,by decide⟩
 | 14,_=>exact ⟨rfl,by decide⟩
 | 15,_=>exact ⟨rfl,by decide⟩
 | k + 16,h=>omega
theorem WAt.alloc {F B:Nat} {raw:ByteArray} {v:Bool} {ws:WS} {w:World} (h:WAt F B raw v ws w) (o:Obj):WAt F B raw v ws (w.alloc o) :=
 ⟨(Below.heap_alloc _ _ _ (Array.getElem?_eq_some_iff.1 h.feed).1).trans h.feed,(Below.heap_alloc _ _ _ (Array.getElem?_eq_some_iff.1 h.wrt).1).trans h.wrt,h.fit⟩
theorem WAt.lt {F B:Nat} {raw:ByteArray} {v:Bool} {ws:WS} {w:World} (h:WAt F B raw v ws w):F < w.heap.size∧B < w.heap.size:=⟨(Array.getElem?_eq_some_iff.1 h.feed).1,(Array.getElem?_eq_some_iff.1 h.wrt).1⟩
theorem Kw.alloc {N F B:Nat} {w w':World} (h:Kw N F B w w') (hN:N ≤ w'.heap.size) (o:Obj):Kw N F B w (w'.alloc o):=h.trans ⟨(Below.refl _ _).alloc hN _,fun _ hj _ _=>Below.heap_alloc _ _ _ hj⟩
def BlEq (raw:ByteArray) (v:Bool) (d:Nat) (ws:WS):Prop:=∃ x,x = blockW raw (stmtW raw v d) ws
theorem tail_small {s t:ByteArray} (h:s.size ≤ 26) (h3:t.size ≤ 3):(s ++ t).size ≤ 50:=by rw [ByteArray.size_append]; omega
set_option maxRecDepth 100000 in
set_option maxHeartbeats 4000000 in
theorem k_stmt {N F B:Nat} {raw:ByteArray} (hL:Lay N F B raw) {v:Bool} {d:Nat} (hd:d ≤ 2) (blk:WS→WS) (hw:∀ ws,stmtW raw v d ws = kindW raw v blk (kindN d (nxW raw 16 ws.at_).1) ((ws.to_ (nxW raw 16 ws.at_).2).put (headW (kindN d (nxW raw 16 ws.at_).1)))) (hb:∀ d',d = d' + 1→SdBlock N F B raw v d'∧blk = blockW raw (stmtW raw v d')):SdStmt N F B raw v d:=by
 intro ws w ha h60
 have HL:=hide hL
 have HB:=hide hb
 have HW:=hide (hw ws)
 have HA:=hide ha
 have c0:=ha.ptr
 clear hL hb hw ha
 go_enter Tryz.func66,Tryz.ntmps66
 go_wp2_with fail
 refine (w_next HL.out 16 (by decide) _ HA.out).mono ?_
 rintro e w1 ⟨rfl,a1,k1⟩
 have hn:=nxW_lt raw ws.at_ (n:=16) (by decide)
 have r1:60 < (ws.to_ (nxW raw 16 ws.at_).2).room:=h60
 generalize ws.to_ (nxW raw 16 ws.at_).2 = ws1 at *
 generalize (nxW raw 16 ws.at_).1 = k0 at *
 have HA1:=hide a1
 have HK1:=hide k1
 clear a1 k1 HA c0 h60
 go_upto_region 1 with fail
 go_cut [23] (fun u wx=>u = .bool (decide (d = 0∧(k0 = 10 ∨ k0 = 11)))∧w1 = wx)
 case first =>
  by_cases h0:d = 0
  ·subst h0
   by_cases h10:k0 = 10
   ·subst h10
    go_wp2_with fail
    go_meet
    case rel=>exact ⟨by rfl,rfl⟩
   ·by_cases h11:k0 = 11
    ·subst h11
     go_wp2_with fail
     go_meet
     case rel=>exact ⟨by rfl,rfl⟩
    ·have g1:((k0:Int) == 10) = false:=beq_eq_false_iff_ne.2 (by omega)
     have g2:((k0:Int) == 11) = false:=beq_eq_false_iff_ne.2 (by omega)
     have HX:Hid (decide ((0:Nat) = 0∧(k0 = 10 ∨ k0 = 11)) = false):=decide_eq_false (by omega)
     go_wp2_with fail
     go_meet
     case rel=>exact ⟨by rw [HX.out],rfl⟩
  ·have g1:((d:Int) == 0) = false:=beq_eq_false_iff_ne.2 (by omega)
   have HX:Hid (decide (d = 0∧(k0 = 10 ∨ k0 = 11)) = false):=decide_eq_false (by omega)
   go_wp2_with fail
   go_meet
   case rel=>exact ⟨by rw [HX.out],rfl⟩
 case rest =>
  obtain ⟨rfl,hq⟩:=hcut
  subst hq
  have HKN:Hid (kindN d k0 = if decide (d = 0∧(k0 = 10 ∨ k0 = 11)) = true then 0 else k0):=by
   show _ = _
   unfold kindN
   simp only [decide_eq_true_eq]
  generalize decide (d = 0∧(k0 = 10 ∨ k0 = 11)) = b at *
  go_upto_if 23 with fail
  go_cut [4] (fun u wx=>u = .int .i64 (kindN d k0)∧w1 = wx)
  case first =>
   cases b
   ·go_wp2_with fail
    go_meet
    case rel=>exact ⟨by rw [HKN.out]; rfl,rfl⟩
   ·go_wp2_with fail
    go_meet
    case rel=>exact ⟨by rw [HKN.out]; rfl,rfl⟩
  case rest =>
   obtain ⟨rfl,hq⟩:=hcut
   subst hq
   have hk:kindN d k0 < 16:=by unfold kindN; split <;> omega
   have hk0:d = 0→kindN d k0 ≠ 10∧kindN d k0 ≠ 11:=fun h=>by subst h; exact kindN_zero
   clear HKN
   generalize kindN d k0 = k at *
   go_upto_region 4 with fail
   have hlt:=HA1.out.lt
   have hz:=World.size_alloc w1 (.cells #[.string ⟨#[120,32,61,32]⟩,.string ⟨#[121,32,61,32]⟩,.string ⟨#[120,32,61,32]⟩,.string ⟨#[97,99,113,117,105,114,101,32,109,59,32]⟩,.string ⟨#[114,101,108,101,97,115,101,32,109,59,32]⟩,.string ⟨#[97,99,113,117,105,114,101,32,110,59,32]⟩,.string ⟨#[114,101,108,101,97,115,101,32,110,59,32]⟩,.string ⟨#[115,107,105,112,59,32]⟩,.string ⟨#[113,40,41,59,32]⟩,.string ⟨#[114,101,116,117,114,110,32]⟩,.string ⟨#[105,102,32,40]⟩,.string ⟨#[119,104,105,108,101,32,40]⟩,.string ⟨#[97,115,115,117,109,101,32]⟩,.string ⟨#[120,32,61,32,112,40]⟩,.string ⟨#[112,40]⟩,.string ⟨#[121,32,61,32,113,40,41,59,32]⟩] 9)
   have hS:(w1.alloc (.cells #[.string ⟨#[120,32,61,32]⟩,.string ⟨#[121,32,61,32]⟩,.string ⟨#[120,32,61,32]⟩,.string ⟨#[97,99,113,117,105,114,101,32,109,59,32]⟩,.string ⟨#[114,101,108,101,97,115,101,32,109,59,32]⟩,.string ⟨#[97,99,113,117,105,114,101,32,110,59,32]⟩,.string ⟨#[114,101,108,101,97,115,101,32,110,59,32]⟩,.string ⟨#[115,107,105,112,59,32]⟩,.string ⟨#[113,40,41,59,32]⟩,.string ⟨#[114,101,116,117,114,110,32]⟩,.string ⟨#[105,102,32,40]⟩,.string ⟨#[119,104,105,108,101,32,40]⟩,.string ⟨#[97,115,115,117,109,101,32]⟩,.string ⟨#[120,32,61,32,112,40]⟩,.string ⟨#[112,40]⟩,.string ⟨#[121,32,61,32,113,40,41,59,32]⟩] 9)).heap[w1.heap.size]? = some (.cells #[.string ⟨#[120,32,61,32]⟩,.string ⟨#[121,32,61,32]⟩,.string ⟨#[120,32,61,32]⟩,.string ⟨#[97,99,113,117,105,114,101,32,109,59,32]⟩,.string ⟨#[114,101,108,101,97,115,101,32,109,59,32]⟩,.string ⟨#[97,99,113,117,105,114,101,32,110,59,32]⟩,.string ⟨#[114,101,108,101,97,115,101,32,110,59,32]⟩,.string ⟨#[115,107,105,112,59,32]⟩,.string ⟨#[113,40,41,59,32]⟩,.string ⟨#[114,101,116,117,114,110,32]⟩,.string ⟨#[105,102,32,40]⟩,.string ⟨#[119,104,105,108,101,32,40]⟩,.string ⟨#[97,115,115,117,109,101,32]⟩,.string ⟨#[120,32,61,32,112,40]⟩,.string ⟨#[112,40]⟩,.string ⟨#[121,32,61,32,113,40,41,59,32]⟩] 9 (0,0)):=heap_alloc_new _ _
   have HA2:=hide (HA1.out.alloc (.cells #[.string ⟨#[120,32,61,32]⟩,.string ⟨#[121,32,61,32]⟩,.string ⟨#[120,32,61,32]⟩,.string ⟨#[97,99,113,117,105,114,101,32,109,59,32]⟩,.string ⟨#[114,101,108,101,97,115,101,32,109,59,32]⟩,.string ⟨#[97,99,113,117,105,114,101,32,110,59,32]⟩,.string ⟨#[114,101,108,101,97,115,101,32,110,59,32]⟩,.string ⟨#[115,107,105,112,59,32]⟩,.string ⟨#[113,40,41,59,32]⟩,.string ⟨#[114,101,116,117,114,110,32]⟩,.string ⟨#[105,102,32,40]⟩,.string ⟨#[119,104,105,108,101,32,40]⟩,.string ⟨#[97,115,115,117,109,101,32]⟩,.string ⟨#[120,32,61,32,112,40]⟩,.string ⟨#[112,40]⟩,.string ⟨#[121,32,61,32,113,40,41,59,32]⟩] 9))
   have HK2:=hide (HK1.out.alloc (Nat.le_trans HL.out.nf (Nat.le_of_lt hlt.1)) (.cells #[.string ⟨#[120,32,61,32]⟩,.string ⟨#[121,32,61,32]⟩,.string ⟨#[120,32,61,32]⟩,.string ⟨#[97,99,113,117,105,114,101,32,109,59,32]⟩,.string ⟨#[114,101,108,101,97,115,101,32,109,59,32]⟩,.string ⟨#[97,99,113,117,105,114,101,32,110,59,32]⟩,.string ⟨#[114,101,108,101,97,115,101,32,110,59,32]⟩,.string ⟨#[115,107,105,112,59,32]⟩,.string ⟨#[113,40,41,59,32]⟩,.string ⟨#[114,101,116,117,114,110,32]⟩,.string ⟨#[105,102,32,40]⟩,.string ⟨#[119,104,105,108,101,32,40]⟩,.string ⟨#[97,115,115,117,109,101,32]⟩,.string ⟨#[120,32,61,32,112,40]⟩,.string ⟨#[112,40]⟩,.string ⟨#[121,32,61,32,113,40,41,59,32]⟩] 9))
   have cS:(w1.alloc (.cells #[.string ⟨#[120,32,61,32]⟩,.string ⟨#[121,32,61,32]⟩,.string ⟨#[120,32,61,32]⟩,.string ⟨#[97,99,113,117,105,114,101,32,109,59,32]⟩,.string ⟨#[114,101,108,101,97,115,101,32,109,59,32]⟩,.string ⟨#[97,99,113,117,105,114,101,32,110,59,32]⟩,.string ⟨#[114,101,108,101,97,115,101,32,110,59,32]⟩,.string ⟨#[115,107,105,112,59,32]⟩,.string ⟨#[113,40,41,59,32]⟩,.string ⟨#[114,101,116,117,114,110,32]⟩,.string ⟨#[105,102,32,40]⟩,.string ⟨#[119,104,105,108,101,32,40]⟩,.string ⟨#[97,115,115,117,109,101,32]⟩,.string ⟨#[120,32,61,32,112,40]⟩,.string ⟨#[112,40]⟩,.string ⟨#[121,32,61,32,113,40,41,59,32]⟩] 9)).cell? ⟨w1.heap.size,k,none⟩ = some (.string (flat (headW k))):=by
    simp only [World.cell?,hS]
    exact (head_cell k hk).1
   have hsz:=(head_cell k hk).2
   clear HA1 HK1 hS
   generalize w1.alloc (.cells #[.string ⟨#[120,32,61,32]⟩,.string ⟨#[121,32,61,32]⟩,.string ⟨#[120,32,61,32]⟩,.string ⟨#[97,99,113,117,105,114,101,32,109,59,32]⟩,.string ⟨#[114,101,108,101,97,115,101,32,109,59,32]⟩,.string ⟨#[97,99,113,117,105,114,101,32,110,59,32]⟩,.string ⟨#[114,101,108,101,97,115,101,32,110,59,32]⟩,.string ⟨#[115,107,105,112,59,32]⟩,.string ⟨#[113,40,41,59,32]⟩,.string ⟨#[114,101,116,117,114,110,32]⟩,.string ⟨#[105,102,32,40]⟩,.string ⟨#[119,104,105,108,101,32,40]⟩,.string ⟨#[97,115,115,117,109,101,32]⟩,.string ⟨#[120,32,61,32,112,40]⟩,.string ⟨#[112,40]⟩,.string ⟨#[121,32,61,32,113,40,41,59,32]⟩] 9) = w2 at *
   generalize w1.heap.size = S at *
   have hk':(k:Int) < 16:=by omega
   have HSZ:=hide hsz
   clear hz hlt hsz
   generalize hp:flat (headW k) = t at *
   have HP:=hide hp
   clear hp
   go_wp2_with fail
   refine (w_put HL.out (headW k) HP.out (Nat.le_trans HSZ.out (by decide)) (by omega) _ HA2.out).mono ?_
   rintro e w3 ⟨rfl,a3,k3⟩
   have r3:49 ≤ (ws1.put (headW k)).room:=by
    have h1:=HSZ.out
    rw [← HP.out] at h1
    show 49 ≤ ws1.room - (flat (headW k)).size
    omega
   have HA3:=hide a3
   have HK3:=hide (HK2.out.trans k3)
   clear a3 k3 HA2 HK2 cS HP HSZ
   generalize ws1.put (headW k) = ws3 at *
   clear r1
   match k,hk with
   | 0,hk =>
    have HR:Hid (stmtW raw v d ws = tailW raw v ws3 [tSemi,tB]):=HW.out
    clear HW
    clear hk hk' hk0
    go_wp2_with fail
    refine (w_expr HL.out _ HA3.out).mono ?_
    rintro e w4 ⟨rfl,a4,k4⟩
    have hz:=tail_size raw v ws3.at_
    have r4:49 ≤ (ws3.to_ (exprW raw v ws3.at_).2).room:=r3
    have HQ:Hid (tailW raw v ws3 [tSemi,tB] = (ws3.to_ (exprW raw v ws3.at_).2).put ((exprW raw v ws3.at_).1 ++ [tSemi,tB])):=rfl
    generalize ws3.to_ (exprW raw v ws3.at_).2 = ws4 at *
    generalize (exprW raw v ws3.at_).1 = pe at *
    have HFE:Hid (flat (pe ++ [tSemi,tB]) = flat pe ++ ⟨#[59,32]⟩):=by show _ = _; rw [flat_app]; rfl
    generalize flat pe = se at *
    have HA4:=hide a4
    have HK4:=hide (HK3.out.trans k4)
    clear a4 k4 HA3 HK3
    go_wp2_with fail
    refine (w_put HL.out (pe ++ [tSemi,tB]) HFE.out (tail_small hz (by decide)) (by omega) _ HA4.out).mono ?_
    rintro e w5 ⟨rfl,a5,k5⟩
    have r5:20 ≤ (ws4.put (pe ++ [tSemi,tB])).room:=by
     have e3:(⟨#[59,32]⟩:ByteArray).size ≤ 3:=by decide
     have e4:(flat (pe ++ [tSemi,tB])).size = se.size + (⟨#[59,32]⟩:ByteArray).size:=by rw [HFE.out,ByteArray.size_append]
     show 20 ≤ ws4.room - (flat (pe ++ [tSemi,tB])).size
     omega
    rw [← HQ.out] at a5 r5
    have HA5:=hide a5
    have HK5:=hide (HK4.out.trans k5)
    clear a5 k5 HA4 HK4 HQ HFE r3 r4 hz
    go_wp2_with fail
    go_end0
    exact ⟨rfl,by rw [HR.out]; exact HA5.out,HK5.out⟩
   | 1,hk =>
    have HR:Hid (stmtW raw v d ws = tailW raw v ws3 [tSemi,tB]):=HW.out
    clear HW
    clear hk hk' hk0
    go_wp2_with fail
    refine (w_expr HL.out _ HA3.out).mono ?_
    rintro e w4 ⟨rfl,a4,k4⟩
    have hz:=tail_size raw v ws3.at_
    have r4:49 ≤ (ws3.to_ (exprW raw v ws3.at_).2).room:=r3
    have HQ:Hid (tailW raw v ws3 [tSemi,tB] = (ws3.to_ (exprW raw v ws3.at_).2).put ((exprW raw v ws3.at_).1 ++ [tSemi,tB])):=rfl
    generalize ws3.to_ (exprW raw v ws3.at_).2 = ws4 at *
    generalize (exprW raw v ws3.at_).1 = pe at *
    have HFE:Hid (flat (pe ++ [tSemi,tB]) = flat pe ++ ⟨#[59,32]⟩):=by show _ = _; rw [flat_app]; rfl
    generalize flat pe = se at *
    have HA4:=hide a4
    have HK4:=hide (HK3.out.trans k4)
    clear a4 k4 HA3 HK3
    go_wp2_with fail
    refine (w_put HL.out (pe ++ [tSemi,tB]) HFE.out (tail_small hz (by decide)) (by omega) _ HA4.out).mono ?_
    rintro e w5 ⟨rfl,a5,k5⟩
    have r5:20 ≤ (ws4.put (pe ++ [tSemi,tB])).room:=by
     have e3:(⟨#[59,32]⟩:ByteArray).size ≤ 3:=by decide
     have e4:(flat (pe ++ [tSemi,tB])).size = se.size + (⟨#[59,32]⟩:ByteArray).size:=by rw [HFE.out,ByteArray.size_append]
     show 20 ≤ ws4.room - (flat (pe ++ [tSemi,tB])).size
     omega
    rw [← HQ.out] at a5 r5
    have HA5:=hide a5
    have HK5:=hide (HK4.out.trans k5)
    clear a5 k5 HA4 HK4 HQ HFE r3 r4 hz
    go_wp2_with fail
    go_end0
    exact ⟨rfl,by rw [HR.out]; exact HA5.out,HK5.out⟩
   | 2,hk =>
    have HR:Hid (stmtW raw v d ws = tailW raw v ws3 [tSemi,tB]):=HW.out
    clear HW
    clear hk hk' hk0
    go_wp2_with fail
    refine (w_expr HL.out _ HA3.out).mono ?_
    rintro e w4 ⟨rfl,a4,k4⟩
    have hz:=tail_size raw v ws3.at_
    have r4:49 ≤ (ws3.to_ (exprW raw v ws3.at_).2).room:=r3
    have HQ:Hid (tailW raw v ws3 [tSemi,tB] = (ws3.to_ (exprW raw v ws3.at_).2).put ((exprW raw v ws3.at_).1 ++ [tSemi,tB])):=rfl
    generalize ws3.to_ (exprW raw v ws3.at_).2 = ws4 at *
    generalize (exprW raw v ws3.at_).1 = pe at *
    have HFE:Hid (flat (pe ++ [tSemi,tB]) = flat pe ++ ⟨#[59,32]⟩):=by show _ = _; rw [flat_app]; rfl
    generalize flat pe = se at *
    have HA4:=hide a4
    have HK4:=hide (HK3.out.trans k4)
    clear a4 k4 HA3 HK3
    go_wp2_with fail
    refine (w_put HL.out (pe ++ [tSemi,tB]) HFE.out (tail_small hz (by decide)) (by omega) _ HA4.out).mono ?_
    rintro e w5 ⟨rfl,a5,k5⟩
    have r5:20 ≤ (ws4.put (pe ++ [tSemi,tB])).room:=by
     have e3:(⟨#[59,32]⟩:ByteArray).size ≤ 3:=by decide
     have e4:(flat (pe ++ [tSemi,tB])).size = se.size + (⟨#[59,32]⟩:ByteArray).size:=by rw [HFE.out,ByteArray.size_append]
     show 20 ≤ ws4.room - (flat (pe ++ [tSemi,tB])).size
     omega
    rw [← HQ.out] at a5 r5
    have HA5:=hide a5
    have HK5:=hide (HK4.out.trans k5)
    clear a5 k5 HA4 HK4 HQ HFE r3 r4 hz
    go_wp2_with fail
    go_end0
    exact ⟨rfl,by rw [HR.out]; exact HA5.out,HK5.out⟩
   | 3,hk =>
    have HR:Hid (stmtW raw v d ws = ws3):=HW.out
    clear HW hk hk' hk0
    go_wp2_with fail
    go_end0
    exact ⟨rfl,by rw [HR.out]; exact HA3.out,HK3.out⟩
   | 4,hk =>
    have HR:Hid (stmtW raw v d ws = ws3):=HW.out
    clear HW hk hk' hk0
    go_wp2_with fail
    go_end0
    exact ⟨rfl,by rw [HR.out]; exact HA3.out,HK3.out⟩
   | 5,hk =>
    have HR:Hid (stmtW raw v d ws = ws3):=HW.out
    clear HW hk hk' hk0
    go_wp2_with fail
    go_end0
    exact ⟨rfl,by rw [HR.out]; exact HA3.out,HK3.out⟩
   | 6,hk =>
    have HR:Hid (stmtW raw v d ws = ws3):=HW.out
    clear HW hk hk' hk0
    go_wp2_with fail
    go_end0
    exact ⟨rfl,by rw [HR.out]; exact HA3.out,HK3.out⟩
   | 7,hk =>
    have HR:Hid (stmtW raw v d ws = ws3):=HW.out
    clear HW hk hk' hk0
    go_wp2_with fail
    go_end0
    exact ⟨rfl,by rw [HR.out]; exact HA3.out,HK3.out⟩
   | 8,hk =>
    have HR:Hid (stmtW raw v d ws = ws3):=HW.out
    clear HW hk hk' hk0
    go_wp2_with fail
    go_end0
    exact ⟨rfl,by rw [HR.out]; exact HA3.out,HK3.out⟩
   | 9,hk =>
    have HR:Hid (stmtW raw v d ws = tailW raw v ws3 [tSemi,tB]):=HW.out
    clear HW
    clear hk hk' hk0
    go_wp2_with fail
    refine (w_expr HL.out _ HA3.out).mono ?_
    rintro e w4 ⟨rfl,a4,k4⟩
    have hz:=tail_size raw v ws3.at_
    have r4:49 ≤ (ws3.to_ (exprW raw v ws3.at_).2).room:=r3
    have HQ:Hid (tailW raw v ws3 [tSemi,tB] = (ws3.to_ (exprW raw v ws3.at_).2).put ((exprW raw v ws3.at_).1 ++ [tSemi,tB])):=rfl
    generalize ws3.to_ (exprW raw v ws3.at_).2 = ws4 at *
    generalize (exprW raw v ws3.at_).1 = pe at *
    have HFE:Hid (flat (pe ++ [tSemi,tB]) = flat pe ++ ⟨#[59,32]⟩):=by show _ = _; rw [flat_app]; rfl
    generalize flat pe = se at *
    have HA4:=hide a4
    have HK4:=hide (HK3.out.trans k4)
    clear a4 k4 HA3 HK3
    go_wp2_with fail
    refine (w_put HL.out (pe ++ [tSemi,tB]) HFE.out (tail_small hz (by decide)) (by omega) _ HA4.out).mono ?_
    rintro e w5 ⟨rfl,a5,k5⟩
    have r5:20 ≤ (ws4.put (pe ++ [tSemi,tB])).room:=by
     have e3:(⟨#[59,32]⟩:ByteArray).size ≤ 3:=by decide
     have e4:(flat (pe ++ [tSemi,tB])).size = se.size + (⟨#[59,32]⟩:ByteArray).size:=by rw [HFE.out,ByteArray.size_append]
     show 20 ≤ ws4.room - (flat (pe ++ [tSemi,tB])).size
     omega
    rw [← HQ.out] at a5 r5
    have HA5:=hide a5
    have HK5:=hide (HK4.out.trans k5)
    clear a5 k5 HA4 HK4 HQ HFE r3 r4 hz
    go_wp2_with fail
    go_end0
    exact ⟨rfl,by rw [HR.out]; exact HA5.out,HK5.out⟩
   | 10,hk =>
    have HR:Hid (stmtW raw v d ws = elseW raw blk (blk (tailW raw v ws3 [tShut,tB]))):=HW.out
    clear HW
    obtain ⟨d',hdd⟩:∃ d',d = d' + 1:=⟨d - 1,by omega⟩
    subst hdd
    obtain ⟨hbk,hbe⟩:=HB.out d' rfl
    have HBK:=hide hbk
    have HBE:=hide hbe
    clear hbk hbe HB
    clear hk hk' hk0
    go_wp2_with fail
    refine (w_expr HL.out _ HA3.out).mono ?_
    rintro e w4 ⟨rfl,a4,k4⟩
    have hz:=tail_size raw v ws3.at_
    have r4:49 ≤ (ws3.to_ (exprW raw v ws3.at_).2).room:=r3
    have HQ:Hid (tailW raw v ws3 [tShut,tB] = (ws3.to_ (exprW raw v ws3.at_).2).put ((exprW raw v ws3.at_).1 ++ [tShut,tB])):=rfl
    generalize ws3.to_ (exprW raw v ws3.at_).2 = ws4 at *
    generalize (exprW raw v ws3.at_).1 = pe at *
    have HFE:Hid (flat (pe ++ [tShut,tB]) = flat pe ++ ⟨#[41,32]⟩):=by show _ = _; rw [flat_app]; rfl
    generalize flat pe = se at *
    have HA4:=hide a4
    have HK4:=hide (HK3.out.trans k4)
    clear a4 k4 HA3 HK3
    go_wp2_with fail
    refine (w_put HL.out (pe ++ [tShut,tB]) HFE.out (tail_small hz (by decide)) (by omega) _ HA4.out).mono ?_
    rintro e w5 ⟨rfl,a5,k5⟩
    have r5:20 ≤ (ws4.put (pe ++ [tShut,tB])).room:=by
     have e3:(⟨#[41,32]⟩:ByteArray).size ≤ 3:=by decide
     have e4:(flat (pe ++ [tShut,tB])).size = se.size + (⟨#[41,32]⟩:ByteArray).size:=by rw [HFE.out,ByteArray.size_append]
     show 20 ≤ ws4.room - (flat (pe ++ [tShut,tB])).size
     omega
    rw [← HQ.out] at a5 r5
    have HA5:=hide a5
    have HK5:=hide (HK4.out.trans k5)
    clear a5 k5 HA4 HK4 HQ HFE r3 r4 hz
    generalize tailW raw v ws3 [tShut,tB] = ws5 at *
    go_upto_region 22 with (go_at_call 38; refine (HBK.out ws5 _ HA5.out (by omega)).mono ?_; rintro e w6 ⟨rfl,a6,k6⟩)
    have r6:=(HA5.out.fit.block v d' (by omega) (by omega)).2
    have HR6:Hid (stmtW raw v (d' + 1) ws = elseW raw (blockW raw (stmtW raw v d')) (blockW raw (stmtW raw v d') ws5)):=by show _ = _; rw [HR.out,HBE.out]
    clear HR HBE
    have HBL:Hid (BlEq raw v d' ws5):=⟨_,rfl⟩
    obtain ⟨ws6,hws6⟩:=HBL.out
    rw [← hws6] at a6 r6 HR6
    have c0:=a6.ptr
    have HA6:=hide a6
    have HK6:=hide (HK5.out.trans k6)
    have hr6:16 ≤ ws6.room:=by omega
    clear a6 k6 HA5 HK5 r5 r6 hws6 HBL
    go_wp2_with fail
    refine (w_next HL.out 2 (by decide) _ HA6.out).mono ?_
    rintro e w7 ⟨rfl,a7,k7⟩
    have c3:=a7.room
    have hr7:(ws6.to_ (nxW raw 2 ws6.at_).2).room = ws6.room:=rfl
    have HE:Hid (elseW raw (blockW raw (stmtW raw v d')) ws6 = if (nxW raw 2 ws6.at_).1 = 1∧60 < (ws6.to_ (nxW raw 2 ws6.at_).2).room then blockW raw (stmtW raw v d') ((ws6.to_ (nxW raw 2 ws6.at_).2).put [tElse,tB]) else ws6.to_ (nxW raw 2 ws6.at_).2):=rfl
    generalize ws6.to_ (nxW raw 2 ws6.at_).2 = ws7 at *
    generalize (nxW raw 2 ws6.at_).1 = q at *
    have hr8:16 ≤ ws7.room:=by omega
    have HA7:=hide a7
    have HK7:=hide (HK6.out.trans k7)
    clear a7 k7 HA6 HK6 c0 hr7 hr6
    by_cases hq:q = 1
    ·by_cases h6:60 < ws7.room
     ·have HF:Hid (stmtW raw v (d' + 1) ws = blockW raw (stmtW raw v d') (ws7.put [tElse,tB])):=by show _ = _; rw [HR6.out,HE.out,if_pos ⟨hq,h6⟩]
      clear HR6 HE
      subst hq
      go_wp2_with fail
      refine (w_put HL.out [tElse,tB] (t:=⟨#[101,108,115,101,32]⟩) rfl (by decide) (by omega) _ HA7.out).mono ?_
      rintro e w8 ⟨rfl,a8,k8⟩
      have r8:10 ≤ (ws7.put [tElse,tB]).room:=by show 10 ≤ ws7.room - 5; omega
      generalize ws7.put [tElse,tB] = ws8 at *
      have HA8:=hide a8
      have HK8:=hide (HK7.out.trans k8)
      clear a8 k8 HA7 HK7 c3 h6 hr8
      go_wp2_with fail
      refine (HBK.out ws8 _ HA8.out (by omega)).mono ?_
      rintro e w9 ⟨rfl,a9,k9⟩
      have HA9:=hide a9
      have HK9:=hide (HK8.out.trans k9)
      clear a9 k9 HA8 HK8
      go_wp2_with fail
      go_end0
      exact ⟨rfl,by rw [HF.out]; exact HA9.out,HK9.out⟩
     ·have HF:Hid (stmtW raw v (d' + 1) ws = ws7):=by show _ = _; rw [HR6.out,HE.out,if_neg (fun h=>h6 h.2)]
      clear HR6 HE
      subst hq
      go_wp2_with fail
      go_end0
      exact ⟨rfl,by rw [HF.out]; exact HA7.out,HK7.out⟩
    ·have HF:Hid (stmtW raw v (d' + 1) ws = ws7):=by show _ = _; rw [HR6.out,HE.out,if_neg (fun h=>hq h.1)]
     have g:((q:Int) == 1) = false:=beq_eq_false_iff_ne.2 (by omega)
     clear HR6 HE hq
     go_wp2_with fail
     go_end0
     exact ⟨rfl,by rw [HF.out]; exact HA7.out,HK7.out⟩
   | 11,hk =>
    have HR:Hid (stmtW raw v d ws = blk (tailW raw v ws3 [tShut,tB])):=HW.out
    clear HW
    obtain ⟨d',hdd⟩:∃ d',d = d' + 1:=⟨d - 1,by omega⟩
    subst hdd
    obtain ⟨hbk,hbe⟩:=HB.out d' rfl
    have HBK:=hide hbk
    have HBE:=hide hbe
    clear hbk hbe HB
    clear hk hk' hk0
    go_wp2_with fail
    refine (w_expr HL.out _ HA3.out).mono ?_
    rintro e w4 ⟨rfl,a4,k4⟩
    have hz:=tail_size raw v ws3.at_
    have r4:49 ≤ (ws3.to_ (exprW raw v ws3.at_).2).room:=r3
    have HQ:Hid (tailW raw v ws3 [tShut,tB] = (ws3.to_ (exprW raw v ws3.at_).2).put ((exprW raw v ws3.at_).1 ++ [tShut,tB])):=rfl
    generalize ws3.to_ (exprW raw v ws3.at_).2 = ws4 at *
    generalize (exprW raw v ws3.at_).1 = pe at *
    have HFE:Hid (flat (pe ++ [tShut,tB]) = flat pe ++ ⟨#[41,32]⟩):=by show _ = _; rw [flat_app]; rfl
    generalize flat pe = se at *
    have HA4:=hide a4
    have HK4:=hide (HK3.out.trans k4)
    clear a4 k4 HA3 HK3
    go_wp2_with fail
    refine (w_put HL.out (pe ++ [tShut,tB]) HFE.out (tail_small hz (by decide)) (by omega) _ HA4.out).mono ?_
    rintro e w5 ⟨rfl,a5,k5⟩
    have r5:20 ≤ (ws4.put (pe ++ [tShut,tB])).room:=by
     have e3:(⟨#[41,32]⟩:ByteArray).size ≤ 3:=by decide
     have e4:(flat (pe ++ [tShut,tB])).size = se.size + (⟨#[41,32]⟩:ByteArray).size:=by rw [HFE.out,ByteArray.size_append]
     show 20 ≤ ws4.room - (flat (pe ++ [tShut,tB])).size
     omega
    rw [← HQ.out] at a5 r5
    have HA5:=hide a5
    have HK5:=hide (HK4.out.trans k5)
    clear a5 k5 HA4 HK4 HQ HFE r3 r4 hz
    generalize tailW raw v ws3 [tShut,tB] = ws5 at *
    go_upto_region 22 with (go_at_call 38; refine (HBK.out ws5 _ HA5.out (by omega)).mono ?_; rintro e w6 ⟨rfl,a6,k6⟩)
    have HR6:Hid (stmtW raw v (d' + 1) ws = blockW raw (stmtW raw v d') ws5):=by show _ = _; rw [HR.out,HBE.out]
    have HA6:=hide a6
    have HK6:=hide (HK5.out.trans k6)
    clear a6 k6 HA5 HK5 r5 HR HBE
    go_wp2_with fail
    go_end0
    exact ⟨rfl,by rw [HR6.out]; exact HA6.out,HK6.out⟩
   | 12,hk =>
    have HR:Hid (stmtW raw v d ws = tailW raw v ws3 [tSemi,tB]):=HW.out
    clear HW
    clear hk hk' hk0
    go_wp2_with fail
    refine (w_expr HL.out _ HA3.out).mono ?_
    rintro e w4 ⟨rfl,a4,k4⟩
    have hz:=tail_size raw v ws3.at_
    have r4:49 ≤ (ws3.to_ (exprW raw v ws3.at_).2).room:=r3
    have HQ:Hid (tailW raw v ws3 [tSemi,tB] = (ws3.to_ (exprW raw v ws3.at_).2).put ((exprW raw v ws3.at_).1 ++ [tSemi,tB])):=rfl
    generalize ws3.to_ (exprW raw v ws3.at_).2 = ws4 at *
    generalize (exprW raw v ws3.at_).1 = pe at *
    have HFE:Hid (flat (pe ++ [tSemi,tB]) = flat pe ++ ⟨#[59,32]⟩):=by show _ = _; rw [flat_app]; rfl
    generalize flat pe = se at *
    have HA4:=hide a4
    have HK4:=hide (HK3.out.trans k4)
    clear a4 k4 HA3 HK3
    go_wp2_with fail
    refine (w_put HL.out (pe ++ [tSemi,tB]) HFE.out (tail_small hz (by decide)) (by omega) _ HA4.out).mono ?_
    rintro e w5 ⟨rfl,a5,k5⟩
    have r5:20 ≤ (ws4.put (pe ++ [tSemi,tB])).room:=by
     have e3:(⟨#[59,32]⟩:ByteArray).size ≤ 3:=by decide
     have e4:(flat (pe ++ [tSemi,tB])).size = se.size + (⟨#[59,32]⟩:ByteArray).size:=by rw [HFE.out,ByteArray.size_append]
     show 20 ≤ ws4.room - (flat (pe ++ [tSemi,tB])).size
     omega
    rw [← HQ.out] at a5 r5
    have HA5:=hide a5
    have HK5:=hide (HK4.out.trans k5)
    clear a5 k5 HA4 HK4 HQ HFE r3 r4 hz
    go_wp2_with fail
    go_end0
    exact ⟨rfl,by rw [HR.out]; exact HA5.out,HK5.out⟩
   | 13,hk =>
    have HR:Hid (stmtW raw v d ws = tailW raw v ws3 [tShut,tSemi,tB]):=HW.out
    clear HW
    clear hk hk' hk0
    go_wp2_with fail
    refine (w_expr HL.out _ HA3.out).mono ?_
    rintro e w4 ⟨rfl,a4,k4⟩
    have hz:=tail_size raw v ws3.at_
    have r4:49 ≤ (ws3.to_ (exprW raw v ws3.at_).2).room:=r3
    have HQ:Hid (tailW raw v ws3 [tShut,tSemi,tB] = (ws3.to_ (exprW raw v ws3.at_).2).put ((exprW raw v ws3.at_).1 ++ [tShut,tSemi,tB])):=rfl
    generalize ws3.to_ (exprW raw v ws3.at_).2 = ws4 at *
    generalize (exprW raw v ws3.at_).1 = pe at *
    have HFE:Hid (flat (pe ++ [tShut,tSemi,tB]) = flat pe ++ ⟨#[41,59,32]⟩):=by show _ = _; rw [flat_app]; rfl
    generalize flat pe = se at *
    have HA4:=hide a4
    have HK4:=hide (HK3.out.trans k4)
    clear a4 k4 HA3 HK3
    go_wp2_with fail
    refine (w_put HL.out (pe ++ [tShut,tSemi,tB]) HFE.out (tail_small hz (by decide)) (by omega) _ HA4.out).mono ?_
    rintro e w5 ⟨rfl,a5,k5⟩
    have r5:20 ≤ (ws4.put (pe ++ [tShut,tSemi,tB])).room:=by
     have e3:(⟨#[41,59,32]⟩:ByteArray).size ≤ 3:=by decide
     have e4:(flat (pe ++ [tShut,tSemi,tB])).size = se.size + (⟨#[41,59,32]⟩:ByteArray).size:=by rw [HFE.out,ByteArray.size_append]
     show 20 ≤ ws4.room - (flat (pe ++ [tShut,tSemi,tB])).size
     omega
    rw [← HQ.out] at a5 r5
    have HA5:=hide a5
    have HK5:=hide (HK4.out.trans k5)
    clear a5 k5 HA4 HK4 HQ HFE r3 r4 hz
    go_wp2_with fail
    go_end0
    exact ⟨rfl,by rw [HR.out]; exact HA5.out,HK5.out⟩
   | 14,hk =>
    have HR:Hid (stmtW raw v d ws = tailW raw v ws3 [tShut,tSemi,tB]):=HW.out
    clear HW
    clear hk hk' hk0
    go_wp2_with fail
    refine (w_expr HL.out _ HA3.out).mono ?_
    rintro e w4 ⟨rfl,a4,k4⟩
    have hz:=tail_size raw v ws3.at_
    have r4:49 ≤ (ws3.to_ (exprW raw v ws3.at_).2).room:=r3
    have HQ:Hid (tailW raw v ws3 [tShut,tSemi,tB] = (ws3.to_ (exprW raw v ws3.at_).2).put ((exprW raw v ws3.at_).1 ++ [tShut,tSemi,tB])):=rfl
    generalize ws3.to_ (exprW raw v ws3.at_).2 = ws4 at *
    generalize (exprW raw v ws3.at_).1 = pe at *
    have HFE:Hid (flat (pe ++ [tShut,tSemi,tB]) = flat pe ++ ⟨#[41,59,32]⟩):=by show _ = _; rw [flat_app]; rfl
    generalize flat pe = se at *
    have HA4:=hide a4
    have HK4:=hide (HK3.out.trans k4)
    clear a4 k4 HA3 HK3
    go_wp2_with fail
    refine (w_put HL.out (pe ++ [tShut,tSemi,tB]) HFE.out (tail_small hz (by decide)) (by omega) _ HA4.out).mono ?_
    rintro e w5 ⟨rfl,a5,k5⟩
    have r5:20 ≤ (ws4.put (pe ++ [tShut,tSemi,tB])).room:=by
     have e3:(⟨#[41,59,32]⟩:ByteArray).size ≤ 3:=by decide
     have e4:(flat (pe ++ [tShut,tSemi,tB])).size = se.size + (⟨#[41,59,32]⟩:ByteArray).size:=by rw [HFE.out,ByteArray.size_append]
     show 20 ≤ ws4.room - (flat (pe ++ [tShut,tSemi,tB])).size
     omega
    rw [← HQ.out] at a5 r5
    have HA5:=hide a5
    have HK5:=hide (HK4.out.trans k5)
    clear a5 k5 HA4 HK4 HQ HFE r3 r4 hz
    go_wp2_with fail
    go_end0
    exact ⟨rfl,by rw [HR.out]; exact HA5.out,HK5.out⟩
   | 15,hk =>
    have HR:Hid (stmtW raw v d ws = ws3):=HW.out
    clear HW hk hk' hk0
    go_wp2_with fail
    go_end0
    exact ⟨rfl,by rw [HR.out]; exact HA3.out,HK3.out⟩
   | k + 16,hk=>exact absurd hk (by omega)
theorem k_stmts {N F B:Nat} {raw:ByteArray} (hL:Lay N F B raw) (v:Bool):∀ d,d ≤ 2→SdStmt N F B raw v d
 | 0,h=>k_stmt hL h id (fun _=>rfl) fun _ h=>by omega
 | d + 1,h=>k_stmt hL h (blockW raw (stmtW raw v d)) (fun _=>rfl) fun d' hd=>by
  have e:d' = d:=by omega
  subst e
  exact ⟨k_block hL (by omega) (k_stmts hL v d' (by omega)),rfl⟩
end Go.Proofs.YtmfcpbhdggonfaaGreatDoor
