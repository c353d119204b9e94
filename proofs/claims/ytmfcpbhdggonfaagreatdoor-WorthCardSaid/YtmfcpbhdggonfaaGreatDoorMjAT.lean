/- Contracts of the program's package play: locks change hands, branches. -/
import Derived.Test.YtmfcpbhdggonfaaGreatDoorMjAS
namespace Go.Proofs.YtmfcpbhdggonfaaGreatDoor
open Go.RowKit RR
theorem WK.lt {B:Nat} {p:Plan} {v:PV} {k:Wlk} {w:World} (h:WK B p v k w):B < w.heap.size:=TB.lt h
theorem WK.alloc {B:Nat} {p:Plan} {v:PV} {k:Wlk} {w:World} (h:WK B p v k w) (ob:Obj):WK B p v k (w.alloc ob):=TB.alloc h ob
theorem WK.below {B:Nat} {p:Plan} {v:PV} {k:Wlk} {w w':World} (h:WK B p v k w) (hb:Below w.heap.size w w'):WK B p v k w':=TB.below h hb
theorem WK.locks {B:Nat} {p:Plan} {v:PV} {k:Wlk} {w:World} (h:WK B p v k w):w.cell? ⟨B,10,none⟩ = some (.int .i64 k.c.h0)∧w.cell? ⟨B,11,none⟩ = some (.int .i64 k.c.h1)∧w.cell? ⟨B,12,none⟩ = some (.int .i64 k.c.h2)∧∀ i,w.frozen? ⟨B,i,none⟩ = false :=
 ⟨h.cfg.cell 4 (show 4 < 58 by decide),h.cfg.cell 5 (show 5 < 58 by decide),h.cfg.cell 6 (show 6 < 58 by decide),fun i=>TX.fz h i⟩
set_option maxRecDepth 100000 in
set_option maxHeartbeats 4000000 in
theorem py_pass (B:Nat) (p:Plan) (v:PV) (k:Wlk) (lock frm nx:Int) (w:World) (h:WK B p v k w) :
    Calls Tryz.prog 215 #[.pointer (some ⟨B,0,none⟩),.int .i64 lock,.int .i64 frm,.int .i64 nx] w fun e w'=>WbP B p v (passF k lock frm nx) w e w'∧(passF k lock frm nx = none→WK B p v k w'):=by
 have hz:=h.lt
 have HT:=hide h
 obtain ⟨c0,c1,c2,hfz⟩:=h.locks
 have fz0:=hfz 10
 have fz1:=hfz 11
 have fz2:=hfz 12
 clear h hfz
 by_cases hl:0 ≤ lock∧lock < 3
 ·have h3:lock = 0 ∨ lock = 1 ∨ lock = 2:=by omega
  rcases h3 with rfl | rfl | rfl
  ·by_cases he:k.c.h0 = frm
   ·have HE:Hid (passF k 0 frm nx = some { k with c:=k.c.setH nx 0 }):=by show _ = _; unfold passF; rw [if_pos hl]; exact if_pos he
    have he':(k.c.h0 != frm) = false:=bne_eq_false_iff_eq.2 he
    have HS:Hid (WK B p v { k with c:=k.c.setH nx 0 } (w.setCell ⟨B,10,none⟩ (.int .i64 nx))):=WK.of_cfg (HT.out.cfg.set 4 (.int .i64 nx) (show 4 < 58 by decide))
    clear hl he
    go_enter Tryz.func215,Tryz.ntmps215
    go_wp2
    go_ret
    exact ⟨⟨by rw [HE.out]; rfl,fun k' hk=>by rw [HE.out] at hk; cases hk; exact HS.out,(Fr1.refl B w).setCell 10 (.int .i64 nx)⟩,fun hq=>by rw [HE.out] at hq; cases hq⟩
   ·have HE:Hid (passF k 0 frm nx = none):=by show _ = _; unfold passF; rw [if_pos hl]; exact if_neg he
    have he':(k.c.h0 != frm) = true:=bne_iff_ne.2 he
    clear hl he
    go_enter Tryz.func215,Tryz.ntmps215
    go_wp2
    go_ret
    exact ⟨⟨by rw [HE.out]; rfl,fun k' hk=>by rw [HE.out] at hk; (cases hk),Fr1.refl B w⟩,fun _=>HT.out⟩
  ·by_cases he:k.c.h1 = frm
   ·have HE:Hid (passF k 1 frm nx = some { k with c:=k.c.setH nx 1 }):=by show _ = _; unfold passF; rw [if_pos hl]; exact if_pos he
    have he':(k.c.h1 != frm) = false:=bne_eq_false_iff_eq.2 he
    have HS:Hid (WK B p v { k with c:=k.c.setH nx 1 } (w.setCell ⟨B,11,none⟩ (.int .i64 nx))):=WK.of_cfg (HT.out.cfg.set 5 (.int .i64 nx) (show 5 < 58 by decide))
    clear hl he
    go_enter Tryz.func215,Tryz.ntmps215
    go_wp2
    go_ret
    exact ⟨⟨by rw [HE.out]; rfl,fun k' hk=>by rw [HE.out] at hk; cases hk; exact HS.out,(Fr1.refl B w).setCell 11 (.int .i64 nx)⟩,fun hq=>by rw [HE.out] at hq; cases hq⟩
   ·have HE:Hid (passF k 1 frm nx = none):=by show _ = _; unfold passF; rw [if_pos hl]; exact if_neg he
    have he':(k.c.h1 != frm) = true:=bne_iff_ne.2 he
    clear hl he
    go_enter Tryz.func215,Tryz.ntmps215
    go_wp2
    go_ret
    exact ⟨⟨by rw [HE.out]; rfl,fun k' hk=>by rw [HE.out] at hk; (cases hk),Fr1.refl B w⟩,fun _=>HT.out⟩
  ·by_cases he:k.c.h2 = frm
   ·have HE:Hid (passF k 2 frm nx = some { k with c:=k.c.setH nx 2 }):=by show _ = _; unfold passF; rw [if_pos hl]; exact if_pos he
    have he':(k.c.h2 != frm) = false:=bne_eq_false_iff_eq.2 he
    have HS:Hid (WK B p v { k with c:=k.c.setH nx 2 } (w.setCell ⟨B,12,none⟩ (.int .i64 nx))):=WK.of_cfg (HT.out.cfg.set 6 (.int .i64 nx) (show 6 < 58 by decide))
    clear hl he
    go_enter Tryz.func215,Tryz.ntmps215
    go_wp2
    go_ret
    exact ⟨⟨by rw [HE.out]; rfl,fun k' hk=>by rw [HE.out] at hk; cases hk; exact HS.out,(Fr1.refl B w).setCell 12 (.int .i64 nx)⟩,fun hq=>by rw [HE.out] at hq; cases hq⟩
   ·have HE:Hid (passF k 2 frm nx = none):=by show _ = _; unfold passF; rw [if_pos hl]; exact if_neg he
    have he':(k.c.h2 != frm) = true:=bne_iff_ne.2 he
    clear hl he
    go_enter Tryz.func215,Tryz.ntmps215
    go_wp2
    go_ret
    exact ⟨⟨by rw [HE.out]; rfl,fun k' hk=>by rw [HE.out] at hk; (cases hk),Fr1.refl B w⟩,fun _=>HT.out⟩
 ·have HE:Hid (passF k lock frm nx = none):=by show _ = _; unfold passF; rw [if_neg hl]
  by_cases hn:lock < 0
  ·skip
   clear hl c0 c1 c2 fz0 fz1 fz2
   go_enter Tryz.func215,Tryz.ntmps215
   go_wp2
   go_ret
   exact ⟨⟨by rw [HE.out]; rfl,fun k' hk=>by rw [HE.out] at hk; (cases hk),Fr1.refl B w⟩,fun _=>HT.out⟩
  ·have hp:3 ≤ lock:=by omega
   clear hl c0 c1 c2 fz0 fz1 fz2
   go_enter Tryz.func215,Tryz.ntmps215
   go_wp2
   go_ret
   exact ⟨⟨by rw [HE.out]; rfl,fun k' hk=>by rw [HE.out] at hk; (cases hk),Fr1.refl B w⟩,fun _=>HT.out⟩
set_option maxRecDepth 100000 in
set_option maxHeartbeats 4000000 in
theorem py_branch (B:Nat) (p:Plan) (v:PV) (k:Wlk) (a:PLine) (sa:Option Addr) (sc:Nat) (val:Bool) (w:World) (h:WK B p v k w) :
    Calls Tryz.prog 194 #[.pointer (some ⟨B,0,none⟩),lnA a sa sc,.bool val] w fun e w'=>WkP B p v (goToF k (if val then a.thn else a.els)) w e w':=by
 have hz:=h.lt
 have HT:=hide h
 clear h
 unfold lnA
 cases val
 ·go_enter Tryz.func194,Tryz.ntmps194
  go_wp2_with fail
  refine (py_goToW B p v k a.els _ (HT.out.alloc _)).mono ?_
  rintro e w1 ⟨rfl,hk,hf⟩
  have HK:=hide hk
  have HF:=hide (((Fr1.refl B w).alloc (Nat.le_of_lt hz) _).trans hf)
  clear hk hf
  go_wp2_with fail
  go_end0
  exact ⟨rfl,HK.out,HF.out⟩
 ·go_enter Tryz.func194,Tryz.ntmps194
  go_wp2_with fail
  refine (py_goToW B p v k a.thn _ (HT.out.alloc _)).mono ?_
  rintro e w1 ⟨rfl,hk,hf⟩
  have HK:=hide hk
  have HF:=hide (((Fr1.refl B w).alloc (Nat.le_of_lt hz) _).trans hf)
  clear hk hf
  go_wp2_with fail
  go_end0
  exact ⟨rfl,HK.out,HF.out⟩
end Go.Proofs.YtmfcpbhdggonfaaGreatDoor
