/- Contracts of the program's packages plan and play: lines, procedures, threads by their numbers. -/
import Derived.Test.YtmfcpbhdggonfaaGreatDoorMiAC
import Derived.Test.YtmfcpbhdggonfaaGreatDoorMiAH
import Derived.Deep.DeepCutAuto
import Derived.Deep.CutBlock
namespace Go.Proofs.YtmfcpbhdggonfaaGreatDoor
open Go.RowKit RR
structure PV where
 aT:Option Addr
 cT:Nat
 aP:Option Addr
 cP:Nat
 aL:Option Addr
 cL:Nat
 aN:Option Addr
 cN:Nat
def plV (p:Plan) (v:PV):Value:=.agg #[.int .i64 p.shared,.int .i64 p.locks,.slice v.aT p.threads.length v.cT,.slice v.aP p.procs.length v.cP,.slice v.aL p.lines.length v.cL,.slice v.aN p.nodes.length v.cN]
structure PIn (w:World) (p:Plan) (v:PV):Prop where
 at_:PlanAt w p v.aT v.aP v.aL v.aN
 bS:p.shared ≤ 1000
 bK:p.locks ≤ 1000
 bT:p.threads.length ≤ 1000
 bP:p.procs.length ≤ 1000
 bL:p.lines.length ≤ 10000
 bN:p.nodes.length ≤ 10000
 bV:∀ a ∈ p.lines,a.vals.length ≤ 10000
theorem PIn.below {w w':World} {p:Plan} {v:PV} (h:PIn w p v) (hb:Below w.heap.size w w'):PIn w' p v:=⟨h.at_.below hb,h.bS,h.bK,h.bT,h.bP,h.bL,h.bN,h.bV⟩
theorem PIn.vals {w:World} {p:Plan} {v:PV} (h:PIn w p v) (n:Int):(lineAt p n).vals.length ≤ 10000:=by
 unfold lineAt
 split
 ·cases hq:p.lines[n.toNat]? with
  | none=>simp [endLine]
  | some a=>exact h.bV a (List.mem_of_getElem? hq)
 ·simp [endLine]
def lnA (a:PLine) (sa:Option Addr) (sc:Nat):Value:=.agg #[.int .i64 a.kind,.int .i64 a.at_,.int .i64 a.params,.int .i64 a.next,.int .i64 a.thn,.int .i64 a.els,.int .i64 a.target.own,.int .i64 a.target.num,.int .i64 a.lock,.int .i64 a.proc,.slice sa a.vals.length sc,.bool a.choice,.bool a.r0,.bool a.r1,.bool a.r2,.bool a.r3]
def LnP (a:PLine) (w:World) (e:Ending) (w':World):Prop:=∃ sa sc,e = .returned (lnA a sa sc)∧Flat w' sa (a.vals.flatMap exC)∧Below w.heap.size w w'
theorem LnSl.get {w:World} {ao:Option Addr} {l:List PLine} (h:LnSl w ao l) (k:Nat) (hk:k < l.length):∃ b o sa sc,b < w.heap.size∧ao = some ⟨b,o,none⟩∧Flat w sa (l[k].vals.flatMap exC)∧w.rangeAt b (o + k * 16) (lnL l[k] (.slice sa l[k].vals.length sc)):=by
 obtain ⟨m,h1,h2,h3⟩:=h
 subst h1
 have hk':k < m.length:=by simpa using hk
 obtain ⟨b,o,q1,q2,q3⟩:=h2.get (f:=lnP) (n:=16) (fun _=>rfl) (by decide) k hk'
 obtain ⟨sa,sc,e1,e2⟩:=h3 m[k] (List.getElem_mem _)
 refine ⟨b,o,sa,sc,q1,q2,?_,?_⟩
 ·simpa using e2
 ·have:lnP m[k] = lnL m[k].1 (.slice sa m[k].1.vals.length sc):=by unfold lnP; rw [← e1]
  rw [this] at q3
  simpa using q3
set_option maxRecDepth 100000 in
set_option maxHeartbeats 4000000 in
theorem pn_Line (p:Plan) (v:PV) (n:Int) (w:World) (hp:PIn w p v) :
    Calls Tryz.prog 152 #[plV p v,.int .i64 n] w fun e w'=>LnP (lineAt p n) w e w':=by
 have hbX:∀ x y:Obj,Below w.heap.size w ((w.alloc x).alloc y):=fun x y=>((Below.refl _ _).alloc (Nat.le_refl _) _).alloc (by simp) _
 have bL:=hp.bL
 unfold plV
 by_cases h:0 ≤ n∧n < p.lines.length
 ·obtain ⟨k,rfl⟩:=Int.eq_ofNat_of_zero_le h.1
  have hlt:k < p.lines.length:=by omega
  obtain ⟨b,o,sa,sc,hb,hao,hfl,hr⟩:=hp.at_.2.2.1.get k hlt
  have HE:Hid (lineAt p (k:Int) = p.lines[k]):=by show _ = _; unfold lineAt; rw [if_pos h,Int.toNat_natCast,List.getElem?_eq_getElem hlt]; rfl
  generalize hN:p.lines[k] = a at *
  have HF:=hide hfl
  clear hN h hfl hp
  rw [hao]
  go_enter Tryz.func152,Tryz.ntmps152
  go_wp2_with (first | (refine wpList_load_mid rfl 204 _ rfl _ _ rfl (lnL a (.slice sa a.vals.length sc)) _ (by (repeat (first | assumption | refine rg_alloc ?_))) Tryz.underlying204 rfl Tryz.sizeLine ?_) | (refine wpl_store_new rfl 204 _ _ rfl _ _ (lnL a (.slice sa a.vals.length sc)) _ rfl rfl (by simp) Tryz.sizeLine rfl rfl ?_))
  refine bodyPost_ret (v:=lnA a sa sc) ?_ rfl ⟨sa,sc,by rw [HE.out],by rw [HE.out]; exact HF.out.below (hbX _ _),hbX _ _⟩
  refine res_cell (cs:=lnL a (.slice sa a.vals.length sc)) Tryz.results152 rfl (rg_new ?_) Tryz.underlying204 rfl Tryz.sizeLine
  simp
 ·have HE:Hid (lineAt p n = endLine):=by show _ = _; unfold lineAt; rw [if_neg h]
  clear hp
  by_cases h0:n < 0
  ·clear h
   go_enter Tryz.func152,Tryz.ntmps152
   go_wp2_with (first | (refine wpl_alloc rfl 204 rfl (lnL zLine (.slice none 0 0)) Tryz.zeroLine ?_) | (refine wpl_store_new rfl 204 _ _ rfl _ _ (lnL endLine (.slice none 0 0)) _ rfl rfl (by simp) Tryz.sizeLine rfl rfl ?_))
   refine bodyPost_ret (v:=lnA endLine none 0) ?_ rfl ⟨none,0,by rw [HE.out],.inl (by rw [HE.out]; rfl),hbX _ _⟩
   refine res_cell (cs:=lnL endLine (.slice none 0 0)) Tryz.results152 rfl (rg_new ?_) Tryz.underlying204 rfl Tryz.sizeLine
   simp
  ·have h1:(p.lines.length:Int) ≤ n:=by omega
   clear h
   go_enter Tryz.func152,Tryz.ntmps152
   go_wp2_with (first | (refine wpl_alloc rfl 204 rfl (lnL zLine (.slice none 0 0)) Tryz.zeroLine ?_) | (refine wpl_store_new rfl 204 _ _ rfl _ _ (lnL endLine (.slice none 0 0)) _ rfl rfl (by simp) Tryz.sizeLine rfl rfl ?_))
   refine bodyPost_ret (v:=lnA endLine none 0) ?_ rfl ⟨none,0,by rw [HE.out],.inl (by rw [HE.out]; rfl),hbX _ _⟩
   refine res_cell (cs:=lnL endLine (.slice none 0 0)) Tryz.results152 rfl (rg_new ?_) Tryz.underlying204 rfl Tryz.sizeLine
   simp
set_option maxRecDepth 100000 in
set_option maxHeartbeats 4000000 in
theorem pn_Proc (p:Plan) (v:PV) (n:Int) (w:World) (hp:PIn w p v) :
    Calls Tryz.prog 141 #[plV p v,.int .i64 n] w fun e w'=>e = .returned (.agg #[.int .i64 (procAt p n).params,.int .i64 (procAt p n).entry])∧Below w.heap.size w w':=by
 have hbX:∀ x y:Obj,Below w.heap.size w ((w.alloc x).alloc y):=fun x y=>((Below.refl _ _).alloc (Nat.le_refl _) _).alloc (by simp) _
 have bP:=hp.bP
 unfold plV
 by_cases h:0 ≤ n∧n < p.procs.length
 ·obtain ⟨k,rfl⟩:=Int.eq_ofNat_of_zero_le h.1
  have hlt:k < p.procs.length:=by omega
  obtain ⟨b,o,hb,hao,hr⟩:=hp.at_.2.1.get (f:=prP) (n:=2) (fun _=>rfl) (by decide) k hlt
  have HE:Hid (procAt p (k:Int) = p.procs[k]):=by show _ = _; unfold procAt; rw [if_pos h,Int.toNat_natCast,List.getElem?_eq_getElem hlt]; rfl
  generalize hN:p.procs[k] = a at *
  have d0:w.cell? ⟨b,o + k * 2,none⟩ = some (.int .i64 a.params):=hr 0 _ rfl
  have d1:w.cell? ⟨b,o + k * 2 + 1,none⟩ = some (.int .i64 a.entry):=hr 1 _ rfl
  clear hN h hr hp
  rw [hao]
  go_enter Tryz.func141,Tryz.ntmps141
  go_wp2
  refine bodyPost_ret (v:=.agg #[.int .i64 a.params,.int .i64 a.entry]) ?_ rfl ⟨by rw [HE.out],hbX _ _⟩
  simp [results,Tryz.results141,go_sem]
 ·have HE:Hid (procAt p n = ⟨0,0⟩):=by show _ = _; unfold procAt; rw [if_neg h]
  clear hp
  by_cases h0:n < 0
  ·clear h
   go_enter Tryz.func141,Tryz.ntmps141
   go_wp2
   refine bodyPost_ret (v:=.agg #[.int .i64 0,.int .i64 0]) ?_ rfl ⟨by rw [HE.out],hbX _ _⟩
   simp [results,Tryz.results141,go_sem]
  ·have h1:(p.procs.length:Int) ≤ n:=by omega
   clear h
   go_enter Tryz.func141,Tryz.ntmps141
   go_wp2
   refine bodyPost_ret (v:=.agg #[.int .i64 0,.int .i64 0]) ?_ rfl ⟨by rw [HE.out],hbX _ _⟩
   simp [results,Tryz.results141,go_sem]
end Go.Proofs.YtmfcpbhdggonfaaGreatDoor
namespace Go.Proofs.YtmfcpbhdggonfaaGreatDoor
open Go.RowKit RR
theorem TB.rng {b:Nat} {pre post:List Value} {T:TypeId} {t:Thr} {w:World} (h:TB b pre post T t w) (hl:pre.length = 64):w.rangeAt b 64 (thrL t):=fun j v hv=>by
 have h':TX b pre post T (thrL t) w:=h
 have:=h'.cell j (List.getElem?_eq_some_iff.1 hv).1
 rw [hl] at this
 rw [this,hv]
theorem Tryz.sizeThread:(Tryz.prog.info? 137).map (·.size) = some 17:=by kernel_rfl
theorem TB.below {b:Nat} {pre post:List Value} {T:TypeId} {t:Thr} {w w':World} (h:TB b pre post T t w) (hb:Below w.heap.size w w'):TB b pre post T t w':=(hb.block b h.lt).trans h
theorem TB.alloc {b:Nat} {pre post:List Value} {T:TypeId} {t:Thr} {w:World} (h:TB b pre post T t w) (ob:Obj):TB b pre post T t (w.alloc ob):=TX.alloc h ob
def goToT (t:Thr) (line:Int):Thr :=
 match frameF t 0 with
 | some f=>setLastF t { f with line:=line }
 | none=>t
theorem goToF_eq (w:Wlk) (line:Int):goToF w line = { w with f:=goToT w.f line }:=by
 unfold goToF goToT
 cases frameF w.f 0 <;> rfl
theorem keepF {B F:Nat} {W w3:World} {x0 x1 x2 x3:Value} (hF:Fr1 B W w3) (h0:W.cell? ⟨F,0,none⟩ = some x0∧W.cell? ⟨F,1,none⟩ = some x1∧W.cell? ⟨F,2,none⟩ = some x2∧W.cell? ⟨F,3,none⟩ = some x3) (hlt:F < W.heap.size) (hne:F ≠ B):w3.cell? ⟨F,0,none⟩ = some x0∧w3.cell? ⟨F,1,none⟩ = some x1∧w3.cell? ⟨F,2,none⟩ = some x2∧w3.cell? ⟨F,3,none⟩ = some x3:=by
 have e:∀ j,w3.cell? ⟨F,j,none⟩ = W.cell? ⟨F,j,none⟩:=fun j=>by simp only [World.cell?,hF.blk F hlt hne]
 exact ⟨(e 0).trans h0.1,(e 1).trans h0.2.1,(e 2).trans h0.2.2.1,(e 3).trans h0.2.2.2⟩
set_option maxRecDepth 100000 in
set_option maxHeartbeats 4000000 in
theorem py_goTo (B:Nat) (pre post:List Value) (t:Thr) (line:Int) (w:World) (hl:pre.length = 64) (h:TB B pre post 259 t w) :
    Calls Tryz.prog 196 #[.pointer (some ⟨B,0,none⟩),.int .i64 line] w fun e w'=>ThP B pre post 259 (goToT t line) w e w':=by
 have hz:=h.lt
 have HT:=hide h
 have HL:=hide hl
 have hrg:=h.rng hl
 clear h hl
 go_enter Tryz.func196,Tryz.ntmps196
 go_upto_region 0 with fail
 refine wp_region_list ?_
 iterate 16 (first | (refine wp_load_mid _ _ rfl B 64 rfl (thrL t) _ hrg Tryz.underlying137 rfl Tryz.sizeThread ?_; clear hrg) | (have hq:=hrg; clear hq; go_step) | skip)
 go_wp2_with fail
 refine (py_frame t 0 _).mono ?_
 rintro e w1 ⟨rfl,hb1⟩
 have HT1:=hide (HT.out.below hb1)
 have HF1:Hid (Fr1 B w w1):=Fr1.of_below hb1 (Nat.le_of_lt hz)
 have hz1:B < w1.heap.size:=HT1.out.lt
 clear hb1
 cases hf:frameF t 0 with
 | none =>
  have HE:Hid (goToT t line = t):=by show _ = _; unfold goToT; rw [hf]
  unfold frmV
  go_wp2
  go_end0
  exact ⟨rfl,by rw [HE.out]; exact HT1.out.alloc _,HF1.out.alloc (Nat.le_of_lt hz1) _⟩
 | some f =>
  have HE:Hid (goToT t line = setLastF t { f with line:=line }):=by show _ = _; unfold goToT; rw [hf]
  have HT2:=hide (HT1.out.alloc (.cells #[.int .i64 line,.bool f.p0,.bool f.p1,.bool f.p2] 134))
  have HF2:=hide (HF1.out.alloc (Nat.le_of_lt hz1) (.cells #[.int .i64 line,.bool f.p0,.bool f.p1,.bool f.p2] 134))
  have hne:w1.heap.size ≠ B:=by omega
  clear hf
  unfold frmV
  go_wp2_with fail
  go_region_held (fun w'=>w'.cell? ⟨w1.heap.size,0,none⟩ = some (.int .i64 line)∧w'.cell? ⟨w1.heap.size,1,none⟩ = some (.bool f.p0)∧w'.cell? ⟨w1.heap.size,2,none⟩ = some (.bool f.p1)∧w'.cell? ⟨w1.heap.size,3,none⟩ = some (.bool f.p2)) (first | exact ⟨by simp,by simp,by simp,by simp⟩ | exact keepF (by assumption) ⟨by simp,by simp,by simp,by simp⟩ (by simp) hne) (first | (go_at_call 216; refine (py_setLast B 64 pre post 259 t { f with line:=line } _ HL.out.symm ?_).mono ?_; exact HT2.out; rintro e w3 ⟨rfl,hT3,hF3⟩))
  have HF3:=hide (HF2.out.drew.trans hF3)
  have HT3:=hide hT3
  clear hT3 hF3
  go_wp2_with fail
  go_end0
  exact ⟨rfl,by rw [HE.out]; exact HT3.out,HF3.out⟩
def plL (p:Plan) (v:PV):List Value:=[.int .i64 p.shared,.int .i64 p.locks,.slice v.aT p.threads.length v.cT,.slice v.aP p.procs.length v.cP,.slice v.aL p.lines.length v.cL,.slice v.aN p.nodes.length v.cN]
def WK (B:Nat) (p:Plan) (v:PV) (k:Wlk) (w:World):Prop:=TB B (plL p v ++ cfgL k.c) [.int .i64 k.holder] 259 k.f w
theorem WK.len (p:Plan) (v:PV) (c:Cfg):(plL p v ++ cfgL c).length = 64:=rfl
theorem WK.rng {B:Nat} {p:Plan} {v:PV} {k:Wlk} {w:World} (h:WK B p v k w):w.rangeAt B 64 (thrL k.f):=TB.rng h (WK.len p v k.c)
theorem WK.cfg {B:Nat} {p:Plan} {v:PV} {k:Wlk} {w:World} (h:WK B p v k w):TX B (plL p v) (thrL k.f ++ [.int .i64 k.holder]) 259 (cfgL k.c) w:=by
 unfold WK TB TX at h
 unfold TX
 rw [← List.append_assoc]
 exact h
theorem WK.of_cfg {B:Nat} {p:Plan} {v:PV} {k:Wlk} {c:Cfg} {w:World} (h:TX B (plL p v) (thrL k.f ++ [.int .i64 k.holder]) 259 (cfgL c) w):WK B p v { k with c:=c } w:=by
 unfold WK TB TX
 unfold TX at h
 rw [← List.append_assoc] at h
 exact h
def WkP (B:Nat) (p:Plan) (v:PV) (k:Wlk) (w:World) (e:Ending) (w':World):Prop:=e = .returned (.tuple #[])∧WK B p v k w'∧Fr1 B w w'
def WbP (B:Nat) (p:Plan) (v:PV) (k:Option Wlk) (w:World) (e:Ending) (w':World):Prop:=e = .returned (.bool k.isSome)∧(∀ k',k = some k'→WK B p v k' w')∧Fr1 B w w'
theorem py_goToW (B:Nat) (p:Plan) (v:PV) (k:Wlk) (line:Int) (w:World) (h:WK B p v k w) :
    Calls Tryz.prog 196 #[.pointer (some ⟨B,0,none⟩),.int .i64 line] w fun e w'=>WkP B p v (goToF k line) w e w':=by
 refine (py_goTo B _ _ k.f line w (WK.len p v k.c) h).mono ?_
 rintro e w' ⟨h1,h2,h3⟩
 refine ⟨h1,?_,h3⟩
 rw [goToF_eq]
 exact h2
end Go.Proofs.YtmfcpbhdggonfaaGreatDoor
namespace Go.Proofs.YtmfcpbhdggonfaaGreatDoor
open Go.RowKit RR
theorem WK.lt {B:Nat} {p:Plan} {v:PV} {k:Wlk} {w:World} (h:WK B p v k w):B < w.heap.size:=TB.lt h
theorem WK.alloc {B:Nat} {p:Plan} {v:PV} {k:Wlk} {w:World} (h:WK B p v k w) (ob:Obj):WK B p v k (w.alloc ob):=TB.alloc h ob
theorem WK.below {B:Nat} {p:Plan} {v:PV} {k:Wlk} {w w':World} (h:WK B p v k w) (hb:Below w.heap.size w w'):WK B p v k w':=TB.below h hb
theorem WK.locks {B:Nat} {p:Plan} {v:PV} {k:Wlk} {w:World} (h:WK B p v k w):w.cell? ⟨B,10,none⟩ = some (.int .i64 k.c.h0)∧w.cell? ⟨B,11,none⟩ = some (.int .i64 k.c.h1)∧w.cell? ⟨B,12,none⟩ = some (.int .i64 k.c.h2)∧∀ i,w.frozen? ⟨B,i,none⟩ = false :=
 ⟨h.cfg.cell 4 (show 4 < 58 by decide),h.cfg.cell 5 (show 5 < 58 by decide),h.cfg.cell 6 (show 6 < 58 by decide),fun i=>TX.fz h i⟩
set_option maxRecDepth 100000 in
set_option maxHeartbeats 4000000 in
theorem py_pass (B:Nat) (p:Plan) (v:PV) (k:Wlk) (lock frm nx:Int) (w:World) (h:WK B p v k w) :
    Calls Tryz.prog 215 #[.pointer (some ⟨B,0,none⟩),.int .i64 lock,.int .i64 frm,.int .i64 nx] w fun e w'=>WbP B p v (passF k lock frm nx) w e w'∧(passF k lock frm nx = none→WK B p v k w'):=by
 have hz:=h.lt
 have HT:=hide h
 obtain ⟨c0,c1,c2,hfz⟩:=h.locks
 have fz0:=hfz 10
 have fz1:=hfz 11
 have fz2:=hfz 12
 clear h hfz
 by_cases hl:0 ≤ lock∧lock < 3
 ·have h3:lock = 0 ∨ lock = 1 ∨ lock = 2:=by omega
  rcases h3 with rfl | rfl | rfl
  ·by_cases he:k.c.h0 = frm
   ·have HE:Hid (passF k 0 frm nx = some { k with c:=k.c.setH nx 0 }):=by show _ = _; unfold passF; rw [if_pos hl]; exact if_pos he
    have he':(k.c.h0 != frm) = false:=bne_eq_false_iff_eq.2 he
    have HS:Hid (WK B p v { k with c:=k.c.setH nx 0 } (w.setCell ⟨B,10,none⟩ (.int .i64 nx))):=WK.of_cfg (HT.out.cfg.set 4 (.int .i64 nx) (show 4 < 58 by decide))
    clear hl he
    go_enter Tryz.func215,Tryz.ntmps215
    go_wp2
    go_ret
    exact ⟨⟨by rw [HE.out]; rfl,fun k' hk=>by rw [HE.out] at hk; cases hk; exact HS.out,(Fr1.refl B w).setCell 10 (.int .i64 nx)⟩,fun hq=>by rw [HE.out] at hq; cases hq⟩
   ·have HE:Hid (passF k 0 frm nx = none):=by show _ = _; unfold passF; rw [if_pos hl]; exact if_neg he
    have he':(k.c.h0 != frm) = true:=bne_iff_ne.2 he
    clear hl he
    go_enter Tryz.func215,Tryz.ntmps215
    go_wp2
    go_ret
    exact ⟨⟨by rw [HE.out]; rfl,fun k' hk=>by rw [HE.out] at hk; (cases hk),Fr1.refl B w⟩,fun _=>HT.out⟩
  ·by_cases he:k.c.h1 = frm
   ·have HE:Hid (passF k 1 frm nx = some { k with c:=k.c.setH nx 1 }):=by show _ = _; unfold passF; rw [if_pos hl]; exact if_pos he
    have he':(k.c.h1 != frm) = false:=bne_eq_false_iff_eq.2 he
    have HS:Hid (WK B p v { k with c:=k.c.setH nx 1 } (w.setCell ⟨B,11,none⟩ (.int .i64 nx))):=WK.of_cfg (HT.out.cfg.set 5 (.int .i64 nx) (show 5 < 58 by decide))
    clear hl he
    go_enter Tryz.func215,Tryz.ntmps215
    go_wp2
    go_ret
    exact ⟨⟨by rw [HE.out]; rfl,fun k' hk=>by rw [HE.out] at hk; cases hk; exact HS.out,(Fr1.refl B w).setCell 11 (.int .i64 nx)⟩,fun hq=>by rw [HE.out] at hq; cases hq⟩
   ·have HE:Hid (passF k 1 frm nx = none):=by show _ = _; unfold passF; rw [if_pos hl]; exact if_neg he
    have he':(k.c.h1 != frm) = true:=bne_iff_ne.2 he
    clear hl he
    go_enter Tryz.func215,Tryz.ntmps215
    go_wp2
    go_ret
    exact ⟨⟨by rw [HE.out]; rfl,fun k' hk=>by rw [HE.out] at hk; (cases hk),Fr1.refl B w⟩,fun _=>HT.out⟩
  ·by_cases he:k.c.h2 = frm
   ·have HE:Hid (passF k 2 frm nx = some { k with c:=k.c.setH nx 2 }):=by show _ = _; unfold passF; rw [if_pos hl]; exact if_pos he
    have he':(k.c.h2 != frm) = false:=bne_eq_false_iff_eq.2 he
    have HS:Hid (WK B p v { k with c:=k.c.setH nx 2 } (w.setCell ⟨B,12,none⟩ (.int .i64 nx))):=WK.of_cfg (HT.out.cfg.set 6 (.int .i64 nx) (show 6 < 58 by decide))
    clear hl he
    go_enter Tryz.func215,Tryz.ntmps215
    go_wp2
    go_ret
    exact ⟨⟨by rw [HE.out]; rfl,fun k' hk=>by rw [HE.out] at hk; cases hk; exact HS.out,(Fr1.refl B w).setCell 12 (.int .i64 nx)⟩,fun hq=>by rw [HE.out] at hq; cases hq⟩
   ·have HE:Hid (passF k 2 frm nx = none):=by show _ = _; unfold passF; rw [if_pos hl]; exact if_neg he
    have he':(k.c.h2 != frm) = true:=bne_iff_ne.2 he
    clear hl he
    go_enter Tryz.func215,Tryz.ntmps215
    go_wp2
    go_ret
    exact ⟨⟨by rw [HE.out]; rfl,fun k' hk=>by rw [HE.out] at hk; (cases hk),Fr1.refl B w⟩,fun _=>HT.out⟩
 ·have HE:Hid (passF k lock frm nx = none):=by show _ = _; unfold passF; rw [if_neg hl]
  by_cases hn:lock < 0
  ·skip
   clear hl c0 c1 c2 fz0 fz1 fz2
   go_enter Tryz.func215,Tryz.ntmps215
   go_wp2
   go_ret
   exact ⟨⟨by rw [HE.out]; rfl,fun k' hk=>by rw [HE.out] at hk; (cases hk),Fr1.refl B w⟩,fun _=>HT.out⟩
  ·have hp:3 ≤ lock:=by omega
   clear hl c0 c1 c2 fz0 fz1 fz2
   go_enter Tryz.func215,Tryz.ntmps215
   go_wp2
   go_ret
   exact ⟨⟨by rw [HE.out]; rfl,fun k' hk=>by rw [HE.out] at hk; (cases hk),Fr1.refl B w⟩,fun _=>HT.out⟩
set_option maxRecDepth 100000 in
set_option maxHeartbeats 4000000 in
theorem py_branch (B:Nat) (p:Plan) (v:PV) (k:Wlk) (a:PLine) (sa:Option Addr) (sc:Nat) (val:Bool) (w:World) (h:WK B p v k w) :
    Calls Tryz.prog 194 #[.pointer (some ⟨B,0,none⟩),lnA a sa sc,.bool val] w fun e w'=>WkP B p v (goToF k (if val then a.thn else a.els)) w e w':=by
 have hz:=h.lt
 have HT:=hide h
 clear h
 unfold lnA
 cases val
 ·go_enter Tryz.func194,Tryz.ntmps194
  go_wp2_with fail
  refine (py_goToW B p v k a.els _ (HT.out.alloc _)).mono ?_
  rintro e w1 ⟨rfl,hk,hf⟩
  have HK:=hide hk
  have HF:=hide (((Fr1.refl B w).alloc (Nat.le_of_lt hz) _).trans hf)
  clear hk hf
  go_wp2_with fail
  go_end0
  exact ⟨rfl,HK.out,HF.out⟩
 ·go_enter Tryz.func194,Tryz.ntmps194
  go_wp2_with fail
  refine (py_goToW B p v k a.thn _ (HT.out.alloc _)).mono ?_
  rintro e w1 ⟨rfl,hk,hf⟩
  have HK:=hide hk
  have HF:=hide (((Fr1.refl B w).alloc (Nat.le_of_lt hz) _).trans hf)
  clear hk hf
  go_wp2_with fail
  go_end0
  exact ⟨rfl,HK.out,HF.out⟩
end Go.Proofs.YtmfcpbhdggonfaaGreatDoor
