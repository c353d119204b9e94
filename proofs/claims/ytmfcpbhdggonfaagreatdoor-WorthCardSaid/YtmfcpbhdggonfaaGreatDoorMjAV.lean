/- Contracts of the program's package play: what a statement does ahead of going on. -/
import Derived.Test.YtmfcpbhdggonfaaGreatDoorMjAU
import Derived.Test.YtmfcpbhdggonfaaGreatDoorMjAF
import Derived.Deep.DeepCutAuto
namespace Go.Proofs.YtmfcpbhdggonfaaGreatDoor
open Go.RowKit RR
theorem WK.hold {B:Nat} {p:Plan} {v:PV} {k:Wlk} {w:World} (h:WK B p v k w):w.cell? ⟨B,81,none⟩ = some (.int .i64 k.holder):=by
 have h1:TX B (plL p v ++ cfgL k.c ++ thrL k.f) [] 259 [.int .i64 k.holder] w:=by
  unfold WK TB TX at h
  unfold TX
  rw [List.append_nil]
  exact h
 exact h1.cell 0 (show 0 < 1 by decide)
set_option maxRecDepth 100000 in
set_option maxHeartbeats 8000000 in
theorem py_act_give (B:Nat) (p:Plan) (v:PV) (k:Wlk) (a:PLine) (sa:Option Addr) (sc:Nat) (val:Bool) (w:World) (h:WK B p v k w) (hk:a.kind = 0) :
    Calls Tryz.prog 195 #[.pointer (some ⟨B,0,none⟩),lnA a sa sc,.bool val] w fun e w'=>WbP B p v (actF k a val) w e w':=by
 have hz:=h.lt
 have HT:=hide h
 have HE:Hid (actF k a val = some (giveF k a.target val)):=by show _ = _; unfold actF; rw [if_pos hk]
 clear h
 unfold lnA
 rw [hk]
 clear hk
 go_enter Tryz.func195,Tryz.ntmps195
 go_wp2_with fail
 refine (py_give B p v k a.target val _ (HT.out.alloc _)).mono ?_
 rintro e w1 ⟨rfl,hk,hf⟩
 have HK:=hide hk
 have HF:=hide (((Fr1.refl B w).alloc (Nat.le_of_lt hz) _).trans hf)
 clear hk hf
 go_wp2_with fail
 go_ret
 exact ⟨by rw [HE.out]; rfl,fun k' hk=>by rw [HE.out] at hk; cases hk; exact HK.out,HF.out⟩
set_option maxRecDepth 100000 in
set_option maxHeartbeats 8000000 in
theorem py_act_assume (B:Nat) (p:Plan) (v:PV) (k:Wlk) (a:PLine) (sa:Option Addr) (sc:Nat) (val:Bool) (w:World) (h:WK B p v k w) (hk:a.kind = 4) :
    Calls Tryz.prog 195 #[.pointer (some ⟨B,0,none⟩),lnA a sa sc,.bool val] w fun e w'=>WbP B p v (actF k a val) w e w':=by
 have hz:=h.lt
 have HT:=hide h
 have HE:Hid (actF k a val = if val then some k else none):=by show _ = _; unfold actF; rw [if_neg (by omega),if_pos hk]
 clear h
 unfold lnA
 rw [hk]
 clear hk
 go_enter Tryz.func195,Tryz.ntmps195
 go_wp2
 go_ret
 refine ⟨by rw [HE.out]; cases val <;> rfl,fun k' hk=>?_,(Fr1.refl B w).alloc (Nat.le_of_lt hz) _⟩
 rw [HE.out] at hk
 cases val
 ·cases hk
 ·cases hk
  exact HT.out.alloc _
theorem keepP {B F:Nat} {p:Plan} {v:PV} {k:Wlk} {lock frm nx:Int} {W w3:World} {x:Value} (hk:∀ k',passF k lock frm nx = some k'→WK B p v k' w3) (hf:Fr1 B W w3) (hn:passF k lock frm nx = none→WK B p v k w3) (h0:W.cell? ⟨F,8,none⟩ = some x) (hlt:F < W.heap.size) (hne:F ≠ B):w3.cell? ⟨F,8,none⟩ = some x∧w3.cell? ⟨B,81,none⟩ = some (.int .i64 k.holder):=by
 refine ⟨?_,?_⟩
 ·have:w3.cell? ⟨F,8,none⟩ = W.cell? ⟨F,8,none⟩:=by simp only [World.cell?,hf.blk F hlt hne]
  exact this.trans h0
 ·cases hp:passF k lock frm nx with
  | none=>exact (hn hp).hold
  | some k' =>
   have h1:=(hk k' hp).hold
   have h2:k'.holder = k.holder:=by
    unfold passF at hp
    split at hp
    ·split at hp
     ·cases hp; rfl
     ·cases hp
    ·cases hp
   rw [h2] at h1
   exact h1
set_option maxRecDepth 100000 in
set_option maxHeartbeats 8000000 in
theorem py_act_acquire (B:Nat) (p:Plan) (v:PV) (k:Wlk) (a:PLine) (sa:Option Addr) (sc:Nat) (val:Bool) (w:World) (h:WK B p v k w) (hk:a.kind = 5) :
    Calls Tryz.prog 195 #[.pointer (some ⟨B,0,none⟩),lnA a sa sc,.bool val] w fun e w'=>WbP B p v (actF k a val) w e w':=by
 have hz:=h.lt
 have HT:=hide h
 have c81:=h.hold
 have HE:Hid (actF k a val = passF k a.lock 0 k.holder):=by show _ = _; unfold actF; rw [if_neg (by omega),if_neg (by omega),if_pos hk]
 have hne:w.heap.size ≠ B:=by omega
 clear h
 unfold lnA
 rw [hk]
 clear hk
 go_enter Tryz.func195,Tryz.ntmps195
 go_wp2_with fail
 go_region_held (fun w'=>w'.cell? ⟨w.heap.size,8,none⟩ = some (.int .i64 a.lock)∧w'.cell? ⟨B,81,none⟩ = some (.int .i64 k.holder)) (first | exact ⟨by simp,by simp [World.cell?_alloc_lt,hz,c81]⟩ | exact keepP (by assumption) (by assumption) (by assumption) (by simp) (by simp) hne) (first | (go_at_call 215; refine (py_pass B p v k a.lock 0 k.holder _ ?_).mono ?_; exact WK.drew (HT.out.alloc _); rintro e w1 ⟨⟨rfl,hk,hf⟩,hn⟩))
 have HK:=hide hk
 have HF:=hide ((((Fr1.refl B w).alloc (Nat.le_of_lt hz) _).drew).trans hf)
 clear hk hf hn
 go_wp2_with fail
 go_ret
 exact ⟨by rw [HE.out]; rfl,fun k' hk=>by rw [HE.out] at hk; exact HK.out k' hk,HF.out⟩
set_option maxRecDepth 100000 in
set_option maxHeartbeats 8000000 in
theorem py_act_release (B:Nat) (p:Plan) (v:PV) (k:Wlk) (a:PLine) (sa:Option Addr) (sc:Nat) (val:Bool) (w:World) (h:WK B p v k w) (hk:a.kind = 6) :
    Calls Tryz.prog 195 #[.pointer (some ⟨B,0,none⟩),lnA a sa sc,.bool val] w fun e w'=>WbP B p v (actF k a val) w e w':=by
 have hz:=h.lt
 have HT:=hide h
 have c81:=h.hold
 have HE:Hid (actF k a val = passF k a.lock k.holder 0):=by show _ = _; unfold actF; rw [if_neg (by omega),if_neg (by omega),if_neg (by omega),if_pos hk]
 have hne:w.heap.size ≠ B:=by omega
 clear h
 unfold lnA
 rw [hk]
 clear hk
 go_enter Tryz.func195,Tryz.ntmps195
 go_wp2_with fail
 go_region_held (fun w'=>w'.cell? ⟨w.heap.size,8,none⟩ = some (.int .i64 a.lock)∧w'.cell? ⟨B,81,none⟩ = some (.int .i64 k.holder)) (first | exact ⟨by simp,by simp [World.cell?_alloc_lt,hz,c81]⟩ | exact keepP (by assumption) (by assumption) (by assumption) (by simp) (by simp) hne) (first | (go_at_call 215; refine (py_pass B p v k a.lock k.holder 0 _ ?_).mono ?_; exact WK.drew (HT.out.alloc _); rintro e w1 ⟨⟨rfl,hk,hf⟩,hn⟩))
 have HK:=hide hk
 have HF:=hide ((((Fr1.refl B w).alloc (Nat.le_of_lt hz) _).drew).trans hf)
 clear hk hf hn
 go_wp2_with fail
 go_ret
 exact ⟨by rw [HE.out]; rfl,fun k' hk=>by rw [HE.out] at hk; exact HK.out k' hk,HF.out⟩
set_option maxRecDepth 100000 in
set_option maxHeartbeats 8000000 in
theorem py_act_other (B:Nat) (p:Plan) (v:PV) (k:Wlk) (a:PLine) (sa:Option Addr) (sc:Nat) (val:Bool) (w:World) (h:WK B p v k w) (k0:¬ a.kind = 0) (k4:¬ a.kind = 4) (k5:¬ a.kind = 5) (k6:¬ a.kind = 6) :
    Calls Tryz.prog 195 #[.pointer (some ⟨B,0,none⟩),lnA a sa sc,.bool val] w fun e w'=>WbP B p v (actF k a val) w e w':=by
 have hz:=h.lt
 have HT:=hide h
 have HE:Hid (actF k a val = some k):=by show _ = _; unfold actF; rw [if_neg k0,if_neg k4,if_neg k5,if_neg k6]
 have p0:((a.kind:Int) == 0) = false:=beq_eq_false_iff_ne.2 (by omega)
 have p4:((a.kind:Int) == 4) = false:=beq_eq_false_iff_ne.2 (by omega)
 have p5:((a.kind:Int) == 5) = false:=beq_eq_false_iff_ne.2 (by omega)
 have p6:((a.kind:Int) == 6) = false:=beq_eq_false_iff_ne.2 (by omega)
 clear h k0 k4 k5 k6
 unfold lnA
 go_enter Tryz.func195,Tryz.ntmps195
 go_wp2
 go_ret
 exact ⟨by rw [HE.out]; rfl,fun k' hk=>by rw [HE.out] at hk; cases hk; exact HT.out.alloc _,(Fr1.refl B w).alloc (Nat.le_of_lt hz) _⟩
theorem py_act (B:Nat) (p:Plan) (v:PV) (k:Wlk) (a:PLine) (sa:Option Addr) (sc:Nat) (val:Bool) (w:World) (h:WK B p v k w) :
    Calls Tryz.prog 195 #[.pointer (some ⟨B,0,none⟩),lnA a sa sc,.bool val] w fun e w'=>WbP B p v (actF k a val) w e w':=by
 by_cases k0:a.kind = 0
 ·exact py_act_give B p v k a sa sc val w h k0
 by_cases k4:a.kind = 4
 ·exact py_act_assume B p v k a sa sc val w h k4
 by_cases k5:a.kind = 5
 ·exact py_act_acquire B p v k a sa sc val w h k5
 by_cases k6:a.kind = 6
 ·exact py_act_release B p v k a sa sc val w h k6
 ·exact py_act_other B p v k a sa sc val w h k0 k4 k5 k6
end Go.Proofs.YtmfcpbhdggonfaaGreatDoor
namespace Go.Proofs.YtmfcpbhdggonfaaGreatDoor
open Go.RowKit RR
set_option maxRecDepth 100000 in
set_option maxHeartbeats 4000000 in
theorem py_thread (c:Cfg) (i:Int) (w:World) :
    Calls Tryz.prog 158 #[.agg (cfgL c).toArray,.int .i64 i] w fun e w'=>e = .returned (.agg (thrL (threadF c i)).toArray)∧Below w.heap.size w w':=by
 have hbX:∀ x y:Obj,Below w.heap.size w ((w.alloc x).alloc y):=fun x y=>((Below.refl _ _).alloc (Nat.le_refl _) _).alloc (by simp) _
 by_cases h:0 ≤ i∧i < 3
 ·obtain ⟨k,rfl⟩:=Int.eq_ofNat_of_zero_le h.1
  have hk:k < 3:=by omega
  have HE:Hid (threadF c (k:Int) = c.t k):=by show _ = _; unfold threadF; rw [if_pos h,Int.toNat_natCast]
  clear h
  go_enter Tryz.func158,Tryz.ntmps158
  go_wp2_with (first | (refine wpl_box rfl 140 _ rfl (cfgL c) rfl ?_) | (refine wpl_alloc rfl 137 rfl (thrL zThr) Tryz.zeroThread ?_) | (refine wpList_load_mid rfl 137 _ rfl _ _ rfl (thrL (c.t k)) _ (cfg_thr0 (by (repeat (first | assumption | exact rg_new (by simp) | refine rg_alloc ?_))) k hk) Tryz.underlying137 rfl Tryz.sizeThr ?_) | (refine wpl_store_new rfl 137 _ _ rfl _ _ (thrL (c.t k)) _ rfl rfl (by simp) Tryz.sizeThr rfl (one_thr _) ?_))
  refine bodyPost_ret (v:=.agg (thrL (c.t k)).toArray) ?_ rfl ⟨ret_agg (by rw [HE.out]),hbX _ _⟩
  refine res_cell Tryz.results158 rfl (rg_new ?_) Tryz.underlying137 rfl Tryz.sizeThr
  simp
 ·have HE:Hid (threadF c i = zThr):=by show _ = _; unfold threadF; rw [if_neg h]
  by_cases h0:i < 0
  ·clear h
   go_enter Tryz.func158,Tryz.ntmps158
   go_wp2_with (first | (refine wpl_box rfl 140 _ rfl (cfgL c) rfl ?_) | (refine wpl_alloc rfl 137 rfl (thrL zThr) Tryz.zeroThread ?_) | (refine wpl_zero rfl 137 rfl (thrL zThr) Tryz.buildThread ?_) | (refine wpl_store_new rfl 137 _ _ rfl _ _ (thrL zThr) _ rfl rfl (by simp) Tryz.sizeThr rfl (one_thr _) ?_))
   refine bodyPost_ret (v:=.agg (thrL zThr).toArray) ?_ rfl ⟨ret_agg (by rw [HE.out]),hbX _ _⟩
   refine res_cell Tryz.results158 rfl (rg_new ?_) Tryz.underlying137 rfl Tryz.sizeThr
   simp
  ·have h1:3 ≤ i:=by omega
   clear h
   go_enter Tryz.func158,Tryz.ntmps158
   go_wp2_with (first | (refine wpl_box rfl 140 _ rfl (cfgL c) rfl ?_) | (refine wpl_alloc rfl 137 rfl (thrL zThr) Tryz.zeroThread ?_) | (refine wpl_zero rfl 137 rfl (thrL zThr) Tryz.buildThread ?_) | (refine wpl_store_new rfl 137 _ _ rfl _ _ (thrL zThr) _ rfl rfl (by simp) Tryz.sizeThr rfl (one_thr _) ?_))
   refine bodyPost_ret (v:=.agg (thrL zThr).toArray) ?_ rfl ⟨ret_agg (by rw [HE.out]),hbX _ _⟩
   refine res_cell Tryz.results158 rfl (rg_new ?_) Tryz.underlying137 rfl Tryz.sizeThr
   simp
end Go.Proofs.YtmfcpbhdggonfaaGreatDoor
namespace Go.Proofs.YtmfcpbhdggonfaaGreatDoor
open Go.RowKit RR
theorem Fr1.below {B n:Nat} {w0 w w':World} (h:Fr1 B w w') (hB:n ≤ B) (hb:Below n w0 w):Below n w0 w':=hb.trans (h.bel.mono hB)
theorem WK.plan {B:Nat} {p:Plan} {v:PV} {k:Wlk} {w:World} (h:WK B p v k w):w.cell? ⟨B,0,none⟩ = some (.int .i64 p.shared)∧w.cell? ⟨B,1,none⟩ = some (.int .i64 p.locks)∧w.cell? ⟨B,2,none⟩ = some (.slice v.aT p.threads.length v.cT)∧w.cell? ⟨B,3,none⟩ = some (.slice v.aP p.procs.length v.cP)∧w.cell? ⟨B,4,none⟩ = some (.slice v.aL p.lines.length v.cL)∧w.cell? ⟨B,5,none⟩ = some (.slice v.aN p.nodes.length v.cN):=by
 have h1:TX B [] (cfgL k.c ++ (thrL k.f ++ [.int .i64 k.holder])) 259 (plL p v) w:=by
  have h2:=h.cfg
  unfold TX at h2 ⊢
  rw [List.nil_append,← List.append_assoc]
  exact h2
 have h3:∀ j,j < 6→w.cell? ⟨B,j,none⟩ = (plL p v)[j]?:=fun j hj=>by
  have:=h1.cell j hj
  rwa [List.length_nil,Nat.zero_add] at this
 exact ⟨h3 0 (by decide),h3 1 (by decide),h3 2 (by decide),h3 3 (by decide),h3 4 (by decide),h3 5 (by decide)⟩
theorem rg_six {w:World} {b:Nat} {x0 x1 x2 x3 x4 x5:Value} (h0:w.cell? ⟨b,0,none⟩ = some x0) (h1:w.cell? ⟨b,1,none⟩ = some x1) (h2:w.cell? ⟨b,2,none⟩ = some x2) (h3:w.cell? ⟨b,3,none⟩ = some x3) (h4:w.cell? ⟨b,4,none⟩ = some x4) (h5:w.cell? ⟨b,5,none⟩ = some x5):w.rangeAt b 0 [x0,x1,x2,x3,x4,x5]:=fun j v hv=>by
 rcases j with _ | _ | _ | _ | _ | _ | j
 ·exact h0.trans hv
 ·exact h1.trans hv
 ·exact h2.trans hv
 ·exact h3.trans hv
 ·exact h4.trans hv
 ·exact h5.trans hv
 ·cases hv
theorem cell_below {w w':World} {a:Addr} {x:Value} (h:w.cell? a = some x) (hb:Below w.heap.size w w'):w'.cell? a = some x:=by
 rw [← h]
 simp only [World.cell?,hb.block a.block (World.block_lt_of_cell? w a h)]
theorem cell_blk {w:World} {b:Nat} {cs:List Value} {t:TypeId} {fr:Nat × Nat} (h:w.heap[b]? = some (.cells cs.toArray t fr)) (j:Nat) {x:Value} (hx:cs[j]? = some x):w.cell? ⟨b,j,none⟩ = some x:=by
 rw [cell_of_row w b j _ t fr h]
 simpa using hx
set_option maxRecDepth 100000 in
set_option maxHeartbeats 8000000 in
theorem py_giveBack (B:Nat) (p:Plan) (v:PV) (k:Wlk) (val:Bool) (w0 w:World) (h:WK B p v k w) (hp:PIn w0 p v) (hB:w0.heap.size ≤ B) (hb:Below w0.heap.size w0 w) :
    Calls Tryz.prog 193 #[.pointer (some ⟨B,0,none⟩),.bool val] w fun e w'=>WkP B p v (giveBackF p k val) w e w':=by
 have hz:=h.lt
 have HT:=hide h
 have HP:=hide hp
 have HB:=hide hb
 clear h hp hb
 go_enter Tryz.func193,Tryz.ntmps193
 go_wp2_with fail
 refine (py_pop B 64 (plL p v ++ cfgL k.c) [.int .i64 k.holder] 259 k.f _ rfl HT.out).mono ?_
 rintro e w1 ⟨rfl,hT1,hF1⟩
 have HW1:Hid (∃ k1:Wlk,k1 = { k with f:=popF k.f }∧WK B p v k1 w1):=⟨_,rfl,hT1⟩
 have HF1:=hide hF1
 clear hT1 hF1
 obtain ⟨k1,hk1,hW1⟩:=HW1.out
 have HG:Hid (giveBackF p k val = match frameF k1.f 0 with | some b=>goToF (giveF k1 (lineAt p b.line).target val) (lineAt p b.line).next | none=>k1):=by rw [hk1]; exact rfl
 have HT1:=hide hW1
 have hrg:=hW1.rng
 have hz1:=hW1.lt
 clear hk1 hW1 HW1
 go_upto_region 1 with fail
 refine wp_region_list ?_
 iterate 16 (first | (refine wp_load_mid _ _ rfl B 64 rfl (thrL k1.f) _ hrg Tryz.underlying137 rfl Tryz.sizeThread ?_; clear hrg) | (have hq:=hrg; clear hq; go_step) | skip)
 go_wp2_with fail
 refine (py_frame k1.f 0 _).mono ?_
 rintro e w2 ⟨rfl,hb2⟩
 have HT2:=hide (HT1.out.below hb2)
 have HF2:Hid (Fr1 B w w2):=HF1.out.trans (Fr1.of_below hb2 (Nat.le_of_lt hz1))
 have hz2:B < w2.heap.size:=HT2.out.lt
 clear hb2 HT1 HF1
 cases hf:frameF k1.f 0 with
 | none =>
  have HE:Hid (giveBackF p k val = k1):=by show _ = _; rw [HG.out,hf]
  unfold frmV
  go_wp2
  go_end0
  exact ⟨rfl,by rw [HE.out]; exact HT2.out.alloc _,HF2.out.alloc (Nat.le_of_lt hz2) _⟩
 | some f =>
  have HE:Hid (giveBackF p k val = goToF (giveF k1 (lineAt p f.line).target val) (lineAt p f.line).next):=by show _ = _; rw [HG.out,hf]
  have HP2:Hid (PIn w2 p v):=HP.out.below (HF2.out.below hB HB.out)
  clear hf
  unfold frmV
  go_wp2_with fail
  have HTW:=hide (HT2.out.alloc (.cells #[.int .i64 f.line,.bool f.p0,.bool f.p1,.bool f.p2] 134))
  have HFW:=hide (HF2.out.alloc (Nat.le_of_lt hz2) (.cells #[.int .i64 f.line,.bool f.p0,.bool f.p1,.bool f.p2] 134))
  have HPW:=hide (HP2.out.below ((Below.refl _ _).alloc (Nat.le_refl _) (.cells #[.int .i64 f.line,.bool f.p0,.bool f.p1,.bool f.p2] 134)))
  have hcF:(w2.alloc (.cells #[.int .i64 f.line,.bool f.p0,.bool f.p1,.bool f.p2] 134)).cell? ⟨w2.heap.size,0,none⟩ = some (.int .i64 f.line):=by simp
  have hzW:B < (w2.alloc (.cells #[.int .i64 f.line,.bool f.p0,.bool f.p1,.bool f.p2] 134)).heap.size:=by simp; omega
  generalize w2.alloc (.cells #[.int .i64 f.line,.bool f.p0,.bool f.p1,.bool f.p2] 134) = W at *
  generalize w2.heap.size = F0 at *
  have hrP:W.rangeAt B 0 (plL p v):=by
   obtain ⟨c0,c1,c2,c3,c4,c5⟩:=HTW.out.plan
   exact rg_six c0 c1 c2 c3 c4 c5
  refine wp_region_held_drew (S:=fun w'=>Below W.heap.size W w') (by kernel_rfl) (Below.refl _ _).drew (fun hHeld=>?_)
  refine wpAnyH_take (i:=0) (v:=?_) rfl (by kernel_rfl) (by kernel_rfl) (by kernel_rfl) (fun _ _ _ h=>h) (Or.inl ⟨by rfl,?_⟩) (by assumption) ?_; rotate_left; focus (intro w' hSw; go_simp; (first | done | with_reducible rfl)); (try simp only [put_laws])
  refine wpAnyH_take (i:=1) (v:=?_) rfl (by kernel_rfl) (by kernel_rfl) (by kernel_rfl) (fun _ _ _ h=>h) (Or.inl ⟨by rfl,?_⟩) (by assumption) ?_; rotate_left; focus (intro w' hSw; go_simp; (first | done | with_reducible rfl)); (try simp only [put_laws])
  refine wpAnyH_take (i:=2) (v:=?_) rfl (by kernel_rfl) (by kernel_rfl) (by kernel_rfl) (fun _ _ _ h=>h) (Or.inl ⟨by rfl,?_⟩) (by assumption) ?_; rotate_left; focus (intro w' hSw; go_simp; (first | done | with_reducible rfl)); (try simp only [put_laws])
  refine wpAnyH_take (i:=3) rfl (by kernel_rfl) (by kernel_rfl) (by kernel_rfl) (fun _ _ _ h=>h) (yieldsIf_load_mid (by rfl) _ _ rfl B 0 rfl (plL p v) _ (fun _ h=>rg_below hrP h) Tryz.underlying123 rfl Tryz.sizeProgram) (by assumption) ?_
  try simp only [put_laws]
  refine wpAnyH_take (i:=4) (v:=?_) rfl (by kernel_rfl) (by kernel_rfl) (by kernel_rfl) (fun _ _ _ h=>h) (Or.inl ⟨by rfl,?_⟩) (by assumption) ?_; rotate_left; focus (intro w' hSw; go_simp; (first | done | with_reducible rfl)); (try simp only [put_laws])
  have hcF':∀ w',Below W.heap.size W w'→w'.cell? ⟨F0,0,none⟩ = some (.int .i64 f.line):=fun w' h=>cell_below hcF h
  refine wpAnyH_take (i:=5) (v:=?_) rfl (by kernel_rfl) (by kernel_rfl) (by kernel_rfl) (fun _ _ _ h=>h) (Or.inl ⟨by rfl,?_⟩) (by assumption) ?_; rotate_left; focus (intro w' hSw; go_simp; (first | done | with_reducible rfl)); (try simp only [put_laws])
  clear hcF'
  refine wpAnyH_ready (rs:=[6,7]) (by kernel_rfl) (by simp) ?_; refine AllReadyH.cons rfl (fun K hK=>?_) (AllReadyH.cons rfl (fun K hK=>?_) AllReadyH.nil)
  ·go_simp
   refine (pn_Line p v f.line _ (HPW.out.below (Below.refl _ _).drew)).mono ?_
   rintro e w3 ⟨sa,sc,rfl,hfl,hb3⟩
   have hb3':Below W.heap.size W w3:=(Below.refl _ _).drew.trans hb3
   clear hfl hb3
   refine hK.out _ _ hb3' (fun hHeld=>?_)
   clear hK K
   refine wpAnyH_ready (rs:=[7]) (by kernel_rfl) (by simp) ?_; refine AllReadyH.cons rfl (fun K hK=>?_) AllReadyH.nil
   rw [if_pos (by rfl)]
   refine wpo_alloc 204 rfl (lnL zLine (.slice none 0 0)) Tryz.zeroLine ?_
   refine hK.out _ _ (hb3'.alloc hb3'.size _) (fun hHeld=>?_)
   clear hK K
   try simp only [put_laws]
   refine wpAnyH_ready (rs:=[8]) (by kernel_rfl) (by simp) ?_; refine AllReadyH.cons rfl (fun K hK=>?_) AllReadyH.nil
   rw [if_pos (by rfl)]
   refine wpo_store_new 204 _ _ rfl _ _ (lnL (lineAt p f.line) (.slice sa (lineAt p f.line).vals.length sc)) _ rfl rfl rfl Tryz.sizeLine rfl rfl ?_
   refine hK.out _ _ (hb3'.alloc hb3'.size _) (fun hHeld=>?_)
   clear hK K
   try simp only [put_laws]
   refine wpAnyH_done (by kernel_rfl) ?_ _
   have hL:(w3.alloc (.cells (lnL (lineAt p f.line) (.slice sa (lineAt p f.line).vals.length sc)).toArray 204)).heap[w3.heap.size]? = some (.cells (lnL (lineAt p f.line) (.slice sa (lineAt p f.line).vals.length sc)).toArray 204 (0,0)):=heap_alloc_new _ _
   have hb4:=hHeld
   have hFW:W.heap.size ≤ w3.heap.size:=hb3'.size
   clear hHeld hb3'
   generalize w3.alloc (.cells (lnL (lineAt p f.line) (.slice sa (lineAt p f.line).vals.length sc)).toArray 204) = w4 at *
   generalize w3.heap.size = F at *
   have HT4:=hide (HTW.out.below hb4)
   have HF4:=hide (HFW.out.trans (Fr1.of_below hb4 (Nat.le_of_lt hzW)))
   have k3:w4.cell? ⟨F,3,none⟩ = some (.int .i64 (lineAt p f.line).next):=cell_blk hL 3 rfl
   have k6:w4.cell? ⟨F,6,none⟩ = some (.int .i64 (lineAt p f.line).target.own):=cell_blk hL 6 rfl
   have k7:w4.cell? ⟨F,7,none⟩ = some (.int .i64 (lineAt p f.line).target.num):=cell_blk hL 7 rfl
   have hF4:F < w4.heap.size:=(Array.getElem?_eq_some_iff.1 hL).1
   clear hL hb4 hrP hcF
   go_wp2_with fail
   refine (py_give B p v k1 (lineAt p f.line).target val _ HT4.out).mono ?_
   rintro e w5 ⟨rfl,hk5,hf5⟩
   have n5:w5.cell? ⟨F,3,none⟩ = some (.int .i64 (lineAt p f.line).next):=by rw [← k3]; simp only [World.cell?,hf5.blk F hF4 (by omega)]
   have HK5:=hide hk5
   have HF5:=hide (HF4.out.trans hf5)
   clear hk5 hf5 k3 k6 k7
   go_wp2_with fail
   refine (py_goToW B p v _ (lineAt p f.line).next _ HK5.out).mono ?_
   rintro e w6 ⟨rfl,hk6,hf6⟩
   have HK6:=hide hk6
   have HF6:=hide (HF5.out.trans hf6)
   clear hk6 hf6
   go_wp2_with fail
   go_end0
   exact ⟨rfl,by rw [HE.out]; exact HK6.out,HF6.out⟩
  ·rw [if_pos (by rfl)]
   refine wpo_alloc 204 rfl (lnL zLine (.slice none 0 0)) Tryz.zeroLine ?_
   have hb2:Below W.heap.size W (W.drew.alloc (.cells (lnL zLine (.slice none 0 0)).toArray 204)):=(Below.refl _ _).drew.alloc (Nat.le_refl _) _
   refine hK.out _ _ hb2 (fun hHeld=>?_)
   clear hK K
   try simp only [put_laws]
   refine wpAnyH_ready (rs:=[6]) (by kernel_rfl) (by simp) ?_; refine AllReadyH.cons rfl (fun K hK=>?_) AllReadyH.nil
   go_simp
   refine (pn_Line p v f.line _ (HPW.out.below hb2)).mono ?_
   rintro e w3 ⟨sa,sc,rfl,hfl,hb3⟩
   have hb3':Below W.heap.size W w3:=hb2.trans (hb3.mono hb2.size)
   have hL0:w3.heap[W.heap.size]? = some (.cells (lnL zLine (.slice none 0 0)).toArray 204 (0,0)):=(hb3.block _ (by simp)).trans (heap_alloc_new W.drew _)
   clear hfl hb3
   refine hK.out _ _ hb3' (fun hHeld=>?_)
   clear hK K
   refine wpAnyH_ready (rs:=[8]) (by kernel_rfl) (by simp) ?_; refine AllReadyH.cons rfl (fun K hK=>?_) AllReadyH.nil
   rw [if_pos (by rfl)]
   refine wpo_store_box 204 _ _ rfl W.heap.size _ (lnL (lineAt p f.line) (.slice sa (lineAt p f.line).vals.length sc)) _ rfl rfl hL0 Tryz.sizeLine rfl rfl ?_
   refine hK.out _ _ (setRow_below hb3' (Nat.le_refl _)) (fun hHeld=>?_)
   clear hK K
   try simp only [put_laws]
   refine wpAnyH_done (by kernel_rfl) ?_ _
   have hL:(w3.setRow W.heap.size (lnL (lineAt p f.line) (.slice sa (lineAt p f.line).vals.length sc)).toArray).heap[W.heap.size]? = some (.cells (lnL (lineAt p f.line) (.slice sa (lineAt p f.line).vals.length sc)).toArray 204 (0,0)):=setRow_heap hL0
   have hb4:=hHeld
   have hFW:W.heap.size ≤ W.heap.size:=Nat.le_refl _
   clear hHeld hb3' hL0 hb2
   generalize w3.setRow W.heap.size (lnL (lineAt p f.line) (.slice sa (lineAt p f.line).vals.length sc)).toArray = w4 at *
   generalize hF:W.heap.size = F at hL hFW ⊢
   have hFW:W.heap.size ≤ F:=by omega
   have HT4:=hide (HTW.out.below hb4)
   have HF4:=hide (HFW.out.trans (Fr1.of_below hb4 (Nat.le_of_lt hzW)))
   have k3:w4.cell? ⟨F,3,none⟩ = some (.int .i64 (lineAt p f.line).next):=cell_blk hL 3 rfl
   have k6:w4.cell? ⟨F,6,none⟩ = some (.int .i64 (lineAt p f.line).target.own):=cell_blk hL 6 rfl
   have k7:w4.cell? ⟨F,7,none⟩ = some (.int .i64 (lineAt p f.line).target.num):=cell_blk hL 7 rfl
   have hF4:F < w4.heap.size:=(Array.getElem?_eq_some_iff.1 hL).1
   clear hL hb4 hrP hcF
   go_wp2_with fail
   refine (py_give B p v k1 (lineAt p f.line).target val _ HT4.out).mono ?_
   rintro e w5 ⟨rfl,hk5,hf5⟩
   have n5:w5.cell? ⟨F,3,none⟩ = some (.int .i64 (lineAt p f.line).next):=by rw [← k3]; simp only [World.cell?,hf5.blk F hF4 (by omega)]
   have HK5:=hide hk5
   have HF5:=hide (HF4.out.trans hf5)
   clear hk5 hf5 k3 k6 k7
   go_wp2_with fail
   refine (py_goToW B p v _ (lineAt p f.line).next _ HK5.out).mono ?_
   rintro e w6 ⟨rfl,hk6,hf6⟩
   have HK6:=hide hk6
   have HF6:=hide (HF5.out.trans hf6)
   clear hk6 hf6
   go_wp2_with fail
   go_end0
   exact ⟨rfl,by rw [HE.out]; exact HK6.out,HF6.out⟩
end Go.Proofs.YtmfcpbhdggonfaaGreatDoor
