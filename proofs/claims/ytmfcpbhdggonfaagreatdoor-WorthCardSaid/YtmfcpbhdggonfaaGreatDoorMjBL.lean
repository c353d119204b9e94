/- Contracts of the program's parser: entering and leaving brackets; the end. -/
import Derived.Test.YtmfcpbhdggonfaaGreatDoorMjAQ
import Derived.Test.YtmfcpbhdggonfaaGreatDoorMjBK
import Derived.Deep.LoopGhost
import Derived.Test.YtmfcpbhdggonfaaGreatDoorMjAR
namespace Go.Proofs.YtmfcpbhdggonfaaGreatDoor
open Go.RowKit RR
theorem take_depth (L:List Tk) (σ:PSt) (t:ByteArray):(σ.take L t).depth = σ.depth:=by unfold PSt.take; split <;> rfl
set_option maxHeartbeats 1000000 in
theorem s_leave {B:Nat} {ao:Option Addr} {cap:Nat} {L:List Tk} {U:Nat} {σ:QSt} {vS:Value} (t:ByteArray) (w:World) (hL:L.length ≤ 500) (ht:t ≠ ⟨#[]⟩) (h:PS B ao cap L U σ vS w) :
    Calls Tryz.prog 204 #[.pointer (some ⟨B,0,none⟩),.string t] w fun e w'=>e = .returned (.tuple #[])∧PS B ao cap L U (σ.setp (leaveP L σ.p t)) vS w'∧Kp B w w':=by
 have HT:Hid (leaveP L σ.p t = { σ.p.take L t with depth:=wrap64 ((σ.p.take L t).depth - 1) }):=rfl
 go_enter Tryz.func204,Tryz.ntmps204
 go_wp2_with fail
 refine (s_take t _ hL ht h).mono ?_
 rintro e w1 ⟨rfl,h1,k1⟩
 generalize σ.p.take L t = σ1 at *
 obtain ⟨vN1,vC1,vD1,h1⟩:=h1
 obtain ⟨c0,c1,c2,c3,c4,c5,c6,c7,c8,hf⟩:=h1.cells
 have f2:=hf 2
 clear hf
 have hfin:=ps_set (q:={ σ1 with depth:=wrap64 (σ1.depth - 1) }) h1 2 (.int .i64 (wrap64 (σ1.depth - 1))) rfl rfl rfl h1.le h1.inv
 go_wp2_with fail
 go_end0
 exact ⟨rfl,by rw [HT.out]; exact hfin.1,k1.trans hfin.2⟩
set_option maxHeartbeats 1000000 in
theorem s_enter {B:Nat} {ao:Option Addr} {cap:Nat} {L:List Tk} {U:Nat} {σ:QSt} {vS:Value} (t:ByteArray) (w:World) (hL:L.length ≤ 500) (ht:t ≠ ⟨#[]⟩) (h:PS B ao cap L U σ vS w) :
    Calls Tryz.prog 203 #[.pointer (some ⟨B,0,none⟩),.string t] w fun e w'=>e = .returned (.tuple #[])∧PS B ao cap L U (σ.setp (enterP L σ.p t)) vS w'∧Kp B w w':=by
 have hps:=h
 obtain ⟨vN,vC,vD,h⟩:=h
 obtain ⟨c0,c1,c2,c3,c4,c5,c6,c7,c8,hf⟩:=h.cells
 have f4:=hf 4
 clear hf
 by_cases hd:6 ≤ σ.p.depth
 ·have HT:Hid (enterP L σ.p t = σ.p.fail):=by show _ = _; unfold enterP; rw [if_pos hd]
  have hfin:=ps_fail h
  go_enter Tryz.func203,Tryz.ntmps203
  go_wp2_with fail
  exact bodyPost_ret (v:=.tuple #[]) (by simp [results,Tryz.results203,go_sem]) rfl ⟨rfl,by rw [HT.out]; exact hfin.1,hfin.2⟩
 ·have HT:Hid (enterP L σ.p t = { σ.p.take L t with depth:=wrap64 ((σ.p.take L t).depth + 1) }):=by show _ = _; unfold enterP; rw [if_neg hd]
  have hd':σ.p.depth < 6:=by omega
  have htd:=take_depth L σ.p t
  go_enter Tryz.func203,Tryz.ntmps203
  go_wp2_with fail
  refine (s_take t _ hL ht hps).mono ?_
  rintro e w1 ⟨rfl,h1,k1⟩
  clear c0 c1 c2 c3 c4 c5 c6 c7 c8 f4 h
  generalize σ.p.take L t = σ1 at *
  obtain ⟨vN1,vC1,vD1,h1⟩:=h1
  obtain ⟨c0,c1,c2,c3,c4,c5,c6,c7,c8,hf⟩:=h1.cells
  have f2:=hf 2
  clear hf
  have hfin:=ps_set (q:={ σ1 with depth:=wrap64 (σ1.depth + 1) }) h1 2 (.int .i64 (wrap64 (σ1.depth + 1))) rfl rfl rfl h1.le h1.inv
  clear htd hd hd'
  go_wp2_with fail
  go_end0
  exact ⟨rfl,by rw [HT.out]; exact hfin.1,k1.trans hfin.2⟩
set_option maxHeartbeats 1000000 in
theorem s_takeEnd {B:Nat} {ao:Option Addr} {cap:Nat} {L:List Tk} {U:Nat} {σ:QSt} {vS:Value} (w:World) (_hL:L.length ≤ 500) (h:PS B ao cap L U σ vS w) :
    Calls Tryz.prog 182 #[.pointer (some ⟨B,0,none⟩)] w fun e w'=>e = .returned (.tuple #[])∧PS B ao cap L U (σ.setp (takeEndP L σ.p)) vS w'∧Kp B w w':=by
 have hps:=h
 obtain ⟨vN,vC,vD,h⟩:=h
 obtain ⟨c0,c1,c2,c3,c4,c5,c6,c7,c8,hf⟩:=h.cells
 have f4:=hf 4
 clear hf
 have hlt:=h.lt
 by_cases hd:σ.p.next < L.length
 ·have HT:Hid (takeEndP L σ.p = σ.p.fail):=by show _ = _; unfold takeEndP; rw [if_pos hd]
  have hd':(σ.p.next:Int) < L.length:=by omega
  go_enter Tryz.func182,Tryz.ntmps182
  go_wp2_with fail
  go_quiet (fail)
  have hfin:=ps_fail (h.below (below_drewN _ _ nq))
  go_wp2_with fail
  go_end0
  exact ⟨rfl,by rw [HT.out]; exact hfin.1,(Kp.of_below (below_drewN _ _ nq) (Nat.le_of_lt hlt)).trans hfin.2⟩
 ·have HT:Hid (takeEndP L σ.p = σ.p):=by show _ = _; unfold takeEndP; rw [if_neg hd]
  have hd':decide ((σ.p.next:Int) < L.length) = false:=decide_eq_false (by omega)
  go_enter Tryz.func182,Tryz.ntmps182
  go_wp2_with fail
  go_quiet (fail)
  go_wp2_with fail
  go_end0
  exact ⟨rfl,by rw [HT.out]; exact hps.below (below_drewN _ _ nq),Kp.of_below (below_drewN _ _ nq) (Nat.le_of_lt hlt)⟩
end Go.Proofs.YtmfcpbhdggonfaaGreatDoor
namespace Go.Proofs.YtmfcpbhdggonfaaGreatDoor
open Go.RowKit RR
theorem Tryz.infoNd:(Tryz.prog.info? 190).map (fun i=>(i.zero,i.size,i.bytes)) = some (some (.agg #[.int .i64 0,.int .i64 0,.int .i64 0,.int .i64 0]),4,32):=by kernel_rfl
set_option maxRecDepth 100000 in
set_option maxHeartbeats 16000000 in
theorem s_addNode {B:Nat} {ao:Option Addr} {cap:Nat} {L:List Tk} {U:Nat} {σ:QSt} {vS:Value} (n:Nd) (w:World) (hn:σ.nds.length ≤ 9000) (h:PS B ao cap L U σ vS w) :
    Calls Tryz.prog 234 #[.pointer (some ⟨B,0,none⟩),.agg #[.int .i64 n.sign,.int .i64 n.name,.int .i64 n.left,.int .i64 n.right]] w fun e w'=>e = .returned (.int .i64 σ.nds.length)∧PS B ao cap L U (σ.node n) vS w'∧Kp B w w':=by
 have hlt:=h.lt
 obtain ⟨i0,hi0,hz0,hz1,hz2⟩:=info_parts Tryz.infoNd
 have hb1:Below w.heap.size w (w.alloc (.cells #[.int .i64 n.sign,.int .i64 n.name,.int .i64 n.left,.int .i64 n.right] 190)):=(Below.refl _ _).alloc (Nat.le_refl _) _
 have h1:=h.below hb1
 have K1:=Kp.of_below hb1 (Nat.le_of_lt hlt)
 have hX:(w.alloc (.cells #[.int .i64 n.sign,.int .i64 n.name,.int .i64 n.left,.int .i64 n.right] 190)).heap[w.heap.size]? = some (.cells #[.int .i64 n.sign,.int .i64 n.name,.int .i64 n.left,.int .i64 n.right] 190 (0,0)):=heap_alloc_new w _
 go_enter Tryz.func234,Tryz.ntmps234
 go_wp2_with fail
 generalize w.alloc (.cells #[.int .i64 n.sign,.int .i64 n.name,.int .i64 n.left,.int .i64 n.right] 190) = w2 at *
 generalize w.heap.size = X at *
 obtain ⟨vN,vC,vD,h2⟩:=h1
 obtain ⟨c0,c1,c2,c3,c4,c5,c6,c7,c8,hf⟩:=h2.cells
 have f8:=hf 8
 have x0:w2.cell? ⟨X,0,none⟩ = some (.int .i64 n.sign):=by simp [World.cell?,hX]
 have x1:w2.cell? ⟨X,1,none⟩ = some (.int .i64 n.name):=by simp [World.cell?,hX]
 have x2:w2.cell? ⟨X,2,none⟩ = some (.int .i64 n.left):=by simp [World.cell?,hX]
 have x3:w2.cell? ⟨X,3,none⟩ = some (.int .i64 n.right):=by simp [World.cell?,hX]
 clear hf
 have hown:=h2.nd
 have hzz:B < w2.heap.size:=h2.lt
 have hbw:B + 1 ≤ w2.heap.size:=hzz
 go_region_law (refine step_append_lies _ rfl (.tmp 9) (.tmp 11) 114 rfl (B + 1) 190 i0 (.agg #[.int .i64 0,.int .i64 0,.int .i64 0,.int .i64 0]) 4 32 Tryz.underlying114 hi0 hz0 hz1 hz2 rfl (by decide) vD σ.nds.length (ndc σ.nds) rfl (by exact hown.alloc _) ⟨w2.heap.size,0,none⟩ 1 1 [.int .i64 n.sign,.int .i64 n.name,.int .i64 n.left,.int .i64 n.right] rfl rfl (by exact four_cells) (four_one rfl rfl rfl rfl) (by decide) (by unfold maxLen; omega) (by omega) (by simp; omega) _ rfl ?_; intro g cap' w3 hown3 hgrow hat hg; have kB:=grow_block hown hgrow B hzz (.inl (Nat.lt_succ_self B)); have k8:w3.cell? ⟨B,8,none⟩ = some vD:=(World.cell?_of_block (w:=w2) kB).trans c8; have kf:w3.frozen? ⟨B,8,none⟩ = false:=(World.frozen?_of_block (w:=w2) kB).trans f8)
 all_goals
  have hfin:=nd_fin (n:=n) h2 hown3 hgrow
  clear hown3 hgrow hat hg kB c0 c1 c2 c3 c4 c5 c6 c7 c8 x0 x1 x2 x3 hown hi0 hz0 hz1 hz2
  go_wp2_with fail
  go_ret
  exact ⟨ret_int (by omega),⟨_,_,_,hfin.1⟩,K1.trans hfin.2⟩
end Go.Proofs.YtmfcpbhdggonfaaGreatDoor
namespace Go.Proofs.YtmfcpbhdggonfaaGreatDoor
open Go.RowKit RR
theorem node_len (σ:QSt) (n:Nd):(σ.node n).nds.length = σ.nds.length + 1:=by show (σ.nds ++ [n]).length = _; rw [List.length_append]; rfl
theorem const_len (L:List Tk) (σ:QSt) (t:ByteArray) (s:Nat):(constQ L σ t s).1.nds.length = σ.nds.length + 1:=node_len _ _
def SaidExpr (B:Nat) (ao:Option Addr) (cap:Nat) (L:List Tk) (U:Nat) (f:Nat):Prop:=∀ (σ:QSt) (r:QSt × Int) (vS:Value) (w:World),PS B ao cap L U σ vS w→exprQ L f σ = some r→r.1.nds.length ≤ 9000 →
    Calls Tryz.prog 231 #[.pointer (some ⟨B,0,none⟩)] w fun e w'=>e = .returned (.int .i64 r.2)∧PS B ao cap L U r.1 vS w'∧Kp B w w'
def SaidTerm (B:Nat) (ao:Option Addr) (cap:Nat) (L:List Tk) (U:Nat) (f:Nat):Prop:=∀ (σ:QSt) (r:QSt × Int) (vS:Value) (w:World),PS B ao cap L U σ vS w→termQ L f σ = some r→r.1.nds.length ≤ 9000 →
    Calls Tryz.prog 233 #[.pointer (some ⟨B,0,none⟩)] w fun e w'=>e = .returned (.int .i64 r.2)∧PS B ao cap L U r.1 vS w'∧Kp B w w'
def SaidFactor (B:Nat) (ao:Option Addr) (cap:Nat) (L:List Tk) (U:Nat) (f:Nat):Prop:=∀ (σ:QSt) (r:QSt × Int) (vS:Value) (w:World),PS B ao cap L U σ vS w→factorQ L f σ = some r→r.1.nds.length ≤ 9000 →
    Calls Tryz.prog 235 #[.pointer (some ⟨B,0,none⟩)] w fun e w'=>e = .returned (.int .i64 r.2)∧PS B ao cap L U r.1 vS w'∧Kp B w w'
def SaidBrack (B:Nat) (ao:Option Addr) (cap:Nat) (L:List Tk) (U:Nat) (f:Nat):Prop:=∀ (σ:QSt) (r:QSt × Int) (vS:Value) (w:World),PS B ao cap L U σ vS w→bracketedQ L f σ = some r→r.1.nds.length ≤ 9000 →
    Calls Tryz.prog 237 #[.pointer (some ⟨B,0,none⟩)] w fun e w'=>e = .returned (.int .i64 r.2)∧PS B ao cap L U r.1 vS w'∧Kp B w w'
set_option maxRecDepth 100000 in
set_option maxHeartbeats 1000000 in
theorem s_expr {B:Nat} {ao:Option Addr} {cap:Nat} {L:List Tk} {U:Nat} (hL:L.length ≤ 500) (f:Nat) (ih:Hid (∀ g,g ≤ f→SaidTerm B ao cap L U g)):SaidExpr B ao cap L U (f + 1):=by
 intro σ r vS w h hrun hend
 rw [exprQ_succ] at hrun
 obtain ⟨a,h1,h2⟩:=bindS hrun
 have ga:=(xg_exprs L f).2.1 _ _ _ h2
 have HR:=hide h2
 have H1:=hide h1
 have hae:a.1.nds.length ≤ 9000:=Nat.le_trans ga.mono hend
 clear hrun h1 h2
 go_enter Tryz.func231,Tryz.ntmps231
 go_wp2_with fail
 refine (ih.out f (Nat.le_refl _) σ a vS _ h H1.out hae).mono ?_
 rintro e w1 ⟨rfl,hp1,k1⟩
 go_wp2_with fail
 go_loopg [3] f (fun g v3 wr=>∃ (τ:QSt) (x:Int),v3 = .int .i64 x∧g ≤ f∧orQ L g τ x = some r∧PS B ao cap L U τ vS wr∧Kp B w wr)
 case atStart=>exact ⟨a.1,a.2,rfl,Nat.le_refl _,HR.out,hp1,k1⟩
 case round =>
  obtain ⟨τ,x,rfl,hg,hl,hp,kp⟩:=hrel
  cases gk with
  | zero=>rw [orQ_zero] at hl; cases hl
  | succ g =>
   rw [orQ_succ] at hl
   cases hs:τ.p.sees L ⟨#[124]⟩
   ·rw [hs] at hl
    have HL:Hid ((τ,x) = r):=Option.some.inj hl
    clear hl
    go_wp2_with fail
    refine (s_accept ⟨#[124]⟩ _ hL (by decide) hp).mono ?_
    rintro e w2 ⟨rfl,hp2,k2⟩
    rw [hs] at hp2 ⊢
    go_wp2_with fail
    go_ret
    exact ⟨ret_int (by rw [← HL.out]),by rw [← HL.out]; exact hp2,kp.trans k2⟩
   ·rw [hs] at hl
    obtain ⟨b,h1,h2⟩:=bindS hl
    have gb:=(xg_exprs L g).2.1 _ _ _ h2
    have hbe:b.1.nds.length + 1 ≤ 9000:=by
     have:=gb.mono
     have e:(b.1.node ⟨6,-1,x,b.2⟩).nds.length = b.1.nds.length + 1:=by show (_ ++ [_]).length = _; simp
     omega
    have HA:=hide h1
    have HB:=hide h2
    clear hl h1 h2 gb
    go_wp2_with fail
    refine (s_accept ⟨#[124]⟩ _ hL (by decide) hp).mono ?_
    rintro e w2 ⟨rfl,hp2,k2⟩
    rw [hs] at hp2 ⊢
    go_wp2_with fail
    refine (ih.out g (by omega) (τ.setp τ.p.step) b vS _ hp2 HA.out (by omega)).mono ?_
    rintro e w3 ⟨rfl,hp3,k3⟩
    go_wp2_with fail
    refine (s_addNode ⟨6,-1,x,b.2⟩ _ (by omega) hp3).mono ?_
    rintro e w4 ⟨rfl,hp4,k4⟩
    go_wp2_with fail
    go_roundg g
    case measure=>omega
    case rel=>exact ⟨_,_,rfl,by omega,HB.out,hp4,((kp.trans k2).trans k3).trans k4⟩
set_option maxRecDepth 100000 in
set_option maxHeartbeats 1000000 in
theorem s_term {B:Nat} {ao:Option Addr} {cap:Nat} {L:List Tk} {U:Nat} (hL:L.length ≤ 500) (f:Nat) (ih:Hid (∀ g,g ≤ f→SaidFactor B ao cap L U g)):SaidTerm B ao cap L U (f + 1):=by
 intro σ r vS w h hrun hend
 rw [termQ_succ] at hrun
 obtain ⟨a,h1,h2⟩:=bindS hrun
 have ga:=(xg_exprs L f).2.2.2.1 _ _ _ h2
 have HR:=hide h2
 have H1:=hide h1
 have hae:a.1.nds.length ≤ 9000:=Nat.le_trans ga.mono hend
 clear hrun h1 h2
 go_enter Tryz.func233,Tryz.ntmps233
 go_wp2_with fail
 refine (ih.out f (Nat.le_refl _) σ a vS _ h H1.out hae).mono ?_
 rintro e w1 ⟨rfl,hp1,k1⟩
 go_wp2_with fail
 go_loopg [3] f (fun g v3 wr=>∃ (τ:QSt) (x:Int),v3 = .int .i64 x∧g ≤ f∧andQ L g τ x = some r∧PS B ao cap L U τ vS wr∧Kp B w wr)
 case atStart=>exact ⟨a.1,a.2,rfl,Nat.le_refl _,HR.out,hp1,k1⟩
 case round =>
  obtain ⟨τ,x,rfl,hg,hl,hp,kp⟩:=hrel
  cases gk with
  | zero=>rw [andQ_zero] at hl; cases hl
  | succ g =>
   rw [andQ_succ] at hl
   cases hs:τ.p.sees L ⟨#[38]⟩
   ·rw [hs] at hl
    have HL:Hid ((τ,x) = r):=Option.some.inj hl
    clear hl
    go_wp2_with fail
    refine (s_accept ⟨#[38]⟩ _ hL (by decide) hp).mono ?_
    rintro e w2 ⟨rfl,hp2,k2⟩
    rw [hs] at hp2 ⊢
    go_wp2_with fail
    go_ret
    exact ⟨ret_int (by rw [← HL.out]),by rw [← HL.out]; exact hp2,kp.trans k2⟩
   ·rw [hs] at hl
    obtain ⟨b,h1,h2⟩:=bindS hl
    have gb:=(xg_exprs L g).2.2.2.1 _ _ _ h2
    have hbe:b.1.nds.length + 1 ≤ 9000:=by
     have:=gb.mono
     have e:(b.1.node ⟨5,-1,x,b.2⟩).nds.length = b.1.nds.length + 1:=by show (_ ++ [_]).length = _; simp
     omega
    have HA:=hide h1
    have HB:=hide h2
    clear hl h1 h2 gb
    go_wp2_with fail
    refine (s_accept ⟨#[38]⟩ _ hL (by decide) hp).mono ?_
    rintro e w2 ⟨rfl,hp2,k2⟩
    rw [hs] at hp2 ⊢
    go_wp2_with fail
    refine (ih.out g (by omega) (τ.setp τ.p.step) b vS _ hp2 HA.out (by omega)).mono ?_
    rintro e w3 ⟨rfl,hp3,k3⟩
    go_wp2_with fail
    refine (s_addNode ⟨5,-1,x,b.2⟩ _ (by omega) hp3).mono ?_
    rintro e w4 ⟨rfl,hp4,k4⟩
    go_wp2_with fail
    go_roundg g
    case measure=>omega
    case rel=>exact ⟨_,_,rfl,by omega,HB.out,hp4,((kp.trans k2).trans k3).trans k4⟩
set_option maxRecDepth 100000 in
set_option maxHeartbeats 1000000 in
theorem s_brack {B:Nat} {ao:Option Addr} {cap:Nat} {L:List Tk} {U:Nat} (hL:L.length ≤ 500) (f:Nat) (ih:Hid (SaidExpr B ao cap L U f)):SaidBrack B ao cap L U (f + 1):=by
 intro σ r vS w h hrun hend
 rw [bracketedQ_succ] at hrun
 obtain ⟨a,h1,h2⟩:=Option.map_eq_some_iff.1 hrun
 have hae:a.1.nds.length ≤ 9000:=by rw [← h2] at hend; exact hend
 have HR:=hide h2
 have H1:=hide h1
 clear hrun h1 h2
 go_enter Tryz.func237,Tryz.ntmps237
 go_wp2_with fail
 refine (s_enter ⟨#[40]⟩ _ hL (by decide) h).mono ?_
 rintro e w1 ⟨rfl,hp1,k1⟩
 go_wp2_with fail
 refine (ih.out _ a _ _ hp1 H1.out hae).mono ?_
 rintro e w2 ⟨rfl,hp2,k2⟩
 go_wp2_with fail
 refine (s_leave ⟨#[41]⟩ _ hL (by decide) hp2).mono ?_
 rintro e w3 ⟨rfl,hp3,k3⟩
 go_wp2_with fail
 go_ret
 exact ⟨ret_int (by rw [← HR.out]),by rw [← HR.out]; exact hp3,(k1.trans k2).trans k3⟩
set_option maxRecDepth 100000 in
set_option maxHeartbeats 1000000 in
theorem s_constant {B:Nat} {ao:Option Addr} {cap:Nat} {L:List Tk} {U:Nat} {σ:QSt} {vS:Value} (hL:L.length ≤ 500) (t:ByteArray) (sign:Nat) (w:World) (ht:t ≠ ⟨#[]⟩) (hn:σ.nds.length + 1 ≤ 9000) (h:PS B ao cap L U σ vS w) :
    Calls Tryz.prog 238 #[.pointer (some ⟨B,0,none⟩),.string t,.int .i64 sign] w fun e w'=>e = .returned (.int .i64 (constQ L σ t sign).2)∧PS B ao cap L U (constQ L σ t sign).1 vS w'∧Kp B w w':=by
 go_enter Tryz.func238,Tryz.ntmps238
 go_wp2_with fail
 refine (s_take t _ hL ht h).mono ?_
 rintro e w1 ⟨rfl,hp1,k1⟩
 go_wp2_with fail
 refine (s_addNode ⟨sign,-1,0,0⟩ _ (by show σ.nds.length ≤ 9000; omega) hp1).mono ?_
 rintro e w2 ⟨rfl,hp2,k2⟩
 go_wp2_with fail
 go_ret
 exact ⟨rfl,hp2,k1.trans k2⟩
set_option maxRecDepth 100000 in
set_option maxHeartbeats 2000000 in
theorem s_plain {B:Nat} {ao:Option Addr} {cap:Nat} {L:List Tk} {U:Nat} (hL:L.length ≤ 500) (f:Nat) (ih:Hid (SaidBrack B ao cap L U f)) (σ:QSt) (r:QSt × Int) (vS:Value) (w:World) (h:PS B ao cap L U σ vS w) (hrun:plainQ L (bracketedQ L f) σ = some r) (hend:r.1.nds.length ≤ 9000) :
    Calls Tryz.prog 236 #[.pointer (some ⟨B,0,none⟩)] w fun e w'=>e = .returned (.int .i64 r.2)∧PS B ao cap L U r.1 vS w'∧Kp B w w':=by
 have HB:=hide hrun
 clear hrun
 by_cases e0:(σ.p.ahead L 0).t = ⟨#[40]⟩
 ·have HB2:Hid (bracketedQ L f σ = some r):=by show _ = _; have h:=HB.out; unfold plainQ at h; rw [if_pos e0] at h; exact h
  have z0:((σ.p.ahead L 0).t.toList == [40]) = true:=by rw [e0,bl]; rfl
  clear e0
  go_enter Tryz.func236,Tryz.ntmps236
  go_wp2_with fail
  refine (s_ahead 0 _ hL (by omega) h).mono ?_
  rintro e w3 ⟨rfl,hb3⟩
  have hp3:=fun ob=>h.below (hb3.alloc hb3.size ob)
  have k3:=fun ob=>Kp.of_below (hb3.alloc hb3.size ob) (Nat.le_of_lt h.lt)
  have hz3:=hb3.size
  clear hb3
  go_wp2_with fail
  refine (ih.out σ r _ _ (hp3 _) HB2.out hend).mono ?_
  rintro e w4 ⟨rfl,hp4,k4⟩
  go_wp2_with fail
  go_ret
  exact ⟨rfl,hp4,(k3 _).trans k4⟩
 by_cases e1:(σ.p.ahead L 0).t = ⟨#[116,114,117,101]⟩
 ·have HB2:Hid (constQ L σ ⟨#[116,114,117,101]⟩ 1 = r):=by show _ = _; have h:=HB.out; unfold plainQ at h; rw [if_neg e0,if_pos e1] at h; exact Option.some.inj h
  have z0:((σ.p.ahead L 0).t.toList == [40]) = false:=lit_ne e0 (by rw [bl])
  have z1:((σ.p.ahead L 0).t.toList == [116,114,117,101]) = true:=by rw [e1,bl]; rfl
  have hlen:σ.nds.length + 1 ≤ 9000:=by have:=hend; rw [← HB2.out,const_len] at this; exact this
  have HW:=hide e1
  clear e0 e1
  go_enter Tryz.func236,Tryz.ntmps236
  go_wp2_with fail
  refine (s_ahead 0 _ hL (by omega) h).mono ?_
  rintro e w3 ⟨rfl,hb3⟩
  have hp3:=fun ob=>h.below (hb3.alloc hb3.size ob)
  have k3:=fun ob=>Kp.of_below (hb3.alloc hb3.size ob) (Nat.le_of_lt h.lt)
  have hz3:=hb3.size
  clear hb3
  go_wp2_with fail
  rw [HW.out]
  refine (s_constant hL ⟨#[116,114,117,101]⟩ 1 _ (by decide) hlen (hp3 _)).mono ?_
  rintro e w4 ⟨rfl,hp4,k4⟩
  go_wp2_with fail
  go_ret
  exact ⟨ret_int (by rw [HB2.out]),by rw [← HB2.out]; exact hp4,(k3 _).trans k4⟩
 by_cases e2:(σ.p.ahead L 0).t = ⟨#[102,97,108,115,101]⟩
 ·have HB2:Hid (constQ L σ ⟨#[102,97,108,115,101]⟩ 0 = r):=by show _ = _; have h:=HB.out; unfold plainQ at h; rw [if_neg e0,if_neg e1,if_pos e2] at h; exact Option.some.inj h
  have z0:((σ.p.ahead L 0).t.toList == [40]) = false:=lit_ne e0 (by rw [bl])
  have z1:((σ.p.ahead L 0).t.toList == [116,114,117,101]) = false:=lit_ne e1 (by rw [bl])
  have z2:((σ.p.ahead L 0).t.toList == [102,97,108,115,101]) = true:=by rw [e2,bl]; rfl
  have hlen:σ.nds.length + 1 ≤ 9000:=by have:=hend; rw [← HB2.out,const_len] at this; exact this
  have HW:=hide e2
  clear e0 e1 e2
  go_enter Tryz.func236,Tryz.ntmps236
  go_wp2_with fail
  refine (s_ahead 0 _ hL (by omega) h).mono ?_
  rintro e w3 ⟨rfl,hb3⟩
  have hp3:=fun ob=>h.below (hb3.alloc hb3.size ob)
  have k3:=fun ob=>Kp.of_below (hb3.alloc hb3.size ob) (Nat.le_of_lt h.lt)
  have hz3:=hb3.size
  clear hb3
  go_wp2_with fail
  rw [HW.out]
  refine (s_constant hL ⟨#[102,97,108,115,101]⟩ 0 _ (by decide) hlen (hp3 _)).mono ?_
  rintro e w4 ⟨rfl,hp4,k4⟩
  go_wp2_with fail
  go_ret
  exact ⟨ret_int (by rw [HB2.out]),by rw [← HB2.out]; exact hp4,(k3 _).trans k4⟩
 by_cases e3:(σ.p.ahead L 0).t = ⟨#[63]⟩
 ·have HB2:Hid (constQ L σ ⟨#[63]⟩ 2 = r):=by show _ = _; have h:=HB.out; unfold plainQ at h; rw [if_neg e0,if_neg e1,if_neg e2,if_pos e3] at h; exact Option.some.inj h
  have z0:((σ.p.ahead L 0).t.toList == [40]) = false:=lit_ne e0 (by rw [bl])
  have z1:((σ.p.ahead L 0).t.toList == [116,114,117,101]) = false:=lit_ne e1 (by rw [bl])
  have z2:((σ.p.ahead L 0).t.toList == [102,97,108,115,101]) = false:=lit_ne e2 (by rw [bl])
  have z3:((σ.p.ahead L 0).t.toList == [63]) = true:=by rw [e3,bl]; rfl
  have hlen:σ.nds.length + 1 ≤ 9000:=by have:=hend; rw [← HB2.out,const_len] at this; exact this
  have HW:=hide e3
  clear e0 e1 e2 e3
  go_enter Tryz.func236,Tryz.ntmps236
  go_wp2_with fail
  refine (s_ahead 0 _ hL (by omega) h).mono ?_
  rintro e w3 ⟨rfl,hb3⟩
  have hp3:=fun ob=>h.below (hb3.alloc hb3.size ob)
  have k3:=fun ob=>Kp.of_below (hb3.alloc hb3.size ob) (Nat.le_of_lt h.lt)
  have hz3:=hb3.size
  clear hb3
  go_wp2_with fail
  rw [HW.out]
  refine (s_constant hL ⟨#[63]⟩ 2 _ (by decide) hlen (hp3 _)).mono ?_
  rintro e w4 ⟨rfl,hp4,k4⟩
  go_wp2_with fail
  go_ret
  exact ⟨ret_int (by rw [HB2.out]),by rw [← HB2.out]; exact hp4,(k3 _).trans k4⟩
 have HB2:Hid (((σ.setp (σ.p.takeName L 4)).node ⟨3,nameIx L σ.p,0,0⟩,(σ.nds.length:Int)) = r):=by show _ = _; have h:=HB.out; unfold plainQ at h; rw [if_neg e0,if_neg e1,if_neg e2,if_neg e3] at h; exact Option.some.inj h
 have z0:((σ.p.ahead L 0).t.toList == [40]) = false:=lit_ne e0 (by rw [bl])
 have z1:((σ.p.ahead L 0).t.toList == [116,114,117,101]) = false:=lit_ne e1 (by rw [bl])
 have z2:((σ.p.ahead L 0).t.toList == [102,97,108,115,101]) = false:=lit_ne e2 (by rw [bl])
 have z3:((σ.p.ahead L 0).t.toList == [63]) = false:=lit_ne e3 (by rw [bl])
 have hlen:σ.nds.length + 1 ≤ 9000:=by
  have:=hend
  rw [← HB2.out] at this
  have this:((σ.setp (σ.p.takeName L 4)).node ⟨3,nameIx L σ.p,0,0⟩).nds.length ≤ 9000:=this
  rw [node_len] at this
  exact this
 clear e0 e1 e2 e3
 go_enter Tryz.func236,Tryz.ntmps236
 go_wp2_with fail
 refine (s_ahead 0 _ hL (by omega) h).mono ?_
 rintro e w3 ⟨rfl,hb3⟩
 have hp3:=fun ob=>h.below (hb3.alloc hb3.size ob)
 have k3:=fun ob=>Kp.of_below (hb3.alloc hb3.size ob) (Nat.le_of_lt h.lt)
 have hz3:=hb3.size
 clear hb3
 go_wp2_with fail
 refine (s_takeName 4 _ hL (hp3 _)).mono ?_
 rintro e w4 ⟨rfl,hp4,k4⟩
 go_wp2_with fail
 refine (s_addNode ⟨3,nameIx L σ.p,0,0⟩ _ (by show σ.nds.length ≤ 9000; omega) hp4).mono ?_
 rintro e w5 ⟨rfl,hp5,k5⟩
 go_wp2_with fail
 go_ret
 exact ⟨ret_int (by rw [← HB2.out]; rfl),by rw [← HB2.out]; exact hp5,((k3 _).trans k4).trans k5⟩
end Go.Proofs.YtmfcpbhdggonfaaGreatDoor
namespace Go.Proofs.YtmfcpbhdggonfaaGreatDoor
open Go.RowKit RR
set_option maxRecDepth 100000 in
set_option maxHeartbeats 2000000 in
theorem s_factor {B:Nat} {ao:Option Addr} {cap:Nat} {L:List Tk} {U:Nat} (hL:L.length ≤ 500) (f:Nat) (ih:Hid (SaidBrack B ao cap L U f)):SaidFactor B ao cap L U (f + 1):=by
 intro σ r vS w h hrun hend
 rw [factorQ_succ] at hrun
 obtain ⟨a,h1,h2⟩:=bindS hrun
 obtain ⟨q,h3,h4⟩:=Option.map_eq_some_iff.1 h2
 have H1:=hide h1
 have H3:=hide h3
 have H4:=hide h4
 have HL:Hid (q.1.nds.length + a.2 ≤ 9000):=by
  show _ ≤ _
  have:=(xg_addNots a.2 q.1 q.2).2.2
  rw [h4] at this
  omega
 clear hrun h1 h2 h3 h4
 go_enter Tryz.func235,Tryz.ntmps235
 go_wp2_with fail
 go_loopg [3] f (fun g v3 wr=>∃ (τ:QSt) (n:Nat),v3 = .int .i64 n∧n ≤ τ.p.next∧notsQ L g τ n = some a∧PS B ao cap L U τ vS wr∧Kp B w wr)
 case atStart=>exact ⟨σ,0,rfl,Nat.zero_le _,H1.out,h,Kp.refl _ _⟩
 case round =>
  obtain ⟨τ,n,rfl,hn,hl,hp,kp⟩:=hrel
  have hle:=hp.le
  cases gk with
  | zero=>rw [notsQ] at hl; cases hl
  | succ g =>
   rw [notsQ] at hl
   cases hs:τ.p.sees L ⟨#[33]⟩
   ·rw [hs] at hl
    have hl2:a = (τ,n):=(Option.some.inj hl).symm
    subst hl2
    clear hl H1
    have H3':Hid (plainQ L (bracketedQ L f) τ = some q):=H3.out
    have H4':Hid (addNots n q.1 q.2 = r):=H4.out
    have hln:q.1.nds.length + n ≤ 9000:=HL.out
    clear H3 H4 HL
    go_wp2_with fail
    refine (s_accept ⟨#[33]⟩ _ hL (by decide) hp).mono ?_
    rintro e w2 ⟨rfl,hp2,k2⟩
    rw [hs] at hp2 ⊢
    go_wp2_with fail
    refine (s_plain hL f ih τ q vS _ hp2 H3'.out (by omega)).mono ?_
    rintro e w3 ⟨rfl,hp3,k3⟩
    go_wp2_with fail
    go_loopw [4,5] (fun v4 u wr=>∃ (k:Nat) (υ:QSt) (x:Int),v4 = .int .i64 x∧u = .int .i64 k∧k ≤ n∧addNots (n - k) υ x = r∧PS B ao cap L U υ vS wr∧Kp B w wr) (fun _ u _=>n - (intOf u).toNat)
    case atStart=>exact ⟨0,q.1,q.2,rfl,rfl,Nat.zero_le _,H4'.out,hp3,(kp.trans k2).trans k3⟩
    case round =>
     obtain ⟨k,υ,x,rfl,rfl,hk,ha,hpu,kpu⟩:=hrel
     by_cases hkn:k < n
     ·obtain ⟨m,hm⟩:∃ m,n - k = m + 1:=⟨n - k - 1,by omega⟩
      have hlu:υ.nds.length ≤ 9000:=by
       have:=(xg_addNots (n - k) υ x).2.2
       rw [ha] at this
       omega
      rw [hm,addNots] at ha
      have HA:=hide ha
      clear ha
      go_wp2_with fail
      refine (s_addNode ⟨4,-1,0,x⟩ _ hlu hpu).mono ?_
      rintro e w4 ⟨rfl,hp4,k4⟩
      go_wp2_with fail
      go_roundw
      case rel=>exact ⟨k + 1,_,_,rfl,by go_num,by omega,by rw [show n - (k + 1) = m by omega]; exact HA.out,hp4,kpu.trans k4⟩
      case measure=>simp [intOf]; omega
     ·have hk2:n - k = 0:=by omega
      rw [hk2,addNots] at ha
      have HA:=hide ha
      clear ha
      go_wp2_with fail
      go_ret
      exact ⟨ret_int (by rw [← HA.out]),by rw [← HA.out]; exact hpu,kpu⟩
   ·rw [hs] at hl
    have HA:Hid (notsQ L g (τ.setp τ.p.step) (n + 1) = some a):=hl
    clear hl
    go_wp2_with fail
    refine (s_accept ⟨#[33]⟩ _ hL (by decide) hp).mono ?_
    rintro e w2 ⟨rfl,hp2,k2⟩
    rw [hs] at hp2 ⊢
    go_wp2_with fail
    go_roundg g
    case measure=>omega
    case rel=>exact ⟨τ.setp τ.p.step,n + 1,by go_num,by show n + 1 ≤ τ.p.next + 1; omega,HA.out,hp2,kp.trans k2⟩
theorem s_exprs {B:Nat} {ao:Option Addr} {cap:Nat} {L:List Tk} {U:Nat} (hL:L.length ≤ 500):∀ f,(∀ g,g ≤ f→SaidExpr B ao cap L U g)∧(∀ g,g ≤ f→SaidTerm B ao cap L U g)∧(∀ g,g ≤ f→SaidFactor B ao cap L U g)∧(∀ g,g ≤ f→SaidBrack B ao cap L U g):=by
 intro f
 induction f with
 | zero =>
  refine ⟨fun g hg=>?_,fun g hg=>?_,fun g hg=>?_,fun g hg=>?_⟩ <;> (have:g = 0:=by omega) <;> subst this <;> intro σ r vS w h hrun
  ·rw [exprQ_zero] at hrun; cases hrun
  ·rw [termQ_zero] at hrun; cases hrun
  ·rw [factorQ_zero] at hrun; cases hrun
  ·rw [bracketedQ_zero] at hrun; cases hrun
 | succ f ih =>
  obtain ⟨i1,i2,i3,i4⟩:=ih
  refine ⟨fun g hg=>?_,fun g hg=>?_,fun g hg=>?_,fun g hg=>?_⟩
  ·by_cases e:g = f + 1
   ·subst e; exact s_expr hL f (hide i2)
   ·exact i1 g (by omega)
  ·by_cases e:g = f + 1
   ·subst e; exact s_term hL f (hide i3)
   ·exact i2 g (by omega)
  ·by_cases e:g = f + 1
   ·subst e; exact s_factor hL f (hide (i4 f (Nat.le_refl _)))
   ·exact i3 g (by omega)
  ·by_cases e:g = f + 1
   ·subst e; exact s_brack hL f (hide (i1 f (Nat.le_refl _)))
   ·exact i4 g (by omega)
theorem s_exprF {B:Nat} {ao:Option Addr} {cap:Nat} {L:List Tk} {U:Nat} (hL:L.length ≤ 500) (f:Nat):SaidExpr B ao cap L U f:=(s_exprs hL f).1 f (Nat.le_refl _)
end Go.Proofs.YtmfcpbhdggonfaaGreatDoor
namespace Go.Proofs.YtmfcpbhdggonfaaGreatDoor
open Go.RowKit RR
structure BP (B:Nat) (ao:Option Addr) (cap:Nat) (L:List Tk) (U:Nat) (σ:QSt) (vS:Value) (S:Nat) (s:Stm) (vV:Value) (w:World):Prop where
 ps:PS B ao cap L U σ vS w
 bx:BX S s vV w
 U:U ≤ S
 B:B < S
 vS:vS.ownBlock ≠ some S
theorem BP.kp {B:Nat} {ao:Option Addr} {cap:Nat} {L:List Tk} {U:Nat} {σ τ:QSt} {vS:Value} {S:Nat} {s:Stm} {vV:Value} {w w':World} (h:BP B ao cap L U σ vS S s vV w) (hp:PS B ao cap L U τ vS w') (k:Kp B w w'):BP B ao cap L U τ vS S s vV w':=⟨hp,h.bx.kp k,h.U,h.B,h.vS⟩
theorem BP.fs {B:Nat} {ao:Option Addr} {cap:Nat} {L:List Tk} {U:Nat} {σ:QSt} {vS:Value} {S:Nat} {s s':Stm} {vV vV':Value} {w w':World} (h:BP B ao cap L U σ vS S s vV w) (hf:FS S vV w w') (hx:BX S s' vV' w'):BP B ao cap L U σ vS S s' vV' w':=⟨ps_fs h.ps h.bx hf h.U h.B h.vS,hx,h.U,h.B,h.vS⟩
theorem BP.below {B:Nat} {ao:Option Addr} {cap:Nat} {L:List Tk} {U:Nat} {σ:QSt} {vS:Value} {S:Nat} {s:Stm} {vV:Value} {w w':World} (h:BP B ao cap L U σ vS S s vV w) (hb:Below w.heap.size w w'):BP B ao cap L U σ vS S s vV w':=⟨h.ps.below hb,h.bx.below hb,h.U,h.B,h.vS⟩
set_option maxRecDepth 100000 in
set_option maxHeartbeats 16000000 in
theorem s_value {B:Nat} {ao:Option Addr} {cap:Nat} {L:List Tk} {U:Nat} (hL:L.length ≤ 500) (f:Nat) {σ:QSt} {vS:Value} {S:Nat} {s:Stm} {vV:Value} (r:QSt × List (Int × Int)) (w:World) (h:BP B ao cap L U σ vS S s vV w) (hrun:valueQ L f σ s.vals = some r) (hend:r.1.nds.length ≤ 9000) (hlen:s.vals.length ≤ 1000) :
    Calls Tryz.prog 227 #[.pointer (some ⟨B,0,none⟩),.pointer (some ⟨S,0,none⟩)] w fun e w'=>e = .returned (.tuple #[])∧∃ vV',BP B ao cap L U r.1 vS S { s with vals:=r.2 } vV' w'∧KpS B S vV w vV' w':=by
 unfold valueQ at hrun
 obtain ⟨a,h1,h2⟩:=Option.map_eq_some_iff.1 hrun
 have hae:a.1.nds.length ≤ 9000:=by rw [← h2] at hend; exact hend
 have HR:Hid (r = (a.1,s.vals ++ [((σ.nds.length:Int),a.2)])):=h2.symm
 have H1:=hide h1
 have hnl:σ.nds.length ≤ 9000:=Nat.le_trans ((xg_exprs L f).1 _ _ h1).mono hae
 clear hrun h1 h2 hend
 obtain ⟨vN,vC,vD,hq⟩:=h.ps
 have hlt:=hq.lt
 obtain ⟨c0,c1,c2,c3,c4,c5,c6,c7,c8,hf⟩:=hq.cells
 have hnd:∃ na nc,vD = .slice na σ.nds.length nc:=by
  rcases hq.nd.2 with ⟨e1,e2⟩ | ⟨g,cp,cur,e1,_⟩
  ·exact ⟨none,0,by rw [e1,e2]⟩
  ·exact ⟨_,_,e1⟩
 obtain ⟨na,nc,hvD⟩:=hnd
 rw [hvD] at c8
 clear hf
 go_enter Tryz.func227,Tryz.ntmps227
 go_wp2_with fail
 refine ((s_exprF hL f) σ a vS _ h.ps H1.out hae).mono ?_
 rintro e w1 ⟨rfl,hp1,k1⟩
 have hb:=h.kp hp1 k1
 obtain ⟨d0,d1,d2,d3,d4,d5,d6,d7,hdf⟩:=hb.bx.cells
 have f7:=hdf 7
 clear hdf c0 c1 c2 c3 c4 c5 c6 c7 c8
 go_wp2_with (at_builtin; refine app_ex (σ.nds.length:Int) a.2 hb.bx hlen rfl _ _ rfl rfl rfl rfl ?_; intro g cap' w3 ha; have k7:w3.cell? ⟨S,7,none⟩ = some vV:=(World.cell?_of_block (w:=w1) ha.blk).trans d7; have kf:w3.frozen? ⟨S,7,none⟩ = false:=(World.frozen?_of_block (w:=w1) ha.blk).trans f7)
 have hfin:=bx_fin hb.bx ha
 have hbp:=hb.fs hfin.2 hfin.1
 have hks:=(k1.s S vV).trans (hfin.2.kps (Nat.le_of_lt hb.B) ha.own)
 go_end0
 exact ⟨rfl,_,by rw [HR.out]; exact hbp,hks⟩
end Go.Proofs.YtmfcpbhdggonfaaGreatDoor
namespace Go.Proofs.YtmfcpbhdggonfaaGreatDoor
open Go.RowKit RR
set_option maxRecDepth 100000 in
set_option maxHeartbeats 2000000 in
theorem s_values {B:Nat} {ao:Option Addr} {cap:Nat} {L:List Tk} {U:Nat} (hL:L.length ≤ 500) (f:Nat) {σ:QSt} {vS:Value} {S:Nat} {s:Stm} {vV:Value} (r:QSt × List (Int × Int)) (w:World) (h:BP B ao cap L U σ vS S s vV w) (hrun:(valueQ L f σ s.vals).bind (fun q=>valuesQ L f q.1 q.2) = some r) (hend:r.1.nds.length ≤ 9000) (hlen:s.vals.length ≤ σ.p.next) :
    Calls Tryz.prog 232 #[.pointer (some ⟨B,0,none⟩),.pointer (some ⟨S,0,none⟩)] w fun e w'=>e = .returned (.tuple #[])∧∃ vV',BP B ao cap L U r.1 vS S { s with vals:=r.2 } vV' w'∧KpS B S vV w vV' w':=by
 obtain ⟨a,h1,h2⟩:=bindS hrun
 have hae:a.1.nds.length ≤ 9000:=Nat.le_trans (xg_values L f _ _ _ h2).mono hend
 have hle:=h.ps.le
 have hvl:a.2.length ≤ a.1.p.next + 1:=by
  have:=value_len h1
  have:=(xg_value h1).nx.1
  omega
 have H1:=hide h1
 have H2:=hide h2
 clear hrun h1 h2
 go_enter Tryz.func232,Tryz.ntmps232
 go_wp2_with fail
 refine (s_value hL f a _ h H1.out hae (by omega)).mono ?_
 rintro e w1 ⟨rfl,vV1,hb1,k1⟩
 go_wp2_with fail
 go_loopg [] f (fun g wr=>∃ (τ:QSt) (v:List (Int × Int)) (vV2:Value),g ≤ f∧valuesQ L g τ v = some r∧v.length ≤ τ.p.next + 1∧BP B ao cap L U τ vS S { s with vals:=v } vV2 wr∧KpS B S vV w vV2 wr)
 case atStart=>exact ⟨a.1,a.2,vV1,Nat.le_refl _,H2.out,hvl,hb1,k1⟩
 case round =>
  obtain ⟨τ,v,vV2,hg,hl,hv,hb,kb⟩:=hrel
  have hle2:=hb.ps.le
  cases gk with
  | zero=>rw [valuesQ] at hl; cases hl
  | succ g =>
   rw [valuesQ] at hl
   cases hs:τ.p.sees L ⟨#[44]⟩
   ·rw [hs] at hl
    have HL:Hid ((τ,v) = r):=Option.some.inj hl
    clear hl
    go_wp2_with fail
    refine (s_accept ⟨#[44]⟩ _ hL (by decide) hb.ps).mono ?_
    rintro e w2 ⟨rfl,hp2,k2⟩
    rw [hs] at hp2 ⊢
    go_wp2_with fail
    go_end0
    exact ⟨rfl,vV2,by rw [← HL.out]; exact hb.kp hp2 k2,kb.trans (k2.s S vV2)⟩
   ·rw [hs] at hl
    obtain ⟨b,h1,h2⟩:=bindS hl
    have hbe:b.1.nds.length ≤ 9000:=Nat.le_trans (xg_values L g _ _ _ h2).mono hend
    have hbl:b.2.length ≤ b.1.p.next + 1:=by
     have:=value_len h1
     have:=(xg_value h1).nx.1
     have e:(τ.setp τ.p.step).p.next = τ.p.next + 1:=rfl
     omega
    have HA:=hide h1
    have HB:=hide h2
    clear hl h1 h2
    go_wp2_with fail
    refine (s_accept ⟨#[44]⟩ _ hL (by decide) hb.ps).mono ?_
    rintro e w2 ⟨rfl,hp2,k2⟩
    rw [hs] at hp2 ⊢
    go_wp2_with fail
    refine (s_value hL g b _ (hb.kp hp2 k2) HA.out hbe (by show v.length ≤ 1000; omega)).mono ?_
    rintro e w3 ⟨rfl,vV3,hb3,k3⟩
    go_wp2_with fail
    go_roundg g
    case measure=>omega
    case rel=>exact ⟨b.1,b.2,vV3,by omega,HB.out,hbl,hb3,(kb.trans (k2.s S vV2)).trans k3⟩
set_option maxRecDepth 100000 in
set_option maxHeartbeats 1000000 in
theorem s_condition {B:Nat} {ao:Option Addr} {cap:Nat} {L:List Tk} {U:Nat} (hL:L.length ≤ 500) (f:Nat) {σ:QSt} {vS:Value} {S:Nat} {s:Stm} {vV:Value} (r:QSt × List (Int × Int)) (w:World) (h:BP B ao cap L U σ vS S s vV w) (hrun:condQ L f σ s.vals = some r) (hend:r.1.nds.length ≤ 9000) (hlen:s.vals.length ≤ 1000) :
    Calls Tryz.prog 226 #[.pointer (some ⟨B,0,none⟩),.pointer (some ⟨S,0,none⟩)] w fun e w'=>e = .returned (.tuple #[])∧∃ vV',BP B ao cap L U r.1 vS S { s with vals:=r.2 } vV' w'∧KpS B S vV w vV' w':=by
 cases f with
 | zero=>rw [condQ] at hrun; cases hrun
 | succ f =>
  rw [condQ] at hrun
  obtain ⟨a,h1,h2⟩:=Option.map_eq_some_iff.1 hrun
  have hae:a.1.nds.length ≤ 9000:=by rw [← h2] at hend; exact hend
  have HR:=hide h2
  have H1:=hide h1
  clear hrun h1 h2
  go_enter Tryz.func226,Tryz.ntmps226
  go_wp2_with fail
  refine (s_enter ⟨#[40]⟩ _ hL (by decide) h.ps).mono ?_
  rintro e w1 ⟨rfl,hp1,k1⟩
  go_wp2_with fail
  refine (s_value hL f a _ (h.kp hp1 k1) H1.out hae hlen).mono ?_
  rintro e w2 ⟨rfl,vV2,hb2,k2⟩
  go_wp2_with fail
  refine (s_leave ⟨#[41]⟩ _ hL (by decide) hb2.ps).mono ?_
  rintro e w3 ⟨rfl,hp3,k3⟩
  go_wp2_with fail
  go_end0
  exact ⟨rfl,vV2,by rw [← HR.out]; exact hb2.kp hp3 k3,((k1.s S vV).trans k2).trans (k3.s S vV2)⟩
end Go.Proofs.YtmfcpbhdggonfaaGreatDoor
