/- Contracts of the program's parser: statements without blocks. -/
import Derived.Test.YtmfcpbhdggonfaaGreatDoorMjBL
import Derived.Test.YtmfcpbhdggonfaaGreatDoorMjBM
import Derived.Test.YtmfcpbhdggonfaaGreatDoorMjAF
namespace Go.Proofs.YtmfcpbhdggonfaaGreatDoor
open Go.RowKit RR
theorem bx_slice {S:Nat} {s:Stm} {vV:Value} {w:World} (h:BX S s vV w):∃ a c,vV = .slice a s.vals.length c:=by
 rcases h.row.2 with ⟨e1,e2⟩ | ⟨g,cp,cur,e1,_⟩
 ·exact ⟨none,0,by rw [e1,e2]⟩
 ·exact ⟨_,_,e1⟩
theorem owns_zero {w:World} {base:Nat} {e:TypeId} {size:Nat} {v:Value} {n:Nat} {xs:List Value} (h:w.ownsRow base e size v n xs):w.ownsRow 0 e size v n xs:=by
 refine ⟨h.1,?_⟩
 rcases h.2 with hc | ⟨g,cp,cur,hv,_,r⟩
 ·exact .inl hc
 ·exact .inr ⟨g,cp,cur,hv,Nat.zero_le _,r⟩
def stv (s:Stm) (v:Value):Value:=.agg #[.int .i64 s.kind,.int .i64 s.at_,.int .i64 s.blk.proc,.int .i64 s.blk.owner,.bool s.blk.els,.int .i64 s.target,.int .i64 s.name,v]
theorem bp_new {B:Nat} {ao:Option Addr} {cap:Nat} {L:List Tk} {U:Nat} {σ:QSt} {vS:Value} {w:World} (h:PS B ao cap L U σ vS w) (s:Stm) (hs:s.vals = []) :
    BP B ao cap L w.heap.size σ vS w.heap.size s (.slice none 0 0) (w.alloc (.cells #[.int .i64 s.kind,.int .i64 s.at_,.int .i64 s.blk.proc,.int .i64 s.blk.owner,.bool s.blk.els,.int .i64 s.target,.int .i64 s.name,.slice none 0 0] 202)):=by
 have hb:Below w.heap.size w (w.alloc (.cells #[.int .i64 s.kind,.int .i64 s.at_,.int .i64 s.blk.proc,.int .i64 s.blk.owner,.bool s.blk.els,.int .i64 s.target,.int .i64 s.name,.slice none 0 0] 202)):=(Below.refl _ _).alloc (Nat.le_refl _) _
 refine ⟨h.fresh.below hb,⟨heap_alloc_new w _,?_⟩,Nat.le_refl _,h.lt,fun e=>?_⟩
 ·rw [hs]; exact World.ownsRow_nil _ _ _ _
 ·obtain ⟨vN,vC,vD,hx⟩:=h
  obtain ⟨l,_,o,_⟩:=hx.st
  have:=(o.lt _ e).2
  omega
theorem kps_new {B:Nat} {w w':World} {o:Obj} {vS vV':Value} (k:KpS B w.heap.size (.slice none 0 0) (w.alloc o) vV' w') (hB:B ≤ w.heap.size):Kp1 B vS w vS w':=by
 refine ⟨((Below.refl _ _).alloc hB _).trans k.bel,fun n c T f h0 h1 h2 h3 h4 _=>?_,.inl rfl⟩
 have hn:=(Array.getElem?_eq_some_iff.1 h0).1
 exact k.keep n c T f ((Below.heap_alloc w o n hn).trans h0) h1 h2 h3 h4 (by omega) (by simp [Value.ownBlock])
def StOut (B:Nat) (ao:Option Addr) (cap:Nat) (L:List Tk) (τ:QSt) (vS:Value) (w:World) (w':World):Prop:=∃ U' vS',PS B ao cap L U' τ vS' w'∧Kp1 B vS w vS' w'
theorem add_end {B:Nat} {ao:Option Addr} {cap:Nat} {L:List Tk} {U:Nat} {σ:QSt} {vS:Value} {S:Nat} {s:Stm} {vV:Value} {w0 w:World} (h:BP B ao cap L U σ vS S s vV w) (hn:σ.sts.length ≤ 9000) (k:Kp1 B vS w0 vS w) :
    ∃ va vc,vV = .slice va s.vals.length vc∧Calls Tryz.prog 206 #[.pointer (some ⟨B,0,none⟩),stv s (.slice va s.vals.length vc)] w fun e w'=>e = .returned (.int .i64 σ.sts.length)∧StOut B ao cap L (σ.add s) vS w0 w':=by
 obtain ⟨va,vc,hv⟩:=bx_slice h.bx
 refine ⟨va,vc,hv,?_⟩
 have hrow:=owns_zero h.bx.row
 rw [hv] at hrow
 have hU:U ≤ w.heap.size:=by have:=h.U; have:=h.bx.lt; omega
 refine (s_add s va s.vals.length vc w hn h.ps hrow hU (fun g hg=>(hrow.lt g hg).2)).mono ?_
 rintro e w' ⟨rfl,vS',hp,k1⟩
 exact ⟨rfl,_,vS',hp,k.trans k1⟩
theorem add_end0 {B:Nat} {ao:Option Addr} {cap:Nat} {L:List Tk} {U:Nat} {σ:QSt} {vS:Value} {S:Nat} {s:Stm} {w0 w:World} (h:BP B ao cap L U σ vS S s (.slice none 0 0) w) (hs:s.vals = []) (hn:σ.sts.length ≤ 9000) (k:Kp1 B vS w0 vS w) :
    Calls Tryz.prog 206 #[.pointer (some ⟨B,0,none⟩),stv s (.slice none 0 0)] w fun e w'=>e = .returned (.int .i64 σ.sts.length)∧StOut B ao cap L (σ.add s) vS w0 w':=by
 have hrow:w.ownsRow 0 248 2 (.slice none 0 0) s.vals.length (exc s.vals):=by rw [hs]; exact World.ownsRow_nil _ _ _ _
 have hU:U ≤ w.heap.size:=by have:=h.U; have:=h.bx.lt; omega
 refine (s_add s none 0 0 w hn h.ps hrow hU (fun g hg=>(hrow.lt g hg).2)).mono ?_
 rintro e w' ⟨rfl,vS',hp,k1⟩
 exact ⟨rfl,_,vS',hp,k.trans k1⟩
set_option maxRecDepth 100000 in
set_option maxHeartbeats 1000000 in
theorem s_assume {B:Nat} {ao:Option Addr} {cap:Nat} {L:List Tk} {U:Nat} (hL:L.length ≤ 500) (f:Nat) {σ τ:QSt} {vS:Value} (s:Stm) (w:World) (h:PS B ao cap L U σ vS w) (hs0:s.vals = []) (hrun:assumeQ L f σ s = some τ) (hend:τ.nds.length ≤ 9000∧τ.sts.length ≤ 9000) :
    Calls Tryz.prog 221 #[.pointer (some ⟨B,0,none⟩),stv s (.slice none 0 0)] w fun e w'=>e = .returned (.tuple #[])∧StOut B ao cap L τ vS w w':=by
 unfold assumeQ at hrun
 obtain ⟨a,h1,h2⟩:=Option.map_eq_some_iff.1 hrun
 have hae:a.1.nds.length ≤ 9000:=by rw [← h2] at hend; exact hend.1
 have hst:a.1.sts.length ≤ 9000:=by have e:τ.sts.length = a.1.sts.length + 1:=by rw [← h2]; show (_ ++ [_]).length = _; rw [List.length_append]; rfl
                                    omega
 have HR:=hide h2
 have H1:=hide h1
 clear hrun h1 h2
 have hbp:=bp_new h s hs0
 have hlt:=h.lt
 unfold stv
 go_enter Tryz.func221,Tryz.ntmps221
 go_wp2_with fail
 refine (s_take ⟨#[97,115,115,117,109,101]⟩ _ hL (by decide) hbp.ps).mono ?_
 rintro e w1 ⟨rfl,hp1,k1⟩
 have hb1:=hbp.kp hp1 k1
 have ks1:=k1.s w.heap.size (.slice none 0 0)
 obtain ⟨d0,d1,d2,d3,d4,d5,d6,d7,hdf⟩:=hb1.bx.cells
 have f0:=hdf 0
 have hset:=bx_set (s':={ s with kind:=4 }) hb1.bx 0 (.int .i64 4) rfl rfl
 have hb2:=hb1.fs hset.2 hset.1
 have ks2:=ks1.trans (hset.2.kps (vV':=.slice none 0 0) (Nat.le_of_lt hb1.B) (.inl rfl))
 clear hdf hset hb1 ks1 k1 hp1 hbp
 go_wp2_with fail
 have H1':valueQ L f (σ.setp (σ.p.take L ⟨#[97,115,115,117,109,101]⟩)) ({ s with kind:=4 }:Stm).vals = some a:=H1.out
 refine (s_value hL f a _ hb2 H1' hae (by show s.vals.length ≤ 1000; rw [hs0]; simp)).mono ?_
 rintro e w3 ⟨rfl,vV3,hb3,k3⟩
 have ks3:=ks2.trans k3
 clear d0 d1 d2 d3 d4 d5 d6 d7 f0 hb2 ks2 k3
 go_wp2_with fail
 refine (s_take ⟨#[59]⟩ _ hL (by decide) hb3.ps).mono ?_
 rintro e w4 ⟨rfl,hp4,k4⟩
 have hb4:=hb3.kp hp4 k4
 have ks4:=ks3.trans (k4.s _ vV3)
 obtain ⟨va,vc,hv,hadd⟩:=add_end hb4 (by show a.1.sts.length ≤ 9000; exact hst) (kps_new (vS:=vS) ks4 (Nat.le_of_lt hlt))
 obtain ⟨d0,d1,d2,d3,d4,d5,d6,d7,hdf⟩:=hb4.bx.cells
 rw [hv] at d7
 have HADD:=hide hadd
 unfold stv at HADD
 clear hdf hb3 hp4 k4 ks3 ks4 hadd
 go_wp2_with fail
 refine HADD.out.mono ?_
 rintro e w5 ⟨rfl,hout⟩
 go_wp2_with fail
 go_end0
 exact ⟨rfl,by rw [← HR.out]; exact hout⟩
set_option maxRecDepth 100000 in
set_option maxHeartbeats 1000000 in
theorem s_skip {B:Nat} {ao:Option Addr} {cap:Nat} {L:List Tk} {U:Nat} (hL:L.length ≤ 500) {σ:QSt} {vS:Value} (s:Stm) (w:World) (h:PS B ao cap L U σ vS w) (hs0:s.vals = []) (hend:σ.sts.length ≤ 9000) :
    Calls Tryz.prog 224 #[.pointer (some ⟨B,0,none⟩),stv s (.slice none 0 0)] w fun e w'=>e = .returned (.tuple #[])∧StOut B ao cap L (skipQ L σ s) vS w w':=by
 have hbp:=bp_new h s hs0
 have hlt:=h.lt
 have HR:Hid (skipQ L σ s = ((σ.setp (σ.p.take L ⟨#[115,107,105,112]⟩)).setp ((σ.setp (σ.p.take L ⟨#[115,107,105,112]⟩)).p.take L ⟨#[59]⟩)).add { s with kind:=8 }):=rfl
 unfold stv
 go_enter Tryz.func224,Tryz.ntmps224
 go_wp2_with fail
 refine (s_take ⟨#[115,107,105,112]⟩ _ hL (by decide) hbp.ps).mono ?_
 rintro e w1 ⟨rfl,hp1,k1⟩
 have hb1:=hbp.kp hp1 k1
 have ks1:=k1.s w.heap.size (.slice none 0 0)
 obtain ⟨d0,d1,d2,d3,d4,d5,d6,d7,hdf⟩:=hb1.bx.cells
 have f0:=hdf 0
 have hset:=bx_set (s':={ s with kind:=8 }) hb1.bx 0 (.int .i64 8) rfl rfl
 have hb2:=hb1.fs hset.2 hset.1
 have ks2:=ks1.trans (hset.2.kps (vV':=.slice none 0 0) (Nat.le_of_lt hb1.B) (.inl rfl))
 clear hdf hset hb1 ks1 k1 hp1 hbp
 go_wp2_with fail
 refine (s_take ⟨#[59]⟩ _ hL (by decide) hb2.ps).mono ?_
 rintro e w4 ⟨rfl,hp4,k4⟩
 have hb4:=hb2.kp hp4 k4
 have ks4:=ks2.trans (k4.s _ (.slice none 0 0))
 clear d0 d1 d2 d3 d4 d5 d6 d7 f0 hb2 ks2 hp4 k4
 have hadd:=add_end0 hb4 hs0 (by exact hend) (kps_new (vS:=vS) ks4 (Nat.le_of_lt hlt))
 obtain ⟨d0,d1,d2,d3,d4,d5,d6,d7,hdf⟩:=hb4.bx.cells
 have HADD:=hide hadd
 unfold stv at HADD
 clear hdf hadd
 go_wp2_with fail
 refine HADD.out.mono ?_
 rintro e w9 ⟨rfl,hout⟩
 go_wp2_with fail
 go_end0
 exact ⟨rfl,by rw [HR.out]; exact hout⟩
set_option maxRecDepth 100000 in
set_option maxHeartbeats 1000000 in
theorem s_lockUse {B:Nat} {ao:Option Addr} {cap:Nat} {L:List Tk} {U:Nat} (hL:L.length ≤ 500) {σ:QSt} {vS:Value} (s:Stm) (t:ByteArray) (w:World) (ht:t ≠ ⟨#[]⟩) (h:PS B ao cap L U σ vS w) (hs0:s.vals = []) (hend:σ.sts.length ≤ 9000) :
    Calls Tryz.prog 222 #[.pointer (some ⟨B,0,none⟩),stv s (.slice none 0 0),.string t] w fun e w'=>e = .returned (.tuple #[])∧StOut B ao cap L (lockUseQ L σ s t) vS w w':=by
 have hbp:=bp_new h s hs0
 have hlt:=h.lt
 have HR:Hid (lockUseQ L σ s t = (((σ.setp (σ.p.take L t)).setp ((σ.setp (σ.p.take L t)).p.takeName L 5)).setp (((σ.setp (σ.p.take L t)).setp ((σ.setp (σ.p.take L t)).p.takeName L 5)).p.take L ⟨#[59]⟩)).add { s with name:=nameIx L (σ.p.take L t) }):=rfl
 unfold stv
 go_enter Tryz.func222,Tryz.ntmps222
 go_wp2_with fail
 refine (s_take t _ hL ht hbp.ps).mono ?_
 rintro e w1 ⟨rfl,hp1,k1⟩
 have hb1:=hbp.kp hp1 k1
 have ks1:=k1.s w.heap.size (.slice none 0 0)
 clear k1 hp1 hbp
 go_wp2_with fail
 refine (s_takeName 5 _ hL hb1.ps).mono ?_
 rintro e w2 ⟨rfl,hp2,k2⟩
 have hb2:=hb1.kp hp2 k2
 have ks2:=ks1.trans (k2.s _ (.slice none 0 0))
 clear k2 hp2 hb1 ks1
 obtain ⟨d0,d1,d2,d3,d4,d5,d6,d7,hdf⟩:=hb2.bx.cells
 have f6:=hdf 6
 have hset:=bx_set (s':={ s with name:=nameIx L (σ.p.take L t) }) hb2.bx 6 (.int .i64 (nameIx L (σ.p.take L t))) rfl rfl
 have hb3:=hb2.fs hset.2 hset.1
 have ks3:=ks2.trans (hset.2.kps (vV':=.slice none 0 0) (Nat.le_of_lt hb2.B) (.inl rfl))
 clear hdf hset hb2 ks2
 go_wp2_with fail
 refine (s_take ⟨#[59]⟩ _ hL (by decide) hb3.ps).mono ?_
 rintro e w4 ⟨rfl,hp4,k4⟩
 have hb4:=hb3.kp hp4 k4
 have ks4:=ks3.trans (k4.s _ (.slice none 0 0))
 clear d0 d1 d2 d3 d4 d5 d6 d7 f6 hb3 ks3 hp4 k4
 have hadd:=add_end0 hb4 hs0 (by exact hend) (kps_new (vS:=vS) ks4 (Nat.le_of_lt hlt))
 obtain ⟨d0,d1,d2,d3,d4,d5,d6,d7,hdf⟩:=hb4.bx.cells
 have HADD:=hide hadd
 unfold stv at HADD
 clear hdf hadd
 go_wp2_with fail
 refine HADD.out.mono ?_
 rintro e w9 ⟨rfl,hout⟩
 go_wp2_with fail
 go_end0
 exact ⟨rfl,by rw [HR.out]; exact hout⟩
set_option maxRecDepth 100000 in
set_option maxHeartbeats 1000000 in
theorem s_giveBack {B:Nat} {ao:Option Addr} {cap:Nat} {L:List Tk} {U:Nat} (hL:L.length ≤ 500) (f:Nat) {σ τ:QSt} {vS:Value} (s:Stm) (w:World) (h:PS B ao cap L U σ vS w) (hs0:s.vals = []) (hrun:giveBackQ L f σ s = some τ) (hend:τ.nds.length ≤ 9000∧τ.sts.length ≤ 9000) :
    Calls Tryz.prog 223 #[.pointer (some ⟨B,0,none⟩),stv s (.slice none 0 0)] w fun e w'=>e = .returned (.tuple #[])∧StOut B ao cap L τ vS w w':=by
 unfold giveBackQ at hrun
 obtain ⟨a,h1,h2⟩:=Option.map_eq_some_iff.1 hrun
 have hae:a.1.nds.length ≤ 9000:=by rw [← h2] at hend; exact hend.1
 have hst:a.1.sts.length ≤ 9000:=by
  have e:τ.sts.length = a.1.sts.length + 1:=by rw [← h2]; show (_ ++ [_]).length = _; rw [List.length_append]; rfl
  omega
 have HR:=hide h2
 have H1:=hide h1
 clear hrun h1 h2
 have hbp:=bp_new h s hs0
 have hlt:=h.lt
 unfold stv
 go_enter Tryz.func223,Tryz.ntmps223
 go_wp2_with fail
 refine (s_take ⟨#[114,101,116,117,114,110]⟩ _ hL (by decide) hbp.ps).mono ?_
 rintro e w1 ⟨rfl,hp1,k1⟩
 have hb1:=hbp.kp hp1 k1
 have ks1:=k1.s w.heap.size (.slice none 0 0)
 obtain ⟨d0,d1,d2,d3,d4,d5,d6,d7,hdf⟩:=hb1.bx.cells
 have f0:=hdf 0
 have hset:=bx_set (s':={ s with kind:=7 }) hb1.bx 0 (.int .i64 7) rfl rfl
 have hb2:=hb1.fs hset.2 hset.1
 have ks2:=ks1.trans (hset.2.kps (vV':=.slice none 0 0) (Nat.le_of_lt hb1.B) (.inl rfl))
 clear hdf hset hb1 ks1 k1 hp1 hbp
 cases hs:(σ.p.take L ⟨#[114,101,116,117,114,110]⟩).sees L ⟨#[59]⟩
 ·have HV:Hid (valueQ L f (σ.setp (σ.p.take L ⟨#[114,101,116,117,114,110]⟩)) ({ s with kind:=7 }:Stm).vals = some a):=by show _ = _; have h:=H1.out; rw [hs] at h; exact h
  go_wp2_with fail
  refine (s_sees ⟨#[59]⟩ _ hL hb2.ps).mono ?_
  rintro e w2 ⟨rfl,hbs⟩
  have hs':(σ.setp (σ.p.take L ⟨#[114,101,116,117,114,110]⟩)).p.sees L ⟨#[59]⟩ = false:=hs
  rw [hs']
  have hb2b:=hb2.below hbs
  have ks2b:=ks2.trans ((Kp.of_below hbs (Nat.le_of_lt hb2.ps.lt)).s _ (.slice none 0 0))
  clear d0 d1 d2 d3 d4 d5 d6 d7 f0 hb2 ks2 hbs
  go_wp2_with fail
  refine (s_value hL f a _ hb2b HV.out hae (by show s.vals.length ≤ 1000; rw [hs0]; simp)).mono ?_
  rintro e w3 ⟨rfl,vV3,hb3,k3⟩
  have ks3:=ks2b.trans k3
  clear hb2b ks2b k3
  go_wp2_with fail
  refine (s_take ⟨#[59]⟩ _ hL (by decide) hb3.ps).mono ?_
  rintro e w4 ⟨rfl,hp4,k4⟩
  have hb4:=hb3.kp hp4 k4
  have ks4:=ks3.trans (k4.s _ vV3)
  clear hb3 hp4 k4 ks3
  obtain ⟨va,vc,hv,hadd⟩:=add_end hb4 (by exact hst) (kps_new (vS:=vS) ks4 (Nat.le_of_lt hlt))
  obtain ⟨d0,d1,d2,d3,d4,d5,d6,d7,hdf⟩:=hb4.bx.cells
  rw [hv] at d7
  have HADD:=hide hadd
  unfold stv at HADD
  clear hdf hadd
  go_wp2_with fail
  refine HADD.out.mono ?_
  rintro e w9 ⟨rfl,hout⟩
  go_wp2_with fail
  go_end0
  exact ⟨rfl,by rw [← HR.out]; exact hout⟩
 ·have HV:Hid ((σ.setp (σ.p.take L ⟨#[114,101,116,117,114,110]⟩),s.vals) = a):=by show _ = _; have h:=H1.out; rw [hs] at h; exact Option.some.inj h
  go_wp2_with fail
  refine (s_sees ⟨#[59]⟩ _ hL hb2.ps).mono ?_
  rintro e w2 ⟨rfl,hbs⟩
  have hs':(σ.setp (σ.p.take L ⟨#[114,101,116,117,114,110]⟩)).p.sees L ⟨#[59]⟩ = true:=hs
  rw [hs']
  have hb3:BP B ao cap L w.heap.size a.1 vS w.heap.size { s with kind:=7,vals:=a.2 } (.slice none 0 0) w2:=by rw [← HV.out]; exact hb2.below hbs
  have ks3:=ks2.trans ((Kp.of_below hbs (Nat.le_of_lt hb2.ps.lt)).s _ (.slice none 0 0))
  clear d0 d1 d2 d3 d4 d5 d6 d7 f0 hb2 ks2 hbs
  go_wp2_with fail
  refine (s_take ⟨#[59]⟩ _ hL (by decide) hb3.ps).mono ?_
  rintro e w4 ⟨rfl,hp4,k4⟩
  have hb4:=hb3.kp hp4 k4
  have ks4:=ks3.trans (k4.s _ (.slice none 0 0))
  clear hb3 hp4 k4 ks3
  obtain ⟨va,vc,hv,hadd⟩:=add_end hb4 (by exact hst) (kps_new (vS:=vS) ks4 (Nat.le_of_lt hlt))
  obtain ⟨d0,d1,d2,d3,d4,d5,d6,d7,hdf⟩:=hb4.bx.cells
  rw [hv] at d7
  have HADD:=hide hadd
  unfold stv at HADD
  clear hdf hadd
  go_wp2_with fail
  refine HADD.out.mono ?_
  rintro e w9 ⟨rfl,hout⟩
  go_wp2_with fail
  go_end0
  exact ⟨rfl,by rw [← HR.out]; exact hout⟩
end Go.Proofs.YtmfcpbhdggonfaaGreatDoor
/- Contracts of the program's parser: blocks. -/
namespace Go.Proofs.YtmfcpbhdggonfaaGreatDoor
open Go.RowKit RR
def blkv (b:Blk):Value:=.agg #[.int .i64 b.proc,.int .i64 b.owner,.bool b.els]
def Small (σ:QSt):Prop:=σ.nds.length ≤ 9000∧σ.sts.length ≤ 9000
theorem Small.sg {L:List Tk} {c d:Nat} {σ τ:QSt} (h:Small τ) (g:SG L c d σ τ):Small σ:=⟨Nat.le_trans g.mn h.1,Nat.le_trans g.ms h.2⟩
theorem Small.bg {L:List Tk} {σ τ:QSt} (h:Small τ) (g:BG L σ τ):Small σ:=h.sg g
def SaidBlock (B:Nat) (ao:Option Addr) (cap:Nat) (L:List Tk) (f:Nat):Prop:=∀ (σ:QSt) (b:Blk) (r:QSt × Nat) (U:Nat) (vS:Value) (w:World),PS B ao cap L U σ vS w→blockQ L f σ b = some r→Small r.1 →
    Calls Tryz.prog 205 #[.pointer (some ⟨B,0,none⟩),blkv b] w fun e w'=>e = .returned (.int .i64 r.2)∧StOut B ao cap L r.1 vS w w'
def SaidStmt (B:Nat) (ao:Option Addr) (cap:Nat) (L:List Tk) (f:Nat):Prop:=∀ (σ:QSt) (b:Blk) (r:QSt × Nat) (U:Nat) (vS:Value) (w:World),PS B ao cap L U σ vS w→statementQ L f σ b = some r→Small r.1 →
    Calls Tryz.prog 217 #[.pointer (some ⟨B,0,none⟩),blkv b] w fun e w'=>e = .returned (.tuple #[])∧StOut B ao cap L r.1 vS w w'
theorem Kp1.of_below {B:Nat} {vS:Value} {w w':World} (h:Below w.heap.size w w') (hB:B ≤ w.heap.size):Kp1 B vS w vS w':=(Kp.of_below h hB).one vS
theorem StOut.trans {B:Nat} {ao:Option Addr} {cap:Nat} {L:List Tk} {τ:QSt} {vS vS':Value} {w w1 w':World} (k:Kp1 B vS w vS' w1) (h:StOut B ao cap L τ vS' w1 w'):StOut B ao cap L τ vS w w':=by
 obtain ⟨U',v,hp,k2⟩:=h
 exact ⟨U',v,hp,k.trans k2⟩
set_option maxRecDepth 100000 in
set_option maxHeartbeats 1000000 in
theorem s_block {B:Nat} {ao:Option Addr} {cap:Nat} {L:List Tk} (hL:L.length ≤ 500) (f:Nat) (ih:Hid (∀ g,g ≤ f→SaidStmt B ao cap L g)):SaidBlock B ao cap L (f + 1):=by
 intro σ b r U vS w h hrun hend
 rw [blockQ_succ] at hrun
 obtain ⟨t0,h1,h2⟩:=Option.map_eq_some_iff.1 hrun
 have hend0:Small t0.1:=by rw [← h2] at hend; exact hend
 have HT:=hide h2
 have H1:=hide h1
 have hlt:=h.lt
 clear hrun h1 h2 hend
 unfold blkv
 have hX:(w.alloc (.cells #[.int .i64 b.proc,.int .i64 b.owner,.bool b.els] 199)).heap[w.heap.size]? = some (.cells #[.int .i64 b.proc,.int .i64 b.owner,.bool b.els] 199 (0,0)):=heap_alloc_new w _
 have hb0:Below w.heap.size w (w.alloc (.cells #[.int .i64 b.proc,.int .i64 b.owner,.bool b.els] 199)):=(Below.refl _ _).alloc (Nat.le_refl _) _
 have h0:=h.below hb0
 have k0:Kp1 B vS w vS _:=Kp1.of_below hb0 (Nat.le_of_lt hlt)
 go_enter Tryz.func205,Tryz.ntmps205
 go_wp2_with fail
 refine (s_enter ⟨#[123]⟩ _ hL (by decide) h0).mono ?_
 rintro e w1 ⟨rfl,hp1,k1⟩
 have hX1:=k1.keep _ _ _ _ hX (by decide) (by decide) (by decide) (by decide)
 have k01:=k0.trans (k1.one vS)
 clear hX hb0 h0 k0 k1
 go_wp2_with fail
 go_loopg [] f (fun g wr=>∃ (τ:QSt) (U2:Nat) (vS2:Value),g ≤ f∧stmtsQ L g τ b = some t0∧PS B ao cap L U2 τ vS2 wr∧Kp1 B vS w vS2 wr∧wr.heap[w.heap.size]? = some (.cells #[.int .i64 b.proc,.int .i64 b.owner,.bool b.els] 199 (0,0)))
 case atStart=>exact ⟨_,_,vS,Nat.le_refl _,H1.out,hp1,k01,hX1⟩
 case round =>
  obtain ⟨τ,U2,vS2,hg,hl,hp,kp,hXr⟩:=hrel
  obtain ⟨vN,vC,vD,hx⟩:=id hp
  obtain ⟨c0,c1,c2,c3,c4,c5,c6,c7,c8,hf⟩:=hx.cells
  have x0:wr.cell? ⟨w.heap.size,0,none⟩ = some (.int .i64 b.proc):=by simp [World.cell?,hXr]
  have x1:wr.cell? ⟨w.heap.size,1,none⟩ = some (.int .i64 b.owner):=by simp [World.cell?,hXr]
  have x2:wr.cell? ⟨w.heap.size,2,none⟩ = some (.bool b.els):=by simp [World.cell?,hXr]
  have hltr:=hp.lt
  have hwr:w.heap.size < wr.heap.size:=(Array.getElem?_eq_some_iff.1 hXr).1
  clear hf H1 k01 hp1 hX1
  cases gk with
  | zero=>rw [stmtsQ_zero] at hl; cases hl
  | succ g =>
   rw [stmtsQ_succ] at hl
   have fin:∀ (w2:World),τ = t0.1→PS B ao cap L U2 τ vS2 w2→Kp1 B vS w vS2 w2→True:=fun _ _ _ _=>trivial
   clear fin
   cases hfl:τ.p.failed
   ·rw [hfl] at c4
    cases hs:τ.p.sees L ⟨#[125]⟩
    ·rw [if_pos ⟨hfl,hs⟩] at hl
     obtain ⟨t1,h3,h4⟩:=bindS hl
     have hend1:Small t1.1:=hend0.bg ((sg_blocks L g).2.1 _ _ _ h4).1
     have HA:=hide h3
     have HB:=hide h4
     clear hl h3 h4
     go_wp2_with fail
     refine (s_sees ⟨#[125]⟩ _ hL hp).mono ?_
     rintro e w2 ⟨rfl,hb2⟩
     rw [hs]
     have hp2:=hp.below hb2
     have k2:=kp.trans (Kp1.of_below hb2 (Nat.le_of_lt hltr))
     have hX2:=(hb2.block _ hwr).trans hXr
     have y0:w2.cell? ⟨w.heap.size,0,none⟩ = some (.int .i64 b.proc):=by simp [World.cell?,hX2]
     have y1:w2.cell? ⟨w.heap.size,1,none⟩ = some (.int .i64 b.owner):=by simp [World.cell?,hX2]
     have y2:w2.cell? ⟨w.heap.size,2,none⟩ = some (.bool b.els):=by simp [World.cell?,hX2]
     clear hb2 c0 c1 c2 c3 c4 c5 c6 c7 c8 x0 x1 x2
     have HI:=hide (ih.out g (by omega) τ b t1 U2 vS2 w2 hp2 HA.out hend1)
     unfold blkv at HI
     go_wp2_with fail
     refine HI.out.mono ?_
     rintro e w3 ⟨rfl,U3,vS3,hp3,k3⟩
     have hX3:=k3.keep _ _ _ _ hX2 (by decide) (by decide) (by decide) (by decide) (fun e=>absurd e (by decide))
     go_wp2_with fail
     go_roundg g
     case measure=>omega
     case rel=>exact ⟨t1.1,U3,vS3,by omega,HB.out,hp3,k2.trans k3,hX3⟩
    ·rw [if_neg (by rw [hs]; simp)] at hl
     have HL:Hid (τ = t0.1):=congrArg Prod.fst (Option.some.inj hl)
     clear hl
     go_wp2_with fail
     refine (s_sees ⟨#[125]⟩ _ hL hp).mono ?_
     rintro e w2 ⟨rfl,hb2⟩
     rw [hs]
     have hp2:=hp.below hb2
     have k2:=kp.trans (Kp1.of_below hb2 (Nat.le_of_lt hltr))
     clear hb2 c0 c1 c2 c3 c4 c5 c6 c7 c8 x0 x1 x2
     go_wp2_with fail
     refine (s_ahead 0 _ hL (by omega) hp2).mono ?_
     rintro e w3 ⟨rfl,hb3⟩
     have hb3':=fun ob=>hb3.alloc hb3.size ob
     have hp3:=fun ob=>hp2.below (hb3' ob)
     have k3:=fun ob=>k2.trans (Kp1.of_below (hb3' ob) (Nat.le_of_lt hp2.lt))
     have hY:∀ ob:Obj,(w3.alloc ob).heap[w3.heap.size]? = some ob:=fun ob=>heap_alloc_new w3 ob
     clear hb3 hb3'
     go_wp2_with fail
     refine (s_leave ⟨#[125]⟩ _ hL (by decide) (hp3 _)).mono ?_
     rintro e w4 ⟨rfl,hp4,k4⟩
     have hY4:=k4.keep _ _ _ _ (hY _) (by decide) (by decide) (by decide) (by decide)
     have z1:w4.cell? ⟨w3.heap.size,1,none⟩ = some (.int .i64 (τ.p.ahead L 0).p):=by simp [World.cell?,hY4]
     have K4:=(k3 _).trans (k4.one vS2)
     clear k3 hp3 hY
     go_wp2_with fail
     go_ret
     exact ⟨ret_int (by rw [← HT.out,← HL.out]),_,_,by rw [← HT.out,← HL.out]; exact hp4,K4⟩
   ·rw [hfl] at c4
    rw [if_neg (by rw [hfl]; simp)] at hl
    have HL:Hid (τ = t0.1):=congrArg Prod.fst (Option.some.inj hl)
    clear hl
    go_wp2_with fail
    refine (s_ahead 0 _ hL (by omega) hp).mono ?_
    rintro e w3 ⟨rfl,hb3⟩
    have hb3':=fun ob=>hb3.alloc hb3.size ob
    have hp3:=fun ob=>hp.below (hb3' ob)
    have k3:=fun ob=>kp.trans (Kp1.of_below (hb3' ob) (Nat.le_of_lt hltr))
    have hY:∀ ob:Obj,(w3.alloc ob).heap[w3.heap.size]? = some ob:=fun ob=>heap_alloc_new w3 ob
    clear hb3 hb3' c0 c1 c2 c3 c4 c5 c6 c7 c8 x0 x1 x2
    go_wp2_with fail
    refine (s_leave ⟨#[125]⟩ _ hL (by decide) (hp3 _)).mono ?_
    rintro e w4 ⟨rfl,hp4,k4⟩
    have hY4:=k4.keep _ _ _ _ (hY _) (by decide) (by decide) (by decide) (by decide)
    have z1:w4.cell? ⟨w3.heap.size,1,none⟩ = some (.int .i64 (τ.p.ahead L 0).p):=by simp [World.cell?,hY4]
    have K4:=(k3 _).trans (k4.one vS2)
    clear k3 hp3 hY
    go_wp2_with fail
    go_ret
    exact ⟨ret_int (by rw [← HT.out,← HL.out]),_,_,by rw [← HT.out,← HL.out]; exact hp4,K4⟩
end Go.Proofs.YtmfcpbhdggonfaaGreatDoor
/- Contracts of the program's parser: if and while. -/
namespace Go.Proofs.YtmfcpbhdggonfaaGreatDoor
open Go.RowKit RR
theorem Small.add {σ:QSt} {s:Stm} (h:Small (σ.add s)):Small σ:=⟨h.1,by
 have:=h.2
 have e:(σ.add s).sts.length = σ.sts.length + 1:=by show (σ.sts ++ [s]).length = _; rw [List.length_append]; rfl
 omega⟩
theorem Kp1.sep {B:Nat} {vS vS':Value} {w w':World} (k:Kp1 B vS w vS' w') {S:Nat} (hS:S < w.heap.size) (h:vS.ownBlock ≠ some S):vS'.ownBlock ≠ some S:=fun e=>by
 rcases k.own with h1 | h1
 ·rw [h1] at e; exact h e
 ·have:=h1 S e; omega
theorem Kp1.box {B:Nat} {vS vS':Value} {w w':World} (k:Kp1 B vS w vS' w') {S:Nat} {c:Array Value} {f:Nat × Nat} (hS:w.heap[S]? = some (Obj.cells c 202 f)) (h:vS.ownBlock ≠ some S):w'.heap[S]? = some (Obj.cells c 202 f) :=
 k.keep S c _ f hS (by decide) (by decide) (by decide) (by decide) (fun _ e=>h e.symm)
def SaidBranch (B:Nat) (ao:Option Addr) (cap:Nat) (L:List Tk) (f:Nat):Prop:=∀ (σ:QSt) (b:Blk) (r:QSt × Nat) (U:Nat) (vS:Value) (w:World),PS B ao cap L U σ vS w→branchQ L f σ b = some r→Small r.1 →
    Calls Tryz.prog 219 #[.pointer (some ⟨B,0,none⟩),stv (newStm L σ b) (.slice none 0 0)] w fun e w'=>e = .returned (.tuple #[])∧StOut B ao cap L r.1 vS w w'
def SaidLoop (B:Nat) (ao:Option Addr) (cap:Nat) (L:List Tk) (f:Nat):Prop:=∀ (σ:QSt) (b:Blk) (r:QSt × Nat) (U:Nat) (vS:Value) (w:World),PS B ao cap L U σ vS w→loopQ L f σ b = some r→Small r.1 →
    Calls Tryz.prog 220 #[.pointer (some ⟨B,0,none⟩),stv (newStm L σ b) (.slice none 0 0)] w fun e w'=>e = .returned (.tuple #[])∧StOut B ao cap L r.1 vS w w'
set_option maxRecDepth 100000 in
set_option maxHeartbeats 1000000 in
theorem s_branch {B:Nat} {ao:Option Addr} {cap:Nat} {L:List Tk} (hL:L.length ≤ 500) (f:Nat) (ih:Hid (SaidBlock B ao cap L f)):SaidBranch B ao cap L (f + 1):=by
 intro σ b r U vS w h hrun hend
 rw [branchQ_succ] at hrun
 obtain ⟨a,h1,h2⟩:=bindS hrun
 obtain ⟨c,h3,h4⟩:=bindS h2
 have gb:=((sg_blocks L f).1 _ _ _ h3).1
 have hce:Small c.1:=by
  split at h4
  ·obtain ⟨d,h5,h6⟩:=Option.map_eq_some_iff.1 h4
   rw [← h6] at hend
   have hs5:Small (c.1.setp c.1.p.step):=(show Small d.1 from hend).bg ((sg_blocks L f).1 _ _ _ h5).1
   exact hs5
  ·rw [← Option.some.inj h4] at hend; exact hend
 have hae':=hce.bg gb
 have hae:a.1.nds.length ≤ 9000∧a.1.sts.length ≤ 9000:=hae'.add
 have H1:=hide h1
 have H2:=hide h3
 have H3:=hide h4
 clear hrun h1 h2 h3 h4 gb hae'
 have hs0:(newStm L σ b).vals = []:=rfl
 have hbp:=bp_new h (newStm L σ b) hs0
 have hlt:=h.lt
 have HSP:Hid ((newStm L σ b).blk.proc = b.proc):=rfl
 generalize hs1:newStm L σ b = s at *
 unfold stv
 go_enter Tryz.func219,Tryz.ntmps219
 go_wp2_with fail
 refine (s_take ⟨#[105,102]⟩ _ hL (by decide) hbp.ps).mono ?_
 rintro e w1 ⟨rfl,hp1,k1⟩
 have hb1:=hbp.kp hp1 k1
 have ks1:=k1.s w.heap.size (.slice none 0 0)
 obtain ⟨d0,d1,d2,d3,d4,d5,d6,d7,hdf⟩:=hb1.bx.cells
 have f0:=hdf 0
 have hset:=bx_set (s':={ s with kind:=2 }) hb1.bx 0 (.int .i64 2) rfl rfl
 have hb2:=hb1.fs hset.2 hset.1
 have ks2:=ks1.trans (hset.2.kps (vV':=.slice none 0 0) (Nat.le_of_lt hb1.B) (.inl rfl))
 clear hdf hset hb1 ks1 k1 hp1 hbp
 go_wp2_with fail
 have H1':condQ L f (σ.setp (σ.p.take L ⟨#[105,102]⟩)) ({ s with kind:=2 }:Stm).vals = some a:=by show condQ L f _ s.vals = _; rw [hs0]; exact H1.out
 refine (s_condition hL f a _ hb2 H1' hae.1 (by show s.vals.length ≤ 1000; rw [hs0]; simp)).mono ?_
 rintro e w3 ⟨rfl,vV3,hb3,k3⟩
 have ks3:=ks2.trans k3
 obtain ⟨va,vc,hv⟩:=bx_slice hb3.bx
 have hrow:=owns_zero hb3.bx.row
 rw [hv] at hrow
 have hU3:w.heap.size ≤ w3.heap.size:=by have:=hb3.bx.lt; omega
 have HADD:=hide (s_add { s with kind:=2,vals:=a.2 } va a.2.length vc w3 hae.2 hb3.ps hrow hU3 (fun g hg=>(hrow.lt g hg).2))
 have K3:Kp1 B vS w vS w3:=kps_new ks3 (Nat.le_of_lt hlt)
 obtain ⟨d0,d1,d2,d3,d4,d5,d6,d7,hdf⟩:=hb3.bx.cells
 rw [hv] at d7
 have hbox:=hb3.bx.blk
 have hsep:=hb3.vS
 have hS3:=hb3.bx.lt
 clear hdf hb2 ks2 k3 ks3 hb3 hrow hU3 f0
 go_wp2_with fail
 refine HADD.out.mono ?_
 rintro e w4 ⟨rfl,vS4,hp4,k4⟩
 have hbox4:=k4.box hbox hsep
 have hsep4:=k4.sep hS3 hsep
 have K4:=K3.trans k4
 have y2:w4.cell? ⟨w.heap.size,2,none⟩ = some (.int .i64 s.blk.proc):=by simp [World.cell?,hbox4]
 have hS4:w.heap.size < w4.heap.size:=(Array.getElem?_eq_some_iff.1 hbox4).1
 clear d0 d1 d2 d3 d4 d5 d6 d7 hbox hsep HADD k4 K3
 have HBL:=hide (ih.out (a.1.add { s with kind:=2,vals:=a.2 }) ⟨b.proc,a.1.sts.length,false⟩ c w3.heap.size vS4 w4 hp4 H2.out hce)
 unfold blkv at HBL
 rw [HSP.out] at y2
 go_wp2_with fail
 refine HBL.out.mono ?_
 rintro e w5 ⟨rfl,U5,vS5,hp5,k5⟩
 have hbox5:=k5.box hbox4 hsep4
 have K5:=K4.trans k5
 have z2:w5.cell? ⟨w.heap.size,2,none⟩ = some (.int .i64 b.proc):=by simp [World.cell?,hbox5,HSP.out]
 clear y2 hbox4 K4 k5 HBL
 cases hs:c.1.p.sees L ⟨#[101,108,115,101]⟩
 ·have HF:Hid ((c.1,0) = r):=by show _ = _; have h:=H3.out; rw [hs] at h; exact Option.some.inj h
  go_wp2_with fail
  refine (s_accept ⟨#[101,108,115,101]⟩ _ hL (by decide) hp5).mono ?_
  rintro e w6 ⟨rfl,hp6,k6⟩
  rw [hs] at hp6 ⊢
  go_wp2_with fail
  go_end0
  exact ⟨rfl,_,_,by rw [← HF.out]; exact hp6,K5.trans (k6.one vS5)⟩
 ·have HF:Hid (∃ d,blockQ L f (c.1.setp c.1.p.step) ⟨b.proc,a.1.sts.length,true⟩ = some d∧(d.1,0) = r):=by show ∃ _,_; have h:=H3.out; rw [hs] at h; exact Option.map_eq_some_iff.1 h
  obtain ⟨d,hd,hdr⟩:=HF.out
  have hde:Small d.1:=by rw [← hdr] at hend; exact hend
  have HD:=hide hd
  have HDR:=hide hdr
  clear HF hd hdr
  go_wp2_with fail
  refine (s_accept ⟨#[101,108,115,101]⟩ _ hL (by decide) hp5).mono ?_
  rintro e w6 ⟨rfl,hp6,k6⟩
  rw [hs] at hp6 ⊢
  have hbox6:=k6.keep _ _ _ _ hbox5 (by decide) (by decide) (by decide) (by decide)
  have q2:w6.cell? ⟨w.heap.size,2,none⟩ = some (.int .i64 b.proc):=by simp [World.cell?,hbox6,HSP.out]
  have HBL:=hide (ih.out (c.1.setp c.1.p.step) ⟨b.proc,a.1.sts.length,true⟩ d U5 vS5 w6 hp6 HD.out hde)
  unfold blkv at HBL
  have K6:=K5.trans (k6.one vS5)
  clear z2 hbox5 K5 k6
  go_wp2_with fail
  refine HBL.out.mono ?_
  rintro e w7 ⟨rfl,hout⟩
  go_wp2_with fail
  go_end0
  exact ⟨rfl,by rw [← HDR.out]; exact StOut.trans K6 hout⟩
set_option maxRecDepth 100000 in
set_option maxHeartbeats 1000000 in
theorem s_loop {B:Nat} {ao:Option Addr} {cap:Nat} {L:List Tk} (hL:L.length ≤ 500) (f:Nat) (ih:Hid (SaidBlock B ao cap L f)):SaidLoop B ao cap L f:=by
 intro σ b r U vS w h hrun hend
 unfold loopQ at hrun
 obtain ⟨a,h1,h2⟩:=bindS hrun
 obtain ⟨c,h3,h4⟩:=Option.map_eq_some_iff.1 h2
 have gb:=((sg_blocks L f).1 _ _ _ h3).1
 have hce:Small c.1:=by rw [← h4] at hend; exact hend
 have hae':=hce.bg gb
 have hae:a.1.nds.length ≤ 9000∧a.1.sts.length ≤ 9000:=hae'.add
 have H1:=hide h1
 have H2:=hide h3
 have H3:=hide h4
 clear hrun h1 h2 h3 h4 gb hae'
 have hs0:(newStm L σ b).vals = []:=rfl
 have hbp:=bp_new h (newStm L σ b) hs0
 have hlt:=h.lt
 have HSP:Hid ((newStm L σ b).blk.proc = b.proc):=rfl
 generalize hs1:newStm L σ b = s at *
 unfold stv
 go_enter Tryz.func220,Tryz.ntmps220
 go_wp2_with fail
 refine (s_take ⟨#[119,104,105,108,101]⟩ _ hL (by decide) hbp.ps).mono ?_
 rintro e w1 ⟨rfl,hp1,k1⟩
 have hb1:=hbp.kp hp1 k1
 have ks1:=k1.s w.heap.size (.slice none 0 0)
 obtain ⟨d0,d1,d2,d3,d4,d5,d6,d7,hdf⟩:=hb1.bx.cells
 have f0:=hdf 0
 have hset:=bx_set (s':={ s with kind:=3 }) hb1.bx 0 (.int .i64 3) rfl rfl
 have hb2:=hb1.fs hset.2 hset.1
 have ks2:=ks1.trans (hset.2.kps (vV':=.slice none 0 0) (Nat.le_of_lt hb1.B) (.inl rfl))
 clear hdf hset hb1 ks1 k1 hp1 hbp
 go_wp2_with fail
 have H1':condQ L f (σ.setp (σ.p.take L ⟨#[119,104,105,108,101]⟩)) ({ s with kind:=3 }:Stm).vals = some a:=by show condQ L f _ s.vals = _; rw [hs0]; exact H1.out
 refine (s_condition hL f a _ hb2 H1' hae.1 (by show s.vals.length ≤ 1000; rw [hs0]; simp)).mono ?_
 rintro e w3 ⟨rfl,vV3,hb3,k3⟩
 have ks3:=ks2.trans k3
 obtain ⟨va,vc,hv⟩:=bx_slice hb3.bx
 have hrow:=owns_zero hb3.bx.row
 rw [hv] at hrow
 have hU3:w.heap.size ≤ w3.heap.size:=by have:=hb3.bx.lt; omega
 have HADD:=hide (s_add { s with kind:=3,vals:=a.2 } va a.2.length vc w3 hae.2 hb3.ps hrow hU3 (fun g hg=>(hrow.lt g hg).2))
 have K3:Kp1 B vS w vS w3:=kps_new ks3 (Nat.le_of_lt hlt)
 obtain ⟨d0,d1,d2,d3,d4,d5,d6,d7,hdf⟩:=hb3.bx.cells
 rw [hv] at d7
 have hbox:=hb3.bx.blk
 have hsep:=hb3.vS
 have hS3:=hb3.bx.lt
 clear hdf hb2 ks2 k3 ks3 hb3 hrow hU3 f0
 go_wp2_with fail
 refine HADD.out.mono ?_
 rintro e w4 ⟨rfl,vS4,hp4,k4⟩
 have hbox4:=k4.box hbox hsep
 have hsep4:=k4.sep hS3 hsep
 have K4:=K3.trans k4
 have y2:w4.cell? ⟨w.heap.size,2,none⟩ = some (.int .i64 s.blk.proc):=by simp [World.cell?,hbox4]
 have hS4:w.heap.size < w4.heap.size:=(Array.getElem?_eq_some_iff.1 hbox4).1
 clear d0 d1 d2 d3 d4 d5 d6 d7 hbox hsep HADD k4 K3
 have HBL:=hide (ih.out (a.1.add { s with kind:=3,vals:=a.2 }) ⟨b.proc,a.1.sts.length,false⟩ c w3.heap.size vS4 w4 hp4 H2.out hce)
 unfold blkv at HBL
 rw [HSP.out] at y2
 go_wp2_with fail
 refine HBL.out.mono ?_
 rintro e w5 ⟨rfl,U5,vS5,hp5,k5⟩
 have K5:=K4.trans k5
 clear y2 hbox4 K4 k5 HBL
 go_wp2_with fail
 go_end0
 exact ⟨rfl,_,_,by rw [← H3.out]; exact hp5,K5⟩
end Go.Proofs.YtmfcpbhdggonfaaGreatDoor
/- Contracts of the program's parser: assignments and calls as statements. -/
namespace Go.Proofs.YtmfcpbhdggonfaaGreatDoor
open Go.RowKit RR
theorem call_name {L:List Tk} {σ:PSt} (h:σ.seesCall L = true):isNameB (σ.ahead L 0).t = true:=by
 unfold PSt.seesCall at h
 rw [Bool.and_eq_true] at h
 exact h.1
set_option maxRecDepth 100000 in
set_option maxHeartbeats 1000000 in
theorem s_assigned {B:Nat} {ao:Option Addr} {cap:Nat} {L:List Tk} {U:Nat} (hL:L.length ≤ 500) (f:Nat) {σ:QSt} {vS:Value} {S:Nat} {s:Stm} (r:QSt × Stm) (w:World) (h:BP B ao cap L U σ vS S s (.slice none 0 0) w) (hs0:s.vals = []) (hrun:assignedQ L f σ s = some r) (hend:r.1.nds.length ≤ 9000) :
    Calls Tryz.prog 230 #[.pointer (some ⟨B,0,none⟩),.pointer (some ⟨S,0,none⟩)] w fun e w'=>e = .returned (.tuple #[])∧∃ vV',BP B ao cap L U r.1 vS S r.2 vV' w'∧KpS B S (.slice none 0 0) w vV' w':=by
 unfold assignedQ at hrun
 cases hs:σ.p.seesCall L
 ·rw [hs] at hrun
  obtain ⟨a,h1,h2⟩:=Option.map_eq_some_iff.1 hrun
  have hae:a.1.nds.length ≤ 9000:=by rw [← h2] at hend; exact hend
  have HR:=hide h2
  have H1:Hid (valueQ L f σ ({ s with kind:=0 }:Stm).vals = some a):=h1
  clear hrun h1 h2
  go_enter Tryz.func230,Tryz.ntmps230
  go_wp2_with fail
  refine (s_seesCall _ hL h.ps).mono ?_
  rintro e w1 ⟨rfl,hb1⟩
  rw [hs]
  have hbp1:=h.below hb1
  have ks1:=(Kp.of_below hb1 (Nat.le_of_lt h.ps.lt)).s S (.slice none 0 0)
  obtain ⟨d0,d1,d2,d3,d4,d5,d6,d7,hdf⟩:=hbp1.bx.cells
  have f0:=hdf 0
  have hset:=bx_set (s':={ s with kind:=0 }) hbp1.bx 0 (.int .i64 0) rfl rfl
  have hb2:=hbp1.fs hset.2 hset.1
  have ks2:=ks1.trans (hset.2.kps (vV':=.slice none 0 0) (Nat.le_of_lt hbp1.B) (.inl rfl))
  clear hdf hset hbp1 ks1 hb1 h
  go_wp2_with fail
  refine (s_value hL f a _ hb2 H1.out hae (by show s.vals.length ≤ 1000; rw [hs0]; simp)).mono ?_
  rintro e w3 ⟨rfl,vV3,hb3,k3⟩
  go_wp2_with fail
  go_end0
  exact ⟨rfl,vV3,by rw [← HR.out]; exact hb3,ks2.trans k3⟩
 ·rw [hs] at hrun
  have HR:Hid (callQ L f σ s = some r):=hrun
  clear hrun
  go_enter Tryz.func230,Tryz.ntmps230
  go_wp2_with fail
  refine (s_seesCall _ hL h.ps).mono ?_
  rintro e w1 ⟨rfl,hb1⟩
  rw [hs]
  have hbp1:=h.below hb1
  have ks1:=(Kp.of_below hb1 (Nat.le_of_lt h.ps.lt)).s S (.slice none 0 0)
  clear hb1 h
  go_wp2_with fail
  refine (s_call hL f r _ hbp1 (call_name hs) hs0 HR.out hend).mono ?_
  rintro e w2 ⟨rfl,vV2,hb2,k2⟩
  go_wp2_with fail
  exact bodyPost_ret (v:=.tuple #[]) (by simp [results,Tryz.results230,go_sem]) rfl ⟨rfl,vV2,hb2,ks1.trans k2⟩
set_option maxRecDepth 100000 in
set_option maxHeartbeats 1000000 in
theorem s_aoc {B:Nat} {ao:Option Addr} {cap:Nat} {L:List Tk} {U:Nat} (hL:L.length ≤ 500) (f:Nat) {σ τ:QSt} {vS:Value} (s:Stm) (w:World) (h:PS B ao cap L U σ vS w) (hs0:s.vals = []) (hrun:aocQ L f σ s = some τ) (hend:τ.nds.length ≤ 9000∧τ.sts.length ≤ 9000) :
    Calls Tryz.prog 225 #[.pointer (some ⟨B,0,none⟩),stv s (.slice none 0 0)] w fun e w'=>e = .returned (.tuple #[])∧StOut B ao cap L τ vS w w':=by
 unfold aocQ at hrun
 obtain ⟨a,h1,h2⟩:=Option.map_eq_some_iff.1 hrun
 have hae:a.1.nds.length ≤ 9000:=by rw [← h2] at hend; exact hend.1
 have hst:a.1.sts.length ≤ 9000:=by
  have e:τ.sts.length = a.1.sts.length + 1:=by rw [← h2]; show (_ ++ [_]).length = _; rw [List.length_append]; rfl
  omega
 have HR:=hide h2
 clear hrun h2
 have hb1:=bp_new h { s with kind:=1 } hs0
 have hlt:=h.lt
 have ks1:=(Kp.refl B (w.alloc (.cells #[.int .i64 1,.int .i64 s.at_,.int .i64 s.blk.proc,.int .i64 s.blk.owner,.bool s.blk.els,.int .i64 s.target,.int .i64 s.name,.slice none 0 0] 202))).s w.heap.size (.slice none 0 0)
 unfold stv
 cases hs:σ.p.seesCall L
 ·rw [hs] at h1
  have H1:Hid (assignedQ L f (σ.setp ((σ.p.takeName L 4).take L ⟨#[61]⟩)) { s with kind:=1,target:=nameIx L σ.p } = some a):=h1
  clear h1
  go_enter Tryz.func225,Tryz.ntmps225
  go_wp2_with fail
  refine (s_seesCall _ hL hb1.ps).mono ?_
  rintro e w1 ⟨rfl,hbs⟩
  rw [hs]
  have hb2:=hb1.below hbs
  have ks2:=ks1.trans ((Kp.of_below hbs (Nat.le_of_lt hb1.ps.lt)).s _ (.slice none 0 0))
  clear hbs hb1 ks1
  go_wp2_with fail
  refine (s_takeName 4 _ hL hb2.ps).mono ?_
  rintro e w2 ⟨rfl,hp3,k3⟩
  have hb3:=hb2.kp hp3 k3
  have ks3:=ks2.trans (k3.s _ (.slice none 0 0))
  obtain ⟨d0,d1,d2,d3,d4,d5,d6,d7,hdf⟩:=hb3.bx.cells
  have f5:=hdf 5
  have hset:=bx_set (s':={ s with kind:=1,target:=nameIx L σ.p }) hb3.bx 5 (.int .i64 (nameIx L σ.p)) rfl rfl
  have hb4:=hb3.fs hset.2 hset.1
  have ks4:=ks3.trans (hset.2.kps (vV':=.slice none 0 0) (Nat.le_of_lt hb3.B) (.inl rfl))
  clear hdf hset hb3 ks3 hb2 ks2 hp3 k3
  go_wp2_with fail
  refine (s_take ⟨#[61]⟩ _ hL (by decide) hb4.ps).mono ?_
  rintro e w5 ⟨rfl,hp5,k5⟩
  have hb5:=hb4.kp hp5 k5
  have ks5:=ks4.trans (k5.s _ (.slice none 0 0))
  clear d0 d1 d2 d3 d4 d5 d6 d7 f5 hb4 ks4 hp5 k5
  go_wp2_with fail
  refine (s_assigned hL f a _ hb5 hs0 H1.out hae).mono ?_
  rintro e w6 ⟨rfl,vV6,hb6,k6⟩
  have ks6:=ks5.trans k6
  clear hb5 ks5 k6
  go_wp2_with fail
  refine (s_take ⟨#[59]⟩ _ hL (by decide) hb6.ps).mono ?_
  rintro e w7 ⟨rfl,hp7,k7⟩
  have hb7:=hb6.kp hp7 k7
  have ks7:=ks6.trans (k7.s _ vV6)
  clear hb6 ks6 hp7 k7
  obtain ⟨va,vc,hv,hadd⟩:=add_end hb7 (by exact hst) (kps_new (vS:=vS) ks7 (Nat.le_of_lt hlt))
  obtain ⟨d0,d1,d2,d3,d4,d5,d6,d7,hdf⟩:=hb7.bx.cells
  rw [hv] at d7
  have HADD:=hide hadd
  unfold stv at HADD
  clear hdf hadd
  go_wp2_with fail
  refine HADD.out.mono ?_
  rintro e w9 ⟨rfl,hout⟩
  go_wp2_with fail
  go_end0
  exact ⟨rfl,by rw [← HR.out]; exact hout⟩
 ·rw [hs] at h1
  have H1:Hid (callQ L f σ { s with kind:=1 } = some a):=h1
  clear h1
  go_enter Tryz.func225,Tryz.ntmps225
  go_wp2_with fail
  refine (s_seesCall _ hL hb1.ps).mono ?_
  rintro e w1 ⟨rfl,hbs⟩
  rw [hs]
  have hb2:=hb1.below hbs
  have ks2:=ks1.trans ((Kp.of_below hbs (Nat.le_of_lt hb1.ps.lt)).s _ (.slice none 0 0))
  clear hbs hb1 ks1
  go_wp2_with fail
  refine (s_call hL f a _ hb2 (call_name hs) hs0 H1.out hae).mono ?_
  rintro e w6 ⟨rfl,vV6,hb6,k6⟩
  have ks6:=ks2.trans k6
  clear hb2 ks2 k6
  go_wp2_with fail
  refine (s_take ⟨#[59]⟩ _ hL (by decide) hb6.ps).mono ?_
  rintro e w7 ⟨rfl,hp7,k7⟩
  have hb7:=hb6.kp hp7 k7
  have ks7:=ks6.trans (k7.s _ vV6)
  clear hb6 ks6 hp7 k7
  obtain ⟨va,vc,hv,hadd⟩:=add_end hb7 (by exact hst) (kps_new (vS:=vS) ks7 (Nat.le_of_lt hlt))
  obtain ⟨d0,d1,d2,d3,d4,d5,d6,d7,hdf⟩:=hb7.bx.cells
  rw [hv] at d7
  have HADD:=hide hadd
  unfold stv at HADD
  clear hdf hadd
  go_wp2_with fail
  refine HADD.out.mono ?_
  rintro e w9 ⟨rfl,hout⟩
  go_wp2_with fail
  go_end0
  exact ⟨rfl,by rw [← HR.out]; exact hout⟩
end Go.Proofs.YtmfcpbhdggonfaaGreatDoor
/- Contracts of the program's parser: a statement. -/
namespace Go.Proofs.YtmfcpbhdggonfaaGreatDoor
open Go.RowKit RR
set_option maxRecDepth 100000 in
set_option maxHeartbeats 4000000 in
theorem s_statement {B:Nat} {ao:Option Addr} {cap:Nat} {L:List Tk} (hL:L.length ≤ 500) (f:Nat) (ihB:Hid (SaidBranch B ao cap L f)) (ihL:Hid (SaidLoop B ao cap L f)):SaidStmt B ao cap L (f + 1):=by
 intro σ b r U vS w h hrun hend
 rw [statementQ_succ] at hrun
 have hlt:=h.lt
 have HRUN:=hide hrun
 clear hrun
 unfold blkv
 have hX:(w.alloc (.cells #[.int .i64 b.proc,.int .i64 b.owner,.bool b.els] 199)).heap[w.heap.size]? = some (.cells #[.int .i64 b.proc,.int .i64 b.owner,.bool b.els] 199 (0,0)):=heap_alloc_new w _
 have hb0:Below w.heap.size w (w.alloc (.cells #[.int .i64 b.proc,.int .i64 b.owner,.bool b.els] 199)):=(Below.refl _ _).alloc (Nat.le_refl _) _
 have h0:=h.below hb0
 have k0:Kp1 B vS w vS _:=Kp1.of_below hb0 (Nat.le_of_lt hlt)
 have hX0:w.heap.size < (w.alloc (.cells #[.int .i64 b.proc,.int .i64 b.owner,.bool b.els] 199)).heap.size:=by simp
 by_cases e0:(σ.p.ahead L 0).t = ⟨#[105,102]⟩
 ·have HB:Hid (branchQ L f σ b = some r):=by show _ = _; have h:=HRUN.out; rw [if_pos e0] at h; exact h
  have z0:((σ.p.ahead L 0).t.toList == [105,102]) = true:=by rw [e0,bl]; rfl
  clear e0
  go_enter Tryz.func217,Tryz.ntmps217
  go_wp2_with fail
  refine (s_ahead 0 _ hL (by omega) h0).mono ?_
  rintro e w1 ⟨rfl,hb1⟩
  have hX1:=(hb1.block _ hX0).trans hX
  have x0:w1.cell? ⟨w.heap.size,0,none⟩ = some (.int .i64 b.proc):=by simp [World.cell?,hX1]
  have x1:w1.cell? ⟨w.heap.size,1,none⟩ = some (.int .i64 b.owner):=by simp [World.cell?,hX1]
  have x2:w1.cell? ⟨w.heap.size,2,none⟩ = some (.bool b.els):=by simp [World.cell?,hX1]
  have hz1:w.heap.size < w1.heap.size:=(Array.getElem?_eq_some_iff.1 hX1).1
  have hb2:∀ o1 o2:Obj,Below w.heap.size w ((w1.alloc o1).alloc o2):=fun o1 o2=>hb0.trans ((((hb1.alloc hb1.size o1)).alloc (Nat.le_trans hb1.size (by simp)) o2).mono (Nat.le_of_lt hX0))
  have hp2:=fun o1 o2=>h.below (hb2 o1 o2)
  have k2:=fun o1 o2=>Kp1.of_below (vS:=vS) (hb2 o1 o2) (Nat.le_of_lt hlt)
  clear hb1 hb2
  go_wp2_with fail
  have HI:=hide (ihB.out σ b r _ vS _ (hp2 (.cells #[.string (σ.p.ahead L 0).t,.int .i64 (σ.p.ahead L 0).p,.bool (isNameB (σ.p.ahead L 0).t)] 228) (.cells #[.int .i64 0,.int .i64 (σ.p.ahead L 0).p,.int .i64 b.proc,.int .i64 b.owner,.bool b.els,.int .i64 (-1),.int .i64 (-1),.slice none 0 0] 202)) HB.out hend)
  unfold stv newStm at HI
  refine HI.out.mono ?_
  rintro e w5 ⟨rfl,hout⟩
  go_wp2_with fail
  go_end0
  exact ⟨rfl,StOut.trans (k2 _ _) hout⟩
 by_cases e1:(σ.p.ahead L 0).t = ⟨#[119,104,105,108,101]⟩
 ·have HB:Hid (loopQ L f σ b = some r):=by show _ = _; have h:=HRUN.out; rw [if_neg e0,if_pos e1] at h; exact h
  have z0:((σ.p.ahead L 0).t.toList == [105,102]) = false:=lit_ne e0 (by rw [bl])
  have z1:((σ.p.ahead L 0).t.toList == [119,104,105,108,101]) = true:=by rw [e1,bl]; rfl
  clear e0 e1
  go_enter Tryz.func217,Tryz.ntmps217
  go_wp2_with fail
  refine (s_ahead 0 _ hL (by omega) h0).mono ?_
  rintro e w1 ⟨rfl,hb1⟩
  have hX1:=(hb1.block _ hX0).trans hX
  have x0:w1.cell? ⟨w.heap.size,0,none⟩ = some (.int .i64 b.proc):=by simp [World.cell?,hX1]
  have x1:w1.cell? ⟨w.heap.size,1,none⟩ = some (.int .i64 b.owner):=by simp [World.cell?,hX1]
  have x2:w1.cell? ⟨w.heap.size,2,none⟩ = some (.bool b.els):=by simp [World.cell?,hX1]
  have hz1:w.heap.size < w1.heap.size:=(Array.getElem?_eq_some_iff.1 hX1).1
  have hb2:∀ o1 o2:Obj,Below w.heap.size w ((w1.alloc o1).alloc o2):=fun o1 o2=>hb0.trans ((((hb1.alloc hb1.size o1)).alloc (Nat.le_trans hb1.size (by simp)) o2).mono (Nat.le_of_lt hX0))
  have hp2:=fun o1 o2=>h.below (hb2 o1 o2)
  have k2:=fun o1 o2=>Kp1.of_below (vS:=vS) (hb2 o1 o2) (Nat.le_of_lt hlt)
  clear hb1 hb2
  go_wp2_with fail
  have HI:=hide (ihL.out σ b r _ vS _ (hp2 (.cells #[.string (σ.p.ahead L 0).t,.int .i64 (σ.p.ahead L 0).p,.bool (isNameB (σ.p.ahead L 0).t)] 228) (.cells #[.int .i64 0,.int .i64 (σ.p.ahead L 0).p,.int .i64 b.proc,.int .i64 b.owner,.bool b.els,.int .i64 (-1),.int .i64 (-1),.slice none 0 0] 202)) HB.out hend)
  unfold stv newStm at HI
  refine HI.out.mono ?_
  rintro e w5 ⟨rfl,hout⟩
  go_wp2_with fail
  go_end0
  exact ⟨rfl,StOut.trans (k2 _ _) hout⟩
 by_cases e2:(σ.p.ahead L 0).t = ⟨#[97,115,115,117,109,101]⟩
 ·have HB:Hid (∃ c,assumeQ L f σ (newStm L σ b) = some c∧(c,0) = r):=by show ∃ _,_; have h:=HRUN.out; rw [if_neg e0,if_neg e1,if_pos e2] at h; exact Option.map_eq_some_iff.1 h
  have z0:((σ.p.ahead L 0).t.toList == [105,102]) = false:=lit_ne e0 (by rw [bl])
  have z1:((σ.p.ahead L 0).t.toList == [119,104,105,108,101]) = false:=lit_ne e1 (by rw [bl])
  have z2:((σ.p.ahead L 0).t.toList == [97,115,115,117,109,101]) = true:=by rw [e2,bl]; rfl
  clear e0 e1 e2
  obtain ⟨c,hc,hcr⟩:=HB.out
  have hce:Small c:=by rw [← hcr] at hend; exact hend
  have HC:=hide hc
  have HCR:=hide hcr
  clear HB hc hcr
  go_enter Tryz.func217,Tryz.ntmps217
  go_wp2_with fail
  refine (s_ahead 0 _ hL (by omega) h0).mono ?_
  rintro e w1 ⟨rfl,hb1⟩
  have hX1:=(hb1.block _ hX0).trans hX
  have x0:w1.cell? ⟨w.heap.size,0,none⟩ = some (.int .i64 b.proc):=by simp [World.cell?,hX1]
  have x1:w1.cell? ⟨w.heap.size,1,none⟩ = some (.int .i64 b.owner):=by simp [World.cell?,hX1]
  have x2:w1.cell? ⟨w.heap.size,2,none⟩ = some (.bool b.els):=by simp [World.cell?,hX1]
  have hz1:w.heap.size < w1.heap.size:=(Array.getElem?_eq_some_iff.1 hX1).1
  have hb2:∀ o1 o2:Obj,Below w.heap.size w ((w1.alloc o1).alloc o2):=fun o1 o2=>hb0.trans ((((hb1.alloc hb1.size o1)).alloc (Nat.le_trans hb1.size (by simp)) o2).mono (Nat.le_of_lt hX0))
  have hp2:=fun o1 o2=>h.below (hb2 o1 o2)
  have k2:=fun o1 o2=>Kp1.of_below (vS:=vS) (hb2 o1 o2) (Nat.le_of_lt hlt)
  clear hb1 hb2
  go_wp2_with fail
  have HI:=hide (s_assume hL f (newStm L σ b) _ (hp2 (.cells #[.string (σ.p.ahead L 0).t,.int .i64 (σ.p.ahead L 0).p,.bool (isNameB (σ.p.ahead L 0).t)] 228) (.cells #[.int .i64 0,.int .i64 (σ.p.ahead L 0).p,.int .i64 b.proc,.int .i64 b.owner,.bool b.els,.int .i64 (-1),.int .i64 (-1),.slice none 0 0] 202)) rfl HC.out hce)
  unfold stv newStm at HI
  refine HI.out.mono ?_
  rintro e w5 ⟨rfl,hout⟩
  go_wp2_with fail
  go_end0
  exact ⟨rfl,by rw [← HCR.out]; exact StOut.trans (k2 _ _) hout⟩
 by_cases e3:(σ.p.ahead L 0).t = ⟨#[97,99,113,117,105,114,101]⟩
 ·have HB:Hid ((lockUseQ L σ { newStm L σ b with kind:=5 } (σ.p.ahead L 0).t,0) = r):=by show _ = _; have h:=HRUN.out; rw [if_neg e0,if_neg e1,if_neg e2,if_pos e3] at h; exact Option.some.inj h
  have hne:(σ.p.ahead L 0).t ≠ ⟨#[]⟩:=by rw [e3]; decide
  have z0:((σ.p.ahead L 0).t.toList == [105,102]) = false:=lit_ne e0 (by rw [bl])
  have z1:((σ.p.ahead L 0).t.toList == [119,104,105,108,101]) = false:=lit_ne e1 (by rw [bl])
  have z2:((σ.p.ahead L 0).t.toList == [97,115,115,117,109,101]) = false:=lit_ne e2 (by rw [bl])
  have z3:((σ.p.ahead L 0).t.toList == [97,99,113,117,105,114,101]) = true:=by rw [e3,bl]; rfl
  clear e0 e1 e2 e3
  have hse:σ.sts.length ≤ 9000:=by have:=hend; rw [← HB.out] at this; exact (show Small (lockUseQ L σ { newStm L σ b with kind:=5 } (σ.p.ahead L 0).t) from this).add.2
  go_enter Tryz.func217,Tryz.ntmps217
  go_wp2_with fail
  refine (s_ahead 0 _ hL (by omega) h0).mono ?_
  rintro e w1 ⟨rfl,hb1⟩
  have hX1:=(hb1.block _ hX0).trans hX
  have x0:w1.cell? ⟨w.heap.size,0,none⟩ = some (.int .i64 b.proc):=by simp [World.cell?,hX1]
  have x1:w1.cell? ⟨w.heap.size,1,none⟩ = some (.int .i64 b.owner):=by simp [World.cell?,hX1]
  have x2:w1.cell? ⟨w.heap.size,2,none⟩ = some (.bool b.els):=by simp [World.cell?,hX1]
  have hz1:w.heap.size < w1.heap.size:=(Array.getElem?_eq_some_iff.1 hX1).1
  have hb2:∀ o1 o2:Obj,Below w.heap.size w ((w1.alloc o1).alloc o2):=fun o1 o2=>hb0.trans ((((hb1.alloc hb1.size o1)).alloc (Nat.le_trans hb1.size (by simp)) o2).mono (Nat.le_of_lt hX0))
  have hp2:=fun o1 o2=>h.below (hb2 o1 o2)
  have k2:=fun o1 o2=>Kp1.of_below (vS:=vS) (hb2 o1 o2) (Nat.le_of_lt hlt)
  clear hb1 hb2
  go_wp2_with fail
  have HI:=hide (s_lockUse hL { newStm L σ b with kind:=5 } (σ.p.ahead L 0).t _ hne (hp2 (.cells #[.string (σ.p.ahead L 0).t,.int .i64 (σ.p.ahead L 0).p,.bool (isNameB (σ.p.ahead L 0).t)] 228) (.cells #[.int .i64 5,.int .i64 (σ.p.ahead L 0).p,.int .i64 b.proc,.int .i64 b.owner,.bool b.els,.int .i64 (-1),.int .i64 (-1),.slice none 0 0] 202)) rfl hse)
  unfold stv newStm at HI
  refine HI.out.mono ?_
  rintro e w5 ⟨rfl,hout⟩
  go_wp2_with fail
  go_end0
  exact ⟨rfl,by rw [← HB.out]; exact StOut.trans (k2 _ _) hout⟩
 by_cases e4:(σ.p.ahead L 0).t = ⟨#[114,101,108,101,97,115,101]⟩
 ·have HB:Hid ((lockUseQ L σ { newStm L σ b with kind:=6 } (σ.p.ahead L 0).t,0) = r):=by show _ = _; have h:=HRUN.out; rw [if_neg e0,if_neg e1,if_neg e2,if_neg e3,if_pos e4] at h; exact Option.some.inj h
  have hne:(σ.p.ahead L 0).t ≠ ⟨#[]⟩:=by rw [e4]; decide
  have z0:((σ.p.ahead L 0).t.toList == [105,102]) = false:=lit_ne e0 (by rw [bl])
  have z1:((σ.p.ahead L 0).t.toList == [119,104,105,108,101]) = false:=lit_ne e1 (by rw [bl])
  have z2:((σ.p.ahead L 0).t.toList == [97,115,115,117,109,101]) = false:=lit_ne e2 (by rw [bl])
  have z3:((σ.p.ahead L 0).t.toList == [97,99,113,117,105,114,101]) = false:=lit_ne e3 (by rw [bl])
  have z4:((σ.p.ahead L 0).t.toList == [114,101,108,101,97,115,101]) = true:=by rw [e4,bl]; rfl
  clear e0 e1 e2 e3 e4
  have hse:σ.sts.length ≤ 9000:=by have:=hend; rw [← HB.out] at this; exact (show Small (lockUseQ L σ { newStm L σ b with kind:=6 } (σ.p.ahead L 0).t) from this).add.2
  go_enter Tryz.func217,Tryz.ntmps217
  go_wp2_with fail
  refine (s_ahead 0 _ hL (by omega) h0).mono ?_
  rintro e w1 ⟨rfl,hb1⟩
  have hX1:=(hb1.block _ hX0).trans hX
  have x0:w1.cell? ⟨w.heap.size,0,none⟩ = some (.int .i64 b.proc):=by simp [World.cell?,hX1]
  have x1:w1.cell? ⟨w.heap.size,1,none⟩ = some (.int .i64 b.owner):=by simp [World.cell?,hX1]
  have x2:w1.cell? ⟨w.heap.size,2,none⟩ = some (.bool b.els):=by simp [World.cell?,hX1]
  have hz1:w.heap.size < w1.heap.size:=(Array.getElem?_eq_some_iff.1 hX1).1
  have hb2:∀ o1 o2:Obj,Below w.heap.size w ((w1.alloc o1).alloc o2):=fun o1 o2=>hb0.trans ((((hb1.alloc hb1.size o1)).alloc (Nat.le_trans hb1.size (by simp)) o2).mono (Nat.le_of_lt hX0))
  have hp2:=fun o1 o2=>h.below (hb2 o1 o2)
  have k2:=fun o1 o2=>Kp1.of_below (vS:=vS) (hb2 o1 o2) (Nat.le_of_lt hlt)
  clear hb1 hb2
  go_wp2_with fail
  have HI:=hide (s_lockUse hL { newStm L σ b with kind:=6 } (σ.p.ahead L 0).t _ hne (hp2 (.cells #[.string (σ.p.ahead L 0).t,.int .i64 (σ.p.ahead L 0).p,.bool (isNameB (σ.p.ahead L 0).t)] 228) (.cells #[.int .i64 6,.int .i64 (σ.p.ahead L 0).p,.int .i64 b.proc,.int .i64 b.owner,.bool b.els,.int .i64 (-1),.int .i64 (-1),.slice none 0 0] 202)) rfl hse)
  unfold stv newStm at HI
  refine HI.out.mono ?_
  rintro e w5 ⟨rfl,hout⟩
  go_wp2_with fail
  go_end0
  exact ⟨rfl,by rw [← HB.out]; exact StOut.trans (k2 _ _) hout⟩
 by_cases e5:(σ.p.ahead L 0).t = ⟨#[114,101,116,117,114,110]⟩
 ·have HB:Hid (∃ c,giveBackQ L f σ (newStm L σ b) = some c∧(c,0) = r):=by show ∃ _,_; have h:=HRUN.out; rw [if_neg e0,if_neg e1,if_neg e2,if_neg e3,if_neg e4,if_pos e5] at h; exact Option.map_eq_some_iff.1 h
  have z0:((σ.p.ahead L 0).t.toList == [105,102]) = false:=lit_ne e0 (by rw [bl])
  have z1:((σ.p.ahead L 0).t.toList == [119,104,105,108,101]) = false:=lit_ne e1 (by rw [bl])
  have z2:((σ.p.ahead L 0).t.toList == [97,115,115,117,109,101]) = false:=lit_ne e2 (by rw [bl])
  have z3:((σ.p.ahead L 0).t.toList == [97,99,113,117,105,114,101]) = false:=lit_ne e3 (by rw [bl])
  have z4:((σ.p.ahead L 0).t.toList == [114,101,108,101,97,115,101]) = false:=lit_ne e4 (by rw [bl])
  have z5:((σ.p.ahead L 0).t.toList == [114,101,116,117,114,110]) = true:=by rw [e5,bl]; rfl
  clear e0 e1 e2 e3 e4 e5
  obtain ⟨c,hc,hcr⟩:=HB.out
  have hce:Small c:=by rw [← hcr] at hend; exact hend
  have HC:=hide hc
  have HCR:=hide hcr
  clear HB hc hcr
  go_enter Tryz.func217,Tryz.ntmps217
  go_wp2_with fail
  refine (s_ahead 0 _ hL (by omega) h0).mono ?_
  rintro e w1 ⟨rfl,hb1⟩
  have hX1:=(hb1.block _ hX0).trans hX
  have x0:w1.cell? ⟨w.heap.size,0,none⟩ = some (.int .i64 b.proc):=by simp [World.cell?,hX1]
  have x1:w1.cell? ⟨w.heap.size,1,none⟩ = some (.int .i64 b.owner):=by simp [World.cell?,hX1]
  have x2:w1.cell? ⟨w.heap.size,2,none⟩ = some (.bool b.els):=by simp [World.cell?,hX1]
  have hz1:w.heap.size < w1.heap.size:=(Array.getElem?_eq_some_iff.1 hX1).1
  have hb2:∀ o1 o2:Obj,Below w.heap.size w ((w1.alloc o1).alloc o2):=fun o1 o2=>hb0.trans ((((hb1.alloc hb1.size o1)).alloc (Nat.le_trans hb1.size (by simp)) o2).mono (Nat.le_of_lt hX0))
  have hp2:=fun o1 o2=>h.below (hb2 o1 o2)
  have k2:=fun o1 o2=>Kp1.of_below (vS:=vS) (hb2 o1 o2) (Nat.le_of_lt hlt)
  clear hb1 hb2
  go_wp2_with fail
  have HI:=hide (s_giveBack hL f (newStm L σ b) _ (hp2 (.cells #[.string (σ.p.ahead L 0).t,.int .i64 (σ.p.ahead L 0).p,.bool (isNameB (σ.p.ahead L 0).t)] 228) (.cells #[.int .i64 0,.int .i64 (σ.p.ahead L 0).p,.int .i64 b.proc,.int .i64 b.owner,.bool b.els,.int .i64 (-1),.int .i64 (-1),.slice none 0 0] 202)) rfl HC.out hce)
  unfold stv newStm at HI
  refine HI.out.mono ?_
  rintro e w5 ⟨rfl,hout⟩
  go_wp2_with fail
  go_end0
  exact ⟨rfl,by rw [← HCR.out]; exact StOut.trans (k2 _ _) hout⟩
 by_cases e6:(σ.p.ahead L 0).t = ⟨#[115,107,105,112]⟩
 ·have HB:Hid ((skipQ L σ (newStm L σ b),0) = r):=by show _ = _; have h:=HRUN.out; rw [if_neg e0,if_neg e1,if_neg e2,if_neg e3,if_neg e4,if_neg e5,if_pos e6] at h; exact Option.some.inj h
  have z0:((σ.p.ahead L 0).t.toList == [105,102]) = false:=lit_ne e0 (by rw [bl])
  have z1:((σ.p.ahead L 0).t.toList == [119,104,105,108,101]) = false:=lit_ne e1 (by rw [bl])
  have z2:((σ.p.ahead L 0).t.toList == [97,115,115,117,109,101]) = false:=lit_ne e2 (by rw [bl])
  have z3:((σ.p.ahead L 0).t.toList == [97,99,113,117,105,114,101]) = false:=lit_ne e3 (by rw [bl])
  have z4:((σ.p.ahead L 0).t.toList == [114,101,108,101,97,115,101]) = false:=lit_ne e4 (by rw [bl])
  have z5:((σ.p.ahead L 0).t.toList == [114,101,116,117,114,110]) = false:=lit_ne e5 (by rw [bl])
  have z6:((σ.p.ahead L 0).t.toList == [115,107,105,112]) = true:=by rw [e6,bl]; rfl
  clear e0 e1 e2 e3 e4 e5 e6
  have hse:σ.sts.length ≤ 9000:=by have:=hend; rw [← HB.out] at this; exact (show Small (skipQ L σ (newStm L σ b)) from this).add.2
  go_enter Tryz.func217,Tryz.ntmps217
  go_wp2_with fail
  refine (s_ahead 0 _ hL (by omega) h0).mono ?_
  rintro e w1 ⟨rfl,hb1⟩
  have hX1:=(hb1.block _ hX0).trans hX
  have x0:w1.cell? ⟨w.heap.size,0,none⟩ = some (.int .i64 b.proc):=by simp [World.cell?,hX1]
  have x1:w1.cell? ⟨w.heap.size,1,none⟩ = some (.int .i64 b.owner):=by simp [World.cell?,hX1]
  have x2:w1.cell? ⟨w.heap.size,2,none⟩ = some (.bool b.els):=by simp [World.cell?,hX1]
  have hz1:w.heap.size < w1.heap.size:=(Array.getElem?_eq_some_iff.1 hX1).1
  have hb2:∀ o1 o2:Obj,Below w.heap.size w ((w1.alloc o1).alloc o2):=fun o1 o2=>hb0.trans ((((hb1.alloc hb1.size o1)).alloc (Nat.le_trans hb1.size (by simp)) o2).mono (Nat.le_of_lt hX0))
  have hp2:=fun o1 o2=>h.below (hb2 o1 o2)
  have k2:=fun o1 o2=>Kp1.of_below (vS:=vS) (hb2 o1 o2) (Nat.le_of_lt hlt)
  clear hb1 hb2
  go_wp2_with fail
  have HI:=hide (s_skip hL (newStm L σ b) _ (hp2 (.cells #[.string (σ.p.ahead L 0).t,.int .i64 (σ.p.ahead L 0).p,.bool (isNameB (σ.p.ahead L 0).t)] 228) (.cells #[.int .i64 0,.int .i64 (σ.p.ahead L 0).p,.int .i64 b.proc,.int .i64 b.owner,.bool b.els,.int .i64 (-1),.int .i64 (-1),.slice none 0 0] 202)) rfl hse)
  unfold stv newStm at HI
  refine HI.out.mono ?_
  rintro e w5 ⟨rfl,hout⟩
  go_wp2_with fail
  go_end0
  exact ⟨rfl,by rw [← HB.out]; exact StOut.trans (k2 _ _) hout⟩
 have HB:Hid (∃ c,aocQ L f σ (newStm L σ b) = some c∧(c,0) = r):=by show ∃ _,_; have h:=HRUN.out; rw [if_neg e0,if_neg e1,if_neg e2,if_neg e3,if_neg e4,if_neg e5,if_neg e6] at h; exact Option.map_eq_some_iff.1 h
 have z0:((σ.p.ahead L 0).t.toList == [105,102]) = false:=lit_ne e0 (by rw [bl])
 have z1:((σ.p.ahead L 0).t.toList == [119,104,105,108,101]) = false:=lit_ne e1 (by rw [bl])
 have z2:((σ.p.ahead L 0).t.toList == [97,115,115,117,109,101]) = false:=lit_ne e2 (by rw [bl])
 have z3:((σ.p.ahead L 0).t.toList == [97,99,113,117,105,114,101]) = false:=lit_ne e3 (by rw [bl])
 have z4:((σ.p.ahead L 0).t.toList == [114,101,108,101,97,115,101]) = false:=lit_ne e4 (by rw [bl])
 have z5:((σ.p.ahead L 0).t.toList == [114,101,116,117,114,110]) = false:=lit_ne e5 (by rw [bl])
 have z6:((σ.p.ahead L 0).t.toList == [115,107,105,112]) = false:=lit_ne e6 (by rw [bl])
 clear e0 e1 e2 e3 e4 e5 e6
 obtain ⟨c,hc,hcr⟩:=HB.out
 have hce:Small c:=by rw [← hcr] at hend; exact hend
 have HC:=hide hc
 have HCR:=hide hcr
 clear HB hc hcr
 go_enter Tryz.func217,Tryz.ntmps217
 go_wp2_with fail
 refine (s_ahead 0 _ hL (by omega) h0).mono ?_
 rintro e w1 ⟨rfl,hb1⟩
 have hX1:=(hb1.block _ hX0).trans hX
 have x0:w1.cell? ⟨w.heap.size,0,none⟩ = some (.int .i64 b.proc):=by simp [World.cell?,hX1]
 have x1:w1.cell? ⟨w.heap.size,1,none⟩ = some (.int .i64 b.owner):=by simp [World.cell?,hX1]
 have x2:w1.cell? ⟨w.heap.size,2,none⟩ = some (.bool b.els):=by simp [World.cell?,hX1]
 have hz1:w.heap.size < w1.heap.size:=(Array.getElem?_eq_some_iff.1 hX1).1
 have hb2:∀ o1 o2:Obj,Below w.heap.size w ((w1.alloc o1).alloc o2):=fun o1 o2=>hb0.trans ((((hb1.alloc hb1.size o1)).alloc (Nat.le_trans hb1.size (by simp)) o2).mono (Nat.le_of_lt hX0))
 have hp2:=fun o1 o2=>h.below (hb2 o1 o2)
 have k2:=fun o1 o2=>Kp1.of_below (vS:=vS) (hb2 o1 o2) (Nat.le_of_lt hlt)
 clear hb1 hb2
 go_wp2_with fail
 have HI:=hide (s_aoc hL f (newStm L σ b) _ (hp2 (.cells #[.string (σ.p.ahead L 0).t,.int .i64 (σ.p.ahead L 0).p,.bool (isNameB (σ.p.ahead L 0).t)] 228) (.cells #[.int .i64 0,.int .i64 (σ.p.ahead L 0).p,.int .i64 b.proc,.int .i64 b.owner,.bool b.els,.int .i64 (-1),.int .i64 (-1),.slice none 0 0] 202)) rfl HC.out hce)
 unfold stv newStm at HI
 refine HI.out.mono ?_
 rintro e w5 ⟨rfl,hout⟩
 go_wp2_with fail
 go_end0
 exact ⟨rfl,by rw [← HCR.out]; exact StOut.trans (k2 _ _) hout⟩
end Go.Proofs.YtmfcpbhdggonfaaGreatDoor
/- Contracts of the program's parser: lists of names; all statements; procedures. -/
namespace Go.Proofs.YtmfcpbhdggonfaaGreatDoor
open Go.RowKit RR
set_option maxRecDepth 100000 in
set_option maxHeartbeats 1000000 in
theorem s_takeNames {B:Nat} {ao:Option Addr} {cap:Nat} {L:List Tk} {U:Nat} (hL:L.length ≤ 500) (f:Nat) (role:Nat) (σ:QSt) (q:PSt) (vS:Value) (w:World) (h:PS B ao cap L U σ vS w) (hrun:moreP L role f (σ.p.takeName L role) = some q) :
    Calls Tryz.prog 178 #[.pointer (some ⟨B,0,none⟩),.int .i64 role] w fun e w'=>e = .returned (.tuple #[])∧PS B ao cap L U (σ.setp q) vS w'∧Kp B w w':=by
 have HR:=hide hrun
 clear hrun
 go_enter Tryz.func178,Tryz.ntmps178
 go_wp2_with fail
 refine (s_takeName role _ hL h).mono ?_
 rintro e w1 ⟨rfl,hp1,k1⟩
 go_wp2_with fail
 go_loopg [] f (fun g wr=>∃ (τ:PSt),moreP L role g τ = some q∧PS B ao cap L U (σ.setp τ) vS wr∧Kp B w wr)
 case atStart=>exact ⟨_,HR.out,hp1,k1⟩
 case round =>
  obtain ⟨τ,hl,hp,kp⟩:=hrel
  cases gk with
  | zero=>rw [moreP] at hl; cases hl
  | succ g =>
   rw [moreP] at hl
   cases hs:τ.sees L ⟨#[44]⟩
   ·rw [hs] at hl
    have HL:Hid (τ = q):=Option.some.inj hl
    have hs':(σ.setp τ).p.sees L ⟨#[44]⟩ = false:=hs
    clear hl
    go_wp2_with fail
    refine (s_accept ⟨#[44]⟩ _ hL (by decide) hp).mono ?_
    rintro e w2 ⟨rfl,hp2,k2⟩
    rw [hs'] at hp2 ⊢
    go_wp2_with fail
    go_end0
    exact ⟨rfl,by rw [← HL.out]; exact hp2,kp.trans k2⟩
   ·rw [hs] at hl
    have HA:Hid (moreP L role g (τ.step.takeName L role) = some q):=hl
    have hs':(σ.setp τ).p.sees L ⟨#[44]⟩ = true:=hs
    clear hl
    go_wp2_with fail
    refine (s_accept ⟨#[44]⟩ _ hL (by decide) hp).mono ?_
    rintro e w2 ⟨rfl,hp2,k2⟩
    rw [hs'] at hp2 ⊢
    go_wp2_with fail
    refine (s_takeName role _ hL hp2).mono ?_
    rintro e w3 ⟨rfl,hp3,k3⟩
    go_wp2_with fail
    go_roundg g
    case measure=>omega
    case rel=>exact ⟨_,HA.out,hp3,(kp.trans k2).trans k3⟩
theorem s_stmts {B:Nat} {ao:Option Addr} {cap:Nat} {L:List Tk} (hL:L.length ≤ 500):∀ f,(∀ g,g ≤ f→SaidBlock B ao cap L g)∧(∀ g,g ≤ f→SaidStmt B ao cap L g)∧(∀ g,g ≤ f→SaidBranch B ao cap L g):=by
 intro f
 induction f with
 | zero =>
  refine ⟨fun g hg=>?_,fun g hg=>?_,fun g hg=>?_⟩ <;> (have:g = 0:=by omega) <;> subst this <;> intro σ b r U vS w h hrun
  ·rw [blockQ_zero] at hrun; cases hrun
  ·rw [statementQ_zero] at hrun; cases hrun
  ·rw [branchQ_zero] at hrun; cases hrun
 | succ f ih =>
  obtain ⟨i1,i2,i3⟩:=ih
  refine ⟨fun g hg=>?_,fun g hg=>?_,fun g hg=>?_⟩
  ·by_cases e:g = f + 1
   ·subst e; exact s_block hL f (hide i2)
   ·exact i1 g (by omega)
  ·by_cases e:g = f + 1
   ·subst e; exact s_statement hL f (hide (i3 f (Nat.le_refl _))) (hide (s_loop hL f (hide (i1 f (Nat.le_refl _)))))
   ·exact i2 g (by omega)
  ·by_cases e:g = f + 1
   ·subst e; exact s_branch hL f (hide (i1 f (Nat.le_refl _)))
   ·exact i3 g (by omega)
theorem s_blockF {B:Nat} {ao:Option Addr} {cap:Nat} {L:List Tk} (hL:L.length ≤ 500) (f:Nat):SaidBlock B ao cap L f:=(s_stmts hL f).1 f (Nat.le_refl _)
set_option maxRecDepth 100000 in
set_option maxHeartbeats 2000000 in
theorem s_procedure {B:Nat} {ao:Option Addr} {cap:Nat} {L:List Tk} {U:Nat} (hL:L.length ≤ 500) (f:Nat) (σ τ:QSt) (vS:Value) (w:World) (h:PS B ao cap L U σ vS w) (hrun:procedureQ L f σ = some τ) (hend:Small τ) :
    Calls Tryz.prog 180 #[.pointer (some ⟨B,0,none⟩)] w fun e w'=>e = .returned (.tuple #[])∧StOut B ao cap L τ vS w w':=by
 have ihb:=hide (s_blockF (B:=B) (ao:=ao) (cap:=cap) hL f)
 have hlt:=h.lt
 unfold procedureQ at hrun
 dsimp only at hrun
 go_enter Tryz.func180,Tryz.ntmps180
 go_wp2_with fail
 refine (s_take ⟨#[112,114,111,99]⟩ _ hL (by decide) h).mono ?_
 rintro e w1 ⟨rfl,hp1,k1⟩
 generalize σ.p.take L ⟨#[112,114,111,99]⟩ = a at *
 obtain ⟨vN,vC,vD,hx1⟩:=hp1
 obtain ⟨c0,c1,c2,c3,c4,c5,c6,c7,c8,hf⟩:=hx1.cells
 have f3:=hf 3
 replace c3:w1.cell? ⟨B,3,none⟩ = some (.int .i64 a.proc):=c3
 clear hf
 have hfin:=ps_set (q:={ a with proc:=wrap64 (a.proc + 1) }) hx1 3 (.int .i64 (wrap64 (a.proc + 1))) rfl rfl rfl hx1.le hx1.inv
 obtain ⟨hp2,k2⟩:=hfin
 have kk:=k1.trans k2
 go_wp2_with fail
 clear c0 c1 c2 c3 c4 c5 c6 c7 c8 f3 k1 k2 hx1
 generalize w1.setCell ⟨B,3,none⟩ (.int .i64 (wrap64 (a.proc + 1))) = w2 at *
 generalize ({ a with proc:=wrap64 (a.proc + 1) }:PSt) = b at *
 have hp2':PS B ao cap L U (σ.setp b) vS w2:=hp2
 clear hp2
 refine (s_takeName 2 _ hL hp2').mono ?_
 rintro e w3 ⟨rfl,hp3,k3⟩
 go_wp2_with fail
 refine (s_enter ⟨#[40]⟩ _ hL (by decide) hp3).mono ?_
 rintro e w4 ⟨rfl,hp4',k4⟩
 have kk4:=(kk.trans k3).trans k4
 have hp4:PS B ao cap L U (σ.setp (enterP L (b.takeName L 2) ⟨#[40]⟩)) vS w4:=hp4'
 clear kk k3 k4 hp2' hp3 hp4'
 generalize enterP L (b.takeName L 2) ⟨#[40]⟩ = d at *
 obtain ⟨g,h1,h2⟩:=bindS hrun
 obtain ⟨r,h3,h4⟩:=Option.map_eq_some_iff.1 h2
 have hre:Small r.1:=by rw [← h4] at hend; exact hend.add
 have HB:=hide h3
 have HT:=hide h4
 clear hrun h2 h3 h4 h
 cases hs:d.sees L ⟨#[41]⟩
 ·rw [hs] at h1
  have HM:Hid (moreP L 3 f (d.takeName L 3) = some g):=h1
  have hs':(σ.setp d).p.sees L ⟨#[41]⟩ = false:=hs
  clear h1
  go_wp2_with fail
  refine (s_sees ⟨#[41]⟩ _ hL hp4).mono ?_
  rintro e w5 ⟨rfl,hb5⟩
  rw [hs']
  have hp5:=hp4.below hb5
  have kk5:=kk4.trans (Kp.of_below hb5 (Nat.le_of_lt hp4.lt))
  clear hb5
  go_wp2_with fail
  refine (s_takeNames hL f 3 (σ.setp d) g _ _ hp5 HM.out).mono ?_
  rintro e w6 ⟨rfl,hp6,k6⟩
  have kk6:=kk5.trans k6
  clear hp4 hp5 kk4 kk5 k6
  go_wp2_with fail
  refine (s_leave ⟨#[41]⟩ _ hL (by decide) hp6).mono ?_
  rintro e w7 ⟨rfl,hp7',k7⟩
  have hp7:PS B ao cap L U (σ.setp (leaveP L g ⟨#[41]⟩)) vS w7:=hp7'
  have kk7:=kk6.trans k7
  obtain ⟨vN7,vC7,vD7,hx7⟩:=id hp7
  obtain ⟨c0,c1,c2,c3,c4,c5,c6,c7,c8,hf⟩:=hx7.cells
  have c3':w7.cell? ⟨B,3,none⟩ = some (.int .i64 (leaveP L g ⟨#[41]⟩).proc):=c3
  have hX:(w7.alloc (.cells #[.int .i64 (leaveP L g ⟨#[41]⟩).proc,.int .i64 (-1),.bool false] 199)).heap[w7.heap.size]? = some (.cells #[.int .i64 (leaveP L g ⟨#[41]⟩).proc,.int .i64 (-1),.bool false] 199 (0,0)):=heap_alloc_new w7 _
  have hb7:Below w7.heap.size w7 (w7.alloc (.cells #[.int .i64 (leaveP L g ⟨#[41]⟩).proc,.int .i64 (-1),.bool false] 199)):=(Below.refl _ _).alloc (Nat.le_refl _) _
  have hp7b:=hp7.below hb7
  have K7:=(kk7.one vS).trans (Kp1.of_below hb7 (Nat.le_of_lt hp7.lt))
  have HBL:=hide (ihb.out (σ.setp (leaveP L g ⟨#[41]⟩)) ⟨(leaveP L g ⟨#[41]⟩).proc,-1,false⟩ r U vS _ hp7b HB.out hre)
  unfold blkv at HBL
  clear hf c0 c1 c2 c3 c4 c5 c6 c7 c8 hp7' hp7 hp7b hb7 kk7 hx7
  go_wp2_with fail
  refine HBL.out.mono ?_
  rintro e w8 ⟨rfl,U8,vS8,hp8,k8⟩
  have hX8:=k8.keep _ _ _ _ hX (by decide) (by decide) (by decide) (by decide) (fun e=>absurd e (by decide))
  have x0:w8.cell? ⟨w7.heap.size,0,none⟩ = some (.int .i64 (leaveP L g ⟨#[41]⟩).proc):=by simp [World.cell?,hX8]
  have x1:w8.cell? ⟨w7.heap.size,1,none⟩ = some (.int .i64 (-1)):=by simp [World.cell?,hX8]
  have x2:w8.cell? ⟨w7.heap.size,2,none⟩ = some (.bool false):=by simp [World.cell?,hX8]
  have K8:=K7.trans k8
  have HADD:=hide (s_add (⟨9,r.2,⟨(leaveP L g ⟨#[41]⟩).proc,-1,false⟩,-1,-1,[]⟩:Stm) none 0 0 w8 hre.2 hp8 (World.ownsRow_nil _ _ _ _) (Nat.le_refl U8) (fun g hg=>by simp [Value.ownBlock] at hg))
  clear hX hX8 K7 k8 HBL c3'
  go_wp2_with fail
  refine HADD.out.mono ?_
  rintro e w9 ⟨rfl,vS9,hp9,k9⟩
  go_wp2_with fail
  go_end0
  exact ⟨rfl,U8,vS9,by rw [← HT.out]; exact hp9,K8.trans k9⟩
 ·rw [hs] at h1
  have hdg:g = d:=(Option.some.inj h1).symm
  have hs':(σ.setp d).p.sees L ⟨#[41]⟩ = true:=hs
  subst hdg
  clear h1
  go_wp2_with fail
  refine (s_sees ⟨#[41]⟩ _ hL hp4).mono ?_
  rintro e w5 ⟨rfl,hb5⟩
  rw [hs']
  have hp6:=hp4.below hb5
  have kk6:=kk4.trans (Kp.of_below hb5 (Nat.le_of_lt hp4.lt))
  clear hb5 hp4 kk4
  go_wp2_with fail
  refine (s_leave ⟨#[41]⟩ _ hL (by decide) hp6).mono ?_
  rintro e w7 ⟨rfl,hp7',k7⟩
  have hp7:PS B ao cap L U (σ.setp (leaveP L g ⟨#[41]⟩)) vS w7:=hp7'
  have kk7:=kk6.trans k7
  obtain ⟨vN7,vC7,vD7,hx7⟩:=id hp7
  obtain ⟨c0,c1,c2,c3,c4,c5,c6,c7,c8,hf⟩:=hx7.cells
  have c3':w7.cell? ⟨B,3,none⟩ = some (.int .i64 (leaveP L g ⟨#[41]⟩).proc):=c3
  have hX:(w7.alloc (.cells #[.int .i64 (leaveP L g ⟨#[41]⟩).proc,.int .i64 (-1),.bool false] 199)).heap[w7.heap.size]? = some (.cells #[.int .i64 (leaveP L g ⟨#[41]⟩).proc,.int .i64 (-1),.bool false] 199 (0,0)):=heap_alloc_new w7 _
  have hb7:Below w7.heap.size w7 (w7.alloc (.cells #[.int .i64 (leaveP L g ⟨#[41]⟩).proc,.int .i64 (-1),.bool false] 199)):=(Below.refl _ _).alloc (Nat.le_refl _) _
  have hp7b:=hp7.below hb7
  have K7:=(kk7.one vS).trans (Kp1.of_below hb7 (Nat.le_of_lt hp7.lt))
  have HBL:=hide (ihb.out (σ.setp (leaveP L g ⟨#[41]⟩)) ⟨(leaveP L g ⟨#[41]⟩).proc,-1,false⟩ r U vS _ hp7b HB.out hre)
  unfold blkv at HBL
  clear hf c0 c1 c2 c3 c4 c5 c6 c7 c8 hp7' hp7 hp7b hb7 kk7 hx7
  go_wp2_with fail
  refine HBL.out.mono ?_
  rintro e w8 ⟨rfl,U8,vS8,hp8,k8⟩
  have hX8:=k8.keep _ _ _ _ hX (by decide) (by decide) (by decide) (by decide) (fun e=>absurd e (by decide))
  have x0:w8.cell? ⟨w7.heap.size,0,none⟩ = some (.int .i64 (leaveP L g ⟨#[41]⟩).proc):=by simp [World.cell?,hX8]
  have x1:w8.cell? ⟨w7.heap.size,1,none⟩ = some (.int .i64 (-1)):=by simp [World.cell?,hX8]
  have x2:w8.cell? ⟨w7.heap.size,2,none⟩ = some (.bool false):=by simp [World.cell?,hX8]
  have K8:=K7.trans k8
  have HADD:=hide (s_add (⟨9,r.2,⟨(leaveP L g ⟨#[41]⟩).proc,-1,false⟩,-1,-1,[]⟩:Stm) none 0 0 w8 hre.2 hp8 (World.ownsRow_nil _ _ _ _) (Nat.le_refl U8) (fun g hg=>by simp [Value.ownBlock] at hg))
  clear hX hX8 K7 k8 HBL c3'
  go_wp2_with fail
  refine HADD.out.mono ?_
  rintro e w9 ⟨rfl,vS9,hp9,k9⟩
  go_wp2_with fail
  go_end0
  exact ⟨rfl,U8,vS9,by rw [← HT.out]; exact hp9,K8.trans k9⟩
end Go.Proofs.YtmfcpbhdggonfaaGreatDoor
/- Contracts of the program's parser: the program whole. -/
namespace Go.Proofs.YtmfcpbhdggonfaaGreatDoor
open Go.RowKit RR
set_option maxRecDepth 100000 in
set_option maxHeartbeats 2000000 in
theorem s_program00 {B:Nat} {ao:Option Addr} {cap:Nat} {L:List Tk} {U:Nat} (hL:L.length ≤ 500) (f:Nat) (σ c d τ:QSt) (a b q:PSt) (vS:Value) (w:World) (hp0:PS B ao cap L U σ vS w)
    (hs0:σ.p.sees L ⟨#[115,104,97,114,101,100]⟩ = false) (HT0:Hid (σ.p = a)) (hs1:(σ.setp a).p.sees L ⟨#[108,111,99,107,115]⟩ = false) (HT1:Hid (a = b))
    (HC:Hid (procedureQ L f (σ.setp b) = some c)) (HD:Hid (procsQ L f c = some d)) (hcs:Small c) (hds:Small d) (HQ:Hid (moreP L 7 f ((d.p.take L ⟨#[116,104,114,101,97,100,115]⟩).takeName L 7) = some q)) (HE:Hid (d.setp (takeEndP L (q.take L ⟨#[59]⟩)) = τ)) :
    Calls Tryz.prog 136 #[.pointer (some ⟨B,0,none⟩)] w fun e w'=>e = .returned (.tuple #[])∧StOut B ao cap L τ vS w w':=by
 have kk0:=Kp.refl B w
 go_enter Tryz.func136,Tryz.ntmps136
 go_wp2_with fail
 refine (s_accept ⟨#[115,104,97,114,101,100]⟩ _ hL (by decide) hp0).mono ?_
 rintro e w0a ⟨rfl,hp0a,k0a⟩
 rw [hs0] at hp0a ⊢
 have kk0a:=kk0.trans k0a
 have hp1:PS B ao cap L U (σ.setp a) vS w0a:=by rw [← HT0.out]; exact hp0a
 have kk1:=kk0a
 go_wp2_with fail
 refine (s_accept ⟨#[108,111,99,107,115]⟩ _ hL (by decide) hp1).mono ?_
 rintro e w1a ⟨rfl,hp1a,k1a⟩
 rw [hs1] at hp1a ⊢
 have kk1a:=kk1.trans k1a
 have hp2:PS B ao cap L U (σ.setp b) vS w1a:=by rw [← HT1.out]; exact hp1a
 have kk2:=kk1a
 go_wp2_with fail
 refine (s_procedure hL f (σ.setp b) c _ _ hp2 HC.out hcs).mono ?_
 rintro e w3 ⟨rfl,U3,vS3,hp3,k3⟩
 have kk3:=(kk2.one vS).trans k3
 clear kk2 k3 kk0
 go_wp2_with fail
 go_loopg [] f (fun g wr=>∃ (υ:QSt) (U4:Nat) (vS4:Value),g ≤ f∧procsQ L g υ = some d∧PS B ao cap L U4 υ vS4 wr∧Kp1 B vS w vS4 wr)
 case atStart=>exact ⟨c,U3,vS3,Nat.le_refl _,HD.out,hp3,kk3⟩
 case round =>
  obtain ⟨υ,U4,vS4,hg,hl,hp,kp⟩:=hrel
  clear hp3 kk3
  cases gk with
  | zero=>rw [procsQ] at hl; cases hl
  | succ g =>
   rw [procsQ] at hl
   cases hs:υ.p.sees L ⟨#[112,114,111,99]⟩
   ·rw [hs] at hl
    have HL:Hid (υ = d):=Option.some.inj hl
    clear hl
    rw [HL.out] at hp hs
    go_wp2_with fail
    refine (s_sees ⟨#[112,114,111,99]⟩ _ hL hp).mono ?_
    rintro e w5 ⟨rfl,hb5⟩
    rw [hs]
    have hp5:=hp.below hb5
    have kk5:=kp.trans (Kp1.of_below hb5 (Nat.le_of_lt hp.lt))
    clear hb5
    go_wp2_with fail
    refine (s_take ⟨#[116,104,114,101,97,100,115]⟩ _ hL (by decide) hp5).mono ?_
    rintro e w6 ⟨rfl,hp6,k6⟩
    go_wp2_with fail
    refine (s_takeNames hL f 7 _ q _ _ hp6 HQ.out).mono ?_
    rintro e w7 ⟨rfl,hp7,k7⟩
    go_wp2_with fail
    refine (s_take ⟨#[59]⟩ _ hL (by decide) hp7).mono ?_
    rintro e w8 ⟨rfl,hp8,k8⟩
    go_wp2_with fail
    refine (s_takeEnd _ hL hp8).mono ?_
    rintro e w9 ⟨rfl,hp9,k9⟩
    go_wp2_with fail
    go_end0
    exact ⟨rfl,U4,vS4,by rw [← HE.out]; exact hp9,kk5.trans ((((k6.trans k7).trans k8).trans k9).one vS4)⟩
   ·rw [hs] at hl
    obtain ⟨x,h1,h2⟩:=bindS hl
    have hxs:Small x:=by have:=(pg_procs L g _ _ h2).2; exact ⟨Nat.le_trans this.1 hds.1,Nat.le_trans this.2 hds.2⟩
    have HA:=hide h1
    have HB:=hide h2
    clear hl h1 h2
    go_wp2_with fail
    refine (s_sees ⟨#[112,114,111,99]⟩ _ hL hp).mono ?_
    rintro e w5 ⟨rfl,hb5⟩
    rw [hs]
    have hp5:=hp.below hb5
    have kk5:=kp.trans (Kp1.of_below hb5 (Nat.le_of_lt hp.lt))
    clear hb5
    go_wp2_with fail
    refine (s_procedure hL g υ x _ _ hp5 HA.out hxs).mono ?_
    rintro e w6 ⟨rfl,U6,vS6,hp6,k6⟩
    go_wp2_with fail
    go_roundg g
    case measure=>omega
    case rel=>exact ⟨x,U6,vS6,by omega,HB.out,hp6,kk5.trans k6⟩
set_option maxRecDepth 100000 in
set_option maxHeartbeats 2000000 in
theorem s_program01 {B:Nat} {ao:Option Addr} {cap:Nat} {L:List Tk} {U:Nat} (hL:L.length ≤ 500) (f:Nat) (σ c d τ:QSt) (a b q:PSt) (vS:Value) (w:World) (hp0:PS B ao cap L U σ vS w)
    (hs0:σ.p.sees L ⟨#[115,104,97,114,101,100]⟩ = false) (HT0:Hid (σ.p = a)) (hs1:(σ.setp a).p.sees L ⟨#[108,111,99,107,115]⟩ = true) (m1:PSt) (HM1:Hid (moreP L 1 f (a.step.takeName L 1) = some m1)) (HT1:Hid (m1.take L ⟨#[59]⟩ = b))
    (HC:Hid (procedureQ L f (σ.setp b) = some c)) (HD:Hid (procsQ L f c = some d)) (hcs:Small c) (hds:Small d) (HQ:Hid (moreP L 7 f ((d.p.take L ⟨#[116,104,114,101,97,100,115]⟩).takeName L 7) = some q)) (HE:Hid (d.setp (takeEndP L (q.take L ⟨#[59]⟩)) = τ)) :
    Calls Tryz.prog 136 #[.pointer (some ⟨B,0,none⟩)] w fun e w'=>e = .returned (.tuple #[])∧StOut B ao cap L τ vS w w':=by
 have kk0:=Kp.refl B w
 go_enter Tryz.func136,Tryz.ntmps136
 go_wp2_with fail
 refine (s_accept ⟨#[115,104,97,114,101,100]⟩ _ hL (by decide) hp0).mono ?_
 rintro e w0a ⟨rfl,hp0a,k0a⟩
 rw [hs0] at hp0a ⊢
 have kk0a:=kk0.trans k0a
 have hp1:PS B ao cap L U (σ.setp a) vS w0a:=by rw [← HT0.out]; exact hp0a
 have kk1:=kk0a
 go_wp2_with fail
 refine (s_accept ⟨#[108,111,99,107,115]⟩ _ hL (by decide) hp1).mono ?_
 rintro e w1a ⟨rfl,hp1a,k1a⟩
 rw [hs1] at hp1a ⊢
 have kk1a:=kk1.trans k1a
 go_wp2_with fail
 refine (s_takeNames hL f 1 _ m1 _ _ hp1a HM1.out).mono ?_
 rintro e w1b ⟨rfl,hp1b,k1b⟩
 go_wp2_with fail
 refine (s_take ⟨#[59]⟩ _ hL (by decide) hp1b).mono ?_
 rintro e w1c ⟨rfl,hp1c,k1c⟩
 have hp2:PS B ao cap L U (σ.setp b) vS w1c:=by rw [← HT1.out]; exact hp1c
 have kk2:=(kk1a.trans k1b).trans k1c
 go_wp2_with fail
 refine (s_procedure hL f (σ.setp b) c _ _ hp2 HC.out hcs).mono ?_
 rintro e w3 ⟨rfl,U3,vS3,hp3,k3⟩
 have kk3:=(kk2.one vS).trans k3
 clear kk2 k3 kk0
 go_wp2_with fail
 go_loopg [] f (fun g wr=>∃ (υ:QSt) (U4:Nat) (vS4:Value),g ≤ f∧procsQ L g υ = some d∧PS B ao cap L U4 υ vS4 wr∧Kp1 B vS w vS4 wr)
 case atStart=>exact ⟨c,U3,vS3,Nat.le_refl _,HD.out,hp3,kk3⟩
 case round =>
  obtain ⟨υ,U4,vS4,hg,hl,hp,kp⟩:=hrel
  clear hp3 kk3
  cases gk with
  | zero=>rw [procsQ] at hl; cases hl
  | succ g =>
   rw [procsQ] at hl
   cases hs:υ.p.sees L ⟨#[112,114,111,99]⟩
   ·rw [hs] at hl
    have HL:Hid (υ = d):=Option.some.inj hl
    clear hl
    rw [HL.out] at hp hs
    go_wp2_with fail
    refine (s_sees ⟨#[112,114,111,99]⟩ _ hL hp).mono ?_
    rintro e w5 ⟨rfl,hb5⟩
    rw [hs]
    have hp5:=hp.below hb5
    have kk5:=kp.trans (Kp1.of_below hb5 (Nat.le_of_lt hp.lt))
    clear hb5
    go_wp2_with fail
    refine (s_take ⟨#[116,104,114,101,97,100,115]⟩ _ hL (by decide) hp5).mono ?_
    rintro e w6 ⟨rfl,hp6,k6⟩
    go_wp2_with fail
    refine (s_takeNames hL f 7 _ q _ _ hp6 HQ.out).mono ?_
    rintro e w7 ⟨rfl,hp7,k7⟩
    go_wp2_with fail
    refine (s_take ⟨#[59]⟩ _ hL (by decide) hp7).mono ?_
    rintro e w8 ⟨rfl,hp8,k8⟩
    go_wp2_with fail
    refine (s_takeEnd _ hL hp8).mono ?_
    rintro e w9 ⟨rfl,hp9,k9⟩
    go_wp2_with fail
    go_end0
    exact ⟨rfl,U4,vS4,by rw [← HE.out]; exact hp9,kk5.trans ((((k6.trans k7).trans k8).trans k9).one vS4)⟩
   ·rw [hs] at hl
    obtain ⟨x,h1,h2⟩:=bindS hl
    have hxs:Small x:=by have:=(pg_procs L g _ _ h2).2; exact ⟨Nat.le_trans this.1 hds.1,Nat.le_trans this.2 hds.2⟩
    have HA:=hide h1
    have HB:=hide h2
    clear hl h1 h2
    go_wp2_with fail
    refine (s_sees ⟨#[112,114,111,99]⟩ _ hL hp).mono ?_
    rintro e w5 ⟨rfl,hb5⟩
    rw [hs]
    have hp5:=hp.below hb5
    have kk5:=kp.trans (Kp1.of_below hb5 (Nat.le_of_lt hp.lt))
    clear hb5
    go_wp2_with fail
    refine (s_procedure hL g υ x _ _ hp5 HA.out hxs).mono ?_
    rintro e w6 ⟨rfl,U6,vS6,hp6,k6⟩
    go_wp2_with fail
    go_roundg g
    case measure=>omega
    case rel=>exact ⟨x,U6,vS6,by omega,HB.out,hp6,kk5.trans k6⟩
set_option maxRecDepth 100000 in
set_option maxHeartbeats 2000000 in
theorem s_program10 {B:Nat} {ao:Option Addr} {cap:Nat} {L:List Tk} {U:Nat} (hL:L.length ≤ 500) (f:Nat) (σ c d τ:QSt) (a b q:PSt) (vS:Value) (w:World) (hp0:PS B ao cap L U σ vS w)
    (hs0:σ.p.sees L ⟨#[115,104,97,114,101,100]⟩ = true) (m0:PSt) (HM0:Hid (moreP L 0 f (σ.p.step.takeName L 0) = some m0)) (HT0:Hid (m0.take L ⟨#[59]⟩ = a)) (hs1:(σ.setp a).p.sees L ⟨#[108,111,99,107,115]⟩ = false) (HT1:Hid (a = b))
    (HC:Hid (procedureQ L f (σ.setp b) = some c)) (HD:Hid (procsQ L f c = some d)) (hcs:Small c) (hds:Small d) (HQ:Hid (moreP L 7 f ((d.p.take L ⟨#[116,104,114,101,97,100,115]⟩).takeName L 7) = some q)) (HE:Hid (d.setp (takeEndP L (q.take L ⟨#[59]⟩)) = τ)) :
    Calls Tryz.prog 136 #[.pointer (some ⟨B,0,none⟩)] w fun e w'=>e = .returned (.tuple #[])∧StOut B ao cap L τ vS w w':=by
 have kk0:=Kp.refl B w
 go_enter Tryz.func136,Tryz.ntmps136
 go_wp2_with fail
 refine (s_accept ⟨#[115,104,97,114,101,100]⟩ _ hL (by decide) hp0).mono ?_
 rintro e w0a ⟨rfl,hp0a,k0a⟩
 rw [hs0] at hp0a ⊢
 have kk0a:=kk0.trans k0a
 go_wp2_with fail
 refine (s_takeNames hL f 0 _ m0 _ _ hp0a HM0.out).mono ?_
 rintro e w0b ⟨rfl,hp0b,k0b⟩
 go_wp2_with fail
 refine (s_take ⟨#[59]⟩ _ hL (by decide) hp0b).mono ?_
 rintro e w0c ⟨rfl,hp0c,k0c⟩
 have hp1:PS B ao cap L U (σ.setp a) vS w0c:=by rw [← HT0.out]; exact hp0c
 have kk1:=(kk0a.trans k0b).trans k0c
 go_wp2_with fail
 refine (s_accept ⟨#[108,111,99,107,115]⟩ _ hL (by decide) hp1).mono ?_
 rintro e w1a ⟨rfl,hp1a,k1a⟩
 rw [hs1] at hp1a ⊢
 have kk1a:=kk1.trans k1a
 have hp2:PS B ao cap L U (σ.setp b) vS w1a:=by rw [← HT1.out]; exact hp1a
 have kk2:=kk1a
 go_wp2_with fail
 refine (s_procedure hL f (σ.setp b) c _ _ hp2 HC.out hcs).mono ?_
 rintro e w3 ⟨rfl,U3,vS3,hp3,k3⟩
 have kk3:=(kk2.one vS).trans k3
 clear kk2 k3 kk0
 go_wp2_with fail
 go_loopg [] f (fun g wr=>∃ (υ:QSt) (U4:Nat) (vS4:Value),g ≤ f∧procsQ L g υ = some d∧PS B ao cap L U4 υ vS4 wr∧Kp1 B vS w vS4 wr)
 case atStart=>exact ⟨c,U3,vS3,Nat.le_refl _,HD.out,hp3,kk3⟩
 case round =>
  obtain ⟨υ,U4,vS4,hg,hl,hp,kp⟩:=hrel
  clear hp3 kk3
  cases gk with
  | zero=>rw [procsQ] at hl; cases hl
  | succ g =>
   rw [procsQ] at hl
   cases hs:υ.p.sees L ⟨#[112,114,111,99]⟩
   ·rw [hs] at hl
    have HL:Hid (υ = d):=Option.some.inj hl
    clear hl
    rw [HL.out] at hp hs
    go_wp2_with fail
    refine (s_sees ⟨#[112,114,111,99]⟩ _ hL hp).mono ?_
    rintro e w5 ⟨rfl,hb5⟩
    rw [hs]
    have hp5:=hp.below hb5
    have kk5:=kp.trans (Kp1.of_below hb5 (Nat.le_of_lt hp.lt))
    clear hb5
    go_wp2_with fail
    refine (s_take ⟨#[116,104,114,101,97,100,115]⟩ _ hL (by decide) hp5).mono ?_
    rintro e w6 ⟨rfl,hp6,k6⟩
    go_wp2_with fail
    refine (s_takeNames hL f 7 _ q _ _ hp6 HQ.out).mono ?_
    rintro e w7 ⟨rfl,hp7,k7⟩
    go_wp2_with fail
    refine (s_take ⟨#[59]⟩ _ hL (by decide) hp7).mono ?_
    rintro e w8 ⟨rfl,hp8,k8⟩
    go_wp2_with fail
    refine (s_takeEnd _ hL hp8).mono ?_
    rintro e w9 ⟨rfl,hp9,k9⟩
    go_wp2_with fail
    go_end0
    exact ⟨rfl,U4,vS4,by rw [← HE.out]; exact hp9,kk5.trans ((((k6.trans k7).trans k8).trans k9).one vS4)⟩
   ·rw [hs] at hl
    obtain ⟨x,h1,h2⟩:=bindS hl
    have hxs:Small x:=by have:=(pg_procs L g _ _ h2).2; exact ⟨Nat.le_trans this.1 hds.1,Nat.le_trans this.2 hds.2⟩
    have HA:=hide h1
    have HB:=hide h2
    clear hl h1 h2
    go_wp2_with fail
    refine (s_sees ⟨#[112,114,111,99]⟩ _ hL hp).mono ?_
    rintro e w5 ⟨rfl,hb5⟩
    rw [hs]
    have hp5:=hp.below hb5
    have kk5:=kp.trans (Kp1.of_below hb5 (Nat.le_of_lt hp.lt))
    clear hb5
    go_wp2_with fail
    refine (s_procedure hL g υ x _ _ hp5 HA.out hxs).mono ?_
    rintro e w6 ⟨rfl,U6,vS6,hp6,k6⟩
    go_wp2_with fail
    go_roundg g
    case measure=>omega
    case rel=>exact ⟨x,U6,vS6,by omega,HB.out,hp6,kk5.trans k6⟩
set_option maxRecDepth 100000 in
set_option maxHeartbeats 2000000 in
theorem s_program11 {B:Nat} {ao:Option Addr} {cap:Nat} {L:List Tk} {U:Nat} (hL:L.length ≤ 500) (f:Nat) (σ c d τ:QSt) (a b q:PSt) (vS:Value) (w:World) (hp0:PS B ao cap L U σ vS w)
    (hs0:σ.p.sees L ⟨#[115,104,97,114,101,100]⟩ = true) (m0:PSt) (HM0:Hid (moreP L 0 f (σ.p.step.takeName L 0) = some m0)) (HT0:Hid (m0.take L ⟨#[59]⟩ = a)) (hs1:(σ.setp a).p.sees L ⟨#[108,111,99,107,115]⟩ = true) (m1:PSt) (HM1:Hid (moreP L 1 f (a.step.takeName L 1) = some m1)) (HT1:Hid (m1.take L ⟨#[59]⟩ = b))
    (HC:Hid (procedureQ L f (σ.setp b) = some c)) (HD:Hid (procsQ L f c = some d)) (hcs:Small c) (hds:Small d) (HQ:Hid (moreP L 7 f ((d.p.take L ⟨#[116,104,114,101,97,100,115]⟩).takeName L 7) = some q)) (HE:Hid (d.setp (takeEndP L (q.take L ⟨#[59]⟩)) = τ)) :
    Calls Tryz.prog 136 #[.pointer (some ⟨B,0,none⟩)] w fun e w'=>e = .returned (.tuple #[])∧StOut B ao cap L τ vS w w':=by
 have kk0:=Kp.refl B w
 go_enter Tryz.func136,Tryz.ntmps136
 go_wp2_with fail
 refine (s_accept ⟨#[115,104,97,114,101,100]⟩ _ hL (by decide) hp0).mono ?_
 rintro e w0a ⟨rfl,hp0a,k0a⟩
 rw [hs0] at hp0a ⊢
 have kk0a:=kk0.trans k0a
 go_wp2_with fail
 refine (s_takeNames hL f 0 _ m0 _ _ hp0a HM0.out).mono ?_
 rintro e w0b ⟨rfl,hp0b,k0b⟩
 go_wp2_with fail
 refine (s_take ⟨#[59]⟩ _ hL (by decide) hp0b).mono ?_
 rintro e w0c ⟨rfl,hp0c,k0c⟩
 have hp1:PS B ao cap L U (σ.setp a) vS w0c:=by rw [← HT0.out]; exact hp0c
 have kk1:=(kk0a.trans k0b).trans k0c
 go_wp2_with fail
 refine (s_accept ⟨#[108,111,99,107,115]⟩ _ hL (by decide) hp1).mono ?_
 rintro e w1a ⟨rfl,hp1a,k1a⟩
 rw [hs1] at hp1a ⊢
 have kk1a:=kk1.trans k1a
 go_wp2_with fail
 refine (s_takeNames hL f 1 _ m1 _ _ hp1a HM1.out).mono ?_
 rintro e w1b ⟨rfl,hp1b,k1b⟩
 go_wp2_with fail
 refine (s_take ⟨#[59]⟩ _ hL (by decide) hp1b).mono ?_
 rintro e w1c ⟨rfl,hp1c,k1c⟩
 have hp2:PS B ao cap L U (σ.setp b) vS w1c:=by rw [← HT1.out]; exact hp1c
 have kk2:=(kk1a.trans k1b).trans k1c
 go_wp2_with fail
 refine (s_procedure hL f (σ.setp b) c _ _ hp2 HC.out hcs).mono ?_
 rintro e w3 ⟨rfl,U3,vS3,hp3,k3⟩
 have kk3:=(kk2.one vS).trans k3
 clear kk2 k3 kk0
 go_wp2_with fail
 go_loopg [] f (fun g wr=>∃ (υ:QSt) (U4:Nat) (vS4:Value),g ≤ f∧procsQ L g υ = some d∧PS B ao cap L U4 υ vS4 wr∧Kp1 B vS w vS4 wr)
 case atStart=>exact ⟨c,U3,vS3,Nat.le_refl _,HD.out,hp3,kk3⟩
 case round =>
  obtain ⟨υ,U4,vS4,hg,hl,hp,kp⟩:=hrel
  clear hp3 kk3
  cases gk with
  | zero=>rw [procsQ] at hl; cases hl
  | succ g =>
   rw [procsQ] at hl
   cases hs:υ.p.sees L ⟨#[112,114,111,99]⟩
   ·rw [hs] at hl
    have HL:Hid (υ = d):=Option.some.inj hl
    clear hl
    rw [HL.out] at hp hs
    go_wp2_with fail
    refine (s_sees ⟨#[112,114,111,99]⟩ _ hL hp).mono ?_
    rintro e w5 ⟨rfl,hb5⟩
    rw [hs]
    have hp5:=hp.below hb5
    have kk5:=kp.trans (Kp1.of_below hb5 (Nat.le_of_lt hp.lt))
    clear hb5
    go_wp2_with fail
    refine (s_take ⟨#[116,104,114,101,97,100,115]⟩ _ hL (by decide) hp5).mono ?_
    rintro e w6 ⟨rfl,hp6,k6⟩
    go_wp2_with fail
    refine (s_takeNames hL f 7 _ q _ _ hp6 HQ.out).mono ?_
    rintro e w7 ⟨rfl,hp7,k7⟩
    go_wp2_with fail
    refine (s_take ⟨#[59]⟩ _ hL (by decide) hp7).mono ?_
    rintro e w8 ⟨rfl,hp8,k8⟩
    go_wp2_with fail
    refine (s_takeEnd _ hL hp8).mono ?_
    rintro e w9 ⟨rfl,hp9,k9⟩
    go_wp2_with fail
    go_end0
    exact ⟨rfl,U4,vS4,by rw [← HE.out]; exact hp9,kk5.trans ((((k6.trans k7).trans k8).trans k9).one vS4)⟩
   ·rw [hs] at hl
    obtain ⟨x,h1,h2⟩:=bindS hl
    have hxs:Small x:=by have:=(pg_procs L g _ _ h2).2; exact ⟨Nat.le_trans this.1 hds.1,Nat.le_trans this.2 hds.2⟩
    have HA:=hide h1
    have HB:=hide h2
    clear hl h1 h2
    go_wp2_with fail
    refine (s_sees ⟨#[112,114,111,99]⟩ _ hL hp).mono ?_
    rintro e w5 ⟨rfl,hb5⟩
    rw [hs]
    have hp5:=hp.below hb5
    have kk5:=kp.trans (Kp1.of_below hb5 (Nat.le_of_lt hp.lt))
    clear hb5
    go_wp2_with fail
    refine (s_procedure hL g υ x _ _ hp5 HA.out hxs).mono ?_
    rintro e w6 ⟨rfl,U6,vS6,hp6,k6⟩
    go_wp2_with fail
    go_roundg g
    case measure=>omega
    case rel=>exact ⟨x,U6,vS6,by omega,HB.out,hp6,kk5.trans k6⟩
theorem s_program {B:Nat} {ao:Option Addr} {cap:Nat} {L:List Tk} {U:Nat} (hL:L.length ≤ 500) (f:Nat) (σ τ:QSt) (vS:Value) (w:World) (h:PS B ao cap L U σ vS w) (hrun:programQ L f σ = some τ) (hend:Small τ) :
    Calls Tryz.prog 136 #[.pointer (some ⟨B,0,none⟩)] w fun e w'=>e = .returned (.tuple #[])∧StOut B ao cap L τ vS w w':=by
 unfold programQ at hrun
 obtain ⟨a,h1,hrun⟩:=bindS hrun
 obtain ⟨b,h2,hrun⟩:=bindS hrun
 obtain ⟨c,h3,hrun⟩:=bindS hrun
 obtain ⟨d,h4,hrun⟩:=bindS hrun
 obtain ⟨q,h5,h6⟩:=Option.map_eq_some_iff.1 hrun
 have hds:Small d:=by rw [← h6] at hend; exact hend
 have hcs:Small c:=by have:=(pg_procs L f _ _ h4).2; exact ⟨Nat.le_trans this.1 hds.1,Nat.le_trans this.2 hds.2⟩
 unfold listP at h1 h2
 cases hs0:σ.p.sees L ⟨#[115,104,97,114,101,100]⟩
 ·rw [hs0] at h1
  have e0:σ.p = a:=Option.some.inj h1
  cases hs1:a.sees L ⟨#[108,111,99,107,115]⟩
  ·rw [hs1] at h2
   exact s_program00 hL f σ c d τ a b q vS w h hs0 (hide e0) hs1 (hide (Option.some.inj h2)) (hide h3) (hide h4) hcs hds (hide h5) (hide h6)
  ·rw [hs1] at h2
   obtain ⟨m1,h7,h8⟩:=Option.map_eq_some_iff.1 h2
   exact s_program01 hL f σ c d τ a b q vS w h hs0 (hide e0) hs1 m1 (hide h7) (hide h8) (hide h3) (hide h4) hcs hds (hide h5) (hide h6)
 ·rw [hs0] at h1
  obtain ⟨m0,h9,h10⟩:=Option.map_eq_some_iff.1 h1
  cases hs1:a.sees L ⟨#[108,111,99,107,115]⟩
  ·rw [hs1] at h2
   exact s_program10 hL f σ c d τ a b q vS w h hs0 m0 (hide h9) (hide h10) hs1 (hide (Option.some.inj h2)) (hide h3) (hide h4) hcs hds (hide h5) (hide h6)
  ·rw [hs1] at h2
   obtain ⟨m1,h7,h8⟩:=Option.map_eq_some_iff.1 h2
   exact s_program11 hL f σ c d τ a b q vS w h hs0 m0 (hide h9) (hide h10) hs1 m1 (hide h7) (hide h8) (hide h3) (hide h4) hcs hds (hide h5) (hide h6)
end Go.Proofs.YtmfcpbhdggonfaaGreatDoor
/- Contracts of the program: syntax.Read. -/
namespace Go.Proofs.YtmfcpbhdggonfaaGreatDoor
open Go.RowKit RR
def start0:PSt:=⟨0,0,-1,false,[],[]⟩
theorem tok3_of_owns {w:World} {base B:Nat} {v:Value} {L:List Tk} (h:w.ownsRow base 228 3 v L.length (toks3 L)) (hB:w.heap.size ≤ B):∃ ao cap,v = .slice ao L.length cap∧Tok3 w B ao L:=by
 obtain ⟨h1,h2 | ⟨g,cap,cur,hv,hb,hh,hcap,hmax,hsz,htk⟩⟩:=h
 ·refine ⟨none,0,?_,fun i hi=>by omega⟩
  rw [h2.1,h2.2]
 ·refine ⟨some ⟨g,0,none⟩,cap,hv,fun i hi=>⟨g,0,Nat.lt_of_lt_of_le (Array.getElem?_eq_some_iff.1 hh).1 hB,rfl,?_⟩⟩
  have key:∀ j,j < L.length * 3→w.cell? ⟨g,0 + j,none⟩ = (toks3 L)[j]?:=by
   intro j hj
   have e2:(cur.toList.take (L.length * 3))[j]? = (toks3 L)[j]?:=by rw [htk]
   rw [List.getElem?_take_of_lt hj,Array.getElem?_toList] at e2
   simp only [World.cell?,hh,Nat.zero_add]
   exact e2
  have:=toks3_get L i hi
  exact ⟨(key (i * 3) (by omega)).trans this.1,(key (i * 3 + 1) (by omega)).trans this.2.1,(key (i * 3 + 2) (by omega)).trans this.2.2⟩
theorem nms_get (a:List Nm) (i:Nat) (h:i < a.length):(nms a)[i * 4]? = some (.string a[i].word)∧(nms a)[i * 4 + 1]? = some (.int .i64 a[i].at_)∧(nms a)[i * 4 + 2]? = some (.int .i64 a[i].role)∧(nms a)[i * 4 + 3]? = some (.int .i64 a[i].proc):=by
 induction a generalizing i with
 | nil=>cases h
 | cons t r ih =>
  cases i with
  | zero=>exact ⟨rfl,rfl,rfl,rfl⟩
  | succ k =>
   have:=ih k (by simpa using h)
   rw [show (k + 1) * 4 = k * 4 + 1 + 1 + 1 + 1 from by omega]
   exact this
theorem cls_get (a:List Cl) (i:Nat) (h:i < a.length):(cls a)[i * 3]? = some (.string a[i].word)∧(cls a)[i * 3 + 1]? = some (.int .i64 a[i].at_)∧(cls a)[i * 3 + 2]? = some (.int .i64 a[i].values):=by
 induction a generalizing i with
 | nil=>cases h
 | cons t r ih =>
  cases i with
  | zero=>exact ⟨rfl,rfl,rfl⟩
  | succ k =>
   have:=ih k (by simpa using h)
   rw [show (k + 1) * 3 = k * 3 + 1 + 1 + 1 from by omega]
   exact this
theorem nmSl_of_owns {w:World} {base:Nat} {v:Value} {l:List Nm} (h:w.ownsRow base 186 4 v l.length (nms l)):∃ ao cap,v = .slice ao l.length cap∧NmSl w ao l:=by
 obtain ⟨h1,h2 | ⟨g,cap,cur,hv,hb,hh,hcap,hmax,hsz,htk⟩⟩:=h
 ·refine ⟨none,0,?_,fun i hi=>by omega⟩
  rw [h2.1,h2.2]
 ·refine ⟨some ⟨g,0,none⟩,cap,hv,fun i hi=>⟨g,0,(Array.getElem?_eq_some_iff.1 hh).1,rfl,?_⟩⟩
  have key:∀ j,j < l.length * 4→w.cell? ⟨g,0 + j,none⟩ = (nms l)[j]?:=by
   intro j hj
   have e2:(cur.toList.take (l.length * 4))[j]? = (nms l)[j]?:=by rw [htk]
   rw [List.getElem?_take_of_lt hj,Array.getElem?_toList] at e2
   simp only [World.cell?,hh,Nat.zero_add]
   exact e2
  have:=nms_get l i hi
  exact ⟨(key (i * 4) (by omega)).trans this.1,(key (i * 4 + 1) (by omega)).trans this.2.1,(key (i * 4 + 2) (by omega)).trans this.2.2.1,(key (i * 4 + 3) (by omega)).trans this.2.2.2⟩
theorem clSl_of_owns {w:World} {base:Nat} {v:Value} {l:List Cl} (h:w.ownsRow base 286 3 v l.length (cls l)):∃ ao cap,v = .slice ao l.length cap∧ClSl w ao l:=by
 obtain ⟨h1,h2 | ⟨g,cap,cur,hv,hb,hh,hcap,hmax,hsz,htk⟩⟩:=h
 ·refine ⟨none,0,?_,fun i hi=>by omega⟩
  rw [h2.1,h2.2]
 ·refine ⟨some ⟨g,0,none⟩,cap,hv,fun i hi=>⟨g,0,(Array.getElem?_eq_some_iff.1 hh).1,rfl,?_⟩⟩
  have key:∀ j,j < l.length * 3→w.cell? ⟨g,0 + j,none⟩ = (cls l)[j]?:=by
   intro j hj
   have e2:(cur.toList.take (l.length * 3))[j]? = (cls l)[j]?:=by rw [htk]
   rw [List.getElem?_take_of_lt hj,Array.getElem?_toList] at e2
   simp only [World.cell?,hh,Nat.zero_add]
   exact e2
  have:=cls_get l i hi
  exact ⟨(key (i * 3) (by omega)).trans this.1,(key (i * 3 + 1) (by omega)).trans this.2.1,(key (i * 3 + 2) (by omega)).trans this.2.2⟩
def set4 (w:World) (A:Nat) (x y z u:Value):World:=(((w.setCell ⟨A,0,none⟩ x).setCell ⟨A,1,none⟩ y).setCell ⟨A,2,none⟩ z).setCell ⟨A,3,none⟩ u
theorem four_set {w:World} {A:Nat} {a b c d x y z u:Value} {T:TypeId} (hA:w.heap[A]? = some (.cells #[a,b,c,d] T (0,0))):(set4 w A x y z u).heap[A]? = some (.cells #[x,y,z,u] T (0,0)):=cts_set (cts_set (cts_set (cts_set hA 0 x) 1 y) 2 z) 3 u
theorem set4_below {W w:World} {A:Nat} (h:Below A W w) (x y z u:Value):Below A W (set4 w A x y z u):=(((h.setCell (p:=⟨A,0,none⟩) (Nat.le_refl _) _).setCell (p:=⟨A,1,none⟩) (Nat.le_refl _) _).setCell (p:=⟨A,2,none⟩) (Nat.le_refl _) _).setCell (p:=⟨A,3,none⟩) (Nat.le_refl _) _
theorem set4_owns {w:World} {A base:Nat} {e:TypeId} {size:Nat} {v:Value} {n:Nat} {xs:List Value} (h:w.ownsRow base e size v n xs) (hA:A < base) (x y z u:Value):(set4 w A x y z u).ownsRow base e size v n xs:=ownsRow_setCell_below (ownsRow_setCell_below (ownsRow_setCell_below (ownsRow_setCell_below h hA _) hA _) hA _) hA _
theorem set4_far {w:World} {A:Nat} {x y z u:Value} {a:Addr} (h:A ≠ a.block):(set4 w A x y z u).cell? a = w.cell? a:=by
 unfold set4
 rw [World.cell?_setCell_far _ _ _ _ h,World.cell?_setCell_far _ _ _ _ h,World.cell?_setCell_far _ _ _ _ h,World.cell?_setCell_far _ _ _ _ h]
theorem set4_cells {w:World} {A:Nat} {a b c d x y z u:Value} {T:TypeId} (hA:w.heap[A]? = some (.cells #[a,b,c,d] T (0,0))):(set4 w A x y z u).cell? ⟨A,0,none⟩ = some x∧(set4 w A x y z u).cell? ⟨A,1,none⟩ = some y∧(set4 w A x y z u).cell? ⟨A,2,none⟩ = some z∧(set4 w A x y z u).cell? ⟨A,3,none⟩ = some u∧∀ i,(set4 w A x y z u).frozen? ⟨A,i,none⟩ = false:=by
 have h4:=four_set (x:=x) (y:=y) (z:=z) (u:=u) hA
 generalize set4 w A x y z u = v at *
 refine ⟨?_,?_,?_,?_,fun i=>?_⟩ <;> simp [World.cell?,World.frozen?,h4]
theorem drew_cell (w:World) (a:Addr):w.drew.cell? a = w.cell? a:=rfl
theorem drew_frozen (w:World) (a:Addr):w.drew.frozen? a = w.frozen? a:=rfl
theorem keepR {W:World} {A b q:Nat} {x y z:Value} {T:TypeId} (hc:W.cell? ⟨A + 1,1,none⟩ = some x) (ht:W.cell? ⟨b,q,none⟩ = some y) (hA:W.heap[A]? = some (.cells #[z,z,z,z] T (0,0))) (hn:b < A) :
    (set4 W A z z z z).drew.cell? ⟨A + 1,1,none⟩ = some x∧(set4 W A z z z z).drew.cell? ⟨b,q,none⟩ = some y∧(set4 W A z z z z).drew.cell? ⟨A,0,none⟩ = some z∧(set4 W A z z z z).drew.cell? ⟨A,1,none⟩ = some z∧(set4 W A z z z z).drew.cell? ⟨A,2,none⟩ = some z∧(set4 W A z z z z).drew.cell? ⟨A,3,none⟩ = some z∧(set4 W A z z z z).drew.frozen? ⟨A,0,none⟩ = false∧(set4 W A z z z z).drew.frozen? ⟨A,1,none⟩ = false∧(set4 W A z z z z).drew.frozen? ⟨A,2,none⟩ = false∧(set4 W A z z z z).drew.frozen? ⟨A,3,none⟩ = false:=by
 obtain ⟨h0,h1,h2,h3,hf⟩:=set4_cells (x:=z) (y:=z) (z:=z) (u:=z) hA
 have e1:(set4 W A z z z z).cell? ⟨A + 1,1,none⟩ = some x:=(set4_far (a:=⟨A + 1,1,none⟩) (by show A ≠ A + 1; omega)).trans hc
 have e2:(set4 W A z z z z).cell? ⟨b,q,none⟩ = some y:=(set4_far (a:=⟨b,q,none⟩) (by show A ≠ b; omega)).trans ht
 generalize set4 W A z z z z = V at *
 simp only [drew_cell,drew_frozen]
 exact ⟨e1,e2,h0,h1,h2,h3,hf 0,hf 1,hf 2,hf 3⟩
theorem keepR0 {W:World} {A b q:Nat} {x y z:Value} {T:TypeId} (hc:W.cell? ⟨A + 1,1,none⟩ = some x) (ht:W.cell? ⟨b,q,none⟩ = some y) (hA:W.heap[A]? = some (.cells #[z,z,z,z] T (0,0))) :
    W.cell? ⟨A + 1,1,none⟩ = some x∧W.cell? ⟨b,q,none⟩ = some y∧W.cell? ⟨A,0,none⟩ = some z∧W.cell? ⟨A,1,none⟩ = some z∧W.cell? ⟨A,2,none⟩ = some z∧W.cell? ⟨A,3,none⟩ = some z∧W.frozen? ⟨A,0,none⟩ = false∧W.frozen? ⟨A,1,none⟩ = false∧W.frozen? ⟨A,2,none⟩ = false∧W.frozen? ⟨A,3,none⟩ = false:=by
 refine ⟨hc,ht,?_,?_,?_,?_,?_,?_,?_,?_⟩ <;> simp [World.cell?,World.frozen?,hA]
def placeP (L:List Tk) (len:Nat) (σ:PSt):Nat:=if h:σ.next < L.length then L[σ.next].p else len
def startQ:QSt:=⟨start0,[],[]⟩
theorem ndc_flat (l:List Nd):ndc l = l.flatMap ndC:=by
 induction l with
 | nil=>rfl
 | cons a r ih=>rw [List.flatMap_cons,← ih]; rfl
theorem exc_flat (l:List (Int × Int)):exc l = l.flatMap exC:=by
 induction l with
 | nil=>rfl
 | cons a r ih=>rw [List.flatMap_cons,← ih]; rfl
theorem smc_flat (l:List (Stm × Value)):smc l = l.flatMap stC:=by
 induction l with
 | nil=>rfl
 | cons a r ih=>rw [List.flatMap_cons,← ih]; rfl
theorem stSl_of {w:World} {B U:Nat} {sts:List Stm} {vS:Value} (h:StAt B U w sts vS):∃ ao cap,vS = .slice ao sts.length cap∧StSl w ao sts:=by
 obtain ⟨l,h1,h2,h3⟩:=h
 obtain ⟨ao,cap,h4,h5⟩:=flat_of_owns h2
 refine ⟨ao,cap,?_,l,h1,by rw [← smc_flat]; exact h5,fun x hx=>?_⟩
 ·rw [h4,← h1,List.length_map]
 ·obtain ⟨a2,c2,h6,h7⟩:=flat_of_owns (h3 x hx).1
  exact ⟨a2,c2,h6,by rw [← exc_flat]; exact h7⟩
theorem ndSl_of {w:World} {base:Nat} {l:List Nd} {vD:Value} (h:w.ownsRow base 190 4 vD l.length (ndc l)):∃ ao cap,vD = .slice ao l.length cap∧NdSl w ao l:=by
 obtain ⟨ao,cap,h4,h5⟩:=flat_of_owns h
 exact ⟨ao,cap,h4,by unfold NdSl; rw [← ndc_flat]; exact h5⟩
theorem set4_keep {w:World} {A:Nat} {x y z u a b c d:Value} {T:TypeId} (hA:w.heap[A]? = some (.cells #[a,b,c,d] T (0,0))) {k:Nat} {cs:Array Value} {e:TypeId} {f:Nat × Nat} (hk:w.heap[k]? = some (Obj.cells cs e f)) (hne:e ≠ T):(set4 w A x y z u).heap[k]? = some (Obj.cells cs e f):=by
 have hk2:k ≠ A:=fun h=>by
  rw [h,hA] at hk
  simp at hk
  exact hne hk.2.1.symm
 unfold set4
 rw [Below.heap_setCell _ ⟨A,3,none⟩ _ k hk2,Below.heap_setCell _ ⟨A,2,none⟩ _ k hk2,Below.heap_setCell _ ⟨A,1,none⟩ _ k hk2,Below.heap_setCell _ ⟨A,0,none⟩ _ k hk2]
 exact hk
theorem set4_st {w:World} {A B U:Nat} {x y z u a b c d:Value} {sts:List Stm} {vS:Value} (hA:w.heap[A]? = some (.cells #[a,b,c,d] 116 (0,0))) (h:StAt B U w sts vS):StAt B U (set4 w A x y z u) sts vS:=by
 obtain ⟨l,h1,h2,h3⟩:=h
 exact ⟨l,h1,owns_keep h2 (fun k c f hk _=>set4_keep hA hk (by decide)),fun x hx=>⟨owns_keep (h3 x hx).1 (fun k c f hk _=>set4_keep hA hk (by decide)),(h3 x hx).2⟩⟩
set_option maxRecDepth 100000 in
set_option maxHeartbeats 2000000 in
theorem s_read (L:List Tk) (len:Nat) (ao:Option Addr) (cap:Nat) (f:Nat) (τ:QSt) (w:World) (hL:L.length ≤ 500) (_hlen:len ≤ 500) (hT:∀ B,w.heap.size ≤ B→Tok3 w B ao L) (hrun:programQ L f startQ = some τ) :
    Calls Tryz.prog 100 #[.slice ao L.length cap,.int .i64 len] w fun e w'=>Below w.heap.size w w' ∧
     ((τ.p.failed = false∧∃ a1 c1 a2 c2 a3 n3 c3 a4 n4 c4,e = .returned (.tuple #[.agg #[.slice a1 τ.p.names.length c1,.slice a2 τ.p.calls.length c2,.slice a3 n3 c3,.slice a4 n4 c4],.int .i64 0,.bool true])∧NmSl w' a1 τ.p.names∧ClSl w' a2 τ.p.calls∧Inv τ.p∧τ.p.next ≤ L.length∧Hid (n3 = τ.sts.length∧n4 = τ.nds.length∧StSl w' a3 τ.sts∧NdSl w' a4 τ.nds∧τ.sts.length ≤ 9000∧τ.nds.length ≤ 9000)) ∨
      (τ.p.failed = true∧e = .returned (.tuple #[.agg #[.slice none 0 0,.slice none 0 0,.slice none 0 0,.slice none 0 0],.int .i64 (placeP L len τ.p),.bool false]))):=by
 have hsm:=program_small hL hrun rfl rfl rfl
 have hsmall:Small τ:=⟨by omega,by omega⟩
 have HR:=hide hrun
 clear hrun hsm
 go_enter Tryz.func100,Tryz.ntmps100
 go_wp2_with fail
 have hA0:((w.alloc (.cells #[.slice none 0 0,.slice none 0 0,.slice none 0 0,.slice none 0 0] 116)).alloc (.cells #[.slice ao L.length cap,.int .i64 0,.int .i64 0,.int .i64 (-1),.bool false,.slice none 0 0,.slice none 0 0,.slice none 0 0,.slice none 0 0] 231)).heap[w.heap.size]? = some (.cells #[.slice none 0 0,.slice none 0 0,.slice none 0 0,.slice none 0 0] 116 (0,0)):=(Below.heap_alloc _ _ _ (by simp)).trans (heap_alloc_new w _)
 have hbw:Below w.heap.size w ((w.alloc (.cells #[.slice none 0 0,.slice none 0 0,.slice none 0 0,.slice none 0 0] 116)).alloc (.cells #[.slice ao L.length cap,.int .i64 0,.int .i64 0,.int .i64 (-1),.bool false,.slice none 0 0,.slice none 0 0,.slice none 0 0,.slice none 0 0] 231)):=((Below.refl _ _).alloc (Nat.le_refl _) _).alloc (by simp) _
 have hp0:PS (w.heap.size + 1) ao cap L 0 startQ (.slice none 0 0) ((w.alloc (.cells #[.slice none 0 0,.slice none 0 0,.slice none 0 0,.slice none 0 0] 116)).alloc (.cells #[.slice ao L.length cap,.int .i64 0,.int .i64 0,.int .i64 (-1),.bool false,.slice none 0 0,.slice none 0 0,.slice none 0 0,.slice none 0 0] 231)):=by
  refine ⟨.slice none 0 0,.slice none 0 0,.slice none 0 0,?_,?_,World.ownsRow_nil _ _ _ _,World.ownsRow_nil _ _ _ _,World.ownsRow_nil _ _ _ _,⟨[],rfl,World.ownsRow_nil _ _ _ _,fun x hx=>by cases hx⟩,Nat.zero_le _,⟨Nat.zero_le _,Nat.zero_le _⟩⟩
  ·have:=heap_alloc_new (w.alloc (.cells #[.slice none 0 0,.slice none 0 0,.slice none 0 0,.slice none 0 0] 116)) (.cells #[.slice ao L.length cap,.int .i64 0,.int .i64 0,.int .i64 (-1),.bool false,.slice none 0 0,.slice none 0 0,.slice none 0 0,.slice none 0 0] 231)
   simp only [World.size_alloc] at this
   exact this
  ·intro i hi
   obtain ⟨b,o,h1,h2,h3,h4,h5⟩:=hT w.heap.size (Nat.le_refl _) i hi
   exact ⟨b,o,Nat.lt_succ_of_lt h1,h2,(hbw.cell (p:=⟨b,o + i * 3,none⟩) h1).trans h3,(hbw.cell (p:=⟨b,o + i * 3 + 1,none⟩) h1).trans h4,(hbw.cell (p:=⟨b,o + i * 3 + 2,none⟩) h1).trans h5⟩
 refine (s_program hL f startQ τ _ _ hp0 HR.out hsmall).mono ?_
 rintro e w2 ⟨rfl,U2,vS,⟨vN,vC,vD,hp⟩,kp⟩
 have hA:=(kp.bel.block w.heap.size (Nat.lt_succ_self _)).trans hA0
 have hb2:Below w.heap.size w w2:=hbw.trans (kp.bel.mono (Nat.le_succ _))
 clear hp0 hA0 hbw kp
 have a0:w2.cell? ⟨w.heap.size,0,none⟩ = some (.slice none 0 0):=by simp [World.cell?,hA]
 have a1:w2.cell? ⟨w.heap.size,1,none⟩ = some (.slice none 0 0):=by simp [World.cell?,hA]
 have a2:w2.cell? ⟨w.heap.size,2,none⟩ = some (.slice none 0 0):=by simp [World.cell?,hA]
 have a3:w2.cell? ⟨w.heap.size,3,none⟩ = some (.slice none 0 0):=by simp [World.cell?,hA]
 have g0:w2.frozen? ⟨w.heap.size,0,none⟩ = false:=by simp [World.frozen?,hA]
 have g1:w2.frozen? ⟨w.heap.size,1,none⟩ = false:=by simp [World.frozen?,hA]
 have g2:w2.frozen? ⟨w.heap.size,2,none⟩ = false:=by simp [World.frozen?,hA]
 have g3:w2.frozen? ⟨w.heap.size,3,none⟩ = false:=by simp [World.frozen?,hA]
 obtain ⟨c0,c1,c2,c3,c4,c5,c6,c7,c8,hf⟩:=hp.cells
 have hle:=hp.le
 have hBlt:=hp.lt
 clear hf
 cases hfl:τ.p.failed
 ·rw [hfl] at c4
  have HX:Hid (∃ a3 c3 a4 c4,vS = .slice a3 τ.sts.length c3∧vD = .slice a4 τ.nds.length c4∧StSl (set4 w2 w.heap.size vN vC vS vD) a3 τ.sts∧NdSl (set4 w2 w.heap.size vN vC vS vD) a4 τ.nds):=by
   obtain ⟨b3,d3,q1,q2⟩:=stSl_of (set4_st (x:=vN) (y:=vC) (z:=vS) (u:=vD) hA hp.st)
   obtain ⟨b4,d4,q3,q4⟩:=ndSl_of (set4_owns hp.nd (A:=w.heap.size) (by show w.heap.size < w.heap.size + 1 + 1; omega) vN vC vS vD)
   exact ⟨b3,d3,b4,d4,q1,q3,q2,q4⟩
  have hset:=set4_below hb2 vN vC vS vD
  have hn2:=set4_owns hp.nm (A:=w.heap.size) (by show w.heap.size < w.heap.size + 1 + 1; omega) vN vC vS vD
  have hc2:=set4_owns hp.cl (A:=w.heap.size) (by show w.heap.size < w.heap.size + 1 + 1; omega) vN vC vS vD
  have hinv:=hp.inv
  obtain ⟨b1,d1,hv1,hs1⟩:=nmSl_of_owns hn2
  obtain ⟨b2,d2,hv2,hs2⟩:=clSl_of_owns hc2
  obtain ⟨b3,d3,b4,d4,hv3,hv4,hq3,hq4⟩:=HX.out
  have HQ3:=hide hq3
  have HQ4:=hide hq4
  have HS4:=hide hsmall
  generalize hn3:τ.sts.length = n3 at hv3
  generalize hn4:τ.nds.length = n4 at hv4
  have HN3:=hide hn3
  have HN4:=hide hn4
  clear hn2 hc2 hp hq3 hq4 HX hn3 hn4 hsmall
  subst hv1
  subst hv2
  subst hv3
  subst hv4
  go_wp2_with fail
  refine bodyPost_ret (v:=.tuple #[.agg #[.slice b1 τ.p.names.length d1,.slice b2 τ.p.calls.length d2,.slice b3 n3 d3,.slice b4 n4 d4],.int .i64 0,.bool true]) ?_ rfl ⟨hset,.inl ⟨hfl,b1,d1,b2,d2,b3,n3,d3,b4,n4,d4,rfl,hs1,hs2,hinv,hle,HN3.out.symm,HN4.out.symm,HQ3.out,HQ4.out,HS4.out.2,HS4.out.1⟩⟩
  have hr:=set4_cells (x:=.slice b1 τ.p.names.length d1) (y:=.slice b2 τ.p.calls.length d2) (z:=.slice b3 n3 d3) (u:=.slice b4 n4 d4) hA
  unfold set4 at hr
  simp [results,Tryz.results100,go_sem,hr.1,hr.2.1,hr.2.2.1,hr.2.2.2.1]
 ·rw [hfl] at c4
  have hr:=set4_cells (x:=.slice none 0 0) (y:=.slice none 0 0) (z:=.slice none 0 0) (u:=.slice none 0 0) hA
  have hset:=set4_below hb2 (.slice none 0 0) (.slice none 0 0) (.slice none 0 0) (.slice none 0 0)
  have HR4:=hide hr
  unfold set4 at HR4
  clear hr
  by_cases hlt:τ.p.next < L.length
  ·obtain ⟨b,o,h1,h2,h3,h4,h5⟩:=hT w.heap.size (Nat.le_refl _) τ.p.next hlt
   subst h2
   have t4:=(hb2.cell (p:=⟨b,o + τ.p.next * 3 + 1,none⟩) h1).trans h4
   have HP:Hid (placeP L len τ.p = L[τ.p.next].p):=by show _ = _; unfold placeP; rw [dif_pos hlt]
   have hlt':(τ.p.next:Int) < L.length:=by omega
   go_wp2_with fail
   go_region_held (fun w'=>w'.cell? ⟨w.heap.size + 1,1,none⟩ = some (.int .i64 τ.p.next)∧w'.cell? ⟨b,o + τ.p.next * 3 + 1,none⟩ = some (.int .i64 L[τ.p.next].p)∧w'.cell? ⟨w.heap.size,0,none⟩ = some (.slice none 0 0)∧w'.cell? ⟨w.heap.size,1,none⟩ = some (.slice none 0 0)∧w'.cell? ⟨w.heap.size,2,none⟩ = some (.slice none 0 0)∧w'.cell? ⟨w.heap.size,3,none⟩ = some (.slice none 0 0)∧w'.frozen? ⟨w.heap.size,0,none⟩ = false∧w'.frozen? ⟨w.heap.size,1,none⟩ = false∧w'.frozen? ⟨w.heap.size,2,none⟩ = false∧w'.frozen? ⟨w.heap.size,3,none⟩ = false) (first | exact keepR0 c1 t4 hA | exact keepR c1 t4 hA h1) (fail)
   go_wp2_with fail
   refine bodyPost_ret (v:=.tuple #[.agg #[.slice none 0 0,.slice none 0 0,.slice none 0 0,.slice none 0 0],.int .i64 L[τ.p.next].p,.bool false]) ?_ rfl ⟨hset.drew,.inr ⟨hfl,by rw [HP.out]⟩⟩
   simp [results,Tryz.results100,go_sem,HR4.out.1,HR4.out.2.1,HR4.out.2.2.1,HR4.out.2.2.2.1]
  ·have HP:Hid (placeP L len τ.p = len):=by show _ = _; unfold placeP; rw [dif_neg hlt]
   go_wp2_with fail
   refine bodyPost_ret (v:=.tuple #[.agg #[.slice none 0 0,.slice none 0 0,.slice none 0 0,.slice none 0 0],.int .i64 len,.bool false]) ?_ rfl ⟨hset,.inr ⟨hfl,by rw [HP.out]⟩⟩
   simp [results,Tryz.results100,go_sem,HR4.out.1,HR4.out.2.1,HR4.out.2.2.1,HR4.out.2.2.2.1]
end Go.Proofs.YtmfcpbhdggonfaaGreatDoor
/- Contracts of the program: check.Read,check.Program,races.Check. -/
namespace Go.Proofs.YtmfcpbhdggonfaaGreatDoor
open Go.RowKit RR
def OutV (e:Ending) (E P:Int):Prop:=∃ a1 n1 c1 a2 n2 c2 a3 n3 c3 a4 n4 c4,e = .returned (.tuple #[.agg #[.slice a1 n1 c1,.slice a2 n2 c2,.slice a3 n3 c3,.slice a4 n4 c4],.int .i64 E,.int .i64 P])
theorem outNil (E P:Int):OutV (.returned (.tuple #[.agg #[.slice none 0 0,.slice none 0 0,.slice none 0 0,.slice none 0 0],.int .i64 E,.int .i64 P])) E P:=⟨_,_,_,_,_,_,_,_,_,_,_,_,rfl⟩
def endP (L:List Tk) (len:Nat) (σ:PSt):Int × Int:=if σ.failed then (3,placeP L len σ) else outCheck σ.names σ.calls
theorem outCheck_zero {ns:List Nm} {cs:List Cl} (h:(outCheck ns cs).1 = 0):(outCheck ns cs).2 = 0:=by
 unfold outCheck at h ⊢
 cases h1:manyP ns with
 | some p=>rw [h1] at h; have h:(4:Int) = 0:=h; exact absurd h (by decide)
 | none =>
  rw [h1] at h
  cases h2:twiceP ns with
  | some p=>rw [h2] at h; have h:(5:Int) = 0:=h; exact absurd h (by decide)
  | none =>
   rw [h2] at h
   cases h3:misP ns with
   | some p=>rw [h3] at h; have h:(5:Int) = 0:=h; exact absurd h (by decide)
   | none =>
    rw [h3] at h
    cases h4:wrongP ns cs with
    | some p=>rw [h4] at h; have h:(6:Int) = 0:=h; exact absurd h (by decide)
    | none=>rfl
def OutOk (e:Ending) (w:World) (τ:QSt):Prop:=∃ a1 c1 a2 c2 a3 c3 a4 c4,e = .returned (.tuple #[.agg #[.slice a1 τ.p.names.length c1,.slice a2 τ.p.calls.length c2,.slice a3 τ.sts.length c3,.slice a4 τ.nds.length c4],.int .i64 0,.int .i64 0]) ∧
 NmSl w a1 τ.p.names∧StSl w a3 τ.sts∧NdSl w a4 τ.nds∧τ.p.names.length ≤ 500∧τ.sts.length ≤ 9000∧τ.nds.length ≤ 9000
theorem ne_slices {w:World} {A b o:Nat} {x:Value} {T:TypeId} (hA:w.heap[A]? = some (.cells #[.slice none 0 0,.slice none 0 0,.slice none 0 0,.slice none 0 0] T (0,0))) (hc:w.cell? ⟨b,o,none⟩ = some x) (hx:x ≠ .slice none 0 0):A ≠ b:=by
 rintro rfl
 rw [cell_of_row w A o _ T (0,0) hA] at hc
 have h4:o < 4:=(Array.getElem?_eq_some_iff.1 hc).1
 match o,h4 with
 | 0,_=>exact hx (Option.some.inj hc).symm
 | 1,_=>exact hx (Option.some.inj hc).symm
 | 2,_=>exact hx (Option.some.inj hc).symm
 | 3,_=>exact hx (Option.some.inj hc).symm
theorem set4_size (w:World) (A:Nat) (x y z u:Value):(set4 w A x y z u).heap.size = w.heap.size:=by simp [set4]
theorem nmSl_set4 {w:World} {A:Nat} {x y z u:Value} {T:TypeId} {ao:Option Addr} {l:List Nm} (h:NmSl w ao l) (hA:w.heap[A]? = some (.cells #[.slice none 0 0,.slice none 0 0,.slice none 0 0,.slice none 0 0] T (0,0))):NmSl (set4 w A x y z u) ao l:=fun i hi=>by
 obtain ⟨b,o,h1,h2,h3,h4,h5,h6⟩:=h i hi
 have hne:=ne_slices hA h3 (fun e=>by cases e)
 exact ⟨b,o,by rw [set4_size]; exact h1,h2,(set4_far hne).trans h3,(set4_far hne).trans h4,(set4_far hne).trans h5,(set4_far hne).trans h6⟩
theorem flat_set4 {w:World} {A:Nat} {x y z u:Value} {T:TypeId} {ao:Option Addr} {xs:List Value} (h:Flat w ao xs) (hx:xs = [] ∨ ∃ n r,xs = .int .i64 n :: r) (hA:w.heap[A]? = some (.cells #[.slice none 0 0,.slice none 0 0,.slice none 0 0,.slice none 0 0] T (0,0))):Flat (set4 w A x y z u) ao xs:=by
 rcases hx with hx | ⟨n,r,hx⟩
 ·exact .inl hx
 ·rcases h with h | ⟨b,o,h1,h2,h3⟩
  ·exact .inl h
  ·have hne:=ne_slices hA (h3 0 (.int .i64 n) (by rw [hx]; rfl)) (fun e=>by cases e)
   exact .inr ⟨b,o,by rw [set4_size]; exact h1,h2,fun j v hv=>(set4_far hne).trans (h3 j v hv)⟩
theorem exSl_set4 {w:World} {A:Nat} {x y z u:Value} {T:TypeId} {v:Value} {l:List (Int × Int)} (h:ExSl w v l) (hA:w.heap[A]? = some (.cells #[.slice none 0 0,.slice none 0 0,.slice none 0 0,.slice none 0 0] T (0,0))):ExSl (set4 w A x y z u) v l:=by
 obtain ⟨ao,cap,h1,h2⟩:=h
 exact ⟨ao,cap,h1,flat_set4 h2 (by cases l with
  | nil=>exact .inl rfl
  | cons a r=>exact .inr ⟨_,_,rfl⟩) hA⟩
theorem stSl_set4 {w:World} {A:Nat} {x y z u:Value} {T:TypeId} {ao:Option Addr} {l:List Stm} (h:StSl w ao l) (hA:w.heap[A]? = some (.cells #[.slice none 0 0,.slice none 0 0,.slice none 0 0,.slice none 0 0] T (0,0))):StSl (set4 w A x y z u) ao l:=by
 obtain ⟨m,h1,h2,h3⟩:=h
 exact ⟨m,h1,flat_set4 h2 (by cases m with
  | nil=>exact .inl rfl
  | cons a r=>exact .inr ⟨_,_,rfl⟩) hA,fun x hx=>exSl_set4 (h3 x hx) hA⟩
theorem ndSl_set4 {w:World} {A:Nat} {x y z u:Value} {T:TypeId} {ao:Option Addr} {l:List Nd} (h:NdSl w ao l) (hA:w.heap[A]? = some (.cells #[.slice none 0 0,.slice none 0 0,.slice none 0 0,.slice none 0 0] T (0,0))):NdSl (set4 w A x y z u) ao l :=
 flat_set4 h (by cases l with
  | nil=>exact .inl rfl
  | cons a r=>exact .inr ⟨_,_,rfl⟩) hA
set_option maxRecDepth 100000 in
set_option maxHeartbeats 4000000 in
theorem c_parseX (s:ByteArray) (w:World) (hs:s.size ≤ 500) (L:List Tk) (hl:lexF s 0 = (L,none)) (hL:L.length ≤ 500) (f:Nat) (τ:QSt) (hrun:programQ L f startQ = some τ) :
    Calls Tryz.prog 67 #[.string s] w fun e w'=>(OutV e (endP L s.size τ.p).1 (endP L s.size τ.p).2∧((endP L s.size τ.p).1 = 0→OutOk e w' τ))∧Below w.heap.size w w':=by
 have HR:=hide hrun
 clear hrun
 have hb0:Below w.heap.size w (w.alloc (.cells #[.slice none 0 0,.slice none 0 0,.slice none 0 0,.slice none 0 0] 116)):=(Below.refl _ _).alloc (Nat.le_refl _) _
 have hA0:(w.alloc (.cells #[.slice none 0 0,.slice none 0 0,.slice none 0 0,.slice none 0 0] 116)).heap[w.heap.size]? = some (.cells #[.slice none 0 0,.slice none 0 0,.slice none 0 0,.slice none 0 0] 116 (0,0)):=heap_alloc_new w _
 have hz0:w.heap.size < (w.alloc (.cells #[.slice none 0 0,.slice none 0 0,.slice none 0 0,.slice none 0 0] 116)).heap.size:=by simp
 go_enter Tryz.func67,Tryz.ntmps67
 go_wp2_with fail
 refine (t_cut s _ hs).mono ?_
 rintro e w1 (⟨h1,v,rfl,hown,hb1⟩ | ⟨q,h1,_,_⟩)
 rotate_left
 ·rw [hl] at h1; cases h1
 rw [hl] at hown
 simp only at hown
 have hT:∃ ao cap,v = .slice ao L.length cap∧∀ B,w1.heap.size ≤ B→Tok3 w1 B ao L:=by
  obtain ⟨ao,cap,hv,h3⟩:=tok3_of_owns hown (Nat.le_refl _)
  exact ⟨ao,cap,hv,fun B hB i hi=>by
   obtain ⟨b,o,q1,q2⟩:=h3 i hi
   exact ⟨b,o,Nat.lt_of_lt_of_le q1 hB,q2⟩⟩
 obtain ⟨ao,cap,hv,hT⟩:=hT
 subst hv
 clear h1 hl hown
 have hA1:=(hb1.block _ hz0).trans hA0
 have hz1:w.heap.size < w1.heap.size:=(Array.getElem?_eq_some_iff.1 hA1).1
 have hb01:Below w.heap.size w w1:=hb0.trans (hb1.mono (Nat.le_of_lt hz0))
 clear hA0 hb0 hb1 hz0
 go_wp2_with fail
 refine (s_read L s.size ao cap f τ _ hL hs hT HR.out).mono ?_
 rintro e w2 ⟨hb2,⟨hfl,b1,d1,b2,d2,b3,n3,d3,b4,n4,d4,rfl,hn,hc,hinv,hle,HQ⟩ | ⟨hfl,rfl⟩⟩
 ·have hsm:=hinv.small
  have HE:Hid (endP L s.size τ.p = outCheck τ.p.names τ.p.calls):=by show _ = _; unfold endP; rw [hfl]; rfl
  have hA2:=(hb2.block _ hz1).trans hA1
  have hbel:=hb01.trans (hb2.mono (Nat.le_of_lt hz1))
  have hz2:w.heap.size < w2.heap.size:=(Array.getElem?_eq_some_iff.1 hA2).1
  have hbX:∀ ob:Obj,Below w2.heap.size w2 (w2.alloc ob):=fun ob=>(Below.refl _ _).alloc (Nat.le_refl _) ob
  have hn2:=fun ob=>hn.below (hbX ob)
  have hc2:=fun ob=>hc.below (hbX ob)
  have hX:∀ ob:Obj,(w2.alloc ob).heap[w2.heap.size]? = some ob:=fun ob=>heap_alloc_new w2 ob
  have hXA:=fun ob=>((hbX ob).block _ hz2).trans hA2
  clear hinv
  go_wp2_with fail
  refine (c_checkOutline _ _ _ _ _ _ _ _ _ _ τ.p.names τ.p.calls _ (by omega) (by omega) (hn2 _) (hc2 _)).mono ?_
  rintro e w3 ⟨rfl,hb3⟩
  have hA3:=(hb3.block w.heap.size (by simp; omega)).trans (hXA _)
  have hX3:=(hb3.block w2.heap.size (by simp)).trans (hX _)
  have hbel3:Below w.heap.size w w3:=(hbel.alloc hbel.size _).trans (hb3.mono (Nat.le_trans hbel.size (by simp)))
  have HB3:Hid (Below w2.heap.size w2 w3):=((Below.refl _ _).alloc (Nat.le_refl _) _).trans (hb3.mono (by simp))
  have HBA:=hide hA3
  have HN:=hide hn
  have HSM:=hide hsm
  clear hn2 hc2 hX hXA hbX hb3
  have a0:w3.cell? ⟨w.heap.size,0,none⟩ = some (.slice none 0 0):=by simp [World.cell?,hA3]
  have a1:w3.cell? ⟨w.heap.size,1,none⟩ = some (.slice none 0 0):=by simp [World.cell?,hA3]
  have a2:w3.cell? ⟨w.heap.size,2,none⟩ = some (.slice none 0 0):=by simp [World.cell?,hA3]
  have a3:w3.cell? ⟨w.heap.size,3,none⟩ = some (.slice none 0 0):=by simp [World.cell?,hA3]
  have g0:w3.frozen? ⟨w.heap.size,0,none⟩ = false:=by simp [World.frozen?,hA3]
  have g1:w3.frozen? ⟨w.heap.size,1,none⟩ = false:=by simp [World.frozen?,hA3]
  have g2:w3.frozen? ⟨w.heap.size,2,none⟩ = false:=by simp [World.frozen?,hA3]
  have g3:w3.frozen? ⟨w.heap.size,3,none⟩ = false:=by simp [World.frozen?,hA3]
  have x0:w3.cell? ⟨w2.heap.size,0,none⟩ = some (.slice b1 τ.p.names.length d1):=by simp [World.cell?,hX3]
  have x1:w3.cell? ⟨w2.heap.size,1,none⟩ = some (.slice b2 τ.p.calls.length d2):=by simp [World.cell?,hX3]
  have x2:w3.cell? ⟨w2.heap.size,2,none⟩ = some (.slice b3 n3 d3):=by simp [World.cell?,hX3]
  have x3:w3.cell? ⟨w2.heap.size,3,none⟩ = some (.slice b4 n4 d4):=by simp [World.cell?,hX3]
  by_cases hE:(outCheck τ.p.names τ.p.calls).1 = 0
  ·have hE2:((outCheck τ.p.names τ.p.calls).1 != 0) = false:=by rw [hE]; rfl
   have HZ:=hide (outCheck_zero hE)
   have HE0:=hide hE
   have hset:=set4_below hbel3 (.slice b1 τ.p.names.length d1) (.slice b2 τ.p.calls.length d2) (.slice b3 n3 d3) (.slice b4 n4 d4)
   have hr:=set4_cells (x:=.slice b1 τ.p.names.length d1) (y:=.slice b2 τ.p.calls.length d2) (z:=.slice b3 n3 d3) (u:=.slice b4 n4 d4) hA3
   have HOK:Hid (OutOk (.returned (.tuple #[.agg #[.slice b1 τ.p.names.length d1,.slice b2 τ.p.calls.length d2,.slice b3 n3 d3,.slice b4 n4 d4],.int .i64 0,.int .i64 0])) (set4 w3 w.heap.size (.slice b1 τ.p.names.length d1) (.slice b2 τ.p.calls.length d2) (.slice b3 n3 d3) (.slice b4 n4 d4)) τ):=by
    have hlt2:Below w2.heap.size w2 w3:=HB3.out
    obtain ⟨q1,q2,q3,q4,q5,q6⟩:=HQ.out
    subst q1; subst q2
    refine ⟨b1,d1,b2,d2,b3,d3,b4,d4,rfl,nmSl_set4 (HN.out.below hlt2) HBA.out,stSl_set4 (q3.below hlt2) HBA.out,ndSl_set4 (q4.below hlt2) HBA.out,?_,q5,q6⟩
    have:=HSM.out; omega
   unfold set4 at hr hset HOK
   have HR4:=hide hr
   have HS:=hide hset
   clear hr hset hE
   go_wp2_with fail
   refine bodyPost_ret (v:=.tuple #[.agg #[.slice b1 τ.p.names.length d1,.slice b2 τ.p.calls.length d2,.slice b3 n3 d3,.slice b4 n4 d4],.int .i64 0,.int .i64 0]) ?_ rfl ⟨⟨⟨b1,_,d1,b2,_,d2,b3,n3,d3,b4,n4,d4,by rw [HE.out,HE0.out,HZ.out]⟩,fun _=>HOK.out⟩,HS.out⟩
   simp [results,Tryz.results67,go_sem,HR4.out.1,HR4.out.2.1,HR4.out.2.2.1,HR4.out.2.2.2.1]
  ·have hE2:((outCheck τ.p.names τ.p.calls).1 != 0) = true:=bne_iff_ne.2 hE
   have HE1:=hide hE
   have hset:=set4_below hbel3 (.slice none 0 0) (.slice none 0 0) (.slice none 0 0) (.slice none 0 0)
   have hr:=set4_cells (x:=.slice none 0 0) (y:=.slice none 0 0) (z:=.slice none 0 0) (u:=.slice none 0 0) hA3
   unfold set4 at hr hset
   have HR4:=hide hr
   have HS:=hide hset
   clear hr hset hE
   go_wp2_with fail
   refine bodyPost_ret (v:=.tuple #[.agg #[.slice none 0 0,.slice none 0 0,.slice none 0 0,.slice none 0 0],.int .i64 (outCheck τ.p.names τ.p.calls).1,.int .i64 (outCheck τ.p.names τ.p.calls).2]) ?_ rfl ⟨⟨by rw [HE.out]; exact outNil _ _,fun h0=>absurd (by rw [HE.out] at h0; exact h0) HE1.out⟩,HS.out⟩
   simp [results,Tryz.results67,go_sem,HR4.out.1,HR4.out.2.1,HR4.out.2.2.1,HR4.out.2.2.2.1]
 ·have HE:Hid (endP L s.size τ.p = (3,(placeP L s.size τ.p:Int))):=by show _ = _; unfold endP; rw [hfl]; rfl
  have hA2:=(hb2.block _ hz1).trans hA1
  have hbel:=hb01.trans (hb2.mono (Nat.le_of_lt hz1))
  have hz2:w.heap.size < w2.heap.size:=(Array.getElem?_eq_some_iff.1 hA2).1
  have a0:w2.cell? ⟨w.heap.size,0,none⟩ = some (.slice none 0 0):=by simp [World.cell?,hA2]
  have a1:w2.cell? ⟨w.heap.size,1,none⟩ = some (.slice none 0 0):=by simp [World.cell?,hA2]
  have a2:w2.cell? ⟨w.heap.size,2,none⟩ = some (.slice none 0 0):=by simp [World.cell?,hA2]
  have a3:w2.cell? ⟨w.heap.size,3,none⟩ = some (.slice none 0 0):=by simp [World.cell?,hA2]
  have g0:w2.frozen? ⟨w.heap.size,0,none⟩ = false:=by simp [World.frozen?,hA2]
  have g1:w2.frozen? ⟨w.heap.size,1,none⟩ = false:=by simp [World.frozen?,hA2]
  have g2:w2.frozen? ⟨w.heap.size,2,none⟩ = false:=by simp [World.frozen?,hA2]
  have g3:w2.frozen? ⟨w.heap.size,3,none⟩ = false:=by simp [World.frozen?,hA2]
  have hset:=set4_below hbel (.slice none 0 0) (.slice none 0 0) (.slice none 0 0) (.slice none 0 0)
  have hr:=set4_cells (x:=.slice none 0 0) (y:=.slice none 0 0) (z:=.slice none 0 0) (u:=.slice none 0 0) hA2
  have hlt4:=(Array.getElem?_eq_some_iff.1 (four_set (x:=.slice none 0 0) (y:=.slice none 0 0) (z:=.slice none 0 0) (u:=.slice none 0 0) hA2)).1
  have hr2:∀ ob:Obj,((set4 w2 w.heap.size (.slice none 0 0) (.slice none 0 0) (.slice none 0 0) (.slice none 0 0)).alloc ob).cell? ⟨w.heap.size,0,none⟩ = some (.slice none 0 0)∧((set4 w2 w.heap.size (.slice none 0 0) (.slice none 0 0) (.slice none 0 0) (.slice none 0 0)).alloc ob).cell? ⟨w.heap.size,1,none⟩ = some (.slice none 0 0)∧((set4 w2 w.heap.size (.slice none 0 0) (.slice none 0 0) (.slice none 0 0) (.slice none 0 0)).alloc ob).cell? ⟨w.heap.size,2,none⟩ = some (.slice none 0 0)∧((set4 w2 w.heap.size (.slice none 0 0) (.slice none 0 0) (.slice none 0 0) (.slice none 0 0)).alloc ob).cell? ⟨w.heap.size,3,none⟩ = some (.slice none 0 0):=fun ob =>
   ⟨(World.cell?_alloc_lt _ _ _ hlt4).trans hr.1,(World.cell?_alloc_lt _ _ _ hlt4).trans hr.2.1,(World.cell?_alloc_lt _ _ _ hlt4).trans hr.2.2.1,(World.cell?_alloc_lt _ _ _ hlt4).trans hr.2.2.2.1⟩
  have HS:=hide (fun ob=>hset.alloc hset.size ob)
  have HR4:=hide hr2
  unfold set4 at HS HR4
  clear hr hr2 hset hlt4
  go_wp2_with fail
  refine bodyPost_ret (v:=.tuple #[.agg #[.slice none 0 0,.slice none 0 0,.slice none 0 0,.slice none 0 0],.int .i64 3,.int .i64 (placeP L s.size τ.p)]) ?_ rfl ⟨⟨by rw [HE.out]; exact outNil _ _,fun h0=>absurd (show (3:Int) = 0 by rw [HE.out] at h0; exact h0) (by decide)⟩,HS.out _⟩
  have hx:=HR4.out (.cells #[.slice none 0 0,.slice none 0 0,.slice none 0 0,.slice none 0 0] 116)
  simp [results,Tryz.results67,go_sem,hx.1,hx.2.1,hx.2.2.1,hx.2.2.2]
end Go.Proofs.YtmfcpbhdggonfaaGreatDoor
