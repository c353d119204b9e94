/- Contracts of the program's parser: taking a name. -/
import Derived.Test.YtmfcpbhdggonfaaGreatDoorMjAQ
namespace Go.Proofs.YtmfcpbhdggonfaaGreatDoor
open Go.RowKit RR
set_option maxRecDepth 100000 in
set_option maxHeartbeats 16000000 in
theorem s_takeName {B:Nat} {ao:Option Addr} {cap:Nat} {L:List Tk} {U:Nat} {σ:QSt} {vS:Value} (role:Nat) (w:World) (hL:L.length ≤ 500) (h:PS B ao cap L U σ vS w) :
    Calls Tryz.prog 202 #[.pointer (some ⟨B,0,none⟩),.int .i64 role] w fun e w'=>e = .returned (.int .i64 (nameIx L σ.p))∧PS B ao cap L U (σ.setp (σ.p.takeName L role)) vS w'∧Kp B w w':=by
 have hle:=h.le
 have hlt:=h.lt
 have hnm:σ.p.names.length ≤ 1000:=by have:=h.inv.1; omega
 cases hN:isNameB (σ.p.ahead L 0).t
 ·have HT:Hid (σ.p.takeName L role = σ.p.fail):=by show _ = _; unfold PSt.takeName; rw [hN]; rfl
  have HX:Hid (nameIx L σ.p = -1):=by show _ = _; unfold nameIx; rw [hN]; rfl
  go_enter Tryz.func202,Tryz.ntmps202
  go_wp2_with fail
  refine (s_ahead 0 _ hL (by omega) h).mono ?_
  rintro e w1 ⟨rfl,hb1⟩
  rw [hN]
  have h1:=fun ob=>h.below (hb1.alloc hb1.size ob)
  have h2:=h1 (.cells #[.string (σ.p.ahead L 0).t,.int .i64 (σ.p.ahead L 0).p,.bool false] 228)
  obtain ⟨vN,vC,vD,h2⟩:=h2
  obtain ⟨c0,c1,c2,c3,c4,c5,c6,c7,c8,hf⟩:=h2.cells
  have f4:=hf 4
  clear hf
  go_wp2_with fail
  go_ret
  exact ⟨ret_int HX.out.symm,by rw [HT.out]; exact (ps_fail h2).1,(Kp.of_below (hb1.alloc hb1.size _) (Nat.le_of_lt hlt)).trans (ps_fail h2).2⟩
 ·have HT:Hid (σ.p.takeName L role = { σ.p with next:=σ.p.next + 1,names:=σ.p.names ++ [⟨(σ.p.ahead L 0).t,(σ.p.ahead L 0).p,role,σ.p.proc⟩] }):=by show _ = _; unfold PSt.takeName; rw [hN]; rfl
  have HX:Hid (nameIx L σ.p = σ.p.names.length):=by show _ = _; unfold nameIx; rw [hN]; rfl
  obtain ⟨i0,hi0,hz0,hz1,hz2⟩:=info_parts Tryz.infoNm
  have hnx:=(name_lt hN).1
  go_enter Tryz.func202,Tryz.ntmps202
  go_wp2_with fail
  refine (s_ahead 0 _ hL (by omega) h).mono ?_
  rintro e w1 ⟨rfl,hb1⟩
  rw [hN]
  have h1:=fun ob=>h.below (hb1.alloc hb1.size ob)
  have h2:=h1 (.cells #[.string (σ.p.ahead L 0).t,.int .i64 (σ.p.ahead L 0).p,.bool true] 228)
  have hb2:=hb1.alloc hb1.size (.cells #[.string (σ.p.ahead L 0).t,.int .i64 (σ.p.ahead L 0).p,.bool true] 228)
  have hX:(w1.alloc (.cells #[.string (σ.p.ahead L 0).t,.int .i64 (σ.p.ahead L 0).p,.bool true] 228)).heap[w1.heap.size]? = some (.cells #[.string (σ.p.ahead L 0).t,.int .i64 (σ.p.ahead L 0).p,.bool true] 228 (0,0)):=heap_alloc_new w1 _
  go_wp2_with fail
  generalize w1.alloc (.cells #[.string (σ.p.ahead L 0).t,.int .i64 (σ.p.ahead L 0).p,.bool true] 228) = w2 at *
  generalize w1.heap.size = X at *
  obtain ⟨vN,vC,vD,h2⟩:=h2
  obtain ⟨c0,c1,c2,c3,c4,c5,c6,c7,c8,hf⟩:=h2.cells
  have f5:=hf 5
  have f1:=hf 1
  have x0:w2.cell? ⟨X,0,none⟩ = some (.string (σ.p.ahead L 0).t):=by simp [World.cell?,hX]
  have x1:w2.cell? ⟨X,1,none⟩ = some (.int .i64 (σ.p.ahead L 0).p):=by simp [World.cell?,hX]
  clear hf h1 hb1
  have hown:=h2.nm
  have hzz:B < w2.heap.size:=h2.lt
  have hbw:B + 1 ≤ w2.heap.size:=hzz
  go_region_law (refine step_append_lies _ rfl (.tmp 18) (.tmp 29) 111 rfl (B + 1) 186 i0 (.agg #[.string ⟨#[]⟩,.int .i64 0,.int .i64 0,.int .i64 0]) 4 40 Tryz.underlying111 hi0 hz0 hz1 hz2 rfl (by decide) vN σ.p.names.length (nms σ.p.names) rfl (by exact hown.alloc _) ⟨w2.heap.size,0,none⟩ 1 1 [.string (σ.p.ahead L 0).t,.int .i64 (σ.p.ahead L 0).p,.int .i64 role,.int .i64 σ.p.proc] rfl rfl (by exact four_cells) (four_one rfl rfl rfl rfl) (by decide) (by unfold maxLen; omega) (by omega) (by simp; omega) _ rfl ?_; intro g cap' w3 hown3 hgrow hat hg; have kB:=grow_block hown hgrow B hzz (.inl (Nat.lt_succ_self B)); have k5:w3.cell? ⟨B,5,none⟩ = some vN:=(World.cell?_of_block (w:=w2) kB).trans c5; have kf:w3.frozen? ⟨B,5,none⟩ = false:=(World.frozen?_of_block (w:=w2) kB).trans f5)
  all_goals
   have k1:w3.cell? ⟨B,1,none⟩ = some (.int .i64 σ.p.next):=(World.cell?_of_block (w:=w2) kB).trans c1
   have kg:w3.frozen? ⟨B,1,none⟩ = false:=(World.frozen?_of_block (w:=w2) kB).trans f1
   have hfin:=nm_fin h2 hnx hown3 hgrow
   clear hown3 hgrow hat hg kB c0 c1 c2 c3 c4 c5 c6 x0 x1 hown hi0 hz0 hz1 hz2
   go_wp2_with fail
   go_ret
   exact ⟨ret_int (by rw [HX.out]),⟨_,_,_,by rw [HT.out]; exact hfin.1⟩,(Kp.of_below hb2 (Nat.le_of_lt hlt)).trans hfin.2⟩
end Go.Proofs.YtmfcpbhdggonfaaGreatDoor
