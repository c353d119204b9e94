/- The statement Caught: what its searches and walks are. -/
import Derived.Test.YtmfcpbhdggonfaaGreatDoorMhBN
import Derived.Test.YtmfcpbhdggonfaaGreatDoorMhBP
import Derived.Test.YtmfcpbhdggonfaaGreatDoorMhBU
namespace Go.Proofs.YtmfcpbhdggonfaaGreatDoor
open Go.RowKit RR
theorem sp_some {p:Plan} {c:Int} {n:Nat} {s:Sr} (h1:1 ≤ c) (h6:c ≤ 6) (hn:n ≤ 60) (h:roundsF p c n (beginF p) = some s):searchP p c n = (s.rep,0):=by
 unfold searchP
 rw [if_neg (by omega),Int.toNat_natCast,h]
theorem sp_none {p:Plan} {c:Int} {n:Nat} (h1:1 ≤ c) (h6:c ≤ 6) (hn:n ≤ 60) (h:roundsF p c n (beginF p) = none):searchP p c n = (zRp,9):=by
 unfold searchP
 rw [if_neg (by omega),Int.toNat_natCast,h]
theorem sea_of (raw:ByteArray) {c:Int} {n:Nat} {r:Rp} {e:Int} (h1:1 ≤ c) (h6:c ≤ 6) (hn:n ≤ 60) (h:searchP (planOf (progS raw)) c n = (r,e)) (W:World):SeaC W (progS raw) c n r.race r.dead r.raceBy r.deadBy r.whole r.points e:=fun w _=>by
 refine (m_Search (progS raw) c n _ _ _ w (good_of (prog_facts raw).1) (by omega) (by omega) hn).mono ?_
 rintro e' w' ⟨rfl,hb⟩
 refine ⟨?_,hb⟩
 show Ending.returned (.tuple #[.agg (rpL (searchP (planOf (progS raw)) c n).1).toArray,.int .i64 (searchP (planOf (progS raw)) c n).2]) = _
 rw [h]
 rfl
theorem shw_of (raw:ByteArray) {W:World} (ht:TabOk W) {c:Int} {n:Nat} {s:Sr} (h1:1 ≤ c) (hn:n ≤ 60) (h:roundsF (planOf (progS raw)) c n (beginF (planOf (progS raw))) = some s):Shw W (progS raw) s.rep.raceBy s.rep.deadBy s.rep.race s.rep.dead s.rep.points c n:=by
 obtain ⟨hr,hd,p1,p6⟩:=report_ok (by omega) hn h
 have hp:=off_play raw ht
 refine ⟨fun w hb=>?_,fun w hb=>?_,?_,?_,?_,?_,hr.no,hd.no,by omega,by omega⟩
 ·obtain ⟨cf,hf,hq⟩:=hr.fol
  have e:=play_follow (by have:=hr.size; omega) hf
  refine (hp _ (by have:=hr.size; omega) w hb).mono ?_
  rintro e' w' ⟨rfl,hb'⟩
  rw [e]
  exact ⟨⟨textF _ cf,enabledF _ cf,deadF _ cf,by rw [← hq]; rfl⟩,hb'⟩
 ·obtain ⟨cf,hf,hq⟩:=hd.fol
  have e:=play_follow (by have:=hd.size; omega) hf
  refine (hp _ (by have:=hd.size; omega) w hb).mono ?_
  rintro e' w' ⟨rfl,hb'⟩
  rw [e]
  exact ⟨⟨textF _ cf,enabledF _ cf,raceF _ cf,by rw [← hq]; rfl⟩,hb'⟩
 ·obtain ⟨k,hk,hle⟩:=hr.ctx
  refine ⟨k,by omega,fun w=>(m_Contexts _ w (by have:=hr.size; unfold maxLen; omega)).mono ?_⟩
  rintro e' w' ⟨rfl,rfl⟩
  rw [hk]
  exact ⟨rfl,rfl⟩
 ·obtain ⟨k,hk,hle⟩:=hd.ctx
  refine ⟨k,by omega,fun w=>(m_Contexts _ w (by have:=hd.size; unfold maxLen; omega)).mono ?_⟩
  rintro e' w' ⟨rfl,rfl⟩
  rw [hk]
  exact ⟨rfl,rfl⟩
 ·have:=hr.size; omega
 ·have:=hd.size; omega
theorem k_Caught_all (raw path:ByteArray) (c:Int) (hr:raw.size ≤ 9223372036854775807) (hp:path.size ≤ 9223372036854775807) (hc:-9223372036854775808 ≤ c∧c ≤ 9223372036854775807) (W:World) (ht:TabOk W) :
    Calls Tryz.prog 8 #[.string raw,.string path,.int .i64 c] W fun e w'=>e = .returned (.bool true)∧Below W.heap.size W w':=by
 obtain ⟨j,hj,hpk⟩:=k_pickG c 6 hc (by decide)
 have hj6:j < 6:=by omega
 have hw:=off_walk raw path hp (1 + j) (by omega) ht
 cases hs:roundsF (planOf (progS raw)) (1 + j) 60 (beginF (planOf (progS raw))) with
 | none=>exact k_Caught_big W raw path (progS raw) c j hj6 _ _ (off_prog raw hr W) hpk hw (sea_of raw (by omega) (by omega) (Nat.le_refl _) (sp_none (by omega) (by omega) (Nat.le_refl _) hs) W)
 | some s =>
  have wp:=walk_points (planOf (progS raw)) path (1 + j) 41 0 (start1 (planOf (progS raw))) zWk (fun _=>rfl) (.inl (by decide)) (.inl (by decide))
  refine k_Caught_ok W raw path (progS raw) c j hj6 _ _ _ _ _ _ _ (off_prog raw hr W) hpk hw (sea_of raw (by omega) (by omega) (Nat.le_refl _) (sp_some (by omega) (by omega) (Nat.le_refl _) hs) W) (shw_of raw ht (by omega) (Nat.le_refl _) hs) ?_ ?_
  ·rcases wp.1 with h | ⟨x,hx,hq,hle⟩
   ·exact .inl h
   ·by_cases h0:¬ (wkOf raw path (1 + j)).race < 0
    ·have:=(misses_none (by omega) hs (by omega) hx).1 hq
     refine .inr ⟨this.1,?_⟩
     have h2:=this.2
     show (s.rep.raceBy.size:Int) ≤ (wkOf raw path (1 + j)).race
     have e:((wkOf raw path (1 + j)).race.toNat:Int) = (wkOf raw path (1 + j)).race:=Int.toNat_of_nonneg (by omega)
     have h3:s.rep.raceBy.size ≤ (wkOf raw path (1 + j)).race.toNat:=h2
     omega
    ·exact .inl (by omega)
  ·rcases wp.2 with h | ⟨x,hx,hq,hle⟩
   ·exact .inl h
   ·by_cases h0:¬ (wkOf raw path (1 + j)).dead < 0
    ·have:=(misses_none (by omega) hs (by omega) hx).2 hq
     refine .inr ⟨this.1,?_⟩
     have e:((wkOf raw path (1 + j)).dead.toNat:Int) = (wkOf raw path (1 + j)).dead:=Int.toNat_of_nonneg (by omega)
     have h3:s.rep.deadBy.size ≤ (wkOf raw path (1 + j)).dead.toNat:=this.2
     omega
    ·exact .inl (by omega)
end Go.Proofs.YtmfcpbhdggonfaaGreatDoor
