/- The statements' own walk: its contexts. Plain mathematics. -/
import Derived.Test.YtmfcpbhdggonfaaGreatDoorMhBJ
namespace Go.Proofs.YtmfcpbhdggonfaaGreatDoor
open Go.RowKit RR
theorem cnt_app (s t:ByteArray):∀ k,k ≤ s.size→cntB (s ++ t) k = cntB s k∧lastB (s ++ t) k = lastB s k
 | 0,_=>⟨rfl,rfl⟩
 | k + 1,h=>by
  have ih:=cnt_app s t k (by omega)
  have hb:atB (s ++ t) k = atB s k:=byte_left s t k (by omega)
  refine ⟨?_,?_⟩
  ·show cntB (s ++ t) k + (if thr (atB (s ++ t) k) = lastB (s ++ t) k then 0 else 1) = cntB s k + (if thr (atB s k) = lastB s k then 0 else 1)
   rw [hb,ih.1,ih.2]
  ·show thr (atB (s ++ t) k) = thr (atB s k)
   rw [hb]
theorem thr_read {b:UInt8} {x:Int × Bool} (h:readB b = some x):thr b = x.1∧0 ≤ thr b:=by
 unfold readB at h
 unfold thr
 split at h
 ·rename_i hb
  rw [if_pos hb]
  have h1:=congrArg Prod.fst (Option.some.inj h)
  exact ⟨h1,by omega⟩
 ·rename_i hb
  rw [if_neg hb]
  split at h
  ·rename_i hc
   rw [if_pos hc]
   have h1:=congrArg Prod.fst (Option.some.inj h)
   exact ⟨h1,by omega⟩
  ·cases h
structure WkOk (w:Wk):Prop where
 all:∀ j,j < w.s.size→0 ≤ thr (atB w.s j)
 ctx:w.ctx = cntB w.s w.s.size
 last:w.last = lastB w.s w.s.size
theorem WkOk.zero:WkOk zWk:=⟨fun _ hj=>absurd hj (Nat.not_lt_zero _),rfl,rfl⟩
theorem WkOk.seen {w:Wk} (h:WkOk w) (p:Plan) (most:Int) (i:Nat) (c:Cfg):WkOk (seenW p most i c w):=by
 obtain ⟨h1,h2,h3⟩:=seenW_s p most i c w
 exact ⟨by rw [h1]; exact h.all,by rw [h1,h2]; exact h.ctx,by rw [h1,h3]; exact h.last⟩
theorem WkOk.step {w:Wk} (h:WkOk w) {b:UInt8} {x:Int × Bool} (hb:readB b = some x):WkOk (stepW b x.1 w):=by
 have hz:(w.s ++ ⟨#[b]⟩).size = w.s.size + 1:=by rw [ByteArray.size_append]; rfl
 have hm:atB (w.s ++ ⟨#[b]⟩) w.s.size = b:=by
  have:=byte_mid w.s b ⟨#[]⟩
  rwa [show (⟨#[b]⟩:ByteArray) ++ ⟨#[]⟩ = ⟨#[b]⟩ from rfl] at this
 obtain ⟨t1,t2⟩:=thr_read hb
 have hq:=cnt_app w.s ⟨#[b]⟩ w.s.size (Nat.le_refl _)
 refine ⟨fun j hj=>?_,?_,?_⟩
 ·have hj:j < (w.s ++ ⟨#[b]⟩).size:=hj
  show 0 ≤ thr (atB (w.s ++ ⟨#[b]⟩) j)
  by_cases e:j = w.s.size
  ·subst e; rw [hm]; exact t2
  ·rw [show atB (w.s ++ ⟨#[b]⟩) j = atB w.s j from byte_left _ _ _ (by omega)]
   exact h.all j (by omega)
 ·show (if x.1 ≠ w.last then w.ctx + 1 else w.ctx) = cntB (w.s ++ ⟨#[b]⟩) (w.s ++ ⟨#[b]⟩).size
  rw [hz,cntB,hq.1,hq.2,hm,t1,← h.ctx,← h.last]
  by_cases e:x.1 = w.last
  ·rw [if_neg (fun hne=>hne e),if_pos e,Nat.add_zero]
  ·rw [if_pos e,if_neg e]
 ·show x.1 = lastB (w.s ++ ⟨#[b]⟩) (w.s ++ ⟨#[b]⟩).size
  rw [hz,lastB,hm,t1]
theorem WkOk.ctxN {w:Wk} (h:WkOk w) (hs:w.s.size ≤ 200):ctxN w.s = ((w.ctx:Int),0):=by
 rw [ctx_ok hs h.all,h.ctx]
theorem WkOk.ctx_le {w:Wk} (h:WkOk w):w.ctx ≤ w.s.size:=by rw [h.ctx]; exact cntB_le _ _
end Go.Proofs.YtmfcpbhdggonfaaGreatDoor
