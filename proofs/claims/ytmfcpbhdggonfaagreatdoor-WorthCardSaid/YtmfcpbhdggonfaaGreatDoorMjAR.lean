/- The program's parser in memory: a statement that is being read. -/
import Derived.Test.YtmfcpbhdggonfaaGreatDoorMjAQ
import Derived.Test.YtmfcpbhdggonfaaGreatDoorMjAF
import Derived.Test.YtmfcpbhdggonfaaGreatDoorMjAP
import Derived.Test.YtmfcpbhdggonfaaGreatDoorMjAO
import Derived.Laws.StructEq
namespace Go.Proofs.YtmfcpbhdggonfaaGreatDoor
open Go.RowKit RR
structure BX (S:Nat) (s:Stm) (vV:Value) (w:World):Prop where
 blk:w.heap[S]? = some (.cells #[.int .i64 s.kind,.int .i64 s.at_,.int .i64 s.blk.proc,.int .i64 s.blk.owner,.bool s.blk.els,.int .i64 s.target,.int .i64 s.name,vV] 202 (0,0))
 row:w.ownsRow (S + 1) 248 2 vV s.vals.length (exc s.vals)
theorem BX.kp {B S:Nat} {s:Stm} {vV:Value} {w w':World} (h:BX S s vV w) (k:Kp B w w'):BX S s vV w' :=
 ⟨k.keep S _ _ _ h.blk (by decide) (by decide) (by decide) (by decide),owns_keep h.row (fun n c f hk _=>k.keep n c _ f hk (by decide) (by decide) (by decide) (by decide))⟩
theorem BX.below {S:Nat} {s:Stm} {vV:Value} {w w':World} (h:BX S s vV w) (hb:Below w.heap.size w w'):BX S s vV w':=h.kp (B:=0) (Kp.of_below hb (Nat.zero_le _))
theorem BX.lt {S:Nat} {s:Stm} {vV:Value} {w:World} (h:BX S s vV w):S < w.heap.size:=(Array.getElem?_eq_some_iff.1 h.blk).1
theorem BX.cells {S:Nat} {s:Stm} {vV:Value} {w:World} (h:BX S s vV w):w.cell? ⟨S,0,none⟩ = some (.int .i64 s.kind)∧w.cell? ⟨S,1,none⟩ = some (.int .i64 s.at_)∧w.cell? ⟨S,2,none⟩ = some (.int .i64 s.blk.proc)∧w.cell? ⟨S,3,none⟩ = some (.int .i64 s.blk.owner)∧w.cell? ⟨S,4,none⟩ = some (.bool s.blk.els)∧w.cell? ⟨S,5,none⟩ = some (.int .i64 s.target)∧w.cell? ⟨S,6,none⟩ = some (.int .i64 s.name)∧w.cell? ⟨S,7,none⟩ = some vV∧(∀ i,w.frozen? ⟨S,i,none⟩ = false):=by
 have hh:=h.blk
 refine ⟨?_,?_,?_,?_,?_,?_,?_,?_,fun i=>?_⟩ <;> simp [World.cell?,World.frozen?,hh]
structure KpS (B S:Nat) (vV:Value) (w:World) (vV':Value) (w':World):Prop where
 bel:Below B w w'
 keep:∀ (k:Nat) (c:Array Value) (T:TypeId) (f:Nat × Nat),w.heap[k]? = some (Obj.cells c T f)→T ≠ 231→T ≠ 186→T ≠ 286→T ≠ 190→k ≠ S→some k ≠ vV.ownBlock→w'.heap[k]? = some (Obj.cells c T f)
 own:vV'.ownBlock = vV.ownBlock ∨ ∀ g,vV'.ownBlock = some g→w.heap.size ≤ g
theorem Kp.s {B:Nat} {w w':World} (h:Kp B w w') (S:Nat) (vV:Value):KpS B S vV w vV w':=⟨h.bel,fun k c T f h0 h1 h2 h3 h4 _ _=>h.keep k c T f h0 h1 h2 h3 h4,.inl rfl⟩
theorem KpS.trans {B S:Nat} {u v x:Value} {a b c:World} (h:KpS B S u a v b) (k:KpS B S v b x c):KpS B S u a x c:=by
 have hsz:=h.bel.size
 refine ⟨h.bel.trans k.bel,fun n cs T f h0 h1 h2 h3 h4 h5 h6=>?_,?_⟩
 ·refine k.keep n cs T f (h.keep n cs T f h0 h1 h2 h3 h4 h5 h6) h1 h2 h3 h4 h5 (fun e=>?_)
  rcases h.own with h7 | h7
  ·rw [h7] at e; exact h6 e
  ·have:=h7 n e.symm
   have:=(Array.getElem?_eq_some_iff.1 h0).1
   omega
 ·rcases k.own with k1 | k1
  ·rw [k1]; exact h.own
  ·exact .inr fun g hg=>by have:=k1 g hg; omega
structure FS (S:Nat) (vV:Value) (w w':World):Prop where
 bel:Below S w w'
 blk:∀ k,k < w.heap.size→k ≠ S→some k ≠ vV.ownBlock→w'.heap[k]? = w.heap[k]?
theorem BX.ne {S:Nat} {s:Stm} {vV:Value} {w:World} (h:BX S s vV w) {k:Nat} {c:Array Value} {T:TypeId} {f:Nat × Nat} (hk:w.heap[k]? = some (Obj.cells c T f)) (h1:T ≠ 202) (h2:T ≠ 248):k ≠ S∧some k ≠ vV.ownBlock:=by
 refine ⟨fun e=>?_,fun e=>?_⟩
 ·subst e
  rw [h.blk] at hk
  simp at hk
  exact h1 hk.2.1.symm
 ·rcases h.row.2 with ⟨hv,_⟩ | ⟨g,cp,cur,hv,hg,hh,_⟩
  ·rw [hv] at e; simp [Value.ownBlock] at e
  ·rw [hv] at e
   simp [Value.ownBlock] at e
   subst e
   rw [hh] at hk
   simp at hk
   exact h2 hk.2.1.symm
theorem BX.hi {S:Nat} {s:Stm} {vV:Value} {w:World} (h:BX S s vV w) {k:Nat} (hk:k ≤ S):some k ≠ vV.ownBlock:=fun e=>by
 have:=(h.row.lt k e.symm).1; omega
theorem ps_fs {B:Nat} {ao:Option Addr} {cap:Nat} {L:List Tk} {U:Nat} {σ:QSt} {vS:Value} {S:Nat} {s:Stm} {vV:Value} {w w':World} (h:PS B ao cap L U σ vS w) (hx:BX S s vV w) (hf:FS S vV w w') (hU:U ≤ S) (hB:B < S) (hvS:vS.ownBlock ≠ some S):PS B ao cap L U σ vS w':=by
 obtain ⟨vN,vC,vD,h⟩:=h
 have lt:∀ {k:Nat} {c:Array Value} {T:TypeId} {f:Nat × Nat},w.heap[k]? = some (Obj.cells c T f)→k < w.heap.size:=fun hk=>(Array.getElem?_eq_some_iff.1 hk).1
 refine ⟨vN,vC,vD,(hf.bel.block B hB).trans h.blk,h.tok.below (hf.bel.mono (Nat.le_of_lt hB)),?_,?_,?_,h.st.keep ?_ ?_,h.le,h.inv⟩
 ·exact owns_keep h.nm (fun k c f hk _=>by have:=hx.ne hk (by decide) (by decide); rw [hf.blk k (lt hk) this.1 this.2]; exact hk)
 ·exact owns_keep h.cl (fun k c f hk _=>by have:=hx.ne hk (by decide) (by decide); rw [hf.blk k (lt hk) this.1 this.2]; exact hk)
 ·exact owns_keep h.nd (fun k c f hk _=>by have:=hx.ne hk (by decide) (by decide); rw [hf.blk k (lt hk) this.1 this.2]; exact hk)
 ·intro k c f hk e
  have h1:k ≠ S:=fun e2=>hvS (by rw [← e,e2])
  have h2:some k ≠ vV.ownBlock:=fun e2=>by
   rcases hx.row.2 with ⟨hv,_⟩ | ⟨g,cp,cur,hv,hg,hh,_⟩
   ·rw [hv] at e2; simp [Value.ownBlock] at e2
   ·rw [hv] at e2
    simp [Value.ownBlock] at e2
    subst e2
    rw [hh] at hk
    simp at hk
  rw [hf.blk k (lt hk) h1 h2]; exact hk
 ·intro k c f hkU hk
  rw [hf.blk k (lt hk) (by omega) (hx.hi (by omega))]; exact hk
theorem FS.kps {B S:Nat} {vV vV':Value} {w w':World} (h:FS S vV w w') (hB:B ≤ S) (ho:vV'.ownBlock = vV.ownBlock ∨ ∀ g,vV'.ownBlock = some g→w.heap.size ≤ g):KpS B S vV w vV' w' :=
 ⟨h.bel.mono hB,fun k _ _ _ h0 _ _ _ _ h5 h6=>(h.blk k (Array.getElem?_eq_some_iff.1 h0).1 h5 h6).trans h0,ho⟩
theorem bx_set {S:Nat} {s s':Stm} {vV:Value} {w:World} (h:BX S s vV w) (i:Nat) (v:Value)
    (hb:(#[.int .i64 s.kind,.int .i64 s.at_,.int .i64 s.blk.proc,.int .i64 s.blk.owner,.bool s.blk.els,.int .i64 s.target,.int .i64 s.name,vV]:Array Value).setIfInBounds i v = #[.int .i64 s'.kind,.int .i64 s'.at_,.int .i64 s'.blk.proc,.int .i64 s'.blk.owner,.bool s'.blk.els,.int .i64 s'.target,.int .i64 s'.name,vV]) (hv:s'.vals = s.vals):BX S s' vV (w.setCell ⟨S,i,none⟩ v)∧FS S vV w (w.setCell ⟨S,i,none⟩ v):=by
 refine ⟨⟨?_,?_⟩,(Below.refl _ _).setCell (p:=⟨S,i,none⟩) (Nat.le_refl S) _,fun k _ hk _=>Below.heap_setCell w ⟨S,i,none⟩ v k hk⟩
 ·rw [cts_set h.blk i v,hb]
 ·rw [hv]; exact ownsRow_setCell_below h.row (Nat.lt_succ_self S) v
theorem exc_append (a b:List (Int × Int)):exc (a ++ b) = exc a ++ exc b:=by
 induction a with
 | nil=>rfl
 | cons t r ih=>show _ :: _ :: exc (r ++ b) = _; rw [ih]; rfl
theorem Tryz.infoEx:(Tryz.prog.info? 248).map (fun i=>(i.zero,i.size,i.bytes)) = some (some (.agg #[.int .i64 0,.int .i64 0]),2,16):=by kernel_rfl
theorem two_one {a b:Value} (h1:a.oneCell' = true) (h2:b.oneCell' = true):∀ u ∈ [a,b],u.oneCell' = true:=by
 intro u hu
 simp only [List.mem_cons,List.mem_nil_iff,or_false] at hu
 rcases hu with rfl | rfl <;> assumption
structure Ap (S:Nat) (s:Stm) (vV:Value) (x y:Int) (w0:World) (v':Value) (w3:World):Prop where
 row:w3.ownsRow (S + 1) 248 2 v' (s.vals.length + 1) (exc s.vals ++ [.int .i64 x,.int .i64 y])
 fs:FS S vV w0 w3
 blk:w3.heap[S]? = w0.heap[S]?
 own:v'.ownBlock = vV.ownBlock ∨ ∀ g,v'.ownBlock = some g→w0.heap.size ≤ g
theorem app_ex {ops:Array Oper} {rest:List Oper} {o:Oper} {a:Act} {Q:Exit→Act→World→Prop} {w0:World} {S:Nat} {s:Stm} {vV:Value} (x y:Int)
    (hb:BX S s vV w0) (hl:s.vals.length ≤ 1000) (hgd:o.guard = none) (sp xp:Operand)
    (ho:o.op = .call { callee:=.builtin .append,args:=#[sp,xp],argTypes:=#[200,200] }) (hs:a.eval sp = vV) {nb:Nat}
    (hx:a.eval xp = .slice (some ⟨nb,0,none⟩) 1 1) (hnb:nb = w0.heap.size)
    (h:∀ g cap' w3,Ap S s vV x y w0 (.slice (some ⟨g,0,none⟩) (s.vals.length + 1) cap') w3→wpList Tryz.prog ops Q rest (a.put o.dst (.slice (some ⟨g,0,none⟩) (s.vals.length + 1) cap')) w3) :
    wpList Tryz.prog ops Q (o :: rest) a (w0.alloc (.cells #[.int .i64 x,.int .i64 y] 248)):=by
 obtain ⟨i0,hi0,hz0,hz1,hz2⟩:=info_parts Tryz.infoEx
 subst hnb
 have hlt:=hb.lt
 refine wpList_plain hgd fun _ hK=>wp_append_lies _ sp xp 200 ho (S + 1) 248 i0 (.agg #[.int .i64 0,.int .i64 0]) 2 16 Tryz.underlying200 hi0 hz0 hz1 hz2 rfl (by decide) vV s.vals.length (exc s.vals) hs (hb.row.alloc _) ⟨w0.heap.size,0,none⟩ 1 1 [.int .i64 x,.int .i64 y] hx rfl (World.news_of_block (heap_alloc_new w0 _)) (two_one rfl rfl) (by decide) (by unfold maxLen; omega) (by omega) (by simp; omega) _ rfl fun g cap' w3 hown3 hgrow hat _=>hK _ _ (h _ _ _ ⟨hown3,⟨?_,?_⟩,?_,?_⟩)
 ·refine ⟨hgrow.os,hgrow.tape,hgrow.output,Nat.le_trans (by simp) hgrow.size,fun k hk=>?_⟩
  exact (hgrow.block k (by simp; omega) (hb.hi (by omega))).trans (Below.heap_alloc w0 _ k (by omega))
 ·intro k hk _ h3
  exact (hgrow.block k (by simp; omega) h3).trans (Below.heap_alloc w0 _ k hk)
 ·exact (hgrow.block S (by simp; omega) (hb.hi (Nat.le_refl _))).trans (Below.heap_alloc w0 _ S hlt)
 ·rcases hat with h3 | h3
  ·exact .inl h3.symm
  ·refine .inr fun g' hg'=>?_
   simp [Value.ownBlock] at hg'
   rw [← hg',h3]
   simp
theorem bx_fin {S:Nat} {s:Stm} {vV:Value} {w0 w3:World} {x y:Int} {v':Value} (h2:BX S s vV w0) (ha:Ap S s vV x y w0 v' w3) :
    BX S { s with vals:=s.vals ++ [(x,y)] } v' (w3.setCell ⟨S,7,none⟩ v')∧FS S vV w0 (w3.setCell ⟨S,7,none⟩ v'):=by
 refine ⟨⟨?_,?_⟩,ha.fs.bel.setCell (p:=⟨S,7,none⟩) (Nat.le_refl S) _,fun k hk h1 h3=>?_⟩
 ·rw [cts_set (ha.blk.trans h2.blk) 7 _]; rfl
 ·have h4:w3.ownsRow (S + 1) 248 2 v' (s.vals ++ [(x,y)]).length (exc (s.vals ++ [(x,y)])):=by
    rw [exc_append,List.length_append]; exact ha.row
  exact ownsRow_setCell_below h4 (Nat.lt_succ_self S) _
 ·rw [Below.heap_setCell _ ⟨S,7,none⟩ _ k h1]
  exact ha.fs.blk k hk h1 h3
end Go.Proofs.YtmfcpbhdggonfaaGreatDoor
namespace Go.Proofs.YtmfcpbhdggonfaaGreatDoor
open Go.RowKit RR
structure Apd (base:Nat) (T:TypeId) (size:Nat) (v:Value) (n:Nat) (xs ys:List Value) (w0:World) (v':Value) (w3:World):Prop where
 row:w3.ownsRow base T size v' (n + 1) (xs ++ ys)
 blk:∀ k,k < w0.heap.size→some k ≠ v.ownBlock→w3.heap[k]? = w0.heap[k]?
 bel:Below base w0 w3
 own:v'.ownBlock = v.ownBlock ∨ ∀ g,v'.ownBlock = some g→w0.heap.size ≤ g
theorem app_row {ops:Array Oper} {rest:List Oper} {o:Oper} {a:Act} {Q:Exit→Act→World→Prop} {w0:World} {base:Nat} {T S:TypeId} {size bytes n:Nat} {z v:Value} {xs:List Value} {cs:Array Value}
    (hinfo:(Tryz.prog.info? T).map (fun i=>(i.zero,i.size,i.bytes)) = some (some z,size,bytes)) (hzs:z.cells.size = size) (hsz:0 < size) (hS:Tryz.prog.underlying S = some (.slice T))
    (hown:w0.ownsRow base T size v n xs) (hl:n ≤ 100000) (hby:bytes ≤ 100000) (hB:base ≤ w0.heap.size) (hcs:cs.toList.length = size) (h1:∀ u ∈ cs.toList,u.oneCell' = true) (hgd:o.guard = none) (sp xp:Operand)
    (ho:o.op = .call { callee:=.builtin .append,args:=#[sp,xp],argTypes:=#[S,S] }) (hs:a.eval sp = v) {nb:Nat}
    (hx:a.eval xp = .slice (some ⟨nb,0,none⟩) 1 1) (hnb:nb = w0.heap.size)
    (h:∀ g cap' w3,Apd base T size v n xs cs.toList w0 (.slice (some ⟨g,0,none⟩) (n + 1) cap') w3→wpList Tryz.prog ops Q rest (a.put o.dst (.slice (some ⟨g,0,none⟩) (n + 1) cap')) w3) :
    wpList Tryz.prog ops Q (o :: rest) a (w0.alloc (.cells cs T)):=by
 obtain ⟨i0,hi0,hz0,hz1,hz2⟩:=info_parts hinfo
 subst hnb
 refine wpList_plain hgd fun _ hK=>wp_append_lies _ sp xp S ho base T i0 z size bytes hS hi0 hz0 hz1 hz2 hzs hsz v n xs hs (hown.alloc _) ⟨w0.heap.size,0,none⟩ 1 1 cs.toList hx (by omega) (World.news_of_block (heap_alloc_new w0 _)) h1 (by decide) (by unfold maxLen; omega) (Nat.le_trans (Nat.mul_le_mul (show n + 1 ≤ 100001 by omega) hby) (by decide)) (Nat.le_trans hB (by simp)) _ rfl fun g cap' w3 hown3 hgrow hat _=>hK _ _ (h _ _ _ ⟨hown3,?_,?_,?_⟩)
 ·intro k hk h3
  exact (hgrow.block k (by simp; omega) h3).trans (Below.heap_alloc w0 _ k hk)
 ·refine ⟨hgrow.os,hgrow.tape,hgrow.output,Nat.le_trans (by simp) hgrow.size,fun k hk=>?_⟩
  refine (hgrow.block k (by simp; omega) (fun e=>?_)).trans (Below.heap_alloc w0 _ k (by omega))
  have:=(hown.lt k e.symm).1
  omega
 ·rcases hat with h3 | h3
  ·exact .inl h3.symm
  ·refine .inr fun g' hg'=>?_
   simp [Value.ownBlock] at hg'
   rw [← hg',h3]
   simp
theorem Apd.keep {base:Nat} {T:TypeId} {size n:Nat} {v v':Value} {xs ys:List Value} {w0 w3:World} (h:Apd base T size v n xs ys w0 v' w3) (hown:w0.ownsRow base T size v n xs) {k:Nat} {c:Array Value} {e:TypeId} {f:Nat × Nat} (hk:w0.heap[k]? = some (Obj.cells c e f)) (hne:e ≠ T):w3.heap[k]? = some (Obj.cells c e f):=by
 rw [h.blk k (Array.getElem?_eq_some_iff.1 hk).1 (fun e2=>?_)]
 ·exact hk
 ·rcases hown.2 with ⟨hv,_⟩ | ⟨g,cp,cur,hv,hg,hh,_⟩
  ·rw [hv] at e2; simp [Value.ownBlock] at e2
  ·rw [hv] at e2
   simp [Value.ownBlock] at e2
   subst e2
   rw [hh] at hk
   simp at hk
   exact hne hk.2.1.symm
end Go.Proofs.YtmfcpbhdggonfaaGreatDoor
namespace Go.Proofs.YtmfcpbhdggonfaaGreatDoor
open Go.RowKit RR
set_option maxRecDepth 100000 in
theorem eqBlk (a b:Int) (c:Bool) (d e:Int) (f:Bool) (w:World):(Op.equalIn 10000 199 (.agg #[.int .i64 a,.int .i64 b,.bool c]) (.agg #[.int .i64 d,.int .i64 e,.bool f])).run Tryz.prog w = .ok (decide (a = d) && (decide (b = e) && (c == f))) w:=by
 have u3:=Tryz.underlying3
 have a3:=Tryz.isAgg3
 have z3:=Tryz.sizeOf3
 have u4:=Tryz.underlying4
 have a4:=Tryz.isAgg4
 have z4:=Tryz.sizeOf4
 have hS:Tryz.prog.underlying 199 = some (.struct (Tryz.prog.fieldsOf 199)):=by kernel_rfl
 have hp:Tryz.prog.stoodInHeld 199 = false:=by kernel_rfl
 rw [show (10000:Nat) = 9999 + 1 from rfl,run_equalIn_agg w 9999 199 _ _ hS hp]
 simp only [Program.fieldsOf,Tryz.underlying199]
 go_simp
 by_cases h1:a = d <;> by_cases h2:b = e <;> cases c <;> cases f <;> simp [h1,h2]
theorem StSl.get {w:World} {ao:Option Addr} {l:List Stm} (h:StSl w ao l) (k:Nat) (hk:k < l.length):∃ b o v,b < w.heap.size∧ao = some ⟨b,o,none⟩∧ExSl w v l[k].vals∧w.rangeAt b (o + k * 8) (stC (l[k],v)):=by
 obtain ⟨m,h1,h2,h3⟩:=h
 subst h1
 have hk':k < m.length:=by simpa using hk
 obtain ⟨b,o,q1,q2,q3⟩:=h2.get (f:=stC) (n:=8) (fun _=>rfl) (by decide) k hk'
 refine ⟨b,o,m[k].2,q1,q2,?_,?_⟩
 ·have:=h3 m[k] (List.getElem_mem _)
  simpa using this
 ·simpa using q3
theorem range8 {w:World} {b o:Nat} {s:Stm} {v:Value} (h:w.rangeAt b o (stC (s,v))):w.cell? ⟨b,o,none⟩ = some (.int .i64 s.kind)∧w.cell? ⟨b,o + 1,none⟩ = some (.int .i64 s.at_)∧w.cell? ⟨b,o + 2,none⟩ = some (.int .i64 s.blk.proc)∧w.cell? ⟨b,o + 3,none⟩ = some (.int .i64 s.blk.owner)∧w.cell? ⟨b,o + 4,none⟩ = some (.bool s.blk.els)∧w.cell? ⟨b,o + 5,none⟩ = some (.int .i64 s.target)∧w.cell? ⟨b,o + 6,none⟩ = some (.int .i64 s.name)∧w.cell? ⟨b,o + 7,none⟩ = some v :=
 ⟨h 0 _ rfl,h 1 _ rfl,h 2 _ rfl,h 3 _ rfl,h 4 _ rfl,h 5 _ rfl,h 6 _ rfl,h 7 _ rfl⟩
theorem firstInF_drop {b:Blk} {frm:Int} {l:List Stm} {k:Nat} (h:k < l.length):firstInF b frm (l.drop k) k = if frm ≤ (k:Int) then (if blkEq l[k].blk b then some k else firstInF b frm (l.drop (k + 1)) (k + 1)) else firstInF b frm (l.drop (k + 1)) (k + 1):=by
 rw [List.drop_eq_getElem_cons h]; rfl
def fstV:Option Nat→Value
 | some k=>.tuple #[.int .i64 k,.bool true]
 | none=>.tuple #[.int .i64 0,.bool false]
theorem bx3 {w wr:World} {T:TypeId} {x0 x1 x2:Value} (hb:Below (w.heap.size + 1) (w.alloc (.cells #[x0,x1,x2] T)) wr):wr.cell? ⟨w.heap.size,0,none⟩ = some x0∧wr.cell? ⟨w.heap.size,1,none⟩ = some x1∧wr.cell? ⟨w.heap.size,2,none⟩ = some x2∧w.heap.size < wr.heap.size∧Below w.heap.size w wr:=by
 have h2:=hb.size
 refine ⟨(hb.cell (p:=⟨w.heap.size,0,none⟩) (Nat.lt_succ_self _)).trans (by simp),(hb.cell (p:=⟨w.heap.size,1,none⟩) (Nat.lt_succ_self _)).trans (by simp),(hb.cell (p:=⟨w.heap.size,2,none⟩) (Nat.lt_succ_self _)).trans (by simp),?_,((Below.refl _ _).alloc (Nat.le_refl _) _).trans (hb.mono (Nat.le_succ _))⟩
 simp at h2; omega
set_option maxRecDepth 100000 in
set_option maxHeartbeats 2000000 in
theorem pn_firstIn (ao:Option Addr) (cap:Nat) (l:List Stm) (bk:Blk) (frm:Int) (w:World) (hl:l.length ≤ 10000) (hi:StSl w ao l) :
    Calls Tryz.prog 188 #[.slice ao l.length cap,.agg #[.int .i64 bk.proc,.int .i64 bk.owner,.bool bk.els],.int .i64 frm] w fun e w'=>e = .returned (fstV (firstInF bk frm l 0))∧Below w.heap.size w w':=by
 have hEq:=eqBlk
 have hg:Tryz.prog.eqGuardType Tryz.prog.depth 199 = false:=by kernel_rfl
 go_enter Tryz.func188,Tryz.ntmps188
 go_wp2
 go_loopw [12] (fun u wr=>∃ k:Nat,u = .int .i64 k∧k ≤ l.length∧firstInF bk frm (l.drop k) k = firstInF bk frm l 0∧Below (w.heap.size + 1) (w.alloc (.cells #[.int .i64 bk.proc,.int .i64 bk.owner,.bool bk.els] 199)) wr) (fun u _=>l.length - (intOf u).toNat)
 case atStart=>exact ⟨0,rfl,Nat.zero_le _,rfl,Below.refl _ _⟩
 case round =>
  obtain ⟨k,rfl,hk,hn,hbx⟩:=hrel
  have HN:=hide hn
  have HB:=hide hbx
  obtain ⟨n0,n1,n2,hsz,hbel⟩:=bx3 hbx
  clear hn hbx
  by_cases hlt:k < l.length
  ·obtain ⟨b,o,v,hb,hao,hv,hr8⟩:=(hi.below hbel).get k hlt
   obtain ⟨va,vc,rfl,_⟩:=hv
   obtain ⟨c0,c1,c2,c3,c4,c5,c6,c7⟩:=range8 hr8
   subst hao
   clear hr8 hbel
   have HS:=hide (firstInF_drop (b:=bk) (frm:=frm) hlt)
   by_cases hf:frm ≤ (k:Int)
   ·cases hE:blkEq l[k].blk bk
    ·have hE2:(decide (l[k].blk.proc = bk.proc) && (decide (l[k].blk.owner = bk.owner) && (l[k].blk.els == bk.els))) = false:=hE
     have HE:=hide hE
     clear hE
     go_wp2
     go_roundw
     case rel=>exact ⟨k + 1,by go_num,by omega,by rw [← HN.out,HS.out,if_pos hf,HE.out]; rfl,HB.out.alloc hsz _⟩
     case measure=>simp [intOf]; omega
    ·have hE2:(decide (l[k].blk.proc = bk.proc) && (decide (l[k].blk.owner = bk.owner) && (l[k].blk.els == bk.els))) = true:=hE
     have HE:=hide hE
     clear hE
     go_wp2
     go_ret2
     exact ⟨by rw [← HN.out,HS.out,if_pos hf,HE.out]; rfl,(bx3 HB.out).2.2.2.2.alloc (bx3 HB.out).2.2.2.2.size _⟩
   ·have hf2:(k:Int) < frm:=by omega
    go_wp2
    go_roundw
    case rel=>exact ⟨k + 1,by go_num,by omega,by rw [← HN.out,HS.out,if_neg hf],HB.out.alloc hsz _⟩
    case measure=>simp [intOf]; omega
  ·go_wp2
   go_ret2
   exact ⟨by rw [← HN.out,List.drop_of_length_le (by omega)]; rfl,(bx3 HB.out).2.2.2.2⟩
def set3 (w:World) (A:Nat) (x y z:Value):World:=((w.setCell ⟨A,0,none⟩ x).setCell ⟨A,1,none⟩ y).setCell ⟨A,2,none⟩ z
theorem set3_heap {w:World} {A:Nat} {a b c x y z:Value} {T:TypeId} (hA:w.heap[A]? = some (.cells #[a,b,c] T (0,0))):(set3 w A x y z).heap[A]? = some (.cells #[x,y,z] T (0,0)):=cts_set (cts_set (cts_set hA 0 x) 1 y) 2 z
theorem set3_below {W w:World} {A:Nat} (h:Below A W w) (x y z:Value):Below A W (set3 w A x y z):=((h.setCell (p:=⟨A,0,none⟩) (Nat.le_refl _) _).setCell (p:=⟨A,1,none⟩) (Nat.le_refl _) _).setCell (p:=⟨A,2,none⟩) (Nat.le_refl _) _
theorem nextF_some {l:List Stm} {f:Nat} {b:Blk} {k:Nat} {q:Int}:nextF l (f + 1) b (some k) q = k:=rfl
theorem nextF_out {l:List Stm} {f:Nat} {b:Blk} {q:Int} (h:¬ (0 ≤ b.owner∧b.owner < q)):nextF l (f + 1) b none q = 0:=if_neg h
theorem nextF_loop {l:List Stm} {f:Nat} {b:Blk} {q:Int} (h:0 ≤ b.owner∧b.owner < q) (h2:(stmAt l b.owner.toNat).kind = 3):nextF l (f + 1) b none q = b.owner:=(if_pos h).trans (if_pos h2)
theorem nextF_up {l:List Stm} {f:Nat} {b:Blk} {q:Int} (h:0 ≤ b.owner∧b.owner < q) (h2:¬ (stmAt l b.owner.toNat).kind = 3):nextF l (f + 1) b none q = nextF l f (stmAt l b.owner.toNat).blk (firstInF (stmAt l b.owner.toNat).blk (b.owner + 1) l 0) b.owner:=(if_pos h).trans (if_neg h2)
theorem stmAt_eq {l:List Stm} {k:Nat} (h:k < l.length):stmAt l k = l[k]:=by unfold stmAt; rw [List.getElem?_eq_getElem h]; rfl
theorem fstV_eq (r:Option Nat):fstV r = .tuple #[.int .i64 ((r.getD 0:Nat):Int),.bool r.isSome]:=by cases r <;> rfl
set_option maxRecDepth 100000 in
set_option maxHeartbeats 4000000 in
theorem pn_comesNext (ao:Option Addr) (cap:Nat) (l:List Stm) (bk:Blk) (frm:Int) (w:World) (hl:l.length ≤ 10000) (hi:StSl w ao l) :
    Calls Tryz.prog 147 #[.slice ao l.length cap,.agg #[.int .i64 bk.proc,.int .i64 bk.owner,.bool bk.els],.int .i64 frm] w fun e w'=>e = .returned (.int .i64 (comesF l bk frm))∧Below w.heap.size w w':=by
 have hA0:=heap_alloc_new w (.cells #[.int .i64 bk.proc,.int .i64 bk.owner,.bool bk.els] 199)
 have hb0:Below w.heap.size w (w.alloc (.cells #[.int .i64 bk.proc,.int .i64 bk.owner,.bool bk.els] 199)):=(Below.refl _ _).alloc (Nat.le_refl _) _
 go_enter Tryz.func147,Tryz.ntmps147
 go_wp2_with fail
 refine (pn_firstIn ao cap l bk frm _ hl (hi.below hb0)).mono ?_
 rintro e w1 ⟨rfl,hb1⟩
 rw [fstV_eq]
 have hA1:=(hb1.block w.heap.size (by simp)).trans hA0
 have hbel1:=hb0.trans (hb1.mono hb0.size)
 clear hA0 hb0 hb1
 generalize hr1:firstInF bk frm l 0 = r1
 have HR1:=hide hr1
 clear hr1
 go_wp2_with fail
 go_loopw [7,8,9] (fun u v q wr=>∃ (r:Option Nat) (b:Blk) (y:Int) (f:Nat),u = .int .i64 ((r.getD 0:Nat):Int)∧v = .bool r.isSome∧q = .int .i64 y∧0 ≤ y∧y ≤ l.length∧y.toNat < f∧nextF l f b r y = comesF l bk frm∧wr.heap[w.heap.size]? = some (.cells #[.int .i64 b.proc,.int .i64 b.owner,.bool b.els] 199 (0,0))∧Below w.heap.size w wr) (fun _ _ q _=>(intOf q).toNat)
 case atStart=>exact ⟨r1,bk,l.length,l.length + 1,rfl,rfl,rfl,by omega,by omega,by omega,by rw [← HR1.out]; rfl,hA1,hbel1⟩
 case round =>
  obtain ⟨r,b,y,f,rfl,rfl,rfl,hy0,hy1,hf,hn,hA,hbel⟩:=hrel
  obtain ⟨f,rfl⟩:∃ g,f = g + 1:=⟨f - 1,by omega⟩
  have HN:=hide hn
  have hz:w.heap.size < wr.heap.size:=(Array.getElem?_eq_some_iff.1 hA).1
  have a0:wr.cell? ⟨w.heap.size,0,none⟩ = some (.int .i64 b.proc):=by simp [World.cell?,hA]
  have a1:wr.cell? ⟨w.heap.size,1,none⟩ = some (.int .i64 b.owner):=by simp [World.cell?,hA]
  have a2:wr.cell? ⟨w.heap.size,2,none⟩ = some (.bool b.els):=by simp [World.cell?,hA]
  have g0:wr.frozen? ⟨w.heap.size,0,none⟩ = false:=by simp [World.frozen?,hA]
  have g1:wr.frozen? ⟨w.heap.size,1,none⟩ = false:=by simp [World.frozen?,hA]
  have g2:wr.frozen? ⟨w.heap.size,2,none⟩ = false:=by simp [World.frozen?,hA]
  clear hn
  cases r with
  | some k =>
   have HE:Hid (comesF l bk frm = k):=HN.out.symm.trans nextF_some
   simp only [Option.getD_some,Option.isSome_some]
   go_wp2
   go_ret
   exact ⟨ret_int HE.out.symm,hbel⟩
  | none =>
   simp only [Option.getD_none,Option.isSome_none]
   by_cases h0:0 ≤ b.owner
   ·by_cases h1:b.owner < y
    ·obtain ⟨k,hk⟩:=Int.eq_ofNat_of_zero_le h0
     have hlt:k < l.length:=by omega
     obtain ⟨b',o,v,hb',hao,hv,hr8⟩:=(hi.below hbel).get k hlt
     obtain ⟨va,vc,rfl,_⟩:=hv
     obtain ⟨c0,c1,c2,c3,c4,c5,c6,c7⟩:=range8 hr8
     subst hao
     have HK:=hide hk
     have HSt:Hid (stmAt l b.owner.toNat = l[k]):=by show _ = _; rw [hk,Int.toNat_natCast]; exact stmAt_eq hlt
     by_cases hkd:(l[k].kind:Int) = 3
     ·have hkd':((l[k].kind:Int) == 3) = true:=beq_iff_eq.2 hkd
      have HE:Hid (comesF l bk frm = b.owner):=HN.out.symm.trans (nextF_loop ⟨h0,h1⟩ (by rw [HSt.out]; omega))
      clear hkd hr8
      rw [hk] at a1 h0 h1
      clear hk
      go_wp2
      go_ret
      exact ⟨ret_int (by rw [HE.out,HK.out]),hbel.alloc hbel.size _⟩
     ·have hkd':((l[k].kind:Int) == 3) = false:=beq_eq_false_iff_ne.2 hkd
      have HE:Hid (nextF l f l[k].blk (firstInF l[k].blk ((k:Int) + 1) l 0) k = comesF l bk frm):=by
       have:=nextF_up (f:=f) ⟨h0,h1⟩ (by rw [HSt.out]; omega)
       rw [HSt.out,hk] at this
       exact this.symm.trans HN.out
      have hf2:k < f:=by omega
      clear hkd hr8
      rw [hk] at a1 h0 h1
      clear hk HK HSt HN
      have hA2:=set3_heap (x:=.int .i64 l[k].blk.proc) (y:=.int .i64 l[k].blk.owner) (z:=.bool l[k].blk.els) hA
      have hB2:=set3_below hbel (.int .i64 l[k].blk.proc) (.int .i64 l[k].blk.owner) (.bool l[k].blk.els)
      have hA3:=fun ob=>(Below.heap_alloc _ ob w.heap.size (Array.getElem?_eq_some_iff.1 hA2).1).trans hA2
      have hB3:=fun ob=>hB2.alloc hB2.size ob
      clear hA2 hB2
      unfold set3 at hA3 hB3
      have HA3:=hide hA3
      have HB3:=hide hB3
      clear hA3 hB3
      go_wp2_with fail
      refine (pn_firstIn _ cap l l[k].blk _ _ hl (hi.below (HB3.out _))).mono ?_
      rintro e w2 ⟨rfl,hb2⟩
      rw [fstV_eq]
      have hA4:=(hb2.block w.heap.size (Array.getElem?_eq_some_iff.1 (HA3.out _)).1).trans (HA3.out _)
      have hbel4:=(HB3.out _).trans (hb2.mono (HB3.out _).size)
      clear HA3 HB3 hb2
      generalize hr2:firstInF l[k].blk ((k:Int) + 1) l 0 = r2 at HE
      have HR2:=hide hr2
      clear hr2
      go_wp2_with fail
      go_roundw
      case rel=>exact ⟨r2,l[k].blk,k,f,rfl,rfl,rfl,by omega,by omega,by omega,HE.out,hA4,hbel4⟩
      case measure=>simp [intOf]; omega
    ·have HE:Hid (comesF l bk frm = 0):=HN.out.symm.trans (nextF_out (fun h=>h1 h.2))
     have h2:y ≤ b.owner:=by omega
     go_wp2
     go_ret
     exact ⟨ret_int (by rw [HE.out]),hbel⟩
   ·have HE:Hid (comesF l bk frm = 0):=HN.out.symm.trans (nextF_out (fun h=>h0 h.1))
    have h2:b.owner < 0:=by omega
    go_wp2
    go_ret
    exact ⟨ret_int (by rw [HE.out]),hbel⟩
set_option maxRecDepth 100000 in
set_option maxHeartbeats 1000000 in
theorem pn_entered (ao:Option Addr) (cap:Nat) (l:List Stm) (bk:Blk) (w:World) (hl:l.length ≤ 10000) (hi:StSl w ao l) :
    Calls Tryz.prog 144 #[.slice ao l.length cap,.agg #[.int .i64 bk.proc,.int .i64 bk.owner,.bool bk.els]] w fun e w'=>e = .returned (.int .i64 (enteredF l bk))∧Below w.heap.size w w':=by
 have hb0:Below w.heap.size w (w.alloc (.cells #[.int .i64 bk.proc,.int .i64 bk.owner,.bool bk.els] 199)):=(Below.refl _ _).alloc (Nat.le_refl _) _
 go_enter Tryz.func144,Tryz.ntmps144
 go_wp2_with fail
 refine (pn_comesNext ao cap l bk 0 _ hl (hi.below hb0)).mono ?_
 rintro e w1 ⟨rfl,hb1⟩
 go_wp2_with fail
 go_ret
 exact ⟨rfl,hb0.trans (hb1.mono hb0.size)⟩
end Go.Proofs.YtmfcpbhdggonfaaGreatDoor
namespace Go.Proofs.YtmfcpbhdggonfaaGreatDoor
open Go.RowKit RR
def LnAt (B:Nat) (w:World) (ls:List PLine) (vL:Value):Prop:=∃ l:List (PLine × Value),l.map Prod.fst = ls∧w.ownsRow (B + 1) 204 16 vL l.length (l.flatMap lnP)∧∀ x ∈ l,w.ownsRow 0 248 2 x.2 x.1.vals.length (x.1.vals.flatMap exC)
structure PB (B:Nat) (p:Plan) (vT vP vL vN:Value) (w:World):Prop where
 blk:w.heap[B]? = some (.cells #[.int .i64 p.shared,.int .i64 p.locks,vT,vP,vL,vN] 123 (0,0))
 th:w.ownsRow (B + 1) 3 1 vT p.threads.length (p.threads.flatMap thP)
 pr:w.ownsRow (B + 1) 237 2 vP p.procs.length (p.procs.flatMap prP)
 nd:w.ownsRow (B + 1) 196 5 vN p.nodes.length (p.nodes.flatMap ndP)
 ln:LnAt B w p.lines vL
theorem LnAt.keep {B:Nat} {w w':World} {ls:List PLine} {vL:Value} (h:LnAt B w ls vL) (hk:∀ (k:Nat) (c:Array Value) (e:TypeId) (f:Nat × Nat),(e = 204 ∨ e = 248)→w.heap[k]? = some (Obj.cells c e f)→w'.heap[k]? = some (Obj.cells c e f)):LnAt B w' ls vL:=by
 obtain ⟨l,h1,h2,h3⟩:=h
 exact ⟨l,h1,owns_keep h2 (fun k c f hh _=>hk k c _ f (.inl rfl) hh),fun x hx=>owns_keep (h3 x hx) (fun k c f hh _=>hk k c _ f (.inr rfl) hh)⟩
theorem PB.keep {B:Nat} {p:Plan} {vT vP vL vN:Value} {w w':World} (h:PB B p vT vP vL vN w) (hk:∀ (k:Nat) (c:Array Value) (e:TypeId) (f:Nat × Nat),(e = 123 ∨ e = 3 ∨ e = 237 ∨ e = 196 ∨ e = 204 ∨ e = 248)→w.heap[k]? = some (Obj.cells c e f)→w'.heap[k]? = some (Obj.cells c e f)):PB B p vT vP vL vN w' :=
 ⟨hk B _ _ _ (.inl rfl) h.blk,owns_keep h.th (fun k c f hh _=>hk k c _ f (by simp) hh),owns_keep h.pr (fun k c f hh _=>hk k c _ f (by simp) hh),owns_keep h.nd (fun k c f hh _=>hk k c _ f (by simp) hh),h.ln.keep (fun k c e f he hh=>hk k c e f (by rcases he with he | he <;> simp [he]) hh)⟩
theorem PB.below {B:Nat} {p:Plan} {vT vP vL vN:Value} {w w':World} (h:PB B p vT vP vL vN w) (hb:Below w.heap.size w w'):PB B p vT vP vL vN w' :=
 h.keep fun k _ _ _ _ hh=>(hb.block k (Array.getElem?_eq_some_iff.1 hh).1).trans hh
theorem PB.lt {B:Nat} {p:Plan} {vT vP vL vN:Value} {w:World} (h:PB B p vT vP vL vN w):B < w.heap.size:=(Array.getElem?_eq_some_iff.1 h.blk).1
theorem PB.cells {B:Nat} {p:Plan} {vT vP vL vN:Value} {w:World} (h:PB B p vT vP vL vN w):w.cell? ⟨B,0,none⟩ = some (.int .i64 p.shared)∧w.cell? ⟨B,1,none⟩ = some (.int .i64 p.locks)∧w.cell? ⟨B,2,none⟩ = some vT∧w.cell? ⟨B,3,none⟩ = some vP∧w.cell? ⟨B,4,none⟩ = some vL∧w.cell? ⟨B,5,none⟩ = some vN∧(∀ i,w.frozen? ⟨B,i,none⟩ = false):=by
 have hh:=h.blk
 refine ⟨?_,?_,?_,?_,?_,?_,fun i=>?_⟩ <;> simp [World.cell?,World.frozen?,hh]
theorem setB_keep {B:Nat} {w:World} {cs:Array Value} {T:TypeId} (hB:w.heap[B]? = some (.cells cs T (0,0))) (i:Nat) (v:Value) {k:Nat} {c:Array Value} {e:TypeId} {f:Nat × Nat} (hk:w.heap[k]? = some (Obj.cells c e f)) (hne:e ≠ T):(w.setCell ⟨B,i,none⟩ v).heap[k]? = some (Obj.cells c e f):=by
 have hk2:k ≠ B:=fun h=>by
  rw [h,hB] at hk
  simp at hk
  exact hne hk.2.1.symm
 rw [Below.heap_setCell _ ⟨B,i,none⟩ _ k hk2]
 exact hk
theorem PB.set {B:Nat} {p q:Plan} {vT vP vL vN:Value} {w:World} (h:PB B p vT vP vL vN w) (i:Nat) (v:Value)
    (hb:(#[.int .i64 p.shared,.int .i64 p.locks,vT,vP,vL,vN]:Array Value).setIfInBounds i v = #[.int .i64 q.shared,.int .i64 q.locks,vT,vP,vL,vN]) (h1:q.threads = p.threads) (h2:q.procs = p.procs) (h3:q.nodes = p.nodes) (h4:q.lines = p.lines):PB B q vT vP vL vN (w.setCell ⟨B,i,none⟩ v)∧Below B w (w.setCell ⟨B,i,none⟩ v):=by
 have hk:∀ (k:Nat) (c:Array Value) (e:TypeId) (f:Nat × Nat),e ≠ 123→w.heap[k]? = some (Obj.cells c e f)→(w.setCell ⟨B,i,none⟩ v).heap[k]? = some (Obj.cells c e f):=fun k c e f hne hh=>setB_keep h.blk i v hh hne
 refine ⟨⟨?_,?_,?_,?_,?_⟩,(Below.refl _ _).setCell (p:=⟨B,i,none⟩) (Nat.le_refl B) _⟩
 ·rw [cts_set h.blk i v,hb]
 ·rw [h1]; exact owns_keep h.th (fun k c f hh _=>hk k c _ f (by decide) hh)
 ·rw [h2]; exact owns_keep h.pr (fun k c f hh _=>hk k c _ f (by decide) hh)
 ·rw [h3]; exact owns_keep h.nd (fun k c f hh _=>hk k c _ f (by decide) hh)
 ·rw [h4]; exact h.ln.keep (fun k c e f he hh=>hk k c e f (by rcases he with he | he <;> subst he <;> decide) hh)
theorem PB.thr {B:Nat} {p:Plan} {vT vP vL vN v':Value} {w0 w3:World} {x:Int} (h:PB B p vT vP vL vN w0) (ha:Apd (B + 1) 3 1 vT p.threads.length (p.threads.flatMap thP) [.int .i64 x] w0 v' w3) :
    PB B { p with threads:=p.threads ++ [x] } v' vP vL vN (w3.setCell ⟨B,2,none⟩ v')∧Below B w0 (w3.setCell ⟨B,2,none⟩ v'):=by
 have hk3:∀ (k:Nat) (c:Array Value) (e:TypeId) (f:Nat × Nat),e ≠ 3→w0.heap[k]? = some (Obj.cells c e f)→w3.heap[k]? = some (Obj.cells c e f):=fun k c e f hne hh=>ha.keep h.th hh hne
 have hB3:=hk3 B _ _ _ (by decide) h.blk
 have hk:∀ (k:Nat) (c:Array Value) (e:TypeId) (f:Nat × Nat),e ≠ 3→e ≠ 123→w0.heap[k]? = some (Obj.cells c e f)→(w3.setCell ⟨B,2,none⟩ v').heap[k]? = some (Obj.cells c e f):=fun k c e f h1 h2 hh=>setB_keep hB3 2 v' (hk3 k c e f h1 hh) h2
 refine ⟨⟨?_,?_,?_,?_,?_⟩,(ha.bel.mono (Nat.le_succ _)).setCell (p:=⟨B,2,none⟩) (Nat.le_refl B) _⟩
 ·rw [cts_set hB3 2 v']; rfl
 ·have:=owns_keep ha.row (fun k c f hh _=>setB_keep hB3 2 v' hh (by decide))
  rw [List.length_append,List.flatMap_append]
  exact this
 ·exact owns_keep h.pr (fun k c f hh _=>hk k c _ f (by decide) (by decide) hh)
 ·exact owns_keep h.nd (fun k c f hh _=>hk k c _ f (by decide) (by decide) hh)
 ·exact h.ln.keep (fun k c e f he hh=>hk k c e f (by rcases he with he | he <;> subst he <;> decide) (by rcases he with he | he <;> subst he <;> decide) hh)
theorem PB.prc {B:Nat} {p:Plan} {vT vP vL vN v':Value} {w0 w3:World} {x y:Int} (h:PB B p vT vP vL vN w0) (ha:Apd (B + 1) 237 2 vP p.procs.length (p.procs.flatMap prP) [.int .i64 x,.int .i64 y] w0 v' w3) :
    PB B { p with procs:=p.procs ++ [⟨x,y⟩] } vT v' vL vN (w3.setCell ⟨B,3,none⟩ v')∧Below B w0 (w3.setCell ⟨B,3,none⟩ v'):=by
 have hk3:∀ (k:Nat) (c:Array Value) (e:TypeId) (f:Nat × Nat),e ≠ 237→w0.heap[k]? = some (Obj.cells c e f)→w3.heap[k]? = some (Obj.cells c e f):=fun k c e f hne hh=>ha.keep h.pr hh hne
 have hB3:=hk3 B _ _ _ (by decide) h.blk
 have hk:∀ (k:Nat) (c:Array Value) (e:TypeId) (f:Nat × Nat),e ≠ 237→e ≠ 123→w0.heap[k]? = some (Obj.cells c e f)→(w3.setCell ⟨B,3,none⟩ v').heap[k]? = some (Obj.cells c e f):=fun k c e f h1 h2 hh=>setB_keep hB3 3 v' (hk3 k c e f h1 hh) h2
 refine ⟨⟨?_,?_,?_,?_,?_⟩,(ha.bel.mono (Nat.le_succ _)).setCell (p:=⟨B,3,none⟩) (Nat.le_refl B) _⟩
 ·rw [cts_set hB3 3 v']; rfl
 ·exact owns_keep h.th (fun k c f hh _=>hk k c _ f (by decide) (by decide) hh)
 ·have:=owns_keep ha.row (fun k c f hh _=>setB_keep hB3 3 v' hh (by decide))
  rw [List.length_append,List.flatMap_append]
  exact this
 ·exact owns_keep h.nd (fun k c f hh _=>hk k c _ f (by decide) (by decide) hh)
 ·exact h.ln.keep (fun k c e f he hh=>hk k c e f (by rcases he with he | he <;> subst he <;> decide) (by rcases he with he | he <;> subst he <;> decide) hh)
theorem PB.nod {B:Nat} {p:Plan} {vT vP vL vN v':Value} {w0 w3:World} {n:PNd} (h:PB B p vT vP vL vN w0) (ha:Apd (B + 1) 196 5 vN p.nodes.length (p.nodes.flatMap ndP) (ndP n) w0 v' w3) :
    PB B { p with nodes:=p.nodes ++ [n] } vT vP vL v' (w3.setCell ⟨B,5,none⟩ v')∧Below B w0 (w3.setCell ⟨B,5,none⟩ v'):=by
 have hk3:∀ (k:Nat) (c:Array Value) (e:TypeId) (f:Nat × Nat),e ≠ 196→w0.heap[k]? = some (Obj.cells c e f)→w3.heap[k]? = some (Obj.cells c e f):=fun k c e f hne hh=>ha.keep h.nd hh hne
 have hB3:=hk3 B _ _ _ (by decide) h.blk
 have hk:∀ (k:Nat) (c:Array Value) (e:TypeId) (f:Nat × Nat),e ≠ 196→e ≠ 123→w0.heap[k]? = some (Obj.cells c e f)→(w3.setCell ⟨B,5,none⟩ v').heap[k]? = some (Obj.cells c e f):=fun k c e f h1 h2 hh=>setB_keep hB3 5 v' (hk3 k c e f h1 hh) h2
 refine ⟨⟨?_,?_,?_,?_,?_⟩,(ha.bel.mono (Nat.le_succ _)).setCell (p:=⟨B,5,none⟩) (Nat.le_refl B) _⟩
 ·rw [cts_set hB3 5 v']; rfl
 ·exact owns_keep h.th (fun k c f hh _=>hk k c _ f (by decide) (by decide) hh)
 ·exact owns_keep h.pr (fun k c f hh _=>hk k c _ f (by decide) (by decide) hh)
 ·have:=owns_keep ha.row (fun k c f hh _=>setB_keep hB3 5 v' hh (by decide))
  rw [List.length_append,List.flatMap_append]
  simpa using this
 ·exact h.ln.keep (fun k c e f he hh=>hk k c e f (by rcases he with he | he <;> subst he <;> decide) (by rcases he with he | he <;> subst he <;> decide) hh)
theorem PB.lin {B:Nat} {p:Plan} {vT vP vL vN v':Value} {w0 w3:World} {a:PLine} {v:Value} {l:List (PLine × Value)} (h:PB B p vT vP vL vN w0) (h1:l.map Prod.fst = p.lines) (h2:w0.ownsRow (B + 1) 204 16 vL l.length (l.flatMap lnP)) (h3:∀ x ∈ l,w0.ownsRow 0 248 2 x.2 x.1.vals.length (x.1.vals.flatMap exC)) (hv:w0.ownsRow 0 248 2 v a.vals.length (a.vals.flatMap exC)) (ha:Apd (B + 1) 204 16 vL l.length (l.flatMap lnP) (lnL a v) w0 v' w3) :
    PB B { p with lines:=p.lines ++ [a] } vT vP v' vN (w3.setCell ⟨B,4,none⟩ v')∧Below B w0 (w3.setCell ⟨B,4,none⟩ v'):=by
 have hk3:∀ (k:Nat) (c:Array Value) (e:TypeId) (f:Nat × Nat),e ≠ 204→w0.heap[k]? = some (Obj.cells c e f)→w3.heap[k]? = some (Obj.cells c e f):=fun k c e f hne hh=>ha.keep h2 hh hne
 have hB3:=hk3 B _ _ _ (by decide) h.blk
 have hk:∀ (k:Nat) (c:Array Value) (e:TypeId) (f:Nat × Nat),e ≠ 204→e ≠ 123→w0.heap[k]? = some (Obj.cells c e f)→(w3.setCell ⟨B,4,none⟩ v').heap[k]? = some (Obj.cells c e f):=fun k c e f h1 h2 hh=>setB_keep hB3 4 v' (hk3 k c e f h1 hh) h2
 refine ⟨⟨?_,?_,?_,?_,?_⟩,(ha.bel.mono (Nat.le_succ _)).setCell (p:=⟨B,4,none⟩) (Nat.le_refl B) _⟩
 ·rw [cts_set hB3 4 v']; rfl
 ·exact owns_keep h.th (fun k c f hh _=>hk k c _ f (by decide) (by decide) hh)
 ·exact owns_keep h.pr (fun k c f hh _=>hk k c _ f (by decide) (by decide) hh)
 ·exact owns_keep h.nd (fun k c f hh _=>hk k c _ f (by decide) (by decide) hh)
 ·refine ⟨l ++ [(a,v)],by simp [h1],?_,?_⟩
  ·have:=owns_keep ha.row (fun k c f hh _=>setB_keep hB3 4 v' hh (by decide))
   rw [List.length_append,List.flatMap_append]
   simpa [lnP] using this
  ·intro x hx
   rcases List.mem_append.1 hx with hx | hx
   ·exact owns_keep (h3 x hx) (fun k c f hh _=>hk k c _ f (by decide) (by decide) hh)
   ·simp only [List.mem_singleton] at hx
    subst hx
    exact owns_keep hv (fun k c f hh _=>hk k c _ f (by decide) (by decide) hh)
end Go.Proofs.YtmfcpbhdggonfaaGreatDoor
namespace Go.Proofs.YtmfcpbhdggonfaaGreatDoor
open Go.RowKit RR
theorem Tryz.infoProc:(Tryz.prog.info? 237).map (fun i=>(i.zero,i.size,i.bytes)) = some (some (.agg #[.int .i64 0,.int .i64 0]),2,16):=by kernel_rfl
theorem Tryz.infoPNode:(Tryz.prog.info? 196).map (fun i=>(i.zero,i.size,i.bytes)) = some (some (.agg #[.int .i64 0,.int .i64 0,.int .i64 0,.int .i64 0,.int .i64 0]),5,40):=by kernel_rfl
theorem Tryz.infoPLine:(Tryz.prog.info? 204).map (fun i=>(i.zero,i.size,i.bytes)) = some (some (.agg #[.int .i64 0,.int .i64 0,.int .i64 0,.int .i64 0,.int .i64 0,.int .i64 0,.int .i64 0,.int .i64 0,.int .i64 0,.int .i64 0,.slice none 0 0,.bool false,.bool false,.bool false,.bool false,.bool false]),16,112):=by kernel_rfl
theorem boxes2 {w w1:World} {c1 c2:Array Value} {T1 T2:TypeId} (h:Below ((w.alloc (.cells c1 T1)).alloc (.cells c2 T2)).heap.size ((w.alloc (.cells c1 T1)).alloc (.cells c2 T2)) w1):w1.heap[w.heap.size]? = some (.cells c1 T1 (0,0))∧w1.heap[w.heap.size + 1]? = some (.cells c2 T2 (0,0))∧Below w.heap.size w w1:=by
 have e1:((w.alloc (.cells c1 T1)).alloc (.cells c2 T2)).heap[w.heap.size]? = some (.cells c1 T1 (0,0)):=(Below.heap_alloc _ _ _ (by simp)).trans (heap_alloc_new w _)
 have e2:((w.alloc (.cells c1 T1)).alloc (.cells c2 T2)).heap[w.heap.size + 1]? = some (.cells c2 T2 (0,0)):=by
  have:=heap_alloc_new (w.alloc (.cells c1 T1)) (.cells c2 T2)
  simp only [World.size_alloc] at this
  exact this
 exact ⟨(h.block _ (by simp; omega)).trans e1,(h.block _ (by simp)).trans e2,(((Below.refl _ _).alloc (Nat.le_refl _) _).alloc (by simp) _).trans (h.mono (by simp; omega))⟩
set_option maxRecDepth 100000 in
set_option maxHeartbeats 4000000 in
theorem pn_addName (B:Nat) (p:Plan) (vT vP vL vN:Value) (a1 a2 a3 a4:Option Addr) (c1 c2 c3 c4 n2 n4:Nat) (ns:List Nm) (sts:List Stm) (n:Nm) (w:World)
    (hB:PB B p vT vP vL vN w) (hn:NmSl w a1 ns) (hs:StSl w a3 sts) (hl:ns.length ≤ 1000) (hl2:sts.length ≤ 10000) (b1:p.shared ≤ 10000) (b2:p.locks ≤ 10000) (b3:p.threads.length ≤ 10000) (b4:p.procs.length ≤ 10000) :
    Calls Tryz.prog 104 #[.pointer (some ⟨B,0,none⟩),.agg #[.slice a1 ns.length c1,.slice a2 n2 c2,.slice a3 sts.length c3,.slice a4 n4 c4],.agg #[.string n.word,.int .i64 n.at_,.int .i64 n.role,.int .i64 n.proc]] w fun e w'=>e = .returned (.tuple #[])∧(∃ vT' vP',PB B (addNameF ns sts p n) vT' vP' vL vN w')∧Below B w w':=by
 have hz:=hB.lt
 have hb0:∀ x y:Obj,Below w.heap.size w ((w.alloc x).alloc y):=fun x y=>((Below.refl _ _).alloc (Nat.le_refl _) _).alloc (by simp) _
 by_cases r0:n.role = 0
 ·have HE:Hid (addNameF ns sts p n = { p with shared:=p.shared + 1 }):=by show _ = _; unfold addNameF; rw [if_pos r0]
  have HS:=hide (hB.set (q:={ p with shared:=p.shared + 1 }) 0 (.int .i64 ((p.shared:Int) + 1)) rfl rfl rfl rfl rfl)
  obtain ⟨p0,p1,p2,p3,p4,p5,pf⟩:=hB.cells
  have f0:=pf 0
  clear pf hB
  rw [r0]
  go_enter Tryz.func104,Tryz.ntmps104
  go_wp2
  go_end0
  refine ⟨rfl,⟨vT,vP,?_⟩,?_⟩
  ·rw [HE.out]
   exact HS.out.1.below (((Below.refl _ _).alloc (Nat.le_refl _) _).alloc (by simp) _)
  ·exact (HS.out.2.alloc (by simp; omega) _).alloc (by simp; omega) _
 by_cases r1:n.role = 1
 ·have HE:Hid (addNameF ns sts p n = { p with locks:=p.locks + 1 }):=by show _ = _; unfold addNameF; rw [if_neg r0,if_pos r1]
  have HS:=hide (hB.set (q:={ p with locks:=p.locks + 1 }) 1 (.int .i64 ((p.locks:Int) + 1)) rfl rfl rfl rfl rfl)
  obtain ⟨p0,p1,p2,p3,p4,p5,pf⟩:=hB.cells
  have f1:=pf 1
  clear pf hB r0
  rw [r1]
  go_enter Tryz.func104,Tryz.ntmps104
  go_wp2
  go_end0
  refine ⟨rfl,⟨vT,vP,?_⟩,?_⟩
  ·rw [HE.out]
   exact HS.out.1.below (((Below.refl _ _).alloc (Nat.le_refl _) _).alloc (by simp) _)
  ·exact (HS.out.2.alloc (by simp; omega) _).alloc (by simp; omega) _
 by_cases r2:n.role = 2
 ·have HE:Hid (addNameF ns sts p n = { p with procs:=p.procs ++ [⟨cntF n.proc ns 0,enteredF sts ⟨n.proc,-1,false⟩⟩] }):=by show _ = _; unfold addNameF; rw [if_neg r0,if_neg r1,if_pos r2]
  clear r0 r1
  rw [r2]
  go_enter Tryz.func104,Tryz.ntmps104
  go_wp2_with fail
  refine (pn_paramsOf a1 c1 ns n.proc _ hl (hn.below (hb0 _ _))).mono ?_
  rintro e w1 ⟨rfl,hb1⟩
  obtain ⟨hO1,hM1,hbel1⟩:=boxes2 hb1
  clear hb1
  have o2:w1.cell? ⟨w.heap.size,2,none⟩ = some (.slice a3 sts.length c3):=by simp [World.cell?,hO1]
  have m3:w1.cell? ⟨w.heap.size + 1,3,none⟩ = some (.int .i64 n.proc):=by simp [World.cell?,hM1]
  go_wp2_with fail
  refine (pn_entered a3 c3 sts ⟨n.proc,-1,false⟩ _ hl2 (hs.below hbel1)).mono ?_
  rintro e w2 ⟨rfl,hb2⟩
  have hbel2:=hbel1.trans (hb2.mono hbel1.size)
  clear hb2 o2 m3 hO1 hM1 hbel1
  have hB2:=hB.below hbel2
  have HB2:=hide hB2
  obtain ⟨p0,p1,p2,p3,p4,p5,pf⟩:=hB2.cells
  have f3:=pf 3
  have hz2:=hB2.lt
  clear pf hB
  go_wp2_with (at_builtin; (refine app_row Tryz.infoProc rfl (by decide) Tryz.underlying119 HB2.out.pr (by omega) (by decide) (by omega) rfl (two_one rfl rfl) rfl _ _ rfl rfl rfl rfl ?_; intro g cap' w3 ha; have hE:=HB2.out.prc ha; have HE3:=hide hE; have q3:=(ha.keep HB2.out.pr HB2.out.blk (by decide)); have q5:w3.cell? ⟨B,3,none⟩ = some vP:=(by simp [World.cell?,q3]); have q6:w3.frozen? ⟨B,3,none⟩ = false:=(by simp [World.frozen?,q3]); clear hE ha q3))
  go_end0
  refine ⟨rfl,⟨vT,_,by rw [HE.out]; exact HE3.out.1⟩,?_⟩
  ·exact (hbel2.mono (Nat.le_of_lt hz)).trans HE3.out.2
 by_cases r7:n.role = 7
 ·have HE:Hid (addNameF ns sts p n = { p with threads:=p.threads ++ [numF n.word 2 ns 0] }):=by show _ = _; unfold addNameF; rw [if_neg r0,if_neg r1,if_neg r2,if_pos r7]
  clear r0 r1 r2
  rw [r7]
  go_enter Tryz.func104,Tryz.ntmps104
  go_wp2_with fail
  refine (pn_numberOf a1 c1 ns n.word 2 _ hl (hn.below (hb0 _ _))).mono ?_
  rintro e w2 ⟨rfl,hb1⟩
  obtain ⟨_,_,hbel2⟩:=boxes2 hb1
  clear hb1
  have hB2:=hB.below hbel2
  have HB2:=hide hB2
  obtain ⟨p0,p1,p2,p3,p4,p5,pf⟩:=hB2.cells
  have f2:=pf 2
  have hz2:=hB2.lt
  clear pf hB
  go_wp2_with (at_builtin; refine app_row Tryz.infoInt rfl (by decide) Tryz.underlying93 HB2.out.th (by omega) (by decide) (by omega) rfl int_one rfl _ _ rfl rfl rfl rfl ?_; intro g cap' w3 ha; have hE:=HB2.out.thr ha; have HE3:=hide hE; have q3:=(ha.keep HB2.out.th HB2.out.blk (by decide)); have q5:w3.cell? ⟨B,2,none⟩ = some vT:=(by simp [World.cell?,q3]); have q6:w3.frozen? ⟨B,2,none⟩ = false:=(by simp [World.frozen?,q3]); clear hE ha q3)
  go_end0
  refine ⟨rfl,⟨_,vP,by rw [HE.out]; exact HE3.out.1⟩,?_⟩
  ·exact (hbel2.mono (Nat.le_of_lt hz)).trans HE3.out.2
 ·have HE:Hid (addNameF ns sts p n = p):=by show _ = _; unfold addNameF; rw [if_neg r0,if_neg r1,if_neg r2,if_neg r7]
  have s0:((n.role:Int) == 0) = false:=beq_eq_false_iff_ne.2 (by omega)
  have s1:((n.role:Int) == 1) = false:=beq_eq_false_iff_ne.2 (by omega)
  have s2:((n.role:Int) == 2) = false:=beq_eq_false_iff_ne.2 (by omega)
  have s7:((n.role:Int) == 7) = false:=beq_eq_false_iff_ne.2 (by omega)
  clear r0 r1 r2 r7
  go_enter Tryz.func104,Tryz.ntmps104
  go_wp2
  go_end0
  refine ⟨rfl,⟨vT,vP,?_⟩,?_⟩
  ·rw [HE.out]
   exact hB.below (hb0 _ _)
  ·exact (hb0 _ _).mono (Nat.le_of_lt hz)
end Go.Proofs.YtmfcpbhdggonfaaGreatDoor
