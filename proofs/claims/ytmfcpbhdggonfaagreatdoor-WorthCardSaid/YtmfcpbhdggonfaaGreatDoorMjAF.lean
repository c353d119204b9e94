/- Rows of structs in memory that nobody writes any more: their cells, one after the other. -/
import Derived.Test.YtmfcpbhdggonfaaGreatDoorMjAA
import Derived.Deep.MidRow
import Derived.Laws.ResultCell
import Derived.Test.YtmfcpbhdggonfaaGreatDoorMjAE
import Derived.Deep.RegionHeld
namespace Go.Proofs.YtmfcpbhdggonfaaGreatDoor
open Go.RowKit RR
def Flat (w:World) (ao:Option Addr) (xs:List Value):Prop:=xs = [] ∨ ∃ b o,b < w.heap.size∧ao = some ⟨b,o,none⟩∧w.rangeAt b o xs
theorem Flat.below {w w':World} {ao:Option Addr} {xs:List Value} (h:Flat w ao xs) (hb:Below w.heap.size w w'):Flat w' ao xs:=by
 rcases h with h | ⟨b,o,h1,h2,h3⟩
 ·exact .inl h
 ·exact .inr ⟨b,o,Nat.lt_of_lt_of_le h1 hb.size,h2,fun j v hv=>(hb.cell (p:=⟨b,o + j,none⟩) h1).trans (h3 j v hv)⟩
theorem flatMap_at {α:Type} (f:α→List Value) (n:Nat) (hn:∀ a,(f a).length = n):∀ (l:List α) (i:Nat) (h:i < l.length) (j:Nat),j < n→(l.flatMap f)[i * n + j]? = (f l[i])[j]?
 | [],i,h,j,hj=>by simp at h
 | a :: r,0,h,j,hj=>by
  rw [List.flatMap_cons,List.getElem?_append_left (by rw [hn]; omega)]
  simp
 | a :: r,i + 1,h,j,hj=>by
  rw [List.flatMap_cons,List.getElem?_append_right (by rw [hn,Nat.succ_mul]; omega)]
  have:=flatMap_at f n hn r i (by simpa using h) j hj
  rw [hn,Nat.succ_mul,show i * n + n + j - n = i * n + j by omega,this]
  simp
theorem Flat.get {α:Type} {f:α→List Value} {n:Nat} (hn:∀ a,(f a).length = n) (hp:0 < n) {w:World} {ao:Option Addr} {l:List α} (h:Flat w ao (l.flatMap f)) (i:Nat) (hi:i < l.length):∃ b o,b < w.heap.size∧ao = some ⟨b,o,none⟩∧w.rangeAt b (o + i * n) (f l[i]):=by
 rcases h with h | ⟨b,o,h1,h2,h3⟩
 ·have:=flatMap_at f n hn l i hi 0 hp
  have h2:(f l[i])[0]? = none:=by rw [← this,h]; rfl
  have h3:=List.getElem?_eq_none_iff.1 h2
  rw [hn] at h3
  omega
 ·refine ⟨b,o,h1,h2,fun j v hv=>?_⟩
  have hj:j < n:=by
   have:=(List.getElem?_eq_some_iff.1 hv).1
   rw [hn] at this
   exact this
  rw [show o + i * n + j = o + (i * n + j) by omega]
  exact h3 (i * n + j) v ((flatMap_at f n hn l i hi j hj).trans hv)
theorem flat_of_owns {w:World} {base:Nat} {e:TypeId} {size:Nat} {v:Value} {n:Nat} {xs:List Value} (h:w.ownsRow base e size v n xs):∃ ao cap,v = .slice ao n cap∧Flat w ao xs:=by
 obtain ⟨h1,h2 | ⟨g,cap,cur,hv,hb,hh,hcap,hmax,hsz,htk⟩⟩:=h
 ·refine ⟨none,0,?_,.inl ?_⟩
  ·rw [h2.1,h2.2]
  ·exact List.eq_nil_of_length_eq_zero (by rw [h1,h2.2,Nat.zero_mul])
 ·refine ⟨some ⟨g,0,none⟩,cap,hv,.inr ⟨g,0,(Array.getElem?_eq_some_iff.1 hh).1,rfl,fun j x hx=>?_⟩⟩
  have e2:(cur.toList.take (n * size))[j]? = xs[j]?:=by rw [htk]
  have hj:=(List.getElem?_eq_some_iff.1 hx).1
  rw [List.getElem?_take_of_lt (by omega),Array.getElem?_toList] at e2
  simp only [World.cell?,hh,Nat.zero_add]
  rw [e2,hx]
  rfl
def ndC (n:Nd):List Value:=[.int .i64 n.sign,.int .i64 n.name,.int .i64 n.left,.int .i64 n.right]
def exC (n:Int × Int):List Value:=[.int .i64 n.1,.int .i64 n.2]
def stC (x:Stm × Value):List Value:=[.int .i64 x.1.kind,.int .i64 x.1.at_,.int .i64 x.1.blk.proc,.int .i64 x.1.blk.owner,.bool x.1.blk.els,.int .i64 x.1.target,.int .i64 x.1.name,x.2]
def ExSl (w:World) (v:Value) (l:List (Int × Int)):Prop:=∃ ao cap,v = .slice ao l.length cap∧Flat w ao (l.flatMap exC)
def StSl (w:World) (ao:Option Addr) (sts:List Stm):Prop:=∃ l:List (Stm × Value),l.map Prod.fst = sts∧Flat w ao (l.flatMap stC)∧∀ x ∈ l,ExSl w x.2 x.1.vals
def NdSl (w:World) (ao:Option Addr) (l:List Nd):Prop:=Flat w ao (l.flatMap ndC)
theorem ExSl.below {w w':World} {v:Value} {l:List (Int × Int)} (h:ExSl w v l) (hb:Below w.heap.size w w'):ExSl w' v l:=by
 obtain ⟨ao,cap,h1,h2⟩:=h
 exact ⟨ao,cap,h1,h2.below hb⟩
theorem StSl.below {w w':World} {ao:Option Addr} {l:List Stm} (h:StSl w ao l) (hb:Below w.heap.size w w'):StSl w' ao l:=by
 obtain ⟨m,h1,h2,h3⟩:=h
 exact ⟨m,h1,h2.below hb,fun x hx=>(h3 x hx).below hb⟩
theorem NdSl.below {w w':World} {ao:Option Addr} {l:List Nd} (h:NdSl w ao l) (hb:Below w.heap.size w w'):NdSl w' ao l:=Flat.below h hb
end Go.Proofs.YtmfcpbhdggonfaaGreatDoor
namespace Go.Proofs.YtmfcpbhdggonfaaGreatDoor
open Go.RowKit
theorem res_cell {fn:Func} {p:Tmp} {ty:TypeId} {tmps:Array Value} {P:Program} {w:World} {b o:Nat} {cs:List Value} {d:TypeDesc} (h:fn.results = #[.cell p ty]) (ht:tmps.getD p undef = .pointer (some ⟨b,o,none⟩)) (hc:w.rangeAt b o cs) (hu:P.underlying ty = some d) (hd:d.isRow = true) (hi:(P.info? ty).map (·.size) = some cs.length) :
    (results fn tmps).run P w = .ok (.agg cs.toArray) w:=by
 have h1:(asAddr (tmps[p]?.getD undef)).run P w = .ok ⟨b,o,none⟩ w:=by
  rw [Array.getD_eq_getD_getElem?] at ht
  rw [ht]; simp [asAddr]
 simp only [results,h]
 simp only [Sem.run_bind,Result.andThen,List.mapM_toArray,Array.getD_eq_getD_getElem?]
 simp [Sem.run_bind,Result.andThen,h1,run_loadVar_mid w b o ty cs d hc hu hd hi]
theorem res_cell_tmp {fn:Func} {p u:Tmp} {ty:TypeId} {tmps:Array Value} {P:Program} {w:World} {b o:Nat} {cs:List Value} {d:TypeDesc} {x:Value} (h:fn.results = #[.cell p ty,.tmp u]) (ht:tmps.getD p undef = .pointer (some ⟨b,o,none⟩)) (hx:tmps.getD u undef = x) (hc:w.rangeAt b o cs) (hu:P.underlying ty = some d) (hd:d.isRow = true) (hi:(P.info? ty).map (·.size) = some cs.length) :
    (results fn tmps).run P w = .ok (.tuple #[.agg cs.toArray,x]) w:=by
 have h1:(asAddr (tmps.getD p undef)).run P w = .ok ⟨b,o,none⟩ w:=by rw [ht]; simp [asAddr]
 rw [results_cell_tmp h,h1]
 simp [Result.andThen,run_loadVar_mid w b o ty cs d hc hu hd hi,hx]
theorem there_of_block {w:World} {b:Nat} {C:Array Value} {t:TypeId} (hb:w.heap[b]? = some (.cells C t (0,0))) {o n:Nat} (hn:o + n ≤ C.size):w.there b o n:=fun j hj=>by
 refine ⟨?_,by simp [World.frozen?,hb]⟩
 rw [cell_of_row w b (o + j) C t (0,0) hb,Array.getElem?_eq_getElem (by omega)]
 rfl
theorem range_of_block {w:World} {b:Nat} {xs:List Value} {t:TypeId} {fr:Nat × Nat} (hb:w.heap[b]? = some (.cells xs.toArray t fr)) {o:Nat} {cs:List Value} (h:∀ j v,cs[j]? = some v→xs[o + j]? = some v):w.rangeAt b o cs:=fun j v hv=>by
 rw [cell_of_row w b (o + j) _ t fr hb]
 simpa using h j v hv
theorem range_whole {w:World} {b:Nat} {xs:List Value} {t:TypeId} {fr:Nat × Nat} (hb:w.heap[b]? = some (.cells xs.toArray t fr)):w.rangeAt b 0 xs:=range_of_block hb fun j v hv=>by simpa using hv
def setAll:Array Value→Nat→List Value→Array Value
 | C,_,[]=>C
 | C,o,y :: r=>setAll (C.setIfInBounds o y) (o + 1) r
theorem setOne_heap {w:World} {B:Nat} {cs:Array Value} {T:TypeId} (h:w.heap[B]? = some (.cells cs T (0,0))) (o:Nat) (v:Value):(w.setCell ⟨B,o,none⟩ v).heap[B]? = some (.cells (cs.setIfInBounds o v) T (0,0)):=by
 simp only [World.setCell,Array.getElem?_modify]
 rw [if_pos trivial,h]
 rfl
theorem setCells_heap {T:TypeId} {b:Nat}:∀ (ys:List Value) (o:Nat) (w:World) (C:Array Value),w.heap[b]? = some (.cells C T (0,0))→(w.setCells b o ys).heap[b]? = some (.cells (setAll C o ys) T (0,0))
 | [],_,_,_,h=>h
 | y :: r,o,_,_,h=>setCells_heap r (o + 1) _ _ (setOne_heap h o y)
theorem setCells_other {b k:Nat} (hk:k ≠ b):∀ (ys:List Value) (o:Nat) (w:World),(w.setCells b o ys).heap[k]? = w.heap[k]?
 | [],_,_=>rfl
 | y :: r,o,w=>(setCells_other hk r (o + 1) _).trans (Below.heap_setCell w ⟨b,o,none⟩ y k hk)
theorem setCells_below {W:World} {B b:Nat} (hb:B ≤ b):∀ (ys:List Value) (o:Nat) (w:World),Below B W w→Below B W (w.setCells b o ys)
 | [],_,_,h=>h
 | y :: r,o,_,h=>setCells_below hb r (o + 1) _ (h.setCell (p:=⟨b,o,none⟩) hb y)
theorem setAll_get:∀ (ys:List Value) (o:Nat) (C:Array Value) (j:Nat),(setAll C o ys)[j]? = if o ≤ j∧j < o + ys.length∧j < C.size then ys[j - o]? else C[j]?
 | [],o,C,j=>by rw [if_neg (by simp; omega)]; rfl
 | y :: r,o,C,j=>by
  rw [setAll,setAll_get r (o + 1)]
  by_cases h:o = j
  ·subst h
   rw [if_neg (by omega),Array.getElem?_setIfInBounds]
   by_cases h2:o < C.size
   ·have h3:o ≤ o∧o < o + (y :: r).length∧o < C.size:=⟨Nat.le_refl _,by simp,h2⟩
    rw [if_pos (c:=o ≤ o∧o < o + (y :: r).length∧o < C.size) h3]; simp [h2]
   ·rw [if_neg (c:=o ≤ o∧o < o + (y :: r).length∧o < C.size) (fun h=>h2 h.2.2)]; simp [h2]
  ·by_cases h2:o + 1 ≤ j∧j < o + 1 + r.length∧j < C.size
   ·rw [if_pos (by simpa using h2),if_pos ⟨by omega,by simp; omega,h2.2.2⟩,show j - o = (j - (o + 1)) + 1 by omega]
    rfl
   ·rw [if_neg (by simpa using h2),if_neg (by simp; omega),Array.getElem?_setIfInBounds]
    simp [h]
theorem setAll_mid (pre mid post new:List Value) (h:new.length = mid.length):setAll (pre ++ mid ++ post).toArray pre.length new = (pre ++ new ++ post).toArray:=by
 apply Array.ext_getElem?
 intro j
 rw [setAll_get]
 simp only [List.getElem?_toArray,List.size_toArray,List.length_append]
 by_cases h1:j < pre.length
 ·rw [if_neg (by omega),List.append_assoc,List.append_assoc,List.getElem?_append_left h1,List.getElem?_append_left h1]
 ·by_cases h2:j < pre.length + mid.length
  ·rw [if_pos ⟨by omega,by omega,by omega⟩,List.append_assoc,List.getElem?_append_right (by omega),List.getElem?_append_left (by omega)]
  ·rw [if_neg (by omega),List.getElem?_append_right (by simp; omega),List.getElem?_append_right (by simp; omega)]
   simp [h]
theorem setAll_whole (old new:List Value) (h:new.length = old.length):setAll old.toArray 0 new = new.toArray:=by
 have:=setAll_mid [] old [] new h
 simpa using this
end Go.Proofs.YtmfcpbhdggonfaaGreatDoor
namespace RR
open Go Go.RowKit
def readB (c:UInt8):Option (Int × Bool) :=
 if 97 ≤ c.toNat∧c.toNat ≤ 99 then some ((c.toNat:Int) - 97,false)
 else if 65 ≤ c.toNat∧c.toNat ≤ 67 then some ((c.toNat:Int) - 65,true)
 else none
def byteB (s:ByteArray) (k:Nat):UInt8:=if h:k < s.size then s[k] else 0
def followF (p:Plan) (s:ByteArray):Nat→Nat→Cfg→Except Nat Cfg
 | 0,_,c=>.ok c
 | d + 1,k,c =>
  match readB (byteB s k) with
  | none=>.error k
  | some t =>
   match stepF p c t.1 t.2 with
   | none=>.error k
   | some c1=>followF p s d (k + 1) c1
def start1 (p:Plan):Cfg:=startF p p.threads 0 zCfg
structure Vw where
 text:ByteArray
 enabled:ByteArray
 race:Bool
 dead:Bool
def zVw:Vw:=⟨⟨#[]⟩,⟨#[]⟩,false,false⟩
def viewF (p:Plan) (c:Cfg):Vw:=⟨textF p c,enabledF p c,raceF p c,deadF p c⟩
def playP (p:Plan) (s:ByteArray):Vw × Int × Int :=
 if 200 < s.size then (zVw,1,0) else
  match followF p s s.size 0 (start1 p) with
  | .error k=>(zVw,8,k)
  | .ok c=>(viewF p c,0,0)
end RR
namespace Go.Proofs.YtmfcpbhdggonfaaGreatDoor
open Go.RowKit RR
def ndP (n:PNd):List Value:=[.int .i64 n.sign,.int .i64 n.tr.own,.int .i64 n.tr.num,.int .i64 n.left,.int .i64 n.right]
def prP (p:PProc):List Value:=[.int .i64 p.params,.int .i64 p.entry]
def thP (n:Int):List Value:=[.int .i64 n]
def lnL (a:PLine) (v:Value):List Value:=[.int .i64 a.kind,.int .i64 a.at_,.int .i64 a.params,.int .i64 a.next,.int .i64 a.thn,.int .i64 a.els,.int .i64 a.target.own,.int .i64 a.target.num,.int .i64 a.lock,.int .i64 a.proc,v,.bool a.choice,.bool a.r0,.bool a.r1,.bool a.r2,.bool a.r3]
def lnP (x:PLine × Value):List Value:=lnL x.1 x.2
def LnSl (w:World) (ao:Option Addr) (ls:List PLine):Prop:=∃ l:List (PLine × Value),l.map Prod.fst = ls∧Flat w ao (l.flatMap lnP)∧∀ x ∈ l,ExSl w x.2 x.1.vals
theorem LnSl.below {w w':World} {ao:Option Addr} {l:List PLine} (h:LnSl w ao l) (hb:Below w.heap.size w w'):LnSl w' ao l:=by
 obtain ⟨m,h1,h2,h3⟩:=h
 exact ⟨m,h1,h2.below hb,fun x hx=>(h3 x hx).below hb⟩
def PlanAt (w:World) (p:Plan) (a b:Option Addr) (c d:Option Addr):Prop :=
 Flat w a (p.threads.flatMap thP)∧Flat w b (p.procs.flatMap prP)∧LnSl w c p.lines∧Flat w d (p.nodes.flatMap ndP)
theorem PlanAt.below {w w':World} {p:Plan} {a b c d:Option Addr} (h:PlanAt w p a b c d) (hb:Below w.heap.size w w'):PlanAt w' p a b c d :=
 ⟨h.1.below hb,h.2.1.below hb,h.2.2.1.below hb,h.2.2.2.below hb⟩
def frmL (f:Frm):List Value:=[.int .i64 f.line,.bool f.p0,.bool f.p1,.bool f.p2]
def thrL (t:Thr):List Value:=.int .i64 t.count :: (frmL t.f0 ++ frmL t.f1 ++ frmL t.f2 ++ frmL t.f3)
def cfgL (c:Cfg):List Value:=[.bool c.s0,.bool c.s1,.bool c.s2,.bool c.s3,.int .i64 c.h0,.int .i64 c.h1,.int .i64 c.h2] ++ thrL c.t0 ++ thrL c.t1 ++ thrL c.t2
end Go.Proofs.YtmfcpbhdggonfaaGreatDoor
namespace Go.Proofs.YtmfcpbhdggonfaaGreatDoor
open Go.RowKit RR
theorem wpo_box {P:Program} {o:Oper} {a:Act} {w:World} {K:Act→World→Prop} {Q:Exit→Act→World→Prop} (t:TypeId) (x:Operand) (ho:o.op = .box t x) (cs:List Value) (hx:a.eval x = .agg cs.toArray)
    (h:K (a.put o.dst (.pointer (some ⟨w.heap.size,0,none⟩))) (w.alloc (.cells cs.toArray t))):o.wp P a w K Q:=by
 unfold Oper.wp execOp
 simp only [ho,hx]
 simpa [go_sem] using h
theorem wpo_alloc {P:Program} {o:Oper} {a:Act} {w:World} {K:Act→World→Prop} {Q:Exit→Act→World→Prop} (t:TypeId) (ho:o.op = .alloc t) (cs:List Value) (hz:(P.info? t).bind (·.zero) = some (.agg cs.toArray))
    (h:K (a.put o.dst (.pointer (some ⟨w.heap.size,0,none⟩))) (w.alloc (.cells cs.toArray t))):o.wp P a w K Q:=by
 obtain ⟨i,h1,h2⟩:=Option.bind_eq_some_iff.1 hz
 unfold Oper.wp execOp
 simp only [ho,Instr.alloc,zeroValue,typeInfo]
 simpa [go_sem,h1,h2] using h
theorem setRow_new {w:World} {z cs:Array Value} {t:TypeId}:(w.alloc (.cells z t)).setRow w.heap.size cs = w.alloc (.cells cs t):=by
 unfold World.setRow World.alloc
 congr 1
 apply Array.ext_getElem?
 intro k
 rw [Array.getElem?_modify]
 by_cases hk:w.heap.size = k
 ·subst hk
  simp
 ·rw [if_neg hk,Array.getElem?_push,Array.getElem?_push]
  rw [if_neg (fun e=>hk e.symm),if_neg (fun e=>hk e.symm)]
theorem wpo_store_new {P:Program} {o:Oper} {a:Act} {w:World} {K:Act→World→Prop} {Q:Exit→Act→World→Prop} (ty:TypeId) (x y:Operand) (ho:o.op = .store ty x y) (b:Nat) (z:Array Value) (cs:List Value) (t:TypeId)
    (hx:a.eval x = .pointer (some ⟨b,0,none⟩)) (hy:a.eval y = .agg cs.toArray) (hb:b = w.heap.size) (hi:(P.info? ty).map (·.size) = some cs.length) (hz:z.size = cs.length) (h1:cs.all (·.oneCell') = true)
    (h:K (a.put o.dst undef) (w.alloc (.cells cs.toArray t))):o.wp P a (w.alloc (.cells z t)) K Q:=by
 subst hb
 refine wp_store_row ty x y ho w.heap.size cs.toArray hx hy t z (heap_alloc_new w _) (by simpa using hi) (by simpa using hz) (by simpa using h1) ?_
 rw [setRow_new]
 exact h
theorem wpo_zero {P:Program} {o:Oper} {a:Act} {w:World} {K:Act→World→Prop} {Q:Exit→Act→World→Prop} (t:TypeId) (ho:o.op = .build t #[]) (cs:List Value) (hz:P.built t [] = some cs.toArray)
    (h:K (a.put o.dst (.agg cs.toArray)) w):o.wp P a w K Q:=by
 refine wp_build t #[] ho (by simp [hz]) ?_
 simpa [hz] using h
/-! The same of the first operation of a list. -/
theorem wpl_box {P:Program} {ops:Array Oper} {rest:List Oper} {o:Oper} {a:Act} {w:World} {Q:Exit→Act→World→Prop} (hg:o.guard = none) (t:TypeId) (x:Operand) (ho:o.op = .box t x) (cs:List Value) (hx:a.eval x = .agg cs.toArray)
    (h:wpList P ops Q rest (a.put o.dst (.pointer (some ⟨w.heap.size,0,none⟩))) (w.alloc (.cells cs.toArray t))):wpList P ops Q (o :: rest) a w:=wpList_plain hg fun _ hK=>wpo_box t x ho cs hx (hK _ _ h)
theorem wpl_alloc {P:Program} {ops:Array Oper} {rest:List Oper} {o:Oper} {a:Act} {w:World} {Q:Exit→Act→World→Prop} (hg:o.guard = none) (t:TypeId) (ho:o.op = .alloc t) (cs:List Value) (hz:(P.info? t).bind (·.zero) = some (.agg cs.toArray))
    (h:wpList P ops Q rest (a.put o.dst (.pointer (some ⟨w.heap.size,0,none⟩))) (w.alloc (.cells cs.toArray t))):wpList P ops Q (o :: rest) a w:=wpList_plain hg fun _ hK=>wpo_alloc t ho cs hz (hK _ _ h)
theorem wpl_store_new {P:Program} {ops:Array Oper} {rest:List Oper} {o:Oper} {a:Act} {w:World} {Q:Exit→Act→World→Prop} (hg:o.guard = none) (ty:TypeId) (x y:Operand) (ho:o.op = .store ty x y) (b:Nat) (z:Array Value) (cs:List Value) (t:TypeId)
    (hx:a.eval x = .pointer (some ⟨b,0,none⟩)) (hy:a.eval y = .agg cs.toArray) (hb:b = w.heap.size) (hi:(P.info? ty).map (·.size) = some cs.length) (hz:z.size = cs.length) (h1:cs.all (·.oneCell') = true)
    (h:wpList P ops Q rest (a.put o.dst undef) (w.alloc (.cells cs.toArray t))):wpList P ops Q (o :: rest) a (w.alloc (.cells z t)):=wpList_plain hg fun _ hK=>wpo_store_new ty x y ho b z cs t hx hy hb hi hz h1 (hK _ _ h)
theorem wpl_zero {P:Program} {ops:Array Oper} {rest:List Oper} {o:Oper} {a:Act} {w:World} {Q:Exit→Act→World→Prop} (hg:o.guard = none) (t:TypeId) (ho:o.op = .build t #[]) (cs:List Value) (hz:P.built t [] = some cs.toArray)
    (h:wpList P ops Q rest (a.put o.dst (.agg cs.toArray)) w):wpList P ops Q (o :: rest) a w:=wpList_plain hg fun _ hK=>wpo_zero t ho cs hz (hK _ _ h)
theorem rg_new {w:World} {cs:List Value} {t:TypeId} {b:Nat} (hb:b = w.heap.size):(w.alloc (.cells cs.toArray t)).rangeAt b 0 cs:=by
 subst hb
 exact range_whole (heap_alloc_new w _)
theorem rg_alloc {w:World} {cs:List Value} {b o:Nat} {ob:Obj} (h:w.rangeAt b o cs):(w.alloc ob).rangeAt b o cs:=fun j v hv=>by
 have h1:=h j v hv
 rw [World.cell?_alloc_lt _ _ _ (World.block_lt_of_cell? w _ h1)]
 exact h1
theorem rg_below {w w':World} {cs:List Value} {b o:Nat} (h:w.rangeAt b o cs) (hb:Below w.heap.size w w'):w'.rangeAt b o cs:=fun j v hv=>by
 have h1:=h j v hv
 rw [← h1]
 simp only [World.cell?,hb.block b (World.block_lt_of_cell? w _ h1)]
theorem rg_sub {w:World} {b o:Nat} {pre mid post:List Value} (h:w.rangeAt b o (pre ++ mid ++ post)):w.rangeAt b (o + pre.length) mid:=fun j v hv=>by
 have:=h (pre.length + j) v (by rw [List.append_assoc,List.getElem?_append_right (by omega),Nat.add_sub_cancel_left,List.getElem?_append_left (List.getElem?_eq_some_iff.1 hv).1]; exact hv)
 rw [Nat.add_assoc]
 exact this
theorem cfg_sub (c:Cfg) (i:Nat) (hi:i < 3):∃ pre post,cfgL c = pre ++ thrL (c.t i) ++ post∧pre.length = 7 + i * 17:=by
 rcases i with _ | _ | _ | i
 ·exact ⟨[.bool c.s0,.bool c.s1,.bool c.s2,.bool c.s3,.int .i64 c.h0,.int .i64 c.h1,.int .i64 c.h2],thrL c.t1 ++ thrL c.t2,by unfold cfgL; simp [Cfg.t],rfl⟩
 ·exact ⟨[.bool c.s0,.bool c.s1,.bool c.s2,.bool c.s3,.int .i64 c.h0,.int .i64 c.h1,.int .i64 c.h2] ++ thrL c.t0,thrL c.t2,by unfold cfgL; simp [Cfg.t],rfl⟩
 ·exact ⟨[.bool c.s0,.bool c.s1,.bool c.s2,.bool c.s3,.int .i64 c.h0,.int .i64 c.h1,.int .i64 c.h2] ++ thrL c.t0 ++ thrL c.t1,[],by unfold cfgL; simp [Cfg.t],rfl⟩
 ·omega
theorem cfg_thr {w:World} {b o:Nat} {c:Cfg} (h:w.rangeAt b o (cfgL c)) (i:Nat) (hi:i < 3):w.rangeAt b (o + (7 + i * 17)) (thrL (c.t i)):=by
 obtain ⟨pre,post,h1,h2⟩:=cfg_sub c i hi
 rw [h1] at h
 rw [← h2]
 exact rg_sub h
theorem cfg_thr0 {w:World} {b:Nat} {c:Cfg} (h:w.rangeAt b 0 (cfgL c)) (i:Nat) (hi:i < 3):w.rangeAt b (7 + i * 17) (thrL (c.t i)):=by
 have:=cfg_thr h i hi
 rwa [Nat.zero_add] at this
theorem ret_agg {xs ys:List Value} (h:xs = ys):Ending.returned (.agg xs.toArray) = .returned (.agg ys.toArray):=by rw [h]
theorem setRow_heap {w:World} {g:Nat} {old cs:Array Value} {t:TypeId} (h:w.heap[g]? = some (.cells old t (0,0))):(w.setRow g cs).heap[g]? = some (.cells cs t (0,0)):=by
 unfold World.setRow
 simp only [Array.getElem?_modify]
 rw [if_pos trivial,h]
 rfl
theorem setRow_other {w:World} {g k:Nat} {cs:Array Value} (hk:k ≠ g):(w.setRow g cs).heap[k]? = w.heap[k]?:=by
 unfold World.setRow
 simp only [Array.getElem?_modify]
 rw [if_neg (fun e=>hk e.symm)]
theorem setRow_size {w:World} {g:Nat} {cs:Array Value}:(w.setRow g cs).heap.size = w.heap.size:=by
 unfold World.setRow
 simp
theorem setRow_below {n:Nat} {w0 w:World} {g:Nat} {cs:Array Value} (hb:Below n w0 w) (hg:n ≤ g):Below n w0 (w.setRow g cs) :=
 ⟨hb.os,hb.tape,hb.output,Nat.le_trans hb.size (Nat.le_of_eq setRow_size.symm),fun k hk=>(setRow_other (by omega)).trans (hb.block k hk)⟩
theorem wpo_store_box {P:Program} {o:Oper} {a:Act} {w:World} {K:Act→World→Prop} {Q:Exit→Act→World→Prop} (ty:TypeId) (x y:Operand) (ho:o.op = .store ty x y) (b:Nat) (old:Array Value) (cs:List Value) (t:TypeId)
    (hx:a.eval x = .pointer (some ⟨b,0,none⟩)) (hy:a.eval y = .agg cs.toArray) (hb:w.heap[b]? = some (.cells old t (0,0))) (hi:(P.info? ty).map (·.size) = some cs.length) (hz:old.size = cs.length) (h1:cs.all (·.oneCell') = true)
    (h:K (a.put o.dst undef) (w.setRow b cs.toArray)):o.wp P a w K Q :=
 wp_store_row ty x y ho b cs.toArray hx hy t old hb (by simpa using hi) (by simpa using hz) (by simpa using h1) h
theorem heap_new {w:World} {ob:Obj} {n:Nat} (h:n = w.heap.size):(w.alloc ob).heap[n]? = some ob:=by
 subst h
 exact heap_alloc_new _ _
theorem bigs2 (w:World) (x y:Obj):((w.alloc x).alloc y).heap[w.heap.size]? = some x∧((w.alloc x).alloc y).heap[w.heap.size + 1]? = some y∧Below w.heap.size w ((w.alloc x).alloc y)∧((w.alloc x).alloc y).heap.size = w.heap.size + 2 :=
 ⟨(Below.heap_alloc _ _ _ (by simp)).trans (heap_new rfl),heap_new (by simp),((Below.refl _ _).alloc (Nat.le_refl _) _).alloc (by simp) _,by simp⟩
theorem bigs3 (w:World) (x y z:Obj):(((w.alloc x).alloc y).alloc z).heap[w.heap.size]? = some x∧(((w.alloc x).alloc y).alloc z).heap[w.heap.size + 1]? = some y∧(((w.alloc x).alloc y).alloc z).heap[w.heap.size + 2]? = some z∧Below w.heap.size w (((w.alloc x).alloc y).alloc z)∧(((w.alloc x).alloc y).alloc z).heap.size = w.heap.size + 3 :=
 ⟨(Below.heap_alloc _ _ _ (by simp; omega)).trans (bigs2 w x y).1,(Below.heap_alloc _ _ _ (by simp)).trans (bigs2 w x y).2.1,heap_new (by simp),(bigs2 w x y).2.2.1.alloc (by simp; omega) _,by simp⟩
theorem yieldsIf_build {P:Program} {ops:Array Oper} {S:World→Prop} {op:Oper} {a:Act} (hw:Region.wanted op (yielded ops a.tmps) = true) (t:TypeId) (parts:Array (Nat × Operand)) (ho:op.op = .build t parts) (cs:List Value) (hb:P.built t (parts.map fun (i,x)=>(i,a.eval x)).toList = some cs.toArray):YieldsIf P ops S op (.agg cs.toArray) a :=
 .inl ⟨hw,fun w _=>by
  unfold execOp
  simp only [ho,Sem.run_bind,run_build w t _ _ hb,Result.andThen_ok,Sem.run_pure]⟩
theorem wpl_store_box {P:Program} {ops:Array Oper} {rest:List Oper} {o:Oper} {a:Act} {w:World} {Q:Exit→Act→World→Prop} (hg:o.guard = none) (ty:TypeId) (x y:Operand) (ho:o.op = .store ty x y) (b:Nat) (old:Array Value) (cs:List Value) (t:TypeId)
    (hx:a.eval x = .pointer (some ⟨b,0,none⟩)) (hy:a.eval y = .agg cs.toArray) (hb:w.heap[b]? = some (.cells old t (0,0))) (hi:(P.info? ty).map (·.size) = some cs.length) (hz:old.size = cs.length) (h1:cs.all (·.oneCell') = true)
    (h:wpList P ops Q rest (a.put o.dst undef) (w.setRow b cs.toArray)):wpList P ops Q (o :: rest) a w:=wpList_plain hg fun _ hK=>wpo_store_box ty x y ho b old cs t hx hy hb hi hz h1 (hK _ _ h)
theorem setAll_cfg (pre post:List Value) (c:Cfg) (t:Thr) (k:Nat) (hk:k < 3) (hp:pre.length = 6):setAll (pre ++ cfgL c ++ post).toArray (13 + k * 17) (thrL t) = (pre ++ cfgL (c.setT t k) ++ post).toArray:=by
 match pre,hp with
 | [a,b,d,e,f,g],_ =>
  rcases k with _ | _ | _ | k
  ·simp [setAll,thrL,frmL,cfgL,Cfg.setT]
  ·simp [setAll,thrL,frmL,cfgL,Cfg.setT]
  ·simp [setAll,thrL,frmL,cfgL,Cfg.setT]
  ·omega
theorem put_laws:(∀ (ts:List Value) (ds:List Deferred) (i:Nat) (v:Value),(Act.mk ts.toArray ds).put (some i) v = ⟨(ts.set i v).toArray,ds⟩)∧(∀ (a:Act) (v:Value),a.put none v = a)∧(∀ (a:Value) (l:List Value) (v:Value),(a :: l).set 0 v = v :: l)∧(∀ (a:Value) (l:List Value) (n:Nat) (v:Value),(a :: l).set (n + 1) v = a :: l.set n v)∧(∀ (l:List Oper) (i:Nat) (h:i < l.toArray.size),l.toArray[i] = l[i]'(by simpa using h))∧(∀ (a:Oper) (l:List Oper) (h:0 < (a :: l).length),(a :: l)[0] = a)∧(∀ (a:Oper) (l:List Oper) (n:Nat) (h:n + 1 < (a :: l).length),(a :: l)[n + 1] = l[n]'(by simpa using h)) :=
 ⟨fun _ _ _ _=>by simp [Act.put],fun _ _=>rfl,fun _ _ _=>rfl,fun _ _ _ _=>rfl,fun _ _ _=>rfl,fun _ _ _=>rfl,fun _ _ _ _=>rfl⟩
theorem Tryz.sizeProgram:(Tryz.prog.info? 123).map (·.size) = some 6:=by kernel_rfl
theorem Tryz.sizeConfig:(Tryz.prog.info? 140).map (·.size) = some 58:=by kernel_rfl
theorem Tryz.sizeLine:(Tryz.prog.info? 204).map (·.size) = some 16:=by kernel_rfl
theorem Tryz.sizeThr:(Tryz.prog.info? 137).map (·.size) = some 17:=by kernel_rfl
theorem Tryz.sizeWalker:(Tryz.prog.info? 259).map (·.size) = some 82:=by kernel_rfl
theorem Tryz.zeroConfig:(Tryz.prog.info? 140).bind (·.zero) = some (.agg (cfgL zCfg).toArray):=by kernel_rfl
theorem Tryz.zeroThread:(Tryz.prog.info? 137).bind (·.zero) = some (.agg (thrL zThr).toArray):=by kernel_rfl
def zLine:PLine:=⟨0,0,0,0,0,0,⟨0,0⟩,0,0,[],false,false,false,false,false⟩
theorem Tryz.zeroLine:(Tryz.prog.info? 204).bind (·.zero) = some (.agg (lnL zLine (.slice none 0 0)).toArray):=by kernel_rfl
theorem Tryz.buildConfig:Tryz.prog.built 140 [] = some (cfgL zCfg).toArray:=by kernel_rfl
theorem Tryz.buildThread:Tryz.prog.built 137 [] = some (thrL zThr).toArray:=by kernel_rfl
theorem one_cfg (c:Cfg):(cfgL c).all (·.oneCell') = true:=rfl
theorem one_thr (t:Thr):(thrL t).all (·.oneCell') = true:=rfl
theorem Tryz.buildWalker (x0 x1 x2 x3 x4 x5:Value) (c:Cfg) (t:Thr) (h:Int):Tryz.prog.built 259 [(0,.agg ([x0,x1,x2,x3,x4,x5]:List Value).toArray),(1,.agg (cfgL c).toArray),(2,.agg (thrL t).toArray),(3,.int .i64 h)] = some ([x0,x1,x2,x3,x4,x5] ++ cfgL c ++ thrL t ++ [Value.int .i64 h]).toArray:=by kernel_rfl
end Go.Proofs.YtmfcpbhdggonfaaGreatDoor
