/- Contracts of the program's package check: calls; the whole outline. -/
import Derived.Test.YtmfcpbhdggonfaaGreatDoorMjAO
import Derived.Test.YtmfcpbhdggonfaaGreatDoorMjAP
import Derived.Test.YtmfcpbhdggonfaaGreatDoorMjAB
import Derived.Deep.RegionLaw
import Derived.Deep.AppendLies
namespace Go.Proofs.YtmfcpbhdggonfaaGreatDoor
open Go.RowKit RR
set_option maxRecDepth 100000 in
set_option maxHeartbeats 2000000 in
theorem c_paramsOf (ao:Option Addr) (cap:Nat) (l:List Nm) (t:ByteArray) (w:World) (hl:l.length ≤ 1000) (hi:NmSl w ao l) :
    Calls Tryz.prog 187 #[.slice ao l.length cap,.string t] w fun e w'=>e = .returned (.int .i64 (paramsP l t))∧Below w.heap.size w w':=by
 go_enter Tryz.func187,Tryz.ntmps187
 go_wp2
 go_loopw [5,6,11] (fun v5 v6 u wr=>∃ (k:Nat) (p:Int) (q:Nat),v5 = .int .i64 p∧v6 = .int .i64 q∧u = .int .i64 k∧k ≤ l.length∧q ≤ k∧(l.take k).foldl (pstep t) (-1,0) = (p,q)∧Below w.heap.size w wr) (fun _ _ u _=>l.length - (intOf u).toNat)
 case atStart=>exact ⟨0,-1,0,rfl,rfl,rfl,Nat.zero_le _,Nat.zero_le _,rfl,Below.refl _ _⟩
 case round =>
  obtain ⟨k,p,q,rfl,rfl,rfl,hk,hq,hn,hbel⟩:=hrel
  by_cases hlt:k < l.length
  ·obtain ⟨b,o,hb,hao,c1,c2,c3,c4⟩:=(hi.below hbel) k hlt
   subst hao
   have HS:Hid ((l.take (k + 1)).foldl (pstep t) (-1,0) = pstep t (p,q) l[k]):=by show _ = _; rw [foldl_snoc _ _ l k hlt,hn]
   clear hn
   by_cases h2:l[k].role = 2
   ·have e2:((l[k].role:Int) == 2) = true:=beq_iff_eq.2 (by omega)
    have e3:((l[k].role:Int) == 3) = false:=beq_eq_false_iff_ne.2 (by omega)
    cases hw:(l[k].word.toList == t.toList)
    ·have HW:Hid (¬ l[k].word = t):=fun e=>by rw [e] at hw; simp at hw
     have HE:Hid (pstep t (p,q) l[k] = (p,q)):=by show _ = _; unfold pstep; dsimp only; rw [if_neg (fun h=>HW.out h.2),if_neg (by omega)]
     clear h2
     go_wp2_with fail
     go_roundw
     case rel=>exact ⟨k + 1,p,q,rfl,rfl,by go_num,by omega,by omega,by rw [HS.out,HE.out],hbel.alloc hbel.size _⟩
     case measure=>simp [intOf]; omega
    ·have HW:Hid (l[k].word = t):=toList_inj.1 (by simpa using hw)
     have HE:Hid (pstep t (p,q) l[k] = (l[k].proc,q)):=by show _ = _; unfold pstep; dsimp only; rw [if_pos ⟨h2,HW.out⟩,if_neg (by omega)]
     clear h2
     go_wp2_with fail
     go_roundw
     case rel=>exact ⟨k + 1,l[k].proc,q,rfl,rfl,by go_num,by omega,by omega,by rw [HS.out,HE.out],hbel.alloc hbel.size _⟩
     case measure=>simp [intOf]; omega
   ·have e2:((l[k].role:Int) == 2) = false:=beq_eq_false_iff_ne.2 (by omega)
    by_cases h3:l[k].role = 3
    ·have e3:((l[k].role:Int) == 3) = true:=beq_iff_eq.2 (by omega)
     by_cases hp:l[k].proc = p
     ·have ep:(l[k].proc == p) = true:=beq_iff_eq.2 hp
      have HE:Hid (pstep t (p,q) l[k] = (p,q + 1)):=by show _ = _; unfold pstep; dsimp only; rw [if_neg (fun h=>h2 h.1),if_pos ⟨h3,hp⟩]
      clear h2 h3 hp
      go_wp2_with fail
      go_roundw
      case rel=>exact ⟨k + 1,p,q + 1,rfl,by go_num,by go_num,by omega,by omega,by rw [HS.out,HE.out],hbel.alloc hbel.size _⟩
      case measure=>simp [intOf]; omega
     ·have ep:(l[k].proc == p) = false:=beq_eq_false_iff_ne.2 hp
      have HE:Hid (pstep t (p,q) l[k] = (p,q)):=by show _ = _; unfold pstep; dsimp only; rw [if_neg (fun h=>h2 h.1),if_neg (fun h=>hp h.2)]
      clear h2 h3 hp
      go_wp2_with fail
      go_roundw
      case rel=>exact ⟨k + 1,p,q,rfl,rfl,by go_num,by omega,by omega,by rw [HS.out,HE.out],hbel.alloc hbel.size _⟩
      case measure=>simp [intOf]; omega
    ·have e3:((l[k].role:Int) == 3) = false:=beq_eq_false_iff_ne.2 (by omega)
     have HE:Hid (pstep t (p,q) l[k] = (p,q)):=by show _ = _; unfold pstep; dsimp only; rw [if_neg (fun h=>h2 h.1),if_neg (fun h=>h3 h.1)]
     clear h2 h3
     go_wp2_with fail
     go_roundw
     case rel=>exact ⟨k + 1,p,q,rfl,rfl,by go_num,by omega,by omega,by rw [HS.out,HE.out],hbel.alloc hbel.size _⟩
     case measure=>simp [intOf]; omega
  ·have HE:Hid (paramsP l t = q):=by show _ = _; unfold paramsP; rw [← List.take_of_length_le (l:=l) (i:=k) (by omega),hn]
   clear hn
   go_wp2_with fail
   go_ret
   exact ⟨ret_int (by rw [HE.out]),hbel⟩
def ClSl (w:World) (ao:Option Addr) (l:List Cl):Prop:=∀ i,(h:i < l.length)→∃ b o,b < w.heap.size∧ao = some ⟨b,o,none⟩∧w.cell? ⟨b,o + i * 3,none⟩ = some (.string l[i].word)∧w.cell? ⟨b,o + i * 3 + 1,none⟩ = some (.int .i64 l[i].at_)∧w.cell? ⟨b,o + i * 3 + 2,none⟩ = some (.int .i64 l[i].values)
theorem ClSl.below {w w':World} {ao:Option Addr} {l:List Cl} (h:ClSl w ao l) (hb:Below w.heap.size w w'):ClSl w' ao l:=fun i hi=>by
 obtain ⟨b,o,h1,h2,h3,h4,h5⟩:=h i hi
 exact ⟨b,o,Nat.lt_of_lt_of_le h1 hb.size,h2,(hb.cell (p:=⟨b,o + i * 3,none⟩) h1).trans h3,(hb.cell (p:=⟨b,o + i * 3 + 1,none⟩) h1).trans h4,(hb.cell (p:=⟨b,o + i * 3 + 2,none⟩) h1).trans h5⟩
theorem ob {w wr:World} {T:TypeId} {x0 x1 x2 x3:Value} (hb:Below (w.heap.size + 1) (w.alloc (.cells #[x0,x1,x2,x3] T)) wr):wr.cell? ⟨w.heap.size,0,none⟩ = some x0∧wr.cell? ⟨w.heap.size,1,none⟩ = some x1∧wr.cell? ⟨w.heap.size,2,none⟩ = some x2∧wr.cell? ⟨w.heap.size,3,none⟩ = some x3∧w.heap.size < wr.heap.size∧Below w.heap.size w wr:=by
 have h2:=hb.size
 refine ⟨(hb.cell (p:=⟨w.heap.size,0,none⟩) (Nat.lt_succ_self _)).trans (by simp),(hb.cell (p:=⟨w.heap.size,1,none⟩) (Nat.lt_succ_self _)).trans (by simp),(hb.cell (p:=⟨w.heap.size,2,none⟩) (Nat.lt_succ_self _)).trans (by simp),(hb.cell (p:=⟨w.heap.size,3,none⟩) (Nat.lt_succ_self _)).trans (by simp),?_,((Below.refl _ _).alloc (Nat.le_refl _) _).trans (hb.mono (Nat.le_succ _))⟩
 simp at h2; omega
theorem keep5 {wr W w1:World} {a c d:Addr} {x y z:Value} (ha:a.block < wr.heap.size) (hc:c.block < wr.heap.size) (hd:d.block < wr.heap.size) (h:W.cell? a = some x∧W.cell? c = some y∧W.cell? d = some z∧Below wr.heap.size wr W) (hb:Below W.heap.size W w1):w1.cell? a = some x∧w1.cell? c = some y∧w1.cell? d = some z∧Below wr.heap.size wr w1 :=
 ⟨(hb.cell (Nat.lt_of_lt_of_le ha h.2.2.2.size)).trans h.1,(hb.cell (Nat.lt_of_lt_of_le hc h.2.2.2.size)).trans h.2.1,(hb.cell (Nat.lt_of_lt_of_le hd h.2.2.2.size)).trans h.2.2.1,h.2.2.2.trans (hb.mono h.2.2.2.size)⟩
set_option maxRecDepth 100000 in
set_option maxHeartbeats 2000000 in
theorem c_firstWrongCall (ao ac:Option Addr) (cap capc:Nat) (a2 a3:Option Addr) (n2 c2 n3 c3:Nat) (l:List Nm) (cs:List Cl) (w:World) (hl:l.length ≤ 1000) (hcs:cs.length ≤ 1000) (hi:NmSl w ao l) (hc:ClSl w ac cs) :
    Calls Tryz.prog 140 #[.agg #[.slice ao l.length cap,.slice ac cs.length capc,.slice a2 n2 c2,.slice a3 n3 c3]] w fun e w'=>e = .returned (optOut (wrongP l cs))∧Below w.heap.size w w':=by
 have hx0:=Below.refl (w.heap.size + 1) (w.alloc (.cells #[.slice ao l.length cap,.slice ac cs.length capc,.slice a2 n2 c2,.slice a3 n3 c3] 116))
 obtain ⟨o0,o1,o2,o3,hsz0,hbel0⟩:=ob hx0
 go_enter Tryz.func140,Tryz.ntmps140
 go_wp2_with fail
 go_loopw [9] (fun u wr=>∃ (k:Nat),u = .int .i64 k∧k ≤ cs.length∧wrongP l (cs.drop k) = wrongP l cs∧Below (w.heap.size + 1) (w.alloc (.cells #[.slice ao l.length cap,.slice ac cs.length capc,.slice a2 n2 c2,.slice a3 n3 c3] 116)) wr) (fun u _=>cs.length - (intOf u).toNat)
 case atStart=>exact ⟨0,rfl,Nat.zero_le _,rfl,hx0⟩
 case round =>
  obtain ⟨k,rfl,hk,hn,hbx⟩:=hrel
  have HN:=hide hn
  have HB:=hide hbx
  obtain ⟨q0,q1,q2,q3,hsz,hbel⟩:=ob hbx
  clear hn hbx o0 o1 hsz0 hbel0 hx0
  by_cases hlt:k < cs.length
  ·obtain ⟨b,o,hb,hao,c1,c2,c3⟩:=(hc.below hbel) k hlt
   subst hao
   have hsl:=hi.below hbel
   have HD:Hid (cs.drop k = cs[k] :: cs.drop (k + 1)):=List.drop_eq_getElem_cons hlt
   by_cases hv:(cs[k].values:Int) = paramsP l cs[k].word
   ·have hv':((cs[k].values:Int) != (paramsP l cs[k].word:Int)) = false:=by rw [hv]; simp
    have HE:Hid (wrongP l (cs.drop k) = wrongP l (cs.drop (k + 1))):=by show _ = _; rw [HD.out,wrongP,if_neg (by omega)]
    clear hv
    have x0:(wr.alloc (.cells #[.string cs[k].word,.int .i64 cs[k].at_,.int .i64 cs[k].values] 286)).cell? ⟨wr.heap.size,0,none⟩ = some (.string cs[k].word):=by simp
    have x1:(wr.alloc (.cells #[.string cs[k].word,.int .i64 cs[k].at_,.int .i64 cs[k].values] 286)).cell? ⟨wr.heap.size,1,none⟩ = some (.int .i64 cs[k].at_):=by simp
    have x2:(wr.alloc (.cells #[.string cs[k].word,.int .i64 cs[k].at_,.int .i64 cs[k].values] 286)).cell? ⟨wr.heap.size,2,none⟩ = some (.int .i64 cs[k].values):=by simp
    have xq:(wr.alloc (.cells #[.string cs[k].word,.int .i64 cs[k].at_,.int .i64 cs[k].values] 286)).cell? ⟨w.heap.size,0,none⟩ = some (.slice ao l.length cap):=by rw [World.cell?_alloc_lt _ _ _ hsz]; exact q0
    have hbX:Below wr.heap.size wr (wr.alloc (.cells #[.string cs[k].word,.int .i64 cs[k].at_,.int .i64 cs[k].values] 286)):=(Below.refl _ _).alloc (Nat.le_refl _) _
    have hzX:wr.heap.size < (wr.alloc (.cells #[.string cs[k].word,.int .i64 cs[k].at_,.int .i64 cs[k].values] 286)).heap.size:=by simp
    go_wp2_with fail
    generalize (wr.alloc (.cells #[.string cs[k].word,.int .i64 cs[k].at_,.int .i64 cs[k].values] 286)) = wx at *
    have hslx:=hsl.below hbX
    have hqX:w.heap.size < wx.heap.size:=by omega
    go_region_held (fun w'=>w'.cell? ⟨w.heap.size,0,none⟩ = some (.slice ao l.length cap)∧w'.cell? ⟨wr.heap.size,0,none⟩ = some (.string cs[k].word)∧w'.cell? ⟨wr.heap.size,2,none⟩ = some (.int .i64 cs[k].values)∧Below wx.heap.size wx w') (first | exact ⟨xq,x0,x2,(Below.refl _ _).drew⟩ | exact keep5 hqX hzX hzX (by assumption) (by assumption)) (first | (go_at_call 187; refine (c_paramsOf _ _ l _ _ hl ?_).mono ?_; exact hslx.below (Below.refl _ _).drew; rintro e w2 ⟨rfl,hb2⟩))
    have hb3:Below wx.heap.size wx w2:=(Below.refl _ _).drew.trans hb2
    have hx3:=(hb3.cell (p:=⟨wr.heap.size,1,none⟩) hzX).trans x1
    have hfin:=(HB.out.trans (hbX.mono hsz)).trans (hb3.mono hqX)
    clear hb2
    go_wp2_with fail
    go_roundw
    case rel=>exact ⟨k + 1,by go_num,by omega,by rw [← HN.out,HE.out],hfin⟩
    case measure=>simp [intOf]; omega
   ·have hv':((cs[k].values:Int) != (paramsP l cs[k].word:Int)) = true:=bne_iff_ne.2 hv
    have HE:Hid (wrongP l (cs.drop k) = some cs[k].at_):=by show _ = _; rw [HD.out,wrongP,if_pos (by omega)]
    clear hv
    have x0:(wr.alloc (.cells #[.string cs[k].word,.int .i64 cs[k].at_,.int .i64 cs[k].values] 286)).cell? ⟨wr.heap.size,0,none⟩ = some (.string cs[k].word):=by simp
    have x1:(wr.alloc (.cells #[.string cs[k].word,.int .i64 cs[k].at_,.int .i64 cs[k].values] 286)).cell? ⟨wr.heap.size,1,none⟩ = some (.int .i64 cs[k].at_):=by simp
    have x2:(wr.alloc (.cells #[.string cs[k].word,.int .i64 cs[k].at_,.int .i64 cs[k].values] 286)).cell? ⟨wr.heap.size,2,none⟩ = some (.int .i64 cs[k].values):=by simp
    have xq:(wr.alloc (.cells #[.string cs[k].word,.int .i64 cs[k].at_,.int .i64 cs[k].values] 286)).cell? ⟨w.heap.size,0,none⟩ = some (.slice ao l.length cap):=by rw [World.cell?_alloc_lt _ _ _ hsz]; exact q0
    have hbX:Below wr.heap.size wr (wr.alloc (.cells #[.string cs[k].word,.int .i64 cs[k].at_,.int .i64 cs[k].values] 286)):=(Below.refl _ _).alloc (Nat.le_refl _) _
    have hzX:wr.heap.size < (wr.alloc (.cells #[.string cs[k].word,.int .i64 cs[k].at_,.int .i64 cs[k].values] 286)).heap.size:=by simp
    go_wp2_with fail
    generalize (wr.alloc (.cells #[.string cs[k].word,.int .i64 cs[k].at_,.int .i64 cs[k].values] 286)) = wx at *
    have hslx:=hsl.below hbX
    have hqX:w.heap.size < wx.heap.size:=by omega
    go_region_held (fun w'=>w'.cell? ⟨w.heap.size,0,none⟩ = some (.slice ao l.length cap)∧w'.cell? ⟨wr.heap.size,0,none⟩ = some (.string cs[k].word)∧w'.cell? ⟨wr.heap.size,2,none⟩ = some (.int .i64 cs[k].values)∧Below wx.heap.size wx w') (first | exact ⟨xq,x0,x2,(Below.refl _ _).drew⟩ | exact keep5 hqX hzX hzX (by assumption) (by assumption)) (first | (go_at_call 187; refine (c_paramsOf _ _ l _ _ hl ?_).mono ?_; exact hslx.below (Below.refl _ _).drew; rintro e w2 ⟨rfl,hb2⟩))
    have hb3:Below wx.heap.size wx w2:=(Below.refl _ _).drew.trans hb2
    have hx3:=(hb3.cell (p:=⟨wr.heap.size,1,none⟩) hzX).trans x1
    have hfin:=(HB.out.trans (hbX.mono hsz)).trans (hb3.mono hqX)
    clear hb2
    go_wp2_with fail
    go_ret2
    exact ⟨by rw [← HN.out,HE.out]; rfl,(ob hfin).2.2.2.2.2⟩
  ·go_wp2
   go_ret2
   exact ⟨by rw [← HN.out,List.drop_of_length_le (by omega)]; rfl,hbel⟩
theorem outCheck1 {ns:List Nm} {cs:List Cl} {p:Nat} (h:manyP ns = some p):outCheck ns cs = (4,(p:Int)):=by unfold outCheck; rw [h]
theorem outCheck2 {ns:List Nm} {cs:List Cl} {p:Nat} (h:manyP ns = none) (h2:twiceP ns = some p):outCheck ns cs = (5,(p:Int)):=by unfold outCheck; rw [h,h2]
theorem outCheck3 {ns:List Nm} {cs:List Cl} {p:Nat} (h:manyP ns = none) (h2:twiceP ns = none) (h3:misP ns = some p):outCheck ns cs = (5,(p:Int)):=by unfold outCheck; rw [h,h2,h3]
theorem outCheck4 {ns:List Nm} {cs:List Cl} {p:Nat} (h:manyP ns = none) (h2:twiceP ns = none) (h3:misP ns = none) (h4:wrongP ns cs = some p):outCheck ns cs = (6,(p:Int)):=by unfold outCheck; rw [h,h2,h3,h4]
theorem outCheck5 {ns:List Nm} {cs:List Cl} (h:manyP ns = none) (h2:twiceP ns = none) (h3:misP ns = none) (h4:wrongP ns cs = none):outCheck ns cs = (0,0):=by unfold outCheck; rw [h,h2,h3,h4]
set_option maxRecDepth 100000 in
set_option maxHeartbeats 2000000 in
theorem c_checkOutline (ao ac:Option Addr) (cap capc:Nat) (a2 a3:Option Addr) (n2 c2 n3 c3:Nat) (l:List Nm) (cs:List Cl) (w:World) (hl:l.length ≤ 999) (hcs:cs.length ≤ 1000) (hi:NmSl w ao l) (hc:ClSl w ac cs) :
    Calls Tryz.prog 101 #[.agg #[.slice ao l.length cap,.slice ac cs.length capc,.slice a2 n2 c2,.slice a3 n3 c3]] w fun e w'=>e = .returned (.tuple #[.int .i64 (outCheck l cs).1,.int .i64 (outCheck l cs).2])∧Below w.heap.size w w':=by
 have hx0:=Below.refl (w.heap.size + 1) (w.alloc (.cells #[.slice ao l.length cap,.slice ac cs.length capc,.slice a2 n2 c2,.slice a3 n3 c3] 116))
 obtain ⟨o0,o1,o2,o3,hsz0,hbel0⟩:=ob hx0
 have hi0:=hi.below hbel0
 go_enter Tryz.func101,Tryz.ntmps101
 go_wp2_with fail
 refine (c_firstTooMany _ _ l _ hl hi0).mono ?_
 rintro e w1 ⟨rfl,hb1⟩
 have hx1:=hx0.trans (hb1.mono hsz0)
 obtain ⟨p0,p1,p2,p3,hsz1,hbel1⟩:=ob hx1
 have hi1:=hi.below hbel1
 clear o0 o1 hbel0 hx0 hi0 hb1
 cases h1:manyP l with
 | some p =>
  have HE:=hide (outCheck1 (cs:=cs) h1)
  unfold optOut
  go_wp2_with fail
  go_ret2
  exact ⟨by rw [HE.out]; rfl,hbel1⟩
 | none =>
 unfold optOut
 go_wp2_with fail
 refine (c_firstGivenTwice _ _ l _ (by omega) hi1).mono ?_
 rintro e w2 ⟨rfl,hb2⟩
 have hx2:=hx1.trans (hb2.mono hsz1)
 obtain ⟨q0,q1,q2,q3,hsz2,hbel2⟩:=ob hx2
 have hi2:=hi.below hbel2
 clear p0 p1 hbel1 hx1 hi1 hb2
 cases h2:twiceP l with
 | some p =>
  have HE:=hide (outCheck2 (cs:=cs) h1 h2)
  unfold optOut
  go_wp2_with fail
  go_ret2
  exact ⟨by rw [HE.out]; rfl,hbel2⟩
 | none =>
 unfold optOut
 go_wp2_with fail
 refine (c_firstMisused _ _ l _ (by omega) hi2).mono ?_
 rintro e w3 ⟨rfl,hb3⟩
 have hx3:=hx2.trans (hb3.mono hsz2)
 obtain ⟨r0,r1,r2,r3,hsz3,hbel3⟩:=ob hx3
 have hi3:=hi.below hbel3
 have hc3:=hc.below hbel3
 clear q0 q1 hbel2 hx2 hi2 hb3
 cases h3:misP l with
 | some p =>
  have HE:=hide (outCheck3 (cs:=cs) h1 h2 h3)
  unfold optOut
  go_wp2_with fail
  go_ret2
  exact ⟨by rw [HE.out]; rfl,hbel3⟩
 | none =>
 unfold optOut
 go_wp2_with fail
 refine (c_firstWrongCall _ _ _ _ _ _ _ _ _ _ l cs _ (by omega) hcs hi3 hc3).mono ?_
 rintro e w4 ⟨rfl,hb4⟩
 have hbel4:=hbel3.trans (hb4.mono hbel3.size)
 clear hb4
 cases h4:wrongP l cs with
 | some p =>
  have HE:=hide (outCheck4 (cs:=cs) h1 h2 h3 h4)
  unfold optOut
  go_wp2_with fail
  go_ret2
  exact ⟨by rw [HE.out]; rfl,hbel4⟩
 | none =>
 have HE:=hide (outCheck5 (cs:=cs) h1 h2 h3 h4)
 unfold optOut
 go_wp2_with fail
 go_ret2
 exact ⟨by rw [HE.out]; rfl,hbel4⟩
end Go.Proofs.YtmfcpbhdggonfaaGreatDoor
namespace Go.Proofs.YtmfcpbhdggonfaaGreatDoor
open Go.RowKit RR
def Tok3 (w:World) (B:Nat) (ao:Option Addr) (L:List Tk):Prop:=∀ i,(h:i < L.length)→∃ b o,b < B∧ao = some ⟨b,o,none⟩∧w.cell? ⟨b,o + i * 3,none⟩ = some (.string L[i].t)∧w.cell? ⟨b,o + i * 3 + 1,none⟩ = some (.int .i64 L[i].p)∧w.cell? ⟨b,o + i * 3 + 2,none⟩ = some (.bool (isNameB L[i].t))
theorem Tok3.below {w w':World} {B:Nat} {ao:Option Addr} {L:List Tk} (h:Tok3 w B ao L) (hb:Below B w w'):Tok3 w' B ao L:=fun i hi=>by
 obtain ⟨b,o,h1,h2,h3,h4,h5⟩:=h i hi
 exact ⟨b,o,h1,h2,(hb.cell (p:=⟨b,o + i * 3,none⟩) h1).trans h3,(hb.cell (p:=⟨b,o + i * 3 + 1,none⟩) h1).trans h4,(hb.cell (p:=⟨b,o + i * 3 + 2,none⟩) h1).trans h5⟩
def nms:List Nm→List Value
 | []=>[]
 | n :: r=>.string n.word :: .int .i64 n.at_ :: .int .i64 n.role :: .int .i64 n.proc :: nms r
def cls:List Cl→List Value
 | []=>[]
 | n :: r=>.string n.word :: .int .i64 n.at_ :: .int .i64 n.values :: cls r
def ndc:List Nd→List Value
 | []=>[]
 | n :: r=>.int .i64 n.sign :: .int .i64 n.name :: .int .i64 n.left :: .int .i64 n.right :: ndc r
def exc:List (Int × Int)→List Value
 | []=>[]
 | n :: r=>.int .i64 n.1 :: .int .i64 n.2 :: exc r
def stc (s:Stm) (v:Value):List Value:=[.int .i64 s.kind,.int .i64 s.at_,.int .i64 s.blk.proc,.int .i64 s.blk.owner,.bool s.blk.els,.int .i64 s.target,.int .i64 s.name,v]
def smc:List (Stm × Value)→List Value
 | []=>[]
 | s :: r=>stc s.1 s.2 ++ smc r
def StAt (B U:Nat) (w:World) (sts:List Stm) (vS:Value):Prop:=∃ l:List (Stm × Value),l.map Prod.fst = sts∧w.ownsRow (B + 1) 202 8 vS l.length (smc l)∧∀ x ∈ l,w.ownsRow 0 248 2 x.2 x.1.vals.length (exc x.1.vals)∧∀ g,x.2.ownBlock = some g→g < U
structure PSx (B:Nat) (ao:Option Addr) (cap:Nat) (L:List Tk) (U:Nat) (σ:QSt) (vN vC vS vD:Value) (w:World):Prop where
 blk:w.heap[B]? = some (.cells #[.slice ao L.length cap,.int .i64 σ.p.next,.int .i64 σ.p.depth,.int .i64 σ.p.proc,.bool σ.p.failed,vN,vC,vS,vD] 231 (0,0))
 tok:Tok3 w B ao L
 nm:w.ownsRow (B + 1) 186 4 vN σ.p.names.length (nms σ.p.names)
 cl:w.ownsRow (B + 1) 286 3 vC σ.p.calls.length (cls σ.p.calls)
 nd:w.ownsRow (B + 1) 190 4 vD σ.nds.length (ndc σ.nds)
 st:StAt B U w σ.sts vS
 le:σ.p.next ≤ L.length
 inv:Inv σ.p
def PS (B:Nat) (ao:Option Addr) (cap:Nat) (L:List Tk) (U:Nat) (σ:QSt) (vS:Value) (w:World):Prop:=∃ vN vC vD,PSx B ao cap L U σ vN vC vS vD w
structure Kp (B:Nat) (w w':World):Prop where
 bel:Below B w w'
 keep:∀ (k:Nat) (c:Array Value) (T:TypeId) (f:Nat × Nat),w.heap[k]? = some (Obj.cells c T f)→T ≠ 231→T ≠ 186→T ≠ 286→T ≠ 190→w'.heap[k]? = some (Obj.cells c T f)
theorem Kp.refl (B:Nat) (w:World):Kp B w w:=⟨Below.refl _ _,fun _ _ _ _ h _ _ _ _=>h⟩
theorem Kp.trans {B:Nat} {a b c:World} (h:Kp B a b) (k:Kp B b c):Kp B a c:=⟨h.bel.trans k.bel,fun n x T f h0 h1 h2 h3 h4=>k.keep n x T f (h.keep n x T f h0 h1 h2 h3 h4) h1 h2 h3 h4⟩
theorem Kp.of_below {B:Nat} {w w':World} (h:Below w.heap.size w w') (hB:B ≤ w.heap.size):Kp B w w' :=
 ⟨h.mono hB,fun k _ _ _ h0 _ _ _ _=>(h.block k (Array.getElem?_eq_some_iff.1 h0).1).trans h0⟩
theorem owns_keep {w w':World} {base:Nat} {e:TypeId} {size:Nat} {v:Value} {n:Nat} {xs:List Value} (h:w.ownsRow base e size v n xs) (hk:∀ (k:Nat) (c:Array Value) (f:Nat × Nat),w.heap[k]? = some (Obj.cells c e f)→some k = v.ownBlock→w'.heap[k]? = some (Obj.cells c e f)):w'.ownsRow base e size v n xs:=by
 refine ⟨h.1,?_⟩
 rcases h.2 with hc | ⟨g,cp,cur,hv,hg,hh,r⟩
 ·exact .inl hc
 ·exact .inr ⟨g,cp,cur,hv,hg,hk g cur (0,0) hh (by rw [hv]; rfl),r⟩
theorem StAt.keep {B U:Nat} {w w':World} {sts:List Stm} {vS:Value} (h:StAt B U w sts vS) (h1:∀ (k:Nat) (c:Array Value) (f:Nat × Nat),w.heap[k]? = some (Obj.cells c 202 f)→some k = vS.ownBlock→w'.heap[k]? = some (Obj.cells c 202 f)) (h2:∀ (k:Nat) (c:Array Value) (f:Nat × Nat),k < U→w.heap[k]? = some (Obj.cells c 248 f)→w'.heap[k]? = some (Obj.cells c 248 f)):StAt B U w' sts vS:=by
 obtain ⟨l,e,o,v⟩:=h
 exact ⟨l,e,owns_keep o h1,fun x hx=>⟨owns_keep (v x hx).1 (fun k c f hk e=>h2 k c f ((v x hx).2 k e.symm) hk),(v x hx).2⟩⟩
theorem StAt.kp {B U:Nat} {w w':World} {sts:List Stm} {vS:Value} (h:StAt B U w sts vS) (k:Kp B w w'):StAt B U w' sts vS :=
 h.keep (fun n c f hk _=>k.keep n c _ f hk (by decide) (by decide) (by decide) (by decide)) (fun n c f _ hk=>k.keep n c _ f hk (by decide) (by decide) (by decide) (by decide))
theorem StAt.fresh {B U:Nat} {w:World} {sts:List Stm} {vS:Value} (h:StAt B U w sts vS):StAt B w.heap.size w sts vS:=by
 obtain ⟨l,e,o,v⟩:=h
 exact ⟨l,e,o,fun x hx=>⟨(v x hx).1,fun g hg=>((v x hx).1.lt g hg).2⟩⟩
theorem PSx.lt {B:Nat} {ao:Option Addr} {cap:Nat} {L:List Tk} {U:Nat} {σ:QSt} {vN vC vS vD:Value} {w:World} (h:PSx B ao cap L U σ vN vC vS vD w):B < w.heap.size:=(Array.getElem?_eq_some_iff.1 h.blk).1
theorem PS.lt {B:Nat} {ao:Option Addr} {cap:Nat} {L:List Tk} {U:Nat} {σ:QSt} {vS:Value} {w:World} (h:PS B ao cap L U σ vS w):B < w.heap.size:=by obtain ⟨_,_,_,h⟩:=h; exact h.lt
theorem PS.le {B:Nat} {ao:Option Addr} {cap:Nat} {L:List Tk} {U:Nat} {σ:QSt} {vS:Value} {w:World} (h:PS B ao cap L U σ vS w):σ.p.next ≤ L.length:=by obtain ⟨_,_,_,h⟩:=h; exact h.le
theorem PS.inv {B:Nat} {ao:Option Addr} {cap:Nat} {L:List Tk} {U:Nat} {σ:QSt} {vS:Value} {w:World} (h:PS B ao cap L U σ vS w):Inv σ.p:=by obtain ⟨_,_,_,h⟩:=h; exact h.inv
theorem PSx.below {B:Nat} {ao:Option Addr} {cap:Nat} {L:List Tk} {U:Nat} {σ:QSt} {vN vC vS vD:Value} {w w':World} (h:PSx B ao cap L U σ vN vC vS vD w) (hb:Below w.heap.size w w'):PSx B ao cap L U σ vN vC vS vD w' :=
 ⟨(hb.block B h.lt).trans h.blk,h.tok.below (hb.mono (Nat.le_of_lt h.lt)),owns_below h.nm hb,owns_below h.cl hb,owns_below h.nd hb,h.st.kp (Kp.of_below hb (Nat.le_of_lt h.lt)),h.le,h.inv⟩
theorem PS.below {B:Nat} {ao:Option Addr} {cap:Nat} {L:List Tk} {U:Nat} {σ:QSt} {vS:Value} {w w':World} (h:PS B ao cap L U σ vS w) (hb:Below w.heap.size w w'):PS B ao cap L U σ vS w':=by
 obtain ⟨a,b,c,h⟩:=h; exact ⟨a,b,c,h.below hb⟩
theorem PS.fresh {B:Nat} {ao:Option Addr} {cap:Nat} {L:List Tk} {U:Nat} {σ:QSt} {vS:Value} {w:World} (h:PS B ao cap L U σ vS w):PS B ao cap L w.heap.size σ vS w:=by
 obtain ⟨a,b,c,h⟩:=h
 exact ⟨a,b,c,h.blk,h.tok,h.nm,h.cl,h.nd,h.st.fresh,h.le,h.inv⟩
theorem PSx.cells {B:Nat} {ao:Option Addr} {cap:Nat} {L:List Tk} {U:Nat} {σ:QSt} {vN vC vS vD:Value} {w:World} (h:PSx B ao cap L U σ vN vC vS vD w):w.cell? ⟨B,0,none⟩ = some (.slice ao L.length cap)∧w.cell? ⟨B,1,none⟩ = some (.int .i64 σ.p.next)∧w.cell? ⟨B,2,none⟩ = some (.int .i64 σ.p.depth)∧w.cell? ⟨B,3,none⟩ = some (.int .i64 σ.p.proc)∧w.cell? ⟨B,4,none⟩ = some (.bool σ.p.failed)∧w.cell? ⟨B,5,none⟩ = some vN∧w.cell? ⟨B,6,none⟩ = some vC∧w.cell? ⟨B,7,none⟩ = some vS∧w.cell? ⟨B,8,none⟩ = some vD∧(∀ i,w.frozen? ⟨B,i,none⟩ = false):=by
 have hh:=h.blk
 refine ⟨?_,?_,?_,?_,?_,?_,?_,?_,?_,fun i=>?_⟩ <;> simp [World.cell?,World.frozen?,hh]
set_option maxRecDepth 100000 in
set_option maxHeartbeats 1000000 in
theorem s_ahead {B:Nat} {ao:Option Addr} {cap:Nat} {L:List Tk} {U:Nat} {σ:QSt} {vS:Value} (n:Nat) (w:World) (hL:L.length ≤ 500) (hn:n ≤ 1) (h:PS B ao cap L U σ vS w) :
    Calls Tryz.prog 207 #[.pointer (some ⟨B,0,none⟩),.int .i64 n] w fun e w'=>e = .returned (.agg #[.string (σ.p.ahead L n).t,.int .i64 (σ.p.ahead L n).p,.bool (isNameB (σ.p.ahead L n).t)])∧Below w.heap.size w w':=by
 obtain ⟨vN,vC,vD,h⟩:=h
 obtain ⟨c0,c1,c2,c3,c4,c5,c6,c7,c8,hf⟩:=h.cells
 have hle:=h.le
 have hlt:=h.lt
 have he:isNameB (⟨#[]⟩:ByteArray) = false:=isName_empty rfl
 cases hfl:σ.p.failed
 ·rw [hfl] at c4
  by_cases h2:σ.p.next + n < L.length
  ·obtain ⟨b,o,hb,hao,t1,t2,t3⟩:=h.tok (σ.p.next + n) h2
   subst hao
   have HA:=hide (ahead_in hfl h2)
   have g2:(σ.p.next:Int) + n < L.length:=by omega
   have hbw:b < w.heap.size:=by omega
   clear h hf
   go_enter Tryz.func207,Tryz.ntmps207
   go_wp2_with fail
   exact bodyPost_ret (v:=.agg #[.string L[σ.p.next + n].t,.int .i64 L[σ.p.next + n].p,.bool (isNameB L[σ.p.next + n].t)]) (by simp [results,Tryz.results207,go_sem]) rfl ⟨by rw [HA.out],(Below.refl _ _).alloc (Nat.le_refl _) _⟩
  ·have HA:=hide (ahead_out (σ:=σ.p) h2)
   have g2:(L.length:Int) ≤ (σ.p.next:Int) + n:=by omega
   clear h hf
   go_enter Tryz.func207,Tryz.ntmps207
   go_wp2_with fail
   exact bodyPost_ret (v:=.agg #[.string ⟨#[]⟩,.int .i64 0,.bool false]) (by simp [results,Tryz.results207,go_sem]) rfl ⟨by rw [HA.out]; show _ = Ending.returned (.agg #[.string ⟨#[]⟩,.int .i64 ((0:Nat):Int),.bool (isNameB ⟨#[]⟩)]); rw [he]; rfl,(Below.refl _ _).alloc (Nat.le_refl _) _⟩
 ·rw [hfl] at c4
  have HA:=hide (ahead_failed (L:=L) (n:=n) hfl)
  clear h hf
  go_enter Tryz.func207,Tryz.ntmps207
  go_wp2_with fail
  exact bodyPost_ret (v:=.agg #[.string ⟨#[]⟩,.int .i64 0,.bool false]) (by simp [results,Tryz.results207,go_sem]) rfl ⟨by rw [HA.out]; show _ = Ending.returned (.agg #[.string ⟨#[]⟩,.int .i64 ((0:Nat):Int),.bool (isNameB ⟨#[]⟩)]); rw [he]; rfl,(Below.refl _ _).alloc (Nat.le_refl _) _⟩
set_option maxHeartbeats 1000000 in
theorem s_sees {B:Nat} {ao:Option Addr} {cap:Nat} {L:List Tk} {U:Nat} {σ:QSt} {vS:Value} (t:ByteArray) (w:World) (hL:L.length ≤ 500) (h:PS B ao cap L U σ vS w) :
    Calls Tryz.prog 181 #[.pointer (some ⟨B,0,none⟩),.string t] w fun e w'=>e = .returned (.bool (σ.p.sees L t))∧Below w.heap.size w w':=by
 have HS:Hid (σ.p.sees L t = ((σ.p.ahead L 0).t.toList == t.toList)):=by show _ = _; unfold PSt.sees; rw [seq_comm]
 go_enter Tryz.func181,Tryz.ntmps181
 go_wp2_with fail
 refine (s_ahead 0 _ hL (by omega) h).mono ?_
 rintro e w1 ⟨rfl,hb1⟩
 go_wp2_with fail
 go_ret
 exact ⟨ret_bool HS.out.symm,hb1.alloc hb1.size _⟩
set_option maxHeartbeats 1000000 in
theorem s_seesCall {B:Nat} {ao:Option Addr} {cap:Nat} {L:List Tk} {U:Nat} {σ:QSt} {vS:Value} (w:World) (hL:L.length ≤ 500) (h:PS B ao cap L U σ vS w) :
    Calls Tryz.prog 228 #[.pointer (some ⟨B,0,none⟩)] w fun e w'=>e = .returned (.bool (σ.p.seesCall L))∧Below w.heap.size w w':=by
 have HS:Hid (σ.p.seesCall L = (isNameB (σ.p.ahead L 0).t && ((σ.p.ahead L 1).t.toList == [40]))):=by show _ = _; unfold PSt.seesCall; rw [lit_eq _ _ _ l40]
 go_enter Tryz.func228,Tryz.ntmps228
 go_wp2_with fail
 refine (s_ahead 0 _ hL (by omega) h).mono ?_
 rintro e w1 ⟨rfl,hb1⟩
 have hb1':∀ ob,Below w.heap.size w (w1.alloc ob):=fun ob=>hb1.alloc hb1.size ob
 have hz1:=hb1.size
 go_wp2_with fail
 refine (s_ahead 1 _ hL (by omega) (h.below (hb1' _))).mono ?_
 rintro e w2 ⟨rfl,hb2⟩
 have hx:=(hb2.cell (p:=⟨w1.heap.size,2,none⟩) (by simp))
 have hz2:=hb2.size
 simp at hx hz2
 have hz3:w1.heap.size < w2.heap.size:=by omega
 have hbel:=(hb1' _).trans (hb2.mono (by simp; omega))
 clear hb1'
 cases hN:isNameB (σ.p.ahead L 0).t
 ·rw [hN] at hx
  go_wp2_with fail
  go_ret
  exact ⟨ret_bool (by rw [HS.out,hN]; rfl),hbel.alloc hbel.size _⟩
 ·rw [hN] at hx
  go_wp2_with fail
  go_ret
  exact ⟨ret_bool (by rw [HS.out,hN]; rfl),hbel.alloc hbel.size _⟩
theorem ps_set {B:Nat} {ao:Option Addr} {cap:Nat} {L:List Tk} {U:Nat} {σ:QSt} {q:PSt} {vN vC vS vD:Value} {w:World} (h:PSx B ao cap L U σ vN vC vS vD w) (i:Nat) (v:Value)
    (hb:(#[.slice ao L.length cap,.int .i64 σ.p.next,.int .i64 σ.p.depth,.int .i64 σ.p.proc,.bool σ.p.failed,vN,vC,vS,vD]:Array Value).setIfInBounds i v = #[.slice ao L.length cap,.int .i64 q.next,.int .i64 q.depth,.int .i64 q.proc,.bool q.failed,vN,vC,vS,vD])
    (hn:q.names = σ.p.names) (hc:q.calls = σ.p.calls) (hle:q.next ≤ L.length) (hinv:Inv q):PS B ao cap L U (σ.setp q) vS (w.setCell ⟨B,i,none⟩ v)∧Kp B w (w.setCell ⟨B,i,none⟩ v):=by
 have hbel:Below B w (w.setCell ⟨B,i,none⟩ v):=(Below.refl _ _).setCell (p:=⟨B,i,none⟩) (Nat.le_refl B) _
 have kp:Kp B w (w.setCell ⟨B,i,none⟩ v):=⟨hbel,fun k c T f hk h1 _ _ _=>by
  have hne:k ≠ B:=by
   intro e
   subst e
   rw [h.blk] at hk
   simp at hk
   exact h1 hk.2.1.symm
  rw [Below.heap_setCell w ⟨B,i,none⟩ v k hne]; exact hk⟩
 refine ⟨⟨vN,vC,vD,?_,h.tok.below hbel,?_,?_,?_,h.st.kp kp,hle,hinv⟩,kp⟩
 ·rw [cts_set h.blk i v,hb]; rfl
 ·show World.ownsRow _ (B + 1) _ 4 vN q.names.length (nms q.names)
  rw [hn]; exact ownsRow_setCell_below h.nm (Nat.lt_succ_self B) v
 ·show World.ownsRow _ (B + 1) _ 3 vC q.calls.length (cls q.calls)
  rw [hc]; exact ownsRow_setCell_below h.cl (Nat.lt_succ_self B) v
 ·exact ownsRow_setCell_below h.nd (Nat.lt_succ_self B) v
theorem ps_fail {B:Nat} {ao:Option Addr} {cap:Nat} {L:List Tk} {U:Nat} {σ:QSt} {vN vC vS vD:Value} {w:World} (h:PSx B ao cap L U σ vN vC vS vD w):PS B ao cap L U (σ.setp σ.p.fail) vS (w.setCell ⟨B,4,none⟩ (.bool true))∧Kp B w (w.setCell ⟨B,4,none⟩ (.bool true)) :=
 ps_set h 4 _ rfl rfl rfl h.le (inv_fail h.inv)
theorem ps_step {B:Nat} {ao:Option Addr} {cap:Nat} {L:List Tk} {U:Nat} {σ:QSt} {vN vC vS vD:Value} {w:World} (h:PSx B ao cap L U σ vN vC vS vD w) (hlt:σ.p.next < L.length):PS B ao cap L U (σ.setp σ.p.step) vS (w.setCell ⟨B,1,none⟩ (.int .i64 ((σ.p.next:Int) + 1)))∧Kp B w (w.setCell ⟨B,1,none⟩ (.int .i64 ((σ.p.next:Int) + 1))) :=
 ps_set h 1 _ rfl rfl rfl hlt (inv_step h.inv)
set_option maxHeartbeats 1000000 in
theorem s_take {B:Nat} {ao:Option Addr} {cap:Nat} {L:List Tk} {U:Nat} {σ:QSt} {vS:Value} (t:ByteArray) (w:World) (hL:L.length ≤ 500) (ht:t ≠ ⟨#[]⟩) (h:PS B ao cap L U σ vS w) :
    Calls Tryz.prog 179 #[.pointer (some ⟨B,0,none⟩),.string t] w fun e w'=>e = .returned (.tuple #[])∧PS B ao cap L U (σ.setp (σ.p.take L t)) vS w'∧Kp B w w':=by
 have hle:=h.le
 have hlt:=h.lt
 cases hs:σ.p.sees L t
 ·have HT:Hid (σ.p.take L t = σ.p.fail):=by show _ = _; unfold PSt.take; rw [hs]; rfl
  go_enter Tryz.func179,Tryz.ntmps179
  go_wp2_with fail
  refine (s_sees t _ hL h).mono ?_
  rintro e w1 ⟨rfl,hb1⟩
  have h1:=h.below hb1
  obtain ⟨vN,vC,vD,h1⟩:=h1
  obtain ⟨c0,c1,c2,c3,c4,c5,c6,c7,c8,hf⟩:=h1.cells
  have f4:=hf 4
  clear hf
  go_wp2_with fail
  exact bodyPost_ret (v:=.tuple #[]) (by simp [results,Tryz.results179,go_sem]) rfl ⟨rfl,by rw [HT.out]; exact (ps_fail h1).1,(Kp.of_below hb1 (Nat.le_of_lt hlt)).trans (ps_fail h1).2⟩
 ·have HT:Hid (σ.p.take L t = σ.p.step):=by show _ = _; unfold PSt.take; rw [hs]; rfl
  have hnx:=(sees_lt ht hs).1
  go_enter Tryz.func179,Tryz.ntmps179
  go_wp2_with fail
  refine (s_sees t _ hL h).mono ?_
  rintro e w1 ⟨rfl,hb1⟩
  have h1:=h.below hb1
  obtain ⟨vN,vC,vD,h1⟩:=h1
  obtain ⟨c0,c1,c2,c3,c4,c5,c6,c7,c8,hf⟩:=h1.cells
  have f1:=hf 1
  clear hf
  go_wp2_with fail
  go_end0
  exact ⟨rfl,by rw [HT.out]; exact (ps_step h1 hnx).1,(Kp.of_below hb1 (Nat.le_of_lt hlt)).trans (ps_step h1 hnx).2⟩
set_option maxHeartbeats 1000000 in
theorem s_accept {B:Nat} {ao:Option Addr} {cap:Nat} {L:List Tk} {U:Nat} {σ:QSt} {vS:Value} (t:ByteArray) (w:World) (hL:L.length ≤ 500) (ht:t ≠ ⟨#[]⟩) (h:PS B ao cap L U σ vS w) :
    Calls Tryz.prog 177 #[.pointer (some ⟨B,0,none⟩),.string t] w fun e w'=>e = .returned (.bool (σ.p.sees L t))∧PS B ao cap L U (if σ.p.sees L t then σ.setp σ.p.step else σ) vS w'∧Kp B w w':=by
 have hle:=h.le
 have hlt:=h.lt
 cases hs:σ.p.sees L t
 ·go_enter Tryz.func177,Tryz.ntmps177
  go_wp2_with fail
  refine (s_sees t _ hL h).mono ?_
  rintro e w1 ⟨rfl,hb1⟩
  have h1:=h.below hb1
  go_wp2_with fail
  go_ret
  exact ⟨rfl,h1,Kp.of_below hb1 (Nat.le_of_lt hlt)⟩
 ·have hnx:=(sees_lt ht hs).1
  go_enter Tryz.func177,Tryz.ntmps177
  go_wp2_with fail
  refine (s_sees t _ hL h).mono ?_
  rintro e w1 ⟨rfl,hb1⟩
  have h1:=h.below hb1
  obtain ⟨vN,vC,vD,h1⟩:=h1
  obtain ⟨c0,c1,c2,c3,c4,c5,c6,c7,c8,hf⟩:=h1.cells
  have f1:=hf 1
  clear hf
  go_wp2_with fail
  go_ret
  exact ⟨rfl,(ps_step h1 hnx).1,(Kp.of_below hb1 (Nat.le_of_lt hlt)).trans (ps_step h1 hnx).2⟩
end Go.Proofs.YtmfcpbhdggonfaaGreatDoor
namespace Go.Proofs.YtmfcpbhdggonfaaGreatDoor
open Go.RowKit RR
theorem Tryz.infoNm:(Tryz.prog.info? 186).map (fun i=>(i.zero,i.size,i.bytes)) = some (some (.agg #[.string ⟨#[]⟩,.int .i64 0,.int .i64 0,.int .i64 0]),4,40):=by kernel_rfl
theorem nms_append (a b:List Nm):nms (a ++ b) = nms a ++ nms b:=by
 induction a with
 | nil=>rfl
 | cons t r ih=>show _ :: _ :: _ :: _ :: nms (r ++ b) = _; rw [ih]; rfl
theorem four_one {a b c d:Value} (h1:a.oneCell' = true) (h2:b.oneCell' = true) (h3:c.oneCell' = true) (h4:d.oneCell' = true):∀ u ∈ [a,b,c,d],u.oneCell' = true:=by
 intro u hu
 rcases List.mem_cons.1 hu with rfl | hu
 ·exact h1
 rcases List.mem_cons.1 hu with rfl | hu
 ·exact h2
 rcases List.mem_cons.1 hu with rfl | hu
 ·exact h3
 rcases List.mem_cons.1 hu with rfl | hu
 ·exact h4
 ·cases hu
theorem four_cells {w:World} {T:TypeId} {a b c d:Value}:∀ (j:Nat) (u:Value),[a,b,c,d][j]? = some u→(w.alloc (.cells #[a,b,c,d] T)).cell? ((⟨w.heap.size,0,none⟩:Addr).add j) = some u:=by
 intro j u hj
 have hh:(w.alloc (.cells #[a,b,c,d] T)).heap[w.heap.size]? = some (.cells #[a,b,c,d] T):=heap_alloc_new w _
 rw [addr_add]
 match j,hj with
 | 0,hj=>simp only [World.cell?,hh]; exact hj
 | 1,hj=>simp only [World.cell?,hh]; exact hj
 | 2,hj=>simp only [World.cell?,hh]; exact hj
 | 3,hj=>simp only [World.cell?,hh]; exact hj
theorem grow_block {w2 w3:World} {base:Nat} {e:TypeId} {size n:Nat} {v:Value} {xs:List Value} {o:Obj} (hown:w2.ownsRow base e size v n xs) (hg:(w2.alloc o).drew.grownBy w3 v.ownBlock) (k:Nat) (hk:k < w2.heap.size) (hne:k < base ∨ ∀ c T f,w2.heap[k]? = some (Obj.cells c T f)→T ≠ e):w3.heap[k]? = w2.heap[k]?:=by
 have h1:some k ≠ v.ownBlock:=by
  intro e1
  have hl:=hown.lt k e1.symm
  rcases hne with h | h
  ·omega
  ·rcases hown.2 with ⟨rfl,_⟩ | ⟨g,cap,cur,rfl,_,hh,_⟩
   ·simp [Value.ownBlock] at e1
   ·simp [Value.ownBlock] at e1
    subst e1
    exact h _ _ _ hh rfl
 have h2:=hg.block k (by show k < (w2.alloc o).heap.size; simp; omega) h1
 exact h2.trans (Below.heap_alloc w2 o k hk)
theorem ndc_append (a b:List Nd):ndc (a ++ b) = ndc a ++ ndc b:=by
 induction a with
 | nil=>rfl
 | cons t r ih=>show _ :: _ :: _ :: _ :: ndc (r ++ b) = _; rw [ih]; rfl
theorem grow_keep {w2 w3:World} {base:Nat} {e:TypeId} {size n:Nat} {v:Value} {xs:List Value} {o:Obj} (hown:w2.ownsRow base e size v n xs) (hg:(w2.alloc o).drew.grownBy w3 v.ownBlock) {base':Nat} {e':TypeId} {size' n':Nat} {v':Value} {xs':List Value} (h:w2.ownsRow base' e' size' v' n' xs') (hne:e' ≠ e):w3.ownsRow base' e' size' v' n' xs' :=
 owns_keep h (fun k c f hk _=>by
  rw [grow_block hown hg k (Array.getElem?_eq_some_iff.1 hk).1 (.inr fun c' T' f' e1=>by rw [hk] at e1; simp at e1; rw [← e1.2.1]; exact hne)]
  exact hk)
theorem grow_below {B:Nat} {w2 w3:World} {e:TypeId} {size n:Nat} {v:Value} {xs:List Value} {o:Obj} (hB:B < w2.heap.size) (hown:w2.ownsRow (B + 1) e size v n xs) (hg:(w2.alloc o).drew.grownBy w3 v.ownBlock):Below B w2 w3 :=
 ⟨hg.os,hg.tape,hg.output,Nat.le_trans (by simp) hg.size,fun k hk=>grow_block hown hg k (Nat.lt_trans hk hB) (.inl (by omega))⟩
theorem grow_kp {B:Nat} {w2 w3:World} {e:TypeId} {size n:Nat} {v:Value} {xs:List Value} {o:Obj} {cs:Array Value} (hblk:w2.heap[B]? = some (.cells cs 231 (0,0))) (hown:w2.ownsRow (B + 1) e size v n xs) (hg:(w2.alloc o).drew.grownBy w3 v.ownBlock) (he:e = 186 ∨ e = 286 ∨ e = 190) (i:Nat) (v':Value):Kp B w2 (w3.setCell ⟨B,i,none⟩ v'):=by
 have hB:=(Array.getElem?_eq_some_iff.1 hblk).1
 refine ⟨(grow_below hB hown hg).setCell (p:=⟨B,i,none⟩) (Nat.le_refl B) _,fun k c T f hk e1 e2 e3 e4=>?_⟩
 have hne:k ≠ B:=by
  intro e
  subst e
  rw [hblk] at hk
  simp at hk
  exact e1 hk.2.1.symm
 rw [Below.heap_setCell _ ⟨B,i,none⟩ _ k hne,grow_block hown hg k (Array.getElem?_eq_some_iff.1 hk).1 (.inr fun c' T' f' e5=>by
  rw [hk] at e5; simp at e5; rw [← e5.2.1]
  rcases he with rfl | rfl | rfl
  ·exact e2
  ·exact e3
  ·exact e4)]
 exact hk
theorem nd_fin {B:Nat} {ao:Option Addr} {cap:Nat} {L:List Tk} {U:Nat} {σ:QSt} {vN vC vS vD:Value} {w2 w3:World} {o:Obj} {n:Nd} {v':Value} (h2:PSx B ao cap L U σ vN vC vS vD w2)
    (hown3:w3.ownsRow (B + 1) 190 4 v' (σ.nds.length + 1) (ndc σ.nds ++ [.int .i64 n.sign,.int .i64 n.name,.int .i64 n.left,.int .i64 n.right])) (hgrow:(w2.alloc o).drew.grownBy w3 vD.ownBlock) :
    PSx B ao cap L U (σ.node n) vN vC vS v' (w3.setCell ⟨B,8,none⟩ v')∧Kp B w2 (w3.setCell ⟨B,8,none⟩ v'):=by
 have kp:=grow_kp h2.blk h2.nd hgrow (.inr (.inr rfl)) 8 v'
 have kB:=grow_block h2.nd hgrow B h2.lt (.inl (Nat.lt_succ_self B))
 refine ⟨⟨?_,h2.tok.below kp.bel,?_,?_,?_,h2.st.kp kp,h2.le,h2.inv⟩,kp⟩
 ·rw [cts_set (kB.trans h2.blk) 8 v']; rfl
 ·exact ownsRow_setCell_below (grow_keep h2.nd hgrow h2.nm (by decide)) (Nat.lt_succ_self B) _
 ·exact ownsRow_setCell_below (grow_keep h2.nd hgrow h2.cl (by decide)) (Nat.lt_succ_self B) _
 ·have h3:w3.ownsRow (B + 1) 190 4 v' (σ.nds ++ [n]).length (ndc (σ.nds ++ [n])):=by
    rw [ndc_append,List.length_append]; exact hown3
  exact ownsRow_setCell_below h3 (Nat.lt_succ_self B) _
theorem nm_fin {B:Nat} {ao:Option Addr} {cap:Nat} {L:List Tk} {U:Nat} {σ:QSt} {vN vC vS vD:Value} {w2 w3:World} {o:Obj} {t:ByteArray} {p role:Nat} {v':Value} (h2:PSx B ao cap L U σ vN vC vS vD w2) (hnx:σ.p.next < L.length)
    (hown3:w3.ownsRow (B + 1) 186 4 v' (σ.p.names.length + 1) (nms σ.p.names ++ [.string t,.int .i64 p,.int .i64 role,.int .i64 σ.p.proc])) (hgrow:(w2.alloc o).drew.grownBy w3 vN.ownBlock) :
    PSx B ao cap L U (σ.setp { σ.p with next:=σ.p.next + 1,names:=σ.p.names ++ [⟨t,p,role,σ.p.proc⟩] }) v' vC vS vD ((w3.setCell ⟨B,5,none⟩ v').setCell ⟨B,1,none⟩ (.int .i64 ((σ.p.next:Int) + 1)))∧Kp B w2 ((w3.setCell ⟨B,5,none⟩ v').setCell ⟨B,1,none⟩ (.int .i64 ((σ.p.next:Int) + 1))):=by
 have kp0:=grow_kp h2.blk h2.nm hgrow (.inl rfl) 5 v'
 have kB:=grow_block h2.nm hgrow B h2.lt (.inl (Nat.lt_succ_self B))
 have hblk:=cts_set (kB.trans h2.blk) 5 v'
 have kp:Kp B w2 ((w3.setCell ⟨B,5,none⟩ v').setCell ⟨B,1,none⟩ (.int .i64 ((σ.p.next:Int) + 1))):=by
  refine ⟨kp0.bel.setCell (p:=⟨B,1,none⟩) (Nat.le_refl B) _,fun k c T f hk e1 e2 e3 e4=>?_⟩
  have hne:k ≠ B:=by
   intro e
   subst e
   rw [h2.blk] at hk
   simp at hk
   exact e1 hk.2.1.symm
  rw [Below.heap_setCell _ ⟨B,1,none⟩ _ k hne]
  exact kp0.keep k c T f hk e1 e2 e3 e4
 refine ⟨⟨?_,h2.tok.below kp.bel,?_,?_,?_,h2.st.kp kp,hnx,inv_name h2.inv _⟩,kp⟩
 ·rw [cts_set hblk 1 _]; rfl
 ·have h3:w3.ownsRow (B + 1) 186 4 v' (σ.p.names ++ [(⟨t,p,role,σ.p.proc⟩:Nm)]).length (nms (σ.p.names ++ [(⟨t,p,role,σ.p.proc⟩:Nm)])):=by
    rw [nms_append,List.length_append]; exact hown3
  exact ownsRow_setCell_below (ownsRow_setCell_below h3 (Nat.lt_succ_self B) _) (Nat.lt_succ_self B) _
 ·exact ownsRow_setCell_below (ownsRow_setCell_below (grow_keep h2.nm hgrow h2.cl (by decide)) (Nat.lt_succ_self B) _) (Nat.lt_succ_self B) _
 ·exact ownsRow_setCell_below (ownsRow_setCell_below (grow_keep h2.nm hgrow h2.nd (by decide)) (Nat.lt_succ_self B) _) (Nat.lt_succ_self B) _
end Go.Proofs.YtmfcpbhdggonfaaGreatDoor
namespace Go.Proofs.YtmfcpbhdggonfaaGreatDoor
open Go.RowKit RR
theorem Tryz.infoSt:(Tryz.prog.info? 202).map (fun i=>(i.zero,i.size,i.bytes)) = some (some (.agg #[.int .i64 0,.int .i64 0,.int .i64 0,.int .i64 0,.bool false,.int .i64 0,.int .i64 0,.slice none 0 0]),8,80):=by kernel_rfl
structure Kp1 (B:Nat) (vS:Value) (w:World) (vS':Value) (w':World):Prop where
 bel:Below B w w'
 keep:∀ (k:Nat) (c:Array Value) (T:TypeId) (f:Nat × Nat),w.heap[k]? = some (Obj.cells c T f)→T ≠ 231→T ≠ 186→T ≠ 286→T ≠ 190→(T = 202→some k ≠ vS.ownBlock)→w'.heap[k]? = some (Obj.cells c T f)
 own:vS'.ownBlock = vS.ownBlock ∨ ∀ g,vS'.ownBlock = some g→w.heap.size ≤ g
theorem Kp.one {B:Nat} {w w':World} (h:Kp B w w') (vS:Value):Kp1 B vS w vS w':=⟨h.bel,fun k c T f h0 h1 h2 h3 h4 _=>h.keep k c T f h0 h1 h2 h3 h4,.inl rfl⟩
theorem Kp1.trans {B:Nat} {u v x:Value} {a b c:World} (h:Kp1 B u a v b) (k:Kp1 B v b x c):Kp1 B u a x c:=by
 have hsz:=h.bel.size
 refine ⟨h.bel.trans k.bel,fun n cs T f h0 h1 h2 h3 h4 h5=>?_,?_⟩
 ·refine k.keep n cs T f (h.keep n cs T f h0 h1 h2 h3 h4 h5) h1 h2 h3 h4 (fun e e2=>?_)
  rcases h.own with h6 | h6
  ·rw [h6] at e2; exact h5 e e2
  ·have:=h6 n e2.symm
   have:=(Array.getElem?_eq_some_iff.1 h0).1
   omega
 ·rcases k.own with k1 | k1
  ·rw [k1]; exact h.own
  ·exact .inr fun g hg=>by have:=k1 g hg; omega
theorem smc_append (a b:List (Stm × Value)):smc (a ++ b) = smc a ++ smc b:=by
 induction a with
 | nil=>rfl
 | cons t r ih=>show stc _ _ ++ smc (r ++ b) = (stc _ _ ++ smc r) ++ smc b; rw [ih,List.append_assoc]
theorem eight_one {a b c d e f g h:Value} (h1:a.oneCell' = true) (h2:b.oneCell' = true) (h3:c.oneCell' = true) (h4:d.oneCell' = true) (h5:e.oneCell' = true) (h6:f.oneCell' = true) (h7:g.oneCell' = true) (h8:h.oneCell' = true):∀ u ∈ [a,b,c,d,e,f,g,h],u.oneCell' = true:=by
 intro u hu
 simp only [List.mem_cons,List.mem_nil_iff,or_false] at hu
 rcases hu with rfl | rfl | rfl | rfl | rfl | rfl | rfl | rfl <;> assumption
theorem st_fin {B:Nat} {ao:Option Addr} {cap:Nat} {L:List Tk} {U:Nat} {σ:QSt} {vN vC vS vD:Value} {w2 w3:World} {o:Obj} {s:Stm} {vv:Value} {g cap':Nat} {l:List (Stm × Value)} (h2:PSx B ao cap L U σ vN vC vS vD w2) (hl:l.map Prod.fst = σ.sts) (hown:w2.ownsRow (B + 1) 202 8 vS l.length (smc l)) {U':Nat} (hU:U ≤ U') (hvs:∀ x ∈ l,w2.ownsRow 0 248 2 x.2 x.1.vals.length (exc x.1.vals)∧∀ g,x.2.ownBlock = some g→g < U) (hvv:w2.ownsRow 0 248 2 vv s.vals.length (exc s.vals)) (hvb:∀ g,vv.ownBlock = some g→g < U')
    (hown3:w3.ownsRow (B + 1) 202 8 (.slice (some ⟨g,0,none⟩) (l.length + 1) cap') (l.length + 1) (smc l ++ stc s vv)) (hgrow:(w2.alloc o).drew.grownBy w3 vS.ownBlock) (hat:vS.ownBlock = some g ∨ g = (w2.alloc o).drew.heap.size) :
    PSx B ao cap L U' (σ.add s) vN vC (.slice (some ⟨g,0,none⟩) (l.length + 1) cap') vD (w3.setCell ⟨B,7,none⟩ (.slice (some ⟨g,0,none⟩) (l.length + 1) cap'))∧Kp1 B vS w2 (.slice (some ⟨g,0,none⟩) (l.length + 1) cap') (w3.setCell ⟨B,7,none⟩ (.slice (some ⟨g,0,none⟩) (l.length + 1) cap')):=by
 have kB:=grow_block hown hgrow B h2.lt (.inl (Nat.lt_succ_self B))
 have kp:Kp1 B vS w2 (.slice (some ⟨g,0,none⟩) (l.length + 1) cap') (w3.setCell ⟨B,7,none⟩ (.slice (some ⟨g,0,none⟩) (l.length + 1) cap')):=by
  refine ⟨(grow_below h2.lt hown hgrow).setCell (p:=⟨B,7,none⟩) (Nat.le_refl B) _,fun k c T f hk e1 e2 e3 e4 e5=>?_,?_⟩
  ·have hne:k ≠ B:=by
     intro e
     subst e
     rw [h2.blk] at hk
     simp at hk
     exact e1 hk.2.1.symm
   have hkl:=(Array.getElem?_eq_some_iff.1 hk).1
   rw [Below.heap_setCell _ ⟨B,7,none⟩ _ k hne]
   by_cases eT:T = 202
   ·have h3:=hgrow.block k (by show k < (w2.alloc o).heap.size; simp; omega) (e5 eT)
    exact (h3.trans (Below.heap_alloc w2 o k hkl)).trans hk
   ·rw [grow_block hown hgrow k hkl (.inr fun c' T' f' e6=>by rw [hk] at e6; simp at e6; rw [← e6.2.1]; exact eT)]
    exact hk
  ·rcases hat with h | h
   ·exact .inl h.symm
   ·refine .inr fun g' hg'=>?_
    simp [Value.ownBlock] at hg'
    rw [← hg',h]
    show _ ≤ (w2.alloc o).heap.size
    simp
 have hexp:∀ (k:Nat) (c:Array Value) (f:Nat × Nat),w2.heap[k]? = some (Obj.cells c 248 f)→(w3.setCell ⟨B,7,none⟩ (.slice (some ⟨g,0,none⟩) (l.length + 1) cap')).heap[k]? = some (Obj.cells c 248 f):=fun k c f hk=>kp.keep k c _ f hk (by decide) (by decide) (by decide) (by decide) (fun e=>absurd e (by decide))
 refine ⟨⟨?_,h2.tok.below kp.bel,?_,?_,?_,⟨l ++ [(s,vv)],?_,?_,?_⟩,h2.le,h2.inv⟩,kp⟩
 ·rw [cts_set (kB.trans h2.blk) 7 _]; rfl
 ·exact ownsRow_setCell_below (grow_keep hown hgrow h2.nm (by decide)) (Nat.lt_succ_self B) _
 ·exact ownsRow_setCell_below (grow_keep hown hgrow h2.cl (by decide)) (Nat.lt_succ_self B) _
 ·exact ownsRow_setCell_below (grow_keep hown hgrow h2.nd (by decide)) (Nat.lt_succ_self B) _
 ·rw [List.map_append,hl]; rfl
 ·have h3:w3.ownsRow (B + 1) 202 8 (.slice (some ⟨g,0,none⟩) (l.length + 1) cap') (l ++ [(s,vv)]).length (smc (l ++ [(s,vv)])):=by
    rw [smc_append,List.length_append]
    have:smc [(s,vv)] = stc s vv:=by show stc s vv ++ [] = _; rw [List.append_nil]
    rw [this]; exact hown3
  exact ownsRow_setCell_below h3 (Nat.lt_succ_self B) _
 ·intro x hx
  rcases List.mem_append.1 hx with hx | hx
  ·exact ⟨owns_keep (hvs x hx).1 (fun k c f hk _=>hexp k c f hk),fun g hg=>Nat.lt_of_lt_of_le ((hvs x hx).2 g hg) hU⟩
  ·rw [List.mem_singleton.1 hx]
   exact ⟨owns_keep hvv (fun k c f hk _=>hexp k c f hk),hvb⟩
set_option maxRecDepth 100000 in
set_option maxHeartbeats 16000000 in
theorem s_add {B:Nat} {ao:Option Addr} {cap:Nat} {L:List Tk} {U:Nat} {σ:QSt} {vS:Value} (s:Stm) (va:Option Addr) (vn vc:Nat) (w:World) (hn:σ.sts.length ≤ 9000) (h:PS B ao cap L U σ vS w) (hvv:w.ownsRow 0 248 2 (.slice va vn vc) s.vals.length (exc s.vals)) {U':Nat} (hU:U ≤ U') (hvb:∀ g,(Value.slice va vn vc).ownBlock = some g→g < U') :
    Calls Tryz.prog 206 #[.pointer (some ⟨B,0,none⟩),.agg #[.int .i64 s.kind,.int .i64 s.at_,.int .i64 s.blk.proc,.int .i64 s.blk.owner,.bool s.blk.els,.int .i64 s.target,.int .i64 s.name,.slice va vn vc]] w fun e w'=>e = .returned (.int .i64 σ.sts.length)∧∃ vS',PS B ao cap L U' (σ.add s) vS' w'∧Kp1 B vS w vS' w':=by
 have hlt:=h.lt
 obtain ⟨i0,hi0,hz0,hz1,hz2⟩:=info_parts Tryz.infoSt
 have hb1:Below w.heap.size w (w.alloc (.cells #[.int .i64 s.kind,.int .i64 s.at_,.int .i64 s.blk.proc,.int .i64 s.blk.owner,.bool s.blk.els,.int .i64 s.target,.int .i64 s.name,.slice va vn vc] 202)):=(Below.refl _ _).alloc (Nat.le_refl _) _
 have h1:=h.below hb1
 have K1:=(Kp.of_below hb1 (Nat.le_of_lt hlt)).one vS
 have hvv2:=owns_below hvv hb1
 have hX:(w.alloc (.cells #[.int .i64 s.kind,.int .i64 s.at_,.int .i64 s.blk.proc,.int .i64 s.blk.owner,.bool s.blk.els,.int .i64 s.target,.int .i64 s.name,.slice va vn vc] 202)).heap[w.heap.size]? = some (.cells #[.int .i64 s.kind,.int .i64 s.at_,.int .i64 s.blk.proc,.int .i64 s.blk.owner,.bool s.blk.els,.int .i64 s.target,.int .i64 s.name,.slice va vn vc] 202 (0,0)):=heap_alloc_new w _
 go_enter Tryz.func206,Tryz.ntmps206
 go_wp2_with fail
 generalize w.alloc (.cells #[.int .i64 s.kind,.int .i64 s.at_,.int .i64 s.blk.proc,.int .i64 s.blk.owner,.bool s.blk.els,.int .i64 s.target,.int .i64 s.name,.slice va vn vc] 202) = w2 at *
 generalize w.heap.size = X at *
 obtain ⟨vN,vC,vD,h2⟩:=h1
 obtain ⟨c0,c1,c2,c3,c4,c5,c6,c7,c8,hf⟩:=h2.cells
 have f7:=hf 7
 have x0:w2.cell? ⟨X,0,none⟩ = some (.int .i64 s.kind):=by simp [World.cell?,hX]
 have x1:w2.cell? ⟨X,1,none⟩ = some (.int .i64 s.at_):=by simp [World.cell?,hX]
 have x2:w2.cell? ⟨X,2,none⟩ = some (.int .i64 s.blk.proc):=by simp [World.cell?,hX]
 have x3:w2.cell? ⟨X,3,none⟩ = some (.int .i64 s.blk.owner):=by simp [World.cell?,hX]
 have x4:w2.cell? ⟨X,4,none⟩ = some (.bool s.blk.els):=by simp [World.cell?,hX]
 have x5:w2.cell? ⟨X,5,none⟩ = some (.int .i64 s.target):=by simp [World.cell?,hX]
 have x6:w2.cell? ⟨X,6,none⟩ = some (.int .i64 s.name):=by simp [World.cell?,hX]
 have x7:w2.cell? ⟨X,7,none⟩ = some (.slice va vn vc):=by simp [World.cell?,hX]
 clear hf
 obtain ⟨l,el,hown,hvs⟩:=h2.st
 have ell:l.length = σ.sts.length:=by rw [← el]; simp
 have hzz:B < w2.heap.size:=h2.lt
 have hbw:B + 1 ≤ w2.heap.size:=hzz
 go_region_law (refine step_append_lies _ rfl (.tmp 9) (.tmp 11) 113 rfl (B + 1) 202 i0 (.agg #[.int .i64 0,.int .i64 0,.int .i64 0,.int .i64 0,.bool false,.int .i64 0,.int .i64 0,.slice none 0 0]) 8 80 Tryz.underlying113 hi0 hz0 hz1 hz2 rfl (by decide) vS l.length (smc l) rfl (by exact hown.alloc _) ⟨w2.heap.size,0,none⟩ 1 1 (stc s (.slice va vn vc)) rfl rfl (by exact World.news_of_block (heap_alloc_new w2 _)) (eight_one rfl rfl rfl rfl rfl rfl rfl rfl) (by decide) (by unfold maxLen; omega) (by omega) (by simp; omega) _ rfl ?_; intro g cap' w3 hown3 hgrow hat hg; have kB:=grow_block hown hgrow B hzz (.inl (Nat.lt_succ_self B)); have k7:w3.cell? ⟨B,7,none⟩ = some vS:=(World.cell?_of_block (w:=w2) kB).trans c7; have kf:w3.frozen? ⟨B,7,none⟩ = false:=(World.frozen?_of_block (w:=w2) kB).trans f7)
 all_goals
  have hfin:=st_fin (s:=s) h2 el hown hU hvs hvv2 hvb hown3 hgrow hat
  rw [ell] at hfin
  clear hown3 hgrow hat hg kB c0 c1 c2 c3 c4 c5 c6 c7 c8 x0 x1 x2 x3 x4 x5 x6 x7 hown hi0 hz0 hz1 hz2 hvs
  go_wp2_with fail
  go_ret
  exact ⟨ret_int (by omega),_,⟨_,_,_,hfin.1⟩,K1.trans hfin.2⟩
end Go.Proofs.YtmfcpbhdggonfaaGreatDoor
