/- The statement Worth, over what it calls. Laid by tools/genT.py. -/
import Derived.Test.YtmfcpbhdggonfaaGreatDoorMjAM
namespace Go.Proofs.YtmfcpbhdggonfaaGreatDoor
open Go.RowKit RR
theorem PcAt.ltW {P:Nat} {s:ByteArray} {v a:Bool} {w:World} (h:PcAt P s v a w):P < w.heap.size:=(Array.getElem?_eq_some_iff.1 h).1
theorem pc_allocW (w:World) (s:ByteArray) (v a:Bool):PcAt w.heap.size s v a (w.alloc (.cells #[.string (s),.bool v,.bool a] 60)):=heap_alloc_new _ _
theorem nmeW:NmE tW:=⟨by kernel_rfl,by kernel_rfl,by decide,by kernel_rfl,by decide,by decide,by decide,by decide,by decide,by decide,by decide⟩
theorem nmeX:NmE tX:=⟨by kernel_rfl,by kernel_rfl,by decide,by kernel_rfl,by decide,by decide,by decide,by decide,by decide,by decide,by decide⟩
theorem nmeY:NmE tY:=⟨by kernel_rfl,by kernel_rfl,by decide,by kernel_rfl,by decide,by decide,by decide,by decide,by decide,by decide,by decide⟩
theorem nmeA:NmE tA:=⟨by kernel_rfl,by kernel_rfl,by decide,by kernel_rfl,by decide,by decide,by decide,by decide,by decide,by decide,by decide⟩
theorem nmeB:NmE tBb:=⟨by kernel_rfl,by kernel_rfl,by decide,by kernel_rfl,by decide,by decide,by decide,by decide,by decide,by decide,by decide⟩
theorem nme0:∀ x ∈ ([]:List (ByteArray × Bool)),NmE x.1:=fun _ h=>by cases h
theorem nmeC {t:ByteArray} {b:Bool} {E:List (ByteArray × Bool)} (h:NmE t) (k:∀ x ∈ E,NmE x.1):∀ x ∈ (t,b) :: E,NmE x.1:=fun x hx=>by
 rcases List.mem_cons.1 hx with hx | hx
 ·rw [hx]; exact h
 ·exact k x hx
theorem cat3 (x y z:UInt8):((⟨#[x]⟩ ++ ⟨#[y]⟩:ByteArray) ++ ⟨#[z]⟩:ByteArray) = ⟨#[x,y,z]⟩:=by kernel_rfl
theorem cat4 (x y z a:UInt8):((⟨#[x,y,z]⟩:ByteArray) ++ ⟨#[a]⟩:ByteArray) = ⟨#[x,y,z,a]⟩:=by kernel_rfl
theorem cat5 (x y z a b:UInt8):((⟨#[x,y,z,a]⟩:ByteArray) ++ ⟨#[b]⟩:ByteArray) = ⟨#[x,y,z,a,b]⟩:=by kernel_rfl
theorem cat6 (x y z a b:UInt8):((⟨#[x,y,z,a,b]⟩:ByteArray) ++ ⟨#[97]⟩:ByteArray) = ⟨#[x,y,z,a,b,97]⟩:=by kernel_rfl
theorem cat7 (x y z a b:UInt8):((⟨#[x,y,z,a,b]⟩:ByteArray) ++ ⟨#[97,97]⟩:ByteArray) = ⟨#[x,y,z,a,b,97,97]⟩:=by kernel_rfl
theorem worth_text (z p q r a b:Pc):((((((((((((⟨#[115,104,97,114,101,100,32,119,44,32,120,44,32,121,44,32,122,59,32,112,114,111,99,32,102,40,97,44,32,98,41,32,123,32,114,101,116,117,114,110,32]⟩:ByteArray) ++ flat z.ps) ++ ⟨#[59,32,125,32,112,114,111,99,32,112,40,41,32,123,32,119,32,61,32]⟩) ++ flat p.ps) ++ ⟨#[59,32,120,32,61,32]⟩) ++ flat q.ps) ++ ⟨#[59,32,121,32,61,32]⟩) ++ flat r.ps) ++ ⟨#[59,32,122,32,61,32,102,40]⟩) ++ flat a.ps) ++ ⟨#[44,32]⟩) ++ flat b.ps) ++ ⟨#[41,59,32,125,32,116,104,114,101,97,100,115,32,112,59]⟩ = worthS z p q r a b:=by
 unfold worthS wPs
 rw [← List.append_assoc g1 [tRet,tB]]
 simp only [flat_app _ (_ ++ _),ByteArray.append_assoc]
 rw [show flat (g1 ++ [tRet,tB]) = ⟨#[115,104,97,114,101,100,32,119,44,32,120,44,32,121,44,32,122,59,32,112,114,111,99,32,102,40,97,44,32,98,41,32,123,32,114,101,116,117,114,110,32]⟩ by kernel_rfl,show flat g2 = ⟨#[59,32,125,32,112,114,111,99,32,112,40,41,32,123,32,119,32,61,32]⟩ by kernel_rfl,show flat g3 = ⟨#[59,32,120,32,61,32]⟩ by kernel_rfl,show flat g4 = ⟨#[59,32,121,32,61,32]⟩ by kernel_rfl,show flat (g5 ++ g6) = ⟨#[59,32,122,32,61,32,102,40]⟩ by kernel_rfl,show flat g7 = ⟨#[44,32]⟩ by kernel_rfl,show flat (g8 ++ g9) = ⟨#[41,59,32,125,32,116,104,114,101,97,100,115,32,112,59]⟩ by kernel_rfl]
theorem worth_tail (a b:List ByteArray):((((⟨#[122,32,61,32,102,40]⟩:ByteArray) ++ flat a) ++ ⟨#[44,32]⟩) ++ flat b) ++ ⟨#[41,59,32,125,32,116,104,114,101,97,100,115,32,112,59]⟩ = flat (wC a b):=by
 unfold wC
 simp only [flat_app _ (_ ++ _),ByteArray.append_assoc]
 rw [show flat g6 = ⟨#[122,32,61,32,102,40]⟩ by kernel_rfl,show flat g7 = ⟨#[44,32]⟩ by kernel_rfl,show flat (g8 ++ g9) = ⟨#[41,59,32,125,32,116,104,114,101,97,100,115,32,112,59]⟩ by kernel_rfl]
theorem worth_ge (z p q r a b:Pc):12 ≤ (worthS z p q r a b).size∧(flat (wC a.ps b.ps)).size ≤ (worthS z p q r a b).size:=by
 unfold worthS
 rw [wPs_at5,size_flat_app]
 refine ⟨?_,by omega⟩
 have:12 ≤ (flat (wC a.ps b.ps)).size:=by
  unfold wC
  simp only [flat_app _ (_ ++ _),ByteArray.size_append]
  have:(flat (g8 ++ g9)).size = 15:=by kernel_rfl
  omega
 omega
theorem txA {a b c:Bool} (X:ByteArray):bitF a ++ (bitF b ++ (bitF c ++ (bitF false ++ (⟨#[47,47]⟩ ++ X)))) = (((bitF a ++ bitF b) ++ bitF c) ++ ⟨#[48,47,47]⟩) ++ X:=by
 have e:bitF false ++ (⟨#[47,47]⟩ ++ X) = ⟨#[48,47,47]⟩ ++ X:=by rw [← ByteArray.append_assoc]; rfl
 rw [e]
 simp only [ByteArray.append_assoc]
theorem tx1 {a b c:Bool} (X:ByteArray):bitF a ++ (bitF b ++ (bitF c ++ (bitF false ++ (⟨#[47,47]⟩ ++ (X ++ ⟨#[58]⟩))))) = ((((bitF a ++ bitF b) ++ bitF c) ++ ⟨#[48,47,47]⟩) ++ X) ++ ⟨#[58]⟩:=by
 rw [txA]
 simp only [ByteArray.append_assoc]
theorem tx2 {a b c d e:Bool} (X Y:ByteArray):bitF a ++ (bitF b ++ (bitF c ++ (bitF false ++ (⟨#[47,47]⟩ ++ (X ++ (⟨#[58,44]⟩ ++ (Y ++ (⟨#[58]⟩ ++ (bitF d ++ bitF e))))))))) = ((((((((bitF a ++ bitF b) ++ bitF c) ++ ⟨#[48,47,47]⟩) ++ X) ++ ⟨#[58,44]⟩) ++ Y) ++ ⟨#[58]⟩) ++ bitF d) ++ bitF e:=by
 rw [txA]
 simp only [ByteArray.append_assoc]
theorem tx3 {a b c d:Bool} (X:ByteArray):bitF a ++ (bitF b ++ (bitF c ++ (bitF d ++ (⟨#[47,47]⟩ ++ (X ++ ⟨#[58]⟩))))) = (((((bitF a ++ bitF b) ++ bitF c) ++ bitF d) ++ ⟨#[47,47]⟩) ++ X) ++ ⟨#[58]⟩:=by simp only [ByteArray.append_assoc]
theorem tx4 {a b c d:Bool}:bitF a ++ (bitF b ++ (bitF c ++ (bitF d ++ ⟨#[47,47]⟩))) = (((bitF a ++ bitF b) ++ bitF c) ++ bitF d) ++ ⟨#[47,47]⟩:=by simp only [ByteArray.append_assoc]
def VwAt (V:Nat) (t e:ByteArray) (r d:Bool) (w:World):Prop:=w.heap[V]? = some (.cells #[.string t,.string e,.bool r,.bool d] 42 (0,0))
theorem VwAt.ltW {P:Nat} {s t:ByteArray} {v a:Bool} {w:World} (h:VwAt P s t v a w):P < w.heap.size:=(Array.getElem?_eq_some_iff.1 h).1
theorem VwAt.blw {P:Nat} {s t:ByteArray} {v a:Bool} {w w':World} (h:VwAt P s t v a w) (hb:Below w.heap.size w w'):VwAt P s t v a w':=(hb.block _ h.ltW).trans h
theorem PcAt.blw {P:Nat} {s:ByteArray} {v a:Bool} {w w':World} (h:PcAt P s v a w) (hb:Below w.heap.size w w'):PcAt P s v a w':=(hb.block _ h.ltW).trans h
theorem VwAt.alc {P:Nat} {s t:ByteArray} {v a:Bool} {w:World} (h:VwAt P s t v a w) (o:Obj):VwAt P s t v a (w.alloc o):=(Below.heap_alloc _ _ _ h.ltW).trans h
theorem PcAt.alc {P:Nat} {s:ByteArray} {v a:Bool} {w:World} (h:PcAt P s v a w) (o:Obj):PcAt P s v a (w.alloc o):=(Below.heap_alloc _ _ _ h.ltW).trans h
theorem vw_alloc (w:World) (t e:ByteArray) (r d:Bool):VwAt w.heap.size t e r d (w.alloc (.cells #[.string t,.string e,.bool r,.bool d] 42)):=heap_alloc_new _ _
theorem VwAt.cells {V:Nat} {t e:ByteArray} {r d:Bool} {w:World} (h:VwAt V t e r d w):w.cell? ⟨V,0,none⟩ = some (.string t)∧w.cell? ⟨V,1,none⟩ = some (.string e)∧w.cell? ⟨V,2,none⟩ = some (.bool r)∧w.cell? ⟨V,3,none⟩ = some (.bool d):=by
 unfold VwAt at h
 refine ⟨?_,?_,?_,?_⟩ <;> simp [World.cell?,h]
def PlaysTo (W:World) (tx s t e:ByteArray) (r d:Bool) (er at_:Int):Prop:=∀ w,Below W.heap.size W w→Calls Tryz.prog 22 #[.string tx,.string s] w fun en w'=>en = .returned (.tuple #[.agg #[.string t,.string e,.bool r,.bool d],.int .i64 er,.int .i64 at_])∧Below w.heap.size w w'
theorem plays_to {W:World} {P:Plan} {tx s t e:ByteArray} {r d:Bool} {er at_:Int} (h:PlayW_ W P tx) (hs:s.size ≤ 200) (he:playP P s = (⟨t,e,r,d⟩,er,at_)):PlaysTo W tx s t e r d er at_:=fun w hb=>by
 have:=h s hs w hb
 rw [he] at this
 exact this
theorem row_new {B:Nat} {w:World} {cs:Array Value} {TM:TypeId} (hB:w.heap[B]? = some (.cells cs TM (0,0))) (o:Nat) (xs:Array Value) (T:TypeId) (y:Value) :
    ((w.setCell ⟨B,o,none⟩ y).alloc (.cells xs T)).heap[B]? = some (.cells (cs.setIfInBounds o y) TM (0,0)) ∧
    ((w.setCell ⟨B,o,none⟩ y).alloc (.cells xs T)).heap[w.heap.size]? = some (.cells xs T (0,0)) ∧
    (∀ j,j < w.heap.size→j ≠ B→((w.setCell ⟨B,o,none⟩ y).alloc (.cells xs T)).heap[j]? = w.heap[j]?) ∧
    w.heap.size < ((w.setCell ⟨B,o,none⟩ y).alloc (.cells xs T)).heap.size ∧
    ∀ N,N ≤ w.heap.size→N ≤ B→Below N w ((w.setCell ⟨B,o,none⟩ y).alloc (.cells xs T)):=by
 have hlB:B < w.heap.size:=(Array.getElem?_eq_some_iff.1 hB).1
 have z1:(w.setCell ⟨B,o,none⟩ y).heap.size = w.heap.size:=by simp
 have z2:((w.setCell ⟨B,o,none⟩ y).alloc (.cells xs T)).heap.size = w.heap.size + 1:=by simp
 have al:∀ j,j < w.heap.size→((w.setCell ⟨B,o,none⟩ y).alloc (.cells xs T)).heap[j]? = (w.setCell ⟨B,o,none⟩ y).heap[j]?:=fun j h=>Below.heap_alloc _ _ _ (by omega)
 refine ⟨(al B hlB).trans (wset hB o y),?_,fun j hj hb=>(al j hj).trans (wset_ne _ _ _ _ _ hb),by omega,fun N h1 h2=>((Below.refl _ _).setCell (p:=⟨B,o,none⟩) h2 _).alloc (by omega) _⟩
 have:=heap_alloc_new (w.setCell ⟨B,o,none⟩ y) (.cells xs T)
 rw [z1] at this
 exact this
set_option maxRecDepth 100000 in
set_option maxHeartbeats 8000000 in
theorem k_Worth (W:World) (raw:ByteArray) (ch:Bool) (hMk:MakeW W raw ch) (hPl:∀ tx L τ,RunOk tx L τ→PlayW_ W (planF τ.p.names τ.sts τ.nds) tx) (hIt:ItoW W) :
    Calls Tryz.prog 13 #[.string raw,.bool ch] W fun e w'=>e = .returned (.bool true)∧Below W.heap.size W w':=by
 have HMK:=hide hMk
 have HPL:=hide hPl
 have HIT:=hide hIt
 clear hMk hPl hIt
 go_enter Tryz.func13,Tryz.ntmps13
 go_upto_region 2 with fail
 have hs1:=World.size_alloc W (.cells #[.string raw,.int .i64 0] 55)
 have hs2:=World.size_alloc (W.alloc (.cells #[.string raw,.int .i64 0] 55)) (.cells #[.pointer (some ⟨W.heap.size,0,none⟩),.slice none 0 0,.slice none 0 0,.bool ch] 58)
 have HF0:Hid (FeedAt W.heap.size raw 0 ((W.alloc (.cells #[.string raw,.int .i64 0] 55)).alloc (.cells #[.pointer (some ⟨W.heap.size,0,none⟩),.slice none 0 0,.slice none 0 0,.bool ch] 58))):=(Below.heap_alloc _ _ _ (by omega)).trans (heap_alloc_new _ _)
 have HM:Hid (MkAt W.heap.size (W.heap.size + 1) none none ([]:List (ByteArray × Bool)).length ch ((W.alloc (.cells #[.string raw,.int .i64 0] 55)).alloc (.cells #[.pointer (some ⟨W.heap.size,0,none⟩),.slice none 0 0,.slice none 0 0,.bool ch] 58))):=by have:=heap_alloc_new (W.alloc (.cells #[.string raw,.int .i64 0] 55)) (.cells #[.pointer (some ⟨W.heap.size,0,none⟩),.slice none 0 0,.slice none 0 0,.bool ch] 58); rw [hs1] at this; exact this
 have HBW:Hid (Below W.heap.size W ((W.alloc (.cells #[.string raw,.int .i64 0] 55)).alloc (.cells #[.pointer (some ⟨W.heap.size,0,none⟩),.slice none 0 0,.slice none 0 0,.bool ch] 58))):=((Below.refl _ _).alloc (Nat.le_refl _) _).alloc (by omega) _
 generalize (W.alloc (.cells #[.string raw,.int .i64 0] 55)).alloc (.cells #[.pointer (some ⟨W.heap.size,0,none⟩),.slice none 0 0,.slice none 0 0,.bool ch] 58) = w1 at *
 have hlF:W.heap.size < w1.heap.size:=by omega
 have hlB:W.heap.size + 1 < w1.heap.size:=by omega
 clear hs1 hs2
 have hBF:W.heap.size + 1 ≠ W.heap.size:=by omega
 have HNF:Hid (W.heap.size ≤ W.heap.size):=Nat.le_refl _
 have HNB:Hid (W.heap.size ≤ W.heap.size + 1):=Nat.le_succ _
 generalize hB_:W.heap.size + 1 = B at *
 clear hB_
 obtain ⟨F,HF_⟩:∃ F,Hid (F = W.heap.size):=⟨_,rfl⟩
 rw [← HF_.out] at hlF hBF HNF HF0 HM ⊢
 have HRW:Hid (MRow F [] none none w1):=fun h=>absurd h (by decide)
 have hNF:Hid (W.heap.size ≤ F):=Nat.le_of_eq HF_.out.symm
 have hi0:0 ≤ raw.size:=Nat.zero_le _
 clear HNF
 go_wp2_with fail
 have HEN:Hid (∀ x ∈ ([]:List (ByteArray × Bool)),NmE x.1):=nme0
 refine ((HMK.out F B [] none none hNF.out hBF (by simp) HEN.out).1 0 w1 hi0 HF0.out HM.out HRW.out).mono ?_
 rintro e w2 ⟨rfl,hF_,ka⟩
 have HEp:=hide (exp0_ok raw ch 0 HEN.out)
 have hi1:=exp0_in raw [] ch hi0
 clear HEN
 generalize exp0 raw [] ch 0 = fp at *
 obtain ⟨⟨pp,vp,bp⟩,i1⟩:=fp
 unfold pcV
 have hi1:i1 ≤ raw.size:=hi1
 have HZp:Hid ((flat pp).size ≤ 24):=by obtain ⟨_,r,_⟩:=HEp.out.is; exact r.size
 have hzp:=HZp.out
 have hF_:FeedAt F raw i1 w2:=hF_
 have HF1:=hide hF_
 have HM1:=hide (ka.mk_ hBF HM.out)
 have HRW1:=hide (ka.row HRW.out)
 have HBW1:=hide (HBW.out.trans ka.below)
 have hlF1:F < w2.heap.size:=Nat.lt_of_lt_of_le hlF ka.below.size
 have hlB1:B < w2.heap.size:=Nat.lt_of_lt_of_le hlB ka.below.size
 clear hF_ ka HF0 HM HRW HBW hlF hlB
 go_upto_region 3 with fail
 have hz_:=World.size_alloc w2 (.cells #[.string (flat pp),.bool vp,.bool bp] 60)
 have HX_:Hid (PcAt w2.heap.size (flat pp) vp bp (w2.alloc (.cells #[.string (flat pp),.bool vp,.bool bp] 60))):=pc_allocW _ _ _ _
 have ka:Kf W.heap.size F w2 (w2.alloc (.cells #[.string (flat pp),.bool vp,.bool bp] 60)):=Kf.alloc W.heap.size F w2 _ (by have:=HBW1.out.size; omega)
 have HF0:Hid (FeedAt F raw i1 (w2.alloc (.cells #[.string (flat pp),.bool vp,.bool bp] 60))):=(Below.heap_alloc _ _ _ hlF1).trans HF1.out
 generalize w2.alloc (.cells #[.string (flat pp),.bool vp,.bool bp] 60) = w3 at *
 have hBpF:w2.heap.size ≠ F:=by omega
 have hBpB:w2.heap.size ≠ B:=by omega
 have hBBp:B ≠ w2.heap.size:=by omega
 have HM:=hide (ka.mk_ hBF HM1.out)
 have HRW:=hide (ka.row HRW1.out)
 have HBW:=hide (HBW1.out.trans ka.below)
 have hlF:F < w3.heap.size:=by omega
 have hlB:B < w3.heap.size:=by omega
 clear ka hz_ HF1 HM1 HRW1 HBW1 hlF1 hlB1
 have HBp:=HX_
 clear HX_
 generalize w2.heap.size = Bp at *
 have HB_:Hid (w3.heap[B]? = some (.cells #[.pointer (some ⟨F,0,none⟩),.slice none 0 0,.slice none 0 0,.bool ch] 58 (0,0))):=HM.out
 clear HM HRW
 have m1:w3.cell? ⟨B,1,none⟩ = some (.slice none 0 0):=by have:=HB_.out; simp [World.cell?,this]
 have m3:w3.frozen? ⟨B,1,none⟩ = false:=by have:=HB_.out; simp [World.frozen?,this]
 go_upto_region 4 with fail
 clear m1 m3
 obtain ⟨r1,r2,r3,r4,r5⟩:=row_new HB_.out 1 #[.string ⟨#[119]⟩] 9 (.slice (some ⟨w3.heap.size,0,none⟩) 1 1)
 have HB1:Hid (((w3.setCell ⟨B,1,none⟩ (.slice (some ⟨w3.heap.size,0,none⟩) 1 1)).alloc (.cells #[.string ⟨#[119]⟩] 9)).heap[B]? = some (.cells #[.pointer (some ⟨F,0,none⟩),.slice (some ⟨w3.heap.size,0,none⟩) 1 1,.slice none 0 0,.bool ch] 58 (0,0))):=r1
 have hBW_:=HBW.out.trans (r5 W.heap.size HBW.out.size HNB.out)
 have HF1:Hid (FeedAt F raw i1 ((w3.setCell ⟨B,1,none⟩ (.slice (some ⟨w3.heap.size,0,none⟩) 1 1)).alloc (.cells #[.string ⟨#[119]⟩] 9))):=(r3 F hlF (Ne.symm hBF)).trans HF0.out
 have HN_Bp:Hid (PcAt Bp (flat pp) vp bp ((w3.setCell ⟨B,1,none⟩ (.slice (some ⟨w3.heap.size,0,none⟩) 1 1)).alloc (.cells #[.string ⟨#[119]⟩] 9))):=(r3 Bp HBp.out.ltW hBpB).trans HBp.out
 have HR_:=hide r2
 clear r1 r2 r3 r5
 generalize (w3.setCell ⟨B,1,none⟩ (.slice (some ⟨w3.heap.size,0,none⟩) 1 1)).alloc (.cells #[.string ⟨#[119]⟩] 9) = w4 at *
 have hR1F:w3.heap.size ≠ F:=by omega
 have hR1B:w3.heap.size ≠ B:=by omega
 have hlF1:F < w4.heap.size:=by omega
 have hlB1:B < w4.heap.size:=by omega
 have HBW1:=hide hBW_
 clear hBW_ r4 HB_ HBW HF0 hlF hlB HBp
 have HB_:=HB1
 have HBW:=HBW1
 have HF0:=HF1
 have hlF:=hlF1
 have hlB:=hlB1
 have HBp:=HN_Bp
 have HR1:=HR_
 clear HB1 HBW1 HF1 hlF1 hlB1 HR_ HN_Bp
 generalize w3.heap.size = R1 at *
 have m1:w4.cell? ⟨B,2,none⟩ = some (.slice none 0 0):=by have:=HB_.out; simp [World.cell?,this]
 have m3:w4.frozen? ⟨B,2,none⟩ = false:=by have:=HB_.out; simp [World.frozen?,this]
 have cp:=HBp.out.cells
 go_upto_region 5 with fail
 clear m1 m3 cp
 obtain ⟨r1,r2,r3,r4,r5⟩:=row_new HB_.out 2 #[.bool vp] 4 (.slice (some ⟨w4.heap.size,0,none⟩) 1 1)
 have HB1:Hid (((w4.setCell ⟨B,2,none⟩ (.slice (some ⟨w4.heap.size,0,none⟩) 1 1)).alloc (.cells #[.bool vp] 4)).heap[B]? = some (.cells #[.pointer (some ⟨F,0,none⟩),.slice (some ⟨R1,0,none⟩) 1 1,.slice (some ⟨w4.heap.size,0,none⟩) 1 1,.bool ch] 58 (0,0))):=r1
 have hBW_:=HBW.out.trans (r5 W.heap.size HBW.out.size HNB.out)
 have HF1:Hid (FeedAt F raw i1 ((w4.setCell ⟨B,2,none⟩ (.slice (some ⟨w4.heap.size,0,none⟩) 1 1)).alloc (.cells #[.bool vp] 4))):=(r3 F hlF (Ne.symm hBF)).trans HF0.out
 have HN_Bp:Hid (PcAt Bp (flat pp) vp bp ((w4.setCell ⟨B,2,none⟩ (.slice (some ⟨w4.heap.size,0,none⟩) 1 1)).alloc (.cells #[.bool vp] 4))):=(r3 Bp HBp.out.ltW hBpB).trans HBp.out
 have HN_R1:Hid (((w4.setCell ⟨B,2,none⟩ (.slice (some ⟨w4.heap.size,0,none⟩) 1 1)).alloc (.cells #[.bool vp] 4)).heap[R1]? = some (.cells #[.string ⟨#[119]⟩] 9 (0,0))):=(r3 R1 (Array.getElem?_eq_some_iff.1 HR1.out).1 hR1B).trans HR1.out
 have HR_:=hide r2
 clear r1 r2 r3 r5
 generalize (w4.setCell ⟨B,2,none⟩ (.slice (some ⟨w4.heap.size,0,none⟩) 1 1)).alloc (.cells #[.bool vp] 4) = w5 at *
 have hS1F:w4.heap.size ≠ F:=by omega
 have hS1B:w4.heap.size ≠ B:=by omega
 have hlF1:F < w5.heap.size:=by omega
 have hlB1:B < w5.heap.size:=by omega
 have HBW1:=hide hBW_
 clear hBW_ r4 HB_ HBW HF0 hlF hlB HBp HR1
 have HB_:=HB1
 have HBW:=HBW1
 have HF0:=HF1
 have hlF:=hlF1
 have hlB:=hlB1
 have HBp:=HN_Bp
 have HR1:=HN_R1
 have HS1:=HR_
 clear HB1 HBW1 HF1 hlF1 hlB1 HR_ HN_Bp HN_R1
 generalize w4.heap.size = S1 at *
 have HM:Hid (MkAt F B (some ⟨R1,0,none⟩) (some ⟨S1,0,none⟩) ([(tW,vp)]:List (ByteArray × Bool)).length ch w5):=HB_.out
 have HRW:Hid (MRow F [(tW,vp)] (some ⟨R1,0,none⟩) (some ⟨S1,0,none⟩) w5):=fun _=>⟨R1,S1,rfl,rfl,hR1F,hS1F,HR1.out,HS1.out⟩
 clear HB_ HR1 HS1
 go_wp2_with fail
 have HEN:Hid (∀ x ∈ ([(tW,vp)]:List (ByteArray × Bool)),NmE x.1):=nmeC nmeW (nme0)
 refine ((HMK.out F B [(tW,vp)] (some ⟨R1,0,none⟩) (some ⟨S1,0,none⟩) hNF.out hBF (by simp) HEN.out).1 i1 w5 hi1 HF0.out HM.out HRW.out).mono ?_
 rintro e w6 ⟨rfl,hF_,ka⟩
 have HEq:=hide (exp0_ok raw ch i1 HEN.out)
 have hi2:=exp0_in raw [(tW,vp)] ch hi1
 clear HEN
 generalize exp0 raw [(tW,vp)] ch i1 = fq at *
 obtain ⟨⟨pq,vq,bq⟩,i2⟩:=fq
 unfold pcV
 have hi2:i2 ≤ raw.size:=hi2
 have HZq:Hid ((flat pq).size ≤ 24):=by obtain ⟨_,r,_⟩:=HEq.out.is; exact r.size
 have hzq:=HZq.out
 have hF_:FeedAt F raw i2 w6:=hF_
 have HF1:=hide hF_
 have HM1:=hide (ka.mk_ hBF HM.out)
 have HRW1:=hide (ka.row HRW.out)
 have HBW1:=hide (HBW.out.trans ka.below)
 have hlF1:F < w6.heap.size:=Nat.lt_of_lt_of_le hlF ka.below.size
 have hlB1:B < w6.heap.size:=Nat.lt_of_lt_of_le hlB ka.below.size
 have HN_Bp:=hide (HBp.out.kf ka hBpF)
 clear hF_ ka HF0 HM HRW HBW hlF hlB HBp
 go_upto_region 6 with fail
 have hz_:=World.size_alloc w6 (.cells #[.string (flat pq),.bool vq,.bool bq] 60)
 have HX_:Hid (PcAt w6.heap.size (flat pq) vq bq (w6.alloc (.cells #[.string (flat pq),.bool vq,.bool bq] 60))):=pc_allocW _ _ _ _
 have ka:Kf W.heap.size F w6 (w6.alloc (.cells #[.string (flat pq),.bool vq,.bool bq] 60)):=Kf.alloc W.heap.size F w6 _ (by have:=HBW1.out.size; omega)
 have HF0:Hid (FeedAt F raw i2 (w6.alloc (.cells #[.string (flat pq),.bool vq,.bool bq] 60))):=(Below.heap_alloc _ _ _ hlF1).trans HF1.out
 have hl_Bp:=HN_Bp.out.ltW
 generalize w6.alloc (.cells #[.string (flat pq),.bool vq,.bool bq] 60) = w7 at *
 have hBqF:w6.heap.size ≠ F:=by omega
 have hBqB:w6.heap.size ≠ B:=by omega
 have hBBq:B ≠ w6.heap.size:=by omega
 have hBpBq:Bp ≠ w6.heap.size:=by omega
 have HM:=hide (ka.mk_ hBF HM1.out)
 have HRW:=hide (ka.row HRW1.out)
 have HBW:=hide (HBW1.out.trans ka.below)
 have hlF:F < w7.heap.size:=by omega
 have hlB:B < w7.heap.size:=by omega
 have HBp:=hide (HN_Bp.out.kf ka hBpF)
 clear ka hz_ HF1 HM1 HRW1 HBW1 hlF1 hlB1 HN_Bp hl_Bp
 have HBq:=HX_
 clear HX_
 generalize w6.heap.size = Bq at *
 have HB_:Hid (w7.heap[B]? = some (.cells #[.pointer (some ⟨F,0,none⟩),.slice (some ⟨R1,0,none⟩) 1 1,.slice (some ⟨S1,0,none⟩) 1 1,.bool ch] 58 (0,0))):=HM.out
 clear HM HRW
 have m1:w7.cell? ⟨B,1,none⟩ = some (.slice (some ⟨R1,0,none⟩) 1 1):=by have:=HB_.out; simp [World.cell?,this]
 have m3:w7.frozen? ⟨B,1,none⟩ = false:=by have:=HB_.out; simp [World.frozen?,this]
 go_upto_region 7 with fail
 clear m1 m3
 obtain ⟨r1,r2,r3,r4,r5⟩:=row_new HB_.out 1 #[.string ⟨#[119]⟩,.string ⟨#[120]⟩] 9 (.slice (some ⟨w7.heap.size,0,none⟩) 2 2)
 have HB1:Hid (((w7.setCell ⟨B,1,none⟩ (.slice (some ⟨w7.heap.size,0,none⟩) 2 2)).alloc (.cells #[.string ⟨#[119]⟩,.string ⟨#[120]⟩] 9)).heap[B]? = some (.cells #[.pointer (some ⟨F,0,none⟩),.slice (some ⟨w7.heap.size,0,none⟩) 2 2,.slice (some ⟨S1,0,none⟩) 1 1,.bool ch] 58 (0,0))):=r1
 have hBW_:=HBW.out.trans (r5 W.heap.size HBW.out.size HNB.out)
 have HF1:Hid (FeedAt F raw i2 ((w7.setCell ⟨B,1,none⟩ (.slice (some ⟨w7.heap.size,0,none⟩) 2 2)).alloc (.cells #[.string ⟨#[119]⟩,.string ⟨#[120]⟩] 9))):=(r3 F hlF (Ne.symm hBF)).trans HF0.out
 have HN_Bp:Hid (PcAt Bp (flat pp) vp bp ((w7.setCell ⟨B,1,none⟩ (.slice (some ⟨w7.heap.size,0,none⟩) 2 2)).alloc (.cells #[.string ⟨#[119]⟩,.string ⟨#[120]⟩] 9))):=(r3 Bp HBp.out.ltW hBpB).trans HBp.out
 have HN_Bq:Hid (PcAt Bq (flat pq) vq bq ((w7.setCell ⟨B,1,none⟩ (.slice (some ⟨w7.heap.size,0,none⟩) 2 2)).alloc (.cells #[.string ⟨#[119]⟩,.string ⟨#[120]⟩] 9))):=(r3 Bq HBq.out.ltW hBqB).trans HBq.out
 have HR_:=hide r2
 clear r1 r2 r3 r5
 generalize (w7.setCell ⟨B,1,none⟩ (.slice (some ⟨w7.heap.size,0,none⟩) 2 2)).alloc (.cells #[.string ⟨#[119]⟩,.string ⟨#[120]⟩] 9) = w8 at *
 have hR2F:w7.heap.size ≠ F:=by omega
 have hR2B:w7.heap.size ≠ B:=by omega
 have hlF1:F < w8.heap.size:=by omega
 have hlB1:B < w8.heap.size:=by omega
 have HBW1:=hide hBW_
 clear hBW_ r4 HB_ HBW HF0 hlF hlB HBp HBq
 have HB_:=HB1
 have HBW:=HBW1
 have HF0:=HF1
 have hlF:=hlF1
 have hlB:=hlB1
 have HBp:=HN_Bp
 have HBq:=HN_Bq
 have HR2:=HR_
 clear HB1 HBW1 HF1 hlF1 hlB1 HR_ HN_Bp HN_Bq
 generalize w7.heap.size = R2 at *
 have m1:w8.cell? ⟨B,2,none⟩ = some (.slice (some ⟨S1,0,none⟩) 1 1):=by have:=HB_.out; simp [World.cell?,this]
 have m3:w8.frozen? ⟨B,2,none⟩ = false:=by have:=HB_.out; simp [World.frozen?,this]
 have cp:=HBp.out.cells
 have cq:=HBq.out.cells
 go_upto_region 8 with fail
 clear m1 m3 cp cq
 obtain ⟨r1,r2,r3,r4,r5⟩:=row_new HB_.out 2 #[.bool vp,.bool vq] 4 (.slice (some ⟨w8.heap.size,0,none⟩) 2 2)
 have HB1:Hid (((w8.setCell ⟨B,2,none⟩ (.slice (some ⟨w8.heap.size,0,none⟩) 2 2)).alloc (.cells #[.bool vp,.bool vq] 4)).heap[B]? = some (.cells #[.pointer (some ⟨F,0,none⟩),.slice (some ⟨R2,0,none⟩) 2 2,.slice (some ⟨w8.heap.size,0,none⟩) 2 2,.bool ch] 58 (0,0))):=r1
 have hBW_:=HBW.out.trans (r5 W.heap.size HBW.out.size HNB.out)
 have HF1:Hid (FeedAt F raw i2 ((w8.setCell ⟨B,2,none⟩ (.slice (some ⟨w8.heap.size,0,none⟩) 2 2)).alloc (.cells #[.bool vp,.bool vq] 4))):=(r3 F hlF (Ne.symm hBF)).trans HF0.out
 have HN_Bp:Hid (PcAt Bp (flat pp) vp bp ((w8.setCell ⟨B,2,none⟩ (.slice (some ⟨w8.heap.size,0,none⟩) 2 2)).alloc (.cells #[.bool vp,.bool vq] 4))):=(r3 Bp HBp.out.ltW hBpB).trans HBp.out
 have HN_Bq:Hid (PcAt Bq (flat pq) vq bq ((w8.setCell ⟨B,2,none⟩ (.slice (some ⟨w8.heap.size,0,none⟩) 2 2)).alloc (.cells #[.bool vp,.bool vq] 4))):=(r3 Bq HBq.out.ltW hBqB).trans HBq.out
 have HN_R2:Hid (((w8.setCell ⟨B,2,none⟩ (.slice (some ⟨w8.heap.size,0,none⟩) 2 2)).alloc (.cells #[.bool vp,.bool vq] 4)).heap[R2]? = some (.cells #[.string ⟨#[119]⟩,.string ⟨#[120]⟩] 9 (0,0))):=(r3 R2 (Array.getElem?_eq_some_iff.1 HR2.out).1 hR2B).trans HR2.out
 have HR_:=hide r2
 clear r1 r2 r3 r5
 generalize (w8.setCell ⟨B,2,none⟩ (.slice (some ⟨w8.heap.size,0,none⟩) 2 2)).alloc (.cells #[.bool vp,.bool vq] 4) = w9 at *
 have hS2F:w8.heap.size ≠ F:=by omega
 have hS2B:w8.heap.size ≠ B:=by omega
 have hlF1:F < w9.heap.size:=by omega
 have hlB1:B < w9.heap.size:=by omega
 have HBW1:=hide hBW_
 clear hBW_ r4 HB_ HBW HF0 hlF hlB HBp HBq HR2
 have HB_:=HB1
 have HBW:=HBW1
 have HF0:=HF1
 have hlF:=hlF1
 have hlB:=hlB1
 have HBp:=HN_Bp
 have HBq:=HN_Bq
 have HR2:=HN_R2
 have HS2:=HR_
 clear HB1 HBW1 HF1 hlF1 hlB1 HR_ HN_Bp HN_Bq HN_R2
 generalize w8.heap.size = S2 at *
 have HM:Hid (MkAt F B (some ⟨R2,0,none⟩) (some ⟨S2,0,none⟩) ([(tW,vp),(tX,vq)]:List (ByteArray × Bool)).length ch w9):=HB_.out
 have HRW:Hid (MRow F [(tW,vp),(tX,vq)] (some ⟨R2,0,none⟩) (some ⟨S2,0,none⟩) w9):=fun _=>⟨R2,S2,rfl,rfl,hR2F,hS2F,HR2.out,HS2.out⟩
 clear HB_ HR2 HS2
 go_wp2_with fail
 have HEN:Hid (∀ x ∈ ([(tW,vp),(tX,vq)]:List (ByteArray × Bool)),NmE x.1):=nmeC nmeW (nmeC nmeX (nme0))
 refine ((HMK.out F B [(tW,vp),(tX,vq)] (some ⟨R2,0,none⟩) (some ⟨S2,0,none⟩) hNF.out hBF (by simp) HEN.out).1 i2 w9 hi2 HF0.out HM.out HRW.out).mono ?_
 rintro e w10 ⟨rfl,hF_,ka⟩
 have HEr:=hide (exp0_ok raw ch i2 HEN.out)
 have hi3:=exp0_in raw [(tW,vp),(tX,vq)] ch hi2
 clear HEN
 generalize exp0 raw [(tW,vp),(tX,vq)] ch i2 = fr at *
 obtain ⟨⟨pr,vr,br⟩,i3⟩:=fr
 unfold pcV
 have hi3:i3 ≤ raw.size:=hi3
 have HZr:Hid ((flat pr).size ≤ 24):=by obtain ⟨_,r,_⟩:=HEr.out.is; exact r.size
 have hzr:=HZr.out
 have hF_:FeedAt F raw i3 w10:=hF_
 have HF1:=hide hF_
 have HM1:=hide (ka.mk_ hBF HM.out)
 have HRW1:=hide (ka.row HRW.out)
 have HBW1:=hide (HBW.out.trans ka.below)
 have hlF1:F < w10.heap.size:=Nat.lt_of_lt_of_le hlF ka.below.size
 have hlB1:B < w10.heap.size:=Nat.lt_of_lt_of_le hlB ka.below.size
 have HN_Bp:=hide (HBp.out.kf ka hBpF)
 have HN_Bq:=hide (HBq.out.kf ka hBqF)
 clear hF_ ka HF0 HM HRW HBW hlF hlB HBp HBq
 go_upto_region 9 with fail
 have hz_:=World.size_alloc w10 (.cells #[.string (flat pr),.bool vr,.bool br] 60)
 have HX_:Hid (PcAt w10.heap.size (flat pr) vr br (w10.alloc (.cells #[.string (flat pr),.bool vr,.bool br] 60))):=pc_allocW _ _ _ _
 have ka:Kf W.heap.size F w10 (w10.alloc (.cells #[.string (flat pr),.bool vr,.bool br] 60)):=Kf.alloc W.heap.size F w10 _ (by have:=HBW1.out.size; omega)
 have HF0:Hid (FeedAt F raw i3 (w10.alloc (.cells #[.string (flat pr),.bool vr,.bool br] 60))):=(Below.heap_alloc _ _ _ hlF1).trans HF1.out
 have hl_Bp:=HN_Bp.out.ltW
 have hl_Bq:=HN_Bq.out.ltW
 generalize w10.alloc (.cells #[.string (flat pr),.bool vr,.bool br] 60) = w11 at *
 have hBrF:w10.heap.size ≠ F:=by omega
 have hBrB:w10.heap.size ≠ B:=by omega
 have hBBr:B ≠ w10.heap.size:=by omega
 have hBpBr:Bp ≠ w10.heap.size:=by omega
 have hBqBr:Bq ≠ w10.heap.size:=by omega
 have HM:=hide (ka.mk_ hBF HM1.out)
 have HRW:=hide (ka.row HRW1.out)
 have HBW:=hide (HBW1.out.trans ka.below)
 have hlF:F < w11.heap.size:=by omega
 have hlB:B < w11.heap.size:=by omega
 have HBp:=hide (HN_Bp.out.kf ka hBpF)
 have HBq:=hide (HN_Bq.out.kf ka hBqF)
 clear ka hz_ HF1 HM1 HRW1 HBW1 hlF1 hlB1 HN_Bp hl_Bp HN_Bq hl_Bq
 have HBr:=HX_
 clear HX_
 generalize w10.heap.size = Br at *
 have HB_:Hid (w11.heap[B]? = some (.cells #[.pointer (some ⟨F,0,none⟩),.slice (some ⟨R2,0,none⟩) 2 2,.slice (some ⟨S2,0,none⟩) 2 2,.bool ch] 58 (0,0))):=HM.out
 clear HM HRW
 have m1:w11.cell? ⟨B,1,none⟩ = some (.slice (some ⟨R2,0,none⟩) 2 2):=by have:=HB_.out; simp [World.cell?,this]
 have m3:w11.frozen? ⟨B,1,none⟩ = false:=by have:=HB_.out; simp [World.frozen?,this]
 go_upto_region 10 with fail
 clear m1 m3
 obtain ⟨r1,r2,r3,r4,r5⟩:=row_new HB_.out 1 #[.string ⟨#[119]⟩,.string ⟨#[120]⟩,.string ⟨#[121]⟩] 9 (.slice (some ⟨w11.heap.size,0,none⟩) 3 3)
 have HB1:Hid (((w11.setCell ⟨B,1,none⟩ (.slice (some ⟨w11.heap.size,0,none⟩) 3 3)).alloc (.cells #[.string ⟨#[119]⟩,.string ⟨#[120]⟩,.string ⟨#[121]⟩] 9)).heap[B]? = some (.cells #[.pointer (some ⟨F,0,none⟩),.slice (some ⟨w11.heap.size,0,none⟩) 3 3,.slice (some ⟨S2,0,none⟩) 2 2,.bool ch] 58 (0,0))):=r1
 have hBW_:=HBW.out.trans (r5 W.heap.size HBW.out.size HNB.out)
 have HF1:Hid (FeedAt F raw i3 ((w11.setCell ⟨B,1,none⟩ (.slice (some ⟨w11.heap.size,0,none⟩) 3 3)).alloc (.cells #[.string ⟨#[119]⟩,.string ⟨#[120]⟩,.string ⟨#[121]⟩] 9))):=(r3 F hlF (Ne.symm hBF)).trans HF0.out
 have HN_Bp:Hid (PcAt Bp (flat pp) vp bp ((w11.setCell ⟨B,1,none⟩ (.slice (some ⟨w11.heap.size,0,none⟩) 3 3)).alloc (.cells #[.string ⟨#[119]⟩,.string ⟨#[120]⟩,.string ⟨#[121]⟩] 9))):=(r3 Bp HBp.out.ltW hBpB).trans HBp.out
 have HN_Bq:Hid (PcAt Bq (flat pq) vq bq ((w11.setCell ⟨B,1,none⟩ (.slice (some ⟨w11.heap.size,0,none⟩) 3 3)).alloc (.cells #[.string ⟨#[119]⟩,.string ⟨#[120]⟩,.string ⟨#[121]⟩] 9))):=(r3 Bq HBq.out.ltW hBqB).trans HBq.out
 have HN_Br:Hid (PcAt Br (flat pr) vr br ((w11.setCell ⟨B,1,none⟩ (.slice (some ⟨w11.heap.size,0,none⟩) 3 3)).alloc (.cells #[.string ⟨#[119]⟩,.string ⟨#[120]⟩,.string ⟨#[121]⟩] 9))):=(r3 Br HBr.out.ltW hBrB).trans HBr.out
 have HR_:=hide r2
 clear r1 r2 r3 r5
 generalize (w11.setCell ⟨B,1,none⟩ (.slice (some ⟨w11.heap.size,0,none⟩) 3 3)).alloc (.cells #[.string ⟨#[119]⟩,.string ⟨#[120]⟩,.string ⟨#[121]⟩] 9) = w12 at *
 have hR3F:w11.heap.size ≠ F:=by omega
 have hR3B:w11.heap.size ≠ B:=by omega
 have hlF1:F < w12.heap.size:=by omega
 have hlB1:B < w12.heap.size:=by omega
 have HBW1:=hide hBW_
 clear hBW_ r4 HB_ HBW HF0 hlF hlB HBp HBq HBr
 have HB_:=HB1
 have HBW:=HBW1
 have HF0:=HF1
 have hlF:=hlF1
 have hlB:=hlB1
 have HBp:=HN_Bp
 have HBq:=HN_Bq
 have HBr:=HN_Br
 have HR3:=HR_
 clear HB1 HBW1 HF1 hlF1 hlB1 HR_ HN_Bp HN_Bq HN_Br
 generalize w11.heap.size = R3 at *
 have m1:w12.cell? ⟨B,2,none⟩ = some (.slice (some ⟨S2,0,none⟩) 2 2):=by have:=HB_.out; simp [World.cell?,this]
 have m3:w12.frozen? ⟨B,2,none⟩ = false:=by have:=HB_.out; simp [World.frozen?,this]
 have cp:=HBp.out.cells
 have cq:=HBq.out.cells
 have cr:=HBr.out.cells
 go_upto_region 11 with fail
 clear m1 m3 cp cq cr
 obtain ⟨r1,r2,r3,r4,r5⟩:=row_new HB_.out 2 #[.bool vp,.bool vq,.bool vr] 4 (.slice (some ⟨w12.heap.size,0,none⟩) 3 3)
 have HB1:Hid (((w12.setCell ⟨B,2,none⟩ (.slice (some ⟨w12.heap.size,0,none⟩) 3 3)).alloc (.cells #[.bool vp,.bool vq,.bool vr] 4)).heap[B]? = some (.cells #[.pointer (some ⟨F,0,none⟩),.slice (some ⟨R3,0,none⟩) 3 3,.slice (some ⟨w12.heap.size,0,none⟩) 3 3,.bool ch] 58 (0,0))):=r1
 have hBW_:=HBW.out.trans (r5 W.heap.size HBW.out.size HNB.out)
 have HF1:Hid (FeedAt F raw i3 ((w12.setCell ⟨B,2,none⟩ (.slice (some ⟨w12.heap.size,0,none⟩) 3 3)).alloc (.cells #[.bool vp,.bool vq,.bool vr] 4))):=(r3 F hlF (Ne.symm hBF)).trans HF0.out
 have HN_Bp:Hid (PcAt Bp (flat pp) vp bp ((w12.setCell ⟨B,2,none⟩ (.slice (some ⟨w12.heap.size,0,none⟩) 3 3)).alloc (.cells #[.bool vp,.bool vq,.bool vr] 4))):=(r3 Bp HBp.out.ltW hBpB).trans HBp.out
 have HN_Bq:Hid (PcAt Bq (flat pq) vq bq ((w12.setCell ⟨B,2,none⟩ (.slice (some ⟨w12.heap.size,0,none⟩) 3 3)).alloc (.cells #[.bool vp,.bool vq,.bool vr] 4))):=(r3 Bq HBq.out.ltW hBqB).trans HBq.out
 have HN_Br:Hid (PcAt Br (flat pr) vr br ((w12.setCell ⟨B,2,none⟩ (.slice (some ⟨w12.heap.size,0,none⟩) 3 3)).alloc (.cells #[.bool vp,.bool vq,.bool vr] 4))):=(r3 Br HBr.out.ltW hBrB).trans HBr.out
 have HN_R3:Hid (((w12.setCell ⟨B,2,none⟩ (.slice (some ⟨w12.heap.size,0,none⟩) 3 3)).alloc (.cells #[.bool vp,.bool vq,.bool vr] 4)).heap[R3]? = some (.cells #[.string ⟨#[119]⟩,.string ⟨#[120]⟩,.string ⟨#[121]⟩] 9 (0,0))):=(r3 R3 (Array.getElem?_eq_some_iff.1 HR3.out).1 hR3B).trans HR3.out
 have HR_:=hide r2
 clear r1 r2 r3 r5
 generalize (w12.setCell ⟨B,2,none⟩ (.slice (some ⟨w12.heap.size,0,none⟩) 3 3)).alloc (.cells #[.bool vp,.bool vq,.bool vr] 4) = w13 at *
 have hS3F:w12.heap.size ≠ F:=by omega
 have hS3B:w12.heap.size ≠ B:=by omega
 have hlF1:F < w13.heap.size:=by omega
 have hlB1:B < w13.heap.size:=by omega
 have HBW1:=hide hBW_
 clear hBW_ r4 HB_ HBW HF0 hlF hlB HBp HBq HBr HR3
 have HB_:=HB1
 have HBW:=HBW1
 have HF0:=HF1
 have hlF:=hlF1
 have hlB:=hlB1
 have HBp:=HN_Bp
 have HBq:=HN_Bq
 have HBr:=HN_Br
 have HR3:=HN_R3
 have HS3:=HR_
 clear HB1 HBW1 HF1 hlF1 hlB1 HR_ HN_Bp HN_Bq HN_Br HN_R3
 generalize w12.heap.size = S3 at *
 have HM:Hid (MkAt F B (some ⟨R3,0,none⟩) (some ⟨S3,0,none⟩) ([(tW,vp),(tX,vq),(tY,vr)]:List (ByteArray × Bool)).length ch w13):=HB_.out
 have HRW:Hid (MRow F [(tW,vp),(tX,vq),(tY,vr)] (some ⟨R3,0,none⟩) (some ⟨S3,0,none⟩) w13):=fun _=>⟨R3,S3,rfl,rfl,hR3F,hS3F,HR3.out,HS3.out⟩
 clear HB_ HR3 HS3
 go_wp2_with fail
 have HEN:Hid (∀ x ∈ ([(tW,vp),(tX,vq),(tY,vr)]:List (ByteArray × Bool)),NmE x.1):=nmeC nmeW (nmeC nmeX (nmeC nmeY (nme0)))
 refine ((HMK.out F B [(tW,vp),(tX,vq),(tY,vr)] (some ⟨R3,0,none⟩) (some ⟨S3,0,none⟩) hNF.out hBF (by simp) HEN.out).2 i3 w13 hi3 HF0.out HM.out HRW.out).mono ?_
 rintro e w14 ⟨rfl,hF_,ka⟩
 have HEa:=hide (exp1_ok raw ch i3 HEN.out)
 have hi4:=exp1_in raw [(tW,vp),(tX,vq),(tY,vr)] ch hi3
 clear HEN
 generalize exp1 raw [(tW,vp),(tX,vq),(tY,vr)] ch i3 = fa at *
 obtain ⟨⟨pa,va,ba⟩,i4⟩:=fa
 unfold pcV
 have hi4:i4 ≤ raw.size:=hi4
 have HZa:Hid ((flat pa).size ≤ 87):=by obtain ⟨_,r,_⟩:=HEa.out.is; exact r.size
 have hza:=HZa.out
 have hF_:FeedAt F raw i4 w14:=hF_
 have HF1:=hide hF_
 have HM1:=hide (ka.mk_ hBF HM.out)
 have HRW1:=hide (ka.row HRW.out)
 have HBW1:=hide (HBW.out.trans ka.below)
 have hlF1:F < w14.heap.size:=Nat.lt_of_lt_of_le hlF ka.below.size
 have hlB1:B < w14.heap.size:=Nat.lt_of_lt_of_le hlB ka.below.size
 have HN_Bp:=hide (HBp.out.kf ka hBpF)
 have HN_Bq:=hide (HBq.out.kf ka hBqF)
 have HN_Br:=hide (HBr.out.kf ka hBrF)
 clear hF_ ka HF0 HM HRW HBW hlF hlB HBp HBq HBr
 go_upto_region 12 with fail
 have hz_:=World.size_alloc w14 (.cells #[.string (flat pa),.bool va,.bool ba] 60)
 have HX_:Hid (PcAt w14.heap.size (flat pa) va ba (w14.alloc (.cells #[.string (flat pa),.bool va,.bool ba] 60))):=pc_allocW _ _ _ _
 have ka:Kf W.heap.size F w14 (w14.alloc (.cells #[.string (flat pa),.bool va,.bool ba] 60)):=Kf.alloc W.heap.size F w14 _ (by have:=HBW1.out.size; omega)
 have HF0:Hid (FeedAt F raw i4 (w14.alloc (.cells #[.string (flat pa),.bool va,.bool ba] 60))):=(Below.heap_alloc _ _ _ hlF1).trans HF1.out
 have hl_Bp:=HN_Bp.out.ltW
 have hl_Bq:=HN_Bq.out.ltW
 have hl_Br:=HN_Br.out.ltW
 generalize w14.alloc (.cells #[.string (flat pa),.bool va,.bool ba] 60) = w15 at *
 have hBaF:w14.heap.size ≠ F:=by omega
 have hBaB:w14.heap.size ≠ B:=by omega
 have hBBa:B ≠ w14.heap.size:=by omega
 have hBpBa:Bp ≠ w14.heap.size:=by omega
 have hBqBa:Bq ≠ w14.heap.size:=by omega
 have hBrBa:Br ≠ w14.heap.size:=by omega
 have HM:=hide (ka.mk_ hBF HM1.out)
 have HRW:=hide (ka.row HRW1.out)
 have HBW:=hide (HBW1.out.trans ka.below)
 have hlF:F < w15.heap.size:=by omega
 have hlB:B < w15.heap.size:=by omega
 have HBp:=hide (HN_Bp.out.kf ka hBpF)
 have HBq:=hide (HN_Bq.out.kf ka hBqF)
 have HBr:=hide (HN_Br.out.kf ka hBrF)
 clear ka hz_ HF1 HM1 HRW1 HBW1 hlF1 hlB1 HN_Bp hl_Bp HN_Bq hl_Bq HN_Br hl_Br
 have HBa:=HX_
 clear HX_
 generalize w14.heap.size = Ba at *
 go_wp2_with fail
 have HEN:Hid (∀ x ∈ ([(tW,vp),(tX,vq),(tY,vr)]:List (ByteArray × Bool)),NmE x.1):=nmeC nmeW (nmeC nmeX (nmeC nmeY (nme0)))
 refine ((HMK.out F B [(tW,vp),(tX,vq),(tY,vr)] (some ⟨R3,0,none⟩) (some ⟨S3,0,none⟩) hNF.out hBF (by simp) HEN.out).1 i4 w15 hi4 HF0.out HM.out HRW.out).mono ?_
 rintro e w16 ⟨rfl,hF_,ka⟩
 have HEb:=hide (exp0_ok raw ch i4 HEN.out)
 have hi5:=exp0_in raw [(tW,vp),(tX,vq),(tY,vr)] ch hi4
 clear HEN
 generalize exp0 raw [(tW,vp),(tX,vq),(tY,vr)] ch i4 = fb at *
 obtain ⟨⟨pb,vb,bb⟩,i5⟩:=fb
 unfold pcV
 have hi5:i5 ≤ raw.size:=hi5
 have HZb:Hid ((flat pb).size ≤ 24):=by obtain ⟨_,r,_⟩:=HEb.out.is; exact r.size
 have hzb:=HZb.out
 have hF_:FeedAt F raw i5 w16:=hF_
 have HF1:=hide hF_
 have HM1:=hide (ka.mk_ hBF HM.out)
 have HRW1:=hide (ka.row HRW.out)
 have HBW1:=hide (HBW.out.trans ka.below)
 have hlF1:F < w16.heap.size:=Nat.lt_of_lt_of_le hlF ka.below.size
 have hlB1:B < w16.heap.size:=Nat.lt_of_lt_of_le hlB ka.below.size
 have HN_Bp:=hide (HBp.out.kf ka hBpF)
 have HN_Bq:=hide (HBq.out.kf ka hBqF)
 have HN_Br:=hide (HBr.out.kf ka hBrF)
 have HN_Ba:=hide (HBa.out.kf ka hBaF)
 clear hF_ ka HF0 HM HRW HBW hlF hlB HBp HBq HBr HBa
 go_upto_region 13 with fail
 have hz_:=World.size_alloc w16 (.cells #[.string (flat pb),.bool vb,.bool bb] 60)
 have HX_:Hid (PcAt w16.heap.size (flat pb) vb bb (w16.alloc (.cells #[.string (flat pb),.bool vb,.bool bb] 60))):=pc_allocW _ _ _ _
 have ka:Kf W.heap.size F w16 (w16.alloc (.cells #[.string (flat pb),.bool vb,.bool bb] 60)):=Kf.alloc W.heap.size F w16 _ (by have:=HBW1.out.size; omega)
 have HF0:Hid (FeedAt F raw i5 (w16.alloc (.cells #[.string (flat pb),.bool vb,.bool bb] 60))):=(Below.heap_alloc _ _ _ hlF1).trans HF1.out
 have hl_Bp:=HN_Bp.out.ltW
 have hl_Bq:=HN_Bq.out.ltW
 have hl_Br:=HN_Br.out.ltW
 have hl_Ba:=HN_Ba.out.ltW
 generalize w16.alloc (.cells #[.string (flat pb),.bool vb,.bool bb] 60) = w17 at *
 have hBbF:w16.heap.size ≠ F:=by omega
 have hBbB:w16.heap.size ≠ B:=by omega
 have hBBb:B ≠ w16.heap.size:=by omega
 have hBpBb:Bp ≠ w16.heap.size:=by omega
 have hBqBb:Bq ≠ w16.heap.size:=by omega
 have hBrBb:Br ≠ w16.heap.size:=by omega
 have hBaBb:Ba ≠ w16.heap.size:=by omega
 have HM:=hide (ka.mk_ hBF HM1.out)
 have HRW:=hide (ka.row HRW1.out)
 have HBW:=hide (HBW1.out.trans ka.below)
 have hlF:F < w17.heap.size:=by omega
 have hlB:B < w17.heap.size:=by omega
 have HBp:=hide (HN_Bp.out.kf ka hBpF)
 have HBq:=hide (HN_Bq.out.kf ka hBqF)
 have HBr:=hide (HN_Br.out.kf ka hBrF)
 have HBa:=hide (HN_Ba.out.kf ka hBaF)
 clear ka hz_ HF1 HM1 HRW1 HBW1 hlF1 hlB1 HN_Bp hl_Bp HN_Bq hl_Bq HN_Br hl_Br HN_Ba hl_Ba
 have HBb:=HX_
 clear HX_
 generalize w16.heap.size = Bb at *
 have HB_:Hid (w17.heap[B]? = some (.cells #[.pointer (some ⟨F,0,none⟩),.slice (some ⟨R3,0,none⟩) 3 3,.slice (some ⟨S3,0,none⟩) 3 3,.bool ch] 58 (0,0))):=HM.out
 clear HM HRW
 have m1:w17.cell? ⟨B,1,none⟩ = some (.slice (some ⟨R3,0,none⟩) 3 3):=by have:=HB_.out; simp [World.cell?,this]
 have m3:w17.frozen? ⟨B,1,none⟩ = false:=by have:=HB_.out; simp [World.frozen?,this]
 go_upto_region 14 with fail
 clear m1 m3
 obtain ⟨r1,r2,r3,r4,r5⟩:=row_new HB_.out 1 #[.string ⟨#[119]⟩,.string ⟨#[120]⟩,.string ⟨#[121]⟩,.string ⟨#[97]⟩,.string ⟨#[98]⟩] 9 (.slice (some ⟨w17.heap.size,0,none⟩) 5 5)
 have HB1:Hid (((w17.setCell ⟨B,1,none⟩ (.slice (some ⟨w17.heap.size,0,none⟩) 5 5)).alloc (.cells #[.string ⟨#[119]⟩,.string ⟨#[120]⟩,.string ⟨#[121]⟩,.string ⟨#[97]⟩,.string ⟨#[98]⟩] 9)).heap[B]? = some (.cells #[.pointer (some ⟨F,0,none⟩),.slice (some ⟨w17.heap.size,0,none⟩) 5 5,.slice (some ⟨S3,0,none⟩) 3 3,.bool ch] 58 (0,0))):=r1
 have hBW_:=HBW.out.trans (r5 W.heap.size HBW.out.size HNB.out)
 have HF1:Hid (FeedAt F raw i5 ((w17.setCell ⟨B,1,none⟩ (.slice (some ⟨w17.heap.size,0,none⟩) 5 5)).alloc (.cells #[.string ⟨#[119]⟩,.string ⟨#[120]⟩,.string ⟨#[121]⟩,.string ⟨#[97]⟩,.string ⟨#[98]⟩] 9))):=(r3 F hlF (Ne.symm hBF)).trans HF0.out
 have HN_Bp:Hid (PcAt Bp (flat pp) vp bp ((w17.setCell ⟨B,1,none⟩ (.slice (some ⟨w17.heap.size,0,none⟩) 5 5)).alloc (.cells #[.string ⟨#[119]⟩,.string ⟨#[120]⟩,.string ⟨#[121]⟩,.string ⟨#[97]⟩,.string ⟨#[98]⟩] 9))):=(r3 Bp HBp.out.ltW hBpB).trans HBp.out
 have HN_Bq:Hid (PcAt Bq (flat pq) vq bq ((w17.setCell ⟨B,1,none⟩ (.slice (some ⟨w17.heap.size,0,none⟩) 5 5)).alloc (.cells #[.string ⟨#[119]⟩,.string ⟨#[120]⟩,.string ⟨#[121]⟩,.string ⟨#[97]⟩,.string ⟨#[98]⟩] 9))):=(r3 Bq HBq.out.ltW hBqB).trans HBq.out
 have HN_Br:Hid (PcAt Br (flat pr) vr br ((w17.setCell ⟨B,1,none⟩ (.slice (some ⟨w17.heap.size,0,none⟩) 5 5)).alloc (.cells #[.string ⟨#[119]⟩,.string ⟨#[120]⟩,.string ⟨#[121]⟩,.string ⟨#[97]⟩,.string ⟨#[98]⟩] 9))):=(r3 Br HBr.out.ltW hBrB).trans HBr.out
 have HN_Ba:Hid (PcAt Ba (flat pa) va ba ((w17.setCell ⟨B,1,none⟩ (.slice (some ⟨w17.heap.size,0,none⟩) 5 5)).alloc (.cells #[.string ⟨#[119]⟩,.string ⟨#[120]⟩,.string ⟨#[121]⟩,.string ⟨#[97]⟩,.string ⟨#[98]⟩] 9))):=(r3 Ba HBa.out.ltW hBaB).trans HBa.out
 have HN_Bb:Hid (PcAt Bb (flat pb) vb bb ((w17.setCell ⟨B,1,none⟩ (.slice (some ⟨w17.heap.size,0,none⟩) 5 5)).alloc (.cells #[.string ⟨#[119]⟩,.string ⟨#[120]⟩,.string ⟨#[121]⟩,.string ⟨#[97]⟩,.string ⟨#[98]⟩] 9))):=(r3 Bb HBb.out.ltW hBbB).trans HBb.out
 have HR_:=hide r2
 clear r1 r2 r3 r5
 generalize (w17.setCell ⟨B,1,none⟩ (.slice (some ⟨w17.heap.size,0,none⟩) 5 5)).alloc (.cells #[.string ⟨#[119]⟩,.string ⟨#[120]⟩,.string ⟨#[121]⟩,.string ⟨#[97]⟩,.string ⟨#[98]⟩] 9) = w18 at *
 have hR4F:w17.heap.size ≠ F:=by omega
 have hR4B:w17.heap.size ≠ B:=by omega
 have hlF1:F < w18.heap.size:=by omega
 have hlB1:B < w18.heap.size:=by omega
 have HBW1:=hide hBW_
 clear hBW_ r4 HB_ HBW HF0 hlF hlB HBp HBq HBr HBa HBb
 have HB_:=HB1
 have HBW:=HBW1
 have HF0:=HF1
 have hlF:=hlF1
 have hlB:=hlB1
 have HBp:=HN_Bp
 have HBq:=HN_Bq
 have HBr:=HN_Br
 have HBa:=HN_Ba
 have HBb:=HN_Bb
 have HR4:=HR_
 clear HB1 HBW1 HF1 hlF1 hlB1 HR_ HN_Bp HN_Bq HN_Br HN_Ba HN_Bb
 generalize w17.heap.size = R4 at *
 have m1:w18.cell? ⟨B,2,none⟩ = some (.slice (some ⟨S3,0,none⟩) 3 3):=by have:=HB_.out; simp [World.cell?,this]
 have m3:w18.frozen? ⟨B,2,none⟩ = false:=by have:=HB_.out; simp [World.frozen?,this]
 have cp:=HBp.out.cells
 have cq:=HBq.out.cells
 have cr:=HBr.out.cells
 have ca:=HBa.out.cells
 have cb:=HBb.out.cells
 go_upto_region 15 with fail
 clear m1 m3 cp cq cr ca cb
 obtain ⟨r1,r2,r3,r4,r5⟩:=row_new HB_.out 2 #[.bool vp,.bool vq,.bool vr,.bool va,.bool vb] 4 (.slice (some ⟨w18.heap.size,0,none⟩) 5 5)
 have HB1:Hid (((w18.setCell ⟨B,2,none⟩ (.slice (some ⟨w18.heap.size,0,none⟩) 5 5)).alloc (.cells #[.bool vp,.bool vq,.bool vr,.bool va,.bool vb] 4)).heap[B]? = some (.cells #[.pointer (some ⟨F,0,none⟩),.slice (some ⟨R4,0,none⟩) 5 5,.slice (some ⟨w18.heap.size,0,none⟩) 5 5,.bool ch] 58 (0,0))):=r1
 have hBW_:=HBW.out.trans (r5 W.heap.size HBW.out.size HNB.out)
 have HF1:Hid (FeedAt F raw i5 ((w18.setCell ⟨B,2,none⟩ (.slice (some ⟨w18.heap.size,0,none⟩) 5 5)).alloc (.cells #[.bool vp,.bool vq,.bool vr,.bool va,.bool vb] 4))):=(r3 F hlF (Ne.symm hBF)).trans HF0.out
 have HN_Bp:Hid (PcAt Bp (flat pp) vp bp ((w18.setCell ⟨B,2,none⟩ (.slice (some ⟨w18.heap.size,0,none⟩) 5 5)).alloc (.cells #[.bool vp,.bool vq,.bool vr,.bool va,.bool vb] 4))):=(r3 Bp HBp.out.ltW hBpB).trans HBp.out
 have HN_Bq:Hid (PcAt Bq (flat pq) vq bq ((w18.setCell ⟨B,2,none⟩ (.slice (some ⟨w18.heap.size,0,none⟩) 5 5)).alloc (.cells #[.bool vp,.bool vq,.bool vr,.bool va,.bool vb] 4))):=(r3 Bq HBq.out.ltW hBqB).trans HBq.out
 have HN_Br:Hid (PcAt Br (flat pr) vr br ((w18.setCell ⟨B,2,none⟩ (.slice (some ⟨w18.heap.size,0,none⟩) 5 5)).alloc (.cells #[.bool vp,.bool vq,.bool vr,.bool va,.bool vb] 4))):=(r3 Br HBr.out.ltW hBrB).trans HBr.out
 have HN_Ba:Hid (PcAt Ba (flat pa) va ba ((w18.setCell ⟨B,2,none⟩ (.slice (some ⟨w18.heap.size,0,none⟩) 5 5)).alloc (.cells #[.bool vp,.bool vq,.bool vr,.bool va,.bool vb] 4))):=(r3 Ba HBa.out.ltW hBaB).trans HBa.out
 have HN_Bb:Hid (PcAt Bb (flat pb) vb bb ((w18.setCell ⟨B,2,none⟩ (.slice (some ⟨w18.heap.size,0,none⟩) 5 5)).alloc (.cells #[.bool vp,.bool vq,.bool vr,.bool va,.bool vb] 4))):=(r3 Bb HBb.out.ltW hBbB).trans HBb.out
 have HN_R4:Hid (((w18.setCell ⟨B,2,none⟩ (.slice (some ⟨w18.heap.size,0,none⟩) 5 5)).alloc (.cells #[.bool vp,.bool vq,.bool vr,.bool va,.bool vb] 4)).heap[R4]? = some (.cells #[.string ⟨#[119]⟩,.string ⟨#[120]⟩,.string ⟨#[121]⟩,.string ⟨#[97]⟩,.string ⟨#[98]⟩] 9 (0,0))):=(r3 R4 (Array.getElem?_eq_some_iff.1 HR4.out).1 hR4B).trans HR4.out
 have HR_:=hide r2
 clear r1 r2 r3 r5
 generalize (w18.setCell ⟨B,2,none⟩ (.slice (some ⟨w18.heap.size,0,none⟩) 5 5)).alloc (.cells #[.bool vp,.bool vq,.bool vr,.bool va,.bool vb] 4) = w19 at *
 have hS4F:w18.heap.size ≠ F:=by omega
 have hS4B:w18.heap.size ≠ B:=by omega
 have hlF1:F < w19.heap.size:=by omega
 have hlB1:B < w19.heap.size:=by omega
 have HBW1:=hide hBW_
 clear hBW_ r4 HB_ HBW HF0 hlF hlB HBp HBq HBr HBa HBb HR4
 have HB_:=HB1
 have HBW:=HBW1
 have HF0:=HF1
 have hlF:=hlF1
 have hlB:=hlB1
 have HBp:=HN_Bp
 have HBq:=HN_Bq
 have HBr:=HN_Br
 have HBa:=HN_Ba
 have HBb:=HN_Bb
 have HR4:=HN_R4
 have HS4:=HR_
 clear HB1 HBW1 HF1 hlF1 hlB1 HR_ HN_Bp HN_Bq HN_Br HN_Ba HN_Bb HN_R4
 generalize w18.heap.size = S4 at *
 have HM:Hid (MkAt F B (some ⟨R4,0,none⟩) (some ⟨S4,0,none⟩) ([(tW,vp),(tX,vq),(tY,vr),(tA,va),(tBb,vb)]:List (ByteArray × Bool)).length ch w19):=HB_.out
 have HRW:Hid (MRow F [(tW,vp),(tX,vq),(tY,vr),(tA,va),(tBb,vb)] (some ⟨R4,0,none⟩) (some ⟨S4,0,none⟩) w19):=fun _=>⟨R4,S4,rfl,rfl,hR4F,hS4F,HR4.out,HS4.out⟩
 clear HB_ HR4 HS4
 go_wp2_with fail
 have HEN:Hid (∀ x ∈ ([(tW,vp),(tX,vq),(tY,vr),(tA,va),(tBb,vb)]:List (ByteArray × Bool)),NmE x.1):=nmeC nmeW (nmeC nmeX (nmeC nmeY (nmeC nmeA (nmeC nmeB (nme0)))))
 refine ((HMK.out F B [(tW,vp),(tX,vq),(tY,vr),(tA,va),(tBb,vb)] (some ⟨R4,0,none⟩) (some ⟨S4,0,none⟩) hNF.out hBF (by simp) HEN.out).2 i5 w19 hi5 HF0.out HM.out HRW.out).mono ?_
 rintro e w20 ⟨rfl,hF_,ka⟩
 have HEz:=hide (exp1_ok raw ch i5 HEN.out)
 have hi6:=exp1_in raw [(tW,vp),(tX,vq),(tY,vr),(tA,va),(tBb,vb)] ch hi5
 clear HEN
 generalize exp1 raw [(tW,vp),(tX,vq),(tY,vr),(tA,va),(tBb,vb)] ch i5 = fz at *
 obtain ⟨⟨pz,vz,bz⟩,i6⟩:=fz
 unfold pcV
 have hi6:i6 ≤ raw.size:=hi6
 have HZz:Hid ((flat pz).size ≤ 87):=by obtain ⟨_,r,_⟩:=HEz.out.is; exact r.size
 have hzz:=HZz.out
 have hF_:FeedAt F raw i6 w20:=hF_
 have HF1:=hide hF_
 have HM1:=hide (ka.mk_ hBF HM.out)
 have HRW1:=hide (ka.row HRW.out)
 have HBW1:=hide (HBW.out.trans ka.below)
 have hlF1:F < w20.heap.size:=Nat.lt_of_lt_of_le hlF ka.below.size
 have hlB1:B < w20.heap.size:=Nat.lt_of_lt_of_le hlB ka.below.size
 have HN_Bp:=hide (HBp.out.kf ka hBpF)
 have HN_Bq:=hide (HBq.out.kf ka hBqF)
 have HN_Br:=hide (HBr.out.kf ka hBrF)
 have HN_Ba:=hide (HBa.out.kf ka hBaF)
 have HN_Bb:=hide (HBb.out.kf ka hBbF)
 clear hF_ ka HF0 HM HRW HBW hlF hlB HBp HBq HBr HBa HBb
 go_upto_region 16 with fail
 have hz_:=World.size_alloc w20 (.cells #[.string (flat pz),.bool vz,.bool bz] 60)
 have HX_:Hid (PcAt w20.heap.size (flat pz) vz bz (w20.alloc (.cells #[.string (flat pz),.bool vz,.bool bz] 60))):=pc_allocW _ _ _ _
 have ka:Kf W.heap.size F w20 (w20.alloc (.cells #[.string (flat pz),.bool vz,.bool bz] 60)):=Kf.alloc W.heap.size F w20 _ (by have:=HBW1.out.size; omega)
 have HF0:Hid (FeedAt F raw i6 (w20.alloc (.cells #[.string (flat pz),.bool vz,.bool bz] 60))):=(Below.heap_alloc _ _ _ hlF1).trans HF1.out
 have hl_Bp:=HN_Bp.out.ltW
 have hl_Bq:=HN_Bq.out.ltW
 have hl_Br:=HN_Br.out.ltW
 have hl_Ba:=HN_Ba.out.ltW
 have hl_Bb:=HN_Bb.out.ltW
 generalize w20.alloc (.cells #[.string (flat pz),.bool vz,.bool bz] 60) = w21 at *
 have hBzF:w20.heap.size ≠ F:=by omega
 have hBzB:w20.heap.size ≠ B:=by omega
 have hBBz:B ≠ w20.heap.size:=by omega
 have hBpBz:Bp ≠ w20.heap.size:=by omega
 have hBqBz:Bq ≠ w20.heap.size:=by omega
 have hBrBz:Br ≠ w20.heap.size:=by omega
 have hBaBz:Ba ≠ w20.heap.size:=by omega
 have hBbBz:Bb ≠ w20.heap.size:=by omega
 have HM:=hide (ka.mk_ hBF HM1.out)
 have HRW:=hide (ka.row HRW1.out)
 have HBW:=hide (HBW1.out.trans ka.below)
 have hlF:F < w21.heap.size:=by omega
 have hlB:B < w21.heap.size:=by omega
 have HBp:=hide (HN_Bp.out.kf ka hBpF)
 have HBq:=hide (HN_Bq.out.kf ka hBqF)
 have HBr:=hide (HN_Br.out.kf ka hBrF)
 have HBa:=hide (HN_Ba.out.kf ka hBaF)
 have HBb:=hide (HN_Bb.out.kf ka hBbF)
 clear ka hz_ HF1 HM1 HRW1 HBW1 hlF1 hlB1 HN_Bp hl_Bp HN_Bq hl_Bq HN_Br hl_Br HN_Ba hl_Ba HN_Bb hl_Bb
 have HBz:=HX_
 clear HX_
 generalize w20.heap.size = Bz at *
 clear HM HRW HF0 HMK hlF hlB hi1 hi2 hi3 hi4 hi5 hi6 hi0
 have HTX:Hid (((((((((((((⟨#[115,104,97,114,101,100,32,119,44,32,120,44,32,121,44,32,122,59,32,112,114,111,99,32,102,40,97,44,32,98,41,32,123,32,114,101,116,117,114,110,32]⟩:ByteArray) ++ flat pz) ++ ⟨#[59,32,125,32,112,114,111,99,32,112,40,41,32,123,32,119,32,61,32]⟩) ++ flat pp) ++ ⟨#[59,32,120,32,61,32]⟩) ++ flat pq) ++ ⟨#[59,32,121,32,61,32]⟩) ++ flat pr) ++ ⟨#[59,32,122,32,61,32,102,40]⟩) ++ flat pa) ++ ⟨#[44,32]⟩) ++ flat pb) ++ ⟨#[41,59,32,125,32,116,104,114,101,97,100,115,32,112,59]⟩ = worthS ⟨pz,vz,bz⟩ ⟨pp,vp,bp⟩ ⟨pq,vq,bq⟩ ⟨pr,vr,br⟩ ⟨pa,va,ba⟩ ⟨pb,vb,bb⟩):=worth_text ⟨pz,vz,bz⟩ ⟨pp,vp,bp⟩ ⟨pq,vq,bq⟩ ⟨pr,vr,br⟩ ⟨pa,va,ba⟩ ⟨pb,vb,bb⟩
 have cp:=HBp.out.cells
 have cq:=HBq.out.cells
 have cr:=HBr.out.cells
 have ca:=HBa.out.cells
 have cb:=HBb.out.cells
 have cz:=HBz.out.cells
 go_upto_region 17 with fail
 rw [HTX.out]
 clear HTX
 obtain ⟨L,τ,hRun,hShow⟩:=worth_fin (z:=⟨pz,vz,bz⟩) HEp.out HEq.out HEr.out HEa.out HEb.out HEz.out
 have HPW:=hide (HPL.out _ L τ hRun)
 have hsz:(worthS ⟨pz,vz,bz⟩ ⟨pp,vp,bp⟩ ⟨pq,vq,bq⟩ ⟨pr,vr,br⟩ ⟨pa,va,ba⟩ ⟨pb,vb,bb⟩).size ≤ 450:=hRun.size
 have HSH:=hide hShow
 have HWC:Hid (12 ≤ (worthS ⟨pz,vz,bz⟩ ⟨pp,vp,bp⟩ ⟨pq,vq,bq⟩ ⟨pr,vr,br⟩ ⟨pa,va,ba⟩ ⟨pb,vb,bb⟩).size∧(flat (wC pa pb)).size ≤ (worthS ⟨pz,vz,bz⟩ ⟨pp,vp,bp⟩ ⟨pq,vq,bq⟩ ⟨pr,vr,br⟩ ⟨pa,va,ba⟩ ⟨pb,vb,bb⟩).size):=worth_ge _ _ _ _ _ _
 clear hRun hShow HPL HEp HEq HEr HEa HEb HEz
 generalize planF τ.p.names τ.sts τ.nds = PL at *
 generalize worthS ⟨pz,vz,bz⟩ ⟨pp,vp,bp⟩ ⟨pq,vq,bq⟩ ⟨pr,vr,br⟩ ⟨pa,va,ba⟩ ⟨pb,vb,bb⟩ = tx at *
 go_quiet (first | (go_at_call 27; refine Calls.quiet_of_same (k_letter _ _ _)))
 clear cp cq cr ca cb cz
 obtain ⟨⟨en1,rc1,dd1,h1⟩,⟨en2,rc2,dd2,h2⟩,⟨en3,rc3,dd3,h3⟩,h4,h5⟩:=HSH.out
 clear HSH
 rw [tx1] at h1
 rw [tx2] at h2
 rw [tx3] at h3
 rw [tx4] at h4
 rw [cat3]
 have HY1:=hide (plays_to HPW.out (by show 3 ≤ 200; decide) h1)
 have HY2:=hide (plays_to HPW.out (by show 4 ≤ 200; decide) h2)
 have HY3:=hide (plays_to HPW.out (by show 5 ≤ 200; decide) h3)
 have HY4:=hide (plays_to HPW.out (by show 6 ≤ 200; decide) h4)
 have HY5:=hide (plays_to HPW.out (by show 7 ≤ 200; decide) h5)
 clear h1 h2 h3 h4 h5 HPW
 simp only [] at HY1 HY2 HY3 HY4 HY5
 generalize blc (bp && ch) = x1 at *
 generalize blc (bq && ch) = x2 at *
 generalize blc (br && ch) = x3 at *
 generalize hx4:blc ((ba || bb) && ch) = x4 at *
 have HX4:=hide hx4
 clear hx4
 generalize hx5:blc (bz && ch) = x5 at *
 have HX5:=hide hx5
 clear hx5
 obtain ⟨n5,hn5⟩:∃ n,n = tx.size - (flat (wC pa pb)).size:=⟨_,rfl⟩
 have HN5:=hide hn5
 rw [← hn5] at HY1 HY2
 clear hn5
 obtain ⟨n6,hn6⟩:∃ n,n = tx.size - 12:=⟨_,rfl⟩
 have HN6:=hide hn6
 rw [← hn6] at HY3
 clear hn6
 generalize ht1:((((bitF vp ++ bitF vq) ++ bitF vr) ++ ⟨#[48,47,47]⟩) ++ itoaF n5) ++ ⟨#[58]⟩ = t1 at *
 have HT1:=hide ht1
 clear ht1
 generalize ht2:((((((((bitF vp ++ bitF vq) ++ bitF vr) ++ ⟨#[48,47,47]⟩) ++ itoaF n5) ++ ⟨#[58,44]⟩) ++ itoaF 34) ++ ⟨#[58]⟩) ++ bitF va) ++ bitF vb = t2 at *
 have HT2:=hide ht2
 clear ht2
 generalize ht3:(((((bitF vp ++ bitF vq) ++ bitF vr) ++ bitF vz) ++ ⟨#[47,47]⟩) ++ itoaF n6) ++ ⟨#[58]⟩ = t3 at *
 have HT3:=hide ht3
 clear ht3
 generalize ht4:(((bitF vp ++ bitF vq) ++ bitF vr) ++ bitF vz) ++ ⟨#[47,47]⟩ = t4 at *
 have HT4:=hide ht4
 clear ht4
 have HBW1:Hid (Below W.heap.size W (w21.drewN nq)):=HBW.out.trans (below_dW _ _)
 have HN_Bp:Hid (PcAt Bp (flat pp) vp bp (w21.drewN nq)):=HBp.out
 have HN_Bq:Hid (PcAt Bq (flat pq) vq bq (w21.drewN nq)):=HBq.out
 have HN_Br:Hid (PcAt Br (flat pr) vr br (w21.drewN nq)):=HBr.out
 have HN_Ba:Hid (PcAt Ba (flat pa) va ba (w21.drewN nq)):=HBa.out
 have HN_Bb:Hid (PcAt Bb (flat pb) vb bb (w21.drewN nq)):=HBb.out
 have HN_Bz:Hid (PcAt Bz (flat pz) vz bz (w21.drewN nq)):=HBz.out
 clear HBW HBp HBq HBr HBa HBb HBz
 generalize w21.drewN nq = w22 at *
 have HBW:=HBW1
 have HBp:=HN_Bp
 have HBq:=HN_Bq
 have HBr:=HN_Br
 have HBa:=HN_Ba
 have HBb:=HN_Bb
 have HBz:=HN_Bz
 clear HBW1 HN_Bp HN_Bq HN_Br HN_Ba HN_Bb HN_Bz
 go_wp2_with fail
 refine (HY1.out w22 HBW.out).mono ?_
 rintro en w23 ⟨rfl,hb_⟩
 have HBW1:=hide (HBW.out.trans (hb_.mono HBW.out.size))
 have HN_Bp:=hide (HBp.out.blw hb_)
 have HN_Bq:=hide (HBq.out.blw hb_)
 have HN_Br:=hide (HBr.out.blw hb_)
 have HN_Ba:=hide (HBa.out.blw hb_)
 have HN_Bb:=hide (HBb.out.blw hb_)
 have HN_Bz:=hide (HBz.out.blw hb_)
 clear hb_ HBW HY1 HBp HBq HBr HBa HBb HBz
 go_upto_region 19 with fail
 have HBW2:=hide (HBW1.out.alloc HBW1.out.size (.cells #[.string t1,.string en1,.bool rc1,.bool dd1] 42))
 have HBp:=hide (HN_Bp.out.alc (.cells #[.string t1,.string en1,.bool rc1,.bool dd1] 42))
 have HBq:=hide (HN_Bq.out.alc (.cells #[.string t1,.string en1,.bool rc1,.bool dd1] 42))
 have HBr:=hide (HN_Br.out.alc (.cells #[.string t1,.string en1,.bool rc1,.bool dd1] 42))
 have HBa:=hide (HN_Ba.out.alc (.cells #[.string t1,.string en1,.bool rc1,.bool dd1] 42))
 have HBb:=hide (HN_Bb.out.alc (.cells #[.string t1,.string en1,.bool rc1,.bool dd1] 42))
 have HBz:=hide (HN_Bz.out.alc (.cells #[.string t1,.string en1,.bool rc1,.bool dd1] 42))
 have HV1:=hide (vw_alloc w23 (t1) (en1) rc1 dd1)
 clear HBW1 HN_Bp HN_Bq HN_Br HN_Ba HN_Bb HN_Bz
 generalize w23.alloc (.cells #[.string t1,.string en1,.bool rc1,.bool dd1] 42) = w24 at *
 have HBW:=HBW2
 clear HBW2
 generalize w23.heap.size = V1 at *
 go_cut [13] (fun u wx=>u = .string ⟨#[x1,x2,x3,x4]⟩∧w24 = wx)
 case first =>
  have ca:=HBa.out.cells
  have cb:=HBb.out.cells
  cases ba
  ·go_wp2_with fail
   refine (k_letter bb ch w24).mono ?_
   rintro e w_ ⟨rfl,rfl⟩
   go_wp2_with fail
   go_meet
   case rel=>exact ⟨by rw [show blc (bb && ch) = x4 from HX4.out,cat4],rfl⟩
  ·go_wp2_with fail
   refine (k_letter true ch w24).mono ?_
   rintro e w_ ⟨rfl,rfl⟩
   go_wp2_with fail
   go_meet
   case rel=>exact ⟨by rw [show blc ch = x4 from HX4.out,cat4],rfl⟩
 case rest =>
  obtain ⟨rfl,hq⟩:=hcut
  subst hq
  go_wp2_with fail
  refine (HY2.out w24 HBW.out).mono ?_
  rintro en w25 ⟨rfl,hb_⟩
  have HBW1:=hide (HBW.out.trans (hb_.mono HBW.out.size))
  have HN_Bp:=hide (HBp.out.blw hb_)
  have HN_Bq:=hide (HBq.out.blw hb_)
  have HN_Br:=hide (HBr.out.blw hb_)
  have HN_Ba:=hide (HBa.out.blw hb_)
  have HN_Bb:=hide (HBb.out.blw hb_)
  have HN_Bz:=hide (HBz.out.blw hb_)
  have HN_V1:=hide (HV1.out.blw hb_)
  clear hb_ HBW HY2 HBp HBq HBr HBa HBb HBz HV1
  go_upto_region 21 with fail
  have HBW2:=hide (HBW1.out.alloc HBW1.out.size (.cells #[.string t2,.string en2,.bool rc2,.bool dd2] 42))
  have HBp:=hide (HN_Bp.out.alc (.cells #[.string t2,.string en2,.bool rc2,.bool dd2] 42))
  have HBq:=hide (HN_Bq.out.alc (.cells #[.string t2,.string en2,.bool rc2,.bool dd2] 42))
  have HBr:=hide (HN_Br.out.alc (.cells #[.string t2,.string en2,.bool rc2,.bool dd2] 42))
  have HBa:=hide (HN_Ba.out.alc (.cells #[.string t2,.string en2,.bool rc2,.bool dd2] 42))
  have HBb:=hide (HN_Bb.out.alc (.cells #[.string t2,.string en2,.bool rc2,.bool dd2] 42))
  have HBz:=hide (HN_Bz.out.alc (.cells #[.string t2,.string en2,.bool rc2,.bool dd2] 42))
  have HV1:=hide (HN_V1.out.alc (.cells #[.string t2,.string en2,.bool rc2,.bool dd2] 42))
  have HV2:=hide (vw_alloc w25 (t2) (en2) rc2 dd2)
  clear HBW1 HN_Bp HN_Bq HN_Br HN_Ba HN_Bb HN_Bz HN_V1
  generalize w25.alloc (.cells #[.string t2,.string en2,.bool rc2,.bool dd2] 42) = w26 at *
  have HBW:=HBW2
  clear HBW2
  generalize w25.heap.size = V2 at *
  have cz:=HBz.out.cells
  go_wp2_with fail
  refine (k_letter bz ch w26).mono ?_
  rintro e w_ ⟨rfl,hw_⟩
  rw [hw_,HX5.out]
  clear hw_ w_
  go_upto_region 22 with fail
  clear cz
  rw [cat5]
  go_wp2_with fail
  refine (HY3.out w26 HBW.out).mono ?_
  rintro en w27 ⟨rfl,hb_⟩
  have HBW1:=hide (HBW.out.trans (hb_.mono HBW.out.size))
  have HN_Bp:=hide (HBp.out.blw hb_)
  have HN_Bq:=hide (HBq.out.blw hb_)
  have HN_Br:=hide (HBr.out.blw hb_)
  have HN_Ba:=hide (HBa.out.blw hb_)
  have HN_Bb:=hide (HBb.out.blw hb_)
  have HN_Bz:=hide (HBz.out.blw hb_)
  have HN_V1:=hide (HV1.out.blw hb_)
  have HN_V2:=hide (HV2.out.blw hb_)
  clear hb_ HBW HY3 HBp HBq HBr HBa HBb HBz HV1 HV2
  go_upto_region 23 with fail
  have HBW2:=hide (HBW1.out.alloc HBW1.out.size (.cells #[.string t3,.string en3,.bool rc3,.bool dd3] 42))
  have HBp:=hide (HN_Bp.out.alc (.cells #[.string t3,.string en3,.bool rc3,.bool dd3] 42))
  have HBq:=hide (HN_Bq.out.alc (.cells #[.string t3,.string en3,.bool rc3,.bool dd3] 42))
  have HBr:=hide (HN_Br.out.alc (.cells #[.string t3,.string en3,.bool rc3,.bool dd3] 42))
  have HBa:=hide (HN_Ba.out.alc (.cells #[.string t3,.string en3,.bool rc3,.bool dd3] 42))
  have HBb:=hide (HN_Bb.out.alc (.cells #[.string t3,.string en3,.bool rc3,.bool dd3] 42))
  have HBz:=hide (HN_Bz.out.alc (.cells #[.string t3,.string en3,.bool rc3,.bool dd3] 42))
  have HV1:=hide (HN_V1.out.alc (.cells #[.string t3,.string en3,.bool rc3,.bool dd3] 42))
  have HV2:=hide (HN_V2.out.alc (.cells #[.string t3,.string en3,.bool rc3,.bool dd3] 42))
  have HV3:=hide (vw_alloc w27 (t3) (en3) rc3 dd3)
  clear HBW1 HN_Bp HN_Bq HN_Br HN_Ba HN_Bb HN_Bz HN_V1 HN_V2
  generalize w27.alloc (.cells #[.string t3,.string en3,.bool rc3,.bool dd3] 42) = w28 at *
  have HBW:=HBW2
  clear HBW2
  generalize w27.heap.size = V3 at *
  go_wp2_with fail
  rw [cat6]
  refine (HY4.out w28 HBW.out).mono ?_
  rintro en w29 ⟨rfl,hb_⟩
  have HBW1:=hide (HBW.out.trans (hb_.mono HBW.out.size))
  have HN_Bp:=hide (HBp.out.blw hb_)
  have HN_Bq:=hide (HBq.out.blw hb_)
  have HN_Br:=hide (HBr.out.blw hb_)
  have HN_Ba:=hide (HBa.out.blw hb_)
  have HN_Bb:=hide (HBb.out.blw hb_)
  have HN_Bz:=hide (HBz.out.blw hb_)
  have HN_V1:=hide (HV1.out.blw hb_)
  have HN_V2:=hide (HV2.out.blw hb_)
  have HN_V3:=hide (HV3.out.blw hb_)
  clear hb_ HBW HY4 HBp HBq HBr HBa HBb HBz HV1 HV2 HV3
  go_upto_region 24 with fail
  have HBW2:=hide (HBW1.out.alloc HBW1.out.size (.cells #[.string t4,.string ⟨#[]⟩,.bool false,.bool false] 42))
  have HBp:=hide (HN_Bp.out.alc (.cells #[.string t4,.string ⟨#[]⟩,.bool false,.bool false] 42))
  have HBq:=hide (HN_Bq.out.alc (.cells #[.string t4,.string ⟨#[]⟩,.bool false,.bool false] 42))
  have HBr:=hide (HN_Br.out.alc (.cells #[.string t4,.string ⟨#[]⟩,.bool false,.bool false] 42))
  have HBa:=hide (HN_Ba.out.alc (.cells #[.string t4,.string ⟨#[]⟩,.bool false,.bool false] 42))
  have HBb:=hide (HN_Bb.out.alc (.cells #[.string t4,.string ⟨#[]⟩,.bool false,.bool false] 42))
  have HBz:=hide (HN_Bz.out.alc (.cells #[.string t4,.string ⟨#[]⟩,.bool false,.bool false] 42))
  have HV1:=hide (HN_V1.out.alc (.cells #[.string t4,.string ⟨#[]⟩,.bool false,.bool false] 42))
  have HV2:=hide (HN_V2.out.alc (.cells #[.string t4,.string ⟨#[]⟩,.bool false,.bool false] 42))
  have HV3:=hide (HN_V3.out.alc (.cells #[.string t4,.string ⟨#[]⟩,.bool false,.bool false] 42))
  have HV4:=hide (vw_alloc w29 (t4) (⟨#[]⟩) false false)
  clear HBW1 HN_Bp HN_Bq HN_Br HN_Ba HN_Bb HN_Bz HN_V1 HN_V2 HN_V3
  generalize w29.alloc (.cells #[.string t4,.string ⟨#[]⟩,.bool false,.bool false] 42) = w30 at *
  have HBW:=HBW2
  clear HBW2
  generalize w29.heap.size = V4 at *
  go_wp2_with fail
  rw [cat7]
  refine (HY5.out w30 HBW.out).mono ?_
  rintro en w31 ⟨rfl,hb_⟩
  have HBW1:=hide (HBW.out.trans (hb_.mono HBW.out.size))
  have HN_Bp:=hide (HBp.out.blw hb_)
  have HN_Bq:=hide (HBq.out.blw hb_)
  have HN_Br:=hide (HBr.out.blw hb_)
  have HN_Ba:=hide (HBa.out.blw hb_)
  have HN_Bb:=hide (HBb.out.blw hb_)
  have HN_Bz:=hide (HBz.out.blw hb_)
  have HN_V1:=hide (HV1.out.blw hb_)
  have HN_V2:=hide (HV2.out.blw hb_)
  have HN_V3:=hide (HV3.out.blw hb_)
  have HN_V4:=hide (HV4.out.blw hb_)
  clear hb_ HBW HY5 HBp HBq HBr HBa HBb HBz HV1 HV2 HV3 HV4
  go_upto_region 25 with fail
  have HBW2:=hide (HBW1.out.alloc HBW1.out.size (.cells #[.string ⟨#[]⟩,.string ⟨#[]⟩,.bool false,.bool false] 42))
  have HBp:=hide (HN_Bp.out.alc (.cells #[.string ⟨#[]⟩,.string ⟨#[]⟩,.bool false,.bool false] 42))
  have HBq:=hide (HN_Bq.out.alc (.cells #[.string ⟨#[]⟩,.string ⟨#[]⟩,.bool false,.bool false] 42))
  have HBr:=hide (HN_Br.out.alc (.cells #[.string ⟨#[]⟩,.string ⟨#[]⟩,.bool false,.bool false] 42))
  have HBa:=hide (HN_Ba.out.alc (.cells #[.string ⟨#[]⟩,.string ⟨#[]⟩,.bool false,.bool false] 42))
  have HBb:=hide (HN_Bb.out.alc (.cells #[.string ⟨#[]⟩,.string ⟨#[]⟩,.bool false,.bool false] 42))
  have HBz:=hide (HN_Bz.out.alc (.cells #[.string ⟨#[]⟩,.string ⟨#[]⟩,.bool false,.bool false] 42))
  have HV1:=hide (HN_V1.out.alc (.cells #[.string ⟨#[]⟩,.string ⟨#[]⟩,.bool false,.bool false] 42))
  have HV2:=hide (HN_V2.out.alc (.cells #[.string ⟨#[]⟩,.string ⟨#[]⟩,.bool false,.bool false] 42))
  have HV3:=hide (HN_V3.out.alc (.cells #[.string ⟨#[]⟩,.string ⟨#[]⟩,.bool false,.bool false] 42))
  have HV4:=hide (HN_V4.out.alc (.cells #[.string ⟨#[]⟩,.string ⟨#[]⟩,.bool false,.bool false] 42))
  have HV5:=hide (vw_alloc w31 (⟨#[]⟩) (⟨#[]⟩) false false)
  clear HBW1 HN_Bp HN_Bq HN_Br HN_Ba HN_Bb HN_Bz HN_V1 HN_V2 HN_V3 HN_V4
  generalize w31.alloc (.cells #[.string ⟨#[]⟩,.string ⟨#[]⟩,.bool false,.bool false] 42) = w32 at *
  have HBW:=HBW2
  clear HBW2
  generalize w31.heap.size = V5 at *
  have hs5:(⟨#[x1,x2,x3,x4,x5]⟩:ByteArray).size = 5:=rfl
  have sp:=bit_sizeW vp
  have sq:=bit_sizeW vq
  have sr:=bit_sizeW vr
  have sz:=bit_sizeW vz
  have sa:=bit_sizeW va
  have sb:=bit_sizeW vb
  go_upto_region 27 with fail
  clear hs5
  have cp:=HBp.out.cells
  have cq:=HBq.out.cells
  have cr:=HBr.out.cells
  go_quiet (first | (go_at_call 28; refine Calls.quiet_of_same (k_digitW _ _)))
  clear cp cq cr
  have HBW1:Hid (Below W.heap.size W (w32.drewN nq)):=HBW.out.trans (below_dW _ _)
  have HN_Ba:Hid (PcAt Ba (flat pa) va ba (w32.drewN nq)):=HBa.out
  have HN_Bb:Hid (PcAt Bb (flat pb) vb bb (w32.drewN nq)):=HBb.out
  have HN_Bz:Hid (PcAt Bz (flat pz) vz bz (w32.drewN nq)):=HBz.out
  have HN_V1:Hid (VwAt V1 t1 en1 rc1 dd1 (w32.drewN nq)):=HV1.out
  have HN_V2:Hid (VwAt V2 t2 en2 rc2 dd2 (w32.drewN nq)):=HV2.out
  have HN_V3:Hid (VwAt V3 t3 en3 rc3 dd3 (w32.drewN nq)):=HV3.out
  have HN_V4:Hid (VwAt V4 t4 ⟨#[]⟩ false false (w32.drewN nq)):=HV4.out
  clear HBW HBp HBq HBr HBa HBb HBz HV1 HV2 HV3 HV4 HV5
  generalize w32.drewN nq = w33 at *
  have HBW:=HBW1
  have HBa:=HN_Ba
  have HBb:=HN_Bb
  have HBz:=HN_Bz
  have HV1:=HN_V1
  have HV2:=HN_V2
  have HV3:=HN_V3
  have HV4:=HN_V4
  clear HBW1 HN_Ba HN_Bb HN_Bz HN_V1 HN_V2 HN_V3 HN_V4
  have cz:=HBz.out.cells
  go_wp2_with fail
  refine (k_digitW vz w33).mono ?_
  rintro e w_ ⟨rfl,hw_⟩
  rw [hw_]
  clear hw_ w_
  go_upto_region 29 with fail
  clear cz
  have ca:=HBa.out.cells
  have cb:=HBb.out.cells
  have HWS:Hid ((flat (wC pa pb)).size = 6 + (flat pa).size + 2 + (flat pb).size + 15):=by
   show _ = _
   rw [← worth_tail]
   simp only [ByteArray.size_append]
   rfl
  go_wp2_with fail
  refine ((HIT.out n5 _ (by have h1:=HN5.out; have h2:=HWC.out; have h3:=HWS.out; (first | omega | (rw [worth_tail]; omega) | (simp only [ByteArray.size_append]; omega))) (by have h1:=HN5.out; omega)).2 w33 HBW.out).mono ?_
  rintro e w34 ⟨rfl,hb_⟩
  have HBW1:=hide (HBW.out.trans (hb_.mono HBW.out.size))
  have HN_Ba:=hide (HBa.out.blw hb_)
  have HN_Bb:=hide (HBb.out.blw hb_)
  have HN_V1:=hide (HV1.out.blw hb_)
  have HN_V2:=hide (HV2.out.blw hb_)
  have HN_V3:=hide (HV3.out.blw hb_)
  have HN_V4:=hide (HV4.out.blw hb_)
  clear hb_ HBW HBa HBb HV1 HV2 HV3 HV4
  have HBW:=HBW1
  have HBa:=HN_Ba
  have HBb:=HN_Bb
  have HV1:=HN_V1
  have HV2:=HN_V2
  have HV3:=HN_V3
  have HV4:=HN_V4
  clear HBW1 HN_Ba HN_Bb HN_V1 HN_V2 HN_V3 HN_V4
  clear ca cb HBz
  have j5:(itoaF n5).size ≤ 1000:=(HIT.out n5 n5 rfl (by have h1:=HN5.out; omega)).1
  have j6:(itoaF n6).size ≤ 1000:=(HIT.out n6 n6 rfl (by have h1:=HN6.out; omega)).1
  have j7:(itoaF 34).size ≤ 1000:=(HIT.out 34 34 rfl (by decide)).1
  go_wp2_with fail
  refine ((HIT.out n6 _ (by have h1:=HN6.out; have h2:=HWC.out; omega) (by have h1:=HN6.out; omega)).2 w34 HBW.out).mono ?_
  rintro e w35 ⟨rfl,hb_⟩
  have HBW1:=hide (HBW.out.trans (hb_.mono HBW.out.size))
  have HN_Ba:=hide (HBa.out.blw hb_)
  have HN_Bb:=hide (HBb.out.blw hb_)
  have HN_V1:=hide (HV1.out.blw hb_)
  have HN_V2:=hide (HV2.out.blw hb_)
  have HN_V3:=hide (HV3.out.blw hb_)
  have HN_V4:=hide (HV4.out.blw hb_)
  clear hb_ HBW HBa HBb HV1 HV2 HV3 HV4
  have HBW:=HBW1
  have HBa:=HN_Ba
  have HBb:=HN_Bb
  have HV1:=HN_V1
  have HV2:=HN_V2
  have HV3:=HN_V3
  have HV4:=HN_V4
  clear HBW1 HN_Ba HN_Bb HN_V1 HN_V2 HN_V3 HN_V4
  go_wp2_with fail
  refine ((HIT.out 34 _ (by rfl) (by decide)).2 w35 HBW.out).mono ?_
  rintro e w36 ⟨rfl,hb_⟩
  have HBW1:=hide (HBW.out.trans (hb_.mono HBW.out.size))
  have HN_Ba:=hide (HBa.out.blw hb_)
  have HN_Bb:=hide (HBb.out.blw hb_)
  have HN_V1:=hide (HV1.out.blw hb_)
  have HN_V2:=hide (HV2.out.blw hb_)
  have HN_V3:=hide (HV3.out.blw hb_)
  have HN_V4:=hide (HV4.out.blw hb_)
  clear hb_ HBW HBa HBb HV1 HV2 HV3 HV4
  have HBW:=HBW1
  have HBa:=HN_Ba
  have HBb:=HN_Bb
  have HV1:=HN_V1
  have HV2:=HN_V2
  have HV3:=HN_V3
  have HV4:=HN_V4
  clear HBW1 HN_Ba HN_Bb HN_V1 HN_V2 HN_V3 HN_V4
  go_upto_region 32 with fail
  have c1:=HV1.out.cells
  have c2:=HV2.out.cells
  have ca:=HBa.out.cells
  have cb:=HBb.out.cells
  rw [← HT1.out] at c1
  rw [← HT2.out] at c2
  go_quiet (first | (go_at_call 28; refine Calls.quiet_of_same (k_digitW _ _)))
  clear c1 c2 ca cb
  have c3:=HV3.out.cells
  have c4:=HV4.out.cells
  rw [← HT3.out,← HT4.out] at c3
  rw [← HT4.out] at c4
  have c3':(w36.drewN nq).cell? ⟨V3,0,none⟩ = some (.string ((((((bitF vp ++ bitF vq) ++ bitF vr) ++ bitF vz) ++ ⟨#[47,47]⟩) ++ itoaF n6) ++ ⟨#[58]⟩)):=c3.1
  have c4':(w36.drewN nq).cell? ⟨V4,0,none⟩ = some (.string ((((bitF vp ++ bitF vq) ++ bitF vr) ++ bitF vz) ++ ⟨#[47,47]⟩)):=c4.1
  have c5':(w36.drewN nq).cell? ⟨V4,1,none⟩ = some (.string ⟨#[]⟩):=c4.2.1
  have c6':(w36.drewN nq).cell? ⟨V4,2,none⟩ = some (.bool false):=c4.2.2.1
  have c7':(w36.drewN nq).cell? ⟨V4,3,none⟩ = some (.bool false):=c4.2.2.2
  clear c3 c4
  go_wp2_with fail
  go_ret
  exact ⟨rfl,HBW.out.trans (below_dW _ _)⟩
end Go.Proofs.YtmfcpbhdggonfaaGreatDoor
