/- Contracts of the program's package play: races. -/
import Derived.Test.YtmfcpbhdggonfaaGreatDoorMjBA
namespace Go.Proofs.YtmfcpbhdggonfaaGreatDoor
open Go.RowKit RR
theorem race_found (p:Plan) (c:Cfg) {i j:Nat} (hi:i < 3) (hj:j < i) (h:clashT p (threadF c i) (threadF c j) = true):raceF p c = true:=by
 have h4:(i = 1∧j = 0) ∨ (i = 2∧j = 0) ∨ (i = 2∧j = 1):=by omega
 unfold raceF
 rcases h4 with ⟨rfl,rfl⟩ | ⟨rfl,rfl⟩ | ⟨rfl,rfl⟩
 ·have h':clashT p c.t1 c.t0 = true:=h
  rw [h']; rfl
 ·have h':clashT p c.t2 c.t0 = true:=h
  rw [h',Bool.true_or,Bool.or_true]
 ·have h':clashT p c.t2 c.t1 = true:=h
  rw [h',Bool.or_true,Bool.or_true]
theorem race_none (p:Plan) (c:Cfg) (h:∀ i j:Nat,i < 3→j < i→clashT p (threadF c i) (threadF c j) = false):raceF p c = false:=by
 have h1:clashT p c.t1 c.t0 = false:=h 1 0 (by omega) (by omega)
 have h2:clashT p c.t2 c.t0 = false:=h 2 0 (by omega) (by omega)
 have h3:clashT p c.t2 c.t1 = false:=h 2 1 (by omega) (by omega)
 unfold raceF
 rw [h1,h2,h3]; rfl
set_option maxRecDepth 100000 in
set_option maxHeartbeats 16000000 in
theorem py_Race (p:Plan) (v:PV) (c:Cfg) (w:World) (hp:PIn w p v) :
    Calls Tryz.prog 112 #[.agg (plL p v).toArray,.agg (cfgL c).toArray] w fun e w'=>e = .returned (.bool (raceF p c))∧Below w.heap.size w w':=by
 have HP:=hide hp
 clear hp
 obtain ⟨hP,hC,hbW,hsz⟩:=bigs2 w (.cells (plL p v).toArray 123) (.cells (cfgL c).toArray 140)
 go_enter Tryz.func112,Tryz.ntmps112
 go_upto_region 1 with (first | (refine wpl_box rfl 123 _ rfl (plL p v) rfl ?_) | (refine wpl_box rfl 140 _ rfl (cfgL c) rfl ?_))
 have HPW:=hide (HP.out.below hbW)
 generalize (w.alloc (.cells (plL p v).toArray 123)).alloc (.cells (cfgL c).toArray 140) = W at *
 have HBW:=hide hbW
 have hrP:W.rangeAt w.heap.size 0 (plL p v):=range_whole hP
 have hrC:W.rangeAt (w.heap.size + 1) 0 (cfgL c):=range_whole hC
 clear hbW hP hC
 go_wp2_with fail
 go_loopw [5,6] (fun u _ wr=>∃ i:Nat,u = .int .i64 i∧i ≤ 3∧(∀ a b:Nat,a < i→b < a→clashT p (threadF c a) (threadF c b) = false)∧Below W.heap.size W wr) (fun u _ _=>3 - (intOf u).toNat)
 case atStart=>exact ⟨0,rfl,by omega,fun a b ha=>by omega,Below.refl _ _⟩
 case round =>
  obtain ⟨i,rfl,hi,hn,hbr⟩:=hrel
  have HN:=hide hn
  have HB0:=hide hbr
  clear hn hbr
  by_cases h3:i < 3
  ·go_wp2_with fail
   have hd3:decide ((i:Int) < 3) = true:=by simp; omega
   rw [hd3]
   go_loopw [6] (fun u wr=>∃ j:Nat,u = .int .i64 j∧j ≤ i∧(∀ b:Nat,b < j→clashT p (threadF c i) (threadF c b) = false)∧Below W.heap.size W wr) (fun u _=>i - (intOf u).toNat)
   case atStart=>exact ⟨0,rfl,by omega,fun b hb=>by omega,HB0.out⟩
   case round =>
    obtain ⟨j,rfl,hj,hnj,hbr⟩:=hrel
    have HNj:=hide hnj
    have HBr:=hide hbr
    have hrP1:=rg_below hrP hbr
    have hrC1:=rg_below hrC hbr
    clear hnj hbr hrP hrC
    by_cases hji:j < i
    ·skip
     go_wp2_with fail
     refine wp_region_held_drew (S:=fun w'=>Below wr.heap.size wr w') (by kernel_rfl) (Below.refl _ _).drew (fun hHeld=>?_)
     refine wpAnyH_take (i:=0) rfl (by kernel_rfl) (by kernel_rfl) (by kernel_rfl) (fun _ _ _ h=>h) (yieldsIf_load_mid (by rfl) _ _ rfl w.heap.size 0 rfl (plL p v) _ (fun _ h=>rg_below hrP1 h) Tryz.underlying123 rfl Tryz.sizeProgram) (by assumption) ?_
     try simp only [put_laws]
     refine wpAnyH_take (i:=1) rfl (by kernel_rfl) (by kernel_rfl) (by kernel_rfl) (fun _ _ _ h=>h) (yieldsIf_load_mid (by rfl) _ _ rfl (w.heap.size + 1) 0 rfl (cfgL c) _ (fun _ h=>rg_below hrC1 h) Tryz.underlying140 rfl Tryz.sizeConfig) (by assumption) ?_
     try simp only [put_laws]
     refine wpAnyH_take (i:=2) (v:=?_) rfl (by kernel_rfl) (by kernel_rfl) (by kernel_rfl) (fun _ _ _ h=>h) (Or.inl ⟨by rfl,?_⟩) (by assumption) ?_; rotate_left; focus (intro w' hSw; go_simp; (first | done | with_reducible rfl)); (try simp only [put_laws])
     refine wpAnyH_ready (rs:=[3,5]) (by kernel_rfl) (by simp) ?_; refine AllReadyH.cons rfl (fun K hK=>?_) (AllReadyH.cons rfl (fun K hK=>?_) AllReadyH.nil)
     ·go_simp
      refine (py_thread c i _).mono ?_
      rintro e x1 ⟨rfl,hq1⟩
      have hx1:Below wr.heap.size wr x1:=(Below.refl _ _).drew.trans hq1
      clear hq1
      refine hK.out _ _ hx1 (fun hHeld=>?_)
      clear hK K
      try simp only [put_laws]
      refine wpAnyH_ready (rs:=[4,5]) (by kernel_rfl) (by simp) ?_; refine AllReadyH.cons rfl (fun K hK=>?_) (AllReadyH.cons rfl (fun K hK=>?_) AllReadyH.nil)
      ·go_simp
       refine (py_touchOf p v (threadF c i) _ (HPW.out.below (HBr.out.trans (hx1.mono HBr.out.size)))).mono ?_
       rintro e x2 ⟨rfl,hq2⟩
       have hx2:Below wr.heap.size wr x2:=hx1.trans (hq2.mono hx1.size)
       clear hq2 hx1
       refine hK.out _ _ hx2 (fun hHeld=>?_)
       clear hK K
       try simp only [put_laws]
       refine wpAnyH_ready (rs:=[5]) (by kernel_rfl) (by simp) ?_; refine AllReadyH.cons rfl (fun K hK=>?_) AllReadyH.nil
       rw [if_pos (by rfl)]
       refine wpo_alloc 265 rfl (tchL zTch) Tryz.zeroTouch ?_
       refine hK.out _ _ (hx2.alloc hx2.size _) (fun hHeld=>?_)
       clear hK K
       try simp only [put_laws]
       refine wpAnyH_ready (rs:=[6]) (by kernel_rfl) (by simp) ?_; refine AllReadyH.cons rfl (fun K hK=>?_) AllReadyH.nil
       rw [if_pos (by rfl)]
       refine wpo_store_new 265 _ _ rfl _ _ (tchL (touchF p (threadF c i))) _ rfl rfl rfl Tryz.sizeTouch rfl (one_tch _) ?_
       refine hK.out _ _ (hx2.alloc hx2.size _) (fun hHeld=>?_)
       clear hK K
       try simp only [put_laws]
       refine wpAnyH_done (by kernel_rfl) ?_ _
       have hF1:(x2.alloc (.cells (tchL (touchF p (threadF c i))).toArray 265)).heap[x2.heap.size]? = some (.cells (tchL (touchF p (threadF c i))).toArray 265 (0,0)):=heap_alloc_new _ _
       have hbw4:=hHeld
       have hgF1:wr.heap.size ≤ x2.heap.size:=hx2.size
       clear hHeld hx2
       generalize x2.alloc (.cells (tchL (touchF p (threadF c i))).toArray 265) = w4 at *
       generalize x2.heap.size = F1 at *
       have hrP2:=rg_below hrP1 hbw4
       have hrC2:=rg_below hrC1 hbw4
       have HB4:=hide (HBr.out.trans (hbw4.mono HBr.out.size))
       go_wp2_with fail
       refine wp_region_held_drew (S:=fun w'=>Below w4.heap.size w4 w') (by kernel_rfl) (Below.refl _ _).drew (fun hHeld=>?_)
       refine wpAnyH_take (i:=0) rfl (by kernel_rfl) (by kernel_rfl) (by kernel_rfl) (fun _ _ _ h=>h) (yieldsIf_load_mid (by rfl) _ _ rfl w.heap.size 0 rfl (plL p v) _ (fun _ h=>rg_below hrP2 h) Tryz.underlying123 rfl Tryz.sizeProgram) (by assumption) ?_
       try simp only [put_laws]
       refine wpAnyH_take (i:=1) rfl (by kernel_rfl) (by kernel_rfl) (by kernel_rfl) (fun _ _ _ h=>h) (yieldsIf_load_mid (by rfl) _ _ rfl (w.heap.size + 1) 0 rfl (cfgL c) _ (fun _ h=>rg_below hrC2 h) Tryz.underlying140 rfl Tryz.sizeConfig) (by assumption) ?_
       try simp only [put_laws]
       refine wpAnyH_take (i:=2) (v:=?_) rfl (by kernel_rfl) (by kernel_rfl) (by kernel_rfl) (fun _ _ _ h=>h) (Or.inl ⟨by rfl,?_⟩) (by assumption) ?_; rotate_left; focus (intro w' hSw; go_simp; (first | done | with_reducible rfl)); (try simp only [put_laws])
       refine wpAnyH_ready (rs:=[3,5]) (by kernel_rfl) (by simp) ?_; refine AllReadyH.cons rfl (fun K hK=>?_) (AllReadyH.cons rfl (fun K hK=>?_) AllReadyH.nil)
       ·go_simp
        refine (py_thread c j _).mono ?_
        rintro e x1 ⟨rfl,hq1⟩
        have hx1:Below w4.heap.size w4 x1:=(Below.refl _ _).drew.trans hq1
        clear hq1
        refine hK.out _ _ hx1 (fun hHeld=>?_)
        clear hK K
        try simp only [put_laws]
        refine wpAnyH_ready (rs:=[4,5]) (by kernel_rfl) (by simp) ?_; refine AllReadyH.cons rfl (fun K hK=>?_) (AllReadyH.cons rfl (fun K hK=>?_) AllReadyH.nil)
        ·go_simp
         refine (py_touchOf p v (threadF c j) _ (HPW.out.below (HB4.out.trans (hx1.mono HB4.out.size)))).mono ?_
         rintro e x2 ⟨rfl,hq2⟩
         have hx2:Below w4.heap.size w4 x2:=hx1.trans (hq2.mono hx1.size)
         clear hq2 hx1
         refine hK.out _ _ hx2 (fun hHeld=>?_)
         clear hK K
         try simp only [put_laws]
         refine wpAnyH_ready (rs:=[5]) (by kernel_rfl) (by simp) ?_; refine AllReadyH.cons rfl (fun K hK=>?_) AllReadyH.nil
         rw [if_pos (by rfl)]
         refine wpo_alloc 265 rfl (tchL zTch) Tryz.zeroTouch ?_
         refine hK.out _ _ (hx2.alloc hx2.size _) (fun hHeld=>?_)
         clear hK K
         try simp only [put_laws]
         refine wpAnyH_ready (rs:=[6]) (by kernel_rfl) (by simp) ?_; refine AllReadyH.cons rfl (fun K hK=>?_) AllReadyH.nil
         rw [if_pos (by rfl)]
         refine wpo_store_new 265 _ _ rfl _ _ (tchL (touchF p (threadF c j))) _ rfl rfl rfl Tryz.sizeTouch rfl (one_tch _) ?_
         refine hK.out _ _ (hx2.alloc hx2.size _) (fun hHeld=>?_)
         clear hK K
         try simp only [put_laws]
         refine wpAnyH_done (by kernel_rfl) ?_ _
         have hF2:(x2.alloc (.cells (tchL (touchF p (threadF c j))).toArray 265)).heap[x2.heap.size]? = some (.cells (tchL (touchF p (threadF c j))).toArray 265 (0,0)):=heap_alloc_new _ _
         have hbw5:=hHeld
         have hgF2:w4.heap.size ≤ x2.heap.size:=hx2.size
         clear hHeld hx2
         generalize x2.alloc (.cells (tchL (touchF p (threadF c j))).toArray 265) = w5 at *
         generalize x2.heap.size = F2 at *
         have hrA:w5.rangeAt F1 0 (tchL (touchF p (threadF c i))):=range_whole ((hbw5.block _ (by have:=(Array.getElem?_eq_some_iff.1 hF1).1; omega)).trans hF1)
         have hrB:w5.rangeAt F2 0 (tchL (touchF p (threadF c j))):=range_whole hF2
         have HB5:Hid (Below W.heap.size W w5):=HBr.out.trans ((hbw4.trans (hbw5.mono hbw4.size)).mono HBr.out.size)
         clear hF1 hF2 hbw4 hbw5 hrP1 hrC1 hrP2 hrC2
         go_wp2_with (first | (refine wpList_load_mid rfl 265 _ rfl _ _ rfl (tchL (touchF p (threadF c i))) _ hrA Tryz.underlying265 rfl Tryz.sizeTouch ?_) | (refine wpList_load_mid rfl 265 _ rfl _ _ rfl (tchL (touchF p (threadF c j))) _ hrB Tryz.underlying265 rfl Tryz.sizeTouch ?_))
         refine (py_spoils (touchF p (threadF c i)) (touchF p (threadF c j)) _).mono ?_
         rintro e w6 ⟨rfl,hb6⟩
         have HB6:=hide (HB5.out.trans (hb6.mono HB5.out.size))
         have hrA6:=rg_below hrA hb6
         have hrB6:=rg_below hrB hb6
         clear hb6 hrA hrB
         cases h1:spoilsF (touchF p (threadF c i)) (touchF p (threadF c j)) with
         | true =>
          have HE:Hid (raceF p c = true):=race_found p c (by omega) hji (by unfold clashT; rw [h1]; rfl)
          clear h1
          go_wp2_with fail
          go_ret
          exact ⟨ret_bool HE.out.symm,HBW.out.trans (HB6.out.mono (by omega))⟩
         | false =>
          go_wp2_with (first | (refine wpl_load_w (by rfl) 265 _ rfl _ _ rfl (tchL (touchF p (threadF c i))) _ hrA6 Tryz.underlying265 rfl Tryz.sizeTouch ?_) | (refine wpl_load_w (by rfl) 265 _ rfl _ _ rfl (tchL (touchF p (threadF c j))) _ hrB6 Tryz.underlying265 rfl Tryz.sizeTouch ?_))
          refine (py_spoils (touchF p (threadF c j)) (touchF p (threadF c i)) _).mono ?_
          rintro e w7 ⟨rfl,hb7⟩
          have HB7:=hide (HB6.out.trans (hb7.mono HB6.out.size))
          clear hb7 hrA6 hrB6
          cases h2:spoilsF (touchF p (threadF c j)) (touchF p (threadF c i)) with
          | true =>
           have HE:Hid (raceF p c = true):=race_found p c (by omega) hji (by unfold clashT; rw [h1,h2]; rfl)
           clear h1 h2
           go_wp2_with fail
           go_ret
           exact ⟨ret_bool HE.out.symm,HBW.out.trans (HB7.out.mono (by omega))⟩
          | false =>
           have HC:Hid (clashT p (threadF c i) (threadF c j) = false):=by show _ = _; unfold clashT; rw [h1,h2]; rfl
           clear h1 h2
           go_wp2_with fail
           go_roundw
           case rel=>exact ⟨j + 1,by go_num,by omega,fun b hb=>by (rcases Nat.lt_or_eq_of_le (Nat.le_of_lt_succ hb) with h | h; exact HNj.out b h; rw [h]; exact HC.out),HB7.out⟩
           case measure=>simp [intOf]; omega
        ·rw [if_pos (by rfl)]
         refine wpo_alloc 265 rfl (tchL zTch) Tryz.zeroTouch ?_
         have hxa:Below w4.heap.size w4 (x1.alloc (.cells (tchL zTch).toArray 265)):=hx1.alloc hx1.size _
         refine hK.out _ _ hxa (fun hHeld=>?_)
         clear hK K
         try simp only [put_laws]
         refine wpAnyH_ready (rs:=[4]) (by kernel_rfl) (by simp) ?_; refine AllReadyH.cons rfl (fun K hK=>?_) AllReadyH.nil
         go_simp
         refine (py_touchOf p v (threadF c j) _ (HPW.out.below (HB4.out.trans (hxa.mono HB4.out.size)))).mono ?_
         rintro e x2 ⟨rfl,hq2⟩
         have hx2:Below w4.heap.size w4 x2:=hxa.trans (hq2.mono hxa.size)
         have hL0:x2.heap[x1.heap.size]? = some (.cells (tchL zTch).toArray 265 (0,0)):=(hq2.block _ (by simp)).trans (heap_alloc_new _ _)
         have hge:w4.heap.size ≤ x1.heap.size:=hx1.size
         clear hq2 hxa hx1
         refine hK.out _ _ hx2 (fun hHeld=>?_)
         clear hK K
         try simp only [put_laws]
         refine wpAnyH_ready (rs:=[6]) (by kernel_rfl) (by simp) ?_; refine AllReadyH.cons rfl (fun K hK=>?_) AllReadyH.nil
         rw [if_pos (by rfl)]
         refine wpo_store_box 265 _ _ rfl x1.heap.size _ (tchL (touchF p (threadF c j))) _ rfl rfl hL0 Tryz.sizeTouch rfl (one_tch _) ?_
         refine hK.out _ _ (setRow_below hx2 hge) (fun hHeld=>?_)
         clear hK K
         try simp only [put_laws]
         refine wpAnyH_done (by kernel_rfl) ?_ _
         have hF2:(x2.setRow x1.heap.size (tchL (touchF p (threadF c j))).toArray).heap[x1.heap.size]? = some (.cells (tchL (touchF p (threadF c j))).toArray 265 (0,0)):=setRow_heap hL0
         have hbw5:=hHeld
         have hgF2:=hge
         clear hHeld hx2 hL0 hge
         generalize x2.setRow x1.heap.size (tchL (touchF p (threadF c j))).toArray = w5 at *
         generalize x1.heap.size = F2 at *
         have hrA:w5.rangeAt F1 0 (tchL (touchF p (threadF c i))):=range_whole ((hbw5.block _ (by have:=(Array.getElem?_eq_some_iff.1 hF1).1; omega)).trans hF1)
         have hrB:w5.rangeAt F2 0 (tchL (touchF p (threadF c j))):=range_whole hF2
         have HB5:Hid (Below W.heap.size W w5):=HBr.out.trans ((hbw4.trans (hbw5.mono hbw4.size)).mono HBr.out.size)
         clear hF1 hF2 hbw4 hbw5 hrP1 hrC1 hrP2 hrC2
         go_wp2_with (first | (refine wpList_load_mid rfl 265 _ rfl _ _ rfl (tchL (touchF p (threadF c i))) _ hrA Tryz.underlying265 rfl Tryz.sizeTouch ?_) | (refine wpList_load_mid rfl 265 _ rfl _ _ rfl (tchL (touchF p (threadF c j))) _ hrB Tryz.underlying265 rfl Tryz.sizeTouch ?_))
         refine (py_spoils (touchF p (threadF c i)) (touchF p (threadF c j)) _).mono ?_
         rintro e w6 ⟨rfl,hb6⟩
         have HB6:=hide (HB5.out.trans (hb6.mono HB5.out.size))
         have hrA6:=rg_below hrA hb6
         have hrB6:=rg_below hrB hb6
         clear hb6 hrA hrB
         cases h1:spoilsF (touchF p (threadF c i)) (touchF p (threadF c j)) with
         | true =>
          have HE:Hid (raceF p c = true):=race_found p c (by omega) hji (by unfold clashT; rw [h1]; rfl)
          clear h1
          go_wp2_with fail
          go_ret
          exact ⟨ret_bool HE.out.symm,HBW.out.trans (HB6.out.mono (by omega))⟩
         | false =>
          go_wp2_with (first | (refine wpl_load_w (by rfl) 265 _ rfl _ _ rfl (tchL (touchF p (threadF c i))) _ hrA6 Tryz.underlying265 rfl Tryz.sizeTouch ?_) | (refine wpl_load_w (by rfl) 265 _ rfl _ _ rfl (tchL (touchF p (threadF c j))) _ hrB6 Tryz.underlying265 rfl Tryz.sizeTouch ?_))
          refine (py_spoils (touchF p (threadF c j)) (touchF p (threadF c i)) _).mono ?_
          rintro e w7 ⟨rfl,hb7⟩
          have HB7:=hide (HB6.out.trans (hb7.mono HB6.out.size))
          clear hb7 hrA6 hrB6
          cases h2:spoilsF (touchF p (threadF c j)) (touchF p (threadF c i)) with
          | true =>
           have HE:Hid (raceF p c = true):=race_found p c (by omega) hji (by unfold clashT; rw [h1,h2]; rfl)
           clear h1 h2
           go_wp2_with fail
           go_ret
           exact ⟨ret_bool HE.out.symm,HBW.out.trans (HB7.out.mono (by omega))⟩
          | false =>
           have HC:Hid (clashT p (threadF c i) (threadF c j) = false):=by show _ = _; unfold clashT; rw [h1,h2]; rfl
           clear h1 h2
           go_wp2_with fail
           go_roundw
           case rel=>exact ⟨j + 1,by go_num,by omega,fun b hb=>by (rcases Nat.lt_or_eq_of_le (Nat.le_of_lt_succ hb) with h | h; exact HNj.out b h; rw [h]; exact HC.out),HB7.out⟩
           case measure=>simp [intOf]; omega
       ·rw [if_pos (by rfl)]
        refine wpo_alloc 265 rfl (tchL zTch) Tryz.zeroTouch ?_
        have hxa:Below w4.heap.size w4 (w4.drew.alloc (.cells (tchL zTch).toArray 265)):=(Below.refl _ _).drew.alloc (Nat.le_refl _) _
        refine hK.out _ _ hxa (fun hHeld=>?_)
        clear hK K
        try simp only [put_laws]
        refine wpAnyH_ready (rs:=[3]) (by kernel_rfl) (by simp) ?_; refine AllReadyH.cons rfl (fun K hK=>?_) AllReadyH.nil
        go_simp
        refine (py_thread c j _).mono ?_
        rintro e x1 ⟨rfl,hq1⟩
        have hx1:Below w4.heap.size w4 x1:=hxa.trans (hq1.mono hxa.size)
        have hL1:x1.heap[w4.heap.size]? = some (.cells (tchL zTch).toArray 265 (0,0)):=(hq1.block _ (by simp)).trans (heap_alloc_new w4.drew _)
        have hz1:w4.heap.size < x1.heap.size:=(Array.getElem?_eq_some_iff.1 hL1).1
        clear hq1 hxa
        refine hK.out _ _ hx1 (fun hHeld=>?_)
        clear hK K
        try simp only [put_laws]
        refine wpAnyH_ready (rs:=[4]) (by kernel_rfl) (by simp) ?_; refine AllReadyH.cons rfl (fun K hK=>?_) AllReadyH.nil
        go_simp
        refine (py_touchOf p v (threadF c j) _ (HPW.out.below (HB4.out.trans (hx1.mono HB4.out.size)))).mono ?_
        rintro e x2 ⟨rfl,hq2⟩
        have hx2:Below w4.heap.size w4 x2:=hx1.trans (hq2.mono hx1.size)
        have hL0:=(hq2.block _ hz1).trans hL1
        have hge:w4.heap.size ≤ w4.heap.size:=Nat.le_refl _
        clear hq2 hx1 hL1 hz1
        refine hK.out _ _ hx2 (fun hHeld=>?_)
        clear hK K
        try simp only [put_laws]
        refine wpAnyH_ready (rs:=[6]) (by kernel_rfl) (by simp) ?_; refine AllReadyH.cons rfl (fun K hK=>?_) AllReadyH.nil
        rw [if_pos (by rfl)]
        refine wpo_store_box 265 _ _ rfl w4.heap.size _ (tchL (touchF p (threadF c j))) _ rfl rfl hL0 Tryz.sizeTouch rfl (one_tch _) ?_
        refine hK.out _ _ (setRow_below hx2 hge) (fun hHeld=>?_)
        clear hK K
        try simp only [put_laws]
        refine wpAnyH_done (by kernel_rfl) ?_ _
        have hF2:(x2.setRow w4.heap.size (tchL (touchF p (threadF c j))).toArray).heap[w4.heap.size]? = some (.cells (tchL (touchF p (threadF c j))).toArray 265 (0,0)):=setRow_heap hL0
        have hbw5:=hHeld
        have hgF2:=hge
        clear hHeld hx2 hL0 hge
        generalize x2.setRow w4.heap.size (tchL (touchF p (threadF c j))).toArray = w5 at *
        obtain ⟨F2,hEF2⟩:∃ n,n = w4.heap.size:=⟨_,rfl⟩
        rw [← hEF2] at hF2 ⊢
        have hgF2:w4.heap.size ≤ F2:=by omega
        clear hEF2
        have hrA:w5.rangeAt F1 0 (tchL (touchF p (threadF c i))):=range_whole ((hbw5.block _ (by have:=(Array.getElem?_eq_some_iff.1 hF1).1; omega)).trans hF1)
        have hrB:w5.rangeAt F2 0 (tchL (touchF p (threadF c j))):=range_whole hF2
        have HB5:Hid (Below W.heap.size W w5):=HBr.out.trans ((hbw4.trans (hbw5.mono hbw4.size)).mono HBr.out.size)
        clear hF1 hF2 hbw4 hbw5 hrP1 hrC1 hrP2 hrC2
        go_wp2_with (first | (refine wpList_load_mid rfl 265 _ rfl _ _ rfl (tchL (touchF p (threadF c i))) _ hrA Tryz.underlying265 rfl Tryz.sizeTouch ?_) | (refine wpList_load_mid rfl 265 _ rfl _ _ rfl (tchL (touchF p (threadF c j))) _ hrB Tryz.underlying265 rfl Tryz.sizeTouch ?_))
        refine (py_spoils (touchF p (threadF c i)) (touchF p (threadF c j)) _).mono ?_
        rintro e w6 ⟨rfl,hb6⟩
        have HB6:=hide (HB5.out.trans (hb6.mono HB5.out.size))
        have hrA6:=rg_below hrA hb6
        have hrB6:=rg_below hrB hb6
        clear hb6 hrA hrB
        cases h1:spoilsF (touchF p (threadF c i)) (touchF p (threadF c j)) with
        | true =>
         have HE:Hid (raceF p c = true):=race_found p c (by omega) hji (by unfold clashT; rw [h1]; rfl)
         clear h1
         go_wp2_with fail
         go_ret
         exact ⟨ret_bool HE.out.symm,HBW.out.trans (HB6.out.mono (by omega))⟩
        | false =>
         go_wp2_with (first | (refine wpl_load_w (by rfl) 265 _ rfl _ _ rfl (tchL (touchF p (threadF c i))) _ hrA6 Tryz.underlying265 rfl Tryz.sizeTouch ?_) | (refine wpl_load_w (by rfl) 265 _ rfl _ _ rfl (tchL (touchF p (threadF c j))) _ hrB6 Tryz.underlying265 rfl Tryz.sizeTouch ?_))
         refine (py_spoils (touchF p (threadF c j)) (touchF p (threadF c i)) _).mono ?_
         rintro e w7 ⟨rfl,hb7⟩
         have HB7:=hide (HB6.out.trans (hb7.mono HB6.out.size))
         clear hb7 hrA6 hrB6
         cases h2:spoilsF (touchF p (threadF c j)) (touchF p (threadF c i)) with
         | true =>
          have HE:Hid (raceF p c = true):=race_found p c (by omega) hji (by unfold clashT; rw [h1,h2]; rfl)
          clear h1 h2
          go_wp2_with fail
          go_ret
          exact ⟨ret_bool HE.out.symm,HBW.out.trans (HB7.out.mono (by omega))⟩
         | false =>
          have HC:Hid (clashT p (threadF c i) (threadF c j) = false):=by show _ = _; unfold clashT; rw [h1,h2]; rfl
          clear h1 h2
          go_wp2_with fail
          go_roundw
          case rel=>exact ⟨j + 1,by go_num,by omega,fun b hb=>by (rcases Nat.lt_or_eq_of_le (Nat.le_of_lt_succ hb) with h | h; exact HNj.out b h; rw [h]; exact HC.out),HB7.out⟩
          case measure=>simp [intOf]; omega
      ·rw [if_pos (by rfl)]
       refine wpo_alloc 265 rfl (tchL zTch) Tryz.zeroTouch ?_
       have hxa:Below wr.heap.size wr (x1.alloc (.cells (tchL zTch).toArray 265)):=hx1.alloc hx1.size _
       refine hK.out _ _ hxa (fun hHeld=>?_)
       clear hK K
       try simp only [put_laws]
       refine wpAnyH_ready (rs:=[4]) (by kernel_rfl) (by simp) ?_; refine AllReadyH.cons rfl (fun K hK=>?_) AllReadyH.nil
       go_simp
       refine (py_touchOf p v (threadF c i) _ (HPW.out.below (HBr.out.trans (hxa.mono HBr.out.size)))).mono ?_
       rintro e x2 ⟨rfl,hq2⟩
       have hx2:Below wr.heap.size wr x2:=hxa.trans (hq2.mono hxa.size)
       have hL0:x2.heap[x1.heap.size]? = some (.cells (tchL zTch).toArray 265 (0,0)):=(hq2.block _ (by simp)).trans (heap_alloc_new _ _)
       have hge:wr.heap.size ≤ x1.heap.size:=hx1.size
       clear hq2 hxa hx1
       refine hK.out _ _ hx2 (fun hHeld=>?_)
       clear hK K
       try simp only [put_laws]
       refine wpAnyH_ready (rs:=[6]) (by kernel_rfl) (by simp) ?_; refine AllReadyH.cons rfl (fun K hK=>?_) AllReadyH.nil
       rw [if_pos (by rfl)]
       refine wpo_store_box 265 _ _ rfl x1.heap.size _ (tchL (touchF p (threadF c i))) _ rfl rfl hL0 Tryz.sizeTouch rfl (one_tch _) ?_
       refine hK.out _ _ (setRow_below hx2 hge) (fun hHeld=>?_)
       clear hK K
       try simp only [put_laws]
       refine wpAnyH_done (by kernel_rfl) ?_ _
       have hF1:(x2.setRow x1.heap.size (tchL (touchF p (threadF c i))).toArray).heap[x1.heap.size]? = some (.cells (tchL (touchF p (threadF c i))).toArray 265 (0,0)):=setRow_heap hL0
       have hbw4:=hHeld
       have hgF1:=hge
       clear hHeld hx2 hL0 hge
       generalize x2.setRow x1.heap.size (tchL (touchF p (threadF c i))).toArray = w4 at *
       generalize x1.heap.size = F1 at *
       have hrP2:=rg_below hrP1 hbw4
       have hrC2:=rg_below hrC1 hbw4
       have HB4:=hide (HBr.out.trans (hbw4.mono HBr.out.size))
       go_wp2_with fail
       refine wp_region_held_drew (S:=fun w'=>Below w4.heap.size w4 w') (by kernel_rfl) (Below.refl _ _).drew (fun hHeld=>?_)
       refine wpAnyH_take (i:=0) rfl (by kernel_rfl) (by kernel_rfl) (by kernel_rfl) (fun _ _ _ h=>h) (yieldsIf_load_mid (by rfl) _ _ rfl w.heap.size 0 rfl (plL p v) _ (fun _ h=>rg_below hrP2 h) Tryz.underlying123 rfl Tryz.sizeProgram) (by assumption) ?_
       try simp only [put_laws]
       refine wpAnyH_take (i:=1) rfl (by kernel_rfl) (by kernel_rfl) (by kernel_rfl) (fun _ _ _ h=>h) (yieldsIf_load_mid (by rfl) _ _ rfl (w.heap.size + 1) 0 rfl (cfgL c) _ (fun _ h=>rg_below hrC2 h) Tryz.underlying140 rfl Tryz.sizeConfig) (by assumption) ?_
       try simp only [put_laws]
       refine wpAnyH_take (i:=2) (v:=?_) rfl (by kernel_rfl) (by kernel_rfl) (by kernel_rfl) (fun _ _ _ h=>h) (Or.inl ⟨by rfl,?_⟩) (by assumption) ?_; rotate_left; focus (intro w' hSw; go_simp; (first | done | with_reducible rfl)); (try simp only [put_laws])
       refine wpAnyH_ready (rs:=[3,5]) (by kernel_rfl) (by simp) ?_; refine AllReadyH.cons rfl (fun K hK=>?_) (AllReadyH.cons rfl (fun K hK=>?_) AllReadyH.nil)
       ·go_simp
        refine (py_thread c j _).mono ?_
        rintro e x1 ⟨rfl,hq1⟩
        have hx1:Below w4.heap.size w4 x1:=(Below.refl _ _).drew.trans hq1
        clear hq1
        refine hK.out _ _ hx1 (fun hHeld=>?_)
        clear hK K
        try simp only [put_laws]
        refine wpAnyH_ready (rs:=[4,5]) (by kernel_rfl) (by simp) ?_; refine AllReadyH.cons rfl (fun K hK=>?_) (AllReadyH.cons rfl (fun K hK=>?_) AllReadyH.nil)
        ·go_simp
         refine (py_touchOf p v (threadF c j) _ (HPW.out.below (HB4.out.trans (hx1.mono HB4.out.size)))).mono ?_
         rintro e x2 ⟨rfl,hq2⟩
         have hx2:Below w4.heap.size w4 x2:=hx1.trans (hq2.mono hx1.size)
         clear hq2 hx1
         refine hK.out _ _ hx2 (fun hHeld=>?_)
         clear hK K
         try simp only [put_laws]
         refine wpAnyH_ready (rs:=[5]) (by kernel_rfl) (by simp) ?_; refine AllReadyH.cons rfl (fun K hK=>?_) AllReadyH.nil
         rw [if_pos (by rfl)]
         refine wpo_alloc 265 rfl (tchL zTch) Tryz.zeroTouch ?_
         refine hK.out _ _ (hx2.alloc hx2.size _) (fun hHeld=>?_)
         clear hK K
         try simp only [put_laws]
         refine wpAnyH_ready (rs:=[6]) (by kernel_rfl) (by simp) ?_; refine AllReadyH.cons rfl (fun K hK=>?_) AllReadyH.nil
         rw [if_pos (by rfl)]
         refine wpo_store_new 265 _ _ rfl _ _ (tchL (touchF p (threadF c j))) _ rfl rfl rfl Tryz.sizeTouch rfl (one_tch _) ?_
         refine hK.out _ _ (hx2.alloc hx2.size _) (fun hHeld=>?_)
         clear hK K
         try simp only [put_laws]
         refine wpAnyH_done (by kernel_rfl) ?_ _
         have hF2:(x2.alloc (.cells (tchL (touchF p (threadF c j))).toArray 265)).heap[x2.heap.size]? = some (.cells (tchL (touchF p (threadF c j))).toArray 265 (0,0)):=heap_alloc_new _ _
         have hbw5:=hHeld
         have hgF2:w4.heap.size ≤ x2.heap.size:=hx2.size
         clear hHeld hx2
         generalize x2.alloc (.cells (tchL (touchF p (threadF c j))).toArray 265) = w5 at *
         generalize x2.heap.size = F2 at *
         have hrA:w5.rangeAt F1 0 (tchL (touchF p (threadF c i))):=range_whole ((hbw5.block _ (by have:=(Array.getElem?_eq_some_iff.1 hF1).1; omega)).trans hF1)
         have hrB:w5.rangeAt F2 0 (tchL (touchF p (threadF c j))):=range_whole hF2
         have HB5:Hid (Below W.heap.size W w5):=HBr.out.trans ((hbw4.trans (hbw5.mono hbw4.size)).mono HBr.out.size)
         clear hF1 hF2 hbw4 hbw5 hrP1 hrC1 hrP2 hrC2
         go_wp2_with (first | (refine wpList_load_mid rfl 265 _ rfl _ _ rfl (tchL (touchF p (threadF c i))) _ hrA Tryz.underlying265 rfl Tryz.sizeTouch ?_) | (refine wpList_load_mid rfl 265 _ rfl _ _ rfl (tchL (touchF p (threadF c j))) _ hrB Tryz.underlying265 rfl Tryz.sizeTouch ?_))
         refine (py_spoils (touchF p (threadF c i)) (touchF p (threadF c j)) _).mono ?_
         rintro e w6 ⟨rfl,hb6⟩
         have HB6:=hide (HB5.out.trans (hb6.mono HB5.out.size))
         have hrA6:=rg_below hrA hb6
         have hrB6:=rg_below hrB hb6
         clear hb6 hrA hrB
         cases h1:spoilsF (touchF p (threadF c i)) (touchF p (threadF c j)) with
         | true =>
          have HE:Hid (raceF p c = true):=race_found p c (by omega) hji (by unfold clashT; rw [h1]; rfl)
          clear h1
          go_wp2_with fail
          go_ret
          exact ⟨ret_bool HE.out.symm,HBW.out.trans (HB6.out.mono (by omega))⟩
         | false =>
          go_wp2_with (first | (refine wpl_load_w (by rfl) 265 _ rfl _ _ rfl (tchL (touchF p (threadF c i))) _ hrA6 Tryz.underlying265 rfl Tryz.sizeTouch ?_) | (refine wpl_load_w (by rfl) 265 _ rfl _ _ rfl (tchL (touchF p (threadF c j))) _ hrB6 Tryz.underlying265 rfl Tryz.sizeTouch ?_))
          refine (py_spoils (touchF p (threadF c j)) (touchF p (threadF c i)) _).mono ?_
          rintro e w7 ⟨rfl,hb7⟩
          have HB7:=hide (HB6.out.trans (hb7.mono HB6.out.size))
          clear hb7 hrA6 hrB6
          cases h2:spoilsF (touchF p (threadF c j)) (touchF p (threadF c i)) with
          | true =>
           have HE:Hid (raceF p c = true):=race_found p c (by omega) hji (by unfold clashT; rw [h1,h2]; rfl)
           clear h1 h2
           go_wp2_with fail
           go_ret
           exact ⟨ret_bool HE.out.symm,HBW.out.trans (HB7.out.mono (by omega))⟩
          | false =>
           have HC:Hid (clashT p (threadF c i) (threadF c j) = false):=by show _ = _; unfold clashT; rw [h1,h2]; rfl
           clear h1 h2
           go_wp2_with fail
           go_roundw
           case rel=>exact ⟨j + 1,by go_num,by omega,fun b hb=>by (rcases Nat.lt_or_eq_of_le (Nat.le_of_lt_succ hb) with h | h; exact HNj.out b h; rw [h]; exact HC.out),HB7.out⟩
           case measure=>simp [intOf]; omega
        ·rw [if_pos (by rfl)]
         refine wpo_alloc 265 rfl (tchL zTch) Tryz.zeroTouch ?_
         have hxa:Below w4.heap.size w4 (x1.alloc (.cells (tchL zTch).toArray 265)):=hx1.alloc hx1.size _
         refine hK.out _ _ hxa (fun hHeld=>?_)
         clear hK K
         try simp only [put_laws]
         refine wpAnyH_ready (rs:=[4]) (by kernel_rfl) (by simp) ?_; refine AllReadyH.cons rfl (fun K hK=>?_) AllReadyH.nil
         go_simp
         refine (py_touchOf p v (threadF c j) _ (HPW.out.below (HB4.out.trans (hxa.mono HB4.out.size)))).mono ?_
         rintro e x2 ⟨rfl,hq2⟩
         have hx2:Below w4.heap.size w4 x2:=hxa.trans (hq2.mono hxa.size)
         have hL0:x2.heap[x1.heap.size]? = some (.cells (tchL zTch).toArray 265 (0,0)):=(hq2.block _ (by simp)).trans (heap_alloc_new _ _)
         have hge:w4.heap.size ≤ x1.heap.size:=hx1.size
         clear hq2 hxa hx1
         refine hK.out _ _ hx2 (fun hHeld=>?_)
         clear hK K
         try simp only [put_laws]
         refine wpAnyH_ready (rs:=[6]) (by kernel_rfl) (by simp) ?_; refine AllReadyH.cons rfl (fun K hK=>?_) AllReadyH.nil
         rw [if_pos (by rfl)]
         refine wpo_store_box 265 _ _ rfl x1.heap.size _ (tchL (touchF p (threadF c j))) _ rfl rfl hL0 Tryz.sizeTouch rfl (one_tch _) ?_
         refine hK.out _ _ (setRow_below hx2 hge) (fun hHeld=>?_)
         clear hK K
         try simp only [put_laws]
         refine wpAnyH_done (by kernel_rfl) ?_ _
         have hF2:(x2.setRow x1.heap.size (tchL (touchF p (threadF c j))).toArray).heap[x1.heap.size]? = some (.cells (tchL (touchF p (threadF c j))).toArray 265 (0,0)):=setRow_heap hL0
         have hbw5:=hHeld
         have hgF2:=hge
         clear hHeld hx2 hL0 hge
         generalize x2.setRow x1.heap.size (tchL (touchF p (threadF c j))).toArray = w5 at *
         generalize x1.heap.size = F2 at *
         have hrA:w5.rangeAt F1 0 (tchL (touchF p (threadF c i))):=range_whole ((hbw5.block _ (by have:=(Array.getElem?_eq_some_iff.1 hF1).1; omega)).trans hF1)
         have hrB:w5.rangeAt F2 0 (tchL (touchF p (threadF c j))):=range_whole hF2
         have HB5:Hid (Below W.heap.size W w5):=HBr.out.trans ((hbw4.trans (hbw5.mono hbw4.size)).mono HBr.out.size)
         clear hF1 hF2 hbw4 hbw5 hrP1 hrC1 hrP2 hrC2
         go_wp2_with (first | (refine wpList_load_mid rfl 265 _ rfl _ _ rfl (tchL (touchF p (threadF c i))) _ hrA Tryz.underlying265 rfl Tryz.sizeTouch ?_) | (refine wpList_load_mid rfl 265 _ rfl _ _ rfl (tchL (touchF p (threadF c j))) _ hrB Tryz.underlying265 rfl Tryz.sizeTouch ?_))
         refine (py_spoils (touchF p (threadF c i)) (touchF p (threadF c j)) _).mono ?_
         rintro e w6 ⟨rfl,hb6⟩
         have HB6:=hide (HB5.out.trans (hb6.mono HB5.out.size))
         have hrA6:=rg_below hrA hb6
         have hrB6:=rg_below hrB hb6
         clear hb6 hrA hrB
         cases h1:spoilsF (touchF p (threadF c i)) (touchF p (threadF c j)) with
         | true =>
          have HE:Hid (raceF p c = true):=race_found p c (by omega) hji (by unfold clashT; rw [h1]; rfl)
          clear h1
          go_wp2_with fail
          go_ret
          exact ⟨ret_bool HE.out.symm,HBW.out.trans (HB6.out.mono (by omega))⟩
         | false =>
          go_wp2_with (first | (refine wpl_load_w (by rfl) 265 _ rfl _ _ rfl (tchL (touchF p (threadF c i))) _ hrA6 Tryz.underlying265 rfl Tryz.sizeTouch ?_) | (refine wpl_load_w (by rfl) 265 _ rfl _ _ rfl (tchL (touchF p (threadF c j))) _ hrB6 Tryz.underlying265 rfl Tryz.sizeTouch ?_))
          refine (py_spoils (touchF p (threadF c j)) (touchF p (threadF c i)) _).mono ?_
          rintro e w7 ⟨rfl,hb7⟩
          have HB7:=hide (HB6.out.trans (hb7.mono HB6.out.size))
          clear hb7 hrA6 hrB6
          cases h2:spoilsF (touchF p (threadF c j)) (touchF p (threadF c i)) with
          | true =>
           have HE:Hid (raceF p c = true):=race_found p c (by omega) hji (by unfold clashT; rw [h1,h2]; rfl)
           clear h1 h2
           go_wp2_with fail
           go_ret
           exact ⟨ret_bool HE.out.symm,HBW.out.trans (HB7.out.mono (by omega))⟩
          | false =>
           have HC:Hid (clashT p (threadF c i) (threadF c j) = false):=by show _ = _; unfold clashT; rw [h1,h2]; rfl
           clear h1 h2
           go_wp2_with fail
           go_roundw
           case rel=>exact ⟨j + 1,by go_num,by omega,fun b hb=>by (rcases Nat.lt_or_eq_of_le (Nat.le_of_lt_succ hb) with h | h; exact HNj.out b h; rw [h]; exact HC.out),HB7.out⟩
           case measure=>simp [intOf]; omega
       ·rw [if_pos (by rfl)]
        refine wpo_alloc 265 rfl (tchL zTch) Tryz.zeroTouch ?_
        have hxa:Below w4.heap.size w4 (w4.drew.alloc (.cells (tchL zTch).toArray 265)):=(Below.refl _ _).drew.alloc (Nat.le_refl _) _
        refine hK.out _ _ hxa (fun hHeld=>?_)
        clear hK K
        try simp only [put_laws]
        refine wpAnyH_ready (rs:=[3]) (by kernel_rfl) (by simp) ?_; refine AllReadyH.cons rfl (fun K hK=>?_) AllReadyH.nil
        go_simp
        refine (py_thread c j _).mono ?_
        rintro e x1 ⟨rfl,hq1⟩
        have hx1:Below w4.heap.size w4 x1:=hxa.trans (hq1.mono hxa.size)
        have hL1:x1.heap[w4.heap.size]? = some (.cells (tchL zTch).toArray 265 (0,0)):=(hq1.block _ (by simp)).trans (heap_alloc_new w4.drew _)
        have hz1:w4.heap.size < x1.heap.size:=(Array.getElem?_eq_some_iff.1 hL1).1
        clear hq1 hxa
        refine hK.out _ _ hx1 (fun hHeld=>?_)
        clear hK K
        try simp only [put_laws]
        refine wpAnyH_ready (rs:=[4]) (by kernel_rfl) (by simp) ?_; refine AllReadyH.cons rfl (fun K hK=>?_) AllReadyH.nil
        go_simp
        refine (py_touchOf p v (threadF c j) _ (HPW.out.below (HB4.out.trans (hx1.mono HB4.out.size)))).mono ?_
        rintro e x2 ⟨rfl,hq2⟩
        have hx2:Below w4.heap.size w4 x2:=hx1.trans (hq2.mono hx1.size)
        have hL0:=(hq2.block _ hz1).trans hL1
        have hge:w4.heap.size ≤ w4.heap.size:=Nat.le_refl _
        clear hq2 hx1 hL1 hz1
        refine hK.out _ _ hx2 (fun hHeld=>?_)
        clear hK K
        try simp only [put_laws]
        refine wpAnyH_ready (rs:=[6]) (by kernel_rfl) (by simp) ?_; refine AllReadyH.cons rfl (fun K hK=>?_) AllReadyH.nil
        rw [if_pos (by rfl)]
        refine wpo_store_box 265 _ _ rfl w4.heap.size _ (tchL (touchF p (threadF c j))) _ rfl rfl hL0 Tryz.sizeTouch rfl (one_tch _) ?_
        refine hK.out _ _ (setRow_below hx2 hge) (fun hHeld=>?_)
        clear hK K
        try simp only [put_laws]
        refine wpAnyH_done (by kernel_rfl) ?_ _
        have hF2:(x2.setRow w4.heap.size (tchL (touchF p (threadF c j))).toArray).heap[w4.heap.size]? = some (.cells (tchL (touchF p (threadF c j))).toArray 265 (0,0)):=setRow_heap hL0
        have hbw5:=hHeld
        have hgF2:=hge
        clear hHeld hx2 hL0 hge
        generalize x2.setRow w4.heap.size (tchL (touchF p (threadF c j))).toArray = w5 at *
        obtain ⟨F2,hEF2⟩:∃ n,n = w4.heap.size:=⟨_,rfl⟩
        rw [← hEF2] at hF2 ⊢
        have hgF2:w4.heap.size ≤ F2:=by omega
        clear hEF2
        have hrA:w5.rangeAt F1 0 (tchL (touchF p (threadF c i))):=range_whole ((hbw5.block _ (by have:=(Array.getElem?_eq_some_iff.1 hF1).1; omega)).trans hF1)
        have hrB:w5.rangeAt F2 0 (tchL (touchF p (threadF c j))):=range_whole hF2
        have HB5:Hid (Below W.heap.size W w5):=HBr.out.trans ((hbw4.trans (hbw5.mono hbw4.size)).mono HBr.out.size)
        clear hF1 hF2 hbw4 hbw5 hrP1 hrC1 hrP2 hrC2
        go_wp2_with (first | (refine wpList_load_mid rfl 265 _ rfl _ _ rfl (tchL (touchF p (threadF c i))) _ hrA Tryz.underlying265 rfl Tryz.sizeTouch ?_) | (refine wpList_load_mid rfl 265 _ rfl _ _ rfl (tchL (touchF p (threadF c j))) _ hrB Tryz.underlying265 rfl Tryz.sizeTouch ?_))
        refine (py_spoils (touchF p (threadF c i)) (touchF p (threadF c j)) _).mono ?_
        rintro e w6 ⟨rfl,hb6⟩
        have HB6:=hide (HB5.out.trans (hb6.mono HB5.out.size))
        have hrA6:=rg_below hrA hb6
        have hrB6:=rg_below hrB hb6
        clear hb6 hrA hrB
        cases h1:spoilsF (touchF p (threadF c i)) (touchF p (threadF c j)) with
        | true =>
         have HE:Hid (raceF p c = true):=race_found p c (by omega) hji (by unfold clashT; rw [h1]; rfl)
         clear h1
         go_wp2_with fail
         go_ret
         exact ⟨ret_bool HE.out.symm,HBW.out.trans (HB6.out.mono (by omega))⟩
        | false =>
         go_wp2_with (first | (refine wpl_load_w (by rfl) 265 _ rfl _ _ rfl (tchL (touchF p (threadF c i))) _ hrA6 Tryz.underlying265 rfl Tryz.sizeTouch ?_) | (refine wpl_load_w (by rfl) 265 _ rfl _ _ rfl (tchL (touchF p (threadF c j))) _ hrB6 Tryz.underlying265 rfl Tryz.sizeTouch ?_))
         refine (py_spoils (touchF p (threadF c j)) (touchF p (threadF c i)) _).mono ?_
         rintro e w7 ⟨rfl,hb7⟩
         have HB7:=hide (HB6.out.trans (hb7.mono HB6.out.size))
         clear hb7 hrA6 hrB6
         cases h2:spoilsF (touchF p (threadF c j)) (touchF p (threadF c i)) with
         | true =>
          have HE:Hid (raceF p c = true):=race_found p c (by omega) hji (by unfold clashT; rw [h1,h2]; rfl)
          clear h1 h2
          go_wp2_with fail
          go_ret
          exact ⟨ret_bool HE.out.symm,HBW.out.trans (HB7.out.mono (by omega))⟩
         | false =>
          have HC:Hid (clashT p (threadF c i) (threadF c j) = false):=by show _ = _; unfold clashT; rw [h1,h2]; rfl
          clear h1 h2
          go_wp2_with fail
          go_roundw
          case rel=>exact ⟨j + 1,by go_num,by omega,fun b hb=>by (rcases Nat.lt_or_eq_of_le (Nat.le_of_lt_succ hb) with h | h; exact HNj.out b h; rw [h]; exact HC.out),HB7.out⟩
          case measure=>simp [intOf]; omega
     ·rw [if_pos (by rfl)]
      refine wpo_alloc 265 rfl (tchL zTch) Tryz.zeroTouch ?_
      have hxa:Below wr.heap.size wr (wr.drew.alloc (.cells (tchL zTch).toArray 265)):=(Below.refl _ _).drew.alloc (Nat.le_refl _) _
      refine hK.out _ _ hxa (fun hHeld=>?_)
      clear hK K
      try simp only [put_laws]
      refine wpAnyH_ready (rs:=[3]) (by kernel_rfl) (by simp) ?_; refine AllReadyH.cons rfl (fun K hK=>?_) AllReadyH.nil
      go_simp
      refine (py_thread c i _).mono ?_
      rintro e x1 ⟨rfl,hq1⟩
      have hx1:Below wr.heap.size wr x1:=hxa.trans (hq1.mono hxa.size)
      have hL1:x1.heap[wr.heap.size]? = some (.cells (tchL zTch).toArray 265 (0,0)):=(hq1.block _ (by simp)).trans (heap_alloc_new wr.drew _)
      have hz1:wr.heap.size < x1.heap.size:=(Array.getElem?_eq_some_iff.1 hL1).1
      clear hq1 hxa
      refine hK.out _ _ hx1 (fun hHeld=>?_)
      clear hK K
      try simp only [put_laws]
      refine wpAnyH_ready (rs:=[4]) (by kernel_rfl) (by simp) ?_; refine AllReadyH.cons rfl (fun K hK=>?_) AllReadyH.nil
      go_simp
      refine (py_touchOf p v (threadF c i) _ (HPW.out.below (HBr.out.trans (hx1.mono HBr.out.size)))).mono ?_
      rintro e x2 ⟨rfl,hq2⟩
      have hx2:Below wr.heap.size wr x2:=hx1.trans (hq2.mono hx1.size)
      have hL0:=(hq2.block _ hz1).trans hL1
      have hge:wr.heap.size ≤ wr.heap.size:=Nat.le_refl _
      clear hq2 hx1 hL1 hz1
      refine hK.out _ _ hx2 (fun hHeld=>?_)
      clear hK K
      try simp only [put_laws]
      refine wpAnyH_ready (rs:=[6]) (by kernel_rfl) (by simp) ?_; refine AllReadyH.cons rfl (fun K hK=>?_) AllReadyH.nil
      rw [if_pos (by rfl)]
      refine wpo_store_box 265 _ _ rfl wr.heap.size _ (tchL (touchF p (threadF c i))) _ rfl rfl hL0 Tryz.sizeTouch rfl (one_tch _) ?_
      refine hK.out _ _ (setRow_below hx2 hge) (fun hHeld=>?_)
      clear hK K
      try simp only [put_laws]
      refine wpAnyH_done (by kernel_rfl) ?_ _
      have hF1:(x2.setRow wr.heap.size (tchL (touchF p (threadF c i))).toArray).heap[wr.heap.size]? = some (.cells (tchL (touchF p (threadF c i))).toArray 265 (0,0)):=setRow_heap hL0
      have hbw4:=hHeld
      have hgF1:=hge
      clear hHeld hx2 hL0 hge
      generalize x2.setRow wr.heap.size (tchL (touchF p (threadF c i))).toArray = w4 at *
      obtain ⟨F1,hEF1⟩:∃ n,n = wr.heap.size:=⟨_,rfl⟩
      rw [← hEF1] at hF1 ⊢
      have hgF1:wr.heap.size ≤ F1:=by omega
      clear hEF1
      have hrP2:=rg_below hrP1 hbw4
      have hrC2:=rg_below hrC1 hbw4
      have HB4:=hide (HBr.out.trans (hbw4.mono HBr.out.size))
      go_wp2_with fail
      refine wp_region_held_drew (S:=fun w'=>Below w4.heap.size w4 w') (by kernel_rfl) (Below.refl _ _).drew (fun hHeld=>?_)
      refine wpAnyH_take (i:=0) rfl (by kernel_rfl) (by kernel_rfl) (by kernel_rfl) (fun _ _ _ h=>h) (yieldsIf_load_mid (by rfl) _ _ rfl w.heap.size 0 rfl (plL p v) _ (fun _ h=>rg_below hrP2 h) Tryz.underlying123 rfl Tryz.sizeProgram) (by assumption) ?_
      try simp only [put_laws]
      refine wpAnyH_take (i:=1) rfl (by kernel_rfl) (by kernel_rfl) (by kernel_rfl) (fun _ _ _ h=>h) (yieldsIf_load_mid (by rfl) _ _ rfl (w.heap.size + 1) 0 rfl (cfgL c) _ (fun _ h=>rg_below hrC2 h) Tryz.underlying140 rfl Tryz.sizeConfig) (by assumption) ?_
      try simp only [put_laws]
      refine wpAnyH_take (i:=2) (v:=?_) rfl (by kernel_rfl) (by kernel_rfl) (by kernel_rfl) (fun _ _ _ h=>h) (Or.inl ⟨by rfl,?_⟩) (by assumption) ?_; rotate_left; focus (intro w' hSw; go_simp; (first | done | with_reducible rfl)); (try simp only [put_laws])
      refine wpAnyH_ready (rs:=[3,5]) (by kernel_rfl) (by simp) ?_; refine AllReadyH.cons rfl (fun K hK=>?_) (AllReadyH.cons rfl (fun K hK=>?_) AllReadyH.nil)
      ·go_simp
       refine (py_thread c j _).mono ?_
       rintro e x1 ⟨rfl,hq1⟩
       have hx1:Below w4.heap.size w4 x1:=(Below.refl _ _).drew.trans hq1
       clear hq1
       refine hK.out _ _ hx1 (fun hHeld=>?_)
       clear hK K
       try simp only [put_laws]
       refine wpAnyH_ready (rs:=[4,5]) (by kernel_rfl) (by simp) ?_; refine AllReadyH.cons rfl (fun K hK=>?_) (AllReadyH.cons rfl (fun K hK=>?_) AllReadyH.nil)
       ·go_simp
        refine (py_touchOf p v (threadF c j) _ (HPW.out.below (HB4.out.trans (hx1.mono HB4.out.size)))).mono ?_
        rintro e x2 ⟨rfl,hq2⟩
        have hx2:Below w4.heap.size w4 x2:=hx1.trans (hq2.mono hx1.size)
        clear hq2 hx1
        refine hK.out _ _ hx2 (fun hHeld=>?_)
        clear hK K
        try simp only [put_laws]
        refine wpAnyH_ready (rs:=[5]) (by kernel_rfl) (by simp) ?_; refine AllReadyH.cons rfl (fun K hK=>?_) AllReadyH.nil
        rw [if_pos (by rfl)]
        refine wpo_alloc 265 rfl (tchL zTch) Tryz.zeroTouch ?_
        refine hK.out _ _ (hx2.alloc hx2.size _) (fun hHeld=>?_)
        clear hK K
        try simp only [put_laws]
        refine wpAnyH_ready (rs:=[6]) (by kernel_rfl) (by simp) ?_; refine AllReadyH.cons rfl (fun K hK=>?_) AllReadyH.nil
        rw [if_pos (by rfl)]
        refine wpo_store_new 265 _ _ rfl _ _ (tchL (touchF p (threadF c j))) _ rfl rfl rfl Tryz.sizeTouch rfl (one_tch _) ?_
        refine hK.out _ _ (hx2.alloc hx2.size _) (fun hHeld=>?_)
        clear hK K
        try simp only [put_laws]
        refine wpAnyH_done (by kernel_rfl) ?_ _
        have hF2:(x2.alloc (.cells (tchL (touchF p (threadF c j))).toArray 265)).heap[x2.heap.size]? = some (.cells (tchL (touchF p (threadF c j))).toArray 265 (0,0)):=heap_alloc_new _ _
        have hbw5:=hHeld
        have hgF2:w4.heap.size ≤ x2.heap.size:=hx2.size
        clear hHeld hx2
        generalize x2.alloc (.cells (tchL (touchF p (threadF c j))).toArray 265) = w5 at *
        generalize x2.heap.size = F2 at *
        have hrA:w5.rangeAt F1 0 (tchL (touchF p (threadF c i))):=range_whole ((hbw5.block _ (by have:=(Array.getElem?_eq_some_iff.1 hF1).1; omega)).trans hF1)
        have hrB:w5.rangeAt F2 0 (tchL (touchF p (threadF c j))):=range_whole hF2
        have HB5:Hid (Below W.heap.size W w5):=HBr.out.trans ((hbw4.trans (hbw5.mono hbw4.size)).mono HBr.out.size)
        clear hF1 hF2 hbw4 hbw5 hrP1 hrC1 hrP2 hrC2
        go_wp2_with (first | (refine wpList_load_mid rfl 265 _ rfl _ _ rfl (tchL (touchF p (threadF c i))) _ hrA Tryz.underlying265 rfl Tryz.sizeTouch ?_) | (refine wpList_load_mid rfl 265 _ rfl _ _ rfl (tchL (touchF p (threadF c j))) _ hrB Tryz.underlying265 rfl Tryz.sizeTouch ?_))
        refine (py_spoils (touchF p (threadF c i)) (touchF p (threadF c j)) _).mono ?_
        rintro e w6 ⟨rfl,hb6⟩
        have HB6:=hide (HB5.out.trans (hb6.mono HB5.out.size))
        have hrA6:=rg_below hrA hb6
        have hrB6:=rg_below hrB hb6
        clear hb6 hrA hrB
        cases h1:spoilsF (touchF p (threadF c i)) (touchF p (threadF c j)) with
        | true =>
         have HE:Hid (raceF p c = true):=race_found p c (by omega) hji (by unfold clashT; rw [h1]; rfl)
         clear h1
         go_wp2_with fail
         go_ret
         exact ⟨ret_bool HE.out.symm,HBW.out.trans (HB6.out.mono (by omega))⟩
        | false =>
         go_wp2_with (first | (refine wpl_load_w (by rfl) 265 _ rfl _ _ rfl (tchL (touchF p (threadF c i))) _ hrA6 Tryz.underlying265 rfl Tryz.sizeTouch ?_) | (refine wpl_load_w (by rfl) 265 _ rfl _ _ rfl (tchL (touchF p (threadF c j))) _ hrB6 Tryz.underlying265 rfl Tryz.sizeTouch ?_))
         refine (py_spoils (touchF p (threadF c j)) (touchF p (threadF c i)) _).mono ?_
         rintro e w7 ⟨rfl,hb7⟩
         have HB7:=hide (HB6.out.trans (hb7.mono HB6.out.size))
         clear hb7 hrA6 hrB6
         cases h2:spoilsF (touchF p (threadF c j)) (touchF p (threadF c i)) with
         | true =>
          have HE:Hid (raceF p c = true):=race_found p c (by omega) hji (by unfold clashT; rw [h1,h2]; rfl)
          clear h1 h2
          go_wp2_with fail
          go_ret
          exact ⟨ret_bool HE.out.symm,HBW.out.trans (HB7.out.mono (by omega))⟩
         | false =>
          have HC:Hid (clashT p (threadF c i) (threadF c j) = false):=by show _ = _; unfold clashT; rw [h1,h2]; rfl
          clear h1 h2
          go_wp2_with fail
          go_roundw
          case rel=>exact ⟨j + 1,by go_num,by omega,fun b hb=>by (rcases Nat.lt_or_eq_of_le (Nat.le_of_lt_succ hb) with h | h; exact HNj.out b h; rw [h]; exact HC.out),HB7.out⟩
          case measure=>simp [intOf]; omega
       ·rw [if_pos (by rfl)]
        refine wpo_alloc 265 rfl (tchL zTch) Tryz.zeroTouch ?_
        have hxa:Below w4.heap.size w4 (x1.alloc (.cells (tchL zTch).toArray 265)):=hx1.alloc hx1.size _
        refine hK.out _ _ hxa (fun hHeld=>?_)
        clear hK K
        try simp only [put_laws]
        refine wpAnyH_ready (rs:=[4]) (by kernel_rfl) (by simp) ?_; refine AllReadyH.cons rfl (fun K hK=>?_) AllReadyH.nil
        go_simp
        refine (py_touchOf p v (threadF c j) _ (HPW.out.below (HB4.out.trans (hxa.mono HB4.out.size)))).mono ?_
        rintro e x2 ⟨rfl,hq2⟩
        have hx2:Below w4.heap.size w4 x2:=hxa.trans (hq2.mono hxa.size)
        have hL0:x2.heap[x1.heap.size]? = some (.cells (tchL zTch).toArray 265 (0,0)):=(hq2.block _ (by simp)).trans (heap_alloc_new _ _)
        have hge:w4.heap.size ≤ x1.heap.size:=hx1.size
        clear hq2 hxa hx1
        refine hK.out _ _ hx2 (fun hHeld=>?_)
        clear hK K
        try simp only [put_laws]
        refine wpAnyH_ready (rs:=[6]) (by kernel_rfl) (by simp) ?_; refine AllReadyH.cons rfl (fun K hK=>?_) AllReadyH.nil
        rw [if_pos (by rfl)]
        refine wpo_store_box 265 _ _ rfl x1.heap.size _ (tchL (touchF p (threadF c j))) _ rfl rfl hL0 Tryz.sizeTouch rfl (one_tch _) ?_
        refine hK.out _ _ (setRow_below hx2 hge) (fun hHeld=>?_)
        clear hK K
        try simp only [put_laws]
        refine wpAnyH_done (by kernel_rfl) ?_ _
        have hF2:(x2.setRow x1.heap.size (tchL (touchF p (threadF c j))).toArray).heap[x1.heap.size]? = some (.cells (tchL (touchF p (threadF c j))).toArray 265 (0,0)):=setRow_heap hL0
        have hbw5:=hHeld
        have hgF2:=hge
        clear hHeld hx2 hL0 hge
        generalize x2.setRow x1.heap.size (tchL (touchF p (threadF c j))).toArray = w5 at *
        generalize x1.heap.size = F2 at *
        have hrA:w5.rangeAt F1 0 (tchL (touchF p (threadF c i))):=range_whole ((hbw5.block _ (by have:=(Array.getElem?_eq_some_iff.1 hF1).1; omega)).trans hF1)
        have hrB:w5.rangeAt F2 0 (tchL (touchF p (threadF c j))):=range_whole hF2
        have HB5:Hid (Below W.heap.size W w5):=HBr.out.trans ((hbw4.trans (hbw5.mono hbw4.size)).mono HBr.out.size)
        clear hF1 hF2 hbw4 hbw5 hrP1 hrC1 hrP2 hrC2
        go_wp2_with (first | (refine wpList_load_mid rfl 265 _ rfl _ _ rfl (tchL (touchF p (threadF c i))) _ hrA Tryz.underlying265 rfl Tryz.sizeTouch ?_) | (refine wpList_load_mid rfl 265 _ rfl _ _ rfl (tchL (touchF p (threadF c j))) _ hrB Tryz.underlying265 rfl Tryz.sizeTouch ?_))
        refine (py_spoils (touchF p (threadF c i)) (touchF p (threadF c j)) _).mono ?_
        rintro e w6 ⟨rfl,hb6⟩
        have HB6:=hide (HB5.out.trans (hb6.mono HB5.out.size))
        have hrA6:=rg_below hrA hb6
        have hrB6:=rg_below hrB hb6
        clear hb6 hrA hrB
        cases h1:spoilsF (touchF p (threadF c i)) (touchF p (threadF c j)) with
        | true =>
         have HE:Hid (raceF p c = true):=race_found p c (by omega) hji (by unfold clashT; rw [h1]; rfl)
         clear h1
         go_wp2_with fail
         go_ret
         exact ⟨ret_bool HE.out.symm,HBW.out.trans (HB6.out.mono (by omega))⟩
        | false =>
         go_wp2_with (first | (refine wpl_load_w (by rfl) 265 _ rfl _ _ rfl (tchL (touchF p (threadF c i))) _ hrA6 Tryz.underlying265 rfl Tryz.sizeTouch ?_) | (refine wpl_load_w (by rfl) 265 _ rfl _ _ rfl (tchL (touchF p (threadF c j))) _ hrB6 Tryz.underlying265 rfl Tryz.sizeTouch ?_))
         refine (py_spoils (touchF p (threadF c j)) (touchF p (threadF c i)) _).mono ?_
         rintro e w7 ⟨rfl,hb7⟩
         have HB7:=hide (HB6.out.trans (hb7.mono HB6.out.size))
         clear hb7 hrA6 hrB6
         cases h2:spoilsF (touchF p (threadF c j)) (touchF p (threadF c i)) with
         | true =>
          have HE:Hid (raceF p c = true):=race_found p c (by omega) hji (by unfold clashT; rw [h1,h2]; rfl)
          clear h1 h2
          go_wp2_with fail
          go_ret
          exact ⟨ret_bool HE.out.symm,HBW.out.trans (HB7.out.mono (by omega))⟩
         | false =>
          have HC:Hid (clashT p (threadF c i) (threadF c j) = false):=by show _ = _; unfold clashT; rw [h1,h2]; rfl
          clear h1 h2
          go_wp2_with fail
          go_roundw
          case rel=>exact ⟨j + 1,by go_num,by omega,fun b hb=>by (rcases Nat.lt_or_eq_of_le (Nat.le_of_lt_succ hb) with h | h; exact HNj.out b h; rw [h]; exact HC.out),HB7.out⟩
          case measure=>simp [intOf]; omega
      ·rw [if_pos (by rfl)]
       refine wpo_alloc 265 rfl (tchL zTch) Tryz.zeroTouch ?_
       have hxa:Below w4.heap.size w4 (w4.drew.alloc (.cells (tchL zTch).toArray 265)):=(Below.refl _ _).drew.alloc (Nat.le_refl _) _
       refine hK.out _ _ hxa (fun hHeld=>?_)
       clear hK K
       try simp only [put_laws]
       refine wpAnyH_ready (rs:=[3]) (by kernel_rfl) (by simp) ?_; refine AllReadyH.cons rfl (fun K hK=>?_) AllReadyH.nil
       go_simp
       refine (py_thread c j _).mono ?_
       rintro e x1 ⟨rfl,hq1⟩
       have hx1:Below w4.heap.size w4 x1:=hxa.trans (hq1.mono hxa.size)
       have hL1:x1.heap[w4.heap.size]? = some (.cells (tchL zTch).toArray 265 (0,0)):=(hq1.block _ (by simp)).trans (heap_alloc_new w4.drew _)
       have hz1:w4.heap.size < x1.heap.size:=(Array.getElem?_eq_some_iff.1 hL1).1
       clear hq1 hxa
       refine hK.out _ _ hx1 (fun hHeld=>?_)
       clear hK K
       try simp only [put_laws]
       refine wpAnyH_ready (rs:=[4]) (by kernel_rfl) (by simp) ?_; refine AllReadyH.cons rfl (fun K hK=>?_) AllReadyH.nil
       go_simp
       refine (py_touchOf p v (threadF c j) _ (HPW.out.below (HB4.out.trans (hx1.mono HB4.out.size)))).mono ?_
       rintro e x2 ⟨rfl,hq2⟩
       have hx2:Below w4.heap.size w4 x2:=hx1.trans (hq2.mono hx1.size)
       have hL0:=(hq2.block _ hz1).trans hL1
       have hge:w4.heap.size ≤ w4.heap.size:=Nat.le_refl _
       clear hq2 hx1 hL1 hz1
       refine hK.out _ _ hx2 (fun hHeld=>?_)
       clear hK K
       try simp only [put_laws]
       refine wpAnyH_ready (rs:=[6]) (by kernel_rfl) (by simp) ?_; refine AllReadyH.cons rfl (fun K hK=>?_) AllReadyH.nil
       rw [if_pos (by rfl)]
       refine wpo_store_box 265 _ _ rfl w4.heap.size _ (tchL (touchF p (threadF c j))) _ rfl rfl hL0 Tryz.sizeTouch rfl (one_tch _) ?_
       refine hK.out _ _ (setRow_below hx2 hge) (fun hHeld=>?_)
       clear hK K
       try simp only [put_laws]
       refine wpAnyH_done (by kernel_rfl) ?_ _
       have hF2:(x2.setRow w4.heap.size (tchL (touchF p (threadF c j))).toArray).heap[w4.heap.size]? = some (.cells (tchL (touchF p (threadF c j))).toArray 265 (0,0)):=setRow_heap hL0
       have hbw5:=hHeld
       have hgF2:=hge
       clear hHeld hx2 hL0 hge
       generalize x2.setRow w4.heap.size (tchL (touchF p (threadF c j))).toArray = w5 at *
       obtain ⟨F2,hEF2⟩:∃ n,n = w4.heap.size:=⟨_,rfl⟩
       rw [← hEF2] at hF2 ⊢
       have hgF2:w4.heap.size ≤ F2:=by omega
       clear hEF2
       have hrA:w5.rangeAt F1 0 (tchL (touchF p (threadF c i))):=range_whole ((hbw5.block _ (by have:=(Array.getElem?_eq_some_iff.1 hF1).1; omega)).trans hF1)
       have hrB:w5.rangeAt F2 0 (tchL (touchF p (threadF c j))):=range_whole hF2
       have HB5:Hid (Below W.heap.size W w5):=HBr.out.trans ((hbw4.trans (hbw5.mono hbw4.size)).mono HBr.out.size)
       clear hF1 hF2 hbw4 hbw5 hrP1 hrC1 hrP2 hrC2
       go_wp2_with (first | (refine wpList_load_mid rfl 265 _ rfl _ _ rfl (tchL (touchF p (threadF c i))) _ hrA Tryz.underlying265 rfl Tryz.sizeTouch ?_) | (refine wpList_load_mid rfl 265 _ rfl _ _ rfl (tchL (touchF p (threadF c j))) _ hrB Tryz.underlying265 rfl Tryz.sizeTouch ?_))
       refine (py_spoils (touchF p (threadF c i)) (touchF p (threadF c j)) _).mono ?_
       rintro e w6 ⟨rfl,hb6⟩
       have HB6:=hide (HB5.out.trans (hb6.mono HB5.out.size))
       have hrA6:=rg_below hrA hb6
       have hrB6:=rg_below hrB hb6
       clear hb6 hrA hrB
       cases h1:spoilsF (touchF p (threadF c i)) (touchF p (threadF c j)) with
       | true =>
        have HE:Hid (raceF p c = true):=race_found p c (by omega) hji (by unfold clashT; rw [h1]; rfl)
        clear h1
        go_wp2_with fail
        go_ret
        exact ⟨ret_bool HE.out.symm,HBW.out.trans (HB6.out.mono (by omega))⟩
       | false =>
        go_wp2_with (first | (refine wpl_load_w (by rfl) 265 _ rfl _ _ rfl (tchL (touchF p (threadF c i))) _ hrA6 Tryz.underlying265 rfl Tryz.sizeTouch ?_) | (refine wpl_load_w (by rfl) 265 _ rfl _ _ rfl (tchL (touchF p (threadF c j))) _ hrB6 Tryz.underlying265 rfl Tryz.sizeTouch ?_))
        refine (py_spoils (touchF p (threadF c j)) (touchF p (threadF c i)) _).mono ?_
        rintro e w7 ⟨rfl,hb7⟩
        have HB7:=hide (HB6.out.trans (hb7.mono HB6.out.size))
        clear hb7 hrA6 hrB6
        cases h2:spoilsF (touchF p (threadF c j)) (touchF p (threadF c i)) with
        | true =>
         have HE:Hid (raceF p c = true):=race_found p c (by omega) hji (by unfold clashT; rw [h1,h2]; rfl)
         clear h1 h2
         go_wp2_with fail
         go_ret
         exact ⟨ret_bool HE.out.symm,HBW.out.trans (HB7.out.mono (by omega))⟩
        | false =>
         have HC:Hid (clashT p (threadF c i) (threadF c j) = false):=by show _ = _; unfold clashT; rw [h1,h2]; rfl
         clear h1 h2
         go_wp2_with fail
         go_roundw
         case rel=>exact ⟨j + 1,by go_num,by omega,fun b hb=>by (rcases Nat.lt_or_eq_of_le (Nat.le_of_lt_succ hb) with h | h; exact HNj.out b h; rw [h]; exact HC.out),HB7.out⟩
         case measure=>simp [intOf]; omega
    ·have hje:j = i:=by omega
     subst hje
     go_wp2_with fail
     refine ⟨⟨j + 1,by go_num,by omega,fun a b ha hb=>?_,HBr.out⟩,by simp [intOf]; omega⟩
     rcases Nat.lt_or_eq_of_le (Nat.le_of_lt_succ ha) with h | h
     ·exact HN.out a b h hb
     ·rw [h]
      exact HNj.out b (by omega)
  ·have hi3:i = 3:=by omega
   subst hi3
   have HE:Hid (raceF p c = false):=race_none p c HN.out
   go_wp2_with fail
   go_ret
   exact ⟨ret_bool HE.out.symm,HBW.out.trans (HB0.out.mono (by omega))⟩
end Go.Proofs.YtmfcpbhdggonfaaGreatDoor
