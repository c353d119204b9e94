/- Contracts of the program's package play: the text of a configuration. -/
import Derived.Test.YtmfcpbhdggonfaaGreatDoorMjBD
namespace Go.Proofs.YtmfcpbhdggonfaaGreatDoor
open Go.RowKit RR
theorem holder_size (h:Int):(holderF h).size ≤ 1:=by
 unfold holderF
 split
 ·decide
 ·exact letterF_size _ _
theorem locksF_out {g:Nat→Int} {n:Int} {i:Nat} (h:¬ ((i:Int) < n∧i < 3)) (d:Nat) (s:ByteArray):locksF g n d i s = s:=by
 cases d with
 | zero=>rfl
 | succ d=>rw [locksF,if_neg h]
theorem locksF_step {g:Nat→Int} {n:Int} {i:Nat} (h:(i:Int) < n∧i < 3) (d:Nat) (s:ByteArray):locksF g n (d + 1) i s = locksF g n d (i + 1) (s ++ holderF (g i)):=by
 rw [locksF,if_pos h]
set_option maxRecDepth 100000 in
set_option maxHeartbeats 8000000 in
theorem py_Text (p:Plan) (v:PV) (c:Cfg) (w:World) (hp:PIn w p v) (hit:PIt p w) :
    Calls Tryz.prog 110 #[.agg (plL p v).toArray,.agg (cfgL c).toArray] w fun e w'=>e = .returned (.string (textF p c))∧Below w.heap.size w w':=by
 have HP:=hide hp
 have HI:=hide hit
 have bT:=hp.bT
 clear hp hit
 obtain ⟨hP,hC,hbW,hsz⟩:=bigs2 w (.cells (plL p v).toArray 123) (.cells (cfgL c).toArray 140)
 go_enter Tryz.func110,Tryz.ntmps110
 go_upto_region 1 with (first | (refine wpl_box rfl 123 _ rfl (plL p v) rfl ?_) | (refine wpl_box rfl 140 _ rfl (cfgL c) rfl ?_))
 have HPW:=hide (HP.out.below hbW)
 have HIW:=hide (HI.out.below hbW)
 generalize (w.alloc (.cells (plL p v).toArray 123)).alloc (.cells (cfgL c).toArray 140) = W at *
 have HBW:=hide hbW
 clear hbW
 go_wp2_with fail
 go_loopw [5,6] (fun s u wr=>∃ (i:Nat) (txt:ByteArray),s = .string txt∧u = .int .i64 i∧i ≤ 4∧bitsF c.s p.shared 4 (5 - i) i txt = bitsF c.s p.shared 4 5 0 ⟨#[]⟩∧txt.size ≤ i∧wr = W) (fun _ u _=>5 - (intOf u).toNat)
 case atStart=>exact ⟨0,⟨#[]⟩,rfl,rfl,by omega,rfl,by simp [ByteArray.size],rfl⟩
 case round =>
  obtain ⟨i,txt,rfl,rfl,hi,he,hzt,hw⟩:=hrel
  have HE2:=hide he
  have q0:wr.cell? ⟨w.heap.size,0,none⟩ = some (.int .i64 p.shared):=by rw [hw]; exact cell_blk hP 0 rfl
  clear he
  by_cases hn:(i:Int) < p.shared∧i < 4
  ·have HN:=hide hn
   have hn1:=hn.1
   have hn2:=hn.2
   clear hn
   have h3:i = 0 ∨ i = 1 ∨ i = 2 ∨ i = 3:=by omega
   rcases h3 with rfl | rfl | rfl | rfl
   ·have c1:wr.cell? ⟨w.heap.size + 1,0,none⟩ = some (.bool c.s0):=by rw [hw]; exact cell_blk hC 0 rfl
    have zb:(bitF c.s0).size = 1:=bit_size _
    have zt:(txt ++ bitF c.s0).size ≤ 1:=by rw [ByteArray.size_append]; omega
    have HW:=hide hw
    clear hw
    go_wp2_with (go_at_call 155; refine (py_bit _ _).mono ?_; rintro e w5 ⟨rfl,rfl⟩)
    go_roundw
    case rel=>exact ⟨1,txt ++ bitF c.s0,rfl,by go_num,by omega,by rw [← HE2.out]; exact (bitsF_step HN.out 4 txt).symm,zt,HW.out⟩
    case measure=>simp [intOf]
   ·have c1:wr.cell? ⟨w.heap.size + 1,1,none⟩ = some (.bool c.s1):=by rw [hw]; exact cell_blk hC 1 rfl
    have zb:(bitF c.s1).size = 1:=bit_size _
    have zt:(txt ++ bitF c.s1).size ≤ 2:=by rw [ByteArray.size_append]; omega
    have HW:=hide hw
    clear hw
    go_wp2_with (go_at_call 155; refine (py_bit _ _).mono ?_; rintro e w5 ⟨rfl,rfl⟩)
    go_roundw
    case rel=>exact ⟨2,txt ++ bitF c.s1,rfl,by go_num,by omega,by rw [← HE2.out]; exact (bitsF_step HN.out 3 txt).symm,zt,HW.out⟩
    case measure=>simp [intOf]
   ·have c1:wr.cell? ⟨w.heap.size + 1,2,none⟩ = some (.bool c.s2):=by rw [hw]; exact cell_blk hC 2 rfl
    have zb:(bitF c.s2).size = 1:=bit_size _
    have zt:(txt ++ bitF c.s2).size ≤ 3:=by rw [ByteArray.size_append]; omega
    have HW:=hide hw
    clear hw
    go_wp2_with (go_at_call 155; refine (py_bit _ _).mono ?_; rintro e w5 ⟨rfl,rfl⟩)
    go_roundw
    case rel=>exact ⟨3,txt ++ bitF c.s2,rfl,by go_num,by omega,by rw [← HE2.out]; exact (bitsF_step HN.out 2 txt).symm,zt,HW.out⟩
    case measure=>simp [intOf]
   ·have c1:wr.cell? ⟨w.heap.size + 1,3,none⟩ = some (.bool c.s3):=by rw [hw]; exact cell_blk hC 3 rfl
    have zb:(bitF c.s3).size = 1:=bit_size _
    have zt:(txt ++ bitF c.s3).size ≤ 4:=by rw [ByteArray.size_append]; omega
    have HW:=hide hw
    clear hw
    go_wp2_with (go_at_call 155; refine (py_bit _ _).mono ?_; rintro e w5 ⟨rfl,rfl⟩)
    go_roundw
    case rel=>exact ⟨4,txt ++ bitF c.s3,rfl,by go_num,by omega,by rw [← HE2.out]; exact (bitsF_step HN.out 1 txt).symm,zt,HW.out⟩
    case measure=>simp [intOf]
  ·have HE3:Hid (txt = bitsF c.s p.shared 4 5 0 ⟨#[]⟩):=(bitsF_out hn (5 - i) txt).symm.trans HE2.out
   have hcase:¬ (i:Int) < p.shared ∨ ((i:Int) < p.shared∧i = 4):=by omega
   have hz0:txt.size ≤ 4:=by omega
   clear hn
   have hw2:=hw
   subst hw2
   clear HE2 hzt hw
   rcases hcase with hq | ⟨hq,rfl⟩
   all_goals
    have hz5:(txt ++ (⟨#[47]⟩:ByteArray)).size ≤ 5:=by rw [ByteArray.size_append]; show _ + 1 ≤ _; omega
    go_wp2_with fail
    have HT0:Hid (txt ++ (⟨#[47]⟩:ByteArray) = bitsF c.s p.shared 4 5 0 ⟨#[]⟩ ++ ⟨#[47]⟩):=by show _ = _; rw [HE3.out]
    generalize txt ++ (⟨#[47]⟩:ByteArray) = txt0 at *
    clear HE3 hz0 q0
    obtain ⟨W,hWW⟩:∃ W,W = wr:=⟨_,rfl⟩
    subst hWW
    go_loopw [5,7] (fun s u wr=>∃ (i:Nat) (txt:ByteArray),s = .string txt∧u = .int .i64 i∧i ≤ 3∧locksF c.h p.locks (4 - i) i txt = locksF c.h p.locks 4 0 txt0∧txt.size ≤ 5 + i∧wr = W) (fun _ u _=>4 - (intOf u).toNat)
    case atStart=>exact ⟨0,txt0,rfl,rfl,by omega,rfl,by omega,rfl⟩
    case round =>
     obtain ⟨i,txt,rfl,rfl,hi,he,hzt,hw⟩:=hrel
     have HE2:=hide he
     have q0:wr.cell? ⟨w.heap.size,1,none⟩ = some (.int .i64 p.locks):=by rw [hw]; exact cell_blk hP 1 rfl
     clear he
     by_cases hn:(i:Int) < p.locks∧i < 3
     ·have HN:=hide hn
      have hn1:=hn.1
      have hn2:=hn.2
      clear hn
      have h3:i = 0 ∨ i = 1 ∨ i = 2:=by omega
      rcases h3 with rfl | rfl | rfl
      ·have c1:wr.cell? ⟨w.heap.size + 1,4,none⟩ = some (.int .i64 c.h0):=by rw [hw]; exact cell_blk hC 4 rfl
       have zb:(holderF c.h0).size ≤ 1:=holder_size _
       have zt:(txt ++ holderF c.h0).size ≤ 5 + 1:=by rw [ByteArray.size_append]; omega
       have HW:=hide hw
       clear hw
       go_wp2_with (go_at_call 156; refine (py_holderText _ _).mono ?_; rintro e w5 ⟨rfl,rfl⟩)
       go_roundw
       case rel=>exact ⟨1,txt ++ holderF c.h0,rfl,by go_num,by omega,by rw [← HE2.out]; exact (locksF_step HN.out 3 txt).symm,zt,HW.out⟩
       case measure=>simp [intOf]
      ·have c1:wr.cell? ⟨w.heap.size + 1,5,none⟩ = some (.int .i64 c.h1):=by rw [hw]; exact cell_blk hC 5 rfl
       have zb:(holderF c.h1).size ≤ 1:=holder_size _
       have zt:(txt ++ holderF c.h1).size ≤ 5 + 2:=by rw [ByteArray.size_append]; omega
       have HW:=hide hw
       clear hw
       go_wp2_with (go_at_call 156; refine (py_holderText _ _).mono ?_; rintro e w5 ⟨rfl,rfl⟩)
       go_roundw
       case rel=>exact ⟨2,txt ++ holderF c.h1,rfl,by go_num,by omega,by rw [← HE2.out]; exact (locksF_step HN.out 2 txt).symm,zt,HW.out⟩
       case measure=>simp [intOf]
      ·have c1:wr.cell? ⟨w.heap.size + 1,6,none⟩ = some (.int .i64 c.h2):=by rw [hw]; exact cell_blk hC 6 rfl
       have zb:(holderF c.h2).size ≤ 1:=holder_size _
       have zt:(txt ++ holderF c.h2).size ≤ 5 + 3:=by rw [ByteArray.size_append]; omega
       have HW:=hide hw
       clear hw
       go_wp2_with (go_at_call 156; refine (py_holderText _ _).mono ?_; rintro e w5 ⟨rfl,rfl⟩)
       go_roundw
       case rel=>exact ⟨3,txt ++ holderF c.h2,rfl,by go_num,by omega,by rw [← HE2.out]; exact (locksF_step HN.out 1 txt).symm,zt,HW.out⟩
       case measure=>simp [intOf]
     ·have HE3:Hid (txt = locksF c.h p.locks 4 0 txt0):=(locksF_out hn (4 - i) txt).symm.trans HE2.out
      have hcase:¬ (i:Int) < p.locks ∨ ((i:Int) < p.locks∧i = 3):=by omega
      have hz0:txt.size ≤ 8:=by omega
      have HTX:Hid (threadsG p c p.threads.length 0 txt = textF p c):=by show _ = _; rw [HE3.out,HT0.out]; rfl
      clear hn hzt HE2
      have hP2:=hP
      have hC2:=hC
      rw [← hw] at hP2 hC2
      have HPW2:Hid (PIn wr p v):=by show PIn wr p v; rw [hw]; exact HPW.out
      have HIW2:Hid (PIt p wr):=by show PIt p wr; rw [hw]; exact HIW.out
      have HBW2:Hid (Below w.heap.size w wr):=by show Below _ _ _; rw [hw]; exact HBW.out
      have hsz2:wr.heap.size = w.heap.size + 2:=by rw [hw]; exact hsz
      clear hw hP hC
      obtain ⟨W3,hW3⟩:∃ W3,W3 = wr:=⟨_,rfl⟩
      subst hW3
      rcases hcase with hq | ⟨hq,rfl⟩
      all_goals
       go_wp2_with fail
       go_loopw [5,8] (fun s u wr=>∃ (i:Nat) (txt:ByteArray),s = .string txt∧u = .int .i64 i∧i ≤ p.threads.length∧threadsG p c (p.threads.length - i) i txt = textF p c∧txt.size ≤ 8 + i * 5001∧Below W3.heap.size W3 wr) (fun _ u _=>p.threads.length - (intOf u).toNat)
       case atStart=>exact ⟨0,txt,rfl,rfl,by omega,HTX.out,by omega,Below.refl _ _⟩
       case round =>
        obtain ⟨i,txt,rfl,rfl,hi,he,hzt,hbr⟩:=hrel
        have HE2:=hide he
        have HBr:=hide hbr
        have hrP1:wr.rangeAt w.heap.size 0 (plL p v):=rg_below (range_whole hP2) hbr
        have hrC1:wr.rangeAt (w.heap.size + 1) 0 (cfgL c):=rg_below (range_whole hC2) hbr
        have q2:wr.cell? ⟨w.heap.size,2,none⟩ = some (.slice v.aT p.threads.length v.cT):=cell_below (cell_blk hP2 2 rfl) hbr
        clear he hbr hP2 hC2
        by_cases hlt:i < p.threads.length
        ·have zc:(txt ++ (⟨#[47]⟩:ByteArray)).size ≤ 8 + i * 5001 + 1:=by rw [ByteArray.size_append]; show _ + 1 ≤ _; omega
         go_wp2_with fail
         refine wp_region_held_drew (S:=fun w'=>Below wr.heap.size wr w') (by kernel_rfl) (Below.refl _ _).drew (fun hHeld=>?_)
         refine wpAnyH_take (i:=0) (v:=?_) rfl (by kernel_rfl) (by kernel_rfl) (by kernel_rfl) (fun _ _ _ h=>h) (Or.inl ⟨by rfl,?_⟩) (by assumption) ?_; rotate_left; focus (intro w' hSw; go_simp; (first | done | with_reducible rfl)); (try simp only [put_laws])
         refine wpAnyH_take (i:=1) rfl (by kernel_rfl) (by kernel_rfl) (by kernel_rfl) (fun _ _ _ h=>h) (yieldsIf_load_mid (by rfl) _ _ rfl w.heap.size 0 rfl (plL p v) _ (fun _ h=>rg_below hrP1 h) Tryz.underlying123 rfl Tryz.sizeProgram) (by assumption) ?_
         try simp only [put_laws]
         refine wpAnyH_take (i:=2) rfl (by kernel_rfl) (by kernel_rfl) (by kernel_rfl) (fun _ _ _ h=>h) (yieldsIf_load_mid (by rfl) _ _ rfl (w.heap.size + 1) 0 rfl (cfgL c) _ (fun _ h=>rg_below hrC1 h) Tryz.underlying140 rfl Tryz.sizeConfig) (by assumption) ?_
         try simp only [put_laws]
         refine wpAnyH_take (i:=3) (v:=?_) rfl (by kernel_rfl) (by kernel_rfl) (by kernel_rfl) (fun _ _ _ h=>h) (Or.inl ⟨by rfl,?_⟩) (by assumption) ?_; rotate_left; focus (intro w' hSw; go_simp; (first | done | with_reducible rfl)); (try simp only [put_laws])
         refine wpAnyH_ready (rs:=[4]) (by kernel_rfl) (by simp) ?_; refine AllReadyH.cons rfl (fun K hK=>?_) AllReadyH.nil
         go_simp
         refine (py_thread c i _).mono ?_
         rintro e w1 ⟨rfl,hb1⟩
         have hx1:Below wr.heap.size wr w1:=(Below.refl _ _).drew.trans hb1
         clear hb1
         refine hK.out _ _ hx1 (fun hHeld=>?_)
         clear hK K
         try simp only [put_laws]
         refine wpAnyH_ready (rs:=[5]) (by kernel_rfl) (by simp) ?_; refine AllReadyH.cons rfl (fun K hK=>?_) AllReadyH.nil
         go_simp
         refine (py_framesText p v (threadF c i) _ (HPW2.out.below (HBr.out.trans (hx1.mono HBr.out.size))) (HIW2.out.below (HBr.out.trans (hx1.mono HBr.out.size)))).mono ?_
         rintro e w2 ⟨⟨rfl,hzf⟩,hb2⟩
         have hx2:Below wr.heap.size wr w2:=hx1.trans (hb2.mono hx1.size)
         clear hb2 hx1
         refine hK.out _ _ hx2 (fun hHeld=>?_)
         clear hK K
         try simp only [put_laws]
         have zn:((txt ++ (⟨#[47]⟩:ByteArray)) ++ framesTextF p (threadF c i)).size ≤ 8 + (i + 1) * 5001:=by rw [ByteArray.size_append]; omega
         refine wpAnyH_ready (rs:=[6]) (by kernel_rfl) (by simp) ?_; refine AllReadyH.cons rfl (fun K hK=>?_) AllReadyH.nil
         go_simp
         go_wp2_with fail
         refine hK.out _ _ hx2 (fun hHeld=>?_)
         clear hK K
         refine wpAnyH_take (i:=7) (v:=?_) rfl (by kernel_rfl) (by kernel_rfl) (by kernel_rfl) (fun _ _ _ h=>h) (Or.inl ⟨by rfl,?_⟩) (by assumption) ?_; rotate_left; focus (intro w' hSw; go_simp; (first | done | with_reducible rfl)); (try simp only [put_laws])
         refine wpAnyH_done (by kernel_rfl) ?_ _
         have HB2:=hide (HBr.out.trans (hx2.mono HBr.out.size))
         have HE4:Hid (threadsG p c (p.threads.length - (i + 1)) (i + 1) ((txt ++ ⟨#[47]⟩) ++ framesTextF p (threadF c i)) = textF p c):=by
          show _ = _
          rw [← HE2.out,show p.threads.length - i = (p.threads.length - (i + 1)) + 1 by omega]
          rfl
         clear hx2 hHeld hrP1 hrC1 q2
         go_wp2_with fail
         go_roundw
         case rel=>exact ⟨i + 1,(txt ++ ⟨#[47]⟩) ++ framesTextF p (threadF c i),rfl,by go_num,by omega,HE4.out,by omega,HB2.out⟩
         case measure=>simp [intOf]; omega
        ·have hil:i = p.threads.length:=by omega
         subst hil
         have HF:Hid (txt = textF p c):=by
          have:=HE2.out
          rw [Nat.sub_self] at this
          exact this
         go_wp2_with fail
         go_ret
         exact ⟨ret_str HF.out,HBW2.out.trans (HBr.out.mono (by omega))⟩
end Go.Proofs.YtmfcpbhdggonfaaGreatDoor
