/- Places of any length in a text: strconv.Itoa with its table. -/
import Derived.Test.YtmfcpbhdggonfaaGreatDoorMjBO
import Derived.Test.YtmfcpbhdggonfaaGreatDoorMjBP
import Derived.Lib.AppendIntMem
namespace Go.Proofs.YtmfcpbhdggonfaaGreatDoor
open Go.RowKit RR
def TabOk (w:World):Prop:=Lib.TabIs Tryz.prog w "internal/strconv.uint64pow10" .u64 Lib.pow10Tab
theorem TabOk.below {w w':World} (h:TabOk w) (hb:Below w.heap.size w w'):TabOk w':=Lib.tabBelow_of_tabIs h w' hb
theorem below_grow (w:World) (k:Nat) (os:Array Obj):Below w.heap.size w (Go.Sort.grow (w.drewN k) os):=by
 refine ⟨rfl,rfl,rfl,?_,fun b hb=>?_⟩
 ·show w.heap.size ≤ (w.heap ++ os).size
  simp
 ·show (w.heap ++ os)[b]? = w.heap[b]?
  rw [Array.getElem?_append_left hb]
theorem ItOk.tab {w:World} (h:TabOk w) (i:Nat) (hi:i ≤ 9223372036854775807):ItOk w i:=fun w' hb=>by
 refine (Tryz.strconv_Itoa i (by omega) (by omega) w' (h.below hb)).mono ?_
 rintro e w'' ⟨rfl,k,os,rfl⟩
 refine ⟨?_,below_grow _ _ _⟩
 have e:Lib.itoa (i:Int) = Lib.decDigits i:=by
  unfold Lib.itoa
  rw [if_neg (by omega),Int.toNat_natCast]
 rw [e]; rfl
def atsM (p:Plan):Bool:=p.lines.all fun a=>decide (a.at_ < 1000)
theorem itoa_mid {i:Nat} (h:i < 1000):(itoaF i).size ≤ 1000:=by
 have hall:(List.range 1000).all (fun i=>decide ((itoaF i).size ≤ 1000)) = true:=by kernel_rfl
 rw [List.all_eq_true] at hall
 exact of_decide_eq_true (hall i (List.mem_range.2 h))
theorem pit_tab {p:Plan} (h:atsM p = true) {w:World} (ht:TabOk w):PIt p w:=by
 have hs:∀ n,(lineAt p n).at_ < 1000:=by
  intro n
  unfold atsM at h
  rw [List.all_eq_true] at h
  unfold lineAt
  split
  ·cases hq:p.lines[n.toNat]? with
   | none=>decide
   | some a=>exact of_decide_eq_true (h a (List.mem_of_getElem? hq))
  ·decide
 exact fun n=>⟨ItOk.tab ht _ (by have:=hs n; omega),itoa_mid (hs n)⟩
theorem play_tab {text s:ByteArray} {r:Vw × Int × Int} (hg:goodB text = true) (ha:atsM (planOf text) = true) (hs:s.size ≤ 200) (hr:playP (planOf text) s = r) {w:World} (ht:TabOk w):Calls Tryz.prog 22 #[.string text,.string s] w fun e w'=>PlP r w e w':=by
 rw [← hr]
 exact m_Play text s _ _ _ w (good_of hg) (pit_tab ha ht) hs
end Go.Proofs.YtmfcpbhdggonfaaGreatDoor
