/- The program that the statement Worth makes: its text, its places, what its plays show. No Go here. -/
import Derived.Test.YtmfcpbhdggonfaaGreatDoorMjAL
import Derived.Test.YtmfcpbhdggonfaaGreatDoorMjAE
import Derived.Test.YtmfcpbhdggonfaaGreatDoorMjAH
import Derived.Deep.QuietTactic
import Derived.BigQuiet
namespace RR
open Go Go.RowKit
def placed:Nat→List ByteArray→List Tk
 | _,[]=>[]
 | i,p :: r=>if isBlankP p then placed (i + p.size) r else ⟨p,i⟩ :: placed (i + p.size) r
theorem lex_placed (s:ByteArray):∀ (ps:List ByteArray) (c d:Bool) (i:Nat),adj c ps = some d→i ≤ s.size→s.extract i s.size = flat ps→(lexF s i).1 = placed i ps
 | [],c,d,i,_,hi,he=>by
  have hs:(s.extract i s.size).size = 0:=by rw [he]; rfl
  rw [ByteArray.size_extract] at hs
  rw [lexF_out (by omega)]; rfl
 | p :: r,c,d,i,ha,hi,he=>by
  have he:s.extract i s.size = p ++ flat r:=he
  obtain ⟨z,e1,e2⟩:=ext_app he hi
  have e:adj c (p :: r) = if isBlankP p || memB signs p then adj false r else if isWordP p && !c then adj true r else none:=rfl
  rw [e] at ha
  cases hb:isBlankP p
  ·have ht:placed i (p :: r) = ⟨p,i⟩ :: placed (i + p.size) r:=by rw [placed,hb]; rfl
   rw [ht]
   cases hg:memB signs p
   ·rw [hb,hg] at ha
    cases hw:isWordP p
    ·rw [hw] at ha; simp at ha
    ·rw [hw] at ha
     have ha:adj true r = some d:=by cases c with | false=>exact ha | true=>simp at ha
     obtain ⟨w1,w2,w3⟩:=word_is hw
     have hlt:i < s.size:=by omega
     have g:∀ j (hj:j < p.size),isLetterB (s[i + j]'(by omega)) = true:=fun j hj=>by rw [get_of_ext e1 (by omega) hj]; exact w3 j hj
     have g0:isLetterB s[i] = true:=g 0 w1
     have hr:endAt s i hlt = i + p.size:=by
      unfold endAt
      rw [if_pos g0]
      refine runF_to (by omega) (fun h=>?_) (p.size - 1) (i + 1) (by omega) (fun j hj h1 h2=>?_)
      ·have q0:0 < (flat r).size:=by omega
       have:=adj_true ha q0
       have h5:(s.extract (i + p.size) s.size)[0]'(by rw [e2]; exact q0) = (flat r)[0]:=by congr 1
       rw [← h5,ByteArray.getElem_extract] at this
       exact this
      ·have:=g (j - i) (by omega)
       have ej:i + (j - i) = j:=by omega
       simp only [ej] at this
       exact this
     have ho:okAt s i hlt = true:=by unfold okAt; rw [g0,hr,decide_eq_true (by omega)]; rfl
     rw [lexF_ok hlt (letter_blank g0) ho,hr,lex_placed s r true d (i + p.size) ha (by omega) e2,e1]
   ·rw [hb,hg] at ha
    obtain ⟨q1,q2⟩:=sign_first hg
    have hlt:i < s.size:=by omega
    have g0:s[i] = p[0]'(by omega):=get_of_ext e1 (by omega) (j:=0) (by omega)
    obtain ⟨q3,q4⟩:=q2 (by omega)
    have hr:endAt s i hlt = i + p.size:=by unfold endAt; rw [g0,q3,q1]; rfl
    have ho:okAt s i hlt = true:=by unfold okAt; rw [hr,e1,hg,Bool.or_true]
    rw [lexF_ok hlt (by rw [g0]; exact q4) ho,hr,lex_placed s r false d (i + p.size) ha (by omega) e2,e1]
  ·have ht:placed i (p :: r) = placed (i + p.size) r:=by rw [placed,hb]; rfl
   rw [hb] at ha
   rw [ht]
   have:=blank_is hb
   subst this
   have z1:(⟨#[32]⟩:ByteArray).size = 1:=rfl
   rw [z1] at z e1 e2
   have hlt:i < s.size:=by omega
   have g0:s[i] = 32:=get_of_ext (p:=⟨#[32]⟩) e1 (by rw [z1]; omega) (j:=0) (by decide)
   rw [lexF_blank hlt (by rw [g0]; exact blank_bytes.2)]
   exact lex_placed s r false d (i + 1) ha (by omega) e2
theorem placed_len:∀ (ps:List ByteArray) (i:Nat),(placed i ps).length = (toksP ps).length
 | [],_=>rfl
 | p :: r,i=>by
  have ih:=placed_len r (i + p.size)
  unfold toksP at ih ⊢
  rw [placed,List.filter_cons]
  cases isBlankP p
  ·show (placed (i + p.size) r).length + 1 = _
   rw [ih]; rfl
  ·exact ih
theorem placed_app:∀ (a b:List ByteArray) (i:Nat),placed i (a ++ b) = placed i a ++ placed (i + (flat a).size) b
 | [],b,i=>rfl
 | p :: r,b,i=>by
  have ih:=placed_app r b (i + p.size)
  have e:(flat (p :: r)).size = p.size + (flat r).size:=by show (p ++ flat r).size = _; rw [ByteArray.size_append]
  rw [List.cons_append,placed,placed,ih,e,Nat.add_assoc]
  split <;> rfl
theorem place_at {A B:List ByteArray} {t:ByteArray} (ht:isBlankP t = false):plAt (placed 0 (A ++ t :: B)) (toksP A).length = (flat A).size:=by
 rw [placed_app,Nat.zero_add]
 have hl:=placed_len A 0
 have e:placed (flat A).size (t :: B) = ⟨t,(flat A).size⟩ :: placed ((flat A).size + t.size) B:=by rw [placed,ht]; rfl
 rw [e]
 unfold plAt
 have hlt:(toksP A).length < (placed 0 A ++ ⟨t,(flat A).size⟩ :: placed ((flat A).size + t.size) B).length:=by rw [List.length_append,List.length_cons]; omega
 rw [dif_pos hlt]
 have:(placed 0 A ++ ⟨t,(flat A).size⟩ :: placed ((flat A).size + t.size) B)[(toksP A).length]? = some ⟨t,(flat A).size⟩:=by
  rw [List.getElem?_append_right (by omega),hl,Nat.sub_self]; rfl
 rw [List.getElem?_eq_getElem hlt] at this
 rw [Option.some.inj this]
def g1:List ByteArray:=[tShared,tB,tW,tComma,tB,tX,tComma,tB,tY,tComma,tB,tZ,tSemi,tB,tProc,tB,tF,tOpen,tA,tComma,tB,tBb,tShut,tB,tBO,tB]
def g2:List ByteArray:=[tSemi,tB,tBS,tB,tProc,tB,tP,tOpen,tShut,tB,tBO,tB,tW,tB,tEq,tB]
def g3:List ByteArray:=[tSemi,tB,tX,tB,tEq,tB]
def g4:List ByteArray:=[tSemi,tB,tY,tB,tEq,tB]
def g5:List ByteArray:=[tSemi,tB]
def g6:List ByteArray:=[tZ,tB,tEq,tB,tF,tOpen]
def g7:List ByteArray:=[tComma,tB]
def g8:List ByteArray:=[tShut,tSemi,tB]
def g9:List ByteArray:=[tBS,tB,tThreads,tB,tP,tSemi]
def wC (a b:List ByteArray):List ByteArray:=g6 ++ (a ++ (g7 ++ (b ++ (g8 ++ g9))))
def wA (z p q r:List ByteArray):List ByteArray:=g1 ++ ([tRet,tB] ++ (z ++ (g2 ++ (p ++ (g3 ++ (q ++ (g4 ++ (r ++ g5))))))))
def wPs (z p q r a b:List ByteArray):List ByteArray:=g1 ++ ([tRet,tB] ++ (z ++ (g2 ++ (p ++ (g3 ++ (q ++ (g4 ++ (r ++ ((g5 ++ g6) ++ (a ++ (g7 ++ (b ++ (g8 ++ g9)))))))))))))
theorem wPs_at5 (z p q r a b:List ByteArray):wPs z p q r a b = wA z p q r ++ wC a b:=by
 unfold wPs wA wC
 simp only [List.append_assoc]
theorem wPs_at6 (z p q r a b:List ByteArray):wPs z p q r a b = (wA z p q r ++ (g6 ++ (a ++ (g7 ++ (b ++ g8))))) ++ g9:=by
 unfold wPs wA
 simp only [List.append_assoc]
theorem wPs_row {z p q r a b tz tp tq tr ta tb:List ByteArray} (hz:Row z tz 87) (hp:Row p tp 24) (hq:Row q tq 24) (hr:Row r tr 24) (ha:Row a ta 87) (hb:Row b tb 24):(∃ d,adj false (wPs z p q r a b) = some d)∧toksP (wPs z p q r a b) = wT tz tp tq tr ta tb∧(flat (wPs z p q r a b)).size ≤ 400:=by
 have r0:Row ([]:List ByteArray) [] 0:=⟨⟨false,rfl⟩,rfl,Nat.le_refl _⟩
 have x1:=hb.app (k:=15) (m0:=g8 ++ g9) (mt:=[tShut,tSemi,tBS,tThreads,tP,tSemi]) (fun _=>rfl) rfl (by kernel_rfl) r0
 have x2:=ha.app (k:=2) (m0:=g7) (mt:=[tComma]) (fun _=>rfl) rfl (by kernel_rfl) x1
 have x3:=hr.app (k:=8) (m0:=g5 ++ g6) (mt:=[tSemi,tZ,tEq,tF,tOpen]) (fun _=>rfl) rfl (by kernel_rfl) x2
 have x4:=hq.app (k:=6) (m0:=g4) (mt:=[tSemi,tY,tEq]) (fun _=>rfl) rfl (by kernel_rfl) x3
 have x5:=hp.app (k:=6) (m0:=g3) (mt:=[tSemi,tX,tEq]) (fun _=>rfl) rfl (by kernel_rfl) x4
 have x6:=hz.app (k:=19) (m0:=g2) (mt:=[tSemi,tBS,tProc,tP,tOpen,tShut,tBO,tW,tEq]) (fun _=>rfl) rfl (by kernel_rfl) x5
 have e:wPs z p q r a b = (g1 ++ [tRet,tB]) ++ (z ++ (g2 ++ (p ++ (g3 ++ (q ++ (g4 ++ (r ++ ((g5 ++ g6) ++ (a ++ (g7 ++ (b ++ ((g8 ++ g9) ++ [])))))))))))):=by
  unfold wPs
  simp only [List.append_assoc,List.append_nil]
 obtain ⟨d,x7⟩:=x6.adj
 rw [e]
 refine ⟨⟨d,?_⟩,?_,?_⟩
 ·rw [adj_app,show adj false (g1 ++ [tRet,tB]) = some false from rfl,Option.bind_some,x7]
 ·rw [toksP_app,x6.toks,show toksP (g1 ++ [tRet,tB]) = [tShared,tW,tComma,tX,tComma,tY,tComma,tZ,tSemi,tProc,tF,tOpen,tA,tComma,tBb,tShut,tBO,tRet] from rfl]
  unfold wT
  simp only [List.append_assoc,List.cons_append,List.nil_append,List.append_nil]
 ·rw [size_flat_app,show (flat (g1 ++ [tRet,tB])).size = 41 by kernel_rfl]
  have:=x6.size
  omega
theorem toksP_len_app (a b:List ByteArray):(toksP (a ++ b)).length = (toksP a).length + (toksP b).length:=by rw [toksP_app,List.length_append]
theorem wPs_places {z p q r a b tz tp tq tr ta tb:List ByteArray} (hz:toksP z = tz) (hp:toksP p = tp) (hq:toksP q = tq) (hr:toksP r = tr) (ha:toksP a = ta) (hb:toksP b = tb) :
    plAt (placed 0 (wPs z p q r a b)) 17 = 34∧plAt (placed 0 (wPs z p q r a b)) (tz.length + 25 + tp.length + tq.length + tr.length + 9) = (flat (wPs z p q r a b)).size - (flat (wC a b)).size ∧
    plAt (placed 0 (wPs z p q r a b)) (tz.length + 25 + tp.length + tq.length + tr.length + ta.length + tb.length + 16) = (flat (wPs z p q r a b)).size - 12:=by
 have c1:(toksP g1).length = 17:=by kernel_rfl
 have c1r:(toksP [tRet,tB]).length = 1:=by kernel_rfl
 have c2:(toksP g2).length = 9:=by kernel_rfl
 have c3:(toksP g3).length = 3:=by kernel_rfl
 have c4:(toksP g4).length = 3:=by kernel_rfl
 have c5:(toksP g5).length = 1:=by kernel_rfl
 have c6:(toksP g6).length = 4:=by kernel_rfl
 have c7:(toksP g7).length = 1:=by kernel_rfl
 have c8:(toksP g8).length = 2:=by kernel_rfl
 have ca:(toksP (wA z p q r)).length = tz.length + 25 + tp.length + tq.length + tr.length + 9:=by
  unfold wA
  simp only [toksP_len_app,hz,hp,hq,hr,c1,c1r,c2,c3,c4,c5]
  omega
 refine ⟨?_,?_,?_⟩
 ·have e:wPs z p q r a b = g1 ++ tRet :: (tB :: (z ++ (g2 ++ (p ++ (g3 ++ (q ++ (g4 ++ (r ++ ((g5 ++ g6) ++ (a ++ (g7 ++ (b ++ (g8 ++ g9))))))))))))):=rfl
  have:=place_at (A:=g1) (t:=tRet) (B:=tB :: (z ++ (g2 ++ (p ++ (g3 ++ (q ++ (g4 ++ (r ++ ((g5 ++ g6) ++ (a ++ (g7 ++ (b ++ (g8 ++ g9))))))))))))) rfl
  rw [c1,← e] at this
  rw [this]
  show _ = _
  kernel_rfl
 ·have e:wPs z p q r a b = wA z p q r ++ tZ :: ([tB,tEq,tB,tF,tOpen] ++ (a ++ (g7 ++ (b ++ (g8 ++ g9))))):=wPs_at5 z p q r a b
  have:=place_at (A:=wA z p q r) (t:=tZ) (B:=[tB,tEq,tB,tF,tOpen] ++ (a ++ (g7 ++ (b ++ (g8 ++ g9))))) rfl
  rw [← e,ca] at this
  rw [this,wPs_at5,size_flat_app]
  omega
 ·have e:wPs z p q r a b = (wA z p q r ++ (g6 ++ (a ++ (g7 ++ (b ++ g8))))) ++ tBS :: [tB,tThreads,tB,tP,tSemi]:=wPs_at6 z p q r a b
  have:=place_at (A:=wA z p q r ++ (g6 ++ (a ++ (g7 ++ (b ++ g8))))) (t:=tBS) (B:=[tB,tThreads,tB,tP,tSemi]) rfl
  have cl:(toksP (wA z p q r ++ (g6 ++ (a ++ (g7 ++ (b ++ g8)))))).length = tz.length + 25 + tp.length + tq.length + tr.length + ta.length + tb.length + 16:=by
   rw [toksP_len_app,ca]
   simp only [toksP_len_app,ha,hb,c6,c7,c8]
   omega
  rw [← e,cl] at this
  rw [this,wPs_at6,size_flat_app (wA z p q r ++ (g6 ++ (a ++ (g7 ++ (b ++ g8))))) g9,show (flat g9).size = 12 by kernel_rfl]
  omega
end RR
namespace RR
open Go Go.RowKit
structure RunOk (s:ByteArray) (L:List Tk) (τ:QSt):Prop where
 lex:lexF s 0 = (L,none)
 size:s.size ≤ 450
 len:L.length ≤ 450
 run:programQ L 600 ⟨⟨0,0,-1,false,[],[]⟩,[],[]⟩ = some τ
 ok:τ.p.failed = false
 check:outCheck τ.p.names τ.p.calls = (0,0)
 names:τ.p.names.length ≤ 500
 sts:τ.sts.length ≤ 1502
 nds:τ.nds.length ≤ 2001
 vals:∀ s ∈ τ.sts,s.at_ ≤ 450∧s.vals.length ≤ 601
 counts:(planF τ.p.names τ.sts τ.nds).shared ≤ 1000∧(planF τ.p.names τ.sts τ.nds).locks ≤ 1000∧(planF τ.p.names τ.sts τ.nds).threads.length ≤ 1000∧(planF τ.p.names τ.sts τ.nds).procs.length ≤ 1000
 lines:(planF τ.p.names τ.sts τ.nds).lines.length ≤ 1502∧(planF τ.p.names τ.sts τ.nds).nodes.length ≤ 2001
 each:∀ a ∈ (planF τ.p.names τ.sts τ.nds).lines,a.at_ ≤ 450∧a.vals.length ≤ 601
def worthS (z p q r a b:Pc):ByteArray:=flat (wPs z.ps p.ps q.ps r.ps a.ps b.ps)
structure WShow (P:Plan) (ch:Bool) (z p q r a b:Pc) (n5 n6:Nat):Prop where
 p1:∃ en rc dd,playP P ⟨#[blc (p.a && ch),blc (q.a && ch),blc (r.a && ch)]⟩ = (⟨bitF p.v ++ (bitF q.v ++ (bitF r.v ++ (bitF false ++ (⟨#[47,47]⟩ ++ (itoaF n5 ++ ⟨#[58]⟩))))),en,rc,dd⟩,0,0)
 p2:∃ en rc dd,playP P ⟨#[blc (p.a && ch),blc (q.a && ch),blc (r.a && ch),blc ((a.a || b.a) && ch)]⟩ = (⟨bitF p.v ++ (bitF q.v ++ (bitF r.v ++ (bitF false ++ (⟨#[47,47]⟩ ++ (itoaF n5 ++ (⟨#[58,44]⟩ ++ (itoaF 34 ++ (⟨#[58]⟩ ++ (bitF a.v ++ bitF b.v))))))))),en,rc,dd⟩,0,0)
 p3:∃ en rc dd,playP P ⟨#[blc (p.a && ch),blc (q.a && ch),blc (r.a && ch),blc ((a.a || b.a) && ch),blc (z.a && ch)]⟩ = (⟨bitF p.v ++ (bitF q.v ++ (bitF r.v ++ (bitF z.v ++ (⟨#[47,47]⟩ ++ (itoaF n6 ++ ⟨#[58]⟩))))),en,rc,dd⟩,0,0)
 p4:playP P ⟨#[blc (p.a && ch),blc (q.a && ch),blc (r.a && ch),blc ((a.a || b.a) && ch),blc (z.a && ch),97]⟩ = (⟨bitF p.v ++ (bitF q.v ++ (bitF r.v ++ (bitF z.v ++ ⟨#[47,47]⟩))),⟨#[]⟩,false,false⟩,0,0)
 p5:playP P ⟨#[blc (p.a && ch),blc (q.a && ch),blc (r.a && ch),blc ((a.a || b.a) && ch),blc (z.a && ch),97,97]⟩ = (zVw,8,6)
theorem and_ch {a ch:Bool}:a = true→(a && ch) = ch:=fun h=>by rw [h,Bool.true_and]
theorem and_left {a ch:Bool}:(a && ch) = true→a = true:=fun h=>by cases a <;> simp_all
theorem vw_of {P:Plan} {c:Cfg} {T:ByteArray} (h:textF P c = T):(viewF P c,(0:Int),(0:Int)) = (⟨T,enabledF P c,raceF P c,deadF P c⟩,0,0):=by
 unfold viewF
 rw [h]
theorem worth_fin {ch:Bool} {z p q r a b:Pc} (hp:ExpP [] ch 10 0 24 p) (hq:ExpP [(tW,p.v)] ch 10 0 24 q) (hr:ExpP [(tW,p.v),(tX,q.v)] ch 10 0 24 r) (ha:ExpP [(tW,p.v),(tX,q.v),(tY,r.v)] ch 21 1 87 a) (hb:ExpP [(tW,p.v),(tX,q.v),(tY,r.v)] ch 10 0 24 b) (hz:ExpP [(tW,p.v),(tX,q.v),(tY,r.v),(tA,a.v),(tBb,b.v)] ch 21 1 87 z) :
    ∃ L τ,RunOk (worthS z p q r a b) L τ∧WShow (planF τ.p.names τ.sts τ.nds) ch z p q r a b ((worthS z p q r a b).size - (flat (wC a.ps b.ps)).size) ((worthS z p q r a b).size - 12):=by
 obtain ⟨tp,rp,op⟩:=hp.is
 obtain ⟨tq,rq,oq⟩:=hq.is
 obtain ⟨tr,rr,or_⟩:=hr.is
 obtain ⟨ta,ra,oa⟩:=ha.is
 obtain ⟨tb,rb,ob⟩:=hb.is
 obtain ⟨tz,rz,oz⟩:=hz.is
 obtain ⟨⟨d,hadj⟩,htoks,hsize⟩:=wPs_row rz rp rq rr ra rb
 have hpl:=wPs_places rz.toks rp.toks rq.toks rr.toks ra.toks rb.toks
 obtain ⟨l1,l2⟩:=lex_all hadj
 have l3:=lex_placed (flat (wPs z.ps p.ps q.ps r.ps a.ps b.ps)) _ false d 0 hadj (Nat.zero_le _) ByteArray.extract_zero_size
 rw [htoks] at l1
 have hS:worthS z p q r a b = flat (wPs z.ps p.ps q.ps r.ps a.ps b.ps):=rfl
 rw [← hS] at l1 l2 l3 hsize hpl
 have hlen:=lexF_len (worthS z p q r a b) 0
 have hpls:=lex_places (worthS z p q r a b) (worthS z p q r a b).size 0 (by omega)
 have hlex:lexF (worthS z p q r a b) 0 = ((lexF (worthS z p q r a b) 0).1,none):=by rw [← l2]
 rw [← l3] at hpl
 clear l3 l2 hadj htoks
 generalize (lexF (worthS z p q r a b) 0).1 = L at *
 obtain ⟨nz,xz,np,nq,nr,na,nb,xp,xq,xr,xa,xb,N0,N1,N2,N3,N4,X1,X2,X3,S,run,eN0,mk,wz,wp,wq,wr,wa,wb,ln,lx⟩:=prog_made oz (op.more (by omega) (by omega)) (oq.more (by omega) (by omega)) (or_.more (by omega) (by omega)) oa (ob.more (by omega) (by omega)) l1
 have hLl:L.length = tz.length + tp.length + tq.length + tr.length + ta.length + tb.length + 45:=by
  rw [← List.length_map (f:=Tk.t),l1]
  unfold wT
  simp only [List.length_append,List.length_cons,List.length_nil]
  omega
 obtain ⟨e1,e2,e3,e4,f1,f2,f3,eS⟩:=mk
 subst eS
 rw [hpl.1,hpl.2.1,hpl.2.2] at run
 have hN:WNm L (N4 ++ [⟨tP,plAt L (tz.length + tp.length + tq.length + tr.length + ta.length + tb.length + 43),7,1⟩]) nz ((⟨tW,plAt L (tz.length + 25),4,1⟩ :: np) ++ ((⟨tX,plAt L (tz.length + 25 + tp.length + 3),4,1⟩ :: nq) ++ ((⟨tY,plAt L (tz.length + 25 + tp.length + tq.length + 6),4,1⟩ :: nr) ++ (⟨tZ,plAt L (tz.length + 25 + tp.length + tq.length + tr.length + 9),4,1⟩ :: ⟨tF,plAt L (tz.length + 25 + tp.length + tq.length + tr.length + 11),6,1⟩ :: (na ++ nb))))):=by
  refine ⟨⟨plAt L (tz.length + 21),plAt L (tz.length + tp.length + tq.length + tr.length + ta.length + tb.length + 43),?_⟩,fun x hx=>?_,fun x hx=>?_⟩
  ·rw [e4,e3,e2,e1,eN0]; simp only [List.append_assoc,List.cons_append,List.nil_append]
  ·obtain ⟨u1,u2,c,u3⟩:=wz.use x hx
   refine ⟨u1,u2,?_⟩
   simp only [List.mem_cons,List.not_mem_nil,or_false,Prod.mk.injEq] at u3
   rcases u3 with ⟨h,_⟩ | ⟨h,_⟩ | ⟨h,_⟩ | ⟨h,_⟩ | ⟨h,_⟩ <;> simp [h]
  ·simp only [List.mem_append,List.mem_cons] at hx
   rcases hx with (h | h) | (h | h) | (h | h) | h | h | h | h
   ·rw [h]; exact ⟨rfl,.inl ⟨rfl,.inl rfl⟩⟩
   ·obtain ⟨u1,u2,c,u3⟩:=wp.use x h
    cases u3
   ·rw [h]; exact ⟨rfl,.inl ⟨rfl,.inr (.inl rfl)⟩⟩
   ·obtain ⟨u1,u2,c,u3⟩:=wq.use x h
    simp only [List.mem_cons,List.not_mem_nil,or_false,Prod.mk.injEq] at u3
    exact ⟨u2,.inl ⟨u1,.inl u3.1⟩⟩
   ·rw [h]; exact ⟨rfl,.inl ⟨rfl,.inr (.inr (.inl rfl))⟩⟩
   ·obtain ⟨u1,u2,c,u3⟩:=wr.use x h
    simp only [List.mem_cons,List.not_mem_nil,or_false,Prod.mk.injEq] at u3
    refine ⟨u2,.inl ⟨u1,?_⟩⟩
    rcases u3 with ⟨h,_⟩ | ⟨h,_⟩ <;> simp [h]
   ·rw [h]; exact ⟨rfl,.inl ⟨rfl,.inr (.inr (.inr rfl))⟩⟩
   ·rw [h]; exact ⟨rfl,.inr ⟨rfl,rfl⟩⟩
   ·obtain ⟨u1,u2,c,u3⟩:=wa.use x h
    simp only [List.mem_cons,List.not_mem_nil,or_false,Prod.mk.injEq] at u3
    refine ⟨u2,.inl ⟨u1,?_⟩⟩
    rcases u3 with ⟨h,_⟩ | ⟨h,_⟩ | ⟨h,_⟩ <;> simp [h]
   ·obtain ⟨u1,u2,c,u3⟩:=wb.use x h
    simp only [List.mem_cons,List.not_mem_nil,or_false,Prod.mk.injEq] at u3
    refine ⟨u2,.inl ⟨u1,?_⟩⟩
    rcases u3 with ⟨h,_⟩ | ⟨h,_⟩ | ⟨h,_⟩ <;> simp [h]
 have sm:=program_small (by omega) run rfl rfl rfl
 have sb:=stb_program (M:=450) (fun t ht=>by have:=hpls t ht; omega) run rfl
 have hNlen:(N4 ++ [(⟨tP,plAt L (tz.length + tp.length + tq.length + tr.length + ta.length + tb.length + 43),7,1⟩:Nm)]).length ≤ 500:=by
  rw [e4,e3,e2,e1,eN0]
  unfold nm7
  simp only [List.length_append,List.length_cons,List.length_nil]
  omega
 have hd:X3 ++ (xa ++ xb) = xz ++ xp ++ xq ++ xr ++ xa ++ xb:=by rw [f3,f2,f1]; simp only [List.append_assoc]
 -- the names stand where they are noted
 have cut:∀ {A B:List Nm} {x:Nm},(A ++ x :: B)[A.length]? = some x:=fun {A B x}=>by rw [List.getElem?_append_right (Nat.le_refl _),Nat.sub_self]; rfl
 have cut1:∀ {A B:List Nm} {x y:Nm},(A ++ x :: y :: B)[A.length + 1]? = some y:=fun {A B x y}=>by rw [List.getElem?_append_right (by omega),show A.length + 1 - A.length = 1 by omega]; rfl
 obtain ⟨q9,hq9⟩:∃ q:Nm,q = ⟨tP,plAt L (tz.length + tp.length + tq.length + tr.length + ta.length + tb.length + 43),7,1⟩:=⟨_,rfl⟩
 obtain ⟨c9,hc9⟩:∃ q:Nat,q = plAt L (tz.length + 25 + tp.length + tq.length + tr.length + 11):=⟨_,rfl⟩
 rw [← hq9] at run hN hNlen
 rw [← hc9] at run hN e4
 have n4:N4 ++ [q9] = N3 ++ (⟨tZ,plAt L (tz.length + 25 + tp.length + tq.length + tr.length + 9),4,1⟩ :: ⟨tF,c9,6,1⟩ :: ((na ++ nb) ++ [q9])):=by rw [e4]; simp only [List.append_assoc,List.cons_append]
 have n3:N4 ++ [q9] = N2 ++ (⟨tY,plAt L (tz.length + 25 + tp.length + tq.length + 6),4,1⟩ :: (nr ++ (⟨tZ,plAt L (tz.length + 25 + tp.length + tq.length + tr.length + 9),4,1⟩ :: ⟨tF,c9,6,1⟩ :: ((na ++ nb) ++ [q9])))):=by rw [n4,e3]; simp only [List.append_assoc,List.cons_append]
 have n2:N4 ++ [q9] = N1 ++ (⟨tX,plAt L (tz.length + 25 + tp.length + 3),4,1⟩ :: (nq ++ (⟨tY,plAt L (tz.length + 25 + tp.length + tq.length + 6),4,1⟩ :: (nr ++ (⟨tZ,plAt L (tz.length + 25 + tp.length + tq.length + tr.length + 9),4,1⟩ :: ⟨tF,c9,6,1⟩ :: ((na ++ nb) ++ [q9])))))):=by rw [n3,e2]; simp only [List.append_assoc,List.cons_append]
 have n1:N4 ++ [q9] = N0 ++ (⟨tW,plAt L (tz.length + 25),4,1⟩ :: (np ++ (⟨tX,plAt L (tz.length + 25 + tp.length + 3),4,1⟩ :: (nq ++ (⟨tY,plAt L (tz.length + 25 + tp.length + tq.length + 6),4,1⟩ :: (nr ++ (⟨tZ,plAt L (tz.length + 25 + tp.length + tq.length + tr.length + 9),4,1⟩ :: ⟨tF,c9,6,1⟩ :: ((na ++ nb) ++ [q9])))))))):=by rw [n2,e1]; simp only [List.append_assoc,List.cons_append]
 have n0:N4 ++ [q9] = nm7 L ++ (nz ++ (⟨tP,plAt L (tz.length + 21),2,1⟩ :: (⟨tW,plAt L (tz.length + 25),4,1⟩ :: (np ++ (⟨tX,plAt L (tz.length + 25 + tp.length + 3),4,1⟩ :: (nq ++ (⟨tY,plAt L (tz.length + 25 + tp.length + tq.length + 6),4,1⟩ :: (nr ++ (⟨tZ,plAt L (tz.length + 25 + tp.length + tq.length + tr.length + 9),4,1⟩ :: ⟨tF,c9,6,1⟩ :: ((na ++ nb) ++ [q9])))))))))):=by rw [n1,eN0]; simp only [List.append_assoc,List.cons_append,List.nil_append]
 obtain ⟨m2,t2,w2⟩:∃ n:Nm,(N4 ++ [q9])[N0.length]? = some n∧n.word = tW:=⟨_,by rw [n1]; exact cut,rfl⟩
 obtain ⟨m3,t3,w3⟩:∃ n:Nm,(N4 ++ [q9])[N1.length]? = some n∧n.word = tX:=⟨_,by rw [n2]; exact cut,rfl⟩
 obtain ⟨m4,t4,w4⟩:∃ n:Nm,(N4 ++ [q9])[N2.length]? = some n∧n.word = tY:=⟨_,by rw [n3]; exact cut,rfl⟩
 obtain ⟨m5,t5,w5⟩:∃ n:Nm,(N4 ++ [q9])[N3.length]? = some n∧n.word = tZ:=⟨_,by rw [n4]; exact cut,rfl⟩
 obtain ⟨m6,t6,w6⟩:∃ n:Nm,(N4 ++ [q9])[N3.length + 1]? = some n∧n.word = tF:=⟨_,by rw [n4]; exact cut1,rfl⟩
 subst f3 f2 f1
 have WP:=wpl_of hN (q0:=34) (q1:=plAt L (tz.length + 19)) (q2:=plAt L (tz.length + 25)) (q3:=plAt L (tz.length + 25 + tp.length + 3)) (q4:=plAt L (tz.length + 25 + tp.length + tq.length + 6)) (q5:=(worthS z p q r a b).size - (flat (wC a.ps b.ps)).size) (q6:=(worthS z p q r a b).size - 12) t2 w2 t3 w3 t4 w4 t5 w5 t6 w6 wz.asks wp.asks wq.asks wr.asks wa.asks wb.asks rfl hd
 have hok:=hN.ok c9
 have ps:=plan_small (ns:=N4 ++ [q9]) (nds:=xz ++ xp ++ xq ++ xr ++ (xa ++ xb)) sb
 refine ⟨L,_,⟨hlex,by omega,by omega,run,rfl,hok,hNlen,sm.2,sm.1,sb,?_,?_,ps.2.2⟩,?_⟩
 ·refine ⟨Nat.le_trans (Nat.le_of_eq WP.shared) (by decide),Nat.le_trans (Nat.le_of_eq WP.locks) (by decide),Nat.le_trans (Nat.le_of_eq (congrArg List.length WP.threads)) (by decide),Nat.le_trans (Nat.le_of_eq (congrArg List.length WP.procs)) (by decide)⟩
 ·exact ⟨Nat.le_trans (Nat.le_of_eq ps.1) sm.2,Nat.le_trans (Nat.le_of_eq ps.2.1) sm.1⟩
 have bx:xz.length + xp.length + xq.length + xr.length + xa.length + xb.length ≤ 900:=by omega
 clear ps sb sm run hok hNlen t2 t3 t4 t5 t6 hlex hpls hpl hlen l1
 have hd0:xz ++ xp ++ xq ++ xr ++ (xa ++ xb) = [] ++ (xz ++ (xp ++ xq ++ xr ++ (xa ++ xb))):=by simp only [List.append_assoc,List.nil_append]
 have hd2:xz ++ xp ++ xq ++ xr ++ (xa ++ xb) = xz ++ (xp ++ (xq ++ xr ++ (xa ++ xb))):=by simp only [List.append_assoc]
 have hd3:xz ++ xp ++ xq ++ xr ++ (xa ++ xb) = (xz ++ xp) ++ (xq ++ (xr ++ (xa ++ xb))):=by simp only [List.append_assoc]
 have hd4:xz ++ xp ++ xq ++ xr ++ (xa ++ xb) = (xz ++ xp ++ xq) ++ (xr ++ (xa ++ xb)):=by simp only [List.append_assoc]
 have hd6:xz ++ xp ++ xq ++ xr ++ (xa ++ xb) = (xz ++ xp ++ xq ++ xr ++ xa) ++ (xb ++ []):=by simp only [List.append_assoc,List.append_nil]
 have PL:=plays_of WP (vp:=p.v) (vq:=q.v) (vr:=r.v) (va:=a.v) (vb:=b.v) (vz:=z.v) (g2:=p.a && ch) (g3:=q.a && ch) (g4:=r.a && ch) (g5:=(a.a || b.a) && ch) (g0:=z.a && ch)
  (wp.at_ hN (A':=N0 ++ [⟨tW,plAt L (tz.length + 25),4,1⟩]) (by rw [List.length_append]; rfl) rfl (n1.trans (List.append_assoc _ [_] _).symm) hd2 (fun x hx=>by cases hx) and_ch (by omega))
  (wq.at_ hN (A':=N1 ++ [⟨tX,plAt L (tz.length + 25 + tp.length + 3),4,1⟩]) (by rw [List.length_append]; rfl) rfl (n2.trans (List.append_assoc _ [_] _).symm) hd3 (fun x hx=>by
   simp only [List.mem_cons,List.not_mem_nil,or_false] at hx
   subst hx; exact ⟨.inl rfl,rfl⟩) and_ch (by simp only [List.length_append]; omega))
  (wr.at_ hN (A':=N2 ++ [⟨tY,plAt L (tz.length + 25 + tp.length + tq.length + 6),4,1⟩]) (by rw [List.length_append]; rfl) rfl (n3.trans (List.append_assoc _ [_] _).symm) hd4 (fun x hx=>by
   simp only [List.mem_cons,List.not_mem_nil,or_false] at hx
   rcases hx with hx | hx
   ·subst hx; exact ⟨.inl rfl,rfl⟩
   ·subst hx; exact ⟨.inr (.inl rfl),rfl⟩) and_ch (by simp only [List.length_append]; omega))
  (wa.at_ hN (A':=N3 ++ [⟨tZ,plAt L (tz.length + 25 + tp.length + tq.length + tr.length + 9),4,1⟩,⟨tF,c9,6,1⟩]) (B':=nb ++ [q9]) (by rw [List.length_append]; rfl) rfl (by rw [n4]; simp only [List.append_assoc,List.cons_append,List.nil_append]) rfl (fun x hx=>by
   simp only [List.mem_cons,List.not_mem_nil,or_false] at hx
   rcases hx with hx | hx | hx
   ·subst hx; exact ⟨.inl rfl,rfl⟩
   ·subst hx; exact ⟨.inr (.inl rfl),rfl⟩
   ·subst hx; exact ⟨.inr (.inr (.inl rfl)),rfl⟩) (fun h=>by rw [h,Bool.true_or,Bool.true_and]) (by simp only [List.length_append]; omega))
  (wb.at_ hN (A':=N3 ++ [⟨tZ,plAt L (tz.length + 25 + tp.length + tq.length + tr.length + 9),4,1⟩,⟨tF,c9,6,1⟩] ++ na) (B':=[q9]) (by simp only [List.length_append,List.length_cons,List.length_nil]) (by simp only [List.length_append]) (by rw [n4]; simp only [List.append_assoc,List.cons_append,List.nil_append]) hd6 (fun x hx=>by
   simp only [List.mem_cons,List.not_mem_nil,or_false] at hx
   rcases hx with hx | hx | hx
   ·subst hx; exact ⟨.inl rfl,rfl⟩
   ·subst hx; exact ⟨.inr (.inl rfl),rfl⟩
   ·subst hx; exact ⟨.inr (.inr (.inl rfl)),rfl⟩) (fun h=>by rw [h,Bool.or_true,Bool.true_and]) (by simp only [List.length_append]; omega))
  (wz.at_ hN (A:=[]) (A':=nm7 L) rfl rfl n0 hd0 (fun x hx=>by
   simp only [List.mem_cons,List.not_mem_nil,or_false] at hx
   rcases hx with hx | hx | hx | hx | hx
   ·subst hx; exact ⟨.inl rfl,rfl⟩
   ·subst hx; exact ⟨.inr (.inl rfl),rfl⟩
   ·subst hx; exact ⟨.inr (.inr (.inl rfl)),rfl⟩
   ·subst hx; exact ⟨.inr (.inr (.inr (.inr ⟨rfl,.inl rfl⟩))),rfl⟩
   ·subst hx; exact ⟨.inr (.inr (.inr (.inr ⟨rfl,.inr rfl⟩))),rfl⟩) and_ch (by simp only [List.length_nil]; omega))
  and_left and_left and_left and_left and_left
 obtain ⟨h1,h2,h3,h4,h5⟩:=plays_w PL
 obtain ⟨_,l0⟩:=WP.l0
 obtain ⟨_,l6⟩:=WP.l6
 exact ⟨⟨_,_,_,h1.trans (vw_of (text_1 WP.shared WP.locks WP.threads WP.l5.place WP.l5.params))⟩,⟨_,_,_,h2.trans (vw_of (text_2 WP.shared WP.locks WP.threads WP.l5.place WP.l5.params l0.place l0.params))⟩,⟨_,_,_,h3.trans (vw_of (text_1 WP.shared WP.locks WP.threads l6.place l6.params))⟩,h4.trans (by rw [text_0 WP.shared WP.locks WP.threads]),h5⟩
end RR
namespace Go.Proofs.YtmfcpbhdggonfaaGreatDoor
open Go.RowKit RR
set_option maxRecDepth 100000 in
theorem k_letter (a c:Bool) (w:World):Calls Tryz.prog 27 #[.bool a,.bool c] w fun e w'=>e = .returned (.string ⟨#[blc (a && c)]⟩)∧w' = w:=by
 cases a
 ·go_enter Tryz.func27,Tryz.ntmps27
  go_wp2_with fail
  go_ret
  exact ⟨rfl,rfl⟩
 ·cases c
  ·go_enter Tryz.func27,Tryz.ntmps27
   go_wp2_with fail
   go_ret
   exact ⟨rfl,rfl⟩
  ·go_enter Tryz.func27,Tryz.ntmps27
   go_wp2_with fail
   go_ret
   exact ⟨rfl,rfl⟩
set_option maxRecDepth 100000 in
theorem k_digitW (b:Bool) (w:World):Calls Tryz.prog 28 #[.bool b] w fun e w'=>e = .returned (.string (bitF b))∧w' = w:=by
 cases b
 all_goals
  go_enter Tryz.func28,Tryz.ntmps28
  go_wp2
  go_ret
  exact ⟨rfl,rfl⟩
def vwW (r:Vw × Int × Int):Value:=.tuple #[.agg #[.string r.1.text,.string r.1.enabled,.bool r.1.race,.bool r.1.dead],.int .i64 r.2.1,.int .i64 r.2.2]
def PlayW_ (W:World) (p:Plan) (tx:ByteArray):Prop:=∀ s,s.size ≤ 200→∀ w,Below W.heap.size W w→Calls Tryz.prog 22 #[.string tx,.string s] w fun e w'=>e = .returned (vwW (playP p s))∧Below w.heap.size w w'
def ItoW (W:World):Prop:=∀ (n:Nat) (z:Int),z = n→n ≤ 450→(itoaF n).size ≤ 1000∧∀ w,Below W.heap.size W w→Calls Tryz.prog 29 #[.int .i64 z] w fun e w'=>e = .returned (.string (itoaF n))∧Below w.heap.size w w'
theorem bit_sizeW (b:Bool):(bitF b).size ≤ 1:=by cases b <;> decide
def MakeW (W:World) (raw:ByteArray) (ch:Bool):Prop:=∀ (F B:Nat) (E:List (ByteArray × Bool)) (a1 a2:Option Addr),W.heap.size ≤ F→B ≠ F→E.length ≤ 5→(∀ x ∈ E,NmE x.1)→ExpC W.heap.size F B raw E ch a1 a2 0 (exp0 raw E ch)∧ExpC W.heap.size F B raw E ch a1 a2 1 (exp1 raw E ch)
end Go.Proofs.YtmfcpbhdggonfaaGreatDoor
