/- The statement Wider: what its searches are. -/
import Derived.Test.YtmfcpbhdggonfaaGreatDoorMiBU
import Derived.Test.YtmfcpbhdggonfaaGreatDoorMiBV
namespace Go.Proofs.YtmfcpbhdggonfaaGreatDoor
open Go.RowKit RR
theorem begin_rep (p:Plan):(beginF p).rep = ⟨raceF p (start1 p),deadF p (start1 p),⟨#[]⟩,⟨#[]⟩,false,1⟩:=by
 unfold beginF seeP
 simp only [zRp]
 cases raceF p (start1 p) <;> cases deadF p (start1 p) <;> rfl
theorem points_of {p:Plan} {c:Int} {n:Nat} {s:Sr} (h0:0 ≤ c) (h:roundsF p c n (beginF p) = some s):s.rep.points = s.seen.length:=by
 obtain ⟨j,_,_,hA,_⟩:=AllK.rounds n 0 (beginF p) s (AllK.begin p c h0) h
 exact hA.flag.points
def ansR (o:Option Sr):Rp:=match o with
 | none=>zRp
 | some s=>s.rep
def ansE (o:Option Sr):Int:=match o with
 | none=>9
 | some _=>0
theorem sp_ans {p:Plan} {c:Int} {n:Nat} (h1:1 ≤ c) (h6:c ≤ 6) (hn:n ≤ 60):searchP p c n = (ansR (roundsF p c n (beginF p)),ansE (roundsF p c n (beginF p))):=by
 cases h:roundsF p c n (beginF p) with
 | none=>exact sp_none h1 h6 hn h
 | some s=>exact sp_some h1 h6 hn h
theorem ansE_two (o:Option Sr):ansE o = 9 ∨ ansE o = 0:=by
 cases o with
 | none=>exact .inl rfl
 | some s=>exact .inr rfl
theorem ansE_ok {o:Option Sr} (h:ansE o = 0):∃ s,o = some s∧ansR o = s.rep:=by
 cases o with
 | none=>exact absurd h (by decide)
 | some s=>exact ⟨s,rfl,rfl⟩
theorem wd_of {p:Plan} {c:Int} {m:Nat} (h0:0 ≤ c) (o1 o2 o3:Option Sr) (e1:roundsF p c m (beginF p) = o1) (e2:roundsF p (c + 1) m (beginF p) = o2) (e3:roundsF p c (m + 1) (beginF p) = o3) :
    WdS (ansR o1).race (ansR o1).dead (ansR o1).whole (ansR o1).raceBy (ansR o1).deadBy (ansR o1).points (ansE o1) (ansR o2).race (ansR o2).dead (ansR o2).raceBy (ansR o2).deadBy (ansE o2) (ansR o3).race (ansR o3).dead (ansR o3).whole (ansR o3).raceBy (ansR o3).deadBy (ansR o3).points (ansE o3):=by
 have ws:=wider_steps (p:=p) (most:=c) m
 refine ⟨ansE_two _,ansE_two _,ansE_two _,fun h=>?_,fun h g=>?_,fun h hw=>?_,fun h g=>?_⟩
 ·cases o1 with
  | none=>rw [← e3,ws.1 e1]; rfl
  | some s=>exact absurd (show (0:Int) = 9 from h) (by decide)
 ·obtain ⟨s1,a1,b1⟩:=ansE_ok h
  obtain ⟨s2,a2,b2⟩:=ansE_ok g
  rw [b1,b2]
  rw [a1] at e1
  rw [a2] at e2
  exact wider_contexts h0 (by omega) e1 e2
 ·obtain ⟨s1,a1,b1⟩:=ansE_ok h
  rw [b1] at hw
  rw [a1] at e1
  have:=(ws.2 s1 e1).1 hw
  rw [e3] at this
  subst this
  rw [b1]
  exact ⟨rfl,hw,rfl,rfl,rfl⟩
 ·obtain ⟨s1,a1,b1⟩:=ansE_ok h
  obtain ⟨s3,a3,b3⟩:=ansE_ok g
  rw [b1,b3]
  rw [a1] at e1
  rw [a3] at e3
  have k:=(ws.2 s1 e1).2 s3 e3
  refine ⟨fun q=>⟨(k.race q).1,by rw [(k.race q).2]⟩,fun q=>⟨(k.dead q).1,by rw [(k.dead q).2]⟩,?_⟩
  rw [points_of h0 e1,points_of h0 e3]
  have:=k.seen
  omega
theorem follow_nil (p:Plan):followF p ⟨#[]⟩ (⟨#[]⟩:ByteArray).size 0 (start1 p) = .ok (start1 p):=rfl
theorem search_zero (p:Plan) {c:Int} (h1:1 ≤ c) (h6:c ≤ 6):searchP p c ((0:Nat):Int) = (⟨raceF p (start1 p),deadF p (start1 p),⟨#[]⟩,⟨#[]⟩,false,1⟩,0):=by
 rw [sp_some h1 h6 (Nat.zero_le _) (rounds_zero p c (beginF p)),begin_rep]
theorem play_nil {W:World} {p:Plan} {tx:ByteArray} (h:PlayC W p tx):∀ w,Below W.heap.size W w→Calls Tryz.prog 22 #[.string tx,.string ⟨#[]⟩] w fun e w'=>e = .returned (.tuple #[.agg #[.string (textF p (start1 p)),.string (enabledF p (start1 p)),.bool (raceF p (start1 p)),.bool (deadF p (start1 p))],.int .i64 0,.int .i64 0])∧Below w.heap.size w w':=fun w hb=>by
 have:=h ⟨#[]⟩ (by decide) w hb
 rw [play_follow (by decide) (follow_nil p)] at this
 exact this
theorem k_Wider_all (raw:ByteArray) (c st:Int) (hr:raw.size ≤ 9223372036854775807) (hc:-9223372036854775808 ≤ c∧c ≤ 9223372036854775807) (hst:-9223372036854775808 ≤ st∧st ≤ 9223372036854775807) (W:World) (ht:TabOk W) :
    Calls Tryz.prog 12 #[.string raw,.int .i64 c,.int .i64 st] W fun e w'=>e = .returned (.bool true)∧Below W.heap.size W w':=by
 obtain ⟨j,hj,hp1⟩:=k_pickG c 5 hc (by decide)
 obtain ⟨m,hm,hp2⟩:=k_pickG st 60 hst (by decide)
 have pf:=prog_facts raw
 have hT:=text_head pf.2.2.1 pf.2.2.2.1 pf.2.2.2.2
 have hP:=play_nil (off_play raw ht)
 have hpr:=off_prog raw hr W
 have sea:=fun {c:Int} {n:Nat} {r:Rp} {e:Int}=>sea_of raw (c:=c) (n:=n) (r:=r) (e:=e)
 generalize planOf (progS raw) = p at *
 generalize progS raw = tx at *
 have o1:=sea (c:=1 + j) (n:=m) (by omega) (by omega) (by omega) (sp_ans (by omega) (by omega) (by omega)) W
 have o2:=sea (c:=1 + j + 1) (n:=m) (by omega) (by omega) (by omega) (sp_ans (by omega) (by omega) (by omega)) W
 have o3:=sea (c:=1 + j) (n:=m + 1) (by omega) (by omega) (by omega) (sp_ans (by omega) (by omega) (by omega)) W
 have o0:=sea (c:=1 + j) (n:=0) (by omega) (by omega) (Nat.zero_le _) (search_zero p (by omega) (by omega)) W
 have hw:=wd_of (p:=p) (c:=1 + j) (m:=m) (by omega) _ _ _ rfl rfl rfl
 exact k_Wider W raw tx c st j m (by omega) (by omega) _ _ _ _ 0 _ _ _ _ _ _ _ _ _ _ _ _ _ _ _ _ _ _ _ _ _ hpr hP hT hp1 hp2 o1 o2 o3 o0 hw
end Go.Proofs.YtmfcpbhdggonfaaGreatDoor
