import Derived.Test.YtjophoclfccmcaaGreatDoorPfW
namespace Go.Proofs.YtjophoclfccmcaaGreatDoor
open Go.RowKit
def hU:ByteArray:=⟨#[109,101,115,115,97,103,101]⟩
def Kf:ByteArray:=⟨#[109,97,112]⟩
def mB:List ByteArray:=[⟨#[111,112,116,105,111,110]⟩,⟨#[101,120,116,101,110,100]⟩,⟨#[101,120,116,101,110,115,105,111,110,115]⟩,⟨#[103,114,111,117,112]⟩,⟨#[114,101,113,117,105,114,101,100]⟩]
theorem Du {s:ay}{o:Int} (hg:Gd s) (h1:¬s.here.kind=1) (h2:¬aJ s.here 4 ⟨#[46]⟩=true):cq o s=.error (bR s):=by
 unfold cq gG
 have e:ba true s.begun=.error (bR s):=by
  rw[show s.begun=ll true s from rfl,tO,IH hg (by simpa using h2)]
  unfold aR
  rw[if_neg h1]
  rfl
 rw[e]
noncomputable def nI (mf:ay→Except (Int×Int) (Ms×ay)) (x:Mp) (s:ay):Except (Int×Int) (Mp×ay) :=
 if aJ s.here 4 ⟨#[59]⟩=true then .ok (x,s.nx)
 else if ¬s.here.kind=1∧¬aJ s.here 4 ⟨#[46]⟩=true then .error (bR s)
 else if aJ s.here 1 hU=true then FL x (mf s)
 else if aJ s.here 1 lj=true then YR x s
 else if aJ s.here 1 EP=true then fH x s
 else if aJ s.here 1 kq=true then Rx x s
 else if aJ s.here 1 Kf=true∧aJ (s.ahead 1) 4 ⟨#[60]⟩=true then lV x (lu s)
 else lV x (fX s)
theorem gj {t:Tk}{k:Int} (h:¬t.kind=k) (x:ByteArray):¬aJ t k x=true:=fun q=>h (bk.1 q).1
theorem bM {t:Tk}{W W':ByteArray}{k:Int} (e:t.text=W) (h:W≠W'):¬aJ t k W'=true:=fun q=>h (by rw[←e];exact (bk.1 q).2)
theorem cb {W W':ByteArray} (h:(W.data.toList==W'.data.toList)=false):W≠W':=fun e=>by
 subst e
 simp at h
theorem U3 {k:ByteArray} (e:k=⟨#[111,112,116,105,111,110]⟩):k ∈ mB:=by
 subst e
 unfold mB
 simp only[List.mem_cons,true_or]
theorem RH {k:ByteArray} (e:k=⟨#[101,120,116,101,110,100]⟩):k ∈ mB:=by
 subst e
 unfold mB
 simp only[List.mem_cons,true_or,or_true]
theorem RF {k:ByteArray} (e:k=⟨#[101,120,116,101,110,115,105,111,110,115]⟩):k ∈ mB:=by
 subst e
 unfold mB
 simp only[List.mem_cons,true_or,or_true]
theorem RE {k:ByteArray} (e:k=⟨#[103,114,111,117,112]⟩):k ∈ mB:=by
 subst e
 unfold mB
 simp only[List.mem_cons,true_or,or_true]
theorem RD {k:ByteArray} (e:k=⟨#[114,101,113,117,105,114,101,100]⟩):k ∈ mB:=by
 subst e
 unfold mB
 simp only[List.mem_cons,true_or,or_true]
theorem YP (mf:ay→Except (Int×Int) (Ms×ay)) (k:ByteArray):(k=hU∧mz mf k=some (msM mf))∨(k=lj∧mz mf k=some YR)∨(k=EP∧mz mf k=some fH)∨(k=kq∧mz mf k=some Rx)∨(k=nV∧mz mf k=some (msL 2))∨(k=pf∧mz mf k=some (msL 3))∨(k=Kf∧mz mf k=some Ni)∨(k ∈ mB∧mz mf k=some dv)∨((k≠hU∧k≠lj∧k≠EP∧k≠kq∧k≠nV∧k≠pf∧k≠Kf∧k ∉ mB)∧mz mf k=none):=by
 by_cases h1:(k==(⟨#[109,101,115,115,97,103,101]⟩:ByteArray))=true
 ·exact .inl ⟨gC h1,by unfold mz;rw[if_pos h1]⟩
 by_cases h2:(k==(⟨#[101,110,117,109]⟩:ByteArray))=true
 ·exact .inr (.inl ⟨gC h2,by unfold mz;rw[if_neg h1,if_pos h2]⟩)
 by_cases h3:(k==(⟨#[111,110,101,111,102]⟩:ByteArray))=true
 ·exact .inr (.inr (.inl ⟨gC h3,by unfold mz;rw[if_neg h1,if_neg h2,if_pos h3]⟩))
 by_cases h4:(k==(⟨#[114,101,115,101,114,118,101,100]⟩:ByteArray))=true
 ·exact .inr (.inr (.inr (.inl ⟨gC h4,by unfold mz;rw[if_neg h1,if_neg h2,if_neg h3,if_pos h4]⟩)))
 by_cases h5:(k==(⟨#[111,112,116,105,111,110,97,108]⟩:ByteArray))=true
 ·exact .inr (.inr (.inr (.inr (.inl ⟨gC h5,by unfold mz;rw[if_neg h1,if_neg h2,if_neg h3,if_neg h4,if_pos h5]⟩))))
 by_cases h6:(k==(⟨#[114,101,112,101,97,116,101,100]⟩:ByteArray))=true
 ·exact .inr (.inr (.inr (.inr (.inr (.inl ⟨gC h6,by unfold mz;rw[if_neg h1,if_neg h2,if_neg h3,if_neg h4,if_neg h5,if_pos h6]⟩)))))
 by_cases h7:(k==(⟨#[109,97,112]⟩:ByteArray))=true
 ·exact .inr (.inr (.inr (.inr (.inr (.inr (.inl ⟨gC h7,by unfold mz;rw[if_neg h1,if_neg h2,if_neg h3,if_neg h4,if_neg h5,if_neg h6,if_pos h7]⟩))))))
 by_cases h8:(k==(⟨#[111,112,116,105,111,110]⟩:ByteArray))=true
 ·exact .inr (.inr (.inr (.inr (.inr (.inr (.inr (.inl ⟨U3 (gC h8),by unfold mz;rw[if_neg h1,if_neg h2,if_neg h3,if_neg h4,if_neg h5,if_neg h6,if_neg h7,if_pos h8]⟩)))))))
 by_cases h9:(k==(⟨#[101,120,116,101,110,100]⟩:ByteArray))=true
 ·exact .inr (.inr (.inr (.inr (.inr (.inr (.inr (.inl ⟨RH (gC h9),by unfold mz;rw[if_neg h1,if_neg h2,if_neg h3,if_neg h4,if_neg h5,if_neg h6,if_neg h7,if_neg h8,if_pos h9]⟩)))))))
 by_cases IL:(k==(⟨#[101,120,116,101,110,115,105,111,110,115]⟩:ByteArray))=true
 ·exact .inr (.inr (.inr (.inr (.inr (.inr (.inr (.inl ⟨RF (gC IL),by unfold mz;rw[if_neg h1,if_neg h2,if_neg h3,if_neg h4,if_neg h5,if_neg h6,if_neg h7,if_neg h8,if_neg h9,if_pos IL]⟩)))))))
 by_cases TN:(k==(⟨#[103,114,111,117,112]⟩:ByteArray))=true
 ·exact .inr (.inr (.inr (.inr (.inr (.inr (.inr (.inl ⟨RE (gC TN),by unfold mz;rw[if_neg h1,if_neg h2,if_neg h3,if_neg h4,if_neg h5,if_neg h6,if_neg h7,if_neg h8,if_neg h9,if_neg IL,if_pos TN]⟩)))))))
 by_cases VX:(k==(⟨#[114,101,113,117,105,114,101,100]⟩:ByteArray))=true
 ·exact .inr (.inr (.inr (.inr (.inr (.inr (.inr (.inl ⟨RD (gC VX),by unfold mz;rw[if_neg h1,if_neg h2,if_neg h3,if_neg h4,if_neg h5,if_neg h6,if_neg h7,if_neg h8,if_neg h9,if_neg IL,if_neg TN,if_pos VX]⟩)))))))
 refine .inr (.inr (.inr (.inr (.inr (.inr (.inr (.inr ⟨⟨fun e=>h1 (by rw[e];decide +kernel),fun e=>h2 (by rw[e];decide +kernel),fun e=>h3 (by rw[e];decide +kernel),fun e=>h4 (by rw[e];decide +kernel),fun e=>h5 (by rw[e];decide +kernel),fun e=>h6 (by rw[e];decide +kernel),fun e=>h7 (by rw[e];decide +kernel),fun hm=>?_⟩,by unfold mz;rw[if_neg h1,if_neg h2,if_neg h3,if_neg h4,if_neg h5,if_neg h6,if_neg h7,if_neg h8,if_neg h9,if_neg IL,if_neg TN,if_neg VX]⟩)))))))
 unfold mB at hm
 simp only[List.mem_cons,List.not_mem_nil,or_false] at hm
 rcases hm with e|e|e|e|e
 ·exact h8 (by rw[e];decide +kernel)
 ·exact h9 (by rw[e];decide +kernel)
 ·exact IL (by rw[e];decide +kernel)
 ·exact TN (by rw[e];decide +kernel)
 ·exact VX (by rw[e];decide +kernel)
theorem qh {k W:ByteArray} (e:k=W) (h:∀x ∈ mB,W≠x):k ∉ mB:=fun q=>h k q e.symm
theorem U1 {mf:ay→Except (Int×Int) (Ms×ay)}{x:Mp}{s:ay} (hg:Gd s) (h0:¬aJ s.here 4 ⟨#[59]⟩=true) (h1:¬s.here.kind=1):nI mf x s=ER x s:=by
 unfold nI ER
 rw[if_neg h0]
 by_cases h2:aJ s.here 4 ⟨#[46]⟩=true
 ·rw[if_neg (fun q=>q.2 h2),if_neg (gj h1 _),if_neg (gj h1 _),if_neg (gj h1 _),if_neg (gj h1 _),if_neg (fun q=>gj h1 _ q.1)]
  unfold fX
  rw[if_neg (gj h1 _),if_neg (gj h1 _)]
 ·rw[if_pos ⟨h1,h2⟩,Du hg h1 h2]
  rfl
theorem mA {mf:ay→Except (Int×Int) (Ms×ay)}{x:Mp}{s:ay} (h1:s.here.kind=1):nI mf x s =
  if aJ s.here 1 hU=true then FL x (mf s) else if aJ s.here 1 lj=true then YR x s else if aJ s.here 1 EP=true then fH x s else if aJ s.here 1 kq=true then Rx x s
  else if aJ s.here 1 Kf=true∧aJ (s.ahead 1) 4 ⟨#[60]⟩=true then lV x (lu s)
  else lV x (if aJ s.here 1 nV=true then cU 2 s else if aJ s.here 1 pf=true then cU 3 s else cq 0 s):=by
 unfold nI fX
 rw[if_neg (gj (by rw[h1];decide) _),if_neg (fun q=>q.1 h1)]
theorem Bm {mf:ay→Except (Int×Int) (Ms×ay)}{x:Mp}{s:ay} (hg:Gd s):bU (mz mf) ER x s=bO (dj mB s) (fun _ s1=>nI mf x s1):=by
 unfold bU
 rw[cV hg.bg]
 by_cases h0:aJ s.here 4 ⟨#[59]⟩=true
 ·have hk:=(bk.1 h0).1
  rw[if_pos h0,lE (fun q=>by rw[hk] at q;exact absurd q.1 (by decide)),aL]
  unfold nI
  rw[if_pos h0]
 ·rw[if_neg h0]
  dsimp only
  by_cases h1:s.here.kind=1
  ·have rz:s.here.text ∉ mB→bO (dj mB s) (fun _ s1=>nI mf x s1)=nI mf x s:=fun q=>by rw[lE (fun p=>q p.2),aL]
   rcases YP mf s.here.text with ⟨e,hm⟩|⟨e,hm⟩|⟨e,hm⟩|⟨e,hm⟩|⟨e,hm⟩|⟨e,hm⟩|⟨e,hm⟩|⟨e,hm⟩|⟨⟨e1,e2,e3,e4,e5,e6,e7,e8⟩,hm⟩
   ·rw[hm]
    dsimp only
    rw[if_pos h1,rz (qh e (by unfold mB;simp only[List.mem_cons,List.not_mem_nil,or_false];rintro x (rfl|rfl|rfl|rfl|rfl)<;>exact cb (by decide +kernel))),mA h1]
    rw[if_pos (bk.2 ⟨h1,e⟩)]
    rfl
   ·rw[hm]
    dsimp only
    rw[if_pos h1,rz (qh e (by unfold mB;simp only[List.mem_cons,List.not_mem_nil,or_false];rintro x (rfl|rfl|rfl|rfl|rfl)<;>exact cb (by decide +kernel))),mA h1,if_neg (bM e (cb (by decide +kernel)))]
    rw[if_pos (bk.2 ⟨h1,e⟩)]
   ·rw[hm]
    dsimp only
    rw[if_pos h1,rz (qh e (by unfold mB;simp only[List.mem_cons,List.not_mem_nil,or_false];rintro x (rfl|rfl|rfl|rfl|rfl)<;>exact cb (by decide +kernel))),mA h1,if_neg (bM e (cb (by decide +kernel))),if_neg (bM e (cb (by decide +kernel)))]
    rw[if_pos (bk.2 ⟨h1,e⟩)]
   ·rw[hm]
    dsimp only
    rw[if_pos h1,rz (qh e (by unfold mB;simp only[List.mem_cons,List.not_mem_nil,or_false];rintro x (rfl|rfl|rfl|rfl|rfl)<;>exact cb (by decide +kernel))),mA h1,if_neg (bM e (cb (by decide +kernel))),if_neg (bM e (cb (by decide +kernel))),if_neg (bM e (cb (by decide +kernel)))]
    rw[if_pos (bk.2 ⟨h1,e⟩)]
   ·rw[hm]
    dsimp only
    rw[if_pos h1,rz (qh e (by unfold mB;simp only[List.mem_cons,List.not_mem_nil,or_false];rintro x (rfl|rfl|rfl|rfl|rfl)<;>exact cb (by decide +kernel))),mA h1,if_neg (bM e (cb (by decide +kernel))),if_neg (bM e (cb (by decide +kernel))),if_neg (bM e (cb (by decide +kernel))),if_neg (bM e (cb (by decide +kernel)))]
    rw[if_neg (fun q=>bM e (cb (by decide +kernel)) q.1),if_pos (bk.2 ⟨h1,e⟩)]
    rfl
   ·rw[hm]
    dsimp only
    rw[if_pos h1,rz (qh e (by unfold mB;simp only[List.mem_cons,List.not_mem_nil,or_false];rintro x (rfl|rfl|rfl|rfl|rfl)<;>exact cb (by decide +kernel))),mA h1,if_neg (bM e (cb (by decide +kernel))),if_neg (bM e (cb (by decide +kernel))),if_neg (bM e (cb (by decide +kernel))),if_neg (bM e (cb (by decide +kernel)))]
    rw[if_neg (fun q=>bM e (cb (by decide +kernel)) q.1),if_neg (bM e (cb (by decide +kernel))),if_pos (bk.2 ⟨h1,e⟩)]
    rfl
   ·rw[hm]
    dsimp only
    rw[if_pos h1,rz (qh e (by unfold mB;simp only[List.mem_cons,List.not_mem_nil,or_false];rintro x (rfl|rfl|rfl|rfl|rfl)<;>exact cb (by decide +kernel))),mA h1,if_neg (bM e (cb (by decide +kernel))),if_neg (bM e (cb (by decide +kernel))),if_neg (bM e (cb (by decide +kernel))),if_neg (bM e (cb (by decide +kernel)))]
    unfold Ni de
    by_cases h3:aJ (s.ahead 1) 4 ⟨#[60]⟩=true
    ·rw[if_pos h3,if_pos ⟨bk.2 ⟨h1,e⟩,h3⟩]
    ·rw[if_neg h3,if_neg (fun q=>h3 q.2),if_neg (bM e (cb (by decide +kernel))),if_neg (bM e (cb (by decide +kernel)))]
   ·rw[hm]
    dsimp only
    rw[if_pos h1,Fy h1 e]
    rfl
   ·rw[hm]
    dsimp only
    rw[rz e8,mA h1,if_neg (bM rfl e1),if_neg (bM rfl e2),if_neg (bM rfl e3),if_neg (bM rfl e4),if_neg (fun q=>bM rfl e7 q.1),if_neg (bM rfl e5),if_neg (bM rfl e6)]
    rfl
  ·rw[lE (fun q=>h1 q.1),aL,U1 hg h0 h1]
   cases mz mf s.here.text with
   |none=>rfl
   |some f=>simp only[if_neg h1]
end Go.Proofs.YtjophoclfccmcaaGreatDoor
