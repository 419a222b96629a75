import Derived.Test.YtjophoclfccmcaaGreatDoorPfW
namespace Go.Proofs.YtjophoclfccmcaaGreatDoor
open Go.RowKit
def ib:ByteArray:=⟨#[109,101,115,115,97,103,101]⟩
def Ki:ByteArray:=⟨#[109,97,112]⟩
def my:List ByteArray:=[⟨#[111,112,116,105,111,110]⟩,⟨#[101,120,116,101,110,100]⟩,⟨#[101,120,116,101,110,115,105,111,110,115]⟩,⟨#[103,114,111,117,112]⟩,⟨#[114,101,113,117,105,114,101,100]⟩]
theorem DA {s:ax}{o:Int} (hg:Gd s) (h1:¬s.here.kind=1) (h2:¬aH s.here 4 ⟨#[46]⟩=true):cu o s=.error (bS s):=by
 unfold cu gK
 have e:ba true s.begun=.error (bS s):=by
  rw[show s.begun=lk true s from rfl,tI,IL hg (by simpa using h2)]
  unfold aQ
  rw[if_neg h1]
  rfl
 rw[e]
noncomputable def nF (mf:ax→Except (Int×Int) (Ms×ax)) (x:Mp) (s:ax):Except (Int×Int) (Mp×ax) :=
 if aH s.here 4 ⟨#[59]⟩=true then .ok (x,s.nx)
 else if ¬s.here.kind=1∧¬aH s.here 4 ⟨#[46]⟩=true then .error (bS s)
 else if aH s.here 1 ib=true then FT x (mf s)
 else if aH s.here 1 lh=true then YB x s
 else if aH s.here 1 EZ=true then fM x s
 else if aH s.here 1 kp=true then Q9 x s
 else if aH s.here 1 Ki=true∧aH (s.ahead 1) 4 ⟨#[60]⟩=true then lS x (lr s)
 else lS x (gi s)
theorem gw {t:Tk}{k:Int} (h:¬t.kind=k) (x:ByteArray):¬aH t k x=true:=fun q=>h (bn.1 q).1
theorem bO {t:Tk}{W W':ByteArray}{k:Int} (e:t.text=W) (h:W≠W'):¬aH t k W'=true:=fun q=>h (by rw[←e];exact (bn.1 q).2)
theorem cb {W W':ByteArray} (h:(W.data.toList==W'.data.toList)=false):W≠W':=fun e=>by
 subst e
 simp at h
theorem UR {k:ByteArray} (e:k=⟨#[111,112,116,105,111,110]⟩):k ∈ my:=by
 subst e
 unfold my
 simp only[List.mem_cons,true_or]
theorem Rl {k:ByteArray} (e:k=⟨#[101,120,116,101,110,100]⟩):k ∈ my:=by
 subst e
 unfold my
 simp only[List.mem_cons,true_or,or_true]
theorem Rj {k:ByteArray} (e:k=⟨#[101,120,116,101,110,115,105,111,110,115]⟩):k ∈ my:=by
 subst e
 unfold my
 simp only[List.mem_cons,true_or,or_true]
theorem Ri {k:ByteArray} (e:k=⟨#[103,114,111,117,112]⟩):k ∈ my:=by
 subst e
 unfold my
 simp only[List.mem_cons,true_or,or_true]
theorem Rh {k:ByteArray} (e:k=⟨#[114,101,113,117,105,114,101,100]⟩):k ∈ my:=by
 subst e
 unfold my
 simp only[List.mem_cons,true_or,or_true]
theorem Yz (mf:ax→Except (Int×Int) (Ms×ax)) (k:ByteArray):(k=ib∧mw mf k=some (msM mf))∨(k=lh∧mw mf k=some YB)∨(k=EZ∧mw mf k=some fM)∨(k=kp∧mw mf k=some Q9)∨(k=nT∧mw mf k=some (msL 2))∨(k=oY∧mw mf k=some (msL 3))∨(k=Ki∧mw mf k=some Nc)∨(k ∈ my∧mw mf k=some dw)∨((k≠ib∧k≠lh∧k≠EZ∧k≠kp∧k≠nT∧k≠oY∧k≠Ki∧k ∉ my)∧mw mf k=none):=by
 by_cases h1:(k==(⟨#[109,101,115,115,97,103,101]⟩:ByteArray))=true
 ·exact .inl ⟨gE h1,by unfold mw;rw[if_pos h1]⟩
 by_cases h2:(k==(⟨#[101,110,117,109]⟩:ByteArray))=true
 ·exact .inr (.inl ⟨gE h2,by unfold mw;rw[if_neg h1,if_pos h2]⟩)
 by_cases h3:(k==(⟨#[111,110,101,111,102]⟩:ByteArray))=true
 ·exact .inr (.inr (.inl ⟨gE h3,by unfold mw;rw[if_neg h1,if_neg h2,if_pos h3]⟩))
 by_cases h4:(k==(⟨#[114,101,115,101,114,118,101,100]⟩:ByteArray))=true
 ·exact .inr (.inr (.inr (.inl ⟨gE h4,by unfold mw;rw[if_neg h1,if_neg h2,if_neg h3,if_pos h4]⟩)))
 by_cases h5:(k==(⟨#[111,112,116,105,111,110,97,108]⟩:ByteArray))=true
 ·exact .inr (.inr (.inr (.inr (.inl ⟨gE h5,by unfold mw;rw[if_neg h1,if_neg h2,if_neg h3,if_neg h4,if_pos h5]⟩))))
 by_cases h6:(k==(⟨#[114,101,112,101,97,116,101,100]⟩:ByteArray))=true
 ·exact .inr (.inr (.inr (.inr (.inr (.inl ⟨gE h6,by unfold mw;rw[if_neg h1,if_neg h2,if_neg h3,if_neg h4,if_neg h5,if_pos h6]⟩)))))
 by_cases h7:(k==(⟨#[109,97,112]⟩:ByteArray))=true
 ·exact .inr (.inr (.inr (.inr (.inr (.inr (.inl ⟨gE h7,by unfold mw;rw[if_neg h1,if_neg h2,if_neg h3,if_neg h4,if_neg h5,if_neg h6,if_pos h7]⟩))))))
 by_cases h8:(k==(⟨#[111,112,116,105,111,110]⟩:ByteArray))=true
 ·exact .inr (.inr (.inr (.inr (.inr (.inr (.inr (.inl ⟨UR (gE h8),by unfold mw;rw[if_neg h1,if_neg h2,if_neg h3,if_neg h4,if_neg h5,if_neg h6,if_neg h7,if_pos h8]⟩)))))))
 by_cases h9:(k==(⟨#[101,120,116,101,110,100]⟩:ByteArray))=true
 ·exact .inr (.inr (.inr (.inr (.inr (.inr (.inr (.inl ⟨Rl (gE h9),by unfold mw;rw[if_neg h1,if_neg h2,if_neg h3,if_neg h4,if_neg h5,if_neg h6,if_neg h7,if_neg h8,if_pos h9]⟩)))))))
 by_cases IS:(k==(⟨#[101,120,116,101,110,115,105,111,110,115]⟩:ByteArray))=true
 ·exact .inr (.inr (.inr (.inr (.inr (.inr (.inr (.inl ⟨Rj (gE IS),by unfold mw;rw[if_neg h1,if_neg h2,if_neg h3,if_neg h4,if_neg h5,if_neg h6,if_neg h7,if_neg h8,if_neg h9,if_pos IS]⟩)))))))
 by_cases TB:(k==(⟨#[103,114,111,117,112]⟩:ByteArray))=true
 ·exact .inr (.inr (.inr (.inr (.inr (.inr (.inr (.inl ⟨Ri (gE TB),by unfold mw;rw[if_neg h1,if_neg h2,if_neg h3,if_neg h4,if_neg h5,if_neg h6,if_neg h7,if_neg h8,if_neg h9,if_neg IS,if_pos TB]⟩)))))))
 by_cases VF:(k==(⟨#[114,101,113,117,105,114,101,100]⟩:ByteArray))=true
 ·exact .inr (.inr (.inr (.inr (.inr (.inr (.inr (.inl ⟨Rh (gE VF),by unfold mw;rw[if_neg h1,if_neg h2,if_neg h3,if_neg h4,if_neg h5,if_neg h6,if_neg h7,if_neg h8,if_neg h9,if_neg IS,if_neg TB,if_pos VF]⟩)))))))
 refine .inr (.inr (.inr (.inr (.inr (.inr (.inr (.inr ⟨⟨fun e=>h1 (by rw[e];decide +kernel),fun e=>h2 (by rw[e];decide +kernel),fun e=>h3 (by rw[e];decide +kernel),fun e=>h4 (by rw[e];decide +kernel),fun e=>h5 (by rw[e];decide +kernel),fun e=>h6 (by rw[e];decide +kernel),fun e=>h7 (by rw[e];decide +kernel),fun hm=>?_⟩,by unfold mw;rw[if_neg h1,if_neg h2,if_neg h3,if_neg h4,if_neg h5,if_neg h6,if_neg h7,if_neg h8,if_neg h9,if_neg IS,if_neg TB,if_neg VF]⟩)))))))
 unfold my at hm
 simp only[List.mem_cons,List.not_mem_nil,or_false] at hm
 rcases hm with e|e|e|e|e
 ·exact h8 (by rw[e];decide +kernel)
 ·exact h9 (by rw[e];decide +kernel)
 ·exact IS (by rw[e];decide +kernel)
 ·exact TB (by rw[e];decide +kernel)
 ·exact VF (by rw[e];decide +kernel)
theorem p8 {k W:ByteArray} (e:k=W) (h:∀x ∈ my,W≠x):k ∉ my:=fun q=>h k q e.symm
theorem UO {mf:ax→Except (Int×Int) (Ms×ax)}{x:Mp}{s:ax} (hg:Gd s) (h0:¬aH s.here 4 ⟨#[59]⟩=true) (h1:¬s.here.kind=1):nF mf x s=E0 x s:=by
 unfold nF E0
 rw[if_neg h0]
 by_cases h2:aH s.here 4 ⟨#[46]⟩=true
 ·rw[if_neg (fun q=>q.2 h2),if_neg (gw h1 _),if_neg (gw h1 _),if_neg (gw h1 _),if_neg (gw h1 _),if_neg (fun q=>gw h1 _ q.1)]
  unfold gi
  rw[if_neg (gw h1 _),if_neg (gw h1 _)]
 ·rw[if_pos ⟨h1,h2⟩,DA hg h1 h2]
  rfl
theorem mx {mf:ax→Except (Int×Int) (Ms×ax)}{x:Mp}{s:ax} (h1:s.here.kind=1):nF mf x s =
  if aH s.here 1 ib=true then FT x (mf s) else if aH s.here 1 lh=true then YB x s else if aH s.here 1 EZ=true then fM x s else if aH s.here 1 kp=true then Q9 x s
  else if aH s.here 1 Ki=true∧aH (s.ahead 1) 4 ⟨#[60]⟩=true then lS x (lr s)
  else lS x (if aH s.here 1 nT=true then cU 2 s else if aH s.here 1 oY=true then cU 3 s else cu 0 s):=by
 unfold nF gi
 rw[if_neg (gw (by rw[h1];decide) _),if_neg (fun q=>q.1 h1)]
theorem By {mf:ax→Except (Int×Int) (Ms×ax)}{x:Mp}{s:ax} (hg:Gd s):bV (mw mf) E0 x s=bQ (dp my s) (fun _ s1=>nF mf x s1):=by
 unfold bV
 rw[cV hg.bg]
 by_cases h0:aH s.here 4 ⟨#[59]⟩=true
 ·have hk:=(bn.1 h0).1
  rw[if_pos h0,lD (fun q=>by rw[hk] at q;exact absurd q.1 (by decide)),aK]
  unfold nF
  rw[if_pos h0]
 ·rw[if_neg h0]
  dsimp only
  by_cases h1:s.here.kind=1
  ·have rm:s.here.text ∉ my→bQ (dp my s) (fun _ s1=>nF mf x s1)=nF mf x s:=fun q=>by rw[lD (fun p=>q p.2),aK]
   rcases Yz mf s.here.text with ⟨e,hm⟩|⟨e,hm⟩|⟨e,hm⟩|⟨e,hm⟩|⟨e,hm⟩|⟨e,hm⟩|⟨e,hm⟩|⟨e,hm⟩|⟨⟨e1,e2,e3,e4,e5,e6,e7,e8⟩,hm⟩
   ·rw[hm]
    dsimp only
    rw[if_pos h1,rm (p8 e (by unfold my;simp only[List.mem_cons,List.not_mem_nil,or_false];rintro x (rfl|rfl|rfl|rfl|rfl)<;>exact cb (by decide +kernel))),mx h1]
    rw[if_pos (bn.2 ⟨h1,e⟩)]
    rfl
   ·rw[hm]
    dsimp only
    rw[if_pos h1,rm (p8 e (by unfold my;simp only[List.mem_cons,List.not_mem_nil,or_false];rintro x (rfl|rfl|rfl|rfl|rfl)<;>exact cb (by decide +kernel))),mx h1,if_neg (bO e (cb (by decide +kernel)))]
    rw[if_pos (bn.2 ⟨h1,e⟩)]
   ·rw[hm]
    dsimp only
    rw[if_pos h1,rm (p8 e (by unfold my;simp only[List.mem_cons,List.not_mem_nil,or_false];rintro x (rfl|rfl|rfl|rfl|rfl)<;>exact cb (by decide +kernel))),mx h1,if_neg (bO e (cb (by decide +kernel))),if_neg (bO e (cb (by decide +kernel)))]
    rw[if_pos (bn.2 ⟨h1,e⟩)]
   ·rw[hm]
    dsimp only
    rw[if_pos h1,rm (p8 e (by unfold my;simp only[List.mem_cons,List.not_mem_nil,or_false];rintro x (rfl|rfl|rfl|rfl|rfl)<;>exact cb (by decide +kernel))),mx h1,if_neg (bO e (cb (by decide +kernel))),if_neg (bO e (cb (by decide +kernel))),if_neg (bO e (cb (by decide +kernel)))]
    rw[if_pos (bn.2 ⟨h1,e⟩)]
   ·rw[hm]
    dsimp only
    rw[if_pos h1,rm (p8 e (by unfold my;simp only[List.mem_cons,List.not_mem_nil,or_false];rintro x (rfl|rfl|rfl|rfl|rfl)<;>exact cb (by decide +kernel))),mx h1,if_neg (bO e (cb (by decide +kernel))),if_neg (bO e (cb (by decide +kernel))),if_neg (bO e (cb (by decide +kernel))),if_neg (bO e (cb (by decide +kernel)))]
    rw[if_neg (fun q=>bO e (cb (by decide +kernel)) q.1),if_pos (bn.2 ⟨h1,e⟩)]
    rfl
   ·rw[hm]
    dsimp only
    rw[if_pos h1,rm (p8 e (by unfold my;simp only[List.mem_cons,List.not_mem_nil,or_false];rintro x (rfl|rfl|rfl|rfl|rfl)<;>exact cb (by decide +kernel))),mx h1,if_neg (bO e (cb (by decide +kernel))),if_neg (bO e (cb (by decide +kernel))),if_neg (bO e (cb (by decide +kernel))),if_neg (bO e (cb (by decide +kernel)))]
    rw[if_neg (fun q=>bO e (cb (by decide +kernel)) q.1),if_neg (bO e (cb (by decide +kernel))),if_pos (bn.2 ⟨h1,e⟩)]
    rfl
   ·rw[hm]
    dsimp only
    rw[if_pos h1,rm (p8 e (by unfold my;simp only[List.mem_cons,List.not_mem_nil,or_false];rintro x (rfl|rfl|rfl|rfl|rfl)<;>exact cb (by decide +kernel))),mx h1,if_neg (bO e (cb (by decide +kernel))),if_neg (bO e (cb (by decide +kernel))),if_neg (bO e (cb (by decide +kernel))),if_neg (bO e (cb (by decide +kernel)))]
    unfold Nc dg
    by_cases h3:aH (s.ahead 1) 4 ⟨#[60]⟩=true
    ·rw[if_pos h3,if_pos ⟨bn.2 ⟨h1,e⟩,h3⟩]
    ·rw[if_neg h3,if_neg (fun q=>h3 q.2),if_neg (bO e (cb (by decide +kernel))),if_neg (bO e (cb (by decide +kernel)))]
   ·rw[hm]
    dsimp only
    rw[if_pos h1,FH h1 e]
    rfl
   ·rw[hm]
    dsimp only
    rw[rm e8,mx h1,if_neg (bO rfl e1),if_neg (bO rfl e2),if_neg (bO rfl e3),if_neg (bO rfl e4),if_neg (fun q=>bO rfl e7 q.1),if_neg (bO rfl e5),if_neg (bO rfl e6)]
    rfl
  ·rw[lD (fun q=>h1 q.1),aK,UO hg h0 h1]
   cases mw mf s.here.text with
   |none=>rfl
   |some f=>simp only[if_neg h1]
end Go.Proofs.YtjophoclfccmcaaGreatDoor
