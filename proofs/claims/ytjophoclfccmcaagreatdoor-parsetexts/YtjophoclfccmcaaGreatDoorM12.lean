import Derived.Test.YtjophoclfccmcaaGreatDoorM11
set_option maxHeartbeats 2000000
set_option maxRecDepth 100000
namespace Go.Proofs.YtjophoclfccmcaaGreatDoor
open Go.RowKit
attribute [local go_sem ↓] Go.wp_at_zero Go.wp_at_succ
theorem PR.split {α:Type}{lo b:Nat}{W w:World}{ret:α→Value}{r:Except (Int×Int) (α×ax)}{e:Ending} (h:PR lo b W ret r e w):(∃x:Int×Int,r=.error x∧e=qj x.1 x.2∧W.grownBy w (some b))∨∃a s',r=.ok (a,s')∧e=.returned (ret a)∧Rd lo w b s'∧W.grownBy w (some b):=by
 unfold PR at h
 cases r with
 |error x=>exact .inl ⟨x,rfl,h⟩
 |ok x=>exact .inr ⟨x.1,x.2,rfl,h⟩
theorem nY {W:World}{lo b:Nat}{s:ax} (h:Rd lo W b s) (k:Int):Calls Tryz.prog 95 #[.pointer (some ⟨b,0,none⟩),.int .i64 k] W (PR lo b W Value.string (ej k s)):=by
 have hc:=ab (fF h)
 have Hd:=ab h
 have hW:Hid (∀w,Below W.heap.size W w→Calls Tryz.prog 58 #[.pointer (some ⟨b,0,none⟩)] w fun e w'=>e=qj (bS s).1 (bS s).2∧Below w.heap.size w w'):=fun w hb=>jl (h.up hb)
 obtain ⟨t,ht⟩:∃t,s.here=t:=⟨_,rfl⟩
 have Ht:=ab ht
 rw[ht] at hc
 obtain ⟨kd,sp,tx⟩:=t
 unfold Tk.val at hc
 simp only at hc
 clear ht h
 by_cases hk:kd=k
 ·subst hk
  have HE:Hid (∀w,Below W.heap.size W w→PR lo b W Value.string (ej kd s) (.returned (.string tx)) w):=fun w hb=>by
   unfold ej
   rw[aa Ht,if_pos rfl]
   exact ⟨rfl,(aa Hd).up hb,aD b hb⟩
  go_enter Tryz.func95,Tryz.ntmps95
  go_wp2_with fail
  refine (aa hc).mono ?_
  rintro e w1 ⟨rfl,bK⟩
  have kl:=ab (bK.alloc bK.size (.cells #[.int .i64 kd,.int .i64 sp,.string tx] 38))
  clear bK hc
  go_wp2
  go_ret
  exact aa HE _ (aa kl)
 ·have eb:(kd != k)=true:=by simp[hk]
  have HE:Hid (∀w,Below W.heap.size W w→PR lo b W Value.string (ej k s) (qj (bS s).1 (bS s).2) w):=fun w hb=>by
   unfold ej
   rw[if_neg (by rw[aa Ht];exact hk)]
   exact ⟨rfl,aD b hb⟩
  go_enter Tryz.func95,Tryz.ntmps95
  go_wp2_with fail
  refine (aa hc).mono ?_
  rintro e w1 ⟨rfl,bK⟩
  have kl:=ab (bK.alloc bK.size (.cells #[.int .i64 kd,.int .i64 sp,.string tx] 38))
  clear bK hc
  go_wp2_with fail
  refine (aa hW _ (aa kl)).mono ?_
  rintro e w2 ⟨rfl,bo⟩
  exact ⟨rfl,aa HE w2 ((aa kl).trans (bo.mono (aa kl).size))⟩
noncomputable def bM (x:ByteArray):Int:=if 255<x.size then 2 else if fz x=true then 0 else 50
theorem LU (W:World) (x:ByteArray):Calls Tryz.prog 13 #[.string x] W fun e w=>e=.returned (.bool (fz x))∧w=W:=by
 go_enter Tryz.func13,Tryz.ntmps13
 go_wp2_with fail
 refine (F4 W x).mono ?_
 rintro e w1 ⟨rfl,hw⟩
 obtain rfl:W=w1:=hw.symm
 clear hw
 go_wp2
 go_ret
 exact ⟨rfl,rfl⟩
theorem pC (W:World) (x:ByteArray) (hx:x.size≤140737488355327):Calls Tryz.prog 143 #[.string x] W fun e w=>e=.returned (.int .i64 (bM x))∧w=W:=by
 unfold bM
 by_cases h1:255<x.size
 ·rw[if_pos h1]
  have hd:decide ((255:Int)<(x.size:Int))=true:=by simp;omega
  clear h1
  go_enter Tryz.func143,Tryz.ntmps143
  go_wp2
  go_ret
  exact ⟨rfl,rfl⟩
 ·rw[if_neg h1]
  have hd:decide ((255:Int)<(x.size:Int))=false:=by simp;omega
  have hw:=ab (LU W x)
  clear h1
  cases hi:fz x with
  |true =>
   rw[hi] at hw
   go_enter Tryz.func143,Tryz.ntmps143
   go_wp2_with fail
   refine (aa hw).mono ?_
   rintro e w1 ⟨rfl,eL⟩
   obtain rfl:W=w1:=eL.symm
   clear eL hw hi
   go_wp2
   go_ret
   exact ⟨rfl,rfl⟩
  |false =>
   rw[hi] at hw
   go_enter Tryz.func143,Tryz.ntmps143
   go_wp2_with fail
   refine (aa hw).mono ?_
   rintro e w1 ⟨rfl,eL⟩
   obtain rfl:W=w1:=eL.symm
   clear eL hw hi
   go_wp2
   go_ret
   exact ⟨rfl,rfl⟩
noncomputable def aQ (s:ax):Except (Int×Int) (ByteArray×ax):=if s.here.kind=1 then (if bM s.here.text=0 then (match bC s with|.ok (_,s')=>.ok (s.here.text,s')|.error e=>.error e) else .error (bM s.here.text,s.here.spot)) else .error (bS s)
def Sm (s:ax):Prop:=∀t ∈ s.ts,t.text.size≤140737488355327
theorem Sm.here {s:ax} (h:Sm s) (he:s.here.kind≠5) (hk:s.en.kind=5):s.here.text.size≤140737488355327:=by
 have hp:=bP hk he
 unfold ax.here at *
 cases F6:s.ts with
 |nil=>rw[F6] at hp;simp at hp
 |cons t r=>exact h t (by rw[F6];simp)
theorem kU {W:World}{lo b:Nat}{s:ax} (h:Rd lo W b s) (hs:Sm s):Calls Tryz.prog 123 #[.pointer (some ⟨b,0,none⟩)] W (PR lo b W Value.string (aQ s)):=by
 have hc:=ab (nY h 1)
 go_enter Tryz.func123,Tryz.ntmps123
 go_wp2_with fail
 refine (aa hc).mono ?_
 intro e w1 hw
 rcases hw.split with ⟨x,hr,rfl,hg⟩|⟨x,s1,hr,rfl,h1,hg⟩
 ·have hk:¬s.here.kind=1:=fun e=>by unfold ej at hr;rw[if_pos e] at hr;cases hr
  unfold ej at hr
  rw[if_neg hk] at hr
  obtain rfl:bS s=x:=Except.error.inj hr
  refine ⟨rfl,?_⟩
  unfold aQ
  rw[if_neg hk]
  exact ⟨rfl,hg⟩
 ·have hk:s.here.kind=1:=by
   apply Classical.byContradiction
   intro e
   unfold ej at hr
   rw[if_neg e] at hr
   cases hr
  unfold ej at hr
  rw[if_pos hk] at hr
  simp only[Except.ok.injEq,Prod.mk.injEq] at hr
  obtain ⟨rfl,rfl⟩:=hr
  have cl:=hs.here (by rw[hk];decide) h.grown
  have hp:=bP h.grown (by rw[hk];decide)
  obtain ⟨x,hx⟩:∃x,s.here.text=x:=⟨_,rfl⟩
  rw[hx] at cl ⊢
  have H1:=ab h1
  have Hg:=ab hg
  have Hx:=ab hx
  have Hk:=ab hk
  clear hw h1 hg hk hc h hs hx
  go_wp2_with fail
  refine (pC w1 x cl).mono ?_
  rintro e w2 ⟨rfl,ki⟩
  obtain rfl:w1=w2:=ki.symm
  clear ki
  go_wp2_with fail
  refine (iC (aa H1) (bM x)).mono ?_
  intro e w3 gS
  by_cases h0:bM x=0
  ·rw[if_pos h0] at gS
   obtain ⟨rfl,h3,cO⟩:=gS
   have H3:=ab h3
   have qI:=ab ((aa Hg).trans cO)
   have H0:=ab h0
   clear h3 cO h0
   go_wp2_with fail
   refine (dX (aa H3) hp).mono ?_
   intro e w4 ig
   rcases ig.split with ⟨y,hr,rfl,kZ⟩|⟨y,s2,hr,rfl,h4,kZ⟩
   ·refine ⟨rfl,?_⟩
    unfold aQ
    rw[if_pos (aa Hk),aa Hx,if_pos (aa H0),hr]
    exact ⟨rfl,(aa qI).trans kZ⟩
   ·have H4:=ab h4
    have TX:=ab ((aa qI).trans kZ)
    have Hr:=ab hr
    clear ig h4 kZ hr
    go_wp2_with fail
    refine (Bc w4 x (by omega)).mono ?_
    rintro e w5 ⟨rfl,mE⟩
    have HE:Hid (PR lo b W Value.string (aQ s) (.returned (.string x)) w5):=by
     unfold aQ
     rw[if_pos (aa Hk),aa Hx,if_pos (aa H0),aa Hr]
     exact ⟨rfl,(aa H4).up mE,(aa TX).trans (aD b mE)⟩
    clear mE
    go_wp2
    go_ret
    exact aa HE
  ·rw[if_neg h0] at gS
   obtain ⟨rfl,cO⟩:=gS
   refine ⟨rfl,?_⟩
   unfold aQ
   rw[if_pos (aa Hk),aa Hx,if_neg h0]
   exact ⟨rfl,(aa Hg).trans cO⟩
end Go.Proofs.YtjophoclfccmcaaGreatDoor
namespace Go.Proofs.YtjophoclfccmcaaGreatDoor
open Go.RowKit Go.Lib
attribute [local go_sem ↓] Go.wp_at_zero Go.wp_at_succ
def UE (W:World) (s:ByteArray) (e:Ending) (w:World):Prop:=Below W.heap.size W w∧∃(t:ByteArray) (c:Int),e=.returned (.tuple #[.string t,.int .i64 c])∧ft s=(t,c)
theorem pR {W w:World}{s t:ByteArray}{c:Int} (hb:Below W.heap.size W w) (h:ft s=(t,c)):UE W s (.returned (.tuple #[.string t,.int .i64 c])) w:=⟨hb,t,c,rfl,h⟩
theorem sh {s:ByteArray} (h:65536<s.size):ft s=(⟨#[]⟩,2):=by unfold ft;rw[if_pos h];rfl
theorem xT {s:ByteArray} (h:¬65536<s.size) (h2:0≤cG s 0):ft s=(⟨#[]⟩,44):=by unfold ft;rw[if_neg h,if_pos h2];rfl
theorem gP {s:ByteArray} (h:¬65536<s.size) (h2:¬0≤cG s 0) (h3:l9 s=none∨∃l e,l9 s=some (l,e)∧¬e=s.size):ft s=(⟨#[]⟩,42):=by
 unfold ft
 rw[if_neg h,if_neg h2]
 rcases h3 with h3|⟨l,e,h3,h4⟩
 ·rw[h3];rfl
 ·rw[h3]
  show (if e=s.size then (QV l,(0:Int)) else (.empty,42))=_
  rw[if_neg h4];rfl
theorem wY {s:ByteArray}{l:List Nat} (h:¬65536<s.size) (h2:¬0≤cG s 0) (h3:l9 s=some (l,s.size)):ft s=(QV l,0):=by
 unfold ft
 rw[if_neg h,if_neg h2,h3]
 show (if s.size=s.size then (QV l,(0:Int)) else (.empty,42))=_
 rw[if_pos rfl]
theorem Br {s:ByteArray}{l:List Nat}{e:Nat} (h:l9 s=some (l,e)):1<e∧e≤s.size∧Qm l:=by
 unfold l9 at h
 split at h
 ·cases h
 ·split at h
  ·have:=AA _ 1 l e (zD _) h
   exact ⟨this.1,this.2.1,this.2.2.1⟩
  ·cases h
theorem Bq {W:World} (hF:nD W) (hE:gW W) (s:ByteArray):Calls Tryz.prog 94 #[.string s] W (UE W s):=by
 have eC:=zE W.heap.size W
 by_cases h0:65536<s.size
 ·have Hr:=ab (sh h0)
  have e0:=Rp (a:=s.size) (k:=65536) (by omega)
  clear h0
  go_enter Tryz.func94,Tryz.ntmps94
  go_wp2
  go_ret2
  exact pR eC (aa Hr)
 ·have e0:=Rq (a:=s.size) (k:=65536) (by omega)
  have hs:s.size≤65536:=by omega
  have H0:=ab h0
  clear h0
  go_enter Tryz.func94,Tryz.ntmps94
  go_wp2_with fail
  refine (Db hF s (by omega)).mono ?_
  rintro e w1 ⟨rfl,bK⟩
  have kl:=ab bK
  clear bK eC
  by_cases h1:0≤cG s 0
  ·have Hr:=ab (xT (aa H0) h1)
   obtain ⟨u,hu⟩:∃u,u=cG s 0:=⟨_,rfl⟩
   rw[←hu] at h1 ⊢
   have e1:decide (0≤u)=true:=by simp;omega
   clear hu h1
   go_wp2
   go_ret2
   exact pR (aa kl) (aa Hr)
  ·have H1:Hid (cG s 0<0):=by show _<_;omega
   obtain ⟨u,hu⟩:∃u,u=cG s 0:=⟨_,rfl⟩
   rw[←hu] at h1 ⊢
   have e1:decide (0≤u)=false:=by simp;omega
   clear hu h1
   go_wp2_with fail
   refine (tj (hE.up (aa kl)) s hs).mono ?_
   rintro e w2 ⟨bo,⟨ho,rfl⟩|⟨l,n,v,ho,rfl,hv⟩⟩
   ·have Hr:=ab (gP (aa H0) (Int.not_le.2 (aa H1)) (.inl ho))
    have iJ:Hid (Below W.heap.size W w2):=(aa kl).trans (bo.mono (aa kl).size)
    clear ho bo
    go_wp2
    go_ret2
    exact pR (aa iJ) (aa Hr)
   ·obtain ⟨n1,n2,yR⟩:=Br ho
    have iJ:Hid (Below W.heap.size W w2):=(aa kl).trans (bo.mono (aa kl).size)
    have n0:((n:Int)==0)=false:=by simp;omega
    obtain ⟨va,vn,vc,rfl⟩:=hv.shape
    by_cases h2:n=s.size
    ·have Hr:=ab (wY (aa H0) (Int.not_le.2 (aa H1)) (by rw[ho,h2]))
     have ZH:=ze hv.has yR
     have e2:decide (n<s.size)=false:=by simp;omega
     clear ho bo hv h2 yR
     go_wp2
     go_ret2
     exact pR (aa iJ) (aa Hr)
    ·have Hr:=ab (gP (aa H0) (Int.not_le.2 (aa H1)) (.inr ⟨l,n,ho,h2⟩))
     have e2:decide (n<s.size)=true:=by simp;omega
     clear ho bo hv h2 yR
     go_wp2
     go_ret2
     exact pR (aa iJ) (aa Hr)
end Go.Proofs.YtjophoclfccmcaaGreatDoor
namespace Go.Proofs.YtjophoclfccmcaaGreatDoor
open Go.RowKit
attribute [local go_sem ↓] Go.wp_at_zero Go.wp_at_succ
structure Env (V W:World) (b:Nat):Prop where
 f:nD V
 e:gW V
 m:oJ V
 below:Below V.heap.size V W
 lo:V.heap.size≤b
theorem Env.step {V W w:World}{b:Nat} (h:Env V W b) (hg:W.grownBy w (some b)):Env V w b :=
 ⟨h.f,h.e,h.m,h.below.grown hg h.below.size (fun k e=>by simp at e;have:=h.lo;omega),h.lo⟩
theorem Env.Vx {V W:World}{b:Nat} (h:Env V W b):nD W:=h.f.up h.below
theorem Env.R3 {V W:World}{b:Nat} (h:Env V W b):gW W:=h.e.up h.below
noncomputable def bE (ff:ByteArray→Int) (s:ax):Except (Int×Int) (ByteArray×ax) :=
 if s.here.kind=3 then (if (ft s.here.text).2=0 then (if ff (ft s.here.text).1=0 then (match bC s with|.ok (_,s')=>.ok ((ft s.here.text).1,s')|.error e=>.error e) else .error (ff (ft s.here.text).1,s.here.spot)) else .error ((ft s.here.text).2,s.here.spot)) else .error (bS s)
theorem LZ {s:ByteArray}{l:List Nat}{e:Nat} (h:l9 s=some (l,e)):l.length<e:=by
 unfold l9 at h
 split at h
 ·cases h
 ·split at h
  ·have:=AA _ 1 l e (zD _) h
   have:=this.2.2.2
   omega
  ·cases h
theorem sg (s:ByteArray):(ft s).1.size≤140737488355327:=by
 by_cases h:65536<s.size
 ·rw[sh h];decide
 ·by_cases h2:0≤cG s 0
  ·rw[xT h h2];decide
  ·cases h3:l9 s with
   |none=>rw[gP h h2 (.inl h3)];decide
   |some p =>
    obtain ⟨l,e⟩:=p
    by_cases he:e=s.size
    ·subst he
     rw[wY h h2 h3]
     have h4:=LZ h3
     rw[MX]
     omega
    ·rw[gP h h2 (.inr ⟨l,e,h3,he⟩)];decide
def dG (x:ByteArray):Int:=if (x.toList==[112,114,111,116,111,51])=true then 0 else 50
theorem tT (W:World) (x:ByteArray) (_:x.size≤140737488355327):Calls Tryz.prog 61 #[.string x] W fun e w=>e=.returned (.int .i64 (dG x))∧w=W:=by
 unfold dG
 cases h:(x.toList==[112,114,111,116,111,51]) with
 |true =>
  go_enter Tryz.func61,Tryz.ntmps61
  go_wp2
  go_ret
  exact ⟨rfl,rfl⟩
 |false =>
  go_enter Tryz.func61,Tryz.ntmps61
  go_wp2
  go_ret
  exact ⟨rfl,rfl⟩
def dR (x:ByteArray):Int:=if 255<x.size then 2 else if (x.toList==[])=true then 50 else 0
theorem tX (W:World) (x:ByteArray) (hx:x.size≤140737488355327):Calls Tryz.prog 122 #[.string x] W fun e w=>e=.returned (.int .i64 (dR x))∧w=W:=by
 unfold dR
 by_cases h1:255<x.size
 ·rw[if_pos h1]
  have hd:decide ((255:Int)<(x.size:Int))=true:=by simp;omega
  clear h1
  go_enter Tryz.func122,Tryz.ntmps122
  go_wp2
  go_ret
  exact ⟨rfl,rfl⟩
 ·rw[if_neg h1]
  have hd:decide ((255:Int)<(x.size:Int))=false:=by simp;omega
  clear h1
  cases h:(x.toList==[]) with
  |true =>
   go_enter Tryz.func122,Tryz.ntmps122
   go_wp2
   go_ret
   exact ⟨rfl,rfl⟩
  |false =>
   go_enter Tryz.func122,Tryz.ntmps122
   go_wp2
   go_ret
   exact ⟨rfl,rfl⟩
theorem pY {V W:World}{lo b:Nat}{s:ax} (hv:Env V W b) (h:Rd lo W b s):Calls Tryz.prog 60 #[.pointer (some ⟨b,0,none⟩),.func (.func 61) #[] #[]] W (PR lo b W Value.string (bE dG s)):=by
 have hc:=ab (nY h 3)
 have Hv:=ab hv
 go_enter Tryz.func60,Tryz.ntmps60
 go_wp2_with fail
 refine (aa hc).mono ?_
 intro e w1 hw
 rcases hw.split with ⟨x,hr,rfl,hg⟩|⟨x,s1,hr,rfl,h1,hg⟩
 ·have hk:¬s.here.kind=3:=fun e=>by unfold ej at hr;rw[if_pos e] at hr;cases hr
  unfold ej at hr
  rw[if_neg hk] at hr
  obtain rfl:bS s=x:=Except.error.inj hr
  refine ⟨rfl,?_⟩
  unfold bE
  rw[if_neg hk]
  exact ⟨rfl,hg⟩
 ·have hk:s.here.kind=3:=by
   apply Classical.byContradiction
   intro e
   unfold ej at hr
   rw[if_neg e] at hr
   cases hr
  unfold ej at hr
  rw[if_pos hk] at hr
  simp only[Except.ok.injEq,Prod.mk.injEq] at hr
  obtain ⟨rfl,rfl⟩:=hr
  have hp:=bP h.grown (by rw[hk];decide)
  have nH:bE dG s=(if (ft s.here.text).2=0 then (if dG (ft s.here.text).1=0 then (match bC s with|.ok (_,s')=>.ok ((ft s.here.text).1,s')|.error e=>.error e) else .error (dG (ft s.here.text).1,s.here.spot)) else .error ((ft s.here.text).2,s.here.spot)):=by unfold bE;rw[if_pos hk]
  have HEq:=ab nH
  have H1:=ab h1
  have Hg:=ab hg
  have cB:=Bq ((hv.step hg).Vx) ((hv.step hg).R3) s.here.text
  have IB:=sg s.here.text
  have ER:=ab cB
  obtain ⟨x,hx⟩:∃x,s.here.text=x:=⟨_,rfl⟩
  rw[hx] at HEq ER IB ⊢
  clear hw h1 hg hk hc h hv hx nH cB
  go_wp2_with fail
  refine (aa ER).mono ?_
  rintro e w2 ⟨bo,t,c,rfl,hu⟩
  rw[hu] at HEq IB
  simp only at HEq IB
  have H2:=ab ((aa H1).up bo)
  have rP:=ab ((aa Hg).trans (aD b bo))
  clear bo hu ER H1 Hg
  go_wp2_with fail
  refine (iC (aa H2) c).mono ?_
  intro e w3 gS
  by_cases h0:c=0
  ·rw[if_pos h0] at gS HEq
   obtain ⟨rfl,h3,cO⟩:=gS
   have H3:=ab h3
   have qI:=ab ((aa rP).trans cO)
   clear h3 cO H2 rP
   subst h0
   go_wp2_with fail
   refine (tT w3 t IB).mono ?_
   rintro e w4 ⟨rfl,ig⟩
   obtain rfl:w3=w4:=ig.symm
   clear ig
   go_wp2_with fail
   refine (iC (aa H3) (dG t)).mono ?_
   intro e w5 IA
   by_cases h5:dG t=0
   ·rw[if_pos h5] at IA HEq
    obtain ⟨rfl,h6,ug⟩:=IA
    have H6:=ab h6
    have TW:=ab ((aa qI).trans ug)
    clear h6 ug H3 qI h5
    go_wp2_with fail
    refine (dX (aa H6) hp).mono ?_
    intro e w7 Tm
    rcases Tm.split with ⟨y,hr,rfl,sL⟩|⟨y,s2,hr,rfl,h7,sL⟩
    ·refine ⟨rfl,?_⟩
     rw[aa HEq,hr]
     exact ⟨rfl,(aa TW).trans sL⟩
    ·have HE:Hid (PR lo b W Value.string (bE dG s) (.returned (.string t)) w7):=by
      show PR lo b W Value.string (bE dG s) (.returned (.string t)) w7
      rw[aa HEq,hr]
      exact ⟨rfl,h7,(aa TW).trans sL⟩
     clear Tm h7 sL hr
     go_wp2
     go_ret
     exact aa HE
   ·rw[if_neg h5] at IA HEq
    obtain ⟨rfl,ug⟩:=IA
    refine ⟨rfl,?_⟩
    rw[aa HEq]
    exact ⟨rfl,(aa qI).trans ug⟩
  ·rw[if_neg h0] at gS HEq
   obtain ⟨rfl,cO⟩:=gS
   refine ⟨rfl,?_⟩
   rw[aa HEq]
   exact ⟨rfl,(aa rP).trans cO⟩
theorem pZ {V W:World}{lo b:Nat}{s:ax} (hv:Env V W b) (h:Rd lo W b s):Calls Tryz.prog 60 #[.pointer (some ⟨b,0,none⟩),.func (.func 122) #[] #[]] W (PR lo b W Value.string (bE dR s)):=by
 have hc:=ab (nY h 3)
 have Hv:=ab hv
 go_enter Tryz.func60,Tryz.ntmps60
 go_wp2_with fail
 refine (aa hc).mono ?_
 intro e w1 hw
 rcases hw.split with ⟨x,hr,rfl,hg⟩|⟨x,s1,hr,rfl,h1,hg⟩
 ·have hk:¬s.here.kind=3:=fun e=>by unfold ej at hr;rw[if_pos e] at hr;cases hr
  unfold ej at hr
  rw[if_neg hk] at hr
  obtain rfl:bS s=x:=Except.error.inj hr
  refine ⟨rfl,?_⟩
  unfold bE
  rw[if_neg hk]
  exact ⟨rfl,hg⟩
 ·have hk:s.here.kind=3:=by
   apply Classical.byContradiction
   intro e
   unfold ej at hr
   rw[if_neg e] at hr
   cases hr
  unfold ej at hr
  rw[if_pos hk] at hr
  simp only[Except.ok.injEq,Prod.mk.injEq] at hr
  obtain ⟨rfl,rfl⟩:=hr
  have hp:=bP h.grown (by rw[hk];decide)
  have nH:bE dR s=(if (ft s.here.text).2=0 then (if dR (ft s.here.text).1=0 then (match bC s with|.ok (_,s')=>.ok ((ft s.here.text).1,s')|.error e=>.error e) else .error (dR (ft s.here.text).1,s.here.spot)) else .error ((ft s.here.text).2,s.here.spot)):=by unfold bE;rw[if_pos hk]
  have HEq:=ab nH
  have H1:=ab h1
  have Hg:=ab hg
  have cB:=Bq ((hv.step hg).Vx) ((hv.step hg).R3) s.here.text
  have IB:=sg s.here.text
  have ER:=ab cB
  obtain ⟨x,hx⟩:∃x,s.here.text=x:=⟨_,rfl⟩
  rw[hx] at HEq ER IB ⊢
  clear hw h1 hg hk hc h hv hx nH cB
  go_wp2_with fail
  refine (aa ER).mono ?_
  rintro e w2 ⟨bo,t,c,rfl,hu⟩
  rw[hu] at HEq IB
  simp only at HEq IB
  have H2:=ab ((aa H1).up bo)
  have rP:=ab ((aa Hg).trans (aD b bo))
  clear bo hu ER H1 Hg
  go_wp2_with fail
  refine (iC (aa H2) c).mono ?_
  intro e w3 gS
  by_cases h0:c=0
  ·rw[if_pos h0] at gS HEq
   obtain ⟨rfl,h3,cO⟩:=gS
   have H3:=ab h3
   have qI:=ab ((aa rP).trans cO)
   clear h3 cO H2 rP
   subst h0
   go_wp2_with fail
   refine (tX w3 t IB).mono ?_
   rintro e w4 ⟨rfl,ig⟩
   obtain rfl:w3=w4:=ig.symm
   clear ig
   go_wp2_with fail
   refine (iC (aa H3) (dR t)).mono ?_
   intro e w5 IA
   by_cases h5:dR t=0
   ·rw[if_pos h5] at IA HEq
    obtain ⟨rfl,h6,ug⟩:=IA
    have H6:=ab h6
    have TW:=ab ((aa qI).trans ug)
    clear h6 ug H3 qI h5
    go_wp2_with fail
    refine (dX (aa H6) hp).mono ?_
    intro e w7 Tm
    rcases Tm.split with ⟨y,hr,rfl,sL⟩|⟨y,s2,hr,rfl,h7,sL⟩
    ·refine ⟨rfl,?_⟩
     rw[aa HEq,hr]
     exact ⟨rfl,(aa TW).trans sL⟩
    ·have HE:Hid (PR lo b W Value.string (bE dR s) (.returned (.string t)) w7):=by
      show PR lo b W Value.string (bE dR s) (.returned (.string t)) w7
      rw[aa HEq,hr]
      exact ⟨rfl,h7,(aa TW).trans sL⟩
     clear Tm h7 sL hr
     go_wp2
     go_ret
     exact aa HE
   ·rw[if_neg h5] at IA HEq
    obtain ⟨rfl,ug⟩:=IA
    refine ⟨rfl,?_⟩
    rw[aa HEq]
    exact ⟨rfl,(aa qI).trans ug⟩
  ·rw[if_neg h0] at gS HEq
   obtain ⟨rfl,cO⟩:=gS
   refine ⟨rfl,?_⟩
   rw[aa HEq]
   exact ⟨rfl,(aa rP).trans cO⟩
theorem sB {V W:World}{lo b:Nat}{s:ax} (hv:Env V W b) (h:Rd lo W b s):Calls Tryz.prog 60 #[.pointer (some ⟨b,0,none⟩),.func (.func 143) #[] #[]] W (PR lo b W Value.string (bE bM s)):=by
 have hc:=ab (nY h 3)
 have Hv:=ab hv
 go_enter Tryz.func60,Tryz.ntmps60
 go_wp2_with fail
 refine (aa hc).mono ?_
 intro e w1 hw
 rcases hw.split with ⟨x,hr,rfl,hg⟩|⟨x,s1,hr,rfl,h1,hg⟩
 ·have hk:¬s.here.kind=3:=fun e=>by unfold ej at hr;rw[if_pos e] at hr;cases hr
  unfold ej at hr
  rw[if_neg hk] at hr
  obtain rfl:bS s=x:=Except.error.inj hr
  refine ⟨rfl,?_⟩
  unfold bE
  rw[if_neg hk]
  exact ⟨rfl,hg⟩
 ·have hk:s.here.kind=3:=by
   apply Classical.byContradiction
   intro e
   unfold ej at hr
   rw[if_neg e] at hr
   cases hr
  unfold ej at hr
  rw[if_pos hk] at hr
  simp only[Except.ok.injEq,Prod.mk.injEq] at hr
  obtain ⟨rfl,rfl⟩:=hr
  have hp:=bP h.grown (by rw[hk];decide)
  have nH:bE bM s=(if (ft s.here.text).2=0 then (if bM (ft s.here.text).1=0 then (match bC s with|.ok (_,s')=>.ok ((ft s.here.text).1,s')|.error e=>.error e) else .error (bM (ft s.here.text).1,s.here.spot)) else .error ((ft s.here.text).2,s.here.spot)):=by unfold bE;rw[if_pos hk]
  have HEq:=ab nH
  have H1:=ab h1
  have Hg:=ab hg
  have cB:=Bq ((hv.step hg).Vx) ((hv.step hg).R3) s.here.text
  have IB:=sg s.here.text
  have ER:=ab cB
  obtain ⟨x,hx⟩:∃x,s.here.text=x:=⟨_,rfl⟩
  rw[hx] at HEq ER IB ⊢
  clear hw h1 hg hk hc h hv hx nH cB
  go_wp2_with fail
  refine (aa ER).mono ?_
  rintro e w2 ⟨bo,t,c,rfl,hu⟩
  rw[hu] at HEq IB
  simp only at HEq IB
  have H2:=ab ((aa H1).up bo)
  have rP:=ab ((aa Hg).trans (aD b bo))
  clear bo hu ER H1 Hg
  go_wp2_with fail
  refine (iC (aa H2) c).mono ?_
  intro e w3 gS
  by_cases h0:c=0
  ·rw[if_pos h0] at gS HEq
   obtain ⟨rfl,h3,cO⟩:=gS
   have H3:=ab h3
   have qI:=ab ((aa rP).trans cO)
   clear h3 cO H2 rP
   subst h0
   go_wp2_with fail
   refine (pC w3 t IB).mono ?_
   rintro e w4 ⟨rfl,ig⟩
   obtain rfl:w3=w4:=ig.symm
   clear ig
   go_wp2_with fail
   refine (iC (aa H3) (bM t)).mono ?_
   intro e w5 IA
   by_cases h5:bM t=0
   ·rw[if_pos h5] at IA HEq
    obtain ⟨rfl,h6,ug⟩:=IA
    have H6:=ab h6
    have TW:=ab ((aa qI).trans ug)
    clear h6 ug H3 qI h5
    go_wp2_with fail
    refine (dX (aa H6) hp).mono ?_
    intro e w7 Tm
    rcases Tm.split with ⟨y,hr,rfl,sL⟩|⟨y,s2,hr,rfl,h7,sL⟩
    ·refine ⟨rfl,?_⟩
     rw[aa HEq,hr]
     exact ⟨rfl,(aa TW).trans sL⟩
    ·have HE:Hid (PR lo b W Value.string (bE bM s) (.returned (.string t)) w7):=by
      show PR lo b W Value.string (bE bM s) (.returned (.string t)) w7
      rw[aa HEq,hr]
      exact ⟨rfl,h7,(aa TW).trans sL⟩
     clear Tm h7 sL hr
     go_wp2
     go_ret
     exact aa HE
   ·rw[if_neg h5] at IA HEq
    obtain ⟨rfl,ug⟩:=IA
    refine ⟨rfl,?_⟩
    rw[aa HEq]
    exact ⟨rfl,(aa qI).trans ug⟩
  ·rw[if_neg h0] at gS HEq
   obtain ⟨rfl,cO⟩:=gS
   refine ⟨rfl,?_⟩
   rw[aa HEq]
   exact ⟨rfl,(aa rP).trans cO⟩
def aax (W:World) (s:ByteArray) (e:Ending) (w:World):Prop:=Below W.heap.size W w∧∃n c:Int,e=.returned (.tuple #[.int .i64 n,.int .i64 c])∧((65536<s.size∧n=0∧c=2)∨(s.size≤65536∧Lp (aG s) n c))
theorem FR {W:World} (h:gW W) (s:ByteArray):Calls Tryz.prog 182 #[.string s] W (aax W s):=by
 by_cases h0:s.size≤65536
 ·have e0:=Rq (a:=s.size) (k:=65536) (by omega)
  go_enter Tryz.func182,Tryz.ntmps182
  go_wp2_with fail
  refine (Az h s h0).mono ?_
  rintro e w1 ⟨bK,n,c,rfl,hu⟩
  have Hb:=ab bK
  have Hu:=ab hu
  clear bK hu
  go_wp2
  go_ret2
  exact ⟨aa Hb,n,c,rfl,.inr ⟨h0,aa Hu⟩⟩
 ·have e0:=Rp (a:=s.size) (k:=65536) (by omega)
  have eC:=zE W.heap.size W
  go_enter Tryz.func182,Tryz.ntmps182
  go_wp2
  go_ret2
  exact ⟨eC,_,_,rfl,.inl ⟨by omega,rfl,rfl⟩⟩
end Go.Proofs.YtjophoclfccmcaaGreatDoor
