import Derived.Test.YtjophoclfccmcaaGreatDoorM11
set_option maxHeartbeats 2000000
set_option maxRecDepth 100000
namespace Go.Proofs.YtjophoclfccmcaaGreatDoor
open Go.RowKit
attribute [local go_sem ↓] Go.wp_at_zero Go.wp_at_succ
theorem PR.split {α:Type}{lo b:Nat}{W w:World}{ret:α→Value}{r:Except (Int×Int) (α×ay)}{e:Ending} (h:PR lo b W ret r e w):(∃x:Int×Int,r=.error x∧e=qv x.1 x.2∧W.grownBy w (some b))∨∃a s',r=.ok (a,s')∧e=.returned (ret a)∧Rd lo w b s'∧W.grownBy w (some b):=by
 unfold PR at h
 cases r with
 |error x=>exact .inl ⟨x,rfl,h⟩
 |ok x=>exact .inr ⟨x.1,x.2,rfl,h⟩
theorem od {W:World}{lo b:Nat}{s:ay} (h:Rd lo W b s) (k:Int):Calls Tryz.prog 95 #[.pointer (some ⟨b,0,none⟩),.int .i64 k] W (PR lo b W Value.string (eb k s)):=by
 have hc:=ab (fC h)
 have Hd:=ab h
 have hW:Hid (∀w,Below W.heap.size W w→Calls Tryz.prog 58 #[.pointer (some ⟨b,0,none⟩)] w fun e w'=>e=qv (bR s).1 (bR s).2∧Below w.heap.size w w'):=fun w hb=>jn (h.up hb)
 obtain ⟨t,ht⟩:∃t,s.here=t:=⟨_,rfl⟩
 have Ht:=ab ht
 rw[ht] at hc
 obtain ⟨kd,sp,tx⟩:=t
 unfold Tk.val at hc
 simp only at hc
 clear ht h
 by_cases hk:kd=k
 ·subst hk
  have HE:Hid (∀w,Below W.heap.size W w→PR lo b W Value.string (eb kd s) (.returned (.string tx)) w):=fun w hb=>by
   unfold eb
   rw[aa Ht,if_pos rfl]
   exact ⟨rfl,(aa Hd).up hb,aD b hb⟩
  go_enter Tryz.func95,Tryz.ntmps95
  go_wp2_with fail
  refine (aa hc).mono ?_
  rintro e w1 ⟨rfl,bQ⟩
  have ko:=ab (bQ.alloc bQ.size (.cells #[.int .i64 kd,.int .i64 sp,.string tx] 38))
  clear bQ hc
  go_wp2
  go_ret
  exact aa HE _ (aa ko)
 ·have dV:(kd != k)=true:=by simp[hk]
  have HE:Hid (∀w,Below W.heap.size W w→PR lo b W Value.string (eb k s) (qv (bR s).1 (bR s).2) w):=fun w hb=>by
   unfold eb
   rw[if_neg (by rw[aa Ht];exact hk)]
   exact ⟨rfl,aD b hb⟩
  go_enter Tryz.func95,Tryz.ntmps95
  go_wp2_with fail
  refine (aa hc).mono ?_
  rintro e w1 ⟨rfl,bQ⟩
  have ko:=ab (bQ.alloc bQ.size (.cells #[.int .i64 kd,.int .i64 sp,.string tx] 38))
  clear bQ hc
  go_wp2_with fail
  refine (aa hW _ (aa ko)).mono ?_
  rintro e w2 ⟨rfl,br⟩
  exact ⟨rfl,aa HE w2 ((aa ko).trans (br.mono (aa ko).size))⟩
noncomputable def bI (x:ByteArray):Int:=if 255<x.size then 2 else if fw x=true then 0 else 50
theorem LW (W:World) (x:ByteArray):Calls Tryz.prog 13 #[.string x] W fun e w=>e=.returned (.bool (fw x))∧w=W:=by
 go_enter Tryz.func13,Tryz.ntmps13
 go_wp2_with fail
 refine (FX W x).mono ?_
 rintro e w1 ⟨rfl,hw⟩
 obtain rfl:W=w1:=hw.symm
 clear hw
 go_wp2
 go_ret
 exact ⟨rfl,rfl⟩
theorem pH (W:World) (x:ByteArray) (hx:x.size≤140737488355327):Calls Tryz.prog 143 #[.string x] W fun e w=>e=.returned (.int .i64 (bI x))∧w=W:=by
 unfold bI
 by_cases h1:255<x.size
 ·rw[if_pos h1]
  have hd:decide ((255:Int)<(x.size:Int))=true:=by simp;omega
  clear h1
  go_enter Tryz.func143,Tryz.ntmps143
  go_wp2
  go_ret
  exact ⟨rfl,rfl⟩
 ·rw[if_neg h1]
  have hd:decide ((255:Int)<(x.size:Int))=false:=by simp;omega
  have hw:=ab (LW W x)
  clear h1
  cases hi:fw x with
  |true =>
   rw[hi] at hw
   go_enter Tryz.func143,Tryz.ntmps143
   go_wp2_with fail
   refine (aa hw).mono ?_
   rintro e w1 ⟨rfl,eF⟩
   obtain rfl:W=w1:=eF.symm
   clear eF hw hi
   go_wp2
   go_ret
   exact ⟨rfl,rfl⟩
  |false =>
   rw[hi] at hw
   go_enter Tryz.func143,Tryz.ntmps143
   go_wp2_with fail
   refine (aa hw).mono ?_
   rintro e w1 ⟨rfl,eF⟩
   obtain rfl:W=w1:=eF.symm
   clear eF hw hi
   go_wp2
   go_ret
   exact ⟨rfl,rfl⟩
noncomputable def aR (s:ay):Except (Int×Int) (ByteArray×ay):=if s.here.kind=1 then (if bI s.here.text=0 then (match bz s with|.ok (_,s')=>.ok (s.here.text,s')|.error e=>.error e) else .error (bI s.here.text,s.here.spot)) else .error (bR s)
def Sm (s:ay):Prop:=∀t ∈ s.ts,t.text.size≤140737488355327
theorem Sm.here {s:ay} (h:Sm s) (he:s.here.kind≠5) (hk:s.en.kind=5):s.here.text.size≤140737488355327:=by
 have hp:=bN hk he
 unfold ay.here at *
 cases CG:s.ts with
 |nil=>rw[CG] at hp;simp at hp
 |cons t r=>exact h t (by rw[CG];simp)
theorem kW {W:World}{lo b:Nat}{s:ay} (h:Rd lo W b s) (hs:Sm s):Calls Tryz.prog 123 #[.pointer (some ⟨b,0,none⟩)] W (PR lo b W Value.string (aR s)):=by
 have hc:=ab (od h 1)
 go_enter Tryz.func123,Tryz.ntmps123
 go_wp2_with fail
 refine (aa hc).mono ?_
 intro e w1 hw
 rcases hw.split with ⟨x,hr,rfl,hg⟩|⟨x,s1,hr,rfl,h1,hg⟩
 ·have hk:¬s.here.kind=1:=fun e=>by unfold eb at hr;rw[if_pos e] at hr;cases hr
  unfold eb at hr
  rw[if_neg hk] at hr
  obtain rfl:bR s=x:=Except.error.inj hr
  refine ⟨rfl,?_⟩
  unfold aR
  rw[if_neg hk]
  exact ⟨rfl,hg⟩
 ·have hk:s.here.kind=1:=by
   apply Classical.byContradiction
   intro e
   unfold eb at hr
   rw[if_neg e] at hr
   cases hr
  unfold eb at hr
  rw[if_pos hk] at hr
  simp only[Except.ok.injEq,Prod.mk.injEq] at hr
  obtain ⟨rfl,rfl⟩:=hr
  have ck:=hs.here (by rw[hk];decide) h.grown
  have hp:=bN h.grown (by rw[hk];decide)
  obtain ⟨x,hx⟩:∃x,s.here.text=x:=⟨_,rfl⟩
  rw[hx] at ck ⊢
  have H1:=ab h1
  have Hg:=ab hg
  have Hx:=ab hx
  have Hk:=ab hk
  clear hw h1 hg hk hc h hs hx
  go_wp2_with fail
  refine (pH w1 x ck).mono ?_
  rintro e w2 ⟨rfl,kl⟩
  obtain rfl:w1=w2:=kl.symm
  clear kl
  go_wp2_with fail
  refine (iC (aa H1) (bI x)).mono ?_
  intro e w3 iU
  by_cases h0:bI x=0
  ·rw[if_pos h0] at iU
   obtain ⟨rfl,h3,cN⟩:=iU
   have H3:=ab h3
   have qN:=ab ((aa Hg).trans cN)
   have H0:=ab h0
   clear h3 cN h0
   go_wp2_with fail
   refine (dS (aa H3) hp).mono ?_
   intro e w4 ie
   rcases ie.split with ⟨y,hr,rfl,ld⟩|⟨y,s2,hr,rfl,h4,ld⟩
   ·refine ⟨rfl,?_⟩
    unfold aR
    rw[if_pos (aa Hk),aa Hx,if_pos (aa H0),hr]
    exact ⟨rfl,(aa qN).trans ld⟩
   ·have H4:=ab h4
    have Uf:=ab ((aa qN).trans ld)
    have Hr:=ab hr
    clear ie h4 ld hr
    go_wp2_with fail
    refine (A7 w4 x (by omega)).mono ?_
    rintro e w5 ⟨rfl,lr⟩
    have HE:Hid (PR lo b W Value.string (aR s) (.returned (.string x)) w5):=by
     unfold aR
     rw[if_pos (aa Hk),aa Hx,if_pos (aa H0),aa Hr]
     exact ⟨rfl,(aa H4).up lr,(aa Uf).trans (aD b lr)⟩
    clear lr
    go_wp2
    go_ret
    exact aa HE
  ·rw[if_neg h0] at iU
   obtain ⟨rfl,cN⟩:=iU
   refine ⟨rfl,?_⟩
   unfold aR
   rw[if_pos (aa Hk),aa Hx,if_neg h0]
   exact ⟨rfl,(aa Hg).trans cN⟩
end Go.Proofs.YtjophoclfccmcaaGreatDoor
namespace Go.Proofs.YtjophoclfccmcaaGreatDoor
open Go.RowKit Go.Lib
attribute [local go_sem ↓] Go.wp_at_zero Go.wp_at_succ
def UE (W:World) (s:ByteArray) (e:Ending) (w:World):Prop:=Below W.heap.size W w∧∃(t:ByteArray) (c:Int),e=.returned (.tuple #[.string t,.int .i64 c])∧fk s=(t,c)
theorem pX {W w:World}{s t:ByteArray}{c:Int} (hb:Below W.heap.size W w) (h:fk s=(t,c)):UE W s (.returned (.tuple #[.string t,.int .i64 c])) w:=⟨hb,t,c,rfl,h⟩
theorem sr {s:ByteArray} (h:65536<s.size):fk s=(⟨#[]⟩,2):=by unfold fk;rw[if_pos h];rfl
theorem xQ {s:ByteArray} (h:¬65536<s.size) (h2:0≤cQ s 0):fk s=(⟨#[]⟩,44):=by unfold fk;rw[if_neg h,if_pos h2];rfl
theorem gM {s:ByteArray} (h:¬65536<s.size) (h2:¬0≤cQ s 0) (h3:mh s=none∨∃l e,mh s=some (l,e)∧¬e=s.size):fk s=(⟨#[]⟩,42):=by
 unfold fk
 rw[if_neg h,if_neg h2]
 rcases h3 with h3|⟨l,e,h3,h4⟩
 ·rw[h3];rfl
 ·rw[h3]
  show (if e=s.size then (Rc l,(0:Int)) else (.empty,42))=_
  rw[if_neg h4];rfl
theorem xb {s:ByteArray}{l:List Nat} (h:¬65536<s.size) (h2:¬0≤cQ s 0) (h3:mh s=some (l,s.size)):fk s=(Rc l,0):=by
 unfold fk
 rw[if_neg h,if_neg h2,h3]
 show (if s.size=s.size then (Rc l,(0:Int)) else (.empty,42))=_
 rw[if_pos rfl]
theorem Bh {s:ByteArray}{l:List Nat}{e:Nat} (h:mh s=some (l,e)):1<e∧e≤s.size∧QC l:=by
 unfold mh at h
 split at h
 ·cases h
 ·split at h
  ·have:=He _ 1 l e (zD _) h
   exact ⟨this.1,this.2.1,this.2.2.1⟩
  ·cases h
theorem Bg {W:World} (hF:nG W) (hE:gU W) (s:ByteArray):Calls Tryz.prog 94 #[.string s] W (UE W s):=by
 have eK:=zE W.heap.size W
 by_cases h0:65536<s.size
 ·have Hr:=ab (sr h0)
  have e0:=Tl (a:=s.size) (k:=65536) (by omega)
  clear h0
  go_enter Tryz.func94,Tryz.ntmps94
  go_wp2
  go_ret2
  exact pX eK (aa Hr)
 ·have e0:=Tm (a:=s.size) (k:=65536) (by omega)
  have hs:s.size≤65536:=by omega
  have H0:=ab h0
  clear h0
  go_enter Tryz.func94,Tryz.ntmps94
  go_wp2_with fail
  refine (C7 hF s (by omega)).mono ?_
  rintro e w1 ⟨rfl,bQ⟩
  have ko:=ab bQ
  clear bQ eK
  by_cases h1:0≤cQ s 0
  ·have Hr:=ab (xQ (aa H0) h1)
   obtain ⟨u,hu⟩:∃u,u=cQ s 0:=⟨_,rfl⟩
   rw[←hu] at h1 ⊢
   have e1:decide (0≤u)=true:=by simp;omega
   clear hu h1
   go_wp2
   go_ret2
   exact pX (aa ko) (aa Hr)
  ·have H1:Hid (cQ s 0<0):=by show _<_;omega
   obtain ⟨u,hu⟩:∃u,u=cQ s 0:=⟨_,rfl⟩
   rw[←hu] at h1 ⊢
   have e1:decide (0≤u)=false:=by simp;omega
   clear hu h1
   go_wp2_with fail
   refine (tB (hE.up (aa ko)) s hs).mono ?_
   rintro e w2 ⟨br,⟨ho,rfl⟩|⟨l,n,v,ho,rfl,hv⟩⟩
   ·have Hr:=ab (gM (aa H0) (Int.not_le.2 (aa H1)) (.inl ho))
    have jm:Hid (Below W.heap.size W w2):=(aa ko).trans (br.mono (aa ko).size)
    clear ho br
    go_wp2
    go_ret2
    exact pX (aa jm) (aa Hr)
   ·obtain ⟨n1,n2,yN⟩:=Bh ho
    have jm:Hid (Below W.heap.size W w2):=(aa ko).trans (br.mono (aa ko).size)
    have n0:((n:Int)==0)=false:=by simp;omega
    obtain ⟨va,vn,vc,rfl⟩:=hv.shape
    by_cases h2:n=s.size
    ·have Hr:=ab (xb (aa H0) (Int.not_le.2 (aa H1)) (by rw[ho,h2]))
     have Z0:=zb hv.has yN
     have e2:decide (n<s.size)=false:=by simp;omega
     clear ho br hv h2 yN
     go_wp2
     go_ret2
     exact pX (aa jm) (aa Hr)
    ·have Hr:=ab (gM (aa H0) (Int.not_le.2 (aa H1)) (.inr ⟨l,n,ho,h2⟩))
     have e2:decide (n<s.size)=true:=by simp;omega
     clear ho br hv h2 yN
     go_wp2
     go_ret2
     exact pX (aa jm) (aa Hr)
end Go.Proofs.YtjophoclfccmcaaGreatDoor
namespace Go.Proofs.YtjophoclfccmcaaGreatDoor
open Go.RowKit
attribute [local go_sem ↓] Go.wp_at_zero Go.wp_at_succ
structure Env (V W:World) (b:Nat):Prop where
 f:nG V
 e:gU V
 m:oO V
 below:Below V.heap.size V W
 lo:V.heap.size≤b
theorem Env.step {V W w:World}{b:Nat} (h:Env V W b) (hg:W.grownBy w (some b)):Env V w b :=
 ⟨h.f,h.e,h.m,h.below.grown hg h.below.size (fun k e=>by simp at e;have:=h.lo;omega),h.lo⟩
theorem Env.VQ {V W:World}{b:Nat} (h:Env V W b):nG W:=h.f.up h.below
theorem Env.Se {V W:World}{b:Nat} (h:Env V W b):gU W:=h.e.up h.below
noncomputable def bB (ff:ByteArray→Int) (s:ay):Except (Int×Int) (ByteArray×ay) :=
 if s.here.kind=3 then (if (fk s.here.text).2=0 then (if ff (fk s.here.text).1=0 then (match bz s with|.ok (_,s')=>.ok ((fk s.here.text).1,s')|.error e=>.error e) else .error (ff (fk s.here.text).1,s.here.spot)) else .error ((fk s.here.text).2,s.here.spot)) else .error (bR s)
theorem L2 {s:ByteArray}{l:List Nat}{e:Nat} (h:mh s=some (l,e)):l.length<e:=by
 unfold mh at h
 split at h
 ·cases h
 ·split at h
  ·have:=He _ 1 l e (zD _) h
   have:=this.2.2.2
   omega
  ·cases h
theorem sq (s:ByteArray):(fk s).1.size≤140737488355327:=by
 by_cases h:65536<s.size
 ·rw[sr h];decide
 ·by_cases h2:0≤cQ s 0
  ·rw[xQ h h2];decide
  ·cases h3:mh s with
   |none=>rw[gM h h2 (.inl h3)];decide
   |some p =>
    obtain ⟨l,e⟩:=p
    by_cases he:e=s.size
    ·subst he
     rw[xb h h2 h3]
     have h4:=L2 h3
     rw[M4]
     omega
    ·rw[gM h h2 (.inr ⟨l,e,h3,he⟩)];decide
def dF (x:ByteArray):Int:=if (x.toList==[112,114,111,116,111,51])=true then 0 else 50
theorem tY (W:World) (x:ByteArray) (_:x.size≤140737488355327):Calls Tryz.prog 61 #[.string x] W fun e w=>e=.returned (.int .i64 (dF x))∧w=W:=by
 unfold dF
 cases h:(x.toList==[112,114,111,116,111,51]) with
 |true =>
  go_enter Tryz.func61,Tryz.ntmps61
  go_wp2
  go_ret
  exact ⟨rfl,rfl⟩
 |false =>
  go_enter Tryz.func61,Tryz.ntmps61
  go_wp2
  go_ret
  exact ⟨rfl,rfl⟩
def dO (x:ByteArray):Int:=if 255<x.size then 2 else if (x.toList==[])=true then 50 else 0
theorem ud (W:World) (x:ByteArray) (hx:x.size≤140737488355327):Calls Tryz.prog 122 #[.string x] W fun e w=>e=.returned (.int .i64 (dO x))∧w=W:=by
 unfold dO
 by_cases h1:255<x.size
 ·rw[if_pos h1]
  have hd:decide ((255:Int)<(x.size:Int))=true:=by simp;omega
  clear h1
  go_enter Tryz.func122,Tryz.ntmps122
  go_wp2
  go_ret
  exact ⟨rfl,rfl⟩
 ·rw[if_neg h1]
  have hd:decide ((255:Int)<(x.size:Int))=false:=by simp;omega
  clear h1
  cases h:(x.toList==[]) with
  |true =>
   go_enter Tryz.func122,Tryz.ntmps122
   go_wp2
   go_ret
   exact ⟨rfl,rfl⟩
  |false =>
   go_enter Tryz.func122,Tryz.ntmps122
   go_wp2
   go_ret
   exact ⟨rfl,rfl⟩
theorem qc {V W:World}{lo b:Nat}{s:ay} (hv:Env V W b) (h:Rd lo W b s):Calls Tryz.prog 60 #[.pointer (some ⟨b,0,none⟩),.func (.func 61) #[] #[]] W (PR lo b W Value.string (bB dF s)):=by
 have hc:=ab (od h 3)
 have Hv:=ab hv
 go_enter Tryz.func60,Tryz.ntmps60
 go_wp2_with fail
 refine (aa hc).mono ?_
 intro e w1 hw
 rcases hw.split with ⟨x,hr,rfl,hg⟩|⟨x,s1,hr,rfl,h1,hg⟩
 ·have hk:¬s.here.kind=3:=fun e=>by unfold eb at hr;rw[if_pos e] at hr;cases hr
  unfold eb at hr
  rw[if_neg hk] at hr
  obtain rfl:bR s=x:=Except.error.inj hr
  refine ⟨rfl,?_⟩
  unfold bB
  rw[if_neg hk]
  exact ⟨rfl,hg⟩
 ·have hk:s.here.kind=3:=by
   apply Classical.byContradiction
   intro e
   unfold eb at hr
   rw[if_neg e] at hr
   cases hr
  unfold eb at hr
  rw[if_pos hk] at hr
  simp only[Except.ok.injEq,Prod.mk.injEq] at hr
  obtain ⟨rfl,rfl⟩:=hr
  have hp:=bN h.grown (by rw[hk];decide)
  have nK:bB dF s=(if (fk s.here.text).2=0 then (if dF (fk s.here.text).1=0 then (match bz s with|.ok (_,s')=>.ok ((fk s.here.text).1,s')|.error e=>.error e) else .error (dF (fk s.here.text).1,s.here.spot)) else .error ((fk s.here.text).2,s.here.spot)):=by unfold bB;rw[if_pos hk]
  have HEq:=ab nK
  have H1:=ab h1
  have Hg:=ab hg
  have cA:=Bg ((hv.step hg).VQ) ((hv.step hg).Se) s.here.text
  have Iz:=sq s.here.text
  have EJ:=ab cA
  obtain ⟨x,hx⟩:∃x,s.here.text=x:=⟨_,rfl⟩
  rw[hx] at HEq EJ Iz ⊢
  clear hw h1 hg hk hc h hv hx nK cA
  go_wp2_with fail
  refine (aa EJ).mono ?_
  rintro e w2 ⟨br,t,c,rfl,hu⟩
  rw[hu] at HEq Iz
  simp only at HEq Iz
  have H2:=ab ((aa H1).up br)
  have rY:=ab ((aa Hg).trans (aD b br))
  clear br hu EJ H1 Hg
  go_wp2_with fail
  refine (iC (aa H2) c).mono ?_
  intro e w3 iU
  by_cases h0:c=0
  ·rw[if_pos h0] at iU HEq
   obtain ⟨rfl,h3,cN⟩:=iU
   have H3:=ab h3
   have qN:=ab ((aa rY).trans cN)
   clear h3 cN H2 rY
   subst h0
   go_wp2_with fail
   refine (tY w3 t Iz).mono ?_
   rintro e w4 ⟨rfl,ie⟩
   obtain rfl:w3=w4:=ie.symm
   clear ie
   go_wp2_with fail
   refine (iC (aa H3) (dF t)).mono ?_
   intro e w5 Iy
   by_cases h5:dF t=0
   ·rw[if_pos h5] at Iy HEq
    obtain ⟨rfl,h6,uk⟩:=Iy
    have H6:=ab h6
    have Ue:=ab ((aa qN).trans uk)
    clear h6 uk H3 qN h5
    go_wp2_with fail
    refine (dS (aa H6) hp).mono ?_
    intro e w7 Ks
    rcases Ks.split with ⟨y,hr,rfl,sO⟩|⟨y,s2,hr,rfl,h7,sO⟩
    ·refine ⟨rfl,?_⟩
     rw[aa HEq,hr]
     exact ⟨rfl,(aa Ue).trans sO⟩
    ·have HE:Hid (PR lo b W Value.string (bB dF s) (.returned (.string t)) w7):=by
      show PR lo b W Value.string (bB dF s) (.returned (.string t)) w7
      rw[aa HEq,hr]
      exact ⟨rfl,h7,(aa Ue).trans sO⟩
     clear Ks h7 sO hr
     go_wp2
     go_ret
     exact aa HE
   ·rw[if_neg h5] at Iy HEq
    obtain ⟨rfl,uk⟩:=Iy
    refine ⟨rfl,?_⟩
    rw[aa HEq]
    exact ⟨rfl,(aa qN).trans uk⟩
  ·rw[if_neg h0] at iU HEq
   obtain ⟨rfl,cN⟩:=iU
   refine ⟨rfl,?_⟩
   rw[aa HEq]
   exact ⟨rfl,(aa rY).trans cN⟩
theorem qd {V W:World}{lo b:Nat}{s:ay} (hv:Env V W b) (h:Rd lo W b s):Calls Tryz.prog 60 #[.pointer (some ⟨b,0,none⟩),.func (.func 122) #[] #[]] W (PR lo b W Value.string (bB dO s)):=by
 have hc:=ab (od h 3)
 have Hv:=ab hv
 go_enter Tryz.func60,Tryz.ntmps60
 go_wp2_with fail
 refine (aa hc).mono ?_
 intro e w1 hw
 rcases hw.split with ⟨x,hr,rfl,hg⟩|⟨x,s1,hr,rfl,h1,hg⟩
 ·have hk:¬s.here.kind=3:=fun e=>by unfold eb at hr;rw[if_pos e] at hr;cases hr
  unfold eb at hr
  rw[if_neg hk] at hr
  obtain rfl:bR s=x:=Except.error.inj hr
  refine ⟨rfl,?_⟩
  unfold bB
  rw[if_neg hk]
  exact ⟨rfl,hg⟩
 ·have hk:s.here.kind=3:=by
   apply Classical.byContradiction
   intro e
   unfold eb at hr
   rw[if_neg e] at hr
   cases hr
  unfold eb at hr
  rw[if_pos hk] at hr
  simp only[Except.ok.injEq,Prod.mk.injEq] at hr
  obtain ⟨rfl,rfl⟩:=hr
  have hp:=bN h.grown (by rw[hk];decide)
  have nK:bB dO s=(if (fk s.here.text).2=0 then (if dO (fk s.here.text).1=0 then (match bz s with|.ok (_,s')=>.ok ((fk s.here.text).1,s')|.error e=>.error e) else .error (dO (fk s.here.text).1,s.here.spot)) else .error ((fk s.here.text).2,s.here.spot)):=by unfold bB;rw[if_pos hk]
  have HEq:=ab nK
  have H1:=ab h1
  have Hg:=ab hg
  have cA:=Bg ((hv.step hg).VQ) ((hv.step hg).Se) s.here.text
  have Iz:=sq s.here.text
  have EJ:=ab cA
  obtain ⟨x,hx⟩:∃x,s.here.text=x:=⟨_,rfl⟩
  rw[hx] at HEq EJ Iz ⊢
  clear hw h1 hg hk hc h hv hx nK cA
  go_wp2_with fail
  refine (aa EJ).mono ?_
  rintro e w2 ⟨br,t,c,rfl,hu⟩
  rw[hu] at HEq Iz
  simp only at HEq Iz
  have H2:=ab ((aa H1).up br)
  have rY:=ab ((aa Hg).trans (aD b br))
  clear br hu EJ H1 Hg
  go_wp2_with fail
  refine (iC (aa H2) c).mono ?_
  intro e w3 iU
  by_cases h0:c=0
  ·rw[if_pos h0] at iU HEq
   obtain ⟨rfl,h3,cN⟩:=iU
   have H3:=ab h3
   have qN:=ab ((aa rY).trans cN)
   clear h3 cN H2 rY
   subst h0
   go_wp2_with fail
   refine (ud w3 t Iz).mono ?_
   rintro e w4 ⟨rfl,ie⟩
   obtain rfl:w3=w4:=ie.symm
   clear ie
   go_wp2_with fail
   refine (iC (aa H3) (dO t)).mono ?_
   intro e w5 Iy
   by_cases h5:dO t=0
   ·rw[if_pos h5] at Iy HEq
    obtain ⟨rfl,h6,uk⟩:=Iy
    have H6:=ab h6
    have Ue:=ab ((aa qN).trans uk)
    clear h6 uk H3 qN h5
    go_wp2_with fail
    refine (dS (aa H6) hp).mono ?_
    intro e w7 Ks
    rcases Ks.split with ⟨y,hr,rfl,sO⟩|⟨y,s2,hr,rfl,h7,sO⟩
    ·refine ⟨rfl,?_⟩
     rw[aa HEq,hr]
     exact ⟨rfl,(aa Ue).trans sO⟩
    ·have HE:Hid (PR lo b W Value.string (bB dO s) (.returned (.string t)) w7):=by
      show PR lo b W Value.string (bB dO s) (.returned (.string t)) w7
      rw[aa HEq,hr]
      exact ⟨rfl,h7,(aa Ue).trans sO⟩
     clear Ks h7 sO hr
     go_wp2
     go_ret
     exact aa HE
   ·rw[if_neg h5] at Iy HEq
    obtain ⟨rfl,uk⟩:=Iy
    refine ⟨rfl,?_⟩
    rw[aa HEq]
    exact ⟨rfl,(aa qN).trans uk⟩
  ·rw[if_neg h0] at iU HEq
   obtain ⟨rfl,cN⟩:=iU
   refine ⟨rfl,?_⟩
   rw[aa HEq]
   exact ⟨rfl,(aa rY).trans cN⟩
theorem sF {V W:World}{lo b:Nat}{s:ay} (hv:Env V W b) (h:Rd lo W b s):Calls Tryz.prog 60 #[.pointer (some ⟨b,0,none⟩),.func (.func 143) #[] #[]] W (PR lo b W Value.string (bB bI s)):=by
 have hc:=ab (od h 3)
 have Hv:=ab hv
 go_enter Tryz.func60,Tryz.ntmps60
 go_wp2_with fail
 refine (aa hc).mono ?_
 intro e w1 hw
 rcases hw.split with ⟨x,hr,rfl,hg⟩|⟨x,s1,hr,rfl,h1,hg⟩
 ·have hk:¬s.here.kind=3:=fun e=>by unfold eb at hr;rw[if_pos e] at hr;cases hr
  unfold eb at hr
  rw[if_neg hk] at hr
  obtain rfl:bR s=x:=Except.error.inj hr
  refine ⟨rfl,?_⟩
  unfold bB
  rw[if_neg hk]
  exact ⟨rfl,hg⟩
 ·have hk:s.here.kind=3:=by
   apply Classical.byContradiction
   intro e
   unfold eb at hr
   rw[if_neg e] at hr
   cases hr
  unfold eb at hr
  rw[if_pos hk] at hr
  simp only[Except.ok.injEq,Prod.mk.injEq] at hr
  obtain ⟨rfl,rfl⟩:=hr
  have hp:=bN h.grown (by rw[hk];decide)
  have nK:bB bI s=(if (fk s.here.text).2=0 then (if bI (fk s.here.text).1=0 then (match bz s with|.ok (_,s')=>.ok ((fk s.here.text).1,s')|.error e=>.error e) else .error (bI (fk s.here.text).1,s.here.spot)) else .error ((fk s.here.text).2,s.here.spot)):=by unfold bB;rw[if_pos hk]
  have HEq:=ab nK
  have H1:=ab h1
  have Hg:=ab hg
  have cA:=Bg ((hv.step hg).VQ) ((hv.step hg).Se) s.here.text
  have Iz:=sq s.here.text
  have EJ:=ab cA
  obtain ⟨x,hx⟩:∃x,s.here.text=x:=⟨_,rfl⟩
  rw[hx] at HEq EJ Iz ⊢
  clear hw h1 hg hk hc h hv hx nK cA
  go_wp2_with fail
  refine (aa EJ).mono ?_
  rintro e w2 ⟨br,t,c,rfl,hu⟩
  rw[hu] at HEq Iz
  simp only at HEq Iz
  have H2:=ab ((aa H1).up br)
  have rY:=ab ((aa Hg).trans (aD b br))
  clear br hu EJ H1 Hg
  go_wp2_with fail
  refine (iC (aa H2) c).mono ?_
  intro e w3 iU
  by_cases h0:c=0
  ·rw[if_pos h0] at iU HEq
   obtain ⟨rfl,h3,cN⟩:=iU
   have H3:=ab h3
   have qN:=ab ((aa rY).trans cN)
   clear h3 cN H2 rY
   subst h0
   go_wp2_with fail
   refine (pH w3 t Iz).mono ?_
   rintro e w4 ⟨rfl,ie⟩
   obtain rfl:w3=w4:=ie.symm
   clear ie
   go_wp2_with fail
   refine (iC (aa H3) (bI t)).mono ?_
   intro e w5 Iy
   by_cases h5:bI t=0
   ·rw[if_pos h5] at Iy HEq
    obtain ⟨rfl,h6,uk⟩:=Iy
    have H6:=ab h6
    have Ue:=ab ((aa qN).trans uk)
    clear h6 uk H3 qN h5
    go_wp2_with fail
    refine (dS (aa H6) hp).mono ?_
    intro e w7 Ks
    rcases Ks.split with ⟨y,hr,rfl,sO⟩|⟨y,s2,hr,rfl,h7,sO⟩
    ·refine ⟨rfl,?_⟩
     rw[aa HEq,hr]
     exact ⟨rfl,(aa Ue).trans sO⟩
    ·have HE:Hid (PR lo b W Value.string (bB bI s) (.returned (.string t)) w7):=by
      show PR lo b W Value.string (bB bI s) (.returned (.string t)) w7
      rw[aa HEq,hr]
      exact ⟨rfl,h7,(aa Ue).trans sO⟩
     clear Ks h7 sO hr
     go_wp2
     go_ret
     exact aa HE
   ·rw[if_neg h5] at Iy HEq
    obtain ⟨rfl,uk⟩:=Iy
    refine ⟨rfl,?_⟩
    rw[aa HEq]
    exact ⟨rfl,(aa qN).trans uk⟩
  ·rw[if_neg h0] at iU HEq
   obtain ⟨rfl,cN⟩:=iU
   refine ⟨rfl,?_⟩
   rw[aa HEq]
   exact ⟨rfl,(aa rY).trans cN⟩
def aaI (W:World) (s:ByteArray) (e:Ending) (w:World):Prop:=Below W.heap.size W w∧∃n c:Int,e=.returned (.tuple #[.int .i64 n,.int .i64 c])∧((65536<s.size∧n=0∧c=2)∨(s.size≤65536∧Lo (aI s) n c))
theorem FK {W:World} (h:gU W) (s:ByteArray):Calls Tryz.prog 182 #[.string s] W (aaI W s):=by
 by_cases h0:s.size≤65536
 ·have e0:=Tm (a:=s.size) (k:=65536) (by omega)
  go_enter Tryz.func182,Tryz.ntmps182
  go_wp2_with fail
  refine (Aw h s h0).mono ?_
  rintro e w1 ⟨bQ,n,c,rfl,hu⟩
  have Hb:=ab bQ
  have Hu:=ab hu
  clear bQ hu
  go_wp2
  go_ret2
  exact ⟨aa Hb,n,c,rfl,.inr ⟨h0,aa Hu⟩⟩
 ·have e0:=Tl (a:=s.size) (k:=65536) (by omega)
  have eK:=zE W.heap.size W
  go_enter Tryz.func182,Tryz.ntmps182
  go_wp2
  go_ret2
  exact ⟨eK,_,_,rfl,.inl ⟨by omega,rfl,rfl⟩⟩
end Go.Proofs.YtjophoclfccmcaaGreatDoor
