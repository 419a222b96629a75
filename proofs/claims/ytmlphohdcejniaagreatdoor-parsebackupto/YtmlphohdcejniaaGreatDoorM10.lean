import Derived.Test.YtmlphohdcejniaaGreatDoorM09
set_option maxHeartbeats 2000000
set_option maxRecDepth 100000
namespace Go.Proofs.YtmlphohdcejniaaGreatDoor
open Go.RowKit
attribute [local go_sem ↓] Go.wp_at_zero Go.wp_at_succ
theorem PR.pre {α:Type}{lo b:Nat}{W w w':World}{ret:α→Value}{r:Except (Int×Int) (α×aI)}{e:Ending} (hg:W.grownBy w (some b)) (h:PR lo b w ret r e w'):PR lo b W ret r e w':=by
 unfold PR at *
 cases r with
 |error x=>exact ⟨h.1,hg.trans h.2⟩
 |ok x=>exact ⟨h.1,h.2.1,hg.trans h.2.2⟩
theorem PR.shape {α:Type}{lo b:Nat}{W w:World}{ret:α→Value}{r:Except (Int×Int) (α×aI)}{e:Ending} (h:PR lo b W ret r e w):(∃x:Int×Int,e=oD x.1 x.2)∨∃a,e=.returned (ret a):=by
 unfold PR at h
 cases r with
 |error x=>exact .inl ⟨x,h.1⟩
 |ok x=>exact .inr ⟨x.1,h.1⟩
theorem Rd.grown {W:World}{lo b:Nat}{s:aI} (h:Rd lo W b s):s.en.kind=5:=by
 obtain ⟨_,_,_,_,_,_,h⟩:=h
 exact h
theorem bP {s:aI} (he:s.en.kind=5) (h:s.here.kind≠5):0<s.ts.length:=by
 unfold aI.here at h
 cases OP:s.ts with
 |nil=>rw[OP] at h;exact absurd he h
 |cons t r=>simp
def cw (k:Int) (x:ByteArray) (s:aI):Except (Int×Int) (Bool×aI):=if dD s.here k x=true then (match bE s with|.ok (_,s')=>.ok (true,s')|.error e=>.error e) else .ok (false,s)
theorem yp {W:World}{lo b:Nat}{s:aI} (h:Rd lo W b s) {k:Int} (hk:k≠5) (x:ByteArray):Calls Tryz.prog 89 #[.pointer (some ⟨b,0,none⟩),.int .i64 k,.string x] W (PR lo b W Value.bool (cw k x s)):=by
 have hc:=aj (eV h)
 have hI:Hid (∀w,Calls Tryz.prog 118 #[s.here.val,.int .i64 k,.string x] w fun e w'=>e=.returned (.bool (dD s.here k x))∧Below w.heap.size w w'):=fun w=>qz w s.here k x
 have hN:Hid (∀w,dD s.here k x=true→Below W.heap.size W w→Calls Tryz.prog 95 #[.pointer (some ⟨b,0,none⟩)] w (PR lo b w AZ (bE s))):=fun w hp hb=>cY (h.up hb) (bP h.grown (by
  unfold dD at hp
  rw[Bool.and_eq_true] at hp
  rw[eq_of_beq hp.1]
  exact hk))
 have Hd:=aj h
 have Hv:Hid (∃p q r,s.here.val=.agg #[p,q,r]):=⟨_,_,_,rfl⟩
 obtain ⟨p,q,r,hv⟩:=aa Hv
 rw[hv] at hc hI
 clear h hk Hv hv
 go_enter Tryz.func89,Tryz.ntmps89
 go_wp2_with fail
 refine (aa hc).mono ?_
 rintro e w1 ⟨rfl,bC⟩
 have jU:=aj bC
 clear bC hc
 go_wp2_with fail
 refine (aa hI w1).mono ?_
 rintro e w2 ⟨rfl,bH⟩
 have y9:Hid (Below W.heap.size W w2):=(aa jU).trans (bH.mono (aa jU).size)
 clear bH hI jU
 cases hp:dD s.here k x with
 |true =>
  have HN:=aj (aa hN w2 hp (aa y9))
  have HE:Hid (∀e w,PR lo b w2 AZ (bE s) e w→(∃y:Int×Int,bE s=.error y∧e=oD y.1 y.2∧PR lo b W Value.bool (cw k x s) e w)∨(e=.returned (.tuple #[])∧PR lo b W Value.bool (cw k x s) (.returned (.bool true)) w)):=by
   intro e w hw
   unfold cw
   rw[if_pos hp]
   cases hn:bE s with
   |error y =>
    rw[hn] at hw
    exact .inl ⟨y,rfl,hw.1,hw.1,(aA b (aa y9)).trans hw.2⟩
   |ok y =>
    rw[hn] at hw
    exact .inr ⟨hw.1,rfl,hw.2.1,(aA b (aa y9)).trans hw.2.2⟩
  clear hp hN
  go_wp2_with fail
  refine (aa HN).mono ?_
  intro e w3 hw
  rcases aa HE e w3 hw with ⟨y,_,rfl,h3⟩|⟨rfl,h3⟩
  ·exact ⟨rfl,h3⟩
  ·have H3:=aj h3
   clear h3 hw HE HN
   go_wp2
   go_ret
   exact aa H3
 |false =>
  have HE:Hid (PR lo b W Value.bool (cw k x s) (.returned (.bool false)) w2):=by
   unfold cw
   rw[if_neg (by rw[hp];simp)]
   exact ⟨rfl,(aa Hd).up (aa y9),aA b (aa y9)⟩
  clear hp hN
  go_wp2
  go_ret
  exact aa HE
theorem fO {W:World}{lo b:Nat}{s:aI} (h:Rd lo W b s) (x:ByteArray):Calls Tryz.prog 91 #[.pointer (some ⟨b,0,none⟩),.string x] W (PR lo b W Value.bool (cw 4 x s)):=by
 have hc:=aj (yp h (k:=4) (by decide) x)
 clear h
 go_enter Tryz.func91,Tryz.ntmps91
 go_wp2_with fail
 refine (aa hc).mono ?_
 intro e w hw
 rcases hw.shape with ⟨y,rfl⟩|⟨f,rfl⟩
 ·exact ⟨rfl,hw⟩
 ·have HW:=aj hw
  clear hw hc
  go_wp2
  go_ret
  exact aa HW
theorem lI {W:World}{lo b:Nat}{s:aI} (h:Rd lo W b s) (x:ByteArray):Calls Tryz.prog 74 #[.pointer (some ⟨b,0,none⟩),.string x] W (PR lo b W Value.bool (cw 1 x s)):=by
 have hc:=aj (yp h (k:=1) (by decide) x)
 clear h
 go_enter Tryz.func74,Tryz.ntmps74
 go_wp2_with fail
 refine (aa hc).mono ?_
 intro e w hw
 rcases hw.shape with ⟨y,rfl⟩|⟨f,rfl⟩
 ·exact ⟨rfl,hw⟩
 ·have HW:=aj hw
  clear hw hc
  go_wp2
  go_ret
  exact aa HW
def aW (x:ByteArray) (s:aI):Except (Int×Int) (Unit×aI):=match cw 4 x s with
 |.error e=>.error e
 |.ok (true,s')=>.ok ((),s')
 |.ok (false,s')=>.error (cK s')
theorem cQ {W:World}{lo b:Nat}{s:aI} (h:Rd lo W b s) (x:ByteArray):Calls Tryz.prog 76 #[.pointer (some ⟨b,0,none⟩),.string x] W (PR lo b W AZ (aW x s)):=by
 have hc:=aj (fO h x)
 clear h
 go_enter Tryz.func76,Tryz.ntmps76
 go_wp2_with fail
 refine (aa hc).mono ?_
 intro e w hw
 cases hr:cw 4 x s with
 |error y =>
  rw[hr] at hw
  obtain ⟨rfl,h2⟩:=hw
  have hp:aW x s=.error y:=by unfold aW;rw[hr]
  exact ⟨rfl,by rw[hp];exact ⟨rfl,h2⟩⟩
 |ok y =>
  obtain ⟨f,s'⟩:=y
  rw[hr] at hw
  obtain ⟨rfl,h2,h3⟩:=hw
  cases f with
  |true =>
   have hp:aW x s=.ok ((),s'):=by unfold aW;rw[hr]
   have HE:Hid (PR lo b W AZ (aW x s) (.returned (.tuple #[])) w):=by rw[hp];exact ⟨rfl,h2,h3⟩
   clear h2 h3 hc hr hp
   go_wp2
   go_end0
   exact aa HE
  |false =>
   have hp:aW x s=.error (cK s'):=by unfold aW;rw[hr]
   have HW:=aj (ig h2)
   have HE:Hid (∀w2,Below w.heap.size w w2→PR lo b W AZ (aW x s) (oD (cK s').1 (cK s').2) w2):=fun w2 bH=>by rw[hp];exact ⟨rfl,h3.trans (aA b bH)⟩
   clear h2 h3 hc hr hp
   go_wp2_with fail
   refine (aa HW).mono ?_
   rintro e w2 ⟨rfl,bH⟩
   exact ⟨rfl,aa HE w2 bH⟩
def dm (k:Int) (s:aI):Except (Int×Int) (ByteArray×aI):=if s.here.kind=k then .ok (s.here.text,s) else .error (cK s)
theorem gI {W:World}{lo b:Nat}{s:aI} (h:Rd lo W b s) (er:Int):Calls Tryz.prog 94 #[.pointer (some ⟨b,0,none⟩),.int .i64 er] W (PR lo b W AZ (if er=0 then .ok ((),s) else .error (er,s.here.spot))):=by
 have hc:=aj (lv h er)
 have Hd:=aj h
 clear h
 by_cases h0:er=0
 ·subst h0
  rw[if_pos rfl]
  go_enter Tryz.func94,Tryz.ntmps94
  go_wp2
  go_end0
  exact ⟨rfl,aa Hd,zI _ _⟩
 ·rw[if_neg h0]
  have e0:(er != 0)=true:=by simp[h0]
  go_enter Tryz.func94,Tryz.ntmps94
  go_wp2_with fail
  refine (aa hc).mono ?_
  rintro e w2 ⟨rfl,bH⟩
  exact ⟨rfl,rfl,aA b bH⟩
theorem Ts {a b:Nat} (h:¬a=b):((a:Int)==(b:Int))=false:=by simp;omega
theorem Tr (a:Nat):((a:Int)==(a:Int))=true:=by simp
def l8 (s:ByteArray):Prop:=(1≤s.size∧s.size≤255)∧(∀x,(aG s)[0]?=some x→isLet x)∧∀(j x:Nat),(aG s)[j]?=some x→isLet x∨bX x
theorem Iv (W:World) (s:ByteArray) :
  Calls Tryz.prog 181 #[.string s] W fun e w=>∃b:Bool,e=.returned (.bool b)∧w=W∧(b=true↔l8 s):=by
 by_cases h0:s.size=0
 ·obtain rfl:s=⟨#[]⟩:=by cases s with|mk d=>cases d with|mk l=>cases l with|nil=>rfl|cons a r=>simp[ByteArray.size] at h0
  go_enter Tryz.func181,Tryz.ntmps181
  go_wp2
  go_ret
  exact ⟨_,rfl,rfl,by simp[l8,ByteArray.size]⟩
 ·have e0:=pz h0
  by_cases h1:s.size≤255
  ·obtain ⟨x,hx,fF,gx⟩:=iv s 0 (by omega)
   have e1:=YX (a:=s.size) (k:=255) (by omega)
   have Hx:=aj hx
   clear hx
   go_enter Tryz.func181,Tryz.ntmps181
   go_wp2_with fail
   refine (iS W x fF).mono ?_
   rintro e w' ⟨rfl,he⟩
   obtain rfl:W=w':=he.symm
   by_cases h2:isLet x
   ·rw[pN.2 h2]
    go_wp2_with fail
    refine (zv W s (by omega)).mono ?_
    rintro e w' ⟨n,rfl,he,hn,kN,ib⟩
    obtain rfl:W=w':=he.symm
    have tJ:=aj kN
    have xd:=aj ib
    clear kN ib gx
    by_cases hnn:n=s.size
    ·subst hnn
     have e2:=Tr s.size
     go_wp2
     go_ret
     refine ⟨_,rfl,rfl,fun _=>⟨⟨by omega,h1⟩,fun y hy=>?_,fun j y hy=>?_⟩,fun _=>rfl⟩
     ·rw[aa Hx] at hy;obtain rfl:=zC hy;exact h2
     ·exact aa tJ j y (by have:=(zB hy).1;rwa [bd] at this) hy
    ·have e2:=Ts hnn
     go_wp2
     go_ret
     refine ⟨_,rfl,rfl,fun h=>by simp at h,fun h=>?_⟩
     obtain ⟨y,hy,_,_⟩:=iv s n (by omega)
     exact absurd (h.2.2 n y hy) (aa xd y hy)
   ·have h3:¬cls x=2:=mt pN.1 h2
    have e2:((cls x:Int)==2)=false:=by simp;omega
    have H2:=aj h2
    clear h2 gx
    generalize cls x=kx at *
    go_wp2
    go_ret
    refine ⟨_,rfl,rfl,fun h=>by simp at h,fun h=>absurd (h.2.1 x (aa Hx)) (aa H2)⟩
  ·have e1:=YW (a:=s.size) (k:=255) (by omega)
   go_enter Tryz.func181,Tryz.ntmps181
   go_wp2
   go_ret
   exact ⟨_,rfl,rfl,fun h=>by simp at h,fun h=>absurd h.1.2 h1⟩
theorem D8 (s:ByteArray):((1≤s.size∧s.size≤255)∧(∀x ∈ (aG s).take 1,isLet x)∧∀x ∈ aG s,isLet x∨bX x)↔l8 s:=by
 unfold l8
 refine and_congr_right fun _=>and_congr ⟨fun h x hx=>h x ?_,fun h x hx=>h x ?_⟩ ⟨fun h j x hx=>h x (List.mem_of_getElem? hx),fun h x hx=>?_⟩
 ·cases hl:aG s with
  |nil=>rw[hl] at hx;cases hx
  |cons a r=>rw[hl] at hx;rw[←zC hx];exact List.mem_singleton.2 rfl
 ·cases hl:aG s with
  |nil=>rw[hl] at hx;cases hx
  |cons a r=>rw[hl] at hx;rw[List.mem_singleton.1 hx];rfl
 ·obtain ⟨j,hj⟩:=List.getElem?_of_mem hx
  exact h j x hj
instance (s : ByteArray) : Decidable (l8 s) := decidable_of_iff _ (D8 s)
def lT (s:ByteArray):Bool:=decide (l8 s)
theorem Iw {s:ByteArray}{b:Bool} (h:b=true↔l8 s):b=lT s:=by
 unfold lT
 by_cases hp:l8 s
 ·simp[hp,h.2 hp]
 ·simp[hp];cases b<;>simp_all
theorem D7 (W:World) (s:ByteArray):Calls Tryz.prog 181 #[.string s] W fun e w=>e=.returned (.bool (lT s))∧w=W :=
 (Iv W s).mono fun e w ⟨b,h1,h2,h3⟩=>⟨by rw[h1,Iw h3],h2⟩
theorem PR.split {α:Type}{lo b:Nat}{W w:World}{ret:α→Value}{r:Except (Int×Int) (α×aI)}{e:Ending} (h:PR lo b W ret r e w):(∃x:Int×Int,r=.error x∧e=oD x.1 x.2∧W.grownBy w (some b))∨∃a s',r=.ok (a,s')∧e=.returned (ret a)∧Rd lo w b s'∧W.grownBy w (some b):=by
 unfold PR at h
 cases r with
 |error x=>exact .inl ⟨x,rfl,h⟩
 |ok x=>exact .inr ⟨x.1,x.2,rfl,h⟩
theorem mR {W:World}{lo b:Nat}{s:aI} (h:Rd lo W b s) (k:Int):Calls Tryz.prog 93 #[.pointer (some ⟨b,0,none⟩),.int .i64 k] W (PR lo b W Value.string (dm k s)):=by
 have hc:=aj (eV h)
 have Hd:=aj h
 have hW:Hid (∀w,Below W.heap.size W w→Calls Tryz.prog 75 #[.pointer (some ⟨b,0,none⟩)] w fun e w'=>e=oD (cK s).1 (cK s).2∧Below w.heap.size w w'):=fun w hb=>ig (h.up hb)
 obtain ⟨t,ht⟩:∃t,s.here=t:=⟨_,rfl⟩
 have Ht:=aj ht
 rw[ht] at hc
 obtain ⟨kd,sp,tx⟩:=t
 unfold Tk.val at hc
 simp only at hc
 clear ht h
 by_cases hk:kd=k
 ·subst hk
  have HE:Hid (∀w,Below W.heap.size W w→PR lo b W Value.string (dm kd s) (.returned (.string tx)) w):=fun w hb=>by
   unfold dm
   rw[aa Ht,if_pos rfl]
   exact ⟨rfl,(aa Hd).up hb,aA b hb⟩
  go_enter Tryz.func93,Tryz.ntmps93
  go_wp2_with fail
  refine (aa hc).mono ?_
  rintro e w1 ⟨rfl,bC⟩
  have jU:=aj (bC.alloc bC.size (.cells #[.int .i64 kd,.int .i64 sp,.string tx] 44))
  clear bC hc
  go_wp2
  go_ret
  exact aa HE _ (aa jU)
 ·have eo:(kd != k)=true:=by simp[hk]
  have HE:Hid (∀w,Below W.heap.size W w→PR lo b W Value.string (dm k s) (oD (cK s).1 (cK s).2) w):=fun w hb=>by
   unfold dm
   rw[if_neg (by rw[aa Ht];exact hk)]
   exact ⟨rfl,aA b hb⟩
  go_enter Tryz.func93,Tryz.ntmps93
  go_wp2_with fail
  refine (aa hc).mono ?_
  rintro e w1 ⟨rfl,bC⟩
  have jU:=aj (bC.alloc bC.size (.cells #[.int .i64 kd,.int .i64 sp,.string tx] 44))
  clear bC hc
  go_wp2_with fail
  refine (aa hW _ (aa jU)).mono ?_
  rintro e w2 ⟨rfl,bH⟩
  exact ⟨rfl,aa HE w2 ((aa jU).trans (bH.mono (aa jU).size))⟩
noncomputable def bZ (x:ByteArray):Int:=if 255<x.size then 2 else if lT x=true then 0 else 50
theorem Jz (W:World) (x:ByteArray):Calls Tryz.prog 171 #[.string x] W fun e w=>e=.returned (.bool (lT x))∧w=W:=by
 go_enter Tryz.func171,Tryz.ntmps171
 go_wp2_with fail
 refine (D7 W x).mono ?_
 rintro e w1 ⟨rfl,hw⟩
 obtain rfl:W=w1:=hw.symm
 clear hw
 go_wp2
 go_ret
 exact ⟨rfl,rfl⟩
theorem nQ (W:World) (x:ByteArray) (hx:x.size≤140737488355327):Calls Tryz.prog 150 #[.string x] W fun e w=>e=.returned (.int .i64 (bZ x))∧w=W:=by
 unfold bZ
 by_cases h1:255<x.size
 ·rw[if_pos h1]
  have hd:decide ((255:Int)<(x.size:Int))=true:=by simp;omega
  clear h1
  go_enter Tryz.func150,Tryz.ntmps150
  go_wp2
  go_ret
  exact ⟨rfl,rfl⟩
 ·rw[if_neg h1]
  have hd:decide ((255:Int)<(x.size:Int))=false:=by simp;omega
  have hw:=aj (Jz W x)
  clear h1
  cases hi:lT x with
  |true =>
   rw[hi] at hw
   go_enter Tryz.func150,Tryz.ntmps150
   go_wp2_with fail
   refine (aa hw).mono ?_
   rintro e w1 ⟨rfl,nE⟩
   obtain rfl:W=w1:=nE.symm
   clear nE hw hi
   go_wp2
   go_ret
   exact ⟨rfl,rfl⟩
  |false =>
   rw[hi] at hw
   go_enter Tryz.func150,Tryz.ntmps150
   go_wp2_with fail
   refine (aa hw).mono ?_
   rintro e w1 ⟨rfl,nE⟩
   obtain rfl:W=w1:=nE.symm
   clear nE hw hi
   go_wp2
   go_ret
   exact ⟨rfl,rfl⟩
noncomputable def cq (s:aI):Except (Int×Int) (ByteArray×aI):=if s.here.kind=1 then (if bZ s.here.text=0 then (match bE s with|.ok (_,s')=>.ok (s.here.text,s')|.error e=>.error e) else .error (bZ s.here.text,s.here.spot)) else .error (cK s)
def Sm (s:aI):Prop:=∀t ∈ s.ts,t.text.size≤140737488355327
theorem Sm.here {s:aI} (h:Sm s) (he:s.here.kind≠5) (hk:s.en.kind=5):s.here.text.size≤140737488355327:=by
 have hp:=bP hk he
 unfold aI.here at *
 cases OP:s.ts with
 |nil=>rw[OP] at hp;simp at hp
 |cons t r=>exact h t (by rw[OP];simp)
theorem j5 {W:World}{lo b:Nat}{s:aI} (h:Rd lo W b s) (hs:Sm s):Calls Tryz.prog 122 #[.pointer (some ⟨b,0,none⟩)] W (PR lo b W Value.string (cq s)):=by
 have hc:=aj (mR h 1)
 go_enter Tryz.func122,Tryz.ntmps122
 go_wp2_with fail
 refine (aa hc).mono ?_
 intro e w1 hw
 rcases hw.split with ⟨x,hr,rfl,hg⟩|⟨x,s1,hr,rfl,h1,hg⟩
 ·have hk:¬s.here.kind=1:=fun e=>by unfold dm at hr;rw[if_pos e] at hr;cases hr
  unfold dm at hr
  rw[if_neg hk] at hr
  obtain rfl:cK s=x:=Except.error.inj hr
  refine ⟨rfl,?_⟩
  unfold cq
  rw[if_neg hk]
  exact ⟨rfl,hg⟩
 ·have hk:s.here.kind=1:=by
   apply Classical.byContradiction
   intro e
   unfold dm at hr
   rw[if_neg e] at hr
   cases hr
  unfold dm at hr
  rw[if_pos hk] at hr
  simp only[Except.ok.injEq,Prod.mk.injEq] at hr
  obtain ⟨rfl,rfl⟩:=hr
  have bR:=hs.here (by rw[hk];decide) h.grown
  have hp:=bP h.grown (by rw[hk];decide)
  obtain ⟨x,hx⟩:∃x,s.here.text=x:=⟨_,rfl⟩
  rw[hx] at bR ⊢
  have H1:=aj h1
  have Hg:=aj hg
  have Hx:=aj hx
  have Hk:=aj hk
  clear hw h1 hg hk hc h hs hx
  go_wp2_with fail
  refine (nQ w1 x bR).mono ?_
  rintro e w2 ⟨rfl,dT⟩
  obtain rfl:w1=w2:=dT.symm
  clear dT
  go_wp2_with fail
  refine (gI (aa H1) (bZ x)).mono ?_
  intro e w3 ll
  by_cases h0:bZ x=0
  ·rw[if_pos h0] at ll
   obtain ⟨rfl,h3,eY⟩:=ll
   have H3:=aj h3
   have oN:=aj ((aa Hg).trans eY)
   have H0:=aj h0
   clear h3 eY h0
   go_wp2_with fail
   refine (cY (aa H3) hp).mono ?_
   intro e w4 kL
   rcases kL.split with ⟨y,hr,rfl,qF⟩|⟨y,s2,hr,rfl,h4,qF⟩
   ·refine ⟨rfl,?_⟩
    unfold cq
    rw[if_pos (aa Hk),aa Hx,if_pos (aa H0),hr]
    exact ⟨rfl,(aa oN).trans qF⟩
   ·have H4:=aj h4
    have Q0:=aj ((aa oN).trans qF)
    have Hr:=aj hr
    clear kL h4 qF hr
    go_wp2_with fail
    refine (yT w4 x (by omega)).mono ?_
    rintro e w5 ⟨rfl,jf⟩
    have HE:Hid (PR lo b W Value.string (cq s) (.returned (.string x)) w5):=by
     unfold cq
     rw[if_pos (aa Hk),aa Hx,if_pos (aa H0),aa Hr]
     exact ⟨rfl,(aa H4).up jf,(aa Q0).trans (aA b jf)⟩
    clear jf
    go_wp2
    go_ret
    exact aa HE
  ·rw[if_neg h0] at ll
   obtain ⟨rfl,eY⟩:=ll
   refine ⟨rfl,?_⟩
   unfold cq
   rw[if_pos (aa Hk),aa Hx,if_neg h0]
   exact ⟨rfl,(aa Hg).trans eY⟩
end Go.Proofs.YtmlphohdcejniaaGreatDoor
namespace Go.Proofs.YtmlphohdcejniaaGreatDoor
open Go.RowKit Go.Lib
attribute [local go_sem ↓] Go.wp_at_zero Go.wp_at_succ
def UE (W:World) (s:ByteArray) (e:Ending) (w:World):Prop:=Below W.heap.size W w∧∃(t:ByteArray) (c:Int),e=.returned (.tuple #[.string t,.int .i64 c])∧fN s=(t,c)
theorem JL {W w:World}{s t:ByteArray}{c:Int} (hb:Below W.heap.size W w) (h:fN s=(t,c)):UE W s (.returned (.tuple #[.string t,.int .i64 c])) w:=⟨hb,t,c,rfl,h⟩
theorem yb {s:ByteArray} (h:65536<s.size):fN s=(⟨#[]⟩,2):=by unfold fN;rw[if_pos h];rfl
theorem Be {s:ByteArray} (h:¬65536<s.size) (h2:0≤cX s 0):fN s=(⟨#[]⟩,44):=by unfold fN;rw[if_neg h,if_pos h2];rfl
theorem oQ {s:ByteArray} (h:¬65536<s.size) (h2:¬0≤cX s 0) (h3:kJ s=none∨∃l e,kJ s=some (l,e)∧¬e=s.size):fN s=(⟨#[]⟩,42):=by
 unfold fN
 rw[if_neg h,if_neg h2]
 rcases h3 with h3|⟨l,e,h3,h4⟩
 ·rw[h3];rfl
 ·rw[h3]
  show (if e=s.size then (rO l,(0:Int)) else (.empty,42))=_
  rw[if_neg h4];rfl
theorem Fe {s:ByteArray}{l:List Nat} (h:¬65536<s.size) (h2:¬0≤cX s 0) (h3:kJ s=some (l,s.size)):fN s=(rO l,0):=by
 unfold fN
 rw[if_neg h,if_neg h2,h3]
 show (if s.size=s.size then (rO l,(0:Int)) else (.empty,42))=_
 rw[if_pos rfl]
theorem Oa {s:ByteArray}{l:List Nat}{e:Nat} (h:kJ s=some (l,e)):1<e∧e≤s.size∧Jl l:=by
 unfold kJ at h
 split at h
 ·cases h
 ·split at h
  ·have:=x9 _ 1 l e (zD _) h
   exact ⟨this.1,this.2.1,this.2.2.1⟩
  ·cases h
theorem zl {W:World} (hF:mA W) (hE:fZ W) (s:ByteArray):Calls Tryz.prog 92 #[.string s] W (UE W s):=by
 have dN:=zE W.heap.size W
 by_cases h0:65536<s.size
 ·have Hr:=aj (yb h0)
  have e0:=YW (a:=s.size) (k:=65536) (by omega)
  clear h0
  go_enter Tryz.func92,Tryz.ntmps92
  go_wp2
  go_ret2
  exact JL dN (aa Hr)
 ·have e0:=YX (a:=s.size) (k:=65536) (by omega)
  have hs:s.size≤65536:=by omega
  have H0:=aj h0
  clear h0
  go_enter Tryz.func92,Tryz.ntmps92
  go_wp2_with fail
  refine (Bd hF s (by omega)).mono ?_
  rintro e w1 ⟨rfl,bC⟩
  have jU:=aj bC
  clear bC dN
  by_cases h1:0≤cX s 0
  ·have Hr:=aj (Be (aa H0) h1)
   obtain ⟨u,hu⟩:∃u,u=cX s 0:=⟨_,rfl⟩
   rw[←hu] at h1 ⊢
   have e1:decide (0≤u)=true:=by simp;omega
   clear hu h1
   go_wp2
   go_ret2
   exact JL (aa jU) (aa Hr)
  ·have H1:Hid (cX s 0<0):=by show _<_;omega
   obtain ⟨u,hu⟩:∃u,u=cX s 0:=⟨_,rfl⟩
   rw[←hu] at h1 ⊢
   have e1:decide (0≤u)=false:=by simp;omega
   clear hu h1
   go_wp2_with fail
   refine (qW (hE.up (aa jU)) s hs).mono ?_
   rintro e w2 ⟨bH,⟨ho,rfl⟩|⟨l,n,v,ho,rfl,hv⟩⟩
   ·have Hr:=aj (oQ (aa H0) (Int.not_le.2 (aa H1)) (.inl ho))
    have iU:Hid (Below W.heap.size W w2):=(aa jU).trans (bH.mono (aa jU).size)
    clear ho bH
    go_wp2
    go_ret2
    exact JL (aa iU) (aa Hr)
   ·obtain ⟨n1,n2,Eh⟩:=Oa ho
    have iU:Hid (Below W.heap.size W w2):=(aa jU).trans (bH.mono (aa jU).size)
    have n0:((n:Int)==0)=false:=by simp;omega
    obtain ⟨va,vn,vc,rfl⟩:=hv.shape
    by_cases h2:n=s.size
    ·have Hr:=aj (Fe (aa H0) (Int.not_le.2 (aa H1)) (by rw[ho,h2]))
     have Eg:=na hv.has Eh
     have e2:decide (n<s.size)=false:=by simp;omega
     clear ho bH hv h2 Eh
     go_wp2
     go_ret2
     exact JL (aa iU) (aa Hr)
    ·have Hr:=aj (oQ (aa H0) (Int.not_le.2 (aa H1)) (.inr ⟨l,n,ho,h2⟩))
     have e2:decide (n<s.size)=true:=by simp;omega
     clear ho bH hv h2 Eh
     go_wp2
     go_ret2
     exact JL (aa iU) (aa Hr)
end Go.Proofs.YtmlphohdcejniaaGreatDoor
namespace Go.Proofs.YtmlphohdcejniaaGreatDoor
open Go.RowKit
attribute [local go_sem ↓] Go.wp_at_zero Go.wp_at_succ
structure Env (V W:World) (b:Nat):Prop where
 f:mA V
 e:fZ V
 m:gD V
 below:Below V.heap.size V W
 lo:V.heap.size≤b
theorem Env.step {V W w:World}{b:Nat} (h:Env V W b) (hg:W.grownBy w (some b)):Env V w b :=
 ⟨h.f,h.e,h.m,h.below.grown hg h.below.size (fun k e=>by simp at e;have:=h.lo;omega),h.lo⟩
theorem Env.SV {V W:World}{b:Nat} (h:Env V W b):mA W:=h.f.up h.below
theorem Env.Pb {V W:World}{b:Nat} (h:Env V W b):fZ W:=h.e.up h.below
noncomputable def bO (ff:ByteArray→Int) (s:aI):Except (Int×Int) (ByteArray×aI) :=
 if s.here.kind=3 then (if (fN s.here.text).2=0 then (if ff (fN s.here.text).1=0 then (match bE s with|.ok (_,s')=>.ok ((fN s.here.text).1,s')|.error e=>.error e) else .error (ff (fN s.here.text).1,s.here.spot)) else .error ((fN s.here.text).2,s.here.spot)) else .error (cK s)
theorem JK {s:ByteArray}{l:List Nat}{e:Nat} (h:kJ s=some (l,e)):l.length<e:=by
 unfold kJ at h
 split at h
 ·cases h
 ·split at h
  ·have:=x9 _ 1 l e (zD _) h
   have:=this.2.2.2
   omega
  ·cases h
theorem qi (s:ByteArray):(fN s).1.size≤140737488355327:=by
 by_cases h:65536<s.size
 ·rw[yb h];decide
 ·by_cases h2:0≤cX s 0
  ·rw[Be h h2];decide
  ·cases h3:kJ s with
   |none=>rw[oQ h h2 (.inl h3)];decide
   |some p =>
    obtain ⟨l,e⟩:=p
    by_cases he:e=s.size
    ·subst he
     rw[Fe h h2 h3]
     have h4:=JK h3
     rw[iE]
     omega
    ·rw[oQ h h2 (.inr ⟨l,e,h3,he⟩)];decide
def fk (x:ByteArray):Int:=if (x.toList==[112,114,111,116,111,51])=true then 0 else 50
theorem rM (W:World) (x:ByteArray) (_:x.size≤140737488355327):Calls Tryz.prog 78 #[.string x] W fun e w=>e=.returned (.int .i64 (fk x))∧w=W:=by
 unfold fk
 cases h:(x.toList==[112,114,111,116,111,51]) with
 |true =>
  go_enter Tryz.func78,Tryz.ntmps78
  go_wp2
  go_ret
  exact ⟨rfl,rfl⟩
 |false =>
  go_enter Tryz.func78,Tryz.ntmps78
  go_wp2
  go_ret
  exact ⟨rfl,rfl⟩
def eL (x:ByteArray):Int:=if 255<x.size then 2 else if (x.toList==[])=true then 50 else 0
theorem rP (W:World) (x:ByteArray) (hx:x.size≤140737488355327):Calls Tryz.prog 121 #[.string x] W fun e w=>e=.returned (.int .i64 (eL x))∧w=W:=by
 unfold eL
 by_cases h1:255<x.size
 ·rw[if_pos h1]
  have hd:decide ((255:Int)<(x.size:Int))=true:=by simp;omega
  clear h1
  go_enter Tryz.func121,Tryz.ntmps121
  go_wp2
  go_ret
  exact ⟨rfl,rfl⟩
 ·rw[if_neg h1]
  have hd:decide ((255:Int)<(x.size:Int))=false:=by simp;omega
  clear h1
  cases h:(x.toList==[]) with
  |true =>
   go_enter Tryz.func121,Tryz.ntmps121
   go_wp2
   go_ret
   exact ⟨rfl,rfl⟩
  |false =>
   go_enter Tryz.func121,Tryz.ntmps121
   go_wp2
   go_ret
   exact ⟨rfl,rfl⟩
theorem ox {V W:World}{lo b:Nat}{s:aI} (hv:Env V W b) (h:Rd lo W b s):Calls Tryz.prog 77 #[.pointer (some ⟨b,0,none⟩),.func (.func 78) #[] #[]] W (PR lo b W Value.string (bO fk s)):=by
 have hc:=aj (mR h 3)
 have Hv:=aj hv
 go_enter Tryz.func77,Tryz.ntmps77
 go_wp2_with fail
 refine (aa hc).mono ?_
 intro e w1 hw
 rcases hw.split with ⟨x,hr,rfl,hg⟩|⟨x,s1,hr,rfl,h1,hg⟩
 ·have hk:¬s.here.kind=3:=fun e=>by unfold dm at hr;rw[if_pos e] at hr;cases hr
  unfold dm at hr
  rw[if_neg hk] at hr
  obtain rfl:cK s=x:=Except.error.inj hr
  refine ⟨rfl,?_⟩
  unfold bO
  rw[if_neg hk]
  exact ⟨rfl,hg⟩
 ·have hk:s.here.kind=3:=by
   apply Classical.byContradiction
   intro e
   unfold dm at hr
   rw[if_neg e] at hr
   cases hr
  unfold dm at hr
  rw[if_pos hk] at hr
  simp only[Except.ok.injEq,Prod.mk.injEq] at hr
  obtain ⟨rfl,rfl⟩:=hr
  have hp:=bP h.grown (by rw[hk];decide)
  have mD:bO fk s=(if (fN s.here.text).2=0 then (if fk (fN s.here.text).1=0 then (match bE s with|.ok (_,s')=>.ok ((fN s.here.text).1,s')|.error e=>.error e) else .error (fk (fN s.here.text).1,s.here.spot)) else .error ((fN s.here.text).2,s.here.spot)):=by unfold bO;rw[if_pos hk]
  have HEq:=aj mD
  have H1:=aj h1
  have Hg:=aj hg
  have bW:=zl ((hv.step hg).SV) ((hv.step hg).Pb) s.here.text
  have FN:=qi s.here.text
  have C3:=aj bW
  obtain ⟨x,hx⟩:∃x,s.here.text=x:=⟨_,rfl⟩
  rw[hx] at HEq C3 FN ⊢
  clear hw h1 hg hk hc h hv hx mD bW
  go_wp2_with fail
  refine (aa C3).mono ?_
  rintro e w2 ⟨bH,t,c,rfl,hu⟩
  rw[hu] at HEq FN
  simp only at HEq FN
  have H2:=aj ((aa H1).up bH)
  have pT:=aj ((aa Hg).trans (aA b bH))
  clear bH hu C3 H1 Hg
  go_wp2_with fail
  refine (gI (aa H2) c).mono ?_
  intro e w3 ll
  by_cases h0:c=0
  ·rw[if_pos h0] at ll HEq
   obtain ⟨rfl,h3,eY⟩:=ll
   have H3:=aj h3
   have oN:=aj ((aa pT).trans eY)
   clear h3 eY H2 pT
   subst h0
   go_wp2_with fail
   refine (rM w3 t FN).mono ?_
   rintro e w4 ⟨rfl,kL⟩
   obtain rfl:w3=w4:=kL.symm
   clear kL
   go_wp2_with fail
   refine (gI (aa H3) (fk t)).mono ?_
   intro e w5 Dd
   by_cases h5:fk t=0
   ·rw[if_pos h5] at Dd HEq
    obtain ⟨rfl,h6,rS⟩:=Dd
    have H6:=aj h6
    have QZ:=aj ((aa oN).trans rS)
    clear h6 rS H3 oN h5
    go_wp2_with fail
    refine (cY (aa H6) hp).mono ?_
    intro e w7 Ea
    rcases Ea.split with ⟨y,hr,rfl,qE⟩|⟨y,s2,hr,rfl,h7,qE⟩
    ·refine ⟨rfl,?_⟩
     rw[aa HEq,hr]
     exact ⟨rfl,(aa QZ).trans qE⟩
    ·have HE:Hid (PR lo b W Value.string (bO fk s) (.returned (.string t)) w7):=by
      show PR lo b W Value.string (bO fk s) (.returned (.string t)) w7
      rw[aa HEq,hr]
      exact ⟨rfl,h7,(aa QZ).trans qE⟩
     clear Ea h7 qE hr
     go_wp2
     go_ret
     exact aa HE
   ·rw[if_neg h5] at Dd HEq
    obtain ⟨rfl,rS⟩:=Dd
    refine ⟨rfl,?_⟩
    rw[aa HEq]
    exact ⟨rfl,(aa oN).trans rS⟩
  ·rw[if_neg h0] at ll HEq
   obtain ⟨rfl,eY⟩:=ll
   refine ⟨rfl,?_⟩
   rw[aa HEq]
   exact ⟨rfl,(aa pT).trans eY⟩
theorem oy {V W:World}{lo b:Nat}{s:aI} (hv:Env V W b) (h:Rd lo W b s):Calls Tryz.prog 77 #[.pointer (some ⟨b,0,none⟩),.func (.func 121) #[] #[]] W (PR lo b W Value.string (bO eL s)):=by
 have hc:=aj (mR h 3)
 have Hv:=aj hv
 go_enter Tryz.func77,Tryz.ntmps77
 go_wp2_with fail
 refine (aa hc).mono ?_
 intro e w1 hw
 rcases hw.split with ⟨x,hr,rfl,hg⟩|⟨x,s1,hr,rfl,h1,hg⟩
 ·have hk:¬s.here.kind=3:=fun e=>by unfold dm at hr;rw[if_pos e] at hr;cases hr
  unfold dm at hr
  rw[if_neg hk] at hr
  obtain rfl:cK s=x:=Except.error.inj hr
  refine ⟨rfl,?_⟩
  unfold bO
  rw[if_neg hk]
  exact ⟨rfl,hg⟩
 ·have hk:s.here.kind=3:=by
   apply Classical.byContradiction
   intro e
   unfold dm at hr
   rw[if_neg e] at hr
   cases hr
  unfold dm at hr
  rw[if_pos hk] at hr
  simp only[Except.ok.injEq,Prod.mk.injEq] at hr
  obtain ⟨rfl,rfl⟩:=hr
  have hp:=bP h.grown (by rw[hk];decide)
  have mD:bO eL s=(if (fN s.here.text).2=0 then (if eL (fN s.here.text).1=0 then (match bE s with|.ok (_,s')=>.ok ((fN s.here.text).1,s')|.error e=>.error e) else .error (eL (fN s.here.text).1,s.here.spot)) else .error ((fN s.here.text).2,s.here.spot)):=by unfold bO;rw[if_pos hk]
  have HEq:=aj mD
  have H1:=aj h1
  have Hg:=aj hg
  have bW:=zl ((hv.step hg).SV) ((hv.step hg).Pb) s.here.text
  have FN:=qi s.here.text
  have C3:=aj bW
  obtain ⟨x,hx⟩:∃x,s.here.text=x:=⟨_,rfl⟩
  rw[hx] at HEq C3 FN ⊢
  clear hw h1 hg hk hc h hv hx mD bW
  go_wp2_with fail
  refine (aa C3).mono ?_
  rintro e w2 ⟨bH,t,c,rfl,hu⟩
  rw[hu] at HEq FN
  simp only at HEq FN
  have H2:=aj ((aa H1).up bH)
  have pT:=aj ((aa Hg).trans (aA b bH))
  clear bH hu C3 H1 Hg
  go_wp2_with fail
  refine (gI (aa H2) c).mono ?_
  intro e w3 ll
  by_cases h0:c=0
  ·rw[if_pos h0] at ll HEq
   obtain ⟨rfl,h3,eY⟩:=ll
   have H3:=aj h3
   have oN:=aj ((aa pT).trans eY)
   clear h3 eY H2 pT
   subst h0
   go_wp2_with fail
   refine (rP w3 t FN).mono ?_
   rintro e w4 ⟨rfl,kL⟩
   obtain rfl:w3=w4:=kL.symm
   clear kL
   go_wp2_with fail
   refine (gI (aa H3) (eL t)).mono ?_
   intro e w5 Dd
   by_cases h5:eL t=0
   ·rw[if_pos h5] at Dd HEq
    obtain ⟨rfl,h6,rS⟩:=Dd
    have H6:=aj h6
    have QZ:=aj ((aa oN).trans rS)
    clear h6 rS H3 oN h5
    go_wp2_with fail
    refine (cY (aa H6) hp).mono ?_
    intro e w7 Ea
    rcases Ea.split with ⟨y,hr,rfl,qE⟩|⟨y,s2,hr,rfl,h7,qE⟩
    ·refine ⟨rfl,?_⟩
     rw[aa HEq,hr]
     exact ⟨rfl,(aa QZ).trans qE⟩
    ·have HE:Hid (PR lo b W Value.string (bO eL s) (.returned (.string t)) w7):=by
      show PR lo b W Value.string (bO eL s) (.returned (.string t)) w7
      rw[aa HEq,hr]
      exact ⟨rfl,h7,(aa QZ).trans qE⟩
     clear Ea h7 qE hr
     go_wp2
     go_ret
     exact aa HE
   ·rw[if_neg h5] at Dd HEq
    obtain ⟨rfl,rS⟩:=Dd
    refine ⟨rfl,?_⟩
    rw[aa HEq]
    exact ⟨rfl,(aa oN).trans rS⟩
  ·rw[if_neg h0] at ll HEq
   obtain ⟨rfl,eY⟩:=ll
   refine ⟨rfl,?_⟩
   rw[aa HEq]
   exact ⟨rfl,(aa pT).trans eY⟩
theorem qv {V W:World}{lo b:Nat}{s:aI} (hv:Env V W b) (h:Rd lo W b s):Calls Tryz.prog 77 #[.pointer (some ⟨b,0,none⟩),.func (.func 150) #[] #[]] W (PR lo b W Value.string (bO bZ s)):=by
 have hc:=aj (mR h 3)
 have Hv:=aj hv
 go_enter Tryz.func77,Tryz.ntmps77
 go_wp2_with fail
 refine (aa hc).mono ?_
 intro e w1 hw
 rcases hw.split with ⟨x,hr,rfl,hg⟩|⟨x,s1,hr,rfl,h1,hg⟩
 ·have hk:¬s.here.kind=3:=fun e=>by unfold dm at hr;rw[if_pos e] at hr;cases hr
  unfold dm at hr
  rw[if_neg hk] at hr
  obtain rfl:cK s=x:=Except.error.inj hr
  refine ⟨rfl,?_⟩
  unfold bO
  rw[if_neg hk]
  exact ⟨rfl,hg⟩
 ·have hk:s.here.kind=3:=by
   apply Classical.byContradiction
   intro e
   unfold dm at hr
   rw[if_neg e] at hr
   cases hr
  unfold dm at hr
  rw[if_pos hk] at hr
  simp only[Except.ok.injEq,Prod.mk.injEq] at hr
  obtain ⟨rfl,rfl⟩:=hr
  have hp:=bP h.grown (by rw[hk];decide)
  have mD:bO bZ s=(if (fN s.here.text).2=0 then (if bZ (fN s.here.text).1=0 then (match bE s with|.ok (_,s')=>.ok ((fN s.here.text).1,s')|.error e=>.error e) else .error (bZ (fN s.here.text).1,s.here.spot)) else .error ((fN s.here.text).2,s.here.spot)):=by unfold bO;rw[if_pos hk]
  have HEq:=aj mD
  have H1:=aj h1
  have Hg:=aj hg
  have bW:=zl ((hv.step hg).SV) ((hv.step hg).Pb) s.here.text
  have FN:=qi s.here.text
  have C3:=aj bW
  obtain ⟨x,hx⟩:∃x,s.here.text=x:=⟨_,rfl⟩
  rw[hx] at HEq C3 FN ⊢
  clear hw h1 hg hk hc h hv hx mD bW
  go_wp2_with fail
  refine (aa C3).mono ?_
  rintro e w2 ⟨bH,t,c,rfl,hu⟩
  rw[hu] at HEq FN
  simp only at HEq FN
  have H2:=aj ((aa H1).up bH)
  have pT:=aj ((aa Hg).trans (aA b bH))
  clear bH hu C3 H1 Hg
  go_wp2_with fail
  refine (gI (aa H2) c).mono ?_
  intro e w3 ll
  by_cases h0:c=0
  ·rw[if_pos h0] at ll HEq
   obtain ⟨rfl,h3,eY⟩:=ll
   have H3:=aj h3
   have oN:=aj ((aa pT).trans eY)
   clear h3 eY H2 pT
   subst h0
   go_wp2_with fail
   refine (nQ w3 t FN).mono ?_
   rintro e w4 ⟨rfl,kL⟩
   obtain rfl:w3=w4:=kL.symm
   clear kL
   go_wp2_with fail
   refine (gI (aa H3) (bZ t)).mono ?_
   intro e w5 Dd
   by_cases h5:bZ t=0
   ·rw[if_pos h5] at Dd HEq
    obtain ⟨rfl,h6,rS⟩:=Dd
    have H6:=aj h6
    have QZ:=aj ((aa oN).trans rS)
    clear h6 rS H3 oN h5
    go_wp2_with fail
    refine (cY (aa H6) hp).mono ?_
    intro e w7 Ea
    rcases Ea.split with ⟨y,hr,rfl,qE⟩|⟨y,s2,hr,rfl,h7,qE⟩
    ·refine ⟨rfl,?_⟩
     rw[aa HEq,hr]
     exact ⟨rfl,(aa QZ).trans qE⟩
    ·have HE:Hid (PR lo b W Value.string (bO bZ s) (.returned (.string t)) w7):=by
      show PR lo b W Value.string (bO bZ s) (.returned (.string t)) w7
      rw[aa HEq,hr]
      exact ⟨rfl,h7,(aa QZ).trans qE⟩
     clear Ea h7 qE hr
     go_wp2
     go_ret
     exact aa HE
   ·rw[if_neg h5] at Dd HEq
    obtain ⟨rfl,rS⟩:=Dd
    refine ⟨rfl,?_⟩
    rw[aa HEq]
    exact ⟨rfl,(aa oN).trans rS⟩
  ·rw[if_neg h0] at ll HEq
   obtain ⟨rfl,eY⟩:=ll
   refine ⟨rfl,?_⟩
   rw[aa HEq]
   exact ⟨rfl,(aa pT).trans eY⟩
def aaZ (W:World) (s:ByteArray) (e:Ending) (w:World):Prop:=Below W.heap.size W w∧∃n c:Int,e=.returned (.tuple #[.int .i64 n,.int .i64 c])∧((65536<s.size∧n=0∧c=2)∨(s.size≤65536∧Jd (aG s) n c))
theorem DV {W:World} (h:fZ W) (s:ByteArray):Calls Tryz.prog 182 #[.string s] W (aaZ W s):=by
 by_cases h0:s.size≤65536
 ·have e0:=YX (a:=s.size) (k:=65536) (by omega)
  go_enter Tryz.func182,Tryz.ntmps182
  go_wp2_with fail
  refine (x7 h s h0).mono ?_
  rintro e w1 ⟨bC,n,c,rfl,hu⟩
  have Hb:=aj bC
  have Hu:=aj hu
  clear bC hu
  go_wp2
  go_ret2
  exact ⟨aa Hb,n,c,rfl,.inr ⟨h0,aa Hu⟩⟩
 ·have e0:=YW (a:=s.size) (k:=65536) (by omega)
  have dN:=zE W.heap.size W
  go_enter Tryz.func182,Tryz.ntmps182
  go_wp2
  go_ret2
  exact ⟨dN,_,_,rfl,.inl ⟨by omega,rfl,rfl⟩⟩
end Go.Proofs.YtmlphohdcejniaaGreatDoor
