import Derived.Test.YtmlphohdcejniaaGreatDoorM09
set_option maxHeartbeats 2000000
set_option maxRecDepth 100000
namespace Go.Proofs.YtmlphohdcejniaaGreatDoor
open Go.RowKit
attribute [local go_sem ↓] Go.wp_at_zero Go.wp_at_succ
theorem PR.pre {α:Type}{lo b:Nat}{W w w':World}{ret:α→Value}{r:Except (Int×Int) (α×aD)}{e:Ending} (hg:W.grownBy w (some b)) (h:PR lo b w ret r e w'):PR lo b W ret r e w':=by
 unfold PR at *
 cases r with
 |error x=>exact ⟨h.1,hg.trans h.2⟩
 |ok x=>exact ⟨h.1,h.2.1,hg.trans h.2.2⟩
theorem PR.shape {α:Type}{lo b:Nat}{W w:World}{ret:α→Value}{r:Except (Int×Int) (α×aD)}{e:Ending} (h:PR lo b W ret r e w):(∃x:Int×Int,e=pI x.1 x.2)∨∃a,e=.returned (ret a):=by
 unfold PR at h
 cases r with
 |error x=>exact .inl ⟨x,h.1⟩
 |ok x=>exact .inr ⟨x.1,h.1⟩
theorem Rd.grown {W:World}{lo b:Nat}{s:aD} (h:Rd lo W b s):s.en.kind=5:=by
 obtain ⟨_,_,_,_,_,_,h⟩:=h
 exact h
theorem bS {s:aD} (he:s.en.kind=5) (h:s.here.kind≠5):0<s.ts.length:=by
 unfold aD.here at h
 cases Cx:s.ts with
 |nil=>rw[Cx] at h;exact absurd he h
 |cons t r=>simp
def cx (k:Int) (x:ByteArray) (s:aD):Except (Int×Int) (Bool×aD):=if cZ s.here k x=true then (match bE s with|.ok (_,s')=>.ok (true,s')|.error e=>.error e) else .ok (false,s)
theorem z' {W:World}{lo b:Nat}{s:aD} (h:Rd lo W b s) {k:Int} (hk:k≠5) (x:ByteArray):Calls Tryz.prog 89 #[.pointer (some ⟨b,0,none⟩),.int .i64 k,.string x] W (PR lo b W Value.bool (cx k x s)):=by
 have hc:=aj (fu h)
 have hI:Hid (∀w,Calls Tryz.prog 118 #[s.here.val,.int .i64 k,.string x] w fun e w'=>e=.returned (.bool (cZ s.here k x))∧Below w.heap.size w w'):=fun w=>rP w s.here k x
 have hN:Hid (∀w,cZ s.here k x=true→Below W.heap.size W w→Calls Tryz.prog 95 #[.pointer (some ⟨b,0,none⟩)] w (PR lo b w Cw (bE s))):=fun w hp hb=>dr (h.up hb) (bS h.grown (by
  unfold cZ at hp
  rw[Bool.and_eq_true] at hp
  rw[eq_of_beq hp.1]
  exact hk))
 have Hd:=aj h
 have Hv:Hid (∃p q r,s.here.val=.agg #[p,q,r]):=⟨_,_,_,rfl⟩
 obtain ⟨p,q,r,hv⟩:=aa Hv
 rw[hv] at hc hI
 clear h hk Hv hv
 go_enter Tryz.func89,Tryz.ntmps89
 go_wp2_with fail
 refine (aa hc).mono ?_
 rintro e w1 ⟨rfl,bF⟩
 have kv:=aj bF
 clear bF hc
 go_wp2_with fail
 refine (aa hI w1).mono ?_
 rintro e w2 ⟨rfl,bJ⟩
 have AW:Hid (Below W.heap.size W w2):=(aa kv).trans (bJ.mono (aa kv).size)
 clear bJ hI kv
 cases hp:cZ s.here k x with
 |true =>
  have HN:=aj (aa hN w2 hp (aa AW))
  have HE:Hid (∀e w,PR lo b w2 Cw (bE s) e w→(∃y:Int×Int,bE s=.error y∧e=pI y.1 y.2∧PR lo b W Value.bool (cx k x s) e w)∨(e=.returned (.tuple #[])∧PR lo b W Value.bool (cx k x s) (.returned (.bool true)) w)):=by
   intro e w hw
   unfold cx
   rw[if_pos hp]
   cases hn:bE s with
   |error y =>
    rw[hn] at hw
    exact .inl ⟨y,rfl,hw.1,hw.1,(aA b (aa AW)).trans hw.2⟩
   |ok y =>
    rw[hn] at hw
    exact .inr ⟨hw.1,rfl,hw.2.1,(aA b (aa AW)).trans hw.2.2⟩
  clear hp hN
  go_wp2_with fail
  refine (aa HN).mono ?_
  intro e w3 hw
  rcases aa HE e w3 hw with ⟨y,_,rfl,h3⟩|⟨rfl,h3⟩
  ·exact ⟨rfl,h3⟩
  ·have H3:=aj h3
   clear h3 hw HE HN
   go_wp2
   go_ret
   exact aa H3
 |false =>
  have HE:Hid (PR lo b W Value.bool (cx k x s) (.returned (.bool false)) w2):=by
   unfold cx
   rw[if_neg (by rw[hp];simp)]
   exact ⟨rfl,(aa Hd).up (aa AW),aA b (aa AW)⟩
  clear hp hN
  go_wp2
  go_ret
  exact aa HE
theorem gj {W:World}{lo b:Nat}{s:aD} (h:Rd lo W b s) (x:ByteArray):Calls Tryz.prog 91 #[.pointer (some ⟨b,0,none⟩),.string x] W (PR lo b W Value.bool (cx 4 x s)):=by
 have hc:=aj (z' h (k:=4) (by decide) x)
 clear h
 go_enter Tryz.func91,Tryz.ntmps91
 go_wp2_with fail
 refine (aa hc).mono ?_
 intro e w hw
 rcases hw.shape with ⟨y,rfl⟩|⟨f,rfl⟩
 ·exact ⟨rfl,hw⟩
 ·have HW:=aj hw
  clear hw hc
  go_wp2
  go_ret
  exact aa HW
theorem mC {W:World}{lo b:Nat}{s:aD} (h:Rd lo W b s) (x:ByteArray):Calls Tryz.prog 74 #[.pointer (some ⟨b,0,none⟩),.string x] W (PR lo b W Value.bool (cx 1 x s)):=by
 have hc:=aj (z' h (k:=1) (by decide) x)
 clear h
 go_enter Tryz.func74,Tryz.ntmps74
 go_wp2_with fail
 refine (aa hc).mono ?_
 intro e w hw
 rcases hw.shape with ⟨y,rfl⟩|⟨f,rfl⟩
 ·exact ⟨rfl,hw⟩
 ·have HW:=aj hw
  clear hw hc
  go_wp2
  go_ret
  exact aa HW
def aV (x:ByteArray) (s:aD):Except (Int×Int) (Unit×aD):=match cx 4 x s with
 |.error e=>.error e
 |.ok (true,s')=>.ok ((),s')
 |.ok (false,s')=>.error (cH s')
theorem de {W:World}{lo b:Nat}{s:aD} (h:Rd lo W b s) (x:ByteArray):Calls Tryz.prog 76 #[.pointer (some ⟨b,0,none⟩),.string x] W (PR lo b W Cw (aV x s)):=by
 have hc:=aj (gj h x)
 clear h
 go_enter Tryz.func76,Tryz.ntmps76
 go_wp2_with fail
 refine (aa hc).mono ?_
 intro e w hw
 cases hr:cx 4 x s with
 |error y =>
  rw[hr] at hw
  obtain ⟨rfl,h2⟩:=hw
  have hp:aV x s=.error y:=by unfold aV;rw[hr]
  exact ⟨rfl,by rw[hp];exact ⟨rfl,h2⟩⟩
 |ok y =>
  obtain ⟨f,s'⟩:=y
  rw[hr] at hw
  obtain ⟨rfl,h2,h3⟩:=hw
  cases f with
  |true =>
   have hp:aV x s=.ok ((),s'):=by unfold aV;rw[hr]
   have HE:Hid (PR lo b W Cw (aV x s) (.returned (.tuple #[])) w):=by rw[hp];exact ⟨rfl,h2,h3⟩
   clear h2 h3 hc hr hp
   go_wp2
   go_end0
   exact aa HE
  |false =>
   have hp:aV x s=.error (cH s'):=by unfold aV;rw[hr]
   have HW:=aj (iM h2)
   have HE:Hid (∀w2,Below w.heap.size w w2→PR lo b W Cw (aV x s) (pI (cH s').1 (cH s').2) w2):=fun w2 bJ=>by rw[hp];exact ⟨rfl,h3.trans (aA b bJ)⟩
   clear h2 h3 hc hr hp
   go_wp2_with fail
   refine (aa HW).mono ?_
   rintro e w2 ⟨rfl,bJ⟩
   exact ⟨rfl,aa HE w2 bJ⟩
def dE (k:Int) (s:aD):Except (Int×Int) (ByteArray×aD):=if s.here.kind=k then .ok (s.here.text,s) else .error (cH s)
theorem ib {W:World}{lo b:Nat}{s:aD} (h:Rd lo W b s) (er:Int):Calls Tryz.prog 94 #[.pointer (some ⟨b,0,none⟩),.int .i64 er] W (PR lo b W Cw (if er=0 then .ok ((),s) else .error (er,s.here.spot))):=by
 have hc:=aj (mq h er)
 have Hd:=aj h
 clear h
 by_cases h0:er=0
 ·subst h0
  rw[if_pos rfl]
  go_enter Tryz.func94,Tryz.ntmps94
  go_wp2
  go_end0
  exact ⟨rfl,aa Hd,zI _ _⟩
 ·rw[if_neg h0]
  have e0:(er != 0)=true:=by simp[h0]
  go_enter Tryz.func94,Tryz.ntmps94
  go_wp2_with fail
  refine (aa hc).mono ?_
  rintro e w2 ⟨rfl,bJ⟩
  exact ⟨rfl,rfl,aA b bJ⟩
theorem Vq {a b:Nat} (h:¬a=b):((a:Int)==(b:Int))=false:=by simp;omega
theorem Vp (a:Nat):((a:Int)==(a:Int))=true:=by simp
def mW (s:ByteArray):Prop:=(1≤s.size∧s.size≤255)∧(∀x,(aH s)[0]?=some x→isLet x)∧∀(j x:Nat),(aH s)[j]?=some x→isLet x∨bZ x
theorem JW (W:World) (s:ByteArray) :
  Calls Tryz.prog 181 #[.string s] W fun e w=>∃b:Bool,e=.returned (.bool b)∧w=W∧(b=true↔mW s):=by
 by_cases h0:s.size=0
 ·obtain rfl:s=⟨#[]⟩:=by cases s with|mk d=>cases d with|mk l=>cases l with|nil=>rfl|cons a r=>simp[ByteArray.size] at h0
  go_enter Tryz.func181,Tryz.ntmps181
  go_wp2
  go_ret
  exact ⟨_,rfl,rfl,by simp[mW,ByteArray.size]⟩
 ·have e0:=qw h0
  by_cases h1:s.size≤255
  ·obtain ⟨x,hx,fO,gx⟩:=iV s 0 (by omega)
   have e1:=ltF (a:=s.size) (k:=255) (by omega)
   have Hx:=aj hx
   clear hx
   go_enter Tryz.func181,Tryz.ntmps181
   go_wp2_with fail
   refine (jv W x fO).mono ?_
   rintro e w' ⟨rfl,he⟩
   obtain rfl:W=w':=he.symm
   by_cases h2:isLet x
   ·rw[qL.2 h2]
    go_wp2_with fail
    refine (Bf W s (by omega)).mono ?_
    rintro e w' ⟨n,rfl,he,hn,jq,gw⟩
    obtain rfl:W=w':=he.symm
    have vd:=aj jq
    have yB:=aj gw
    clear jq gw gx
    by_cases hnn:n=s.size
    ·subst hnn
     have e2:=Vp s.size
     go_wp2
     go_ret
     refine ⟨_,rfl,rfl,fun _=>⟨⟨by omega,h1⟩,fun y hy=>?_,fun j y hy=>?_⟩,fun _=>rfl⟩
     ·rw[aa Hx] at hy;obtain rfl:=zC hy;exact h2
     ·exact aa vd j y (by have:=(zB hy).1;rwa [bk] at this) hy
    ·have e2:=Vq hnn
     go_wp2
     go_ret
     refine ⟨_,rfl,rfl,fun h=>by simp at h,fun h=>?_⟩
     obtain ⟨y,hy,_,_⟩:=iV s n (by omega)
     exact absurd (h.2.2 n y hy) (aa yB y hy)
   ·have h3:¬cls x=2:=mt qL.1 h2
    have e2:((cls x:Int)==2)=false:=by simp;omega
    have H2:=aj h2
    clear h2 gx
    generalize cls x=kx at *
    go_wp2
    go_ret
    refine ⟨_,rfl,rfl,fun h=>by simp at h,fun h=>absurd (h.2.1 x (aa Hx)) (aa H2)⟩
  ·have e1:=ltT (a:=s.size) (k:=255) (by omega)
   go_enter Tryz.func181,Tryz.ntmps181
   go_wp2
   go_ret
   exact ⟨_,rfl,rfl,fun h=>by simp at h,fun h=>absurd h.1.2 h1⟩
theorem FI (s:ByteArray):((1≤s.size∧s.size≤255)∧(∀x ∈ (aH s).take 1,isLet x)∧∀x ∈ aH s,isLet x∨bZ x)↔mW s:=by
 unfold mW
 refine and_congr_right fun _=>and_congr ⟨fun h x hx=>h x ?_,fun h x hx=>h x ?_⟩ ⟨fun h j x hx=>h x (List.mem_of_getElem? hx),fun h x hx=>?_⟩
 ·cases hl:aH s with
  |nil=>rw[hl] at hx;cases hx
  |cons a r=>rw[hl] at hx;rw[←zC hx];exact List.mem_singleton.2 rfl
 ·cases hl:aH s with
  |nil=>rw[hl] at hx;cases hx
  |cons a r=>rw[hl] at hx;rw[List.mem_singleton.1 hx];rfl
 ·obtain ⟨j,hj⟩:=List.getElem?_of_mem hx
  exact h j x hj
instance (s : ByteArray) : Decidable (mW s) := decidable_of_iff _ (FI s)
def mL (s:ByteArray):Bool:=decide (mW s)
theorem JX {s:ByteArray}{b:Bool} (h:b=true↔mW s):b=mL s:=by
 unfold mL
 by_cases hp:mW s
 ·simp[hp,h.2 hp]
 ·simp[hp];cases b<;>simp_all
theorem FH (W:World) (s:ByteArray):Calls Tryz.prog 181 #[.string s] W fun e w=>e=.returned (.bool (mL s))∧w=W :=
 (JW W s).mono fun e w ⟨b,h1,h2,h3⟩=>⟨by rw[h1,JX h3],h2⟩
theorem PR.split {α:Type}{lo b:Nat}{W w:World}{ret:α→Value}{r:Except (Int×Int) (α×aD)}{e:Ending} (h:PR lo b W ret r e w):(∃x:Int×Int,r=.error x∧e=pI x.1 x.2∧W.grownBy w (some b))∨∃a s',r=.ok (a,s')∧e=.returned (ret a)∧Rd lo w b s'∧W.grownBy w (some b):=by
 unfold PR at h
 cases r with
 |error x=>exact .inl ⟨x,rfl,h⟩
 |ok x=>exact .inr ⟨x.1,x.2,rfl,h⟩
theorem nJ {W:World}{lo b:Nat}{s:aD} (h:Rd lo W b s) (k:Int):Calls Tryz.prog 93 #[.pointer (some ⟨b,0,none⟩),.int .i64 k] W (PR lo b W Value.string (dE k s)):=by
 have hc:=aj (fu h)
 have Hd:=aj h
 have hW:Hid (∀w,Below W.heap.size W w→Calls Tryz.prog 75 #[.pointer (some ⟨b,0,none⟩)] w fun e w'=>e=pI (cH s).1 (cH s).2∧Below w.heap.size w w'):=fun w hb=>iM (h.up hb)
 obtain ⟨t,ht⟩:∃t,s.here=t:=⟨_,rfl⟩
 have Ht:=aj ht
 rw[ht] at hc
 obtain ⟨kd,sp,tx⟩:=t
 unfold Tk.val at hc
 simp only at hc
 clear ht h
 by_cases hk:kd=k
 ·subst hk
  have HE:Hid (∀w,Below W.heap.size W w→PR lo b W Value.string (dE kd s) (.returned (.string tx)) w):=fun w hb=>by
   unfold dE
   rw[aa Ht,if_pos rfl]
   exact ⟨rfl,(aa Hd).up hb,aA b hb⟩
  go_enter Tryz.func93,Tryz.ntmps93
  go_wp2_with fail
  refine (aa hc).mono ?_
  rintro e w1 ⟨rfl,bF⟩
  have kv:=aj (bF.alloc bF.size (.cells #[.int .i64 kd,.int .i64 sp,.string tx] 44))
  clear bF hc
  go_wp2
  go_ret
  exact aa HE _ (aa kv)
 ·have eo:(kd != k)=true:=by simp[hk]
  have HE:Hid (∀w,Below W.heap.size W w→PR lo b W Value.string (dE k s) (pI (cH s).1 (cH s).2) w):=fun w hb=>by
   unfold dE
   rw[if_neg (by rw[aa Ht];exact hk)]
   exact ⟨rfl,aA b hb⟩
  go_enter Tryz.func93,Tryz.ntmps93
  go_wp2_with fail
  refine (aa hc).mono ?_
  rintro e w1 ⟨rfl,bF⟩
  have kv:=aj (bF.alloc bF.size (.cells #[.int .i64 kd,.int .i64 sp,.string tx] 44))
  clear bF hc
  go_wp2_with fail
  refine (aa hW _ (aa kv)).mono ?_
  rintro e w2 ⟨rfl,bJ⟩
  exact ⟨rfl,aa HE w2 ((aa kv).trans (bJ.mono (aa kv).size))⟩
noncomputable def ck (x:ByteArray):Int:=if 255<x.size then 2 else if mL x=true then 0 else 50
theorem K0 (W:World) (x:ByteArray):Calls Tryz.prog 171 #[.string x] W fun e w=>e=.returned (.bool (mL x))∧w=W:=by
 go_enter Tryz.func171,Tryz.ntmps171
 go_wp2_with fail
 refine (FH W x).mono ?_
 rintro e w1 ⟨rfl,hw⟩
 obtain rfl:W=w1:=hw.symm
 clear hw
 go_wp2
 go_ret
 exact ⟨rfl,rfl⟩
theorem oU (W:World) (x:ByteArray) (hx:x.size≤140737488355327):Calls Tryz.prog 150 #[.string x] W fun e w=>e=.returned (.int .i64 (ck x))∧w=W:=by
 unfold ck
 by_cases h1:255<x.size
 ·rw[if_pos h1]
  have hd:decide ((255:Int)<(x.size:Int))=true:=by simp;omega
  clear h1
  go_enter Tryz.func150,Tryz.ntmps150
  go_wp2
  go_ret
  exact ⟨rfl,rfl⟩
 ·rw[if_neg h1]
  have hd:decide ((255:Int)<(x.size:Int))=false:=by simp;omega
  have hw:=aj (K0 W x)
  clear h1
  cases hi:mL x with
  |true =>
   rw[hi] at hw
   go_enter Tryz.func150,Tryz.ntmps150
   go_wp2_with fail
   refine (aa hw).mono ?_
   rintro e w1 ⟨rfl,oI⟩
   obtain rfl:W=w1:=oI.symm
   clear oI hw hi
   go_wp2
   go_ret
   exact ⟨rfl,rfl⟩
  |false =>
   rw[hi] at hw
   go_enter Tryz.func150,Tryz.ntmps150
   go_wp2_with fail
   refine (aa hw).mono ?_
   rintro e w1 ⟨rfl,oI⟩
   obtain rfl:W=w1:=oI.symm
   clear oI hw hi
   go_wp2
   go_ret
   exact ⟨rfl,rfl⟩
noncomputable def cy (s:aD):Except (Int×Int) (ByteArray×aD):=if s.here.kind=1 then (if ck s.here.text=0 then (match bE s with|.ok (_,s')=>.ok (s.here.text,s')|.error e=>.error e) else .error (ck s.here.text,s.here.spot)) else .error (cH s)
def Sm (s:aD):Prop:=∀t ∈ s.ts,t.text.size≤140737488355327
theorem Sm.here {s:aD} (h:Sm s) (he:s.here.kind≠5) (hk:s.en.kind=5):s.here.text.size≤140737488355327:=by
 have hp:=bS hk he
 unfold aD.here at *
 cases Cx:s.ts with
 |nil=>rw[Cx] at hp;simp at hp
 |cons t r=>exact h t (by rw[Cx];simp)
theorem kG {W:World}{lo b:Nat}{s:aD} (h:Rd lo W b s) (hs:Sm s):Calls Tryz.prog 122 #[.pointer (some ⟨b,0,none⟩)] W (PR lo b W Value.string (cy s)):=by
 have hc:=aj (nJ h 1)
 go_enter Tryz.func122,Tryz.ntmps122
 go_wp2_with fail
 refine (aa hc).mono ?_
 intro e w1 hw
 rcases hw.split with ⟨x,hr,rfl,hg⟩|⟨x,s1,hr,rfl,h1,hg⟩
 ·have hk:¬s.here.kind=1:=fun e=>by unfold dE at hr;rw[if_pos e] at hr;cases hr
  unfold dE at hr
  rw[if_neg hk] at hr
  obtain rfl:cH s=x:=Except.error.inj hr
  refine ⟨rfl,?_⟩
  unfold cy
  rw[if_neg hk]
  exact ⟨rfl,hg⟩
 ·have hk:s.here.kind=1:=by
   apply Classical.byContradiction
   intro e
   unfold dE at hr
   rw[if_neg e] at hr
   cases hr
  unfold dE at hr
  rw[if_pos hk] at hr
  simp only[Except.ok.injEq,Prod.mk.injEq] at hr
  obtain ⟨rfl,rfl⟩:=hr
  have bU:=hs.here (by rw[hk];decide) h.grown
  have hp:=bS h.grown (by rw[hk];decide)
  obtain ⟨x,hx⟩:∃x,s.here.text=x:=⟨_,rfl⟩
  rw[hx] at bU ⊢
  have H1:=aj h1
  have Hg:=aj hg
  have Hx:=aj hx
  have Hk:=aj hk
  clear hw h1 hg hk hc h hs hx
  go_wp2_with fail
  refine (oU w1 x bU).mono ?_
  rintro e w2 ⟨rfl,ez⟩
  obtain rfl:w1=w2:=ez.symm
  clear ez
  go_wp2_with fail
  refine (ib (aa H1) (ck x)).mono ?_
  intro e w3 l8
  by_cases h0:ck x=0
  ·rw[if_pos h0] at l8
   obtain ⟨rfl,h3,fB⟩:=l8
   have H3:=aj h3
   have pU:=aj ((aa Hg).trans fB)
   have H0:=aj h0
   clear h3 fB h0
   go_wp2_with fail
   refine (dr (aa H3) hp).mono ?_
   intro e w4 lG
   rcases lG.split with ⟨y,hr,rfl,rY⟩|⟨y,s2,hr,rfl,h4,rY⟩
   ·refine ⟨rfl,?_⟩
    unfold cy
    rw[if_pos (aa Hk),aa Hx,if_pos (aa H0),hr]
    exact ⟨rfl,(aa pU).trans rY⟩
   ·have H4:=aj h4
    have Tb:=aj ((aa pU).trans rY)
    have Hr:=aj hr
    clear lG h4 rY hr
    go_wp2_with fail
    refine (AN w4 x (by omega)).mono ?_
    rintro e w5 ⟨rfl,kq⟩
    have HE:Hid (PR lo b W Value.string (cy s) (.returned (.string x)) w5):=by
     unfold cy
     rw[if_pos (aa Hk),aa Hx,if_pos (aa H0),aa Hr]
     exact ⟨rfl,(aa H4).up kq,(aa Tb).trans (aA b kq)⟩
    clear kq
    go_wp2
    go_ret
    exact aa HE
  ·rw[if_neg h0] at l8
   obtain ⟨rfl,fB⟩:=l8
   refine ⟨rfl,?_⟩
   unfold cy
   rw[if_pos (aa Hk),aa Hx,if_neg h0]
   exact ⟨rfl,(aa Hg).trans fB⟩
end Go.Proofs.YtmlphohdcejniaaGreatDoor
namespace Go.Proofs.YtmlphohdcejniaaGreatDoor
open Go.RowKit Go.Lib
attribute [local go_sem ↓] Go.wp_at_zero Go.wp_at_succ
def UE (W:World) (s:ByteArray) (e:Ending) (w:World):Prop:=Below W.heap.size W w∧∃(t:ByteArray) (c:Int),e=.returned (.tuple #[.string t,.int .i64 c])∧gh s=(t,c)
theorem Lb {W w:World}{s t:ByteArray}{c:Int} (hb:Below W.heap.size W w) (h:gh s=(t,c)):UE W s (.returned (.tuple #[.string t,.int .i64 c])) w:=⟨hb,t,c,rfl,h⟩
theorem zR {s:ByteArray} (h:65536<s.size):gh s=(⟨#[]⟩,2):=by unfold gh;rw[if_pos h];rfl
theorem CN {s:ByteArray} (h:¬65536<s.size) (h2:0≤dq s 0):gh s=(⟨#[]⟩,44):=by unfold gh;rw[if_neg h,if_pos h2];rfl
theorem pZ {s:ByteArray} (h:¬65536<s.size) (h2:¬0≤dq s 0) (h3:lD s=none∨∃l e,lD s=some (l,e)∧¬e=s.size):gh s=(⟨#[]⟩,42):=by
 unfold gh
 rw[if_neg h,if_neg h2]
 rcases h3 with h3|⟨l,e,h3,h4⟩
 ·rw[h3];rfl
 ·rw[h3]
  show (if e=s.size then (ti l,(0:Int)) else (.empty,42))=_
  rw[if_neg h4];rfl
theorem GL {s:ByteArray}{l:List Nat} (h:¬65536<s.size) (h2:¬0≤dq s 0) (h3:lD s=some (l,s.size)):gh s=(ti l,0):=by
 unfold gh
 rw[if_neg h,if_neg h2,h3]
 show (if s.size=s.size then (ti l,(0:Int)) else (.empty,42))=_
 rw[if_pos rfl]
theorem PY {s:ByteArray}{l:List Nat}{e:Nat} (h:lD s=some (l,e)):1<e∧e≤s.size∧KI l:=by
 unfold lD at h
 split at h
 ·cases h
 ·split at h
  ·have:=zQ _ 1 l e (zD _) h
   exact ⟨this.1,this.2.1,this.2.2.1⟩
  ·cases h
theorem A6 {W:World} (hF:nn W) (hE:gM W) (s:ByteArray):Calls Tryz.prog 92 #[.string s] W (UE W s):=by
 have dZ:=zE W.heap.size W
 by_cases h0:65536<s.size
 ·have Hr:=aj (zR h0)
  have e0:=ltT (a:=s.size) (k:=65536) (by omega)
  clear h0
  go_enter Tryz.func92,Tryz.ntmps92
  go_wp2
  go_ret2
  exact Lb dZ (aa Hr)
 ·have e0:=ltF (a:=s.size) (k:=65536) (by omega)
  have hs:s.size≤65536:=by omega
  have H0:=aj h0
  clear h0
  go_enter Tryz.func92,Tryz.ntmps92
  go_wp2_with fail
  refine (CM hF s (by omega)).mono ?_
  rintro e w1 ⟨rfl,bF⟩
  have kv:=aj bF
  clear bF dZ
  by_cases h1:0≤dq s 0
  ·have Hr:=aj (CN (aa H0) h1)
   obtain ⟨u,hu⟩:∃u,u=dq s 0:=⟨_,rfl⟩
   rw[←hu] at h1 ⊢
   have e1:decide (0≤u)=true:=by simp;omega
   clear hu h1
   go_wp2
   go_ret2
   exact Lb (aa kv) (aa Hr)
  ·have H1:Hid (dq s 0<0):=by show _<_;omega
   obtain ⟨u,hu⟩:∃u,u=dq s 0:=⟨_,rfl⟩
   rw[←hu] at h1 ⊢
   have e1:decide (0≤u)=false:=by simp;omega
   clear hu h1
   go_wp2_with fail
   refine (sD (hE.up (aa kv)) s hs).mono ?_
   rintro e w2 ⟨bJ,⟨ho,rfl⟩|⟨l,n,v,ho,rfl,hv⟩⟩
   ·have Hr:=aj (pZ (aa H0) (Int.not_le.2 (aa H1)) (.inl ho))
    have iL:Hid (Below W.heap.size W w2):=(aa kv).trans (bJ.mono (aa kv).size)
    clear ho bJ
    go_wp2
    go_ret2
    exact Lb (aa iL) (aa Hr)
   ·obtain ⟨n1,n2,FR⟩:=PY ho
    have iL:Hid (Below W.heap.size W w2):=(aa kv).trans (bJ.mono (aa kv).size)
    have n0:((n:Int)==0)=false:=by simp;omega
    obtain ⟨va,vn,vc,rfl⟩:=hv.shape
    by_cases h2:n=s.size
    ·have Hr:=aj (GL (aa H0) (Int.not_le.2 (aa H1)) (by rw[ho,h2]))
     have FQ:=nS hv.has FR
     have e2:decide (n<s.size)=false:=by simp;omega
     clear ho bJ hv h2 FR
     go_wp2
     go_ret2
     exact Lb (aa iL) (aa Hr)
    ·have Hr:=aj (pZ (aa H0) (Int.not_le.2 (aa H1)) (.inr ⟨l,n,ho,h2⟩))
     have e2:decide (n<s.size)=true:=by simp;omega
     clear ho bJ hv h2 FR
     go_wp2
     go_ret2
     exact Lb (aa iL) (aa Hr)
end Go.Proofs.YtmlphohdcejniaaGreatDoor
namespace Go.Proofs.YtmlphohdcejniaaGreatDoor
open Go.RowKit
attribute [local go_sem ↓] Go.wp_at_zero Go.wp_at_succ
structure Env (V W:World) (b:Nat):Prop where
 f:nn V
 e:gM V
 m:gY V
 below:Below V.heap.size V W
 lo:V.heap.size≤b
theorem Env.step {V W w:World}{b:Nat} (h:Env V W b) (hg:W.grownBy w (some b)):Env V w b :=
 ⟨h.f,h.e,h.m,h.below.grown hg h.below.size (fun k e=>by simp at e;have:=h.lo;omega),h.lo⟩
theorem Env.UW {V W:World}{b:Nat} (h:Env V W b):nn W:=h.f.up h.below
theorem Env.Q8 {V W:World}{b:Nat} (h:Env V W b):gM W:=h.e.up h.below
noncomputable def bO (ff:ByteArray→Int) (s:aD):Except (Int×Int) (ByteArray×aD) :=
 if s.here.kind=3 then (if (gh s.here.text).2=0 then (if ff (gh s.here.text).1=0 then (match bE s with|.ok (_,s')=>.ok ((gh s.here.text).1,s')|.error e=>.error e) else .error (ff (gh s.here.text).1,s.here.spot)) else .error ((gh s.here.text).2,s.here.spot)) else .error (cH s)
theorem La {s:ByteArray}{l:List Nat}{e:Nat} (h:lD s=some (l,e)):l.length<e:=by
 unfold lD at h
 split at h
 ·cases h
 ·split at h
  ·have:=zQ _ 1 l e (zD _) h
   have:=this.2.2.2
   omega
  ·cases h
theorem rA (s:ByteArray):(gh s).1.size≤140737488355327:=by
 by_cases h:65536<s.size
 ·rw[zR h];decide
 ·by_cases h2:0≤dq s 0
  ·rw[CN h h2];decide
  ·cases h3:lD s with
   |none=>rw[pZ h h2 (.inl h3)];decide
   |some p =>
    obtain ⟨l,e⟩:=p
    by_cases he:e=s.size
    ·subst he
     rw[GL h h2 h3]
     have h4:=La h3
     rw[jg]
     omega
    ·rw[pZ h h2 (.inr ⟨l,e,h3,he⟩)];decide
def fJ (x:ByteArray):Int:=if (x.toList==[112,114,111,116,111,51])=true then 0 else 50
theorem td (W:World) (x:ByteArray) (_:x.size≤140737488355327):Calls Tryz.prog 78 #[.string x] W fun e w=>e=.returned (.int .i64 (fJ x))∧w=W:=by
 unfold fJ
 cases h:(x.toList==[112,114,111,116,111,51]) with
 |true =>
  go_enter Tryz.func78,Tryz.ntmps78
  go_wp2
  go_ret
  exact ⟨rfl,rfl⟩
 |false =>
  go_enter Tryz.func78,Tryz.ntmps78
  go_wp2
  go_ret
  exact ⟨rfl,rfl⟩
def fh (x:ByteArray):Int:=if 255<x.size then 2 else if (x.toList==[])=true then 50 else 0
theorem tn (W:World) (x:ByteArray) (hx:x.size≤140737488355327):Calls Tryz.prog 121 #[.string x] W fun e w=>e=.returned (.int .i64 (fh x))∧w=W:=by
 unfold fh
 by_cases h1:255<x.size
 ·rw[if_pos h1]
  have hd:decide ((255:Int)<(x.size:Int))=true:=by simp;omega
  clear h1
  go_enter Tryz.func121,Tryz.ntmps121
  go_wp2
  go_ret
  exact ⟨rfl,rfl⟩
 ·rw[if_neg h1]
  have hd:decide ((255:Int)<(x.size:Int))=false:=by simp;omega
  clear h1
  cases h:(x.toList==[]) with
  |true =>
   go_enter Tryz.func121,Tryz.ntmps121
   go_wp2
   go_ret
   exact ⟨rfl,rfl⟩
  |false =>
   go_enter Tryz.func121,Tryz.ntmps121
   go_wp2
   go_ret
   exact ⟨rfl,rfl⟩
theorem pD {V W:World}{lo b:Nat}{s:aD} (hv:Env V W b) (h:Rd lo W b s):Calls Tryz.prog 77 #[.pointer (some ⟨b,0,none⟩),.func (.func 78) #[] #[]] W (PR lo b W Value.string (bO fJ s)):=by
 have hc:=aj (nJ h 3)
 have Hv:=aj hv
 go_enter Tryz.func77,Tryz.ntmps77
 go_wp2_with fail
 refine (aa hc).mono ?_
 intro e w1 hw
 rcases hw.split with ⟨x,hr,rfl,hg⟩|⟨x,s1,hr,rfl,h1,hg⟩
 ·have hk:¬s.here.kind=3:=fun e=>by unfold dE at hr;rw[if_pos e] at hr;cases hr
  unfold dE at hr
  rw[if_neg hk] at hr
  obtain rfl:cH s=x:=Except.error.inj hr
  refine ⟨rfl,?_⟩
  unfold bO
  rw[if_neg hk]
  exact ⟨rfl,hg⟩
 ·have hk:s.here.kind=3:=by
   apply Classical.byContradiction
   intro e
   unfold dE at hr
   rw[if_neg e] at hr
   cases hr
  unfold dE at hr
  rw[if_pos hk] at hr
  simp only[Except.ok.injEq,Prod.mk.injEq] at hr
  obtain ⟨rfl,rfl⟩:=hr
  have hp:=bS h.grown (by rw[hk];decide)
  have nr:bO fJ s=(if (gh s.here.text).2=0 then (if fJ (gh s.here.text).1=0 then (match bE s with|.ok (_,s')=>.ok ((gh s.here.text).1,s')|.error e=>.error e) else .error (fJ (gh s.here.text).1,s.here.spot)) else .error ((gh s.here.text).2,s.here.spot)):=by unfold bO;rw[if_pos hk]
  have HEq:=aj nr
  have H1:=aj h1
  have Hg:=aj hg
  have b9:=A6 ((hv.step hg).UW) ((hv.step hg).Q8) s.here.text
  have H':=rA s.here.text
  have EC:=aj b9
  obtain ⟨x,hx⟩:∃x,s.here.text=x:=⟨_,rfl⟩
  rw[hx] at HEq EC H' ⊢
  clear hw h1 hg hk hc h hv hx nr b9
  go_wp2_with fail
  refine (aa EC).mono ?_
  rintro e w2 ⟨bJ,t,c,rfl,hu⟩
  rw[hu] at HEq H'
  simp only at HEq H'
  have H2:=aj ((aa H1).up bJ)
  have qS:=aj ((aa Hg).trans (aA b bJ))
  clear bJ hu EC H1 Hg
  go_wp2_with fail
  refine (ib (aa H2) c).mono ?_
  intro e w3 l8
  by_cases h0:c=0
  ·rw[if_pos h0] at l8 HEq
   obtain ⟨rfl,h3,fB⟩:=l8
   have H3:=aj h3
   have pU:=aj ((aa qS).trans fB)
   clear h3 fB H2 qS
   subst h0
   go_wp2_with fail
   refine (td w3 t H').mono ?_
   rintro e w4 ⟨rfl,lG⟩
   obtain rfl:w3=w4:=lG.symm
   clear lG
   go_wp2_with fail
   refine (ib (aa H3) (fJ t)).mono ?_
   intro e w5 EO
   by_cases h5:fJ t=0
   ·rw[if_pos h5] at EO HEq
    obtain ⟨rfl,h6,pR⟩:=EO
    have H6:=aj h6
    have Ta:=aj ((aa pU).trans pR)
    clear h6 pR H3 pU h5
    go_wp2_with fail
    refine (dr (aa H6) hp).mono ?_
    intro e w7 FK
    rcases FK.split with ⟨y,hr,rfl,rX⟩|⟨y,s2,hr,rfl,h7,rX⟩
    ·refine ⟨rfl,?_⟩
     rw[aa HEq,hr]
     exact ⟨rfl,(aa Ta).trans rX⟩
    ·have HE:Hid (PR lo b W Value.string (bO fJ s) (.returned (.string t)) w7):=by
      show PR lo b W Value.string (bO fJ s) (.returned (.string t)) w7
      rw[aa HEq,hr]
      exact ⟨rfl,h7,(aa Ta).trans rX⟩
     clear FK h7 rX hr
     go_wp2
     go_ret
     exact aa HE
   ·rw[if_neg h5] at EO HEq
    obtain ⟨rfl,pR⟩:=EO
    refine ⟨rfl,?_⟩
    rw[aa HEq]
    exact ⟨rfl,(aa pU).trans pR⟩
  ·rw[if_neg h0] at l8 HEq
   obtain ⟨rfl,fB⟩:=l8
   refine ⟨rfl,?_⟩
   rw[aa HEq]
   exact ⟨rfl,(aa qS).trans fB⟩
theorem pE {V W:World}{lo b:Nat}{s:aD} (hv:Env V W b) (h:Rd lo W b s):Calls Tryz.prog 77 #[.pointer (some ⟨b,0,none⟩),.func (.func 121) #[] #[]] W (PR lo b W Value.string (bO fh s)):=by
 have hc:=aj (nJ h 3)
 have Hv:=aj hv
 go_enter Tryz.func77,Tryz.ntmps77
 go_wp2_with fail
 refine (aa hc).mono ?_
 intro e w1 hw
 rcases hw.split with ⟨x,hr,rfl,hg⟩|⟨x,s1,hr,rfl,h1,hg⟩
 ·have hk:¬s.here.kind=3:=fun e=>by unfold dE at hr;rw[if_pos e] at hr;cases hr
  unfold dE at hr
  rw[if_neg hk] at hr
  obtain rfl:cH s=x:=Except.error.inj hr
  refine ⟨rfl,?_⟩
  unfold bO
  rw[if_neg hk]
  exact ⟨rfl,hg⟩
 ·have hk:s.here.kind=3:=by
   apply Classical.byContradiction
   intro e
   unfold dE at hr
   rw[if_neg e] at hr
   cases hr
  unfold dE at hr
  rw[if_pos hk] at hr
  simp only[Except.ok.injEq,Prod.mk.injEq] at hr
  obtain ⟨rfl,rfl⟩:=hr
  have hp:=bS h.grown (by rw[hk];decide)
  have nr:bO fh s=(if (gh s.here.text).2=0 then (if fh (gh s.here.text).1=0 then (match bE s with|.ok (_,s')=>.ok ((gh s.here.text).1,s')|.error e=>.error e) else .error (fh (gh s.here.text).1,s.here.spot)) else .error ((gh s.here.text).2,s.here.spot)):=by unfold bO;rw[if_pos hk]
  have HEq:=aj nr
  have H1:=aj h1
  have Hg:=aj hg
  have b9:=A6 ((hv.step hg).UW) ((hv.step hg).Q8) s.here.text
  have H':=rA s.here.text
  have EC:=aj b9
  obtain ⟨x,hx⟩:∃x,s.here.text=x:=⟨_,rfl⟩
  rw[hx] at HEq EC H' ⊢
  clear hw h1 hg hk hc h hv hx nr b9
  go_wp2_with fail
  refine (aa EC).mono ?_
  rintro e w2 ⟨bJ,t,c,rfl,hu⟩
  rw[hu] at HEq H'
  simp only at HEq H'
  have H2:=aj ((aa H1).up bJ)
  have qS:=aj ((aa Hg).trans (aA b bJ))
  clear bJ hu EC H1 Hg
  go_wp2_with fail
  refine (ib (aa H2) c).mono ?_
  intro e w3 l8
  by_cases h0:c=0
  ·rw[if_pos h0] at l8 HEq
   obtain ⟨rfl,h3,fB⟩:=l8
   have H3:=aj h3
   have pU:=aj ((aa qS).trans fB)
   clear h3 fB H2 qS
   subst h0
   go_wp2_with fail
   refine (tn w3 t H').mono ?_
   rintro e w4 ⟨rfl,lG⟩
   obtain rfl:w3=w4:=lG.symm
   clear lG
   go_wp2_with fail
   refine (ib (aa H3) (fh t)).mono ?_
   intro e w5 EO
   by_cases h5:fh t=0
   ·rw[if_pos h5] at EO HEq
    obtain ⟨rfl,h6,pR⟩:=EO
    have H6:=aj h6
    have Ta:=aj ((aa pU).trans pR)
    clear h6 pR H3 pU h5
    go_wp2_with fail
    refine (dr (aa H6) hp).mono ?_
    intro e w7 FK
    rcases FK.split with ⟨y,hr,rfl,rX⟩|⟨y,s2,hr,rfl,h7,rX⟩
    ·refine ⟨rfl,?_⟩
     rw[aa HEq,hr]
     exact ⟨rfl,(aa Ta).trans rX⟩
    ·have HE:Hid (PR lo b W Value.string (bO fh s) (.returned (.string t)) w7):=by
      show PR lo b W Value.string (bO fh s) (.returned (.string t)) w7
      rw[aa HEq,hr]
      exact ⟨rfl,h7,(aa Ta).trans rX⟩
     clear FK h7 rX hr
     go_wp2
     go_ret
     exact aa HE
   ·rw[if_neg h5] at EO HEq
    obtain ⟨rfl,pR⟩:=EO
    refine ⟨rfl,?_⟩
    rw[aa HEq]
    exact ⟨rfl,(aa pU).trans pR⟩
  ·rw[if_neg h0] at l8 HEq
   obtain ⟨rfl,fB⟩:=l8
   refine ⟨rfl,?_⟩
   rw[aa HEq]
   exact ⟨rfl,(aa qS).trans fB⟩
theorem rL {V W:World}{lo b:Nat}{s:aD} (hv:Env V W b) (h:Rd lo W b s):Calls Tryz.prog 77 #[.pointer (some ⟨b,0,none⟩),.func (.func 150) #[] #[]] W (PR lo b W Value.string (bO ck s)):=by
 have hc:=aj (nJ h 3)
 have Hv:=aj hv
 go_enter Tryz.func77,Tryz.ntmps77
 go_wp2_with fail
 refine (aa hc).mono ?_
 intro e w1 hw
 rcases hw.split with ⟨x,hr,rfl,hg⟩|⟨x,s1,hr,rfl,h1,hg⟩
 ·have hk:¬s.here.kind=3:=fun e=>by unfold dE at hr;rw[if_pos e] at hr;cases hr
  unfold dE at hr
  rw[if_neg hk] at hr
  obtain rfl:cH s=x:=Except.error.inj hr
  refine ⟨rfl,?_⟩
  unfold bO
  rw[if_neg hk]
  exact ⟨rfl,hg⟩
 ·have hk:s.here.kind=3:=by
   apply Classical.byContradiction
   intro e
   unfold dE at hr
   rw[if_neg e] at hr
   cases hr
  unfold dE at hr
  rw[if_pos hk] at hr
  simp only[Except.ok.injEq,Prod.mk.injEq] at hr
  obtain ⟨rfl,rfl⟩:=hr
  have hp:=bS h.grown (by rw[hk];decide)
  have nr:bO ck s=(if (gh s.here.text).2=0 then (if ck (gh s.here.text).1=0 then (match bE s with|.ok (_,s')=>.ok ((gh s.here.text).1,s')|.error e=>.error e) else .error (ck (gh s.here.text).1,s.here.spot)) else .error ((gh s.here.text).2,s.here.spot)):=by unfold bO;rw[if_pos hk]
  have HEq:=aj nr
  have H1:=aj h1
  have Hg:=aj hg
  have b9:=A6 ((hv.step hg).UW) ((hv.step hg).Q8) s.here.text
  have H':=rA s.here.text
  have EC:=aj b9
  obtain ⟨x,hx⟩:∃x,s.here.text=x:=⟨_,rfl⟩
  rw[hx] at HEq EC H' ⊢
  clear hw h1 hg hk hc h hv hx nr b9
  go_wp2_with fail
  refine (aa EC).mono ?_
  rintro e w2 ⟨bJ,t,c,rfl,hu⟩
  rw[hu] at HEq H'
  simp only at HEq H'
  have H2:=aj ((aa H1).up bJ)
  have qS:=aj ((aa Hg).trans (aA b bJ))
  clear bJ hu EC H1 Hg
  go_wp2_with fail
  refine (ib (aa H2) c).mono ?_
  intro e w3 l8
  by_cases h0:c=0
  ·rw[if_pos h0] at l8 HEq
   obtain ⟨rfl,h3,fB⟩:=l8
   have H3:=aj h3
   have pU:=aj ((aa qS).trans fB)
   clear h3 fB H2 qS
   subst h0
   go_wp2_with fail
   refine (oU w3 t H').mono ?_
   rintro e w4 ⟨rfl,lG⟩
   obtain rfl:w3=w4:=lG.symm
   clear lG
   go_wp2_with fail
   refine (ib (aa H3) (ck t)).mono ?_
   intro e w5 EO
   by_cases h5:ck t=0
   ·rw[if_pos h5] at EO HEq
    obtain ⟨rfl,h6,pR⟩:=EO
    have H6:=aj h6
    have Ta:=aj ((aa pU).trans pR)
    clear h6 pR H3 pU h5
    go_wp2_with fail
    refine (dr (aa H6) hp).mono ?_
    intro e w7 FK
    rcases FK.split with ⟨y,hr,rfl,rX⟩|⟨y,s2,hr,rfl,h7,rX⟩
    ·refine ⟨rfl,?_⟩
     rw[aa HEq,hr]
     exact ⟨rfl,(aa Ta).trans rX⟩
    ·have HE:Hid (PR lo b W Value.string (bO ck s) (.returned (.string t)) w7):=by
      show PR lo b W Value.string (bO ck s) (.returned (.string t)) w7
      rw[aa HEq,hr]
      exact ⟨rfl,h7,(aa Ta).trans rX⟩
     clear FK h7 rX hr
     go_wp2
     go_ret
     exact aa HE
   ·rw[if_neg h5] at EO HEq
    obtain ⟨rfl,pR⟩:=EO
    refine ⟨rfl,?_⟩
    rw[aa HEq]
    exact ⟨rfl,(aa pU).trans pR⟩
  ·rw[if_neg h0] at l8 HEq
   obtain ⟨rfl,fB⟩:=l8
   refine ⟨rfl,?_⟩
   rw[aa HEq]
   exact ⟨rfl,(aa qS).trans fB⟩
def abo (W:World) (s:ByteArray) (e:Ending) (w:World):Prop:=Below W.heap.size W w∧∃n c:Int,e=.returned (.tuple #[.int .i64 n,.int .i64 c])∧((65536<s.size∧n=0∧c=2)∨(s.size≤65536∧KC (aH s) n c))
theorem Fv {W:World} (h:gM W) (s:ByteArray):Calls Tryz.prog 182 #[.string s] W (abo W s):=by
 by_cases h0:s.size≤65536
 ·have e0:=ltF (a:=s.size) (k:=65536) (by omega)
  go_enter Tryz.func182,Tryz.ntmps182
  go_wp2_with fail
  refine (zx h s h0).mono ?_
  rintro e w1 ⟨bF,n,c,rfl,hu⟩
  have Hb:=aj bF
  have Hu:=aj hu
  clear bF hu
  go_wp2
  go_ret2
  exact ⟨aa Hb,n,c,rfl,.inr ⟨h0,aa Hu⟩⟩
 ·have e0:=ltT (a:=s.size) (k:=65536) (by omega)
  have dZ:=zE W.heap.size W
  go_enter Tryz.func182,Tryz.ntmps182
  go_wp2
  go_ret2
  exact ⟨dZ,_,_,rfl,.inl ⟨by omega,rfl,rfl⟩⟩
end Go.Proofs.YtmlphohdcejniaaGreatDoor
