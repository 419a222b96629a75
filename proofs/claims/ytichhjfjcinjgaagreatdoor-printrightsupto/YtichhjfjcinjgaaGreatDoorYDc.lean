import Derived.Test.YtichhjfjcinjgaaGreatDoorM30
set_option maxHeartbeats 8000000
set_option maxRecDepth 100000
namespace Go.Proofs.YtichhjfjcinjgaaGreatDoor
open Go.RowKit
attribute [local go_sem ↓] Go.wp_at_zero Go.wp_at_succ
def BV:ByteArray:=⟨[111,112,116,105,111,110,32,103,114,111,117,112,32,111,112,116,105,111,110,97,108,32,114,101,112,101,97,116,101,100,32,114,101,113,117,105,114,101,100,32,111,110,101,111,102,32,109,101,115,115,97,103,101,32,101,110,117,109,32,114,101,115,101,114,118,101,100,32].toArray⟩
def tM:ByteArray:=⟨[109,101,115,115,97,103,101,32,101,110,117,109,32,111,110,101,111,102,32,114,101,115,101,114,118,101,100,32,111,112,116,105,111,110,97,108,32,114,101,112,101,97,116,101,100,32,111,112,116,105,111,110,32,101,120,116,101,110,100,32,101,120,116,101,110,115,105,111,110,115,32,103,114,111,117,112,32,114,101,113,117,105,114,101,100,32].toArray⟩
theorem in9 (s:ByteArray):A5 BV s BV.size 0 0=sw s [eV,iL,fW,fV,fU,lR,ik,qd,dv]:=by
 rw[xK,show pq BV BV.size 0 0=[eV,iL,fW,fV,fU,lR,ik,qd,dv] by kernel_rfl]
theorem Vn (s:ByteArray):A5 tM s tM.size 0 0=sw s [ik,qd,lR,dv,fW,fV,eV,si,j5,iL,fU]:=by
 rw[xK,show pq tM tM.size 0 0=[ik,qd,lR,dv,fW,fV,eV,si,j5,iL,fU] by kernel_rfl]
theorem Kz {s:ByteArray} (h:s.toList.isEmpty=true) (d:Fd):sw s (nD d)=false:=by
 have e:s.toList=[]:=by simpa using h
 unfold nD
 repeat' split
 all_goals simp only[sw,e,toList_data]
 all_goals rfl
theorem KA (s:ByteArray):sw s [iL]=(s.toList==[103,114,111,117,112]):=by
 unfold sw
 rw[List.any_cons,List.any_nil,Bool.or_false,show iL.toList=[103,114,111,117,112] by rw[toList_data];rfl]
theorem zr (W:World) (d:Fd) (hs:d.ty.size≤281474976710656):Calls Tryz.prog 151 #[.agg d.cs.toArray] W fun e w=>e=.returned (.bool (!sw (fh d.ty) (nD d)))∧Below W.heap.size W w:=by
 obtain ⟨aP,key,ty,nm,num,aE⟩:=d
 have hb:Below W.heap.size W (W.alloc (.cells #[.int .i64 aP,.string key,.string ty,.string nm,.int .i64 num,.int .i64 aE] 42)):=(zE _ _).alloc (zD _) _
 have k0:=aK W (.cells #[.int .i64 aP,.string key,.string ty,.string nm,.int .i64 num,.int .i64 aE] 42)
 obtain ⟨V,hV⟩:∃V,W.alloc (.cells #[.int .i64 aP,.string key,.string ty,.string nm,.int .i64 num,.int .i64 aE] 42)=V:=⟨_,rfl⟩
 rw[hV] at hb k0
 have c0:V.cell? ⟨W.heap.size,0,none⟩=some (.int .i64 aP):=cell_of_row _ _ _ _ _ _ k0
 have c2:V.cell? ⟨W.heap.size,2,none⟩=some (.string ty):=cell_of_row _ _ _ _ _ _ k0
 have c5:V.cell? ⟨W.heap.size,5,none⟩=some (.int .i64 aE):=cell_of_row _ _ _ _ _ _ k0
 have HF:=al (BA V ty hs)
 have HB:=al hb
 unfold Fd.cs
 simp only
 obtain ⟨R,hR⟩:∃R,sw (fh ty) (nD ⟨aP,key,ty,nm,num,aE⟩)=R:=⟨_,rfl⟩
 rw[hR]
 have HR:=al hR
 clear hR hs hb k0
 obtain ⟨fy,NM⟩:∃x,fh ty=x:=⟨_,rfl⟩
 rw[NM] at HF HR
 clear NM
 cases hq:fy.toList.isEmpty with
 |true =>
  have HX:Hid (R=false):=by show R=_;rw[←ab HR];exact Kz hq _
  clear HR
  go_enter Tryz.func151,Tryz.ntmps151
  go_wp2_with fail
  refine (ab HF).mono ?_
  rintro e w ⟨rfl,rfl⟩
  go_wp2
  go_ret
  exact ⟨by rw[ab HX];rfl,ab HB⟩
 |false =>
  by_cases h4:aP=4
  ·subst h4
   have HX:Hid (R=false):=by show R=_;rw[←ab HR];rfl
   clear HR
   go_enter Tryz.func151,Tryz.ntmps151
   go_wp2_with fail
   refine (ab HF).mono ?_
   rintro e w ⟨rfl,rfl⟩
   go_wp2
   go_ret
   exact ⟨by rw[ab HX];rfl,ab HB⟩
  ·have f4:(aP==4)=false:=beq_eq_false_iff_ne.2 h4
   by_cases h1:aP=1
   ·subst h1
    by_cases h0:aE=0
    ·subst h0
     have HX:Hid (R=A5 tM fy tM.size 0 0):=by show R=_;rw[Vn,←ab HR];rfl
     clear HR f4 h4
     go_enter Tryz.func151,Tryz.ntmps151
     go_wp2_with fail
     refine (ab HF).mono ?_
     rintro e w ⟨rfl,rfl⟩
     go_wp2_with fail
     refine (Dc _ tM fy (by decide)).mono ?_
     rintro e w2 ⟨rfl,rfl⟩
     rw[←ab HX]
     go_wp2
     go_ret
     exact ⟨rfl,ab HB⟩
    ·have f0:(aE != 0)=true:=by simpa using h0
     have HX:Hid (R=A5 BV fy BV.size 0 0):=by
      show R=_
      rw[in9,←ab HR]
      unfold nD
      rw[if_neg (show ¬(1:Int)=4 by decide),if_neg (show ¬(1:Int)≠1 by decide),if_pos h0]
     clear HR f4 h4
     go_enter Tryz.func151,Tryz.ntmps151
     go_wp2_with fail
     refine (ab HF).mono ?_
     rintro e w ⟨rfl,rfl⟩
     go_wp2_with fail
     refine (Dc _ BV fy (by decide)).mono ?_
     rintro e w2 ⟨rfl,rfl⟩
     rw[←ab HX]
     go_wp2
     go_ret
     exact ⟨rfl,ab HB⟩
   ·have f1:(aP != 1)=true:=by simpa using h1
    have hX:R=(fy.toList==[103,114,111,117,112]):=by
     rw[←KA,←ab HR]
     unfold nD
     rw[if_neg h4,if_pos h1]
    have hX2:(fy.toList==[103,114,111,117,112])=R:=hX.symm
    have hX3:(fy.toList != [103,114,111,117,112])=!R:=by rw[hX];rfl
    clear HR hX
    go_enter Tryz.func151,Tryz.ntmps151
    go_wp2_with fail
    refine (ab HF).mono ?_
    rintro e w ⟨rfl,rfl⟩
    go_wp2
    go_ret
    exact ⟨rfl,ab HB⟩
theorem BB (W:World) (d:Fd):Calls Tryz.prog 99 #[.agg d.cs.toArray] W fun e w=>e=.returned (.bool (cK d))∧Below W.heap.size W w:=by
 obtain ⟨aP,key,ty,nm,num,aE⟩:=d
 have hb:Below W.heap.size W (W.alloc (.cells #[.int .i64 aP,.string key,.string ty,.string nm,.int .i64 num,.int .i64 aE] 42)):=(zE _ _).alloc (zD _) _
 have k0:=aK W (.cells #[.int .i64 aP,.string key,.string ty,.string nm,.int .i64 num,.int .i64 aE] 42)
 obtain ⟨V,hV⟩:∃V,W.alloc (.cells #[.int .i64 aP,.string key,.string ty,.string nm,.int .i64 num,.int .i64 aE] 42)=V:=⟨_,rfl⟩
 rw[hV] at hb k0
 have c0:V.cell? ⟨W.heap.size,0,none⟩=some (.int .i64 aP):=cell_of_row _ _ _ _ _ _ k0
 have c1:V.cell? ⟨W.heap.size,1,none⟩=some (.string key):=cell_of_row _ _ _ _ _ _ k0
 have c2:V.cell? ⟨W.heap.size,2,none⟩=some (.string ty):=cell_of_row _ _ _ _ _ _ k0
 have c3:V.cell? ⟨W.heap.size,3,none⟩=some (.string nm):=cell_of_row _ _ _ _ _ _ k0
 have c4:V.cell? ⟨W.heap.size,4,none⟩=some (.int .i64 num):=cell_of_row _ _ _ _ _ _ k0
 have c5:V.cell? ⟨W.heap.size,5,none⟩=some (.int .i64 aE):=cell_of_row _ _ _ _ _ _ k0
 have HW:=al (fY V nm)
 have HT:=al (vZ V ty)
 have HK:=al (vZ V key)
 have HG:Hid (gS ty=true→Calls Tryz.prog 151 #[.agg (Fd.cs ⟨aP,key,ty,nm,num,aE⟩).toArray] V fun e w=>e=.returned (.bool (!sw (fh ty) (nD ⟨aP,key,ty,nm,num,aE⟩)))∧Below V.heap.size V w):=fun h=>zr V ⟨aP,key,ty,nm,num,aE⟩ (by have:=(show gS ty=true from h);unfold gS at this;simp only[Bool.and_eq_true,decide_eq_true_eq] at this;show ty.size≤_;omega)
 have HB:=al hb
 obtain ⟨R,hR⟩:∃R,sw (fh ty) (nD ⟨aP,key,ty,nm,num,aE⟩)=R:=⟨_,rfl⟩
 obtain ⟨Y,hY⟩:∃Y,cK ⟨aP,key,ty,nm,num,aE⟩=Y:=⟨_,rfl⟩
 rw[hY]
 have nu:Hid (Y=(bD nm&&(decide (0≤num)&&decide (num≤2147483647))&&gS ty&&mh ⟨aP,key,ty,nm,num,aE⟩&&!R)):=by show Y=_;rw[←hY,←hR];rfl
 rw[hR] at HG
 unfold Fd.cs at HG ⊢
 simp only at HG ⊢
 clear hR hY hb k0
 obtain ⟨q1,h1⟩:∃q,bD nm=q:=⟨_,rfl⟩
 obtain ⟨q3,h3⟩:∃q,gS ty=q:=⟨_,rfl⟩
 obtain ⟨q4,h4⟩:∃q,gS key=q:=⟨_,rfl⟩
 have uS:Hid (mh ⟨aP,key,ty,nm,num,aE⟩=(if aP=1 then key.toList.isEmpty else if aP=2∨aP=3 then key.toList.isEmpty&&(aE==0) else if aP=4 then q4&&(aE==0) else false)):=by show _=_;unfold mh;rw[←h4]
 rw[h1] at HW nu
 rw[h3] at HT nu HG
 rw[h4] at HK
 clear h1 h3 h4
 obtain ⟨cb,PJ⟩:∃x,mh ⟨aP,key,ty,nm,num,aE⟩=x:=⟨_,rfl⟩
 rw[PJ] at nu uS
 clear PJ
 cases q1 with
 |false =>
  have HX:Hid (Y=false):=by show Y=_;rw[ab nu];rfl
  clear nu uS
  go_enter Tryz.func99,Tryz.ntmps99
  go_wp2_with fail
  refine (ab HW).mono ?_
  rintro e w ⟨rfl,rfl⟩
  go_wp2
  go_ret
  exact ⟨by rw[ab HX];rfl,ab HB⟩
 |true =>
  by_cases n0:num<0
  ·have HX:Hid (Y=false):=by show Y=_;rw[ab nu,decide_eq_false (by omega)];rfl
   have e0:decide (num<0)=true:=decide_eq_true n0
   clear nu uS
   go_enter Tryz.func99,Tryz.ntmps99
   go_wp2_with fail
   refine (ab HW).mono ?_
   rintro e w ⟨rfl,rfl⟩
   go_wp2
   go_ret
   exact ⟨by rw[ab HX];rfl,ab HB⟩
  ·have e0:decide (num<0)=false:=decide_eq_false n0
   by_cases n1:2147483647<num
   ·have HX:Hid (Y=false):=by show Y=_;rw[ab nu,decide_eq_true (show 0≤num by omega),decide_eq_false (show ¬num≤2147483647 by omega)];rfl
    have e1:decide (2147483647<num)=true:=decide_eq_true n1
    clear nu uS
    go_enter Tryz.func99,Tryz.ntmps99
    go_wp2_with fail
    refine (ab HW).mono ?_
    rintro e w ⟨rfl,rfl⟩
    go_wp2
    go_ret
    exact ⟨by rw[ab HX];rfl,ab HB⟩
   ·have e1:decide (2147483647<num)=false:=decide_eq_false n1
    rw[decide_eq_true (show 0≤num by omega),decide_eq_true (show num≤2147483647 by omega)] at nu
    cases q3 with
    |false =>
     have HX:Hid (Y=false):=by show Y=_;rw[ab nu];rfl
     clear nu uS n0 n1
     go_enter Tryz.func99,Tryz.ntmps99
     go_wp2_with fail
     refine (ab HW).mono ?_
     rintro e w ⟨rfl,rfl⟩
     go_wp2_with fail
     refine (ab HT).mono ?_
     rintro e w ⟨rfl,rfl⟩
     go_wp2
     go_ret
     exact ⟨by rw[ab HX];rfl,ab HB⟩
    |true =>
     have nu:Hid (Y=(cb&&!R)):=by show Y=_;rw[ab nu];rfl
     have Fx:=al (ab HG (by trivial))
     clear HG
     clear n0 n1
     by_cases k4:aP=4
     ·subst k4
      have uS:Hid (cb=(q4&&(aE==0))):=ab uS
      cases q4 with
      |false =>
       have HX:Hid (Y=false):=by show Y=_;rw[ab nu,ab uS];rfl
       clear nu uS
       go_enter Tryz.func99,Tryz.ntmps99
       go_wp2_with fail
       refine (ab HW).mono ?_
       rintro e w ⟨rfl,rfl⟩
       go_wp2_with fail
       refine (ab HT).mono ?_
       rintro e w ⟨rfl,rfl⟩
       go_wp2_with fail
       refine (ab HK).mono ?_
       rintro e w ⟨rfl,rfl⟩
       go_wp2
       go_ret
       exact ⟨by rw[ab HX];rfl,ab HB⟩
      |true =>
       by_cases o0:aE=0
       ·subst o0
        have HX:Hid (Y=!R):=by show Y=_;rw[ab nu,ab uS];rfl
        clear nu uS
        go_enter Tryz.func99,Tryz.ntmps99
        go_wp2_with fail
        refine (ab HW).mono ?_
        rintro e w ⟨rfl,rfl⟩
        go_wp2_with fail
        refine (ab HT).mono ?_
        rintro e w ⟨rfl,rfl⟩
        go_wp2_with fail
        refine (ab HK).mono ?_
        rintro e w ⟨rfl,rfl⟩
        go_wp2_with fail
        refine (ab Fx).mono ?_
        rintro e w3 ⟨rfl,cE⟩
        have ed:=al ((ab HB).trans (cE.mono (ab HB).size))
        clear cE
        go_wp2
        go_ret
        exact ⟨by rw[ab HX];rfl,ab ed⟩
       ·have f0:(aE==0)=false:=beq_eq_false_iff_ne.2 o0
        have HX:Hid (Y=false):=by show Y=_;rw[ab nu,ab uS,f0];rfl
        clear nu uS
        go_enter Tryz.func99,Tryz.ntmps99
        go_wp2_with fail
        refine (ab HW).mono ?_
        rintro e w ⟨rfl,rfl⟩
        go_wp2_with fail
        refine (ab HT).mono ?_
        rintro e w ⟨rfl,rfl⟩
        go_wp2_with fail
        refine (ab HK).mono ?_
        rintro e w ⟨rfl,rfl⟩
        go_wp2
        go_ret
        exact ⟨by rw[ab HX];rfl,ab HB⟩
     ·have f4:(aP==4)=false:=beq_eq_false_iff_ne.2 k4
      obtain ⟨qe,hqe⟩:∃q,key.toList.isEmpty=q:=⟨_,rfl⟩
      rw[hqe] at uS
      by_cases k1:aP=1
      ·subst k1
       have uS:Hid (cb=qe):=ab uS
       cases qe with
       |false =>
        have HX:Hid (Y=false):=by show Y=_;rw[ab nu,ab uS];rfl
        clear nu uS
        go_enter Tryz.func99,Tryz.ntmps99
        go_wp2_with fail
        refine (ab HW).mono ?_
        rintro e w ⟨rfl,rfl⟩
        go_wp2_with fail
        refine (ab HT).mono ?_
        rintro e w ⟨rfl,rfl⟩
        go_wp2
        go_ret
        exact ⟨by rw[ab HX];rfl,ab HB⟩
       |true =>
        have HX:Hid (Y=!R):=by show Y=_;rw[ab nu,ab uS];rfl
        clear nu uS
        cases f0:(aE==0) with
        |true =>
         go_enter Tryz.func99,Tryz.ntmps99
         go_wp2_with fail
         refine (ab HW).mono ?_
         rintro e w ⟨rfl,rfl⟩
         go_wp2_with fail
         refine (ab HT).mono ?_
         rintro e w ⟨rfl,rfl⟩
         go_wp2_with fail
         refine (ab Fx).mono ?_
         rintro e w3 ⟨rfl,cE⟩
         have ed:=al ((ab HB).trans (cE.mono (ab HB).size))
         clear cE
         go_wp2
         go_ret
         exact ⟨by rw[ab HX];rfl,ab ed⟩
        |false =>
         go_enter Tryz.func99,Tryz.ntmps99
         go_wp2_with fail
         refine (ab HW).mono ?_
         rintro e w ⟨rfl,rfl⟩
         go_wp2_with fail
         refine (ab HT).mono ?_
         rintro e w ⟨rfl,rfl⟩
         go_wp2_with fail
         refine (ab Fx).mono ?_
         rintro e w3 ⟨rfl,cE⟩
         have ed:=al ((ab HB).trans (cE.mono (ab HB).size))
         clear cE
         go_wp2
         go_ret
         exact ⟨by rw[ab HX];rfl,ab ed⟩
      ·have f1:(aP==1)=false:=beq_eq_false_iff_ne.2 k1
       have LI:Hid (cb=(if aP=2∨aP=3 then qe&&(aE==0) else if aP=4 then q4&&(aE==0) else false)):=by show cb=_;rw[ab uS,if_neg k1]
       by_cases Na:aP=2∨aP=3
       ·have Fy:Hid (cb=(qe&&(aE==0))):=by show cb=_;rw[ab LI,if_pos Na]
        clear uS LI
        cases qe with
        |false =>
         have HX:Hid (Y=false):=by show Y=_;rw[ab nu,ab Fy];rfl
         clear nu Fy
         rcases Na with k2|k2
         ·subst k2
          go_enter Tryz.func99,Tryz.ntmps99
          go_wp2_with fail
          refine (ab HW).mono ?_
          rintro e w ⟨rfl,rfl⟩
          go_wp2_with fail
          refine (ab HT).mono ?_
          rintro e w ⟨rfl,rfl⟩
          go_wp2
          go_ret
          exact ⟨by rw[ab HX];rfl,ab HB⟩
         ·subst k2
          go_enter Tryz.func99,Tryz.ntmps99
          go_wp2_with fail
          refine (ab HW).mono ?_
          rintro e w ⟨rfl,rfl⟩
          go_wp2_with fail
          refine (ab HT).mono ?_
          rintro e w ⟨rfl,rfl⟩
          go_wp2
          go_ret
          exact ⟨by rw[ab HX];rfl,ab HB⟩
        |true =>
         by_cases o0:aE=0
         ·subst o0
          have HX:Hid (Y=!R):=by show Y=_;rw[ab nu,ab Fy];rfl
          clear nu Fy
          rcases Na with k2|k2
          ·subst k2
           go_enter Tryz.func99,Tryz.ntmps99
           go_wp2_with fail
           refine (ab HW).mono ?_
           rintro e w ⟨rfl,rfl⟩
           go_wp2_with fail
           refine (ab HT).mono ?_
           rintro e w ⟨rfl,rfl⟩
           go_wp2_with fail
           refine (ab Fx).mono ?_
           rintro e w3 ⟨rfl,cE⟩
           have ed:=al ((ab HB).trans (cE.mono (ab HB).size))
           clear cE
           go_wp2
           go_ret
           exact ⟨by rw[ab HX];rfl,ab ed⟩
          ·subst k2
           go_enter Tryz.func99,Tryz.ntmps99
           go_wp2_with fail
           refine (ab HW).mono ?_
           rintro e w ⟨rfl,rfl⟩
           go_wp2_with fail
           refine (ab HT).mono ?_
           rintro e w ⟨rfl,rfl⟩
           go_wp2_with fail
           refine (ab Fx).mono ?_
           rintro e w3 ⟨rfl,cE⟩
           have ed:=al ((ab HB).trans (cE.mono (ab HB).size))
           clear cE
           go_wp2
           go_ret
           exact ⟨by rw[ab HX];rfl,ab ed⟩
         ·have f0:(aE==0)=false:=beq_eq_false_iff_ne.2 o0
          have HX:Hid (Y=false):=by show Y=_;rw[ab nu,ab Fy,f0];rfl
          clear nu Fy
          rcases Na with k2|k2
          ·subst k2
           go_enter Tryz.func99,Tryz.ntmps99
           go_wp2_with fail
           refine (ab HW).mono ?_
           rintro e w ⟨rfl,rfl⟩
           go_wp2_with fail
           refine (ab HT).mono ?_
           rintro e w ⟨rfl,rfl⟩
           go_wp2
           go_ret
           exact ⟨by rw[ab HX];rfl,ab HB⟩
          ·subst k2
           go_enter Tryz.func99,Tryz.ntmps99
           go_wp2_with fail
           refine (ab HW).mono ?_
           rintro e w ⟨rfl,rfl⟩
           go_wp2_with fail
           refine (ab HT).mono ?_
           rintro e w ⟨rfl,rfl⟩
           go_wp2
           go_ret
           exact ⟨by rw[ab HX];rfl,ab HB⟩
       ·have HX:Hid (Y=false):=by show Y=_;rw[ab nu,ab LI,if_neg Na,if_neg k4];rfl
        have f2:(aP==2)=false:=beq_eq_false_iff_ne.2 (fun h=>Na (.inl h))
        have f3:(aP==3)=false:=beq_eq_false_iff_ne.2 (fun h=>Na (.inr h))
        clear nu uS LI
        go_enter Tryz.func99,Tryz.ntmps99
        go_wp2_with fail
        refine (ab HW).mono ?_
        rintro e w ⟨rfl,rfl⟩
        go_wp2_with fail
        refine (ab HT).mono ?_
        rintro e w ⟨rfl,rfl⟩
        go_wp2
        go_ret
        exact ⟨by rw[ab HX];rfl,ab HB⟩
end Go.Proofs.YtichhjfjcinjgaaGreatDoor
