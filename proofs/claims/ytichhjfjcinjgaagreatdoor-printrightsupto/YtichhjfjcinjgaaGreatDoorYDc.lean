import Derived.Test.YtichhjfjcinjgaaGreatDoorM30
set_option maxHeartbeats 8000000
set_option maxRecDepth 100000
namespace Go.Proofs.YtichhjfjcinjgaaGreatDoor
open Go.RowKit
attribute [local go_sem ↓] Go.wp_at_zero Go.wp_at_succ
def Cl:ByteArray:=⟨[111,112,116,105,111,110,32,103,114,111,117,112,32,111,112,116,105,111,110,97,108,32,114,101,112,101,97,116,101,100,32,114,101,113,117,105,114,101,100,32,111,110,101,111,102,32,109,101,115,115,97,103,101,32,101,110,117,109,32,114,101,115,101,114,118,101,100,32].toArray⟩
def uC:ByteArray:=⟨[109,101,115,115,97,103,101,32,101,110,117,109,32,111,110,101,111,102,32,114,101,115,101,114,118,101,100,32,111,112,116,105,111,110,97,108,32,114,101,112,101,97,116,101,100,32,111,112,116,105,111,110,32,101,120,116,101,110,100,32,101,120,116,101,110,115,105,111,110,115,32,103,114,111,117,112,32,114,101,113,117,105,114,101,100,32].toArray⟩
theorem in9 (s:ByteArray):Bu Cl s Cl.size 0 0=sT s [eY,iS,gj,gf,gd,mg,iA,qI,dx]:=by
 rw[yl,show pL Cl Cl.size 0 0=[eY,iS,gj,gf,gd,mg,iA,qI,dx] by kernel_rfl]
theorem VR (s:ByteArray):Bu uC s uC.size 0 0=sT s [iA,qI,mg,dx,gj,gf,eY,sK,kl,iS,gd]:=by
 rw[yl,show pL uC uC.size 0 0=[iA,qI,mg,dx,gj,gf,eY,sK,kl,iS,gd] by kernel_rfl]
theorem K7 {s:ByteArray} (h:s.toList.isEmpty=true) (d:Fd):sT s (nZ d)=false:=by
 have e:s.toList=[]:=by simpa using h
 unfold nZ
 repeat' split
 all_goals simp only[sT,e,toList_data]
 all_goals rfl
theorem K8 (s:ByteArray):sT s [iS]=(s.toList==[103,114,111,117,112]):=by
 unfold sT
 rw[List.any_cons,List.any_nil,Bool.or_false,show iS.toList=[103,114,111,117,112] by rw[toList_data];rfl]
theorem Aj (W:World) (d:Fd) (hs:d.ty.size≤281474976710656):Calls Tryz.prog 151 #[.agg d.cs.toArray] W fun e w=>e=.returned (.bool (!sT (fp d.ty) (nZ d)))∧Below W.heap.size W w:=by
 obtain ⟨aQ,key,ty,nm,num,aE⟩:=d
 have hb:Below W.heap.size W (W.alloc (.cells #[.int .i64 aQ,.string key,.string ty,.string nm,.int .i64 num,.int .i64 aE] 42)):=(zE _ _).alloc (zD _) _
 have k0:=aJ W (.cells #[.int .i64 aQ,.string key,.string ty,.string nm,.int .i64 num,.int .i64 aE] 42)
 obtain ⟨V,hV⟩:∃V,W.alloc (.cells #[.int .i64 aQ,.string key,.string ty,.string nm,.int .i64 num,.int .i64 aE] 42)=V:=⟨_,rfl⟩
 rw[hV] at hb k0
 have c0:V.cell? ⟨W.heap.size,0,none⟩=some (.int .i64 aQ):=cell_of_row _ _ _ _ _ _ k0
 have c2:V.cell? ⟨W.heap.size,2,none⟩=some (.string ty):=cell_of_row _ _ _ _ _ _ k0
 have c5:V.cell? ⟨W.heap.size,5,none⟩=some (.int .i64 aE):=cell_of_row _ _ _ _ _ _ k0
 have HF:=al (B3 V ty hs)
 have HB:=al hb
 unfold Fd.cs
 simp only
 obtain ⟨R,hR⟩:∃R,sT (fp ty) (nZ ⟨aQ,key,ty,nm,num,aE⟩)=R:=⟨_,rfl⟩
 rw[hR]
 have HR:=al hR
 clear hR hs hb k0
 obtain ⟨fy,Ob⟩:∃x,fp ty=x:=⟨_,rfl⟩
 rw[Ob] at HF HR
 clear Ob
 cases hq:fy.toList.isEmpty with
 |true =>
  have HX:Hid (R=false):=by show R=_;rw[←ab HR];exact K7 hq _
  clear HR
  go_enter Tryz.func151,Tryz.ntmps151
  go_wp2_with fail
  refine (ab HF).mono ?_
  rintro e w ⟨rfl,rfl⟩
  go_wp2
  go_ret
  exact ⟨by rw[ab HX];rfl,ab HB⟩
 |false =>
  by_cases h4:aQ=4
  ·subst h4
   have HX:Hid (R=false):=by show R=_;rw[←ab HR];rfl
   clear HR
   go_enter Tryz.func151,Tryz.ntmps151
   go_wp2_with fail
   refine (ab HF).mono ?_
   rintro e w ⟨rfl,rfl⟩
   go_wp2
   go_ret
   exact ⟨by rw[ab HX];rfl,ab HB⟩
  ·have f4:(aQ==4)=false:=beq_eq_false_iff_ne.2 h4
   by_cases h1:aQ=1
   ·subst h1
    by_cases h0:aE=0
    ·subst h0
     have HX:Hid (R=Bu uC fy uC.size 0 0):=by show R=_;rw[VR,←ab HR];rfl
     clear HR f4 h4
     go_enter Tryz.func151,Tryz.ntmps151
     go_wp2_with fail
     refine (ab HF).mono ?_
     rintro e w ⟨rfl,rfl⟩
     go_wp2_with fail
     refine (DD _ uC fy (by decide)).mono ?_
     rintro e w2 ⟨rfl,rfl⟩
     rw[←ab HX]
     go_wp2
     go_ret
     exact ⟨rfl,ab HB⟩
    ·have f0:(aE != 0)=true:=by simpa using h0
     have HX:Hid (R=Bu Cl fy Cl.size 0 0):=by
      show R=_
      rw[in9,←ab HR]
      unfold nZ
      rw[if_neg (show ¬(1:Int)=4 by decide),if_neg (show ¬(1:Int)≠1 by decide),if_pos h0]
     clear HR f4 h4
     go_enter Tryz.func151,Tryz.ntmps151
     go_wp2_with fail
     refine (ab HF).mono ?_
     rintro e w ⟨rfl,rfl⟩
     go_wp2_with fail
     refine (DD _ Cl fy (by decide)).mono ?_
     rintro e w2 ⟨rfl,rfl⟩
     rw[←ab HX]
     go_wp2
     go_ret
     exact ⟨rfl,ab HB⟩
   ·have f1:(aQ != 1)=true:=by simpa using h1
    have hX:R=(fy.toList==[103,114,111,117,112]):=by
     rw[←K8,←ab HR]
     unfold nZ
     rw[if_neg h4,if_pos h1]
    have hX2:(fy.toList==[103,114,111,117,112])=R:=hX.symm
    have hX3:(fy.toList != [103,114,111,117,112])=!R:=by rw[hX];rfl
    clear HR hX
    go_enter Tryz.func151,Tryz.ntmps151
    go_wp2_with fail
    refine (ab HF).mono ?_
    rintro e w ⟨rfl,rfl⟩
    go_wp2
    go_ret
    exact ⟨rfl,ab HB⟩
theorem B4 (W:World) (d:Fd):Calls Tryz.prog 99 #[.agg d.cs.toArray] W fun e w=>e=.returned (.bool (cL d))∧Below W.heap.size W w:=by
 obtain ⟨aQ,key,ty,nm,num,aE⟩:=d
 have hb:Below W.heap.size W (W.alloc (.cells #[.int .i64 aQ,.string key,.string ty,.string nm,.int .i64 num,.int .i64 aE] 42)):=(zE _ _).alloc (zD _) _
 have k0:=aJ W (.cells #[.int .i64 aQ,.string key,.string ty,.string nm,.int .i64 num,.int .i64 aE] 42)
 obtain ⟨V,hV⟩:∃V,W.alloc (.cells #[.int .i64 aQ,.string key,.string ty,.string nm,.int .i64 num,.int .i64 aE] 42)=V:=⟨_,rfl⟩
 rw[hV] at hb k0
 have c0:V.cell? ⟨W.heap.size,0,none⟩=some (.int .i64 aQ):=cell_of_row _ _ _ _ _ _ k0
 have c1:V.cell? ⟨W.heap.size,1,none⟩=some (.string key):=cell_of_row _ _ _ _ _ _ k0
 have c2:V.cell? ⟨W.heap.size,2,none⟩=some (.string ty):=cell_of_row _ _ _ _ _ _ k0
 have c3:V.cell? ⟨W.heap.size,3,none⟩=some (.string nm):=cell_of_row _ _ _ _ _ _ k0
 have c4:V.cell? ⟨W.heap.size,4,none⟩=some (.int .i64 num):=cell_of_row _ _ _ _ _ _ k0
 have c5:V.cell? ⟨W.heap.size,5,none⟩=some (.int .i64 aE):=cell_of_row _ _ _ _ _ _ k0
 have HW:=al (gu V nm)
 have HT:=al (wO V ty)
 have HK:=al (wO V key)
 have HG:Hid (gZ ty=true→Calls Tryz.prog 151 #[.agg (Fd.cs ⟨aQ,key,ty,nm,num,aE⟩).toArray] V fun e w=>e=.returned (.bool (!sT (fp ty) (nZ ⟨aQ,key,ty,nm,num,aE⟩)))∧Below V.heap.size V w):=fun h=>Aj V ⟨aQ,key,ty,nm,num,aE⟩ (by have:=(show gZ ty=true from h);unfold gZ at this;simp only[Bool.and_eq_true,decide_eq_true_eq] at this;show ty.size≤_;omega)
 have HB:=al hb
 obtain ⟨R,hR⟩:∃R,sT (fp ty) (nZ ⟨aQ,key,ty,nm,num,aE⟩)=R:=⟨_,rfl⟩
 obtain ⟨Y,hY⟩:∃Y,cL ⟨aQ,key,ty,nm,num,aE⟩=Y:=⟨_,rfl⟩
 rw[hY]
 have nS:Hid (Y=(bD nm&&(decide (0≤num)&&decide (num≤2147483647))&&gZ ty&&mE ⟨aQ,key,ty,nm,num,aE⟩&&!R)):=by show Y=_;rw[←hY,←hR];rfl
 rw[hR] at HG
 unfold Fd.cs at HG ⊢
 simp only at HG ⊢
 clear hR hY hb k0
 obtain ⟨q1,h1⟩:∃q,bD nm=q:=⟨_,rfl⟩
 obtain ⟨q3,h3⟩:∃q,gZ ty=q:=⟨_,rfl⟩
 obtain ⟨q4,h4⟩:∃q,gZ key=q:=⟨_,rfl⟩
 have vD:Hid (mE ⟨aQ,key,ty,nm,num,aE⟩=(if aQ=1 then key.toList.isEmpty else if aQ=2∨aQ=3 then key.toList.isEmpty&&(aE==0) else if aQ=4 then q4&&(aE==0) else false)):=by show _=_;unfold mE;rw[←h4]
 rw[h1] at HW nS
 rw[h3] at HT nS HG
 rw[h4] at HK
 clear h1 h3 h4
 obtain ⟨cb,Qa⟩:∃x,mE ⟨aQ,key,ty,nm,num,aE⟩=x:=⟨_,rfl⟩
 rw[Qa] at nS vD
 clear Qa
 cases q1 with
 |false =>
  have HX:Hid (Y=false):=by show Y=_;rw[ab nS];rfl
  clear nS vD
  go_enter Tryz.func99,Tryz.ntmps99
  go_wp2_with fail
  refine (ab HW).mono ?_
  rintro e w ⟨rfl,rfl⟩
  go_wp2
  go_ret
  exact ⟨by rw[ab HX];rfl,ab HB⟩
 |true =>
  by_cases n0:num<0
  ·have HX:Hid (Y=false):=by show Y=_;rw[ab nS,decide_eq_false (by omega)];rfl
   have e0:decide (num<0)=true:=decide_eq_true n0
   clear nS vD
   go_enter Tryz.func99,Tryz.ntmps99
   go_wp2_with fail
   refine (ab HW).mono ?_
   rintro e w ⟨rfl,rfl⟩
   go_wp2
   go_ret
   exact ⟨by rw[ab HX];rfl,ab HB⟩
  ·have e0:decide (num<0)=false:=decide_eq_false n0
   by_cases n1:2147483647<num
   ·have HX:Hid (Y=false):=by show Y=_;rw[ab nS,decide_eq_true (show 0≤num by omega),decide_eq_false (show ¬num≤2147483647 by omega)];rfl
    have e1:decide (2147483647<num)=true:=decide_eq_true n1
    clear nS vD
    go_enter Tryz.func99,Tryz.ntmps99
    go_wp2_with fail
    refine (ab HW).mono ?_
    rintro e w ⟨rfl,rfl⟩
    go_wp2
    go_ret
    exact ⟨by rw[ab HX];rfl,ab HB⟩
   ·have e1:decide (2147483647<num)=false:=decide_eq_false n1
    rw[decide_eq_true (show 0≤num by omega),decide_eq_true (show num≤2147483647 by omega)] at nS
    cases q3 with
    |false =>
     have HX:Hid (Y=false):=by show Y=_;rw[ab nS];rfl
     clear nS vD n0 n1
     go_enter Tryz.func99,Tryz.ntmps99
     go_wp2_with fail
     refine (ab HW).mono ?_
     rintro e w ⟨rfl,rfl⟩
     go_wp2_with fail
     refine (ab HT).mono ?_
     rintro e w ⟨rfl,rfl⟩
     go_wp2
     go_ret
     exact ⟨by rw[ab HX];rfl,ab HB⟩
    |true =>
     have nS:Hid (Y=(cb&&!R)):=by show Y=_;rw[ab nS];rfl
     have F4:=al (ab HG (by trivial))
     clear HG
     clear n0 n1
     by_cases k4:aQ=4
     ·subst k4
      have vD:Hid (cb=(q4&&(aE==0))):=ab vD
      cases q4 with
      |false =>
       have HX:Hid (Y=false):=by show Y=_;rw[ab nS,ab vD];rfl
       clear nS vD
       go_enter Tryz.func99,Tryz.ntmps99
       go_wp2_with fail
       refine (ab HW).mono ?_
       rintro e w ⟨rfl,rfl⟩
       go_wp2_with fail
       refine (ab HT).mono ?_
       rintro e w ⟨rfl,rfl⟩
       go_wp2_with fail
       refine (ab HK).mono ?_
       rintro e w ⟨rfl,rfl⟩
       go_wp2
       go_ret
       exact ⟨by rw[ab HX];rfl,ab HB⟩
      |true =>
       by_cases o0:aE=0
       ·subst o0
        have HX:Hid (Y=!R):=by show Y=_;rw[ab nS,ab vD];rfl
        clear nS vD
        go_enter Tryz.func99,Tryz.ntmps99
        go_wp2_with fail
        refine (ab HW).mono ?_
        rintro e w ⟨rfl,rfl⟩
        go_wp2_with fail
        refine (ab HT).mono ?_
        rintro e w ⟨rfl,rfl⟩
        go_wp2_with fail
        refine (ab HK).mono ?_
        rintro e w ⟨rfl,rfl⟩
        go_wp2_with fail
        refine (ab F4).mono ?_
        rintro e w3 ⟨rfl,cz⟩
        have eh:=al ((ab HB).trans (cz.mono (ab HB).size))
        clear cz
        go_wp2
        go_ret
        exact ⟨by rw[ab HX];rfl,ab eh⟩
       ·have f0:(aE==0)=false:=beq_eq_false_iff_ne.2 o0
        have HX:Hid (Y=false):=by show Y=_;rw[ab nS,ab vD,f0];rfl
        clear nS vD
        go_enter Tryz.func99,Tryz.ntmps99
        go_wp2_with fail
        refine (ab HW).mono ?_
        rintro e w ⟨rfl,rfl⟩
        go_wp2_with fail
        refine (ab HT).mono ?_
        rintro e w ⟨rfl,rfl⟩
        go_wp2_with fail
        refine (ab HK).mono ?_
        rintro e w ⟨rfl,rfl⟩
        go_wp2
        go_ret
        exact ⟨by rw[ab HX];rfl,ab HB⟩
     ·have f4:(aQ==4)=false:=beq_eq_false_iff_ne.2 k4
      obtain ⟨qe,hqe⟩:∃q,key.toList.isEmpty=q:=⟨_,rfl⟩
      rw[hqe] at vD
      by_cases k1:aQ=1
      ·subst k1
       have vD:Hid (cb=qe):=ab vD
       cases qe with
       |false =>
        have HX:Hid (Y=false):=by show Y=_;rw[ab nS,ab vD];rfl
        clear nS vD
        go_enter Tryz.func99,Tryz.ntmps99
        go_wp2_with fail
        refine (ab HW).mono ?_
        rintro e w ⟨rfl,rfl⟩
        go_wp2_with fail
        refine (ab HT).mono ?_
        rintro e w ⟨rfl,rfl⟩
        go_wp2
        go_ret
        exact ⟨by rw[ab HX];rfl,ab HB⟩
       |true =>
        have HX:Hid (Y=!R):=by show Y=_;rw[ab nS,ab vD];rfl
        clear nS vD
        cases f0:(aE==0) with
        |true =>
         go_enter Tryz.func99,Tryz.ntmps99
         go_wp2_with fail
         refine (ab HW).mono ?_
         rintro e w ⟨rfl,rfl⟩
         go_wp2_with fail
         refine (ab HT).mono ?_
         rintro e w ⟨rfl,rfl⟩
         go_wp2_with fail
         refine (ab F4).mono ?_
         rintro e w3 ⟨rfl,cz⟩
         have eh:=al ((ab HB).trans (cz.mono (ab HB).size))
         clear cz
         go_wp2
         go_ret
         exact ⟨by rw[ab HX];rfl,ab eh⟩
        |false =>
         go_enter Tryz.func99,Tryz.ntmps99
         go_wp2_with fail
         refine (ab HW).mono ?_
         rintro e w ⟨rfl,rfl⟩
         go_wp2_with fail
         refine (ab HT).mono ?_
         rintro e w ⟨rfl,rfl⟩
         go_wp2_with fail
         refine (ab F4).mono ?_
         rintro e w3 ⟨rfl,cz⟩
         have eh:=al ((ab HB).trans (cz.mono (ab HB).size))
         clear cz
         go_wp2
         go_ret
         exact ⟨by rw[ab HX];rfl,ab eh⟩
      ·have f1:(aQ==1)=false:=beq_eq_false_iff_ne.2 k1
       have Mc:Hid (cb=(if aQ=2∨aQ=3 then qe&&(aE==0) else if aQ=4 then q4&&(aE==0) else false)):=by show cb=_;rw[ab vD,if_neg k1]
       by_cases NB:aQ=2∨aQ=3
       ·have F5:Hid (cb=(qe&&(aE==0))):=by show cb=_;rw[ab Mc,if_pos NB]
        clear vD Mc
        cases qe with
        |false =>
         have HX:Hid (Y=false):=by show Y=_;rw[ab nS,ab F5];rfl
         clear nS F5
         rcases NB with k2|k2
         ·subst k2
          go_enter Tryz.func99,Tryz.ntmps99
          go_wp2_with fail
          refine (ab HW).mono ?_
          rintro e w ⟨rfl,rfl⟩
          go_wp2_with fail
          refine (ab HT).mono ?_
          rintro e w ⟨rfl,rfl⟩
          go_wp2
          go_ret
          exact ⟨by rw[ab HX];rfl,ab HB⟩
         ·subst k2
          go_enter Tryz.func99,Tryz.ntmps99
          go_wp2_with fail
          refine (ab HW).mono ?_
          rintro e w ⟨rfl,rfl⟩
          go_wp2_with fail
          refine (ab HT).mono ?_
          rintro e w ⟨rfl,rfl⟩
          go_wp2
          go_ret
          exact ⟨by rw[ab HX];rfl,ab HB⟩
        |true =>
         by_cases o0:aE=0
         ·subst o0
          have HX:Hid (Y=!R):=by show Y=_;rw[ab nS,ab F5];rfl
          clear nS F5
          rcases NB with k2|k2
          ·subst k2
           go_enter Tryz.func99,Tryz.ntmps99
           go_wp2_with fail
           refine (ab HW).mono ?_
           rintro e w ⟨rfl,rfl⟩
           go_wp2_with fail
           refine (ab HT).mono ?_
           rintro e w ⟨rfl,rfl⟩
           go_wp2_with fail
           refine (ab F4).mono ?_
           rintro e w3 ⟨rfl,cz⟩
           have eh:=al ((ab HB).trans (cz.mono (ab HB).size))
           clear cz
           go_wp2
           go_ret
           exact ⟨by rw[ab HX];rfl,ab eh⟩
          ·subst k2
           go_enter Tryz.func99,Tryz.ntmps99
           go_wp2_with fail
           refine (ab HW).mono ?_
           rintro e w ⟨rfl,rfl⟩
           go_wp2_with fail
           refine (ab HT).mono ?_
           rintro e w ⟨rfl,rfl⟩
           go_wp2_with fail
           refine (ab F4).mono ?_
           rintro e w3 ⟨rfl,cz⟩
           have eh:=al ((ab HB).trans (cz.mono (ab HB).size))
           clear cz
           go_wp2
           go_ret
           exact ⟨by rw[ab HX];rfl,ab eh⟩
         ·have f0:(aE==0)=false:=beq_eq_false_iff_ne.2 o0
          have HX:Hid (Y=false):=by show Y=_;rw[ab nS,ab F5,f0];rfl
          clear nS F5
          rcases NB with k2|k2
          ·subst k2
           go_enter Tryz.func99,Tryz.ntmps99
           go_wp2_with fail
           refine (ab HW).mono ?_
           rintro e w ⟨rfl,rfl⟩
           go_wp2_with fail
           refine (ab HT).mono ?_
           rintro e w ⟨rfl,rfl⟩
           go_wp2
           go_ret
           exact ⟨by rw[ab HX];rfl,ab HB⟩
          ·subst k2
           go_enter Tryz.func99,Tryz.ntmps99
           go_wp2_with fail
           refine (ab HW).mono ?_
           rintro e w ⟨rfl,rfl⟩
           go_wp2_with fail
           refine (ab HT).mono ?_
           rintro e w ⟨rfl,rfl⟩
           go_wp2
           go_ret
           exact ⟨by rw[ab HX];rfl,ab HB⟩
       ·have HX:Hid (Y=false):=by show Y=_;rw[ab nS,ab Mc,if_neg NB,if_neg k4];rfl
        have f2:(aQ==2)=false:=beq_eq_false_iff_ne.2 (fun h=>NB (.inl h))
        have f3:(aQ==3)=false:=beq_eq_false_iff_ne.2 (fun h=>NB (.inr h))
        clear nS vD Mc
        go_enter Tryz.func99,Tryz.ntmps99
        go_wp2_with fail
        refine (ab HW).mono ?_
        rintro e w ⟨rfl,rfl⟩
        go_wp2_with fail
        refine (ab HT).mono ?_
        rintro e w ⟨rfl,rfl⟩
        go_wp2
        go_ret
        exact ⟨by rw[ab HX];rfl,ab HB⟩
end Go.Proofs.YtichhjfjcinjgaaGreatDoor
