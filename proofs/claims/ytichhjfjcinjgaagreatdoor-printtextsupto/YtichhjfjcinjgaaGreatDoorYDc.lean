import Derived.Test.YtichhjfjcinjgaaGreatDoorM30
set_option maxHeartbeats 8000000
set_option maxRecDepth 100000
namespace Go.Proofs.YtichhjfjcinjgaaGreatDoor
open Go.RowKit
attribute [local go_sem ↓] Go.wp_at_zero Go.wp_at_succ
def BN:ByteArray:=⟨[111,112,116,105,111,110,32,103,114,111,117,112,32,111,112,116,105,111,110,97,108,32,114,101,112,101,97,116,101,100,32,114,101,113,117,105,114,101,100,32,111,110,101,111,102,32,109,101,115,115,97,103,101,32,101,110,117,109,32,114,101,115,101,114,118,101,100,32].toArray⟩
def tJ:ByteArray:=⟨[109,101,115,115,97,103,101,32,101,110,117,109,32,111,110,101,111,102,32,114,101,115,101,114,118,101,100,32,111,112,116,105,111,110,97,108,32,114,101,112,101,97,116,101,100,32,111,112,116,105,111,110,32,101,120,116,101,110,100,32,101,120,116,101,110,115,105,111,110,115,32,103,114,111,117,112,32,114,101,113,117,105,114,101,100,32].toArray⟩
theorem in9 (s:ByteArray):AX BN s BN.size 0 0=su s [eR,iF,fU,fT,fS,lP,ie,p8,dt]:=by
 rw[xI,show ph BN BN.size 0 0=[eR,iF,fU,fT,fS,lP,ie,p8,dt] by kernel_rfl]
theorem Vj (s:ByteArray):AX tJ s tJ.size 0 0=su s [ie,p8,lP,dt,fU,fT,eR,sg,jY,iF,fS]:=by
 rw[xI,show ph tJ tJ.size 0 0=[ie,p8,lP,dt,fU,fT,eR,sg,jY,iF,fS] by kernel_rfl]
theorem Km {s:ByteArray} (h:s.toList.isEmpty=true) (d:Fd):su s (nB d)=false:=by
 have e:s.toList=[]:=by simpa using h
 unfold nB
 repeat' split
 all_goals simp only[su,e,toList_data]
 all_goals rfl
theorem Kn (s:ByteArray):su s [iF]=(s.toList==[103,114,111,117,112]):=by
 unfold su
 rw[List.any_cons,List.any_nil,Bool.or_false,show iF.toList=[103,114,111,117,112] by rw[toList_data];rfl]
theorem zd (W:World) (d:Fd) (hs:d.ty.size≤281474976710656):Calls Tryz.prog 151 #[.agg d.cs.toArray] W fun e w=>e=.returned (.bool (!su (fa d.ty) (nB d)))∧Below W.heap.size W w:=by
 obtain ⟨aP,key,ty,nm,num,aE⟩:=d
 have hb:Below W.heap.size W (W.alloc (.cells #[.int .i64 aP,.string key,.string ty,.string nm,.int .i64 num,.int .i64 aE] 42)):=(zE _ _).alloc (zD _) _
 have k0:=aK W (.cells #[.int .i64 aP,.string key,.string ty,.string nm,.int .i64 num,.int .i64 aE] 42)
 obtain ⟨V,hV⟩:∃V,W.alloc (.cells #[.int .i64 aP,.string key,.string ty,.string nm,.int .i64 num,.int .i64 aE] 42)=V:=⟨_,rfl⟩
 rw[hV] at hb k0
 have c0:V.cell? ⟨W.heap.size,0,none⟩=some (.int .i64 aP):=cell_of_row _ _ _ _ _ _ k0
 have c2:V.cell? ⟨W.heap.size,2,none⟩=some (.string ty):=cell_of_row _ _ _ _ _ _ k0
 have c5:V.cell? ⟨W.heap.size,5,none⟩=some (.int .i64 aE):=cell_of_row _ _ _ _ _ _ k0
 have HF:=al (Bv V ty hs)
 have HB:=al hb
 unfold Fd.cs
 simp only
 obtain ⟨R,hR⟩:∃R,su (fa ty) (nB ⟨aP,key,ty,nm,num,aE⟩)=R:=⟨_,rfl⟩
 rw[hR]
 have HR:=al hR
 clear hR hs hb k0
 obtain ⟨fy,NA⟩:∃x,fa ty=x:=⟨_,rfl⟩
 rw[NA] at HF HR
 clear NA
 cases hq:fy.toList.isEmpty with
 |true =>
  have HX:Hid (R=false):=by show R=_;rw[←ab HR];exact Km hq _
  clear HR
  go_enter Tryz.func151,Tryz.ntmps151
  go_wp2_with fail
  refine (ab HF).mono ?_
  rintro e w ⟨rfl,rfl⟩
  go_wp2
  go_ret
  exact ⟨by rw[ab HX];rfl,ab HB⟩
 |false =>
  by_cases h4:aP=4
  ·subst h4
   have HX:Hid (R=false):=by show R=_;rw[←ab HR];rfl
   clear HR
   go_enter Tryz.func151,Tryz.ntmps151
   go_wp2_with fail
   refine (ab HF).mono ?_
   rintro e w ⟨rfl,rfl⟩
   go_wp2
   go_ret
   exact ⟨by rw[ab HX];rfl,ab HB⟩
  ·have f4:(aP==4)=false:=beq_eq_false_iff_ne.2 h4
   by_cases h1:aP=1
   ·subst h1
    by_cases h0:aE=0
    ·subst h0
     have HX:Hid (R=AX tJ fy tJ.size 0 0):=by show R=_;rw[Vj,←ab HR];rfl
     clear HR f4 h4
     go_enter Tryz.func151,Tryz.ntmps151
     go_wp2_with fail
     refine (ab HF).mono ?_
     rintro e w ⟨rfl,rfl⟩
     go_wp2_with fail
     refine (C3 _ tJ fy (by decide)).mono ?_
     rintro e w2 ⟨rfl,rfl⟩
     rw[←ab HX]
     go_wp2
     go_ret
     exact ⟨rfl,ab HB⟩
    ·have f0:(aE != 0)=true:=by simpa using h0
     have HX:Hid (R=AX BN fy BN.size 0 0):=by
      show R=_
      rw[in9,←ab HR]
      unfold nB
      rw[if_neg (show ¬(1:Int)=4 by decide),if_neg (show ¬(1:Int)≠1 by decide),if_pos h0]
     clear HR f4 h4
     go_enter Tryz.func151,Tryz.ntmps151
     go_wp2_with fail
     refine (ab HF).mono ?_
     rintro e w ⟨rfl,rfl⟩
     go_wp2_with fail
     refine (C3 _ BN fy (by decide)).mono ?_
     rintro e w2 ⟨rfl,rfl⟩
     rw[←ab HX]
     go_wp2
     go_ret
     exact ⟨rfl,ab HB⟩
   ·have f1:(aP != 1)=true:=by simpa using h1
    have hX:R=(fy.toList==[103,114,111,117,112]):=by
     rw[←Kn,←ab HR]
     unfold nB
     rw[if_neg h4,if_pos h1]
    have hX2:(fy.toList==[103,114,111,117,112])=R:=hX.symm
    have hX3:(fy.toList != [103,114,111,117,112])=!R:=by rw[hX];rfl
    clear HR hX
    go_enter Tryz.func151,Tryz.ntmps151
    go_wp2_with fail
    refine (ab HF).mono ?_
    rintro e w ⟨rfl,rfl⟩
    go_wp2
    go_ret
    exact ⟨rfl,ab HB⟩
theorem Bw (W:World) (d:Fd):Calls Tryz.prog 99 #[.agg d.cs.toArray] W fun e w=>e=.returned (.bool (cI d))∧Below W.heap.size W w:=by
 obtain ⟨aP,key,ty,nm,num,aE⟩:=d
 have hb:Below W.heap.size W (W.alloc (.cells #[.int .i64 aP,.string key,.string ty,.string nm,.int .i64 num,.int .i64 aE] 42)):=(zE _ _).alloc (zD _) _
 have k0:=aK W (.cells #[.int .i64 aP,.string key,.string ty,.string nm,.int .i64 num,.int .i64 aE] 42)
 obtain ⟨V,hV⟩:∃V,W.alloc (.cells #[.int .i64 aP,.string key,.string ty,.string nm,.int .i64 num,.int .i64 aE] 42)=V:=⟨_,rfl⟩
 rw[hV] at hb k0
 have c0:V.cell? ⟨W.heap.size,0,none⟩=some (.int .i64 aP):=cell_of_row _ _ _ _ _ _ k0
 have c1:V.cell? ⟨W.heap.size,1,none⟩=some (.string key):=cell_of_row _ _ _ _ _ _ k0
 have c2:V.cell? ⟨W.heap.size,2,none⟩=some (.string ty):=cell_of_row _ _ _ _ _ _ k0
 have c3:V.cell? ⟨W.heap.size,3,none⟩=some (.string nm):=cell_of_row _ _ _ _ _ _ k0
 have c4:V.cell? ⟨W.heap.size,4,none⟩=some (.int .i64 num):=cell_of_row _ _ _ _ _ _ k0
 have c5:V.cell? ⟨W.heap.size,5,none⟩=some (.int .i64 aE):=cell_of_row _ _ _ _ _ _ k0
 have HW:=al (fW V nm)
 have HT:=al (vS V ty)
 have HK:=al (vS V key)
 have HG:Hid (gQ ty=true→Calls Tryz.prog 151 #[.agg (Fd.cs ⟨aP,key,ty,nm,num,aE⟩).toArray] V fun e w=>e=.returned (.bool (!su (fa ty) (nB ⟨aP,key,ty,nm,num,aE⟩)))∧Below V.heap.size V w):=fun h=>zd V ⟨aP,key,ty,nm,num,aE⟩ (by have:=(show gQ ty=true from h);unfold gQ at this;simp only[Bool.and_eq_true,decide_eq_true_eq] at this;show ty.size≤_;omega)
 have HB:=al hb
 obtain ⟨R,hR⟩:∃R,su (fa ty) (nB ⟨aP,key,ty,nm,num,aE⟩)=R:=⟨_,rfl⟩
 obtain ⟨Y,hY⟩:∃Y,cI ⟨aP,key,ty,nm,num,aE⟩=Y:=⟨_,rfl⟩
 rw[hY]
 have ns:Hid (Y=(bD nm&&(decide (0≤num)&&decide (num≤2147483647))&&gQ ty&&mf ⟨aP,key,ty,nm,num,aE⟩&&!R)):=by show Y=_;rw[←hY,←hR];rfl
 rw[hR] at HG
 unfold Fd.cs at HG ⊢
 simp only at HG ⊢
 clear hR hY hb k0
 obtain ⟨q1,h1⟩:∃q,bD nm=q:=⟨_,rfl⟩
 obtain ⟨q3,h3⟩:∃q,gQ ty=q:=⟨_,rfl⟩
 obtain ⟨q4,h4⟩:∃q,gQ key=q:=⟨_,rfl⟩
 have uP:Hid (mf ⟨aP,key,ty,nm,num,aE⟩=(if aP=1 then key.toList.isEmpty else if aP=2∨aP=3 then key.toList.isEmpty&&(aE==0) else if aP=4 then q4&&(aE==0) else false)):=by show _=_;unfold mf;rw[←h4]
 rw[h1] at HW ns
 rw[h3] at HT ns HG
 rw[h4] at HK
 clear h1 h3 h4
 obtain ⟨cb,Px⟩:∃x,mf ⟨aP,key,ty,nm,num,aE⟩=x:=⟨_,rfl⟩
 rw[Px] at ns uP
 clear Px
 cases q1 with
 |false =>
  have HX:Hid (Y=false):=by show Y=_;rw[ab ns];rfl
  clear ns uP
  go_enter Tryz.func99,Tryz.ntmps99
  go_wp2_with fail
  refine (ab HW).mono ?_
  rintro e w ⟨rfl,rfl⟩
  go_wp2
  go_ret
  exact ⟨by rw[ab HX];rfl,ab HB⟩
 |true =>
  by_cases n0:num<0
  ·have HX:Hid (Y=false):=by show Y=_;rw[ab ns,decide_eq_false (by omega)];rfl
   have e0:decide (num<0)=true:=decide_eq_true n0
   clear ns uP
   go_enter Tryz.func99,Tryz.ntmps99
   go_wp2_with fail
   refine (ab HW).mono ?_
   rintro e w ⟨rfl,rfl⟩
   go_wp2
   go_ret
   exact ⟨by rw[ab HX];rfl,ab HB⟩
  ·have e0:decide (num<0)=false:=decide_eq_false n0
   by_cases n1:2147483647<num
   ·have HX:Hid (Y=false):=by show Y=_;rw[ab ns,decide_eq_true (show 0≤num by omega),decide_eq_false (show ¬num≤2147483647 by omega)];rfl
    have e1:decide (2147483647<num)=true:=decide_eq_true n1
    clear ns uP
    go_enter Tryz.func99,Tryz.ntmps99
    go_wp2_with fail
    refine (ab HW).mono ?_
    rintro e w ⟨rfl,rfl⟩
    go_wp2
    go_ret
    exact ⟨by rw[ab HX];rfl,ab HB⟩
   ·have e1:decide (2147483647<num)=false:=decide_eq_false n1
    rw[decide_eq_true (show 0≤num by omega),decide_eq_true (show num≤2147483647 by omega)] at ns
    cases q3 with
    |false =>
     have HX:Hid (Y=false):=by show Y=_;rw[ab ns];rfl
     clear ns uP n0 n1
     go_enter Tryz.func99,Tryz.ntmps99
     go_wp2_with fail
     refine (ab HW).mono ?_
     rintro e w ⟨rfl,rfl⟩
     go_wp2_with fail
     refine (ab HT).mono ?_
     rintro e w ⟨rfl,rfl⟩
     go_wp2
     go_ret
     exact ⟨by rw[ab HX];rfl,ab HB⟩
    |true =>
     have ns:Hid (Y=(cb&&!R)):=by show Y=_;rw[ab ns];rfl
     have Fj:=al (ab HG (by trivial))
     clear HG
     clear n0 n1
     by_cases k4:aP=4
     ·subst k4
      have uP:Hid (cb=(q4&&(aE==0))):=ab uP
      cases q4 with
      |false =>
       have HX:Hid (Y=false):=by show Y=_;rw[ab ns,ab uP];rfl
       clear ns uP
       go_enter Tryz.func99,Tryz.ntmps99
       go_wp2_with fail
       refine (ab HW).mono ?_
       rintro e w ⟨rfl,rfl⟩
       go_wp2_with fail
       refine (ab HT).mono ?_
       rintro e w ⟨rfl,rfl⟩
       go_wp2_with fail
       refine (ab HK).mono ?_
       rintro e w ⟨rfl,rfl⟩
       go_wp2
       go_ret
       exact ⟨by rw[ab HX];rfl,ab HB⟩
      |true =>
       by_cases o0:aE=0
       ·subst o0
        have HX:Hid (Y=!R):=by show Y=_;rw[ab ns,ab uP];rfl
        clear ns uP
        go_enter Tryz.func99,Tryz.ntmps99
        go_wp2_with fail
        refine (ab HW).mono ?_
        rintro e w ⟨rfl,rfl⟩
        go_wp2_with fail
        refine (ab HT).mono ?_
        rintro e w ⟨rfl,rfl⟩
        go_wp2_with fail
        refine (ab HK).mono ?_
        rintro e w ⟨rfl,rfl⟩
        go_wp2_with fail
        refine (ab Fj).mono ?_
        rintro e w3 ⟨rfl,cC⟩
        have dX:=al ((ab HB).trans (cC.mono (ab HB).size))
        clear cC
        go_wp2
        go_ret
        exact ⟨by rw[ab HX];rfl,ab dX⟩
       ·have f0:(aE==0)=false:=beq_eq_false_iff_ne.2 o0
        have HX:Hid (Y=false):=by show Y=_;rw[ab ns,ab uP,f0];rfl
        clear ns uP
        go_enter Tryz.func99,Tryz.ntmps99
        go_wp2_with fail
        refine (ab HW).mono ?_
        rintro e w ⟨rfl,rfl⟩
        go_wp2_with fail
        refine (ab HT).mono ?_
        rintro e w ⟨rfl,rfl⟩
        go_wp2_with fail
        refine (ab HK).mono ?_
        rintro e w ⟨rfl,rfl⟩
        go_wp2
        go_ret
        exact ⟨by rw[ab HX];rfl,ab HB⟩
     ·have f4:(aP==4)=false:=beq_eq_false_iff_ne.2 k4
      obtain ⟨qe,hqe⟩:∃q,key.toList.isEmpty=q:=⟨_,rfl⟩
      rw[hqe] at uP
      by_cases k1:aP=1
      ·subst k1
       have uP:Hid (cb=qe):=ab uP
       cases qe with
       |false =>
        have HX:Hid (Y=false):=by show Y=_;rw[ab ns,ab uP];rfl
        clear ns uP
        go_enter Tryz.func99,Tryz.ntmps99
        go_wp2_with fail
        refine (ab HW).mono ?_
        rintro e w ⟨rfl,rfl⟩
        go_wp2_with fail
        refine (ab HT).mono ?_
        rintro e w ⟨rfl,rfl⟩
        go_wp2
        go_ret
        exact ⟨by rw[ab HX];rfl,ab HB⟩
       |true =>
        have HX:Hid (Y=!R):=by show Y=_;rw[ab ns,ab uP];rfl
        clear ns uP
        cases f0:(aE==0) with
        |true =>
         go_enter Tryz.func99,Tryz.ntmps99
         go_wp2_with fail
         refine (ab HW).mono ?_
         rintro e w ⟨rfl,rfl⟩
         go_wp2_with fail
         refine (ab HT).mono ?_
         rintro e w ⟨rfl,rfl⟩
         go_wp2_with fail
         refine (ab Fj).mono ?_
         rintro e w3 ⟨rfl,cC⟩
         have dX:=al ((ab HB).trans (cC.mono (ab HB).size))
         clear cC
         go_wp2
         go_ret
         exact ⟨by rw[ab HX];rfl,ab dX⟩
        |false =>
         go_enter Tryz.func99,Tryz.ntmps99
         go_wp2_with fail
         refine (ab HW).mono ?_
         rintro e w ⟨rfl,rfl⟩
         go_wp2_with fail
         refine (ab HT).mono ?_
         rintro e w ⟨rfl,rfl⟩
         go_wp2_with fail
         refine (ab Fj).mono ?_
         rintro e w3 ⟨rfl,cC⟩
         have dX:=al ((ab HB).trans (cC.mono (ab HB).size))
         clear cC
         go_wp2
         go_ret
         exact ⟨by rw[ab HX];rfl,ab dX⟩
      ·have f1:(aP==1)=false:=beq_eq_false_iff_ne.2 k1
       have Lw:Hid (cb=(if aP=2∨aP=3 then qe&&(aE==0) else if aP=4 then q4&&(aE==0) else false)):=by show cb=_;rw[ab uP,if_neg k1]
       by_cases MX:aP=2∨aP=3
       ·have Fk:Hid (cb=(qe&&(aE==0))):=by show cb=_;rw[ab Lw,if_pos MX]
        clear uP Lw
        cases qe with
        |false =>
         have HX:Hid (Y=false):=by show Y=_;rw[ab ns,ab Fk];rfl
         clear ns Fk
         rcases MX with k2|k2
         ·subst k2
          go_enter Tryz.func99,Tryz.ntmps99
          go_wp2_with fail
          refine (ab HW).mono ?_
          rintro e w ⟨rfl,rfl⟩
          go_wp2_with fail
          refine (ab HT).mono ?_
          rintro e w ⟨rfl,rfl⟩
          go_wp2
          go_ret
          exact ⟨by rw[ab HX];rfl,ab HB⟩
         ·subst k2
          go_enter Tryz.func99,Tryz.ntmps99
          go_wp2_with fail
          refine (ab HW).mono ?_
          rintro e w ⟨rfl,rfl⟩
          go_wp2_with fail
          refine (ab HT).mono ?_
          rintro e w ⟨rfl,rfl⟩
          go_wp2
          go_ret
          exact ⟨by rw[ab HX];rfl,ab HB⟩
        |true =>
         by_cases o0:aE=0
         ·subst o0
          have HX:Hid (Y=!R):=by show Y=_;rw[ab ns,ab Fk];rfl
          clear ns Fk
          rcases MX with k2|k2
          ·subst k2
           go_enter Tryz.func99,Tryz.ntmps99
           go_wp2_with fail
           refine (ab HW).mono ?_
           rintro e w ⟨rfl,rfl⟩
           go_wp2_with fail
           refine (ab HT).mono ?_
           rintro e w ⟨rfl,rfl⟩
           go_wp2_with fail
           refine (ab Fj).mono ?_
           rintro e w3 ⟨rfl,cC⟩
           have dX:=al ((ab HB).trans (cC.mono (ab HB).size))
           clear cC
           go_wp2
           go_ret
           exact ⟨by rw[ab HX];rfl,ab dX⟩
          ·subst k2
           go_enter Tryz.func99,Tryz.ntmps99
           go_wp2_with fail
           refine (ab HW).mono ?_
           rintro e w ⟨rfl,rfl⟩
           go_wp2_with fail
           refine (ab HT).mono ?_
           rintro e w ⟨rfl,rfl⟩
           go_wp2_with fail
           refine (ab Fj).mono ?_
           rintro e w3 ⟨rfl,cC⟩
           have dX:=al ((ab HB).trans (cC.mono (ab HB).size))
           clear cC
           go_wp2
           go_ret
           exact ⟨by rw[ab HX];rfl,ab dX⟩
         ·have f0:(aE==0)=false:=beq_eq_false_iff_ne.2 o0
          have HX:Hid (Y=false):=by show Y=_;rw[ab ns,ab Fk,f0];rfl
          clear ns Fk
          rcases MX with k2|k2
          ·subst k2
           go_enter Tryz.func99,Tryz.ntmps99
           go_wp2_with fail
           refine (ab HW).mono ?_
           rintro e w ⟨rfl,rfl⟩
           go_wp2_with fail
           refine (ab HT).mono ?_
           rintro e w ⟨rfl,rfl⟩
           go_wp2
           go_ret
           exact ⟨by rw[ab HX];rfl,ab HB⟩
          ·subst k2
           go_enter Tryz.func99,Tryz.ntmps99
           go_wp2_with fail
           refine (ab HW).mono ?_
           rintro e w ⟨rfl,rfl⟩
           go_wp2_with fail
           refine (ab HT).mono ?_
           rintro e w ⟨rfl,rfl⟩
           go_wp2
           go_ret
           exact ⟨by rw[ab HX];rfl,ab HB⟩
       ·have HX:Hid (Y=false):=by show Y=_;rw[ab ns,ab Lw,if_neg MX,if_neg k4];rfl
        have f2:(aP==2)=false:=beq_eq_false_iff_ne.2 (fun h=>MX (.inl h))
        have f3:(aP==3)=false:=beq_eq_false_iff_ne.2 (fun h=>MX (.inr h))
        clear ns uP Lw
        go_enter Tryz.func99,Tryz.ntmps99
        go_wp2_with fail
        refine (ab HW).mono ?_
        rintro e w ⟨rfl,rfl⟩
        go_wp2_with fail
        refine (ab HT).mono ?_
        rintro e w ⟨rfl,rfl⟩
        go_wp2
        go_ret
        exact ⟨by rw[ab HX];rfl,ab HB⟩
end Go.Proofs.YtichhjfjcinjgaaGreatDoor
