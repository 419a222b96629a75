import Derived.Test.YtichhjfjcinjgaaGreatDoorM32
set_option maxHeartbeats 8000000
set_option maxRecDepth 100000
namespace Go.Proofs.YtichhjfjcinjgaaGreatDoor
open Go.RowKit
attribute [local go_sem ↓] Go.wp_at_zero Go.wp_at_succ
theorem dI {w:World}{b:Nat}{v0 v1 v2 v3 v4 v5 v6:Value}{t:TypeId} (h:w.heap[b]?=some (.cells #[v0,v1,v2,v3,v4,v5,v6] t (0,0))):w.cell? ⟨b,0,none⟩=some v0∧w.cell? ⟨b,1,none⟩=some v1∧w.cell? ⟨b,2,none⟩=some v2∧w.cell? ⟨b,3,none⟩=some v3∧w.cell? ⟨b,4,none⟩=some v4∧w.cell? ⟨b,5,none⟩=some v5∧w.cell? ⟨b,6,none⟩=some v6 :=
 ⟨cell_of_row _ _ _ _ _ _ h,cell_of_row _ _ _ _ _ _ h,cell_of_row _ _ _ _ _ _ h,cell_of_row _ _ _ _ _ _ h,cell_of_row _ _ _ _ _ _ h,cell_of_row _ _ _ _ _ _ h,cell_of_row _ _ _ _ _ _ h⟩
noncomputable def gX:Nat→Ms→Bool
 |0,_=>false
 |f+1,.mk nm fs os ms es rs gs=>bD nm&&((rs.all (gf 1 536870911)&&gs.all bD)&&(A3 fs os.length&&(os.all bD&&(fs.all cK&&(es.all bc&&ms.all (gX f))))))
def Sv (f:Nat):Prop:=∀(W:World) (m:Ms) vf vo vm ve vr vg nm fs os ms es rs gs cm ce,Lw W m vf vo vm ve vr vg nm fs os ms es rs gs cm ce→∀(w0:World),Below W.heap.size W w0 →
 Calls Tryz.prog 51 #[.agg #[.string nm,vf,vo,vm,ve,vr,vg],.int .i64 (33-(f:Int))] w0 fun e w=>e=.returned (.bool (gX f m))∧Below w0.heap.size w0 w
theorem By:Sv 0:=by
 intro W m vf vo vm ve vr vg nm fs os ms es rs gs cm ce _ w0 _
 have HB:Hid (Below w0.heap.size w0 (w0.alloc (.cells #[.string nm,vf,vo,vm,ve,vr,vg] 46))):=(zE _ _).alloc (zD _) _
 rw[show (33:Int)-((0:Nat):Int)=33 from rfl]
 go_enter Tryz.func51,Tryz.ntmps51
 go_wp2
 go_ret
 exact ⟨rfl,ab HB⟩
theorem vw {f:Nat} (hf:f≤32) (ih:Sv f):Sv (f+1):=by
 intro W m vf vo vm ve vr vg nm fs os ms es rs gs cm ce hV w0 hw
 obtain ⟨dz,RQ⟩:∃z,(33-((f+1:Nat):Int))=z:=⟨_,rfl⟩
 rw[RQ]
 have Ib:0≤dz:=by omega
 have hd1:dz≤32:=by omega
 have XA:=al (show dz+1=33-(f:Int) by omega)
 have S2:=al (fun w' hb=>wa hV.hr hV.hg 1 536870911 w' hb)
 have XP:=al (fun w' hb=>zf hV w' hb)
 obtain rfl:=hV.is
 have vR:=al hV.fv
 have vQ:=al hV.et
 obtain ⟨af,cf,rfl,Py,lf⟩:=hV.hf
 obtain ⟨ao,co,rfl,nh,lo⟩:=hV.ho
 obtain ⟨am,dh,rfl,H4,lm⟩:=hV.hm
 obtain ⟨ae,da,rfl,iI,le⟩:=hV.he
 obtain ⟨ar,cr,rfl,-,-⟩:=hV.hr
 obtain ⟨ag,cg,rfl,-,-⟩:=hV.hg
 have O3:=al lf
 have OZ:=al lo
 have vO:=al lm
 have vP:=al le
 have Fm:=al ih
 have k0:=aK w0 (.cells #[.string nm,.slice af fs.length cf,.slice ao os.length co,.slice am ms.length dh,.slice ae es.length da,.slice ar rs.length cr,.slice ag gs.length cg] 46)
 have bG:Below w0.heap.size w0 (w0.alloc (.cells #[.string nm,.slice af fs.length cf,.slice ao os.length co,.slice am ms.length dh,.slice ae es.length da,.slice ar rs.length cr,.slice ag gs.length cg] 46)):=(zE _ _).alloc (zD _) _
 obtain ⟨V,fR⟩:∃V,w0.alloc (.cells #[.string nm,.slice af fs.length cf,.slice ao os.length co,.slice am ms.length dh,.slice ae es.length da,.slice ar rs.length cr,.slice ag gs.length cg] 46)=V:=⟨_,rfl⟩
 rw[fR] at k0 bG
 obtain ⟨c0,c1,c2,c3,c4,c5,c6⟩:=dI k0
 obtain ⟨R,hR⟩:∃R,gX (f+1) (.mk nm fs os ms es rs gs)=R:=⟨_,rfl⟩
 rw[hR]
 have HR:Hid ((bD nm&&((rs.all (gf 1 536870911)&&gs.all bD)&&(A3 fs os.length&&(os.all bD&&(fs.all cK&&(es.all bc&&ms.all (gX f)))))))=R):=by show _=R;rw[←hR];rfl
 have HW:=al hw
 have HB:=al bG
 have HK:=al k0
 have Vz:Below W.heap.size W V:=hw.trans (bG.mono hw.size)
 obtain ⟨q1,tX⟩:∃q,bD nm=q:=⟨_,rfl⟩
 obtain ⟨q2,jZ⟩:∃q,(rs.all (gf 1 536870911)&&gs.all bD)=q:=⟨_,rfl⟩
 obtain ⟨q3,nQ⟩:∃q,A3 fs os.length=q:=⟨_,rfl⟩
 have yo:=al (fY V nm)
 have yr:=al (ab S2 V Vz)
 rw[tX] at HR yo
 rw[jZ] at HR yr
 rw[nQ] at HR XP
 have XD:=al Vz
 clear tX jZ nQ lf lo lm le ih hw hR bG k0 Vz S2 RQ hf hV
 go_enter Tryz.func51,Tryz.ntmps51
 go_wp2_with fail
 refine (ab yo).mono ?_
 rintro e w ⟨rfl,rfl⟩
 cases q1 with
 |false =>
  go_wp2
  go_ret
  exact ⟨by rw[←ab HR];rfl,ab HB⟩
 |true =>
 go_wp2_with fail
 refine (ab yr).mono ?_
 rintro e w1 ⟨rfl,aW⟩
 have yF:=al ((aW.block _ (zA (ab HK)).1).trans (ab HK))
 have sg:=al ((ab HB).trans (aW.mono (ab HB).size))
 have FL:=al (ab XP w1 ((ab XD).trans (aW.mono (ab XD).size)))
 clear aW yr yo HB HK XP XD c0 c1 c2 c3 c4 c5 c6
 obtain ⟨c0,c1,c2,c3,c4,c5,c6⟩:=dI (ab yF)
 cases q2 with
 |false =>
  go_wp2
  go_ret
  exact ⟨by rw[←ab HR];rfl,ab sg⟩
 |true =>
 go_wp2_with fail
 refine (ab FL).mono ?_
 rintro e w2 ⟨rfl,bd⟩
 have Ft:=al ((bd.block _ (zA (ab yF)).1).trans (ab yF))
 have Yg:=al ((ab sg).trans (bd.mono (ab sg).size))
 clear bd FL sg yF c0 c1 c2 c3 c4 c5 c6
 obtain ⟨c0,c1,c2,c3,c4,c5,c6⟩:=dI (ab Ft)
 cases q3 with
 |false =>
  go_wp2
  go_ret
  exact ⟨by rw[←ab HR];rfl,ab Yg⟩
 |true =>
 have AU:Hid ((os.all bD&&(fs.all cK&&(es.all bc&&ms.all (gX f))))=R):=by have h:=ab HR;rw[Bool.true_and,Bool.true_and,Bool.true_and] at h;exact h
 clear HR
 go_wp2
 go_loopg [5] os.length (fun gk v5 wr=>∃(i:Nat),v5=.int .i64 (i:Int)∧gk=os.length-i∧i≤os.length∧Hid (((os.drop i).all bD&&(fs.all cK&&(es.all bc&&ms.all (gX f))))=R)∧Hid (Below w0.heap.size w0 wr)∧Hid (wr.heap[w0.heap.size]?=some (.cells #[.string nm,.slice af fs.length cf,.slice ao os.length co,.slice am ms.length dh,.slice ae es.length da,.slice ar rs.length cr,.slice ag gs.length cg] 46 (0,0))))
 case atStart=>exact ⟨0,rfl,rfl,by omega,ab AU,ab Yg,ab Ft⟩
 case round =>
  obtain ⟨i,rfl,aU,eS,HA,iK,kd⟩:=hrel
  have bz:=al aU
  clear aU AU Yg Ft
  obtain ⟨c0,c1,c2,c3,c4,c5,c6⟩:=dI (ab kd)
  by_cases aM:i<os.length
  ·have aS:Below W.heap.size W wr:=(ab HW).trans ((ab iK).mono (ab HW).size)
   obtain ⟨g,o,rfl,hg,hc⟩:=ab OZ (by omega)
   have hl:=List.getElem?_eq_getElem aM
   obtain ⟨s,hs⟩:∃d,os[i]=d:=⟨_,rfl⟩
   rw[hs] at hl
   have x0:=(aS.cell (p:=⟨g,o+i,none⟩) hg).trans (hc _ _ (dS hl))
   clear hc hs
   obtain ⟨q,hq⟩:∃q,bD s=q:=⟨_,rfl⟩
   have HS:Hid ((q&&((os.drop (i+1)).all bD&&(fs.all cK&&(es.all bc&&ms.all (gX f)))))=R):=by have:=ab HA;rw[ep hl,hq,Bool.and_assoc] at this;exact this
   have i0:(0:Int)≤(i:Int):=zH _
   have i1:(i:Int)<(os.length:Int):=by omega
   have bu:=al aM
   clear hl aS aM HA
   go_wp2_with fail
   refine (fY wr s).mono ?_
   rintro e w2 ⟨rfl,rfl⟩
   rw[hq]
   clear hq
   cases q with
   |false =>
    have HX:Hid (R=false):=by show R=_;rw[←ab HS];rfl
    clear HS
    go_wp2
    go_ret
    exact ⟨by rw[ab HX];rfl,ab iK⟩
   |true =>
    have HX:Hid (((os.drop (i+1)).all bD&&(fs.all cK&&(es.all bc&&ms.all (gX f))))=R):=by have:=ab HS;rw[Bool.true_and] at this;exact this
    clear HS
    go_wp2
    go_roundg (os.length-(i+1))
    case measure=>have:=ab bz;have:=ab bu;omega
    case rel=>exact ⟨i+1,by go_num,rfl,ab bu,HX,iK,kd⟩
  ·obtain rfl:i=os.length:=by omega
   have se:Hid (((fs.all cK&&(es.all bc&&ms.all (gX f))))=R):=by have h:=ab HA;rw[List.drop_length,List.all_nil,Bool.true_and] at h;exact h
   clear HA
   obtain ⟨Ug,iA⟩:∃x,x=wr:=⟨_,rfl⟩
   subst iA
   go_wp2
   go_loopg [6] fs.length (fun gk v6 wr=>∃(i:Nat),v6=.int .i64 (i:Int)∧gk=fs.length-i∧i≤fs.length∧Hid (((fs.drop i).all cK&&(es.all bc&&ms.all (gX f)))=R)∧Hid (Below w0.heap.size w0 wr)∧Hid (wr.heap[w0.heap.size]?=some (.cells #[.string nm,.slice af fs.length cf,.slice ao os.length co,.slice am ms.length dh,.slice ae es.length da,.slice ar rs.length cr,.slice ag gs.length cg] 46 (0,0))))
   case atStart=>exact ⟨0,rfl,rfl,by omega,ab se,ab iK,ab kd⟩
   case round =>
    obtain ⟨i,rfl,aU,eS,HA,cN,iH⟩:=hrel
    have bz:=al aU
    clear aU se iK kd
    obtain ⟨c0,c1,c2,c3,c4,c5,c6⟩:=dI (ab iH)
    by_cases aM:i<fs.length
    ·have aS:Below W.heap.size W wr:=(ab HW).trans ((ab cN).mono (ab HW).size)
     obtain ⟨g,o,rfl,hg,hc⟩:=ab O3 (by omega)
     have hl:=List.getElem?_eq_getElem aM
     obtain ⟨d,hd⟩:∃d,fs[i]=d:=⟨_,rfl⟩
     rw[hd] at hl
     obtain ⟨aP,key,ty,wK,num,aE⟩:=d
     have x0:=(aS.cell (p:=⟨g,o+(i*6+0),none⟩) hg).trans (hc _ _ ((cA hl (j:=0) (by decide)).trans rfl))
     have x1:=(aS.cell (p:=⟨g,o+(i*6+1),none⟩) hg).trans (hc _ _ ((cA hl (j:=1) (by decide)).trans rfl))
     have x2:=(aS.cell (p:=⟨g,o+(i*6+2),none⟩) hg).trans (hc _ _ ((cA hl (j:=2) (by decide)).trans rfl))
     have x3:=(aS.cell (p:=⟨g,o+(i*6+3),none⟩) hg).trans (hc _ _ ((cA hl (j:=3) (by decide)).trans rfl))
     have x4:=(aS.cell (p:=⟨g,o+(i*6+4),none⟩) hg).trans (hc _ _ ((cA hl (j:=4) (by decide)).trans rfl))
     have x5:=(aS.cell (p:=⟨g,o+(i*6+5),none⟩) hg).trans (hc _ _ ((cA hl (j:=5) (by decide)).trans rfl))
     rw[Nat.add_zero] at x0
     rw[←Nat.add_assoc] at x1 x2 x3 x4 x5
     clear hc hd
     obtain ⟨q,hq⟩:∃q,cK ⟨aP,key,ty,wK,num,aE⟩=q:=⟨_,rfl⟩
     have HS:Hid ((q&&((fs.drop (i+1)).all cK&&(es.all bc&&ms.all (gX f))))=R):=by have:=ab HA;rw[ep hl,hq,Bool.and_assoc] at this;exact this
     have LH:=al (BB wr ⟨aP,key,ty,wK,num,aE⟩)
     unfold Fd.cs at LH
     simp only at LH
     rw[hq] at LH
     have i0:(0:Int)≤(i:Int):=zH _
     have i1:(i:Int)<(fs.length:Int):=by omega
     have bu:=al aM
     clear hl aS aM HA
     clear hq
     go_wp2_with fail
     refine (ab LH).mono ?_
     rintro e w2 ⟨rfl,bd⟩
     have kh:=al ((ab cN).trans (bd.mono (ab cN).size))
     have mJ:=al ((bd.block _ (zA (ab iH)).1).trans (ab iH))
     clear bd cN iH LH c0 c1 c2 c3 c4 c5 c6
     obtain ⟨c0,c1,c2,c3,c4,c5,c6⟩:=dI (ab mJ)
     cases q with
     |false =>
      have HX:Hid (R=false):=by show R=_;rw[←ab HS];rfl
      clear HS
      go_wp2
      go_ret
      exact ⟨by rw[ab HX];rfl,ab kh⟩
     |true =>
      have HX:Hid (((fs.drop (i+1)).all cK&&(es.all bc&&ms.all (gX f)))=R):=by have:=ab HS;rw[Bool.true_and] at this;exact this
      clear HS
      go_wp2
      go_roundg (fs.length-(i+1))
      case measure=>have:=ab bz;have:=ab bu;omega
      case rel=>exact ⟨i+1,by go_num,rfl,ab bu,HX,kh,mJ⟩
    ·obtain rfl:i=fs.length:=by omega
     have lG:Hid (((es.all bc&&ms.all (gX f)))=R):=by have h:=ab HA;rw[List.drop_length,List.all_nil,Bool.true_and] at h;exact h
     clear HA
     obtain ⟨wo1,iA⟩:∃x,x=wr:=⟨_,rfl⟩
     subst iA
     go_wp2
     go_loopg [7] es.length (fun gk v7 wr=>∃(i:Nat),v7=.int .i64 (i:Int)∧gk=es.length-i∧i≤es.length∧Hid (((es.drop i).all bc&&ms.all (gX f))=R)∧Hid (Below w0.heap.size w0 wr)∧Hid (wr.heap[w0.heap.size]?=some (.cells #[.string nm,.slice af fs.length cf,.slice ao os.length co,.slice am ms.length dh,.slice ae es.length da,.slice ar rs.length cr,.slice ag gs.length cg] 46 (0,0))))
     case atStart=>exact ⟨0,rfl,rfl,by omega,ab lG,ab cN,ab iH⟩
     case round =>
      obtain ⟨i,rfl,aU,eS,HA,cR,fD⟩:=hrel
      have bz:=al aU
      clear aU lG cN iH
      obtain ⟨c0,c1,c2,c3,c4,c5,c6⟩:=dI (ab fD)
      by_cases aM:i<es.length
      ·have aS:Below W.heap.size W wr:=(ab HW).trans ((ab cR).mono (ab HW).size)
       obtain ⟨g,o,rfl,hg,hc⟩:=ab vP (by omega)
       have hl:=List.getElem?_eq_getElem aM
       obtain ⟨t,ht⟩:∃d,es[i]=d:=⟨_,rfl⟩
       rw[ht] at hl
       obtain ⟨vv,Bg,Bj,dU,rv,rr,rg⟩:=(ab vR).at i t hl
       have gR:=al (And.intro rv (And.intro rr rg))
       obtain ⟨av,cv,rfl,-,-⟩:=rv
       obtain ⟨qT,qQ,rfl,-,-⟩:=rr
       obtain ⟨qU,qS,rfl,-,-⟩:=rg
       have key:∀(j:Nat) (x:Value),[Value.string t.name,.slice av t.aQ.length cv,.slice qT t.res.length qQ,.slice qU t.gone.length qS][j]?=some x→wr.cell? ⟨g,o+(i*4+j),none⟩=some x:=fun j x hx=>(aS.cell (p:=⟨g,o+(i*4+j),none⟩) hg).trans (hc _ _ (by
        rw[←dU,List.getElem?_take,List.getElem?_drop] at hx
        split at hx
        ·exact hx
        ·cases hx))
       have x0:wr.cell? ⟨g,o+i*4,none⟩=_:=key 0 _ rfl
       have x1:wr.cell? ⟨g,o+i*4+1,none⟩=_:=key 1 _ rfl
       have x2:wr.cell? ⟨g,o+i*4+2,none⟩=_:=key 2 _ rfl
       have x3:wr.cell? ⟨g,o+i*4+3,none⟩=_:=key 3 _ rfl
       clear hc ht key dU
       obtain ⟨q,hq⟩:∃q,bc t=q:=⟨_,rfl⟩
       have HS:Hid ((q&&((es.drop (i+1)).all bc&&ms.all (gX f)))=R):=by have:=ab HA;rw[ep hl,hq,Bool.and_assoc] at this;exact this
       have FM:=al (pz (ab gR).1 (ab gR).2.1 (ab gR).2.2 wr aS)
       rw[hq] at FM
       have i0:(0:Int)≤(i:Int):=zH _
       have i1:(i:Int)<(es.length:Int):=by omega
       have bu:=al aM
       clear hl aS aM HA gR
       clear hq
       go_wp2_with fail
       refine (ab FM).mono ?_
       rintro e w2 ⟨rfl,bd⟩
       have kh:=al ((ab cR).trans (bd.mono (ab cR).size))
       have mJ:=al ((bd.block _ (zA (ab fD)).1).trans (ab fD))
       clear bd cR fD FM c0 c1 c2 c3 c4 c5 c6
       obtain ⟨c0,c1,c2,c3,c4,c5,c6⟩:=dI (ab mJ)
       cases q with
       |false =>
        have HX:Hid (R=false):=by show R=_;rw[←ab HS];rfl
        clear HS
        go_wp2
        go_ret
        exact ⟨by rw[ab HX];rfl,ab kh⟩
       |true =>
        have HX:Hid (((es.drop (i+1)).all bc&&ms.all (gX f))=R):=by have:=ab HS;rw[Bool.true_and] at this;exact this
        clear HS
        go_wp2
        go_roundg (es.length-(i+1))
        case measure=>have:=ab bz;have:=ab bu;omega
        case rel=>exact ⟨i+1,by go_num,rfl,ab bu,HX,kh,mJ⟩
      ·obtain rfl:i=es.length:=by omega
       have SQ:Hid ((ms.all (gX f))=R):=by have h:=ab HA;rw[List.drop_length,List.all_nil,Bool.true_and] at h;exact h
       clear HA
       obtain ⟨wo2,iA⟩:∃x,x=wr:=⟨_,rfl⟩
       subst iA
       go_wp2
       go_loopg [8] ms.length (fun gk v8 wr=>∃(i:Nat),v8=.int .i64 (i:Int)∧gk=ms.length-i∧i≤ms.length∧Hid (((ms.drop i).all (gX f))=R)∧Hid (Below w0.heap.size w0 wr)∧Hid (wr.heap[w0.heap.size]?=some (.cells #[.string nm,.slice af fs.length cf,.slice ao os.length co,.slice am ms.length dh,.slice ae es.length da,.slice ar rs.length cr,.slice ag gs.length cg] 46 (0,0))))
       case atStart=>exact ⟨0,rfl,rfl,by omega,ab SQ,ab cR,ab fD⟩
       case round =>
        obtain ⟨i,rfl,aU,eS,HA,ed,mK⟩:=hrel
        have bz:=al aU
        clear aU SQ cR fD
        obtain ⟨c0,c1,c2,c3,c4,c5,c6⟩:=dI (ab mK)
        by_cases aM:i<ms.length
        ·have aS:Below W.heap.size W wr:=(ab HW).trans ((ab ed).mono (ab HW).size)
         obtain ⟨g,o,rfl,hg,hc⟩:=ab vO (by omega)
         have hl:=List.getElem?_eq_getElem aM
         obtain ⟨t,ht⟩:∃d,ms[i]=d:=⟨_,rfl⟩
         rw[ht] at hl
         obtain ⟨MJ,MI,Pb,MK,Bg,Bj,xy,DD,Dh,qK,wP,Da,DB,IJ,JD,dU,fR⟩:=(ab vQ).at i t hl
         have gR:=al fR
         obtain ⟨Ff,E8,rfl,-,-⟩:=fR.hf
         obtain ⟨DO,DL,rfl,-,-⟩:=fR.ho
         obtain ⟨AM,mg,rfl,-,-⟩:=fR.hm
         obtain ⟨Fg,pP,rfl,-,-⟩:=fR.he
         obtain ⟨qT,qQ,rfl,-,-⟩:=fR.hr
         obtain ⟨qU,qS,rfl,-,-⟩:=fR.hg
         have key:∀(j:Nat) (x:Value),[Value.string xy,.slice Ff DD.length E8,.slice DO Dh.length DL,.slice AM qK.length mg,.slice Fg wP.length pP,.slice qT Da.length qQ,.slice qU DB.length qS][j]?=some x→wr.cell? ⟨g,o+(i*7+j),none⟩=some x:=fun j x hx=>(aS.cell (p:=⟨g,o+(i*7+j),none⟩) hg).trans (hc _ _ (by
          rw[←dU,List.getElem?_take,List.getElem?_drop] at hx
          split at hx
          ·exact hx
          ·cases hx))
         have x0:wr.cell? ⟨g,o+i*7,none⟩=_:=key 0 _ rfl
         have x1:wr.cell? ⟨g,o+i*7+1,none⟩=_:=key 1 _ rfl
         have x2:wr.cell? ⟨g,o+i*7+2,none⟩=_:=key 2 _ rfl
         have x3:wr.cell? ⟨g,o+i*7+3,none⟩=_:=key 3 _ rfl
         have x4:wr.cell? ⟨g,o+i*7+4,none⟩=_:=key 4 _ rfl
         have x5:wr.cell? ⟨g,o+i*7+5,none⟩=_:=key 5 _ rfl
         have x6:wr.cell? ⟨g,o+i*7+6,none⟩=_:=key 6 _ rfl
         clear hc ht key dU
         obtain ⟨q,hq⟩:∃q,gX f t=q:=⟨_,rfl⟩
         have HS:Hid ((q&&(ms.drop (i+1)).all (gX f))=R):=by have:=ab HA;rw[ep hl,hq] at this;exact this
         have Fs:=al (ab Fm _ _ _ _ _ _ _ _ _ _ _ _ _ _ _ _ _ (ab gR) wr aS)
         rw[hq] at Fs
         rw[←ab XA] at Fs
         have i0:(0:Int)≤(i:Int):=zH _
         have i1:(i:Int)<(ms.length:Int):=by omega
         have bu:=al aM
         clear hl aS aM HA gR
         clear hq
         go_wp2_with fail
         refine (ab Fs).mono ?_
         rintro e w2 ⟨rfl,bd⟩
         have kh:=al ((ab ed).trans (bd.mono (ab ed).size))
         have mJ:=al ((bd.block _ (zA (ab mK)).1).trans (ab mK))
         clear bd ed mK Fs c0 c1 c2 c3 c4 c5 c6
         obtain ⟨c0,c1,c2,c3,c4,c5,c6⟩:=dI (ab mJ)
         cases q with
         |false =>
          have HX:Hid (R=false):=by show R=_;rw[←ab HS];rfl
          clear HS
          go_wp2
          go_ret
          exact ⟨by rw[ab HX];rfl,ab kh⟩
         |true =>
          have HX:Hid (((ms.drop (i+1)).all (gX f))=R):=by have:=ab HS;rw[Bool.true_and] at this;exact this
          clear HS
          go_wp2
          go_roundg (ms.length-(i+1))
          case measure=>have:=ab bz;have:=ab bu;omega
          case rel=>exact ⟨i+1,by go_num,rfl,ab bu,HX,kh,mJ⟩
        ·obtain rfl:i=ms.length:=by omega
         have HX:Hid (R=true):=by have h:=ab HA;rw[List.drop_length] at h;exact h.symm
         clear HA
         go_wp2
         go_ret
         exact ⟨by rw[ab HX];rfl,ab ed⟩
theorem nX:∀f,f≤33→Sv f
 |0,_=>By
 |f+1,h=>vw (by omega) (nX f (by omega))
end Go.Proofs.YtichhjfjcinjgaaGreatDoor
