import Derived.Test.YtichhjfjcinjgaaGreatDoorM32
set_option maxHeartbeats 8000000
set_option maxRecDepth 100000
namespace Go.Proofs.YtichhjfjcinjgaaGreatDoor
open Go.RowKit
attribute [local go_sem ↓] Go.wp_at_zero Go.wp_at_succ
theorem dK {w:World}{b:Nat}{v0 v1 v2 v3 v4 v5 v6:Value}{t:TypeId} (h:w.heap[b]?=some (.cells #[v0,v1,v2,v3,v4,v5,v6] t (0,0))):w.cell? ⟨b,0,none⟩=some v0∧w.cell? ⟨b,1,none⟩=some v1∧w.cell? ⟨b,2,none⟩=some v2∧w.cell? ⟨b,3,none⟩=some v3∧w.cell? ⟨b,4,none⟩=some v4∧w.cell? ⟨b,5,none⟩=some v5∧w.cell? ⟨b,6,none⟩=some v6 :=
 ⟨cell_of_row _ _ _ _ _ _ h,cell_of_row _ _ _ _ _ _ h,cell_of_row _ _ _ _ _ _ h,cell_of_row _ _ _ _ _ _ h,cell_of_row _ _ _ _ _ _ h,cell_of_row _ _ _ _ _ _ h,cell_of_row _ _ _ _ _ _ h⟩
noncomputable def ib:Nat→Ms→Bool
 |0,_=>false
 |f+1,.mk nm fs os ms es rs gs=>bD nm&&((rs.all (gC 1 536870911)&&gs.all bD)&&(Bs fs os.length&&(os.all bD&&(fs.all cL&&(es.all bc&&ms.all (ib f))))))
def SX (f:Nat):Prop:=∀(W:World) (m:Ms) vf vo vm ve vr vg nm fs os ms es rs gs cm ce,L0 W m vf vo vm ve vr vg nm fs os ms es rs gs cm ce→∀(w0:World),Below W.heap.size W w0 →
 Calls Tryz.prog 51 #[.agg #[.string nm,vf,vo,vm,ve,vr,vg],.int .i64 (33-(f:Int))] w0 fun e w=>e=.returned (.bool (ib f m))∧Below w0.heap.size w0 w
theorem B0:SX 0:=by
 intro W m vf vo vm ve vr vg nm fs os ms es rs gs cm ce _ w0 _
 have HB:Hid (Below w0.heap.size w0 (w0.alloc (.cells #[.string nm,vf,vo,vm,ve,vr,vg] 46))):=(zE _ _).alloc (zD _) _
 rw[show (33:Int)-((0:Nat):Int)=33 from rfl]
 go_enter Tryz.func51,Tryz.ntmps51
 go_wp2
 go_ret
 exact ⟨rfl,ab HB⟩
theorem vS {f:Nat} (hf:f≤32) (ih:SX f):SX (f+1):=by
 intro W m vf vo vm ve vr vg nm fs os ms es rs gs cm ce hV w0 hw
 obtain ⟨dz,Sk⟩:∃z,(33-((f+1:Nat):Int))=z:=⟨_,rfl⟩
 rw[Sk]
 have IK:0≤dz:=by omega
 have hd1:dz≤32:=by omega
 have X':=al (show dz+1=33-(f:Int) by omega)
 have Tr:=al (fun w' hb=>wP hV.hr hV.hg 1 536870911 w' hb)
 have Ym:=al (fun w' hb=>Ae hV w' hb)
 obtain rfl:=hV.is
 have wH:=al hV.fA
 have wG:=al hV.eo
 obtain ⟨af,cf,rfl,P0,lf⟩:=hV.hf
 obtain ⟨ao,co,rfl,nJ,lo⟩:=hV.ho
 obtain ⟨am,dk,rfl,IC,lm⟩:=hV.hm
 obtain ⟨ae,dc,rfl,iP,le⟩:=hV.he
 obtain ⟨ar,cr,rfl,-,-⟩:=hV.hr
 obtain ⟨ag,cg,rfl,-,-⟩:=hV.hg
 have Py:=al lf
 have Pv:=al lo
 have wz:=al lm
 have wF:=al le
 have FU:=al ih
 have k0:=aJ w0 (.cells #[.string nm,.slice af fs.length cf,.slice ao os.length co,.slice am ms.length dk,.slice ae es.length dc,.slice ar rs.length cr,.slice ag gs.length cg] 46)
 have bG:Below w0.heap.size w0 (w0.alloc (.cells #[.string nm,.slice af fs.length cf,.slice ao os.length co,.slice am ms.length dk,.slice ae es.length dc,.slice ar rs.length cr,.slice ag gs.length cg] 46)):=(zE _ _).alloc (zD _) _
 obtain ⟨V,fX⟩:∃V,w0.alloc (.cells #[.string nm,.slice af fs.length cf,.slice ao os.length co,.slice am ms.length dk,.slice ae es.length dc,.slice ar rs.length cr,.slice ag gs.length cg] 46)=V:=⟨_,rfl⟩
 rw[fX] at k0 bG
 obtain ⟨c0,c1,c2,c3,c4,c5,c6⟩:=dK k0
 obtain ⟨R,hR⟩:∃R,ib (f+1) (.mk nm fs os ms es rs gs)=R:=⟨_,rfl⟩
 rw[hR]
 have HR:Hid ((bD nm&&((rs.all (gC 1 536870911)&&gs.all bD)&&(Bs fs os.length&&(os.all bD&&(fs.all cL&&(es.all bc&&ms.all (ib f)))))))=R):=by show _=R;rw[←hR];rfl
 have HW:=al hw
 have HB:=al bG
 have HK:=al k0
 have V5:Below W.heap.size W V:=hw.trans (bG.mono hw.size)
 obtain ⟨q1,uP⟩:∃q,bD nm=q:=⟨_,rfl⟩
 obtain ⟨q2,gT⟩:∃q,(rs.all (gC 1 536870911)&&gs.all bD)=q:=⟨_,rfl⟩
 obtain ⟨q3,oy⟩:∃q,Bs fs os.length=q:=⟨_,rfl⟩
 have sE:=al (gu V nm)
 have yV:=al (ab Tr V V5)
 rw[uP] at HR sE
 rw[gT] at HR yV
 rw[oy] at HR Ym
 have Yc:=al V5
 clear uP gT oy lf lo lm le ih hw hR bG k0 V5 Tr Sk hf hV
 go_enter Tryz.func51,Tryz.ntmps51
 go_wp2_with fail
 refine (ab sE).mono ?_
 rintro e w ⟨rfl,rfl⟩
 cases q1 with
 |false =>
  go_wp2
  go_ret
  exact ⟨by rw[←ab HR];rfl,ab HB⟩
 |true =>
 go_wp2_with fail
 refine (ab yV).mono ?_
 rintro e w1 ⟨rfl,aX⟩
 have zi:=al ((aX.block _ (zA (ab HK)).1).trans (ab HK))
 have sI:=al ((ab HB).trans (aX.mono (ab HB).size))
 have Gh:=al (ab Ym w1 ((ab Yc).trans (aX.mono (ab Yc).size)))
 clear aX yV sE HB HK Ym Yc c0 c1 c2 c3 c4 c5 c6
 obtain ⟨c0,c1,c2,c3,c4,c5,c6⟩:=dK (ab zi)
 cases q2 with
 |false =>
  go_wp2
  go_ret
  exact ⟨by rw[←ab HR];rfl,ab sI⟩
 |true =>
 go_wp2_with fail
 refine (ab Gh).mono ?_
 rintro e w2 ⟨rfl,bd⟩
 have F1:=al ((bd.block _ (zA (ab zi)).1).trans (ab zi))
 have YH:=al ((ab sI).trans (bd.mono (ab sI).size))
 clear bd Gh sI zi c0 c1 c2 c3 c4 c5 c6
 obtain ⟨c0,c1,c2,c3,c4,c5,c6⟩:=dK (ab F1)
 cases q3 with
 |false =>
  go_wp2
  go_ret
  exact ⟨by rw[←ab HR];rfl,ab YH⟩
 |true =>
 have Bj:Hid ((os.all bD&&(fs.all cL&&(es.all bc&&ms.all (ib f))))=R):=by have h:=ab HR;rw[Bool.true_and,Bool.true_and,Bool.true_and] at h;exact h
 clear HR
 go_wp2
 go_loopg [5] os.length (fun gk v5 wr=>∃(i:Nat),v5=.int .i64 (i:Int)∧gk=os.length-i∧i≤os.length∧Hid (((os.drop i).all bD&&(fs.all cL&&(es.all bc&&ms.all (ib f))))=R)∧Hid (Below w0.heap.size w0 wr)∧Hid (wr.heap[w0.heap.size]?=some (.cells #[.string nm,.slice af fs.length cf,.slice ao os.length co,.slice am ms.length dk,.slice ae es.length dc,.slice ar rs.length cr,.slice ag gs.length cg] 46 (0,0))))
 case atStart=>exact ⟨0,rfl,rfl,by omega,ab Bj,ab YH,ab F1⟩
 case round =>
  obtain ⟨i,rfl,aW,eV,HA,iR,kA⟩:=hrel
  have bz:=al aW
  clear aW Bj YH F1
  obtain ⟨c0,c1,c2,c3,c4,c5,c6⟩:=dK (ab kA)
  by_cases aM:i<os.length
  ·have aT:Below W.heap.size W wr:=(ab HW).trans ((ab iR).mono (ab HW).size)
   obtain ⟨g,o,rfl,hg,hc⟩:=ab Pv (by omega)
   have hl:=List.getElem?_eq_getElem aM
   obtain ⟨s,hs⟩:∃d,os[i]=d:=⟨_,rfl⟩
   rw[hs] at hl
   have x0:=(aT.cell (p:=⟨g,o+i,none⟩) hg).trans (hc _ _ (dT hl))
   clear hc hs
   obtain ⟨q,hq⟩:∃q,bD s=q:=⟨_,rfl⟩
   have HS:Hid ((q&&((os.drop (i+1)).all bD&&(fs.all cL&&(es.all bc&&ms.all (ib f)))))=R):=by have:=ab HA;rw[ew hl,hq,Bool.and_assoc] at this;exact this
   have i0:(0:Int)≤(i:Int):=zH _
   have i1:(i:Int)<(os.length:Int):=by omega
   have bu:=al aM
   clear hl aT aM HA
   go_wp2_with fail
   refine (gu wr s).mono ?_
   rintro e w2 ⟨rfl,rfl⟩
   rw[hq]
   clear hq
   cases q with
   |false =>
    have HX:Hid (R=false):=by show R=_;rw[←ab HS];rfl
    clear HS
    go_wp2
    go_ret
    exact ⟨by rw[ab HX];rfl,ab iR⟩
   |true =>
    have HX:Hid (((os.drop (i+1)).all bD&&(fs.all cL&&(es.all bc&&ms.all (ib f))))=R):=by have:=ab HS;rw[Bool.true_and] at this;exact this
    clear HS
    go_wp2
    go_roundg (os.length-(i+1))
    case measure=>have:=ab bz;have:=ab bu;omega
    case rel=>exact ⟨i+1,by go_num,rfl,ab bu,HX,iR,kA⟩
  ·obtain rfl:i=os.length:=by omega
   have sG:Hid (((fs.all cL&&(es.all bc&&ms.all (ib f))))=R):=by have h:=ab HA;rw[List.drop_length,List.all_nil,Bool.true_and] at h;exact h
   clear HA
   obtain ⟨UG,iI⟩:∃x,x=wr:=⟨_,rfl⟩
   subst iI
   go_wp2
   go_loopg [6] fs.length (fun gk v6 wr=>∃(i:Nat),v6=.int .i64 (i:Int)∧gk=fs.length-i∧i≤fs.length∧Hid (((fs.drop i).all cL&&(es.all bc&&ms.all (ib f)))=R)∧Hid (Below w0.heap.size w0 wr)∧Hid (wr.heap[w0.heap.size]?=some (.cells #[.string nm,.slice af fs.length cf,.slice ao os.length co,.slice am ms.length dk,.slice ae es.length dc,.slice ar rs.length cr,.slice ag gs.length cg] 46 (0,0))))
   case atStart=>exact ⟨0,rfl,rfl,by omega,ab sG,ab iR,ab kA⟩
   case round =>
    obtain ⟨i,rfl,aW,eV,HA,cO,iO⟩:=hrel
    have bz:=al aW
    clear aW sG iR kA
    obtain ⟨c0,c1,c2,c3,c4,c5,c6⟩:=dK (ab iO)
    by_cases aM:i<fs.length
    ·have aT:Below W.heap.size W wr:=(ab HW).trans ((ab cO).mono (ab HW).size)
     obtain ⟨g,o,rfl,hg,hc⟩:=ab Py (by omega)
     have hl:=List.getElem?_eq_getElem aM
     obtain ⟨d,hd⟩:∃d,fs[i]=d:=⟨_,rfl⟩
     rw[hd] at hl
     obtain ⟨aQ,key,ty,xk,num,aE⟩:=d
     have x0:=(aT.cell (p:=⟨g,o+(i*6+0),none⟩) hg).trans (hc _ _ ((cC hl (j:=0) (by decide)).trans rfl))
     have x1:=(aT.cell (p:=⟨g,o+(i*6+1),none⟩) hg).trans (hc _ _ ((cC hl (j:=1) (by decide)).trans rfl))
     have x2:=(aT.cell (p:=⟨g,o+(i*6+2),none⟩) hg).trans (hc _ _ ((cC hl (j:=2) (by decide)).trans rfl))
     have x3:=(aT.cell (p:=⟨g,o+(i*6+3),none⟩) hg).trans (hc _ _ ((cC hl (j:=3) (by decide)).trans rfl))
     have x4:=(aT.cell (p:=⟨g,o+(i*6+4),none⟩) hg).trans (hc _ _ ((cC hl (j:=4) (by decide)).trans rfl))
     have x5:=(aT.cell (p:=⟨g,o+(i*6+5),none⟩) hg).trans (hc _ _ ((cC hl (j:=5) (by decide)).trans rfl))
     rw[Nat.add_zero] at x0
     rw[←Nat.add_assoc] at x1 x2 x3 x4 x5
     clear hc hd
     obtain ⟨q,hq⟩:∃q,cL ⟨aQ,key,ty,xk,num,aE⟩=q:=⟨_,rfl⟩
     have HS:Hid ((q&&((fs.drop (i+1)).all cL&&(es.all bc&&ms.all (ib f))))=R):=by have:=ab HA;rw[ew hl,hq,Bool.and_assoc] at this;exact this
     have Ma:=al (B4 wr ⟨aQ,key,ty,xk,num,aE⟩)
     unfold Fd.cs at Ma
     simp only at Ma
     rw[hq] at Ma
     have i0:(0:Int)≤(i:Int):=zH _
     have i1:(i:Int)<(fs.length:Int):=by omega
     have bu:=al aM
     clear hl aT aM HA
     clear hq
     go_wp2_with fail
     refine (ab Ma).mono ?_
     rintro e w2 ⟨rfl,bd⟩
     have kB:=al ((ab cO).trans (bd.mono (ab cO).size))
     have mZ:=al ((bd.block _ (zA (ab iO)).1).trans (ab iO))
     clear bd cO iO Ma c0 c1 c2 c3 c4 c5 c6
     obtain ⟨c0,c1,c2,c3,c4,c5,c6⟩:=dK (ab mZ)
     cases q with
     |false =>
      have HX:Hid (R=false):=by show R=_;rw[←ab HS];rfl
      clear HS
      go_wp2
      go_ret
      exact ⟨by rw[ab HX];rfl,ab kB⟩
     |true =>
      have HX:Hid (((fs.drop (i+1)).all cL&&(es.all bc&&ms.all (ib f)))=R):=by have:=ab HS;rw[Bool.true_and] at this;exact this
      clear HS
      go_wp2
      go_roundg (fs.length-(i+1))
      case measure=>have:=ab bz;have:=ab bu;omega
      case rel=>exact ⟨i+1,by go_num,rfl,ab bu,HX,kB,mZ⟩
    ·obtain rfl:i=fs.length:=by omega
     have lX:Hid (((es.all bc&&ms.all (ib f)))=R):=by have h:=ab HA;rw[List.drop_length,List.all_nil,Bool.true_and] at h;exact h
     clear HA
     obtain ⟨wo1,iI⟩:∃x,x=wr:=⟨_,rfl⟩
     subst iI
     go_wp2
     go_loopg [7] es.length (fun gk v7 wr=>∃(i:Nat),v7=.int .i64 (i:Int)∧gk=es.length-i∧i≤es.length∧Hid (((es.drop i).all bc&&ms.all (ib f))=R)∧Hid (Below w0.heap.size w0 wr)∧Hid (wr.heap[w0.heap.size]?=some (.cells #[.string nm,.slice af fs.length cf,.slice ao os.length co,.slice am ms.length dk,.slice ae es.length dc,.slice ar rs.length cr,.slice ag gs.length cg] 46 (0,0))))
     case atStart=>exact ⟨0,rfl,rfl,by omega,ab lX,ab cO,ab iO⟩
     case round =>
      obtain ⟨i,rfl,aW,eV,HA,cS,fI⟩:=hrel
      have bz:=al aW
      clear aW lX cO iO
      obtain ⟨c0,c1,c2,c3,c4,c5,c6⟩:=dK (ab fI)
      by_cases aM:i<es.length
      ·have aT:Below W.heap.size W wr:=(ab HW).trans ((ab cS).mono (ab HW).size)
       obtain ⟨g,o,rfl,hg,hc⟩:=ab wF (by omega)
       have hl:=List.getElem?_eq_getElem aM
       obtain ⟨t,ht⟩:∃d,es[i]=d:=⟨_,rfl⟩
       rw[ht] at hl
       obtain ⟨vv,BG,BJ,dV,rv,rr,rg⟩:=(ab wH).at i t hl
       have gY:=al (And.intro rv (And.intro rr rg))
       obtain ⟨av,cv,rfl,-,-⟩:=rv
       obtain ⟨ry,rp,rfl,-,-⟩:=rr
       obtain ⟨rz,ru,rfl,-,-⟩:=rg
       have key:∀(j:Nat) (x:Value),[Value.string t.name,.slice av t.aR.length cv,.slice ry t.res.length rp,.slice rz t.gone.length ru][j]?=some x→wr.cell? ⟨g,o+(i*4+j),none⟩=some x:=fun j x hx=>(aT.cell (p:=⟨g,o+(i*4+j),none⟩) hg).trans (hc _ _ (by
        rw[←dV,List.getElem?_take,List.getElem?_drop] at hx
        split at hx
        ·exact hx
        ·cases hx))
       have x0:wr.cell? ⟨g,o+i*4,none⟩=_:=key 0 _ rfl
       have x1:wr.cell? ⟨g,o+i*4+1,none⟩=_:=key 1 _ rfl
       have x2:wr.cell? ⟨g,o+i*4+2,none⟩=_:=key 2 _ rfl
       have x3:wr.cell? ⟨g,o+i*4+3,none⟩=_:=key 3 _ rfl
       clear hc ht key dV
       obtain ⟨q,hq⟩:∃q,bc t=q:=⟨_,rfl⟩
       have HS:Hid ((q&&((es.drop (i+1)).all bc&&ms.all (ib f)))=R):=by have:=ab HA;rw[ew hl,hq,Bool.and_assoc] at this;exact this
       have Gi:=al (pR (ab gY).1 (ab gY).2.1 (ab gY).2.2 wr aT)
       rw[hq] at Gi
       have i0:(0:Int)≤(i:Int):=zH _
       have i1:(i:Int)<(es.length:Int):=by omega
       have bu:=al aM
       clear hl aT aM HA gY
       clear hq
       go_wp2_with fail
       refine (ab Gi).mono ?_
       rintro e w2 ⟨rfl,bd⟩
       have kB:=al ((ab cS).trans (bd.mono (ab cS).size))
       have mZ:=al ((bd.block _ (zA (ab fI)).1).trans (ab fI))
       clear bd cS fI Gi c0 c1 c2 c3 c4 c5 c6
       obtain ⟨c0,c1,c2,c3,c4,c5,c6⟩:=dK (ab mZ)
       cases q with
       |false =>
        have HX:Hid (R=false):=by show R=_;rw[←ab HS];rfl
        clear HS
        go_wp2
        go_ret
        exact ⟨by rw[ab HX];rfl,ab kB⟩
       |true =>
        have HX:Hid (((es.drop (i+1)).all bc&&ms.all (ib f))=R):=by have:=ab HS;rw[Bool.true_and] at this;exact this
        clear HS
        go_wp2
        go_roundg (es.length-(i+1))
        case measure=>have:=ab bz;have:=ab bu;omega
        case rel=>exact ⟨i+1,by go_num,rfl,ab bu,HX,kB,mZ⟩
      ·obtain rfl:i=es.length:=by omega
       have Tg:Hid ((ms.all (ib f))=R):=by have h:=ab HA;rw[List.drop_length,List.all_nil,Bool.true_and] at h;exact h
       clear HA
       obtain ⟨wo2,iI⟩:∃x,x=wr:=⟨_,rfl⟩
       subst iI
       go_wp2
       go_loopg [8] ms.length (fun gk v8 wr=>∃(i:Nat),v8=.int .i64 (i:Int)∧gk=ms.length-i∧i≤ms.length∧Hid (((ms.drop i).all (ib f))=R)∧Hid (Below w0.heap.size w0 wr)∧Hid (wr.heap[w0.heap.size]?=some (.cells #[.string nm,.slice af fs.length cf,.slice ao os.length co,.slice am ms.length dk,.slice ae es.length dc,.slice ar rs.length cr,.slice ag gs.length cg] 46 (0,0))))
       case atStart=>exact ⟨0,rfl,rfl,by omega,ab Tg,ab cS,ab fI⟩
       case round =>
        obtain ⟨i,rfl,aW,eV,HA,eh,na⟩:=hrel
        have bz:=al aW
        clear aW Tg cS fI
        obtain ⟨c0,c1,c2,c3,c4,c5,c6⟩:=dK (ab na)
        by_cases aM:i<ms.length
        ·have aT:Below W.heap.size W wr:=(ab HW).trans ((ab eh).mono (ab HW).size)
         obtain ⟨g,o,rfl,hg,hc⟩:=ab wz (by omega)
         have hl:=List.getElem?_eq_getElem aM
         obtain ⟨t,ht⟩:∃d,ms[i]=d:=⟨_,rfl⟩
         rw[ht] at hl
         obtain ⟨M',M9,PI,Na,BG,BJ,xZ,D6,DI,rh,xu,DB,D4,Je,Kb,dV,fX⟩:=(ab wG).at i t hl
         have gY:=al fX
         obtain ⟨FN,FG,rfl,-,-⟩:=fX.hf
         obtain ⟨Eh,Ee,rfl,-,-⟩:=fX.ho
         obtain ⟨Ba,mD,rfl,-,-⟩:=fX.hm
         obtain ⟨FO,qj,rfl,-,-⟩:=fX.he
         obtain ⟨ry,rp,rfl,-,-⟩:=fX.hr
         obtain ⟨rz,ru,rfl,-,-⟩:=fX.hg
         have key:∀(j:Nat) (x:Value),[Value.string xZ,.slice FN D6.length FG,.slice Eh DI.length Ee,.slice Ba rh.length mD,.slice FO xu.length qj,.slice ry DB.length rp,.slice rz D4.length ru][j]?=some x→wr.cell? ⟨g,o+(i*7+j),none⟩=some x:=fun j x hx=>(aT.cell (p:=⟨g,o+(i*7+j),none⟩) hg).trans (hc _ _ (by
          rw[←dV,List.getElem?_take,List.getElem?_drop] at hx
          split at hx
          ·exact hx
          ·cases hx))
         have x0:wr.cell? ⟨g,o+i*7,none⟩=_:=key 0 _ rfl
         have x1:wr.cell? ⟨g,o+i*7+1,none⟩=_:=key 1 _ rfl
         have x2:wr.cell? ⟨g,o+i*7+2,none⟩=_:=key 2 _ rfl
         have x3:wr.cell? ⟨g,o+i*7+3,none⟩=_:=key 3 _ rfl
         have x4:wr.cell? ⟨g,o+i*7+4,none⟩=_:=key 4 _ rfl
         have x5:wr.cell? ⟨g,o+i*7+5,none⟩=_:=key 5 _ rfl
         have x6:wr.cell? ⟨g,o+i*7+6,none⟩=_:=key 6 _ rfl
         clear hc ht key dV
         obtain ⟨q,hq⟩:∃q,ib f t=q:=⟨_,rfl⟩
         have HS:Hid ((q&&(ms.drop (i+1)).all (ib f))=R):=by have:=ab HA;rw[ew hl,hq] at this;exact this
         have FZ:=al (ab FU _ _ _ _ _ _ _ _ _ _ _ _ _ _ _ _ _ (ab gY) wr aT)
         rw[hq] at FZ
         rw[←ab X'] at FZ
         have i0:(0:Int)≤(i:Int):=zH _
         have i1:(i:Int)<(ms.length:Int):=by omega
         have bu:=al aM
         clear hl aT aM HA gY
         clear hq
         go_wp2_with fail
         refine (ab FZ).mono ?_
         rintro e w2 ⟨rfl,bd⟩
         have kB:=al ((ab eh).trans (bd.mono (ab eh).size))
         have mZ:=al ((bd.block _ (zA (ab na)).1).trans (ab na))
         clear bd eh na FZ c0 c1 c2 c3 c4 c5 c6
         obtain ⟨c0,c1,c2,c3,c4,c5,c6⟩:=dK (ab mZ)
         cases q with
         |false =>
          have HX:Hid (R=false):=by show R=_;rw[←ab HS];rfl
          clear HS
          go_wp2
          go_ret
          exact ⟨by rw[ab HX];rfl,ab kB⟩
         |true =>
          have HX:Hid (((ms.drop (i+1)).all (ib f))=R):=by have:=ab HS;rw[Bool.true_and] at this;exact this
          clear HS
          go_wp2
          go_roundg (ms.length-(i+1))
          case measure=>have:=ab bz;have:=ab bu;omega
          case rel=>exact ⟨i+1,by go_num,rfl,ab bu,HX,kB,mZ⟩
        ·obtain rfl:i=ms.length:=by omega
         have HX:Hid (R=true):=by have h:=ab HA;rw[List.drop_length] at h;exact h.symm
         clear HA
         go_wp2
         go_ret
         exact ⟨by rw[ab HX];rfl,ab eh⟩
theorem oG:∀f,f≤33→SX f
 |0,_=>B0
 |f+1,h=>vS (by omega) (oG f (by omega))
end Go.Proofs.YtichhjfjcinjgaaGreatDoor
