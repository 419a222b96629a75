import Derived.Test.YtichhjfjcinjgaaGreatDoorM32
set_option maxHeartbeats 8000000
set_option maxRecDepth 100000
namespace Go.Proofs.YtichhjfjcinjgaaGreatDoor
open Go.RowKit
attribute [local go_sem ↓] Go.wp_at_zero Go.wp_at_succ
theorem dG {w:World}{b:Nat}{v0 v1 v2 v3 v4 v5 v6:Value}{t:TypeId} (h:w.heap[b]?=some (.cells #[v0,v1,v2,v3,v4,v5,v6] t (0,0))):w.cell? ⟨b,0,none⟩=some v0∧w.cell? ⟨b,1,none⟩=some v1∧w.cell? ⟨b,2,none⟩=some v2∧w.cell? ⟨b,3,none⟩=some v3∧w.cell? ⟨b,4,none⟩=some v4∧w.cell? ⟨b,5,none⟩=some v5∧w.cell? ⟨b,6,none⟩=some v6 :=
 ⟨cell_of_row _ _ _ _ _ _ h,cell_of_row _ _ _ _ _ _ h,cell_of_row _ _ _ _ _ _ h,cell_of_row _ _ _ _ _ _ h,cell_of_row _ _ _ _ _ _ h,cell_of_row _ _ _ _ _ _ h,cell_of_row _ _ _ _ _ _ h⟩
noncomputable def gV:Nat→Ms→Bool
 |0,_=>false
 |f+1,.mk nm fs os ms es rs gs=>bD nm&&((rs.all (gd 1 536870911)&&gs.all bD)&&(AV fs os.length&&(os.all bD&&(fs.all cI&&(es.all bc&&ms.all (gV f))))))
def Si (f:Nat):Prop:=∀(W:World) (m:Ms) vf vo vm ve vr vg nm fs os ms es rs gs cm ce,Ln W m vf vo vm ve vr vg nm fs os ms es rs gs cm ce→∀(w0:World),Below W.heap.size W w0 →
 Calls Tryz.prog 51 #[.agg #[.string nm,vf,vo,vm,ve,vr,vg],.int .i64 (33-(f:Int))] w0 fun e w=>e=.returned (.bool (gV f m))∧Below w0.heap.size w0 w
theorem Bt:Si 0:=by
 intro W m vf vo vm ve vr vg nm fs os ms es rs gs cm ce _ w0 _
 have HB:Hid (Below w0.heap.size w0 (w0.alloc (.cells #[.string nm,vf,vo,vm,ve,vr,vg] 46))):=(zE _ _).alloc (zD _) _
 rw[show (33:Int)-((0:Nat):Int)=33 from rfl]
 go_enter Tryz.func51,Tryz.ntmps51
 go_wp2
 go_ret
 exact ⟨rfl,ab HB⟩
theorem vj {f:Nat} (hf:f≤32) (ih:Si f):Si (f+1):=by
 intro W m vf vo vm ve vr vg nm fs os ms es rs gs cm ce hV w0 hw
 obtain ⟨dz,RD⟩:∃z,(33-((f+1:Nat):Int))=z:=⟨_,rfl⟩
 rw[RD]
 have G7:0≤dz:=by omega
 have hd1:dz≤32:=by omega
 have Xw:=al (show dz+1=33-(f:Int) by omega)
 have SQ:=al (fun w' hb=>vT hV.hr hV.hg 1 536870911 w' hb)
 have XL:=al (fun w' hb=>y8 hV w' hb)
 obtain rfl:=hV.is
 have vK:=al hV.fl
 have vJ:=al hV.ej
 obtain ⟨af,cf,rfl,Ph,lf⟩:=hV.hf
 obtain ⟨ao,co,rfl,na,lo⟩:=hV.ho
 obtain ⟨am,dh,rfl,Jp,lm⟩:=hV.hm
 obtain ⟨ae,dc,rfl,iG,le⟩:=hV.he
 obtain ⟨ar,cr,rfl,-,-⟩:=hV.hr
 obtain ⟨ag,cg,rfl,-,-⟩:=hV.hg
 have OP:=al lf
 have ON:=al lo
 have vH:=al lm
 have vI:=al le
 have Fa:=al ih
 have k0:=aK w0 (.cells #[.string nm,.slice af fs.length cf,.slice ao os.length co,.slice am ms.length dh,.slice ae es.length dc,.slice ar rs.length cr,.slice ag gs.length cg] 46)
 have bJ:Below w0.heap.size w0 (w0.alloc (.cells #[.string nm,.slice af fs.length cf,.slice ao os.length co,.slice am ms.length dh,.slice ae es.length dc,.slice ar rs.length cr,.slice ag gs.length cg] 46)):=(zE _ _).alloc (zD _) _
 obtain ⟨V,fO⟩:∃V,w0.alloc (.cells #[.string nm,.slice af fs.length cf,.slice ao os.length co,.slice am ms.length dh,.slice ae es.length dc,.slice ar rs.length cr,.slice ag gs.length cg] 46)=V:=⟨_,rfl⟩
 rw[fO] at k0 bJ
 obtain ⟨c0,c1,c2,c3,c4,c5,c6⟩:=dG k0
 obtain ⟨R,hR⟩:∃R,gV (f+1) (.mk nm fs os ms es rs gs)=R:=⟨_,rfl⟩
 rw[hR]
 have HR:Hid ((bD nm&&((rs.all (gd 1 536870911)&&gs.all bD)&&(AV fs os.length&&(os.all bD&&(fs.all cI&&(es.all bc&&ms.all (gV f)))))))=R):=by show _=R;rw[←hR];rfl
 have HW:=al hw
 have HB:=al bJ
 have HK:=al k0
 have Vv:Below W.heap.size W V:=hw.trans (bJ.mono hw.size)
 obtain ⟨q1,tU⟩:∃q,bD nm=q:=⟨_,rfl⟩
 obtain ⟨q2,kj⟩:∃q,(rs.all (gd 1 536870911)&&gs.all bD)=q:=⟨_,rfl⟩
 obtain ⟨q3,nO⟩:∃q,AV fs os.length=q:=⟨_,rfl⟩
 have sa:=al (fW V nm)
 have yo:=al (ab SQ V Vv)
 rw[tU] at HR sa
 rw[kj] at HR yo
 rw[nO] at HR XL
 have Xz:=al Vv
 clear tU kj nO lf lo lm le ih hw hR bJ k0 Vv SQ RD hf hV
 go_enter Tryz.func51,Tryz.ntmps51
 go_wp2_with fail
 refine (ab sa).mono ?_
 rintro e w ⟨rfl,rfl⟩
 cases q1 with
 |false =>
  go_wp2
  go_ret
  exact ⟨by rw[←ab HR];rfl,ab HB⟩
 |true =>
 go_wp2_with fail
 refine (ab yo).mono ?_
 rintro e w1 ⟨rfl,aY⟩
 have yB:=al ((aY.block _ (zA (ab HK)).1).trans (ab HK))
 have se:=al ((ab HB).trans (aY.mono (ab HB).size))
 have FA:=al (ab XL w1 ((ab Xz).trans (aY.mono (ab Xz).size)))
 clear aY yo sa HB HK XL Xz c0 c1 c2 c3 c4 c5 c6
 obtain ⟨c0,c1,c2,c3,c4,c5,c6⟩:=dG (ab yB)
 cases q2 with
 |false =>
  go_wp2
  go_ret
  exact ⟨by rw[←ab HR];rfl,ab se⟩
 |true =>
 go_wp2_with fail
 refine (ab FA).mono ?_
 rintro e w2 ⟨rfl,bd⟩
 have Fg:=al ((bd.block _ (zA (ab yB)).1).trans (ab yB))
 have Yb:=al ((ab se).trans (bd.mono (ab se).size))
 clear bd FA se yB c0 c1 c2 c3 c4 c5 c6
 obtain ⟨c0,c1,c2,c3,c4,c5,c6⟩:=dG (ab Fg)
 cases q3 with
 |false =>
  go_wp2
  go_ret
  exact ⟨by rw[←ab HR];rfl,ab Yb⟩
 |true =>
 have AM:Hid ((os.all bD&&(fs.all cI&&(es.all bc&&ms.all (gV f))))=R):=by have h:=ab HR;rw[Bool.true_and,Bool.true_and,Bool.true_and] at h;exact h
 clear HR
 go_wp2
 go_loopg [5] os.length (fun gk v5 wr=>∃(i:Nat),v5=.int .i64 (i:Int)∧gk=os.length-i∧i≤os.length∧Hid (((os.drop i).all bD&&(fs.all cI&&(es.all bc&&ms.all (gV f))))=R)∧Hid (Below w0.heap.size w0 wr)∧Hid (wr.heap[w0.heap.size]?=some (.cells #[.string nm,.slice af fs.length cf,.slice ao os.length co,.slice am ms.length dh,.slice ae es.length dc,.slice ar rs.length cr,.slice ag gs.length cg] 46 (0,0))))
 case atStart=>exact ⟨0,rfl,rfl,by omega,ab AM,ab Yb,ab Fg⟩
 case round =>
  obtain ⟨i,rfl,aU,eO,HA,iE,j9⟩:=hrel
  have bz:=al aU
  clear aU AM Yb Fg
  obtain ⟨c0,c1,c2,c3,c4,c5,c6⟩:=dG (ab j9)
  by_cases aM:i<os.length
  ·have aS:Below W.heap.size W wr:=(ab HW).trans ((ab iE).mono (ab HW).size)
   obtain ⟨g,o,rfl,hg,hc⟩:=ab ON (by omega)
   have hl:=List.getElem?_eq_getElem aM
   obtain ⟨s,hs⟩:∃d,os[i]=d:=⟨_,rfl⟩
   rw[hs] at hl
   have x0:=(aS.cell (p:=⟨g,o+i,none⟩) hg).trans (hc _ _ (dO hl))
   clear hc hs
   obtain ⟨q,hq⟩:∃q,bD s=q:=⟨_,rfl⟩
   have HS:Hid ((q&&((os.drop (i+1)).all bD&&(fs.all cI&&(es.all bc&&ms.all (gV f)))))=R):=by have:=ab HA;rw[ei hl,hq,Bool.and_assoc] at this;exact this
   have i0:(0:Int)≤(i:Int):=zH _
   have i1:(i:Int)<(os.length:Int):=by omega
   have bu:=al aM
   clear hl aS aM HA
   go_wp2_with fail
   refine (fW wr s).mono ?_
   rintro e w2 ⟨rfl,rfl⟩
   rw[hq]
   clear hq
   cases q with
   |false =>
    have HX:Hid (R=false):=by show R=_;rw[←ab HS];rfl
    clear HS
    go_wp2
    go_ret
    exact ⟨by rw[ab HX];rfl,ab iE⟩
   |true =>
    have HX:Hid (((os.drop (i+1)).all bD&&(fs.all cI&&(es.all bc&&ms.all (gV f))))=R):=by have:=ab HS;rw[Bool.true_and] at this;exact this
    clear HS
    go_wp2
    go_roundg (os.length-(i+1))
    case measure=>have:=ab bz;have:=ab bu;omega
    case rel=>exact ⟨i+1,by go_num,rfl,ab bu,HX,iE,j9⟩
  ·obtain rfl:i=os.length:=by omega
   have sb:Hid (((fs.all cI&&(es.all bc&&ms.all (gV f))))=R):=by have h:=ab HA;rw[List.drop_length,List.all_nil,Bool.true_and] at h;exact h
   clear HA
   obtain ⟨T',iv⟩:∃x,x=wr:=⟨_,rfl⟩
   subst iv
   go_wp2
   go_loopg [6] fs.length (fun gk v6 wr=>∃(i:Nat),v6=.int .i64 (i:Int)∧gk=fs.length-i∧i≤fs.length∧Hid (((fs.drop i).all cI&&(es.all bc&&ms.all (gV f)))=R)∧Hid (Below w0.heap.size w0 wr)∧Hid (wr.heap[w0.heap.size]?=some (.cells #[.string nm,.slice af fs.length cf,.slice ao os.length co,.slice am ms.length dh,.slice ae es.length dc,.slice ar rs.length cr,.slice ag gs.length cg] 46 (0,0))))
   case atStart=>exact ⟨0,rfl,rfl,by omega,ab sb,ab iE,ab j9⟩
   case round =>
    obtain ⟨i,rfl,aU,eO,HA,cM,iC⟩:=hrel
    have bz:=al aU
    clear aU sb iE j9
    obtain ⟨c0,c1,c2,c3,c4,c5,c6⟩:=dG (ab iC)
    by_cases aM:i<fs.length
    ·have aS:Below W.heap.size W wr:=(ab HW).trans ((ab cM).mono (ab HW).size)
     obtain ⟨g,o,rfl,hg,hc⟩:=ab OP (by omega)
     have hl:=List.getElem?_eq_getElem aM
     obtain ⟨d,hd⟩:∃d,fs[i]=d:=⟨_,rfl⟩
     rw[hd] at hl
     obtain ⟨aP,key,ty,wH,num,aE⟩:=d
     have x0:=(aS.cell (p:=⟨g,o+(i*6+0),none⟩) hg).trans (hc _ _ ((cz hl (j:=0) (by decide)).trans rfl))
     have x1:=(aS.cell (p:=⟨g,o+(i*6+1),none⟩) hg).trans (hc _ _ ((cz hl (j:=1) (by decide)).trans rfl))
     have x2:=(aS.cell (p:=⟨g,o+(i*6+2),none⟩) hg).trans (hc _ _ ((cz hl (j:=2) (by decide)).trans rfl))
     have x3:=(aS.cell (p:=⟨g,o+(i*6+3),none⟩) hg).trans (hc _ _ ((cz hl (j:=3) (by decide)).trans rfl))
     have x4:=(aS.cell (p:=⟨g,o+(i*6+4),none⟩) hg).trans (hc _ _ ((cz hl (j:=4) (by decide)).trans rfl))
     have x5:=(aS.cell (p:=⟨g,o+(i*6+5),none⟩) hg).trans (hc _ _ ((cz hl (j:=5) (by decide)).trans rfl))
     rw[Nat.add_zero] at x0
     rw[←Nat.add_assoc] at x1 x2 x3 x4 x5
     clear hc hd
     obtain ⟨q,hq⟩:∃q,cI ⟨aP,key,ty,wH,num,aE⟩=q:=⟨_,rfl⟩
     have HS:Hid ((q&&((fs.drop (i+1)).all cI&&(es.all bc&&ms.all (gV f))))=R):=by have:=ab HA;rw[ei hl,hq,Bool.and_assoc] at this;exact this
     have Lv:=al (Bw wr ⟨aP,key,ty,wH,num,aE⟩)
     unfold Fd.cs at Lv
     simp only at Lv
     rw[hq] at Lv
     have i0:(0:Int)≤(i:Int):=zH _
     have i1:(i:Int)<(fs.length:Int):=by omega
     have bu:=al aM
     clear hl aS aM HA
     clear hq
     go_wp2_with fail
     refine (ab Lv).mono ?_
     rintro e w2 ⟨rfl,bd⟩
     have j':=al ((ab cM).trans (bd.mono (ab cM).size))
     have mG:=al ((bd.block _ (zA (ab iC)).1).trans (ab iC))
     clear bd cM iC Lv c0 c1 c2 c3 c4 c5 c6
     obtain ⟨c0,c1,c2,c3,c4,c5,c6⟩:=dG (ab mG)
     cases q with
     |false =>
      have HX:Hid (R=false):=by show R=_;rw[←ab HS];rfl
      clear HS
      go_wp2
      go_ret
      exact ⟨by rw[ab HX];rfl,ab j'⟩
     |true =>
      have HX:Hid (((fs.drop (i+1)).all cI&&(es.all bc&&ms.all (gV f)))=R):=by have:=ab HS;rw[Bool.true_and] at this;exact this
      clear HS
      go_wp2
      go_roundg (fs.length-(i+1))
      case measure=>have:=ab bz;have:=ab bu;omega
      case rel=>exact ⟨i+1,by go_num,rfl,ab bu,HX,j',mG⟩
    ·obtain rfl:i=fs.length:=by omega
     have lE:Hid (((es.all bc&&ms.all (gV f)))=R):=by have h:=ab HA;rw[List.drop_length,List.all_nil,Bool.true_and] at h;exact h
     clear HA
     obtain ⟨wo1,iv⟩:∃x,x=wr:=⟨_,rfl⟩
     subst iv
     go_wp2
     go_loopg [7] es.length (fun gk v7 wr=>∃(i:Nat),v7=.int .i64 (i:Int)∧gk=es.length-i∧i≤es.length∧Hid (((es.drop i).all bc&&ms.all (gV f))=R)∧Hid (Below w0.heap.size w0 wr)∧Hid (wr.heap[w0.heap.size]?=some (.cells #[.string nm,.slice af fs.length cf,.slice ao os.length co,.slice am ms.length dh,.slice ae es.length dc,.slice ar rs.length cr,.slice ag gs.length cg] 46 (0,0))))
     case atStart=>exact ⟨0,rfl,rfl,by omega,ab lE,ab cM,ab iC⟩
     case round =>
      obtain ⟨i,rfl,aU,eO,HA,cP,fA⟩:=hrel
      have bz:=al aU
      clear aU lE cM iC
      obtain ⟨c0,c1,c2,c3,c4,c5,c6⟩:=dG (ab fA)
      by_cases aM:i<es.length
      ·have aS:Below W.heap.size W wr:=(ab HW).trans ((ab cP).mono (ab HW).size)
       obtain ⟨g,o,rfl,hg,hc⟩:=ab vI (by omega)
       have hl:=List.getElem?_eq_getElem aM
       obtain ⟨t,ht⟩:∃d,es[i]=d:=⟨_,rfl⟩
       rw[ht] at hl
       obtain ⟨vv,Ba,Bc,dQ,rv,rr,rg⟩:=(ab vK).at i t hl
       have gP:=al (And.intro rv (And.intro rr rg))
       obtain ⟨av,cv,rfl,-,-⟩:=rv
       obtain ⟨qQ,qN,rfl,-,-⟩:=rr
       obtain ⟨qR,qP,rfl,-,-⟩:=rg
       have key:∀(j:Nat) (x:Value),[Value.string t.name,.slice av t.aQ.length cv,.slice qQ t.res.length qN,.slice qR t.gone.length qP][j]?=some x→wr.cell? ⟨g,o+(i*4+j),none⟩=some x:=fun j x hx=>(aS.cell (p:=⟨g,o+(i*4+j),none⟩) hg).trans (hc _ _ (by
        rw[←dQ,List.getElem?_take,List.getElem?_drop] at hx
        split at hx
        ·exact hx
        ·cases hx))
       have x0:wr.cell? ⟨g,o+i*4,none⟩=_:=key 0 _ rfl
       have x1:wr.cell? ⟨g,o+i*4+1,none⟩=_:=key 1 _ rfl
       have x2:wr.cell? ⟨g,o+i*4+2,none⟩=_:=key 2 _ rfl
       have x3:wr.cell? ⟨g,o+i*4+3,none⟩=_:=key 3 _ rfl
       clear hc ht key dQ
       obtain ⟨q,hq⟩:∃q,bc t=q:=⟨_,rfl⟩
       have HS:Hid ((q&&((es.drop (i+1)).all bc&&ms.all (gV f)))=R):=by have:=ab HA;rw[ei hl,hq,Bool.and_assoc] at this;exact this
       have FB:=al (pt (ab gP).1 (ab gP).2.1 (ab gP).2.2 wr aS)
       rw[hq] at FB
       have i0:(0:Int)≤(i:Int):=zH _
       have i1:(i:Int)<(es.length:Int):=by omega
       have bu:=al aM
       clear hl aS aM HA gP
       clear hq
       go_wp2_with fail
       refine (ab FB).mono ?_
       rintro e w2 ⟨rfl,bd⟩
       have j':=al ((ab cP).trans (bd.mono (ab cP).size))
       have mG:=al ((bd.block _ (zA (ab fA)).1).trans (ab fA))
       clear bd cP fA FB c0 c1 c2 c3 c4 c5 c6
       obtain ⟨c0,c1,c2,c3,c4,c5,c6⟩:=dG (ab mG)
       cases q with
       |false =>
        have HX:Hid (R=false):=by show R=_;rw[←ab HS];rfl
        clear HS
        go_wp2
        go_ret
        exact ⟨by rw[ab HX];rfl,ab j'⟩
       |true =>
        have HX:Hid (((es.drop (i+1)).all bc&&ms.all (gV f))=R):=by have:=ab HS;rw[Bool.true_and] at this;exact this
        clear HS
        go_wp2
        go_roundg (es.length-(i+1))
        case measure=>have:=ab bz;have:=ab bu;omega
        case rel=>exact ⟨i+1,by go_num,rfl,ab bu,HX,j',mG⟩
      ·obtain rfl:i=es.length:=by omega
       have SF:Hid ((ms.all (gV f))=R):=by have h:=ab HA;rw[List.drop_length,List.all_nil,Bool.true_and] at h;exact h
       clear HA
       obtain ⟨wo2,iv⟩:∃x,x=wr:=⟨_,rfl⟩
       subst iv
       go_wp2
       go_loopg [8] ms.length (fun gk v8 wr=>∃(i:Nat),v8=.int .i64 (i:Int)∧gk=ms.length-i∧i≤ms.length∧Hid (((ms.drop i).all (gV f))=R)∧Hid (Below w0.heap.size w0 wr)∧Hid (wr.heap[w0.heap.size]?=some (.cells #[.string nm,.slice af fs.length cf,.slice ao os.length co,.slice am ms.length dh,.slice ae es.length dc,.slice ar rs.length cr,.slice ag gs.length cg] 46 (0,0))))
       case atStart=>exact ⟨0,rfl,rfl,by omega,ab SF,ab cP,ab fA⟩
       case round =>
        obtain ⟨i,rfl,aU,eO,HA,dX,mH⟩:=hrel
        have bz:=al aU
        clear aU SF cP fA
        obtain ⟨c0,c1,c2,c3,c4,c5,c6⟩:=dG (ab mH)
        by_cases aM:i<ms.length
        ·have aS:Below W.heap.size W wr:=(ab HW).trans ((ab dX).mono (ab HW).size)
         obtain ⟨g,o,rfl,hg,hc⟩:=ab vH (by omega)
         have hl:=List.getElem?_eq_getElem aM
         obtain ⟨t,ht⟩:∃d,ms[i]=d:=⟨_,rfl⟩
         rw[ht] at hl
         obtain ⟨My,Mx,OY,Mz,Ba,Bc,xw,Dt,C8,qH,wM,CZ,Dr,Ix,Jv,dQ,fO⟩:=(ab vJ).at i t hl
         have gP:=al fO
         obtain ⟨E5,EY,rfl,-,-⟩:=fO.hf
         obtain ⟨DE,DB,rfl,-,-⟩:=fO.ho
         obtain ⟨AE,mc,rfl,-,-⟩:=fO.hm
         obtain ⟨E6,pM,rfl,-,-⟩:=fO.he
         obtain ⟨qQ,qN,rfl,-,-⟩:=fO.hr
         obtain ⟨qR,qP,rfl,-,-⟩:=fO.hg
         have key:∀(j:Nat) (x:Value),[Value.string xw,.slice E5 Dt.length EY,.slice DE C8.length DB,.slice AE qH.length mc,.slice E6 wM.length pM,.slice qQ CZ.length qN,.slice qR Dr.length qP][j]?=some x→wr.cell? ⟨g,o+(i*7+j),none⟩=some x:=fun j x hx=>(aS.cell (p:=⟨g,o+(i*7+j),none⟩) hg).trans (hc _ _ (by
          rw[←dQ,List.getElem?_take,List.getElem?_drop] at hx
          split at hx
          ·exact hx
          ·cases hx))
         have x0:wr.cell? ⟨g,o+i*7,none⟩=_:=key 0 _ rfl
         have x1:wr.cell? ⟨g,o+i*7+1,none⟩=_:=key 1 _ rfl
         have x2:wr.cell? ⟨g,o+i*7+2,none⟩=_:=key 2 _ rfl
         have x3:wr.cell? ⟨g,o+i*7+3,none⟩=_:=key 3 _ rfl
         have x4:wr.cell? ⟨g,o+i*7+4,none⟩=_:=key 4 _ rfl
         have x5:wr.cell? ⟨g,o+i*7+5,none⟩=_:=key 5 _ rfl
         have x6:wr.cell? ⟨g,o+i*7+6,none⟩=_:=key 6 _ rfl
         clear hc ht key dQ
         obtain ⟨q,hq⟩:∃q,gV f t=q:=⟨_,rfl⟩
         have HS:Hid ((q&&(ms.drop (i+1)).all (gV f))=R):=by have:=ab HA;rw[ei hl,hq] at this;exact this
         have Ff:=al (ab Fa _ _ _ _ _ _ _ _ _ _ _ _ _ _ _ _ _ (ab gP) wr aS)
         rw[hq] at Ff
         rw[←ab Xw] at Ff
         have i0:(0:Int)≤(i:Int):=zH _
         have i1:(i:Int)<(ms.length:Int):=by omega
         have bu:=al aM
         clear hl aS aM HA gP
         clear hq
         go_wp2_with fail
         refine (ab Ff).mono ?_
         rintro e w2 ⟨rfl,bd⟩
         have j':=al ((ab dX).trans (bd.mono (ab dX).size))
         have mG:=al ((bd.block _ (zA (ab mH)).1).trans (ab mH))
         clear bd dX mH Ff c0 c1 c2 c3 c4 c5 c6
         obtain ⟨c0,c1,c2,c3,c4,c5,c6⟩:=dG (ab mG)
         cases q with
         |false =>
          have HX:Hid (R=false):=by show R=_;rw[←ab HS];rfl
          clear HS
          go_wp2
          go_ret
          exact ⟨by rw[ab HX];rfl,ab j'⟩
         |true =>
          have HX:Hid (((ms.drop (i+1)).all (gV f))=R):=by have:=ab HS;rw[Bool.true_and] at this;exact this
          clear HS
          go_wp2
          go_roundg (ms.length-(i+1))
          case measure=>have:=ab bz;have:=ab bu;omega
          case rel=>exact ⟨i+1,by go_num,rfl,ab bu,HX,j',mG⟩
        ·obtain rfl:i=ms.length:=by omega
         have HX:Hid (R=true):=by have h:=ab HA;rw[List.drop_length] at h;exact h.symm
         clear HA
         go_wp2
         go_ret
         exact ⟨by rw[ab HX];rfl,ab dX⟩
theorem nU:∀f,f≤33→Si f
 |0,_=>Bt
 |f+1,h=>vj (by omega) (nU f (by omega))
end Go.Proofs.YtichhjfjcinjgaaGreatDoor
