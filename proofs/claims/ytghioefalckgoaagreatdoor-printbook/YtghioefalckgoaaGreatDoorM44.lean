import Derived.Test.YtghioefalckgoaaGreatDoorM43
set_option maxHeartbeats 8000000
set_option maxRecDepth 100000
namespace Go.Proofs.YtghioefalckgoaaGreatDoor
open Go.RowKit
attribute [local go_sem ↓] Go.wp_at_zero Go.wp_at_succ
def zZ:Nat→Ms→Prop
 |0,_=>False
 |f+1,.mk _ _ _ ms _ _ _=>∀m ∈ ms,zZ f m
def Ew (f:Nat):Prop:=∀(W:World) (v u:Value) (l l':List Ms) (cs fI:List Value),Rl W v l.length cs→nS W cs l→Rl W u l'.length fI→nS W fI l'→(∀m ∈ l,zZ f m)→(∀m ∈ l',zZ f m)→∀(w0:World),Below W.heap.size W w0→∀deep:Int,0≤deep→deep+f≤200→Calls Tryz.prog 34 #[v,u,.int .i64 deep] w0 (Ev w0 (l=l'))
theorem II:Ew 0:=by
 intro W v u l l' cs fI h _ h' _ hd JT w0 hw deep h0 h1
 have e:l=[]:=by cases l with|nil=>rfl|cons m r=>exact (hd m (List.mem_cons_self ..)).elim
 have e':l'=[]:=by cases l' with|nil=>rfl|cons m r=>exact (JT m (List.mem_cons_self ..)).elim
 subst e e'
 obtain ⟨a,c,rfl,-,-⟩:=h
 obtain ⟨a',c',rfl,-,-⟩:=h'
 have h2:deep≤200:=by omega
 have HB:=ak (zE w0.heap.size w0)
 simp only[List.length_nil]
 clear hd JT hw h1
 go_enter Tryz.func34,Tryz.ntmps34
 go_wp2
 go_loopg [7,8,9,10] 1 (fun gk v7 _ _ _ wr=>v7=.int .i64 0∧gk=1∧Hid (wr=w0))
 case atStart=>exact ⟨rfl,rfl,rfl⟩
 case round =>
  obtain ⟨rfl,bd,HW⟩:=hrel
  go_wp2
  go_ret
  have:=ab HW
  subst this
  exact Tc (by trivial) (ab HB)
theorem Ay {f:Nat} (ih:Ew f):Ew (f+1):=by
 intro W v u l l' cs fI h hE h' Bg hd JT w0 hw deep hp0 qI
 obtain ⟨a,c,rfl,hc,h3⟩:=h
 obtain ⟨a',c',rfl,VH,FG⟩:=h'
 have H3:=ak h3
 have SV:=ak FG
 have HE:=ak hE
 have HE':=ak Bg
 have HW:=ak hw
 have Hd:=ak hd
 have Hd':=ak JT
 have WT:=ak ih
 have LM:=ak (show 0≤deep+1∧deep+1+f≤200 from ⟨by omega,by omega⟩)
 have BP:deep≤200:=by omega
 clear h3 FG hE Bg hw hd JT ih qI
 by_cases fR:l.length=l'.length
 ·have pD:=ak fR
  have e1:((l.length:Int) != (l'.length:Int))=false:=by simp[fR]
  have e2:((l.length:Int)==(l'.length:Int))=true:=by simp[fR]
  clear fR
  go_enter Tryz.func34,Tryz.ntmps34
  go_wp2
  clear e1 e2
  go_loopg [7,8,9,10] l.length (fun gk v7 _ _ _ wr=>∃(i:Nat),v7=.int .i64 (i:Int)∧gk=l.length-i∧i≤l.length∧Hid (l.take i=l'.take i)∧Hid (Below w0.heap.size w0 wr))
  case atStart=>exact ⟨0,rfl,rfl,by omega,rfl,zE _ _⟩
  case round =>
   obtain ⟨i,rfl,bd,hi,HT,HB⟩:=hrel
   have bH:=ak bd
   clear bd
   obtain ⟨wo,lM⟩:∃x,x=wr:=⟨_,rfl⟩
   subst lM
   by_cases aU:i<l.length
   ·obtain ⟨t,ht⟩:∃t,l[i]?=some t:=⟨_,List.getElem?_eq_getElem aU⟩
    obtain ⟨t',nK⟩:∃t,l'[i]?=some t:=⟨_,List.getElem?_eq_getElem (by have:=ab pD;omega)⟩
    obtain ⟨g,o,rfl,hg,hx⟩:=ab H3 (by omega)
    obtain ⟨g',o',rfl,fC,tu⟩:=ab SV (by have:=ab pD;omega)
    have hB:Below W.heap.size W wo:=(ab HW).trans ((ab HB).mono (ab HW).size)
    obtain ⟨vf,vo,vm,ve,vr,vg,nm,fs,os,ms,es,rs,gs,cm,ce,gD,hV⟩:=(ab HE).at i t ht
    obtain ⟨vf',vo',vm',ve',YX,YZ,Ls,C0,UH,Cx,FR,UC,V1,dm,de,JC,CW⟩:=(ab HE').at i t' nK
    obtain rfl:=hV.is
    obtain rfl:=CW.is
    have hdm:=ab Hd _ (List.mem_of_getElem? ht)
    have VE:=ab Hd' _ (List.mem_of_getElem? nK)
    have key:∀(j:Nat) (x:Value),[Value.string nm,vf,vo,vm,ve,vr,vg][j]?=some x→wo.cell? ⟨g,o+(i*7+j),none⟩=some x:=fun j x dr=>(hB.cell (p:=⟨g,o+(i*7+j),none⟩) hg).trans (hx _ _ (by
     rw[←gD,List.getElem?_take,List.getElem?_drop] at dr
     split at dr
     ·exact dr
     ·cases dr))
    have oO:∀(j:Nat) (x:Value),[Value.string Ls,vf',vo',vm',ve',YX,YZ][j]?=some x→wo.cell? ⟨g',o'+(i*7+j),none⟩=some x:=fun j x dr=>(hB.cell (p:=⟨g',o'+(i*7+j),none⟩) fC).trans (tu _ _ (by
     rw[←JC,List.getElem?_take,List.getElem?_drop] at dr
     split at dr
     ·exact dr
     ·cases dr))
    have GL:g'<wo.heap.size:=Nat.lt_of_lt_of_le fC hB.size
    have d0:wo.cell? ⟨g,o+i*7,none⟩=_:=key 0 _ rfl
    have d1:wo.cell? ⟨g,o+i*7+1,none⟩=_:=key 1 _ rfl
    have d2:wo.cell? ⟨g,o+i*7+2,none⟩=_:=key 2 _ rfl
    have d3:wo.cell? ⟨g,o+i*7+3,none⟩=_:=key 3 _ rfl
    have d4:wo.cell? ⟨g,o+i*7+4,none⟩=_:=key 4 _ rfl
    have d5:wo.cell? ⟨g,o+i*7+5,none⟩=_:=key 5 _ rfl
    have d6:wo.cell? ⟨g,o+i*7+6,none⟩=_:=key 6 _ rfl
    have f0:∀q,(wo.alloc q).cell? ⟨g',o'+i*7,none⟩=_:=fun q=>(World.cell?_alloc_lt _ _ _ GL).trans (oO 0 _ rfl)
    have f1:∀q,(wo.alloc q).cell? ⟨g',o'+i*7+1,none⟩=_:=fun q=>(World.cell?_alloc_lt _ _ _ GL).trans (oO 1 _ rfl)
    have f2:∀q,(wo.alloc q).cell? ⟨g',o'+i*7+2,none⟩=_:=fun q=>(World.cell?_alloc_lt _ _ _ GL).trans (oO 2 _ rfl)
    have f3:∀q,(wo.alloc q).cell? ⟨g',o'+i*7+3,none⟩=_:=fun q=>(World.cell?_alloc_lt _ _ _ GL).trans (oO 3 _ rfl)
    have f4:∀q,(wo.alloc q).cell? ⟨g',o'+i*7+4,none⟩=_:=fun q=>(World.cell?_alloc_lt _ _ _ GL).trans (oO 4 _ rfl)
    have f5:∀q,(wo.alloc q).cell? ⟨g',o'+i*7+5,none⟩=_:=fun q=>(World.cell?_alloc_lt _ _ _ GL).trans (oO 5 _ rfl)
    have f6:∀q,(wo.alloc q).cell? ⟨g',o'+i*7+6,none⟩=_:=fun q=>(World.cell?_alloc_lt _ _ _ GL).trans (oO 6 _ rfl)
    have HO:=ak (fun w' hb=>gK hV.ho CW.ho w' hb)
    have HR:=ak (fun w' hb=>lW hV.hr CW.hr w' hb)
    have HG:=ak (fun w' hb=>gK hV.hg CW.hg w' hb)
    have PO:=ak (fun w' hb=>mX hV.he hV.ep CW.he CW.ep w' hb)
    have PL:=ak (fun w' hb=>ab WT W vm vm' ms Cx cm dm hV.hm hV.eI CW.hm CW.eI hdm VE w' hb (deep+1) (ab LM).1 (ab LM).2)
    obtain ⟨af,cf,rfl,gR,UB⟩:=hV.hf
    obtain ⟨af',cf',rfl,abu,IJ⟩:=CW.hf
    obtain ⟨ao,co,rfl,-,-⟩:=hV.ho
    obtain ⟨ao',co',rfl,-,-⟩:=CW.ho
    obtain ⟨am,cq,rfl,-,-⟩:=hV.hm
    obtain ⟨TO,TG,rfl,-,-⟩:=CW.hm
    obtain ⟨ae,cn,rfl,-,-⟩:=hV.he
    obtain ⟨TR,TH,rfl,-,-⟩:=CW.he
    obtain ⟨ar,cr,rfl,-,-⟩:=hV.hr
    obtain ⟨TN,TI,rfl,-,-⟩:=CW.hr
    obtain ⟨ag,cg,rfl,-,-⟩:=hV.hg
    obtain ⟨TP,TJ,rfl,-,-⟩:=CW.hg
    have RV:=ak UB
    have RV':=ak IJ
    have i0:(0:Int)≤(i:Int):=zH _
    have i1:(i:Int)<(l.length:Int):=by omega
    have i2:(i:Int)<(l'.length:Int):=by have:=ab pD;omega
    have wB:=ak (uz hB #[.string nm,.slice af fs.length cf,.slice ao os.length co,.slice am ms.length cq,.slice ae es.length cn,.slice ar rs.length cr,.slice ag gs.length cg] #[.string Ls,.slice af' C0.length cf',.slice ao' UH.length co',.slice TO Cx.length TG,.slice TR FR.length TH,.slice TN UC.length TI,.slice TP V1.length TJ] 57)
    have wH:=ak ((ab HB).trans (show Below w0.heap.size wo ((wo.alloc (.cells #[.string nm,.slice af fs.length cf,.slice ao os.length co,.slice am ms.length cq,.slice ae es.length cn,.slice ar rs.length cr,.slice ag gs.length cg] 57)).alloc (.cells #[.string Ls,.slice af' C0.length cf',.slice ao' UH.length co',.slice TO Cx.length TG,.slice TR FR.length TH,.slice TN UC.length TI,.slice TP V1.length TJ] 57)) from ((zE _ _).alloc (ab HB).size _).alloc (by rw[zJ];have:=(ab HB).size;omega) _))
    have bn:=ak aU
    have Hto:=ak (fun e:Ms.mk nm fs os ms es rs gs=.mk Ls C0 UH Cx FR UC V1=>eR (ab HT) ht (by rw[e];exact nK))
    have pv:=ak (fun e:¬Ms.mk nm fs os ms es rs gs=.mk Ls C0 UH Cx FR UC V1=>kV ht nK e)
    clear hx tu ht nK hB key oO gD JC UB IJ HT aU hV CW hdm VE
    by_cases n1:nm=Ls
    ·by_cases n2:fs.length=C0.length
     ·have SE:=ak n1
      have Ol:=ak n2
      have e1:((fs.length:Int) != (C0.length:Int))=false:=by simp[n2]
      have e2:((fs.length:Int)==(C0.length:Int))=true:=by simp[n2]
      have e3:(nm.toList==Ls.toList)=true:=by rw[n1];simp
      clear n1 n2
      go_wp2_with fail
      refine (ab HO _ (ab wB).bl).mono ?_
      rintro e' w1 ⟨q1,rfl,yO,aY⟩
      have n8:=ak ((ab wB).up aY)
      have ei:=ak ((ab wH).trans (aY.mono (ab wH).size))
      have X1:=(ab n8).x
      have Y1:=(ab n8).y
      have qj:=ak yO
      clear aY wB wH HO yO d0 d1 d2 d3 d4 d5 d6 f0 f1 f2 f3 f4 f5 f6
      cases q1 with
      |false =>
       have HN:=ak (ab pv (fun e=>by have:=(ab qj).2 (by injection e);cases this))
       go_wp2
       go_ret
       exact nV (ab HN) (ab ei)
      |true =>
       go_wp2_with fail
       refine (ab HR _ (ab n8).bl).mono ?_
       rintro e' w2 ⟨q2,rfl,yN,b9⟩
       have qq:=ak ((ab n8).up b9)
       have dF:=ak ((ab ei).trans (b9.mono (ab ei).size))
       have X2:=(ab qq).x
       have Y2:=(ab qq).y
       have LL:=ak yN
       clear b9 n8 ei HR yN X1 Y1
       cases q2 with
       |false =>
        have HN:=ak (ab pv (fun e=>by have:=(ab LL).2 (by injection e);cases this))
        go_wp2
        go_ret
        exact nV (ab HN) (ab dF)
       |true =>
        go_wp2_with fail
        refine (ab HG _ (ab qq).bl).mono ?_
        rintro e' w3 ⟨q3,rfl,vl,cY⟩
        have GY:=ak ((ab qq).up cY)
        have lG:=ak ((ab dF).trans (cY.mono (ab dF).size))
        have X3:=(ab GY).x
        have Y3:=(ab GY).y
        have WO:=ak vl
        clear cY qq dF HG vl X2 Y2
        cases q3 with
        |false =>
         have HN:=ak (ab pv (fun e=>by have:=(ab WO).2 (by injection e);cases this))
         go_wp2
         go_ret
         exact nV (ab HN) (ab lG)
        |true =>
         clear e1 e2 e3
         go_wp2
         go_loopg [10] fs.length (fun gk v10 wq=>∃(k m:Nat),v10=.int .i64 (k:Int)∧gk=fs.length-k∧k≤fs.length∧Hid (fs.take k=C0.take k)∧wq=w3.drewN m)
         case atStart=>exact ⟨0,0,rfl,rfl,by omega,rfl,rfl⟩
         case round =>
          obtain ⟨k,m,rfl,jC,hk,BC,rfl⟩:=hrel
          have jR:=ak jC
          clear jC
          by_cases Rb:k<fs.length
          ·obtain ⟨p,hp⟩:∃p,fs[k]?=some p:=⟨_,List.getElem?_eq_getElem Rb⟩
           obtain ⟨p',pB⟩:∃p,C0[k]?=some p:=⟨_,List.getElem?_eq_getElem (by have:=ab Ol;omega)⟩
           obtain ⟨gv,ov,rfl,Nn,p8⟩:=ab RV (by omega)
           obtain ⟨J5,IW,rfl,Nl,oY⟩:=ab RV' (by have:=ab Ol;omega)
           have vz:=(ab GY).bl
           obtain ⟨p0,p1,p2,p3,p4,p5⟩:=p
           obtain ⟨r0,r1,r2,r3,r4,r5⟩:=p'
           have kx:∀(j:Nat) (x:Value),j<6→[Value.int .i64 p0,.string p1,.string p2,.string p3,.int .i64 p4,.int .i64 p5][j]?=some x→w3.cell? ⟨gv,ov+(k*6+j),none⟩=some x:=fun j x hj hx=>(vz.cell (p:=⟨gv,ov+(k*6+j),none⟩) Nn).trans (p8 _ _ (by unfold cC;rw[lC Fd.cs 6 (fun _=>rfl) fs k j _ hp hj];exact hx))
           have ky:∀(j:Nat) (x:Value),j<6→[Value.int .i64 r0,.string r1,.string r2,.string r3,.int .i64 r4,.int .i64 r5][j]?=some x→w3.cell? ⟨J5,IW+(k*6+j),none⟩=some x:=fun j x hj hx=>(vz.cell (p:=⟨J5,IW+(k*6+j),none⟩) Nl).trans (oY _ _ (by unfold cC;rw[lC Fd.cs 6 (fun _=>rfl) C0 k j _ pB hj];exact hx))
           have x0:w3.cell? ⟨gv,ov+k*6,none⟩=_:=kx 0 _ (by decide) rfl
           have x1:w3.cell? ⟨gv,ov+k*6+1,none⟩=_:=kx 1 _ (by decide) rfl
           have x2:w3.cell? ⟨gv,ov+k*6+2,none⟩=_:=kx 2 _ (by decide) rfl
           have x3:w3.cell? ⟨gv,ov+k*6+3,none⟩=_:=kx 3 _ (by decide) rfl
           have x4:w3.cell? ⟨gv,ov+k*6+4,none⟩=_:=kx 4 _ (by decide) rfl
           have x5:w3.cell? ⟨gv,ov+k*6+5,none⟩=_:=kx 5 _ (by decide) rfl
           have y0:w3.cell? ⟨J5,IW+k*6,none⟩=_:=ky 0 _ (by decide) rfl
           have y1:w3.cell? ⟨J5,IW+k*6+1,none⟩=_:=ky 1 _ (by decide) rfl
           have y2:w3.cell? ⟨J5,IW+k*6+2,none⟩=_:=ky 2 _ (by decide) rfl
           have y3:w3.cell? ⟨J5,IW+k*6+3,none⟩=_:=ky 3 _ (by decide) rfl
           have y4:w3.cell? ⟨J5,IW+k*6+4,none⟩=_:=ky 4 _ (by decide) rfl
           have y5:w3.cell? ⟨J5,IW+k*6+5,none⟩=_:=ky 5 _ (by decide) rfl
           have k0:(0:Int)≤(k:Int):=zH _
           have k1:(k:Int)<(fs.length:Int):=by omega
           have k2:(k:Int)<(C0.length:Int):=by have:=ab Ol;omega
           clear kx ky
           by_cases h0:p0=r0
           ·by_cases h1:p1=r1
            ·by_cases h2:p2=r2
             ·by_cases h3:p3=r3
              ·by_cases h4:p4=r4
               ·by_cases h5:p5=r5
                ·subst h0 h1 h2 h3 h4 h5
                 have SM:=ak (eR (ab BC) hp pB)
                 clear p8 oY hp pB BC vz
                 go_wp2
                 go_quiet (fail)
                 go_wp2
                 go_roundg (fs.length-(k+1))
                 case measure=>have:=ab jR;omega
                 case rel=>exact ⟨k+1,_,by go_num,rfl,by omega,SM,rfl⟩
                ·have HN:=ak (ab pv (fun e=>kV hp pB (fun e2=>h5 (congrArg Fd.aH e2)) (by injection e)))
                 have n1:(p5==r5)=false:=by simpa using h5
                 clear p8 oY hp pB BC vz
                 go_wp2
                 go_quiet (fail)
                 go_wp2
                 go_ret
                 exact nV (ab HN) (below_drewN (below_drewN (ab lG) _) _)
               ·have HN:=ak (ab pv (fun e=>kV hp pB (fun e2=>h4 (congrArg Fd.num e2)) (by injection e)))
                have n1:(p4==r4)=false:=by simpa using h4
                clear p8 oY hp pB BC vz
                go_wp2
                go_quiet (fail)
                go_wp2
                go_ret
                exact nV (ab HN) (below_drewN (below_drewN (ab lG) _) _)
              ·have HN:=ak (ab pv (fun e=>kV hp pB (fun e2=>h3 (congrArg Fd.name e2)) (by injection e)))
               have n1:=lS h3
               clear p8 oY hp pB BC vz
               go_wp2
               go_quiet (fail)
               go_wp2
               go_ret
               exact nV (ab HN) (below_drewN (below_drewN (ab lG) _) _)
             ·have HN:=ak (ab pv (fun e=>kV hp pB (fun e2=>h2 (congrArg Fd.ty e2)) (by injection e)))
              have n1:=lS h2
              clear p8 oY hp pB BC vz
              go_wp2
              go_quiet (fail)
              go_wp2
              go_ret
              exact nV (ab HN) (below_drewN (below_drewN (ab lG) _) _)
            ·have HN:=ak (ab pv (fun e=>kV hp pB (fun e2=>h1 (congrArg Fd.key e2)) (by injection e)))
             have n1:=lS h1
             clear p8 oY hp pB BC vz
             go_wp2
             go_quiet (fail)
             go_wp2
             go_ret
             exact nV (ab HN) (below_drewN (below_drewN (ab lG) _) _)
           ·have HN:=ak (ab pv (fun e=>kV hp pB (fun e2=>h0 (congrArg Fd.aZ e2)) (by injection e)))
            have n1:(p0==r0)=false:=by simpa using h0
            clear p8 oY hp pB BC vz
            go_wp2
            go_quiet (fail)
            go_wp2
            go_ret
            exact nV (ab HN) (below_drewN (below_drewN (ab lG) _) _)
          ·obtain rfl:k=fs.length:=by omega
           have HT4:=ak (show KT W wo.heap.size (wo.heap.size+1) #[.string nm,.slice af fs.length cf,.slice ao os.length co,.slice am ms.length cq,.slice ae es.length cn,.slice ar rs.length cr,.slice ag gs.length cg] #[.string Ls,.slice af' C0.length cf',.slice ao' UH.length co',.slice TO Cx.length TG,.slice TR FR.length TH,.slice TN UC.length TI,.slice TP V1.length TJ] (w3.drewN m) from (ab GY).up (below_drewN (zE _ _) m))
           have SS:=ak (below_drewN (ab lG) m)
           have HTf:=ak (kI (ab Ol) (ab BC))
           clear BC lG GY
           go_wp2_with fail
           refine (ab PO _ (ab HT4).bl).mono ?_
           rintro e' w5 ⟨q5,rfl,Vd,lv⟩
           have PJ:=ak ((ab HT4).up lv)
           have LU:=ak ((ab SS).trans (lv.mono (ab SS).size))
           have X5:=(ab PJ).x
           have Y5:=(ab PJ).y
           have Hq5:=ak Vd
           clear lv HT4 SS PO Vd
           cases q5 with
           |false =>
            have HN:=ak (ab pv (fun e=>by have:=(ab Hq5).2 (by injection e);cases this))
            go_wp2
            go_ret
            exact nV (ab HN) (ab LU)
           |true =>
            go_wp2_with fail
            refine (ab PL _ (ab PJ).bl).mono ?_
            rintro e' w6 ⟨q6,rfl,hq6,lr⟩
            have HT6:=ak ((ab PJ).up lr)
            have T2:=ak ((ab LU).trans (lr.mono (ab LU).size))
            have X6:=(ab HT6).x
            have Y6:=(ab HT6).y
            have Hq6:=ak hq6
            clear lr PJ LU PL hq6 X5 Y5
            cases q6 with
            |false =>
             have HN:=ak (ab pv (fun e=>by have:=(ab Hq6).2 (by injection e);cases this))
             go_wp2
             go_ret
             exact nV (ab HN) (ab T2)
            |true =>
             have HT9:=ak (ab Hto (by
              have a1:=ab SE
              have a2:=ab HTf
              have a3:=(ab qj).1 (by trivial)
              have a4:=(ab LL).1 (by trivial)
              have a5:=(ab WO).1 (by trivial)
              have a6:=(ab Hq5).1 (by trivial)
              have a7:=(ab Hq6).1 (by trivial)
              rw[a1,a2,a3,a4,a5,a6,a7]))
             go_wp2
             go_roundg (l.length-(i+1))
             case measure=>have:=ab bH;have:=ab bn;omega
             case rel=>exact ⟨i+1,by go_num,rfl,by have:=ab bn;omega,HT9,T2⟩
     ·have HN:=ak (ab pv (fun e=>n2 (by injection e with _ e;rw[e])))
      have e1:((fs.length:Int) != (C0.length:Int))=true:=by simp;omega
      have e2:((fs.length:Int)==(C0.length:Int))=false:=by simp;omega
      have e3:(nm.toList==Ls.toList)=true:=by rw[n1];simp
      have e4:¬(fs.length:Int)=(C0.length:Int):=by omega
      clear n1 n2 HR HG HO PO PL
      go_wp2
      go_ret
      exact nV (ab HN) (ab wH)
    ·have HN:=ak (ab pv (fun e=>n1 (by injection e)))
     have e3:=lS n1
     clear n1 HR HG HO PO PL
     go_wp2
     go_ret
     exact nV (ab HN) (ab wH)
   ·obtain rfl:i=l.length:=by omega
    have HE9:=ak (kI (ab pD) (ab HT))
    clear HT
    go_wp2
    go_ret
    exact Tc (ab HE9) (ab HB)
 ·have HN:Hid (¬l=l'):=fun e=>fR (by rw[e])
  have e1:((l.length:Int) != (l'.length:Int))=true:=by simp;omega
  have e2:((l.length:Int)==(l'.length:Int))=false:=by simp;omega
  have e3:¬(l.length:Int)=(l'.length:Int):=by omega
  clear fR
  go_enter Tryz.func34,Tryz.ntmps34
  go_wp2
  go_ret
  exact nV (ab HN) (zE _ _)
theorem uK:∀f,Ew f
 |0=>II
 |f+1=>Ay (uK f)
def yk {α:Type} (c:α→Nat):List α→Nat
 |[]=>0
 |a::r=>c a+yk c r
def Yc (e:En):Nat:=1+e.aW.length+e.res.length+e.gone.length
def NR:Nat→Ms→Nat
 |0,_=>0
 |f+1,.mk _ fs os ms es rs gs=>1+fs.length+os.length+rs.length+gs.length+yk Yc es+yk (NR f) ms
end Go.Proofs.YtghioefalckgoaaGreatDoor
