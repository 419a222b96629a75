import Derived.Test.YtichhjfjcinjgaaGreatDoorYDf
import Derived.Test.YtichhjfjcinjgaaGreatDoorM34
set_option maxHeartbeats 8000000
set_option maxRecDepth 100000
namespace Go.Proofs.YtichhjfjcinjgaaGreatDoor
open Go.RowKit
attribute [local go_sem ↓] Go.wp_at_zero Go.wp_at_succ
def tg:Nat→Ms→Prop
 |0,_=>False
 |f+1,.mk _ _ _ ms _ _ _=>∀m ∈ ms,tg f m
def DH (f:Nat):Prop:=∀(W:World) (v u:Value) (l l':List Ms) (cs iH:List Value),Rl W v l.length cs→s8 W cs l→Rl W u l'.length iH→s8 W iH l'→(∀m ∈ l,tg f m)→(∀m ∈ l',tg f m)→∀(w0:World),Below W.heap.size W w0→∀deep:Int,0≤deep→deep+f≤200→Calls Tryz.prog 23 #[v,u,.int .i64 deep] w0 (Me w0 (l=l'))
theorem Ga:DH 0:=by
 intro W v u l l' cs iH h _ h' _ hd G8 w0 hw deep h0 h1
 have e:l=[]:=by cases l with|nil=>rfl|cons m r=>exact (hd m (List.mem_cons_self ..)).elim
 have e':l'=[]:=by cases l' with|nil=>rfl|cons m r=>exact (G8 m (List.mem_cons_self ..)).elim
 subst e e'
 obtain ⟨a,c,rfl,-,-⟩:=h
 obtain ⟨a',c',rfl,-,-⟩:=h'
 have h2:deep≤200:=by omega
 have HB:=al (zE w0.heap.size w0)
 simp only[List.length_nil]
 clear hd G8 hw h1
 go_enter Tryz.func23,Tryz.ntmps23
 go_wp2
 go_loopg [7,8,9,10] 1 (fun gk v7 _ _ _ wr=>v7=.int .i64 0∧gk=1∧Hid (wr=w0))
 case atStart=>exact ⟨rfl,rfl,rfl⟩
 case round =>
  obtain ⟨rfl,aU,HW⟩:=hrel
  go_wp2
  go_ret
  have:=ab HW
  subst this
  exact LF (by trivial) (ab HB)
theorem yX {f:Nat} (ih:DH f):DH (f+1):=by
 intro W v u l l' cs iH h hE h' RT hd G8 w0 hw deep hp0 pD
 obtain ⟨a,c,rfl,hc,h3⟩:=h
 obtain ⟨a',c',rfl,RG,H8⟩:=h'
 have H3:=al h3
 have OT:=al H8
 have HE:=al hE
 have X8:=al RT
 have HW:=al hw
 have Hd:=al hd
 have Hd':=al G8
 have Fa:=al ih
 have Cz:=al (show 0≤deep+1∧deep+1+f≤200 from ⟨by omega,by omega⟩)
 have yu:deep≤200:=by omega
 clear h3 H8 hE RT hw hd G8 ih pD
 by_cases fJ:l.length=l'.length
 ·have nR:=al fJ
  have e1:((l.length:Int) != (l'.length:Int))=false:=by simp[fJ]
  have e2:((l.length:Int)==(l'.length:Int))=true:=by simp[fJ]
  clear fJ
  go_enter Tryz.func23,Tryz.ntmps23
  go_wp2
  clear e1 e2
  go_loopg [7,8,9,10] l.length (fun gk v7 _ _ _ wr=>∃(i:Nat),v7=.int .i64 (i:Int)∧gk=l.length-i∧i≤l.length∧Hid (l.take i=l'.take i)∧Hid (Below w0.heap.size w0 wr))
  case atStart=>exact ⟨0,rfl,rfl,by omega,rfl,zE _ _⟩
  case round =>
   obtain ⟨i,rfl,aU,hi,HT,HB⟩:=hrel
   have bz:=al aU
   clear aU
   obtain ⟨wo,iv⟩:∃x,x=wr:=⟨_,rfl⟩
   subst iv
   by_cases aM:i<l.length
   ·obtain ⟨t,ht⟩:∃t,l[i]?=some t:=⟨_,List.getElem?_eq_getElem aM⟩
    obtain ⟨t',nH⟩:∃t,l'[i]?=some t:=⟨_,List.getElem?_eq_getElem (by have:=ab nR;omega)⟩
    obtain ⟨g,o,rfl,hg,hx⟩:=ab H3 (by omega)
    obtain ⟨g',o',rfl,kH,lN⟩:=ab OT (by have:=ab nR;omega)
    have hB:Below W.heap.size W wo:=(ab HW).trans ((ab HB).mono (ab HW).size)
    obtain ⟨vf,vo,vm,ve,vr,vg,nm,fs,os,ms,es,rs,gs,cm,ce,dQ,hV⟩:=(ab HE).at i t ht
    obtain ⟨vf',vo',Ym,ve',Uh,Ui,Jl,Ck,QF,BK,EO,QB,RZ,dm,de,GK,Ce⟩:=(ab X8).at i t' nH
    obtain rfl:=hV.is
    obtain rfl:=Ce.is
    have Zs:=ab Hd _ (List.mem_of_getElem? ht)
    have RE:=ab Hd' _ (List.mem_of_getElem? nH)
    have key:∀(j:Nat) (x:Value),[Value.string nm,vf,vo,vm,ve,vr,vg][j]?=some x→wo.cell? ⟨g,o+(i*7+j),none⟩=some x:=fun j x cY=>(hB.cell (p:=⟨g,o+(i*7+j),none⟩) hg).trans (hx _ _ (by
     rw[←dQ,List.getElem?_take,List.getElem?_drop] at cY
     split at cY
     ·exact cY
     ·cases cY))
    have ou:∀(j:Nat) (x:Value),[Value.string Jl,vf',vo',Ym,ve',Uh,Ui][j]?=some x→wo.cell? ⟨g',o'+(i*7+j),none⟩=some x:=fun j x cY=>(hB.cell (p:=⟨g',o'+(i*7+j),none⟩) kH).trans (lN _ _ (by
     rw[←GK,List.getElem?_take,List.getElem?_drop] at cY
     split at cY
     ·exact cY
     ·cases cY))
    have Fw:g'<wo.heap.size:=Nat.lt_of_lt_of_le kH hB.size
    have d0:wo.cell? ⟨g,o+i*7,none⟩=_:=key 0 _ rfl
    have d1:wo.cell? ⟨g,o+i*7+1,none⟩=_:=key 1 _ rfl
    have d2:wo.cell? ⟨g,o+i*7+2,none⟩=_:=key 2 _ rfl
    have d3:wo.cell? ⟨g,o+i*7+3,none⟩=_:=key 3 _ rfl
    have d4:wo.cell? ⟨g,o+i*7+4,none⟩=_:=key 4 _ rfl
    have d5:wo.cell? ⟨g,o+i*7+5,none⟩=_:=key 5 _ rfl
    have d6:wo.cell? ⟨g,o+i*7+6,none⟩=_:=key 6 _ rfl
    have f0:∀q,(wo.alloc q).cell? ⟨g',o'+i*7,none⟩=_:=fun q=>(World.cell?_alloc_lt _ _ _ Fw).trans (ou 0 _ rfl)
    have f1:∀q,(wo.alloc q).cell? ⟨g',o'+i*7+1,none⟩=_:=fun q=>(World.cell?_alloc_lt _ _ _ Fw).trans (ou 1 _ rfl)
    have f2:∀q,(wo.alloc q).cell? ⟨g',o'+i*7+2,none⟩=_:=fun q=>(World.cell?_alloc_lt _ _ _ Fw).trans (ou 2 _ rfl)
    have f3:∀q,(wo.alloc q).cell? ⟨g',o'+i*7+3,none⟩=_:=fun q=>(World.cell?_alloc_lt _ _ _ Fw).trans (ou 3 _ rfl)
    have f4:∀q,(wo.alloc q).cell? ⟨g',o'+i*7+4,none⟩=_:=fun q=>(World.cell?_alloc_lt _ _ _ Fw).trans (ou 4 _ rfl)
    have f5:∀q,(wo.alloc q).cell? ⟨g',o'+i*7+5,none⟩=_:=fun q=>(World.cell?_alloc_lt _ _ _ Fw).trans (ou 5 _ rfl)
    have f6:∀q,(wo.alloc q).cell? ⟨g',o'+i*7+6,none⟩=_:=fun q=>(World.cell?_alloc_lt _ _ _ Fw).trans (ou 6 _ rfl)
    have HO:=al (fun w' hb=>hZ hV.ho Ce.ho w' hb)
    have HR:=al (fun w' hb=>lV hV.hr Ce.hr w' hb)
    have HG:=al (fun w' hb=>hZ hV.hg Ce.hg w' hb)
    have FB:=al (fun w' hb=>mR hV.he hV.fl Ce.he Ce.fl w' hb)
    have Ff:=al (fun w' hb=>ab Fa W vm Ym ms BK cm dm hV.hm hV.ej Ce.hm Ce.ej Zs RE w' hb (deep+1) (ab Cz).1 (ab Cz).2)
    obtain ⟨af,cf,rfl,j6,QA⟩:=hV.hf
    obtain ⟨WX,WL,rfl,aao,Gb⟩:=Ce.hf
    obtain ⟨ao,co,rfl,-,-⟩:=hV.ho
    obtain ⟨WW,WK,rfl,-,-⟩:=Ce.ho
    obtain ⟨am,dh,rfl,-,-⟩:=hV.hm
    obtain ⟨PL,PF,rfl,-,-⟩:=Ce.hm
    obtain ⟨ae,dc,rfl,-,-⟩:=hV.he
    obtain ⟨PO,PG,rfl,-,-⟩:=Ce.he
    obtain ⟨ar,cr,rfl,-,-⟩:=hV.hr
    obtain ⟨PK,PH,rfl,-,-⟩:=Ce.hr
    obtain ⟨ag,cg,rfl,-,-⟩:=hV.hg
    obtain ⟨PM,PI,rfl,-,-⟩:=Ce.hg
    have RV:=al QA
    have WZ:=al Gb
    have i0:(0:Int)≤(i:Int):=zH _
    have i1:(i:Int)<(l.length:Int):=by omega
    have i2:(i:Int)<(l'.length:Int):=by have:=ab nR;omega
    have ym:=al (tn hB #[.string nm,.slice af fs.length cf,.slice ao os.length co,.slice am ms.length dh,.slice ae es.length dc,.slice ar rs.length cr,.slice ag gs.length cg] #[.string Jl,.slice WX Ck.length WL,.slice WW QF.length WK,.slice PL BK.length PF,.slice PO EO.length PG,.slice PK QB.length PH,.slice PM RZ.length PI] 46)
    have iE:=al ((ab HB).trans (show Below w0.heap.size wo ((wo.alloc (.cells #[.string nm,.slice af fs.length cf,.slice ao os.length co,.slice am ms.length dh,.slice ae es.length dc,.slice ar rs.length cr,.slice ag gs.length cg] 46)).alloc (.cells #[.string Jl,.slice WX Ck.length WL,.slice WW QF.length WK,.slice PL BK.length PF,.slice PO EO.length PG,.slice PK QB.length PH,.slice PM RZ.length PI] 46)) from ((zE _ _).alloc (ab HB).size _).alloc (by rw[zJ];have:=(ab HB).size;omega) _))
    have bu:=al aM
    have Xa:=al (fun e:Ms.mk nm fs os ms es rs gs=.mk Jl Ck QF BK EO QB RZ=>fh (ab HT) ht (by rw[e];exact nH))
    have nk:=al (fun e:¬Ms.mk nm fs os ms es rs gs=.mk Jl Ck QF BK EO QB RZ=>kL ht nH e)
    clear hx lN ht nH hB key ou dQ GK QA Gb HT aM hV Ce Zs RE
    by_cases n1:nm=Jl
    ·by_cases n2:fs.length=Ck.length
     ·have Xl:=al n1
      have Lq:=al n2
      have e1:((fs.length:Int) != (Ck.length:Int))=false:=by simp[n2]
      have e2:((fs.length:Int)==(Ck.length:Int))=true:=by simp[n2]
      have e3:(nm.toList==Jl.toList)=true:=by rw[n1];simp
      clear n1 n2
      go_wp2_with fail
      refine (ab HO _ (ab ym).bl).mono ?_
      rintro e' w1 ⟨q1,rfl,tU,aY⟩
      have uW:=al ((ab ym).up aY)
      have cM:=al ((ab iE).trans (aY.mono (ab iE).size))
      have X1:=(ab uW).x
      have Y1:=(ab uW).y
      have Mg:=al tU
      clear aY ym iE HO tU d0 d1 d2 d3 d4 d5 d6 f0 f1 f2 f3 f4 f5 f6
      cases q1 with
      |false =>
       have HN:=al (ab nk (fun e=>by have:=(ab Mg).2 (by injection e);cases this))
       go_wp2
       go_ret
       exact mO (ab HN) (ab cM)
      |true =>
       go_wp2_with fail
       refine (ab HR _ (ab uW).bl).mono ?_
       rintro e' w2 ⟨q2,rfl,kj,bd⟩
       have nN:=al ((ab uW).up bd)
       have cP:=al ((ab cM).trans (bd.mono (ab cM).size))
       have X2:=(ab nN).x
       have Y2:=(ab nN).y
       have DK:=al kj
       clear bd uW cM HR kj X1 Y1
       cases q2 with
       |false =>
        have HN:=al (ab nk (fun e=>by have:=(ab DK).2 (by injection e);cases this))
        go_wp2
        go_ret
        exact mO (ab HN) (ab cP)
       |true =>
        go_wp2_with fail
        refine (ab HG _ (ab nN).bl).mono ?_
        rintro e' w3 ⟨q3,rfl,nO,cC⟩
        have Fz:=al ((ab nN).up cC)
        have dX:=al ((ab cP).trans (cC.mono (ab cP).size))
        have X3:=(ab Fz).x
        have Y3:=(ab Fz).y
        have Sr:=al nO
        clear cC nN cP HG nO X2 Y2
        cases q3 with
        |false =>
         have HN:=al (ab nk (fun e=>by have:=(ab Sr).2 (by injection e);cases this))
         go_wp2
         go_ret
         exact mO (ab HN) (ab dX)
        |true =>
         clear e1 e2 e3
         go_wp2
         go_loopg [10] fs.length (fun gk v10 wq=>∃(k m:Nat),v10=.int .i64 (k:Int)∧gk=fs.length-k∧k≤fs.length∧Hid (fs.take k=Ck.take k)∧wq=w3.drewN m)
         case atStart=>exact ⟨0,0,rfl,rfl,by omega,rfl,rfl⟩
         case round =>
          obtain ⟨k,m,rfl,gD,hk,AL,rfl⟩:=hrel
          have ki:=al gD
          clear gD
          by_cases Rq:k<fs.length
          ·obtain ⟨p,hp⟩:∃p,fs[k]?=some p:=⟨_,List.getElem?_eq_getElem Rq⟩
           obtain ⟨p',oD⟩:∃p,Ck[k]?=some p:=⟨_,List.getElem?_eq_getElem (by have:=ab Lq;omega)⟩
           obtain ⟨gv,ov,rfl,KJ,lH⟩:=ab RV (by omega)
           obtain ⟨H9,Gl,rfl,KI,oH⟩:=ab WZ (by have:=ab Lq;omega)
           have l9:=(ab Fz).bl
           obtain ⟨p0,p1,p2,p3,p4,p5⟩:=p
           obtain ⟨r0,r1,r2,r3,r4,r5⟩:=p'
           have kx:∀(j:Nat) (x:Value),j<6→[Value.int .i64 p0,.string p1,.string p2,.string p3,.int .i64 p4,.int .i64 p5][j]?=some x→w3.cell? ⟨gv,ov+(k*6+j),none⟩=some x:=fun j x hj hx=>(l9.cell (p:=⟨gv,ov+(k*6+j),none⟩) KJ).trans (lH _ _ (by unfold fp;rw[ld Fd.cs 6 (fun _=>rfl) fs k j _ hp hj];exact hx))
           have ky:∀(j:Nat) (x:Value),j<6→[Value.int .i64 r0,.string r1,.string r2,.string r3,.int .i64 r4,.int .i64 r5][j]?=some x→w3.cell? ⟨H9,Gl+(k*6+j),none⟩=some x:=fun j x hj hx=>(l9.cell (p:=⟨H9,Gl+(k*6+j),none⟩) KI).trans (oH _ _ (by unfold fp;rw[ld Fd.cs 6 (fun _=>rfl) Ck k j _ oD hj];exact hx))
           have x0:w3.cell? ⟨gv,ov+k*6,none⟩=_:=kx 0 _ (by decide) rfl
           have x1:w3.cell? ⟨gv,ov+k*6+1,none⟩=_:=kx 1 _ (by decide) rfl
           have x2:w3.cell? ⟨gv,ov+k*6+2,none⟩=_:=kx 2 _ (by decide) rfl
           have x3:w3.cell? ⟨gv,ov+k*6+3,none⟩=_:=kx 3 _ (by decide) rfl
           have x4:w3.cell? ⟨gv,ov+k*6+4,none⟩=_:=kx 4 _ (by decide) rfl
           have x5:w3.cell? ⟨gv,ov+k*6+5,none⟩=_:=kx 5 _ (by decide) rfl
           have y0:w3.cell? ⟨H9,Gl+k*6,none⟩=_:=ky 0 _ (by decide) rfl
           have y1:w3.cell? ⟨H9,Gl+k*6+1,none⟩=_:=ky 1 _ (by decide) rfl
           have y2:w3.cell? ⟨H9,Gl+k*6+2,none⟩=_:=ky 2 _ (by decide) rfl
           have y3:w3.cell? ⟨H9,Gl+k*6+3,none⟩=_:=ky 3 _ (by decide) rfl
           have y4:w3.cell? ⟨H9,Gl+k*6+4,none⟩=_:=ky 4 _ (by decide) rfl
           have y5:w3.cell? ⟨H9,Gl+k*6+5,none⟩=_:=ky 5 _ (by decide) rfl
           have k0:(0:Int)≤(k:Int):=zH _
           have k1:(k:Int)<(fs.length:Int):=by omega
           have k2:(k:Int)<(Ck.length:Int):=by have:=ab Lq;omega
           clear kx ky
           by_cases h0:p0=r0
           ·by_cases h1:p1=r1
            ·by_cases h2:p2=r2
             ·by_cases h3:p3=r3
              ·by_cases h4:p4=r4
               ·by_cases h5:p5=r5
                ·subst h0 h1 h2 h3 h4 h5
                 have OH:=al (fh (ab AL) hp oD)
                 clear lH oH hp oD AL l9
                 go_wp2
                 go_quiet (fail)
                 go_wp2
                 go_roundg (fs.length-(k+1))
                 case measure=>have:=ab ki;omega
                 case rel=>exact ⟨k+1,_,by go_num,rfl,by omega,OH,rfl⟩
                ·have HN:=al (ab nk (fun e=>kL hp oD (fun e2=>h5 (congrArg Fd.aE e2)) (by injection e)))
                 have n1:(p5==r5)=false:=by simpa using h5
                 clear lH oH hp oD AL l9
                 go_wp2
                 go_quiet (fail)
                 go_wp2
                 go_ret
                 exact mO (ab HN) (below_drewN (below_drewN (ab dX) _) _)
               ·have HN:=al (ab nk (fun e=>kL hp oD (fun e2=>h4 (congrArg Fd.num e2)) (by injection e)))
                have n1:(p4==r4)=false:=by simpa using h4
                clear lH oH hp oD AL l9
                go_wp2
                go_quiet (fail)
                go_wp2
                go_ret
                exact mO (ab HN) (below_drewN (below_drewN (ab dX) _) _)
              ·have HN:=al (ab nk (fun e=>kL hp oD (fun e2=>h3 (congrArg Fd.name e2)) (by injection e)))
               have n1:=lT h3
               clear lH oH hp oD AL l9
               go_wp2
               go_quiet (fail)
               go_wp2
               go_ret
               exact mO (ab HN) (below_drewN (below_drewN (ab dX) _) _)
             ·have HN:=al (ab nk (fun e=>kL hp oD (fun e2=>h2 (congrArg Fd.ty e2)) (by injection e)))
              have n1:=lT h2
              clear lH oH hp oD AL l9
              go_wp2
              go_quiet (fail)
              go_wp2
              go_ret
              exact mO (ab HN) (below_drewN (below_drewN (ab dX) _) _)
            ·have HN:=al (ab nk (fun e=>kL hp oD (fun e2=>h1 (congrArg Fd.key e2)) (by injection e)))
             have n1:=lT h1
             clear lH oH hp oD AL l9
             go_wp2
             go_quiet (fail)
             go_wp2
             go_ret
             exact mO (ab HN) (below_drewN (below_drewN (ab dX) _) _)
           ·have HN:=al (ab nk (fun e=>kL hp oD (fun e2=>h0 (congrArg Fd.aP e2)) (by injection e)))
            have n1:(p0==r0)=false:=by simpa using h0
            clear lH oH hp oD AL l9
            go_wp2
            go_quiet (fail)
            go_wp2
            go_ret
            exact mO (ab HN) (below_drewN (below_drewN (ab dX) _) _)
          ·obtain rfl:k=fs.length:=by omega
           have XE:=al (show IS W wo.heap.size (wo.heap.size+1) #[.string nm,.slice af fs.length cf,.slice ao os.length co,.slice am ms.length dh,.slice ae es.length dc,.slice ar rs.length cr,.slice ag gs.length cg] #[.string Jl,.slice WX Ck.length WL,.slice WW QF.length WK,.slice PL BK.length PF,.slice PO EO.length PG,.slice PK QB.length PH,.slice PM RZ.length PI] (w3.drewN m) from (ab Fz).up (below_drewN (zE _ _) m))
           have CD:=al (below_drewN (ab dX) m)
           have HTf:=al (kq (ab Lq) (ab AL))
           clear AL dX Fz
           go_wp2_with fail
           refine (ab FB _ (ab XE).bl).mono ?_
           rintro e' w5 ⟨q5,rfl,Rc,jT⟩
           have OI:=al ((ab XE).up jT)
           have u6:=al ((ab CD).trans (jT.mono (ab CD).size))
           have X5:=(ab OI).x
           have Y5:=(ab OI).y
           have Hq5:=al Rc
           clear jT XE CD FB Rc
           cases q5 with
           |false =>
            have HN:=al (ab nk (fun e=>by have:=(ab Hq5).2 (by injection e);cases this))
            go_wp2
            go_ret
            exact mO (ab HN) (ab u6)
           |true =>
            go_wp2_with fail
            refine (ab Ff _ (ab OI).bl).mono ?_
            rintro e' w6 ⟨q6,rfl,YW,oI⟩
            have HT6:=al ((ab OI).up oI)
            have JD:=al ((ab u6).trans (oI.mono (ab u6).size))
            have X6:=(ab HT6).x
            have Y6:=(ab HT6).y
            have Hq6:=al YW
            clear oI OI u6 Ff YW X5 Y5
            cases q6 with
            |false =>
             have HN:=al (ab nk (fun e=>by have:=(ab Hq6).2 (by injection e);cases this))
             go_wp2
             go_ret
             exact mO (ab HN) (ab JD)
            |true =>
             have XD:=al (ab Xa (by
              have a1:=ab Xl
              have a2:=ab HTf
              have a3:=(ab Mg).1 (by trivial)
              have a4:=(ab DK).1 (by trivial)
              have a5:=(ab Sr).1 (by trivial)
              have a6:=(ab Hq5).1 (by trivial)
              have a7:=(ab Hq6).1 (by trivial)
              rw[a1,a2,a3,a4,a5,a6,a7]))
             go_wp2
             go_roundg (l.length-(i+1))
             case measure=>have:=ab bz;have:=ab bu;omega
             case rel=>exact ⟨i+1,by go_num,rfl,by have:=ab bu;omega,XD,JD⟩
     ·have HN:=al (ab nk (fun e=>n2 (by injection e with _ e;rw[e])))
      have e1:((fs.length:Int) != (Ck.length:Int))=true:=by simp;omega
      have e2:((fs.length:Int)==(Ck.length:Int))=false:=by simp;omega
      have e3:(nm.toList==Jl.toList)=true:=by rw[n1];simp
      have e4:¬(fs.length:Int)=(Ck.length:Int):=by omega
      clear n1 n2 HR HG HO FB Ff
      go_wp2
      go_ret
      exact mO (ab HN) (ab iE)
    ·have HN:=al (ab nk (fun e=>n1 (by injection e)))
     have e3:=lT n1
     clear n1 HR HG HO FB Ff
     go_wp2
     go_ret
     exact mO (ab HN) (ab iE)
   ·obtain rfl:i=l.length:=by omega
    have X4:=al (kq (ab nR) (ab HT))
    clear HT
    go_wp2
    go_ret
    exact LF (ab X4) (ab HB)
 ·have HN:Hid (¬l=l'):=fun e=>fJ (by rw[e])
  have e1:((l.length:Int) != (l'.length:Int))=true:=by simp;omega
  have e2:((l.length:Int)==(l'.length:Int))=false:=by simp;omega
  have e3:¬(l.length:Int)=(l'.length:Int):=by omega
  clear fJ
  go_enter Tryz.func23,Tryz.ntmps23
  go_wp2
  go_ret
  exact mO (ab HN) (zE _ _)
theorem tx:∀f,DH f
 |0=>Ga
 |f+1=>yX (tx f)
def bE {α:Type} (c:α→Nat):List α→Nat
 |[]=>0
 |a::r=>c a+bE c r
theorem tq {α:Type} (c:α→Nat):∀(a b:List α),bE c (a++b)=bE c a+bE c b
 |[],b=>by simp[bE]
 |x::a,b=>by rw[List.cons_append,bE,bE,tq c a b];omega
theorem gS {α:Type} (c:α→Nat) {l:List α}{i:Nat}{x:α} (h:l[i]?=some x):bE c (l.take (i+1))=bE c (l.take i)+c x:=by
 rw[bL h,tq]
 rfl
theorem kV {α:Type} (c:α→Nat) (l:List α) (i:Nat):bE c (l.take i)≤bE c l:=by
 have h:=congrArg (bE c) (List.take_append_drop i l)
 rw[tq] at h
 omega
theorem tp {α:Type} (c:α→Nat) {l:List α}{i:Nat}{x:α} (h:l[i]?=some x):c x≤bE c l:=by
 have h1:=gS c h
 have h2:=kV c l (i+1)
 omega
def kh (e:En):Nat:=1+e.aQ.length+e.res.length+e.gone.length
def cO:Nat→Ms→Nat
 |0,_=>0
 |f+1,.mk _ fs os ms es rs gs=>1+fs.length+os.length+rs.length+gs.length+bE kh es+bE (cO f) ms
theorem lW {W:World}{e:En}{vv vr vg:Value} (hv:Rl W vv e.aQ.length (qM e.aQ)) (hr:Rl W vr e.res.length (kO e.res)) (hg:Rl W vg e.gone.length (bY e.gone)) (w0:World) :
  Calls Tryz.prog 54 #[.agg #[.string e.name,vv,vr,vg]] w0 fun e' w=>e'=.returned (.int .i64 (kh e:Int))∧Below w0.heap.size w0 w:=by
 obtain ⟨av,cv,rfl,n1,-⟩:=hv
 obtain ⟨ar,cr,rfl,n2,-⟩:=hr
 obtain ⟨ag,cg,rfl,n3,-⟩:=hg
 have k0:=aK w0 (.cells #[.string e.name,.slice av e.aQ.length cv,.slice ar e.res.length cr,.slice ag e.gone.length cg] 67)
 have bJ:Below w0.heap.size w0 (w0.alloc (.cells #[.string e.name,.slice av e.aQ.length cv,.slice ar e.res.length cr,.slice ag e.gone.length cg] 67)):=(zE _ _).alloc (zD _) _
 obtain ⟨V,hV⟩:∃V,w0.alloc (.cells #[.string e.name,.slice av e.aQ.length cv,.slice ar e.res.length cr,.slice ag e.gone.length cg] 67)=V:=⟨_,rfl⟩
 rw[hV] at k0 bJ
 obtain ⟨c0,c1,c2,c3⟩:=a8 k0
 have HB:=al bJ
 have HE:Hid ((kh e:Int)=1+(e.aQ.length:Int)+(e.res.length:Int)+(e.gone.length:Int)):=by unfold kh;push_cast;rfl
 clear k0 bJ
 go_enter Tryz.func54,Tryz.ntmps54
 go_wp2
 go_ret
 exact ⟨by rw[ab HE];rfl,ab HB⟩
def W3 (f:Nat):Prop:=∀(W:World) (m:Ms) vf vo vm ve vr vg nm fs os ms es rs gs cm ce,Ln W m vf vo vm ve vr vg nm fs os ms es rs gs cm ce→tg f m→cO f m≤1099511627776→∀(w0:World),Below W.heap.size W w0 →
 Calls Tryz.prog 52 #[.agg #[.string nm,vf,vo,vm,ve,vr,vg]] w0 fun e w=>e=.returned (.int .i64 (cO f m:Int))∧Below w0.heap.size w0 w
theorem qG {f:Nat} (ih:W3 f):W3 (f+1):=by
 intro W m vf vo vm ve vr vg nm fs os ms es rs gs cm ce hV hd ht w0 hw
 obtain rfl:=hV.is
 have vK:=al hV.fl
 have vJ:=al hV.ej
 obtain ⟨af,cf,rfl,Ph,-⟩:=hV.hf
 obtain ⟨ao,co,rfl,na,-⟩:=hV.ho
 obtain ⟨am,dh,rfl,Jp,lm⟩:=hV.hm
 obtain ⟨ae,dc,rfl,iG,le⟩:=hV.he
 obtain ⟨ar,cr,rfl,Tg,-⟩:=hV.hr
 obtain ⟨ag,cg,rfl,Ti,-⟩:=hV.hg
 have vH:=al lm
 have vI:=al le
 have Fa:=al ih
 have Cz:Hid (∀m ∈ ms,tg f m):=hd
 have k0:=aK w0 (.cells #[.string nm,.slice af fs.length cf,.slice ao os.length co,.slice am ms.length dh,.slice ae es.length dc,.slice ar rs.length cr,.slice ag gs.length cg] 46)
 have bJ:Below w0.heap.size w0 (w0.alloc (.cells #[.string nm,.slice af fs.length cf,.slice ao os.length co,.slice am ms.length dh,.slice ae es.length dc,.slice ar rs.length cr,.slice ag gs.length cg] 46)):=(zE _ _).alloc (zD _) _
 obtain ⟨V,fO⟩:∃V,w0.alloc (.cells #[.string nm,.slice af fs.length cf,.slice ao os.length co,.slice am ms.length dh,.slice ae es.length dc,.slice ar rs.length cr,.slice ag gs.length cg] 46)=V:=⟨_,rfl⟩
 rw[fO] at k0 bJ
 obtain ⟨c0,c1,c2,c3,c4,c5,c6⟩:=dG k0
 obtain ⟨K0,Wt⟩:∃K,1+fs.length+os.length+rs.length+gs.length=K:=⟨_,rfl⟩
 have hc:cO (f+1) (.mk nm fs os ms es rs gs)=K0+bE kh es+bE (cO f) ms:=by rw[←Wt];rfl
 rw[hc] at ht ⊢
 have HT:=al ht
 have j9:Hid ((K0:Int)=1+(fs.length:Int)+(os.length:Int)+(rs.length:Int)+(gs.length:Int)):=by show _=_;rw[←Wt];push_cast;rfl
 have HW:=al hw
 have HB:=al bJ
 have HK:=al k0
 have bf:fs.length≤1099511627776:=by omega
 have bo:os.length≤1099511627776:=by omega
 have br:rs.length≤1099511627776:=by omega
 have bg:gs.length≤1099511627776:=by omega
 clear lm le ih hw bJ k0 hV hd ht hc Wt
 go_enter Tryz.func52,Tryz.ntmps52
 go_wp2
 rw[show (1+(fs.length:Int)+(os.length:Int)+(rs.length:Int)+(gs.length:Int))=(K0:Int) from (ab j9).symm]
 go_wp2
 go_loopg [3,4] es.length (fun gk v3 v4 wr=>∃(i:Nat),v3=.int .i64 ((K0+bE kh (es.take i):Nat):Int)∧v4=.int .i64 (i:Int)∧gk=es.length-i∧i≤es.length∧Hid (Below w0.heap.size w0 wr)∧Hid (wr.heap[w0.heap.size]?=some (.cells #[.string nm,.slice af fs.length cf,.slice ao os.length co,.slice am ms.length dh,.slice ae es.length dc,.slice ar rs.length cr,.slice ag gs.length cg] 46 (0,0))))
 case atStart=>exact ⟨0,rfl,rfl,rfl,by omega,ab HB,ab HK⟩
 case round =>
  obtain ⟨i,rfl,rfl,aU,eO,iE,j9⟩:=hrel
  have bz:=al aU
  clear aU HB HK
  obtain ⟨c0,c1,c2,c3,c4,c5,c6⟩:=dG (ab j9)
  by_cases aM:i<es.length
  ·have aS:Below W.heap.size W wr:=(ab HW).trans ((ab iE).mono (ab HW).size)
   obtain ⟨g,o,rfl,hg,hc⟩:=ab vI (by omega)
   have hl:=List.getElem?_eq_getElem aM
   obtain ⟨t,ht⟩:∃d,es[i]=d:=⟨_,rfl⟩
   rw[ht] at hl
   obtain ⟨vv,Ba,Bc,dQ,rv,rr,rg⟩:=(ab vK).at i t hl
   have gP:=al (And.intro rv (And.intro rr rg))
   obtain ⟨av,cv,rfl,-,-⟩:=rv
   obtain ⟨qQ,qN,rfl,-,-⟩:=rr
   obtain ⟨qR,qP,rfl,-,-⟩:=rg
   have key:∀(j:Nat) (x:Value),[Value.string t.name,.slice av t.aQ.length cv,.slice qQ t.res.length qN,.slice qR t.gone.length qP][j]?=some x→wr.cell? ⟨g,o+(i*4+j),none⟩=some x:=fun j x hx=>(aS.cell (p:=⟨g,o+(i*4+j),none⟩) hg).trans (hc _ _ (by
    rw[←dQ,List.getElem?_take,List.getElem?_drop] at hx
    split at hx
    ·exact hx
    ·cases hx))
   have x0:wr.cell? ⟨g,o+i*4,none⟩=_:=key 0 _ rfl
   have x1:wr.cell? ⟨g,o+i*4+1,none⟩=_:=key 1 _ rfl
   have x2:wr.cell? ⟨g,o+i*4+2,none⟩=_:=key 2 _ rfl
   have x3:wr.cell? ⟨g,o+i*4+3,none⟩=_:=key 3 _ rfl
   clear hc ht key dQ
   have ff:=gS kh hl
   have hle:=kV kh es (i+1)
   have HC:=al (lW (ab gP).1 (ab gP).2.1 (ab gP).2.2 wr)
   obtain ⟨u,hu⟩:∃u,kh t=u:=⟨_,rfl⟩
   rw[hu] at HC ff
   obtain ⟨z,hz⟩:∃z,K0+bE kh (es.take i)=z:=⟨_,rfl⟩
   obtain ⟨z2,dY⟩:∃z,K0+bE kh (es.take (i+1))=z:=⟨_,rfl⟩
   have zu:z+u=z2:=by omega
   have zb:z2≤1099511627776:=by have:=ab HT;omega
   have zs:((z:Int)+(u:Int))=(z2:Int):=by omega
   rw[hz]
   have E9:=al dY
   have i0:(0:Int)≤(i:Int):=zH _
   have i1:(i:Int)<(es.length:Int):=by omega
   have bu:=al aM
   clear hl aS aM gP ff hle hu hz dY
   have zw:wrap64 ((z:Int)+(u:Int))=(z2:Int):=by rw[zs];unfold wrap64;omega
   clear zw
   have IZ:=al zs
   have zl:z≤1099511627776:=by omega
   have ul:u≤1099511627776:=by omega
   clear zs zu
   go_wp2_with fail
   refine (ab HC).mono ?_
   rintro e w2 ⟨rfl,bd⟩
   have j':=al ((ab iE).trans (bd.mono (ab iE).size))
   have mG:=al ((bd.block _ (zA (ab j9)).1).trans (ab j9))
   clear bd iE j9 HC c0 c1 c2 c3 c4 c5 c6
   obtain ⟨c0,c1,c2,c3,c4,c5,c6⟩:=dG (ab mG)
   go_wp2
   go_roundg (es.length-(i+1))
   case measure=>have:=ab bz;have:=ab bu;omega
   case rel=>exact ⟨i+1,by rw[ab E9,←ab IZ],by go_num,rfl,ab bu,j',mG⟩
  ·obtain rfl:i=es.length:=by omega
   obtain ⟨T',iv⟩:∃x,x=wr:=⟨_,rfl⟩
   subst iv
   rw[List.take_length]
   go_wp2
   go_loopg [3,5] ms.length (fun gk v3 v5 wr=>∃(i:Nat),v3=.int .i64 (((K0+bE kh es)+bE (cO f) (ms.take i):Nat):Int)∧v5=.int .i64 (i:Int)∧gk=ms.length-i∧i≤ms.length∧Hid (Below w0.heap.size w0 wr)∧Hid (wr.heap[w0.heap.size]?=some (.cells #[.string nm,.slice af fs.length cf,.slice ao os.length co,.slice am ms.length dh,.slice ae es.length dc,.slice ar rs.length cr,.slice ag gs.length cg] 46 (0,0))))
   case atStart=>exact ⟨0,rfl,rfl,rfl,by omega,ab iE,ab j9⟩
   case round =>
    obtain ⟨i,rfl,rfl,aU,eO,cM,iC⟩:=hrel
    have bz:=al aU
    clear aU iE j9
    obtain ⟨c0,c1,c2,c3,c4,c5,c6⟩:=dG (ab iC)
    by_cases aM:i<ms.length
    ·have aS:Below W.heap.size W wr:=(ab HW).trans ((ab cM).mono (ab HW).size)
     obtain ⟨g,o,rfl,hg,hc⟩:=ab vH (by omega)
     have hl:=List.getElem?_eq_getElem aM
     obtain ⟨t,ht⟩:∃d,ms[i]=d:=⟨_,rfl⟩
     rw[ht] at hl
     obtain ⟨My,Mx,OY,Mz,Ba,Bc,xw,Dt,C8,qH,wM,CZ,Dr,Ix,Jv,dQ,fO⟩:=(ab vJ).at i t hl
     have gP:=al fO
     obtain ⟨E5,EY,rfl,-,-⟩:=fO.hf
     obtain ⟨DE,DB,rfl,-,-⟩:=fO.ho
     obtain ⟨AE,mc,rfl,-,-⟩:=fO.hm
     obtain ⟨E6,pM,rfl,-,-⟩:=fO.he
     obtain ⟨qQ,qN,rfl,-,-⟩:=fO.hr
     obtain ⟨qR,qP,rfl,-,-⟩:=fO.hg
     have key:∀(j:Nat) (x:Value),[Value.string xw,.slice E5 Dt.length EY,.slice DE C8.length DB,.slice AE qH.length mc,.slice E6 wM.length pM,.slice qQ CZ.length qN,.slice qR Dr.length qP][j]?=some x→wr.cell? ⟨g,o+(i*7+j),none⟩=some x:=fun j x hx=>(aS.cell (p:=⟨g,o+(i*7+j),none⟩) hg).trans (hc _ _ (by
      rw[←dQ,List.getElem?_take,List.getElem?_drop] at hx
      split at hx
      ·exact hx
      ·cases hx))
     have x0:wr.cell? ⟨g,o+i*7,none⟩=_:=key 0 _ rfl
     have x1:wr.cell? ⟨g,o+i*7+1,none⟩=_:=key 1 _ rfl
     have x2:wr.cell? ⟨g,o+i*7+2,none⟩=_:=key 2 _ rfl
     have x3:wr.cell? ⟨g,o+i*7+3,none⟩=_:=key 3 _ rfl
     have x4:wr.cell? ⟨g,o+i*7+4,none⟩=_:=key 4 _ rfl
     have x5:wr.cell? ⟨g,o+i*7+5,none⟩=_:=key 5 _ rfl
     have x6:wr.cell? ⟨g,o+i*7+6,none⟩=_:=key 6 _ rfl
     clear hc ht key dQ
     have ff:=gS (cO f) hl
     have hle:=kV (cO f) ms (i+1)
     have HC:=al (ab Fa _ _ _ _ _ _ _ _ _ _ _ _ _ _ _ _ _ (ab gP) (ab Cz t (List.mem_of_getElem? hl)) (by have:=ab HT;have:=tp (cO f) hl;omega) wr aS)
     obtain ⟨u,hu⟩:∃u,(cO f) t=u:=⟨_,rfl⟩
     rw[hu] at HC ff
     obtain ⟨z,hz⟩:∃z,(K0+bE kh es)+bE (cO f) (ms.take i)=z:=⟨_,rfl⟩
     obtain ⟨z2,dY⟩:∃z,(K0+bE kh es)+bE (cO f) (ms.take (i+1))=z:=⟨_,rfl⟩
     have zu:z+u=z2:=by omega
     have zb:z2≤1099511627776:=by have:=ab HT;omega
     have zs:((z:Int)+(u:Int))=(z2:Int):=by omega
     rw[hz]
     have E9:=al dY
     have i0:(0:Int)≤(i:Int):=zH _
     have i1:(i:Int)<(ms.length:Int):=by omega
     have bu:=al aM
     clear hl aS aM gP ff hle hu hz dY
     have zw:wrap64 ((z:Int)+(u:Int))=(z2:Int):=by rw[zs];unfold wrap64;omega
     clear zw
     have IZ:=al zs
     have zl:z≤1099511627776:=by omega
     have ul:u≤1099511627776:=by omega
     clear zs zu
     go_wp2_with fail
     refine (ab HC).mono ?_
     rintro e w2 ⟨rfl,bd⟩
     have j':=al ((ab cM).trans (bd.mono (ab cM).size))
     have mG:=al ((bd.block _ (zA (ab iC)).1).trans (ab iC))
     clear bd cM iC HC c0 c1 c2 c3 c4 c5 c6
     obtain ⟨c0,c1,c2,c3,c4,c5,c6⟩:=dG (ab mG)
     go_wp2
     go_roundg (ms.length-(i+1))
     case measure=>have:=ab bz;have:=ab bu;omega
     case rel=>exact ⟨i+1,by rw[ab E9,←ab IZ],by go_num,rfl,ab bu,j',mG⟩
    ·obtain rfl:i=ms.length:=by omega
     rw[List.take_length]
     go_wp2
     go_ret
     exact ⟨rfl,ab cM⟩
theorem jG:∀f,W3 f
 |0=>fun _ _ _ _ _ _ _ _ _ _ _ _ _ _ _ _ _ _ h=>h.elim
 |f+1=>qG (jG f)
end Go.Proofs.YtichhjfjcinjgaaGreatDoor
