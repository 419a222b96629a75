import Derived.Test.YtichhjfjcinjgaaGreatDoorYDf
import Derived.Test.YtichhjfjcinjgaaGreatDoorM34
set_option maxHeartbeats 8000000
set_option maxRecDepth 100000
namespace Go.Proofs.YtichhjfjcinjgaaGreatDoor
open Go.RowKit
attribute [local go_sem ↓] Go.wp_at_zero Go.wp_at_succ
def tl:Nat→Ms→Prop
 |0,_=>False
 |f+1,.mk _ _ _ ms _ _ _=>∀m ∈ ms,tl f m
def DR (f:Nat):Prop:=∀(W:World) (v u:Value) (l l':List Ms) (cs iN:List Value),Rl W v l.length cs→tf W cs l→Rl W u l'.length iN→tf W iN l'→(∀m ∈ l,tl f m)→(∀m ∈ l',tl f m)→∀(w0:World),Below W.heap.size W w0→∀deep:Int,0≤deep→deep+f≤200→Calls Tryz.prog 23 #[v,u,.int .i64 deep] w0 (FI w0 (l=l'))
theorem Gl:DR 0:=by
 intro W v u l l' cs iN h _ h' _ hd Ic w0 hw deep h0 h1
 have e:l=[]:=by cases l with|nil=>rfl|cons m r=>exact (hd m (List.mem_cons_self ..)).elim
 have e':l'=[]:=by cases l' with|nil=>rfl|cons m r=>exact (Ic m (List.mem_cons_self ..)).elim
 subst e e'
 obtain ⟨a,c,rfl,-,-⟩:=h
 obtain ⟨a',c',rfl,-,-⟩:=h'
 have h2:deep≤200:=by omega
 have HB:=al (zE w0.heap.size w0)
 simp only[List.length_nil]
 clear hd Ic hw h1
 go_enter Tryz.func23,Tryz.ntmps23
 go_wp2
 go_loopg [7,8,9,10] 1 (fun gk v7 _ _ _ wr=>v7=.int .i64 0∧gk=1∧Hid (wr=w0))
 case atStart=>exact ⟨rfl,rfl,rfl⟩
 case round =>
  obtain ⟨rfl,aU,HW⟩:=hrel
  go_wp2
  go_ret
  have:=ab HW
  subst this
  exact LO (by trivial) (ab HB)
theorem y' {f:Nat} (ih:DR f):DR (f+1):=by
 intro W v u l l' cs iN h hE h' R9 hd Ic w0 hw deep hp0 pH
 obtain ⟨a,c,rfl,hc,h3⟩:=h
 obtain ⟨a',c',rfl,RT,Il⟩:=h'
 have H3:=al h3
 have O7:=al Il
 have HE:=al hE
 have Yc:=al R9
 have HW:=al hw
 have Hd:=al hd
 have Hd':=al Ic
 have Fm:=al ih
 have CI:=al (show 0≤deep+1∧deep+1+f≤200 from ⟨by omega,by omega⟩)
 have yy:deep≤200:=by omega
 clear h3 Il hE R9 hw hd Ic ih pH
 by_cases fM:l.length=l'.length
 ·have nU:=al fM
  have e1:((l.length:Int) != (l'.length:Int))=false:=by simp[fM]
  have e2:((l.length:Int)==(l'.length:Int))=true:=by simp[fM]
  clear fM
  go_enter Tryz.func23,Tryz.ntmps23
  go_wp2
  clear e1 e2
  go_loopg [7,8,9,10] l.length (fun gk v7 _ _ _ wr=>∃(i:Nat),v7=.int .i64 (i:Int)∧gk=l.length-i∧i≤l.length∧Hid (l.take i=l'.take i)∧Hid (Below w0.heap.size w0 wr))
  case atStart=>exact ⟨0,rfl,rfl,by omega,rfl,zE _ _⟩
  case round =>
   obtain ⟨i,rfl,aU,hi,HT,HB⟩:=hrel
   have bz:=al aU
   clear aU
   obtain ⟨wo,iA⟩:∃x,x=wr:=⟨_,rfl⟩
   subst iA
   by_cases aM:i<l.length
   ·obtain ⟨t,ht⟩:∃t,l[i]?=some t:=⟨_,List.getElem?_eq_getElem aM⟩
    obtain ⟨t',nK⟩:∃t,l'[i]?=some t:=⟨_,List.getElem?_eq_getElem (by have:=ab nU;omega)⟩
    obtain ⟨g,o,rfl,hg,hx⟩:=ab H3 (by omega)
    obtain ⟨g',o',rfl,kJ,lP⟩:=ab O7 (by have:=ab nU;omega)
    have hB:Below W.heap.size W wo:=(ab HW).trans ((ab HB).mono (ab HW).size)
    obtain ⟨vf,vo,vm,ve,vr,vg,nm,fs,os,ms,es,rs,gs,cm,ce,dU,hV⟩:=(ab HE).at i t ht
    obtain ⟨vf',vo',Yr,ve',Uo,Uq,Jv,Ct,QQ,BP,EZ,QM,Se,dm,de,GW,Co⟩:=(ab Yc).at i t' nK
    obtain rfl:=hV.is
    obtain rfl:=Co.is
    have Zx:=ab Hd _ (List.mem_of_getElem? ht)
    have RR:=ab Hd' _ (List.mem_of_getElem? nK)
    have key:∀(j:Nat) (x:Value),[Value.string nm,vf,vo,vm,ve,vr,vg][j]?=some x→wo.cell? ⟨g,o+(i*7+j),none⟩=some x:=fun j x cZ=>(hB.cell (p:=⟨g,o+(i*7+j),none⟩) hg).trans (hx _ _ (by
     rw[←dU,List.getElem?_take,List.getElem?_drop] at cZ
     split at cZ
     ·exact cZ
     ·cases cZ))
    have oy:∀(j:Nat) (x:Value),[Value.string Jv,vf',vo',Yr,ve',Uo,Uq][j]?=some x→wo.cell? ⟨g',o'+(i*7+j),none⟩=some x:=fun j x cZ=>(hB.cell (p:=⟨g',o'+(i*7+j),none⟩) kJ).trans (lP _ _ (by
     rw[←GW,List.getElem?_take,List.getElem?_drop] at cZ
     split at cZ
     ·exact cZ
     ·cases cZ))
    have FG:g'<wo.heap.size:=Nat.lt_of_lt_of_le kJ hB.size
    have d0:wo.cell? ⟨g,o+i*7,none⟩=_:=key 0 _ rfl
    have d1:wo.cell? ⟨g,o+i*7+1,none⟩=_:=key 1 _ rfl
    have d2:wo.cell? ⟨g,o+i*7+2,none⟩=_:=key 2 _ rfl
    have d3:wo.cell? ⟨g,o+i*7+3,none⟩=_:=key 3 _ rfl
    have d4:wo.cell? ⟨g,o+i*7+4,none⟩=_:=key 4 _ rfl
    have d5:wo.cell? ⟨g,o+i*7+5,none⟩=_:=key 5 _ rfl
    have d6:wo.cell? ⟨g,o+i*7+6,none⟩=_:=key 6 _ rfl
    have f0:∀q,(wo.alloc q).cell? ⟨g',o'+i*7,none⟩=_:=fun q=>(World.cell?_alloc_lt _ _ _ FG).trans (oy 0 _ rfl)
    have f1:∀q,(wo.alloc q).cell? ⟨g',o'+i*7+1,none⟩=_:=fun q=>(World.cell?_alloc_lt _ _ _ FG).trans (oy 1 _ rfl)
    have f2:∀q,(wo.alloc q).cell? ⟨g',o'+i*7+2,none⟩=_:=fun q=>(World.cell?_alloc_lt _ _ _ FG).trans (oy 2 _ rfl)
    have f3:∀q,(wo.alloc q).cell? ⟨g',o'+i*7+3,none⟩=_:=fun q=>(World.cell?_alloc_lt _ _ _ FG).trans (oy 3 _ rfl)
    have f4:∀q,(wo.alloc q).cell? ⟨g',o'+i*7+4,none⟩=_:=fun q=>(World.cell?_alloc_lt _ _ _ FG).trans (oy 4 _ rfl)
    have f5:∀q,(wo.alloc q).cell? ⟨g',o'+i*7+5,none⟩=_:=fun q=>(World.cell?_alloc_lt _ _ _ FG).trans (oy 5 _ rfl)
    have f6:∀q,(wo.alloc q).cell? ⟨g',o'+i*7+6,none⟩=_:=fun q=>(World.cell?_alloc_lt _ _ _ FG).trans (oy 6 _ rfl)
    have HO:=al (fun w' hb=>ic hV.ho Co.ho w' hb)
    have HR:=al (fun w' hb=>lW hV.hr Co.hr w' hb)
    have HG:=al (fun w' hb=>ic hV.hg Co.hg w' hb)
    have FM:=al (fun w' hb=>mT hV.he hV.fv Co.he Co.fv w' hb)
    have Fs:=al (fun w' hb=>ab Fm W vm Yr ms BP cm dm hV.hm hV.et Co.hm Co.et Zx RR w' hb (deep+1) (ab CI).1 (ab CI).2)
    obtain ⟨af,cf,rfl,j',QL⟩:=hV.hf
    obtain ⟨W3,WQ,rfl,aao,Gm⟩:=Co.hf
    obtain ⟨ao,co,rfl,-,-⟩:=hV.ho
    obtain ⟨W2,WO,rfl,-,-⟩:=Co.ho
    obtain ⟨am,dh,rfl,-,-⟩:=hV.hm
    obtain ⟨PZ,PS,rfl,-,-⟩:=Co.hm
    obtain ⟨ae,da,rfl,-,-⟩:=hV.he
    obtain ⟨P2,PT,rfl,-,-⟩:=Co.he
    obtain ⟨ar,cr,rfl,-,-⟩:=hV.hr
    obtain ⟨PY,PV,rfl,-,-⟩:=Co.hr
    obtain ⟨ag,cg,rfl,-,-⟩:=hV.hg
    obtain ⟨P0,PW,rfl,-,-⟩:=Co.hg
    have RV:=al QL
    have W5:=al Gm
    have i0:(0:Int)≤(i:Int):=zH _
    have i1:(i:Int)<(l.length:Int):=by omega
    have i2:(i:Int)<(l'.length:Int):=by have:=ab nU;omega
    have yp:=al (tr hB #[.string nm,.slice af fs.length cf,.slice ao os.length co,.slice am ms.length dh,.slice ae es.length da,.slice ar rs.length cr,.slice ag gs.length cg] #[.string Jv,.slice W3 Ct.length WQ,.slice W2 QQ.length WO,.slice PZ BP.length PS,.slice P2 EZ.length PT,.slice PY QM.length PV,.slice P0 Se.length PW] 46)
    have iK:=al ((ab HB).trans (show Below w0.heap.size wo ((wo.alloc (.cells #[.string nm,.slice af fs.length cf,.slice ao os.length co,.slice am ms.length dh,.slice ae es.length da,.slice ar rs.length cr,.slice ag gs.length cg] 46)).alloc (.cells #[.string Jv,.slice W3 Ct.length WQ,.slice W2 QQ.length WO,.slice PZ BP.length PS,.slice P2 EZ.length PT,.slice PY QM.length PV,.slice P0 Se.length PW] 46)) from ((zE _ _).alloc (ab HB).size _).alloc (by rw[zJ];have:=(ab HB).size;omega) _))
    have bu:=al aM
    have Xe:=al (fun e:Ms.mk nm fs os ms es rs gs=.mk Jv Ct QQ BP EZ QM Se=>ft (ab HT) ht (by rw[e];exact nK))
    have np:=al (fun e:¬Ms.mk nm fs os ms es rs gs=.mk Jv Ct QQ BP EZ QM Se=>kN ht nK e)
    clear hx lP ht nK hB key oy dU GW QL Gm HT aM hV Co Zx RR
    by_cases n1:nm=Jv
    ·by_cases n2:fs.length=Ct.length
     ·have Xp:=al n1
      have Lz:=al n2
      have e1:((fs.length:Int) != (Ct.length:Int))=false:=by simp[n2]
      have e2:((fs.length:Int)==(Ct.length:Int))=true:=by simp[n2]
      have e3:(nm.toList==Jv.toList)=true:=by rw[n1];simp
      clear n1 n2
      go_wp2_with fail
      refine (ab HO _ (ab yp).bl).mono ?_
      rintro e' w1 ⟨q1,rfl,tX,aW⟩
      have vb:=al ((ab yp).up aW)
      have cN:=al ((ab iK).trans (aW.mono (ab iK).size))
      have X1:=(ab vb).x
      have Y1:=(ab vb).y
      have Mt:=al tX
      clear aW yp iK HO tX d0 d1 d2 d3 d4 d5 d6 f0 f1 f2 f3 f4 f5 f6
      cases q1 with
      |false =>
       have HN:=al (ab np (fun e=>by have:=(ab Mt).2 (by injection e);cases this))
       go_wp2
       go_ret
       exact mQ (ab HN) (ab cN)
      |true =>
       go_wp2_with fail
       refine (ab HR _ (ab vb).bl).mono ?_
       rintro e' w2 ⟨q2,rfl,jZ,bd⟩
       have nP:=al ((ab vb).up bd)
       have cR:=al ((ab cN).trans (bd.mono (ab cN).size))
       have X2:=(ab nP).x
       have Y2:=(ab nP).y
       have DU:=al jZ
       clear bd vb cN HR jZ X1 Y1
       cases q2 with
       |false =>
        have HN:=al (ab np (fun e=>by have:=(ab DU).2 (by injection e);cases this))
        go_wp2
        go_ret
        exact mQ (ab HN) (ab cR)
       |true =>
        go_wp2_with fail
        refine (ab HG _ (ab nP).bl).mono ?_
        rintro e' w3 ⟨q3,rfl,nQ,cE⟩
        have FK:=al ((ab nP).up cE)
        have ed:=al ((ab cR).trans (cE.mono (ab cR).size))
        have X3:=(ab FK).x
        have Y3:=(ab FK).y
        have SC:=al nQ
        clear cE nP cR HG nQ X2 Y2
        cases q3 with
        |false =>
         have HN:=al (ab np (fun e=>by have:=(ab SC).2 (by injection e);cases this))
         go_wp2
         go_ret
         exact mQ (ab HN) (ab ed)
        |true =>
         clear e1 e2 e3
         go_wp2
         go_loopg [10] fs.length (fun gk v10 wq=>∃(k m:Nat),v10=.int .i64 (k:Int)∧gk=fs.length-k∧k≤fs.length∧Hid (fs.take k=Ct.take k)∧wq=w3.drewN m)
         case atStart=>exact ⟨0,0,rfl,rfl,by omega,rfl,rfl⟩
         case round =>
          obtain ⟨k,m,rfl,gF,hk,AT,rfl⟩:=hrel
          have kq:=al gF
          clear gF
          by_cases RD:k<fs.length
          ·obtain ⟨p,hp⟩:∃p,fs[k]?=some p:=⟨_,List.getElem?_eq_getElem RD⟩
           obtain ⟨p',oG⟩:∃p,Ct[k]?=some p:=⟨_,List.getElem?_eq_getElem (by have:=ab Lz;omega)⟩
           obtain ⟨gv,ov,rfl,KS,lJ⟩:=ab RV (by omega)
           obtain ⟨Im,Gy,rfl,KR,oK⟩:=ab W5 (by have:=ab Lz;omega)
           have ma:=(ab FK).bl
           obtain ⟨p0,p1,p2,p3,p4,p5⟩:=p
           obtain ⟨r0,r1,r2,r3,r4,r5⟩:=p'
           have kx:∀(j:Nat) (x:Value),j<6→[Value.int .i64 p0,.string p1,.string p2,.string p3,.int .i64 p4,.int .i64 p5][j]?=some x→w3.cell? ⟨gv,ov+(k*6+j),none⟩=some x:=fun j x hj hx=>(ma.cell (p:=⟨gv,ov+(k*6+j),none⟩) KS).trans (lJ _ _ (by unfold fw;rw[lk Fd.cs 6 (fun _=>rfl) fs k j _ hp hj];exact hx))
           have ky:∀(j:Nat) (x:Value),j<6→[Value.int .i64 r0,.string r1,.string r2,.string r3,.int .i64 r4,.int .i64 r5][j]?=some x→w3.cell? ⟨Im,Gy+(k*6+j),none⟩=some x:=fun j x hj hx=>(ma.cell (p:=⟨Im,Gy+(k*6+j),none⟩) KR).trans (oK _ _ (by unfold fw;rw[lk Fd.cs 6 (fun _=>rfl) Ct k j _ oG hj];exact hx))
           have x0:w3.cell? ⟨gv,ov+k*6,none⟩=_:=kx 0 _ (by decide) rfl
           have x1:w3.cell? ⟨gv,ov+k*6+1,none⟩=_:=kx 1 _ (by decide) rfl
           have x2:w3.cell? ⟨gv,ov+k*6+2,none⟩=_:=kx 2 _ (by decide) rfl
           have x3:w3.cell? ⟨gv,ov+k*6+3,none⟩=_:=kx 3 _ (by decide) rfl
           have x4:w3.cell? ⟨gv,ov+k*6+4,none⟩=_:=kx 4 _ (by decide) rfl
           have x5:w3.cell? ⟨gv,ov+k*6+5,none⟩=_:=kx 5 _ (by decide) rfl
           have y0:w3.cell? ⟨Im,Gy+k*6,none⟩=_:=ky 0 _ (by decide) rfl
           have y1:w3.cell? ⟨Im,Gy+k*6+1,none⟩=_:=ky 1 _ (by decide) rfl
           have y2:w3.cell? ⟨Im,Gy+k*6+2,none⟩=_:=ky 2 _ (by decide) rfl
           have y3:w3.cell? ⟨Im,Gy+k*6+3,none⟩=_:=ky 3 _ (by decide) rfl
           have y4:w3.cell? ⟨Im,Gy+k*6+4,none⟩=_:=ky 4 _ (by decide) rfl
           have y5:w3.cell? ⟨Im,Gy+k*6+5,none⟩=_:=ky 5 _ (by decide) rfl
           have k0:(0:Int)≤(k:Int):=zH _
           have k1:(k:Int)<(fs.length:Int):=by omega
           have k2:(k:Int)<(Ct.length:Int):=by have:=ab Lz;omega
           clear kx ky
           by_cases h0:p0=r0
           ·by_cases h1:p1=r1
            ·by_cases h2:p2=r2
             ·by_cases h3:p3=r3
              ·by_cases h4:p4=r4
               ·by_cases h5:p5=r5
                ·subst h0 h1 h2 h3 h4 h5
                 have OS:=al (ft (ab AT) hp oG)
                 clear lJ oK hp oG AT ma
                 go_wp2
                 go_quiet (fail)
                 go_wp2
                 go_roundg (fs.length-(k+1))
                 case measure=>have:=ab kq;omega
                 case rel=>exact ⟨k+1,_,by go_num,rfl,by omega,OS,rfl⟩
                ·have HN:=al (ab np (fun e=>kN hp oG (fun e2=>h5 (congrArg Fd.aE e2)) (by injection e)))
                 have n1:(p5==r5)=false:=by simpa using h5
                 clear lJ oK hp oG AT ma
                 go_wp2
                 go_quiet (fail)
                 go_wp2
                 go_ret
                 exact mQ (ab HN) (below_drewN (below_drewN (ab ed) _) _)
               ·have HN:=al (ab np (fun e=>kN hp oG (fun e2=>h4 (congrArg Fd.num e2)) (by injection e)))
                have n1:(p4==r4)=false:=by simpa using h4
                clear lJ oK hp oG AT ma
                go_wp2
                go_quiet (fail)
                go_wp2
                go_ret
                exact mQ (ab HN) (below_drewN (below_drewN (ab ed) _) _)
              ·have HN:=al (ab np (fun e=>kN hp oG (fun e2=>h3 (congrArg Fd.name e2)) (by injection e)))
               have n1:=lU h3
               clear lJ oK hp oG AT ma
               go_wp2
               go_quiet (fail)
               go_wp2
               go_ret
               exact mQ (ab HN) (below_drewN (below_drewN (ab ed) _) _)
             ·have HN:=al (ab np (fun e=>kN hp oG (fun e2=>h2 (congrArg Fd.ty e2)) (by injection e)))
              have n1:=lU h2
              clear lJ oK hp oG AT ma
              go_wp2
              go_quiet (fail)
              go_wp2
              go_ret
              exact mQ (ab HN) (below_drewN (below_drewN (ab ed) _) _)
            ·have HN:=al (ab np (fun e=>kN hp oG (fun e2=>h1 (congrArg Fd.key e2)) (by injection e)))
             have n1:=lU h1
             clear lJ oK hp oG AT ma
             go_wp2
             go_quiet (fail)
             go_wp2
             go_ret
             exact mQ (ab HN) (below_drewN (below_drewN (ab ed) _) _)
           ·have HN:=al (ab np (fun e=>kN hp oG (fun e2=>h0 (congrArg Fd.aP e2)) (by injection e)))
            have n1:(p0==r0)=false:=by simpa using h0
            clear lJ oK hp oG AT ma
            go_wp2
            go_quiet (fail)
            go_wp2
            go_ret
            exact mQ (ab HN) (below_drewN (below_drewN (ab ed) _) _)
          ·obtain rfl:k=fs.length:=by omega
           have XI:=al (show I4 W wo.heap.size (wo.heap.size+1) #[.string nm,.slice af fs.length cf,.slice ao os.length co,.slice am ms.length dh,.slice ae es.length da,.slice ar rs.length cr,.slice ag gs.length cg] #[.string Jv,.slice W3 Ct.length WQ,.slice W2 QQ.length WO,.slice PZ BP.length PS,.slice P2 EZ.length PT,.slice PY QM.length PV,.slice P0 Se.length PW] (w3.drewN m) from (ab FK).up (below_drewN (zE _ _) m))
           have CN:=al (below_drewN (ab ed) m)
           have HTf:=al (kt (ab Lz) (ab AT))
           clear AT ed FK
           go_wp2_with fail
           refine (ab FM _ (ab XI).bl).mono ?_
           rintro e' w5 ⟨q5,rfl,Rp,nS⟩
           have OT:=al ((ab XI).up nS)
           have vk:=al ((ab CN).trans (nS.mono (ab CN).size))
           have X5:=(ab OT).x
           have Y5:=(ab OT).y
           have Hq5:=al Rp
           clear nS XI CN FM Rp
           cases q5 with
           |false =>
            have HN:=al (ab np (fun e=>by have:=(ab Hq5).2 (by injection e);cases this))
            go_wp2
            go_ret
            exact mQ (ab HN) (ab vk)
           |true =>
            go_wp2_with fail
            refine (ab Fs _ (ab OT).bl).mono ?_
            rintro e' w6 ⟨q6,rfl,Y7,oL⟩
            have HT6:=al ((ab OT).up oL)
            have JO:=al ((ab vk).trans (oL.mono (ab vk).size))
            have X6:=(ab HT6).x
            have Y6:=(ab HT6).y
            have Hq6:=al Y7
            clear oL OT vk Fs Y7 X5 Y5
            cases q6 with
            |false =>
             have HN:=al (ab np (fun e=>by have:=(ab Hq6).2 (by injection e);cases this))
             go_wp2
             go_ret
             exact mQ (ab HN) (ab JO)
            |true =>
             have XH:=al (ab Xe (by
              have a1:=ab Xp
              have a2:=ab HTf
              have a3:=(ab Mt).1 (by trivial)
              have a4:=(ab DU).1 (by trivial)
              have a5:=(ab SC).1 (by trivial)
              have a6:=(ab Hq5).1 (by trivial)
              have a7:=(ab Hq6).1 (by trivial)
              rw[a1,a2,a3,a4,a5,a6,a7]))
             go_wp2
             go_roundg (l.length-(i+1))
             case measure=>have:=ab bz;have:=ab bu;omega
             case rel=>exact ⟨i+1,by go_num,rfl,by have:=ab bu;omega,XH,JO⟩
     ·have HN:=al (ab np (fun e=>n2 (by injection e with _ e;rw[e])))
      have e1:((fs.length:Int) != (Ct.length:Int))=true:=by simp;omega
      have e2:((fs.length:Int)==(Ct.length:Int))=false:=by simp;omega
      have e3:(nm.toList==Jv.toList)=true:=by rw[n1];simp
      have e4:¬(fs.length:Int)=(Ct.length:Int):=by omega
      clear n1 n2 HR HG HO FM Fs
      go_wp2
      go_ret
      exact mQ (ab HN) (ab iK)
    ·have HN:=al (ab np (fun e=>n1 (by injection e)))
     have e3:=lU n1
     clear n1 HR HG HO FM Fs
     go_wp2
     go_ret
     exact mQ (ab HN) (ab iK)
   ·obtain rfl:i=l.length:=by omega
    have Ya:=al (kt (ab nU) (ab HT))
    clear HT
    go_wp2
    go_ret
    exact LO (ab Ya) (ab HB)
 ·have HN:Hid (¬l=l'):=fun e=>fM (by rw[e])
  have e1:((l.length:Int) != (l'.length:Int))=true:=by simp;omega
  have e2:((l.length:Int)==(l'.length:Int))=false:=by simp;omega
  have e3:¬(l.length:Int)=(l'.length:Int):=by omega
  clear fM
  go_enter Tryz.func23,Tryz.ntmps23
  go_wp2
  go_ret
  exact mQ (ab HN) (zE _ _)
theorem tB:∀f,DR f
 |0=>Gl
 |f+1=>y' (tB f)
def bE {α:Type} (c:α→Nat):List α→Nat
 |[]=>0
 |a::r=>c a+bE c r
theorem tv {α:Type} (c:α→Nat):∀(a b:List α),bE c (a++b)=bE c a+bE c b
 |[],b=>by simp[bE]
 |x::a,b=>by rw[List.cons_append,bE,bE,tv c a b];omega
theorem gU {α:Type} (c:α→Nat) {l:List α}{i:Nat}{x:α} (h:l[i]?=some x):bE c (l.take (i+1))=bE c (l.take i)+c x:=by
 rw[bL h,tv]
 rfl
theorem kW {α:Type} (c:α→Nat) (l:List α) (i:Nat):bE c (l.take i)≤bE c l:=by
 have h:=congrArg (bE c) (List.take_append_drop i l)
 rw[tv] at h
 omega
theorem tu {α:Type} (c:α→Nat) {l:List α}{i:Nat}{x:α} (h:l[i]?=some x):c x≤bE c l:=by
 have h1:=gU c h
 have h2:=kW c l (i+1)
 omega
def kl (e:En):Nat:=1+e.aQ.length+e.res.length+e.gone.length
def cQ:Nat→Ms→Nat
 |0,_=>0
 |f+1,.mk _ fs os ms es rs gs=>1+fs.length+os.length+rs.length+gs.length+bE kl es+bE (cQ f) ms
theorem lX {W:World}{e:En}{vv vr vg:Value} (hv:Rl W vv e.aQ.length (qP e.aQ)) (hr:Rl W vr e.res.length (kQ e.res)) (hg:Rl W vg e.gone.length (bZ e.gone)) (w0:World) :
  Calls Tryz.prog 54 #[.agg #[.string e.name,vv,vr,vg]] w0 fun e' w=>e'=.returned (.int .i64 (kl e:Int))∧Below w0.heap.size w0 w:=by
 obtain ⟨av,cv,rfl,n1,-⟩:=hv
 obtain ⟨ar,cr,rfl,n2,-⟩:=hr
 obtain ⟨ag,cg,rfl,n3,-⟩:=hg
 have k0:=aK w0 (.cells #[.string e.name,.slice av e.aQ.length cv,.slice ar e.res.length cr,.slice ag e.gone.length cg] 67)
 have bG:Below w0.heap.size w0 (w0.alloc (.cells #[.string e.name,.slice av e.aQ.length cv,.slice ar e.res.length cr,.slice ag e.gone.length cg] 67)):=(zE _ _).alloc (zD _) _
 obtain ⟨V,hV⟩:∃V,w0.alloc (.cells #[.string e.name,.slice av e.aQ.length cv,.slice ar e.res.length cr,.slice ag e.gone.length cg] 67)=V:=⟨_,rfl⟩
 rw[hV] at k0 bG
 obtain ⟨c0,c1,c2,c3⟩:=a8 k0
 have HB:=al bG
 have HE:Hid ((kl e:Int)=1+(e.aQ.length:Int)+(e.res.length:Int)+(e.gone.length:Int)):=by unfold kl;push_cast;rfl
 clear k0 bG
 go_enter Tryz.func54,Tryz.ntmps54
 go_wp2
 go_ret
 exact ⟨by rw[ab HE];rfl,ab HB⟩
def W7 (f:Nat):Prop:=∀(W:World) (m:Ms) vf vo vm ve vr vg nm fs os ms es rs gs cm ce,Lw W m vf vo vm ve vr vg nm fs os ms es rs gs cm ce→tl f m→cQ f m≤1099511627776→∀(w0:World),Below W.heap.size W w0 →
 Calls Tryz.prog 52 #[.agg #[.string nm,vf,vo,vm,ve,vr,vg]] w0 fun e w=>e=.returned (.int .i64 (cQ f m:Int))∧Below w0.heap.size w0 w
theorem qJ {f:Nat} (ih:W7 f):W7 (f+1):=by
 intro W m vf vo vm ve vr vg nm fs os ms es rs gs cm ce hV hd ht w0 hw
 obtain rfl:=hV.is
 have vR:=al hV.fv
 have vQ:=al hV.et
 obtain ⟨af,cf,rfl,Py,-⟩:=hV.hf
 obtain ⟨ao,co,rfl,nh,-⟩:=hV.ho
 obtain ⟨am,dh,rfl,H4,lm⟩:=hV.hm
 obtain ⟨ae,da,rfl,iI,le⟩:=hV.he
 obtain ⟨ar,cr,rfl,Tq,-⟩:=hV.hr
 obtain ⟨ag,cg,rfl,Tr,-⟩:=hV.hg
 have vO:=al lm
 have vP:=al le
 have Fm:=al ih
 have CI:Hid (∀m ∈ ms,tl f m):=hd
 have k0:=aK w0 (.cells #[.string nm,.slice af fs.length cf,.slice ao os.length co,.slice am ms.length dh,.slice ae es.length da,.slice ar rs.length cr,.slice ag gs.length cg] 46)
 have bG:Below w0.heap.size w0 (w0.alloc (.cells #[.string nm,.slice af fs.length cf,.slice ao os.length co,.slice am ms.length dh,.slice ae es.length da,.slice ar rs.length cr,.slice ag gs.length cg] 46)):=(zE _ _).alloc (zD _) _
 obtain ⟨V,fR⟩:∃V,w0.alloc (.cells #[.string nm,.slice af fs.length cf,.slice ao os.length co,.slice am ms.length dh,.slice ae es.length da,.slice ar rs.length cr,.slice ag gs.length cg] 46)=V:=⟨_,rfl⟩
 rw[fR] at k0 bG
 obtain ⟨c0,c1,c2,c3,c4,c5,c6⟩:=dI k0
 obtain ⟨K0,Wx⟩:∃K,1+fs.length+os.length+rs.length+gs.length=K:=⟨_,rfl⟩
 have hc:cQ (f+1) (.mk nm fs os ms es rs gs)=K0+bE kl es+bE (cQ f) ms:=by rw[←Wx];rfl
 rw[hc] at ht ⊢
 have HT:=al ht
 have kd:Hid ((K0:Int)=1+(fs.length:Int)+(os.length:Int)+(rs.length:Int)+(gs.length:Int)):=by show _=_;rw[←Wx];push_cast;rfl
 have HW:=al hw
 have HB:=al bG
 have HK:=al k0
 have bf:fs.length≤1099511627776:=by omega
 have bo:os.length≤1099511627776:=by omega
 have br:rs.length≤1099511627776:=by omega
 have bg:gs.length≤1099511627776:=by omega
 clear lm le ih hw bG k0 hV hd ht hc Wx
 go_enter Tryz.func52,Tryz.ntmps52
 go_wp2
 rw[show (1+(fs.length:Int)+(os.length:Int)+(rs.length:Int)+(gs.length:Int))=(K0:Int) from (ab kd).symm]
 go_wp2
 go_loopg [3,4] es.length (fun gk v3 v4 wr=>∃(i:Nat),v3=.int .i64 ((K0+bE kl (es.take i):Nat):Int)∧v4=.int .i64 (i:Int)∧gk=es.length-i∧i≤es.length∧Hid (Below w0.heap.size w0 wr)∧Hid (wr.heap[w0.heap.size]?=some (.cells #[.string nm,.slice af fs.length cf,.slice ao os.length co,.slice am ms.length dh,.slice ae es.length da,.slice ar rs.length cr,.slice ag gs.length cg] 46 (0,0))))
 case atStart=>exact ⟨0,rfl,rfl,rfl,by omega,ab HB,ab HK⟩
 case round =>
  obtain ⟨i,rfl,rfl,aU,eS,iK,kd⟩:=hrel
  have bz:=al aU
  clear aU HB HK
  obtain ⟨c0,c1,c2,c3,c4,c5,c6⟩:=dI (ab kd)
  by_cases aM:i<es.length
  ·have aS:Below W.heap.size W wr:=(ab HW).trans ((ab iK).mono (ab HW).size)
   obtain ⟨g,o,rfl,hg,hc⟩:=ab vP (by omega)
   have hl:=List.getElem?_eq_getElem aM
   obtain ⟨t,ht⟩:∃d,es[i]=d:=⟨_,rfl⟩
   rw[ht] at hl
   obtain ⟨vv,Bg,Bj,dU,rv,rr,rg⟩:=(ab vR).at i t hl
   have gR:=al (And.intro rv (And.intro rr rg))
   obtain ⟨av,cv,rfl,-,-⟩:=rv
   obtain ⟨qT,qQ,rfl,-,-⟩:=rr
   obtain ⟨qU,qS,rfl,-,-⟩:=rg
   have key:∀(j:Nat) (x:Value),[Value.string t.name,.slice av t.aQ.length cv,.slice qT t.res.length qQ,.slice qU t.gone.length qS][j]?=some x→wr.cell? ⟨g,o+(i*4+j),none⟩=some x:=fun j x hx=>(aS.cell (p:=⟨g,o+(i*4+j),none⟩) hg).trans (hc _ _ (by
    rw[←dU,List.getElem?_take,List.getElem?_drop] at hx
    split at hx
    ·exact hx
    ·cases hx))
   have x0:wr.cell? ⟨g,o+i*4,none⟩=_:=key 0 _ rfl
   have x1:wr.cell? ⟨g,o+i*4+1,none⟩=_:=key 1 _ rfl
   have x2:wr.cell? ⟨g,o+i*4+2,none⟩=_:=key 2 _ rfl
   have x3:wr.cell? ⟨g,o+i*4+3,none⟩=_:=key 3 _ rfl
   clear hc ht key dU
   have fl:=gU kl hl
   have hle:=kW kl es (i+1)
   have HC:=al (lX (ab gR).1 (ab gR).2.1 (ab gR).2.2 wr)
   obtain ⟨u,hu⟩:∃u,kl t=u:=⟨_,rfl⟩
   rw[hu] at HC fl
   obtain ⟨z,hz⟩:∃z,K0+bE kl (es.take i)=z:=⟨_,rfl⟩
   obtain ⟨z2,c7⟩:∃z,K0+bE kl (es.take (i+1))=z:=⟨_,rfl⟩
   have zu:z+u=z2:=by omega
   have zb:z2≤1099511627776:=by have:=ab HT;omega
   have zs:((z:Int)+(u:Int))=(z2:Int):=by omega
   rw[hz]
   have Fj:=al c7
   have i0:(0:Int)≤(i:Int):=zH _
   have i1:(i:Int)<(es.length:Int):=by omega
   have bu:=al aM
   clear hl aS aM gR fl hle hu hz c7
   have zw:wrap64 ((z:Int)+(u:Int))=(z2:Int):=by rw[zs];unfold wrap64;omega
   clear zw
   have Ja:=al zs
   have zl:z≤1099511627776:=by omega
   have ul:u≤1099511627776:=by omega
   clear zs zu
   go_wp2_with fail
   refine (ab HC).mono ?_
   rintro e w2 ⟨rfl,bd⟩
   have kh:=al ((ab iK).trans (bd.mono (ab iK).size))
   have mJ:=al ((bd.block _ (zA (ab kd)).1).trans (ab kd))
   clear bd iK kd HC c0 c1 c2 c3 c4 c5 c6
   obtain ⟨c0,c1,c2,c3,c4,c5,c6⟩:=dI (ab mJ)
   go_wp2
   go_roundg (es.length-(i+1))
   case measure=>have:=ab bz;have:=ab bu;omega
   case rel=>exact ⟨i+1,by rw[ab Fj,←ab Ja],by go_num,rfl,ab bu,kh,mJ⟩
  ·obtain rfl:i=es.length:=by omega
   obtain ⟨Ug,iA⟩:∃x,x=wr:=⟨_,rfl⟩
   subst iA
   rw[List.take_length]
   go_wp2
   go_loopg [3,5] ms.length (fun gk v3 v5 wr=>∃(i:Nat),v3=.int .i64 (((K0+bE kl es)+bE (cQ f) (ms.take i):Nat):Int)∧v5=.int .i64 (i:Int)∧gk=ms.length-i∧i≤ms.length∧Hid (Below w0.heap.size w0 wr)∧Hid (wr.heap[w0.heap.size]?=some (.cells #[.string nm,.slice af fs.length cf,.slice ao os.length co,.slice am ms.length dh,.slice ae es.length da,.slice ar rs.length cr,.slice ag gs.length cg] 46 (0,0))))
   case atStart=>exact ⟨0,rfl,rfl,rfl,by omega,ab iK,ab kd⟩
   case round =>
    obtain ⟨i,rfl,rfl,aU,eS,cN,iH⟩:=hrel
    have bz:=al aU
    clear aU iK kd
    obtain ⟨c0,c1,c2,c3,c4,c5,c6⟩:=dI (ab iH)
    by_cases aM:i<ms.length
    ·have aS:Below W.heap.size W wr:=(ab HW).trans ((ab cN).mono (ab HW).size)
     obtain ⟨g,o,rfl,hg,hc⟩:=ab vO (by omega)
     have hl:=List.getElem?_eq_getElem aM
     obtain ⟨t,ht⟩:∃d,ms[i]=d:=⟨_,rfl⟩
     rw[ht] at hl
     obtain ⟨MJ,MI,Pb,MK,Bg,Bj,xy,DD,Dh,qK,wP,Da,DB,IJ,JD,dU,fR⟩:=(ab vQ).at i t hl
     have gR:=al fR
     obtain ⟨Ff,E8,rfl,-,-⟩:=fR.hf
     obtain ⟨DO,DL,rfl,-,-⟩:=fR.ho
     obtain ⟨AM,mg,rfl,-,-⟩:=fR.hm
     obtain ⟨Fg,pP,rfl,-,-⟩:=fR.he
     obtain ⟨qT,qQ,rfl,-,-⟩:=fR.hr
     obtain ⟨qU,qS,rfl,-,-⟩:=fR.hg
     have key:∀(j:Nat) (x:Value),[Value.string xy,.slice Ff DD.length E8,.slice DO Dh.length DL,.slice AM qK.length mg,.slice Fg wP.length pP,.slice qT Da.length qQ,.slice qU DB.length qS][j]?=some x→wr.cell? ⟨g,o+(i*7+j),none⟩=some x:=fun j x hx=>(aS.cell (p:=⟨g,o+(i*7+j),none⟩) hg).trans (hc _ _ (by
      rw[←dU,List.getElem?_take,List.getElem?_drop] at hx
      split at hx
      ·exact hx
      ·cases hx))
     have x0:wr.cell? ⟨g,o+i*7,none⟩=_:=key 0 _ rfl
     have x1:wr.cell? ⟨g,o+i*7+1,none⟩=_:=key 1 _ rfl
     have x2:wr.cell? ⟨g,o+i*7+2,none⟩=_:=key 2 _ rfl
     have x3:wr.cell? ⟨g,o+i*7+3,none⟩=_:=key 3 _ rfl
     have x4:wr.cell? ⟨g,o+i*7+4,none⟩=_:=key 4 _ rfl
     have x5:wr.cell? ⟨g,o+i*7+5,none⟩=_:=key 5 _ rfl
     have x6:wr.cell? ⟨g,o+i*7+6,none⟩=_:=key 6 _ rfl
     clear hc ht key dU
     have fl:=gU (cQ f) hl
     have hle:=kW (cQ f) ms (i+1)
     have HC:=al (ab Fm _ _ _ _ _ _ _ _ _ _ _ _ _ _ _ _ _ (ab gR) (ab CI t (List.mem_of_getElem? hl)) (by have:=ab HT;have:=tu (cQ f) hl;omega) wr aS)
     obtain ⟨u,hu⟩:∃u,(cQ f) t=u:=⟨_,rfl⟩
     rw[hu] at HC fl
     obtain ⟨z,hz⟩:∃z,(K0+bE kl es)+bE (cQ f) (ms.take i)=z:=⟨_,rfl⟩
     obtain ⟨z2,c7⟩:∃z,(K0+bE kl es)+bE (cQ f) (ms.take (i+1))=z:=⟨_,rfl⟩
     have zu:z+u=z2:=by omega
     have zb:z2≤1099511627776:=by have:=ab HT;omega
     have zs:((z:Int)+(u:Int))=(z2:Int):=by omega
     rw[hz]
     have Fj:=al c7
     have i0:(0:Int)≤(i:Int):=zH _
     have i1:(i:Int)<(ms.length:Int):=by omega
     have bu:=al aM
     clear hl aS aM gR fl hle hu hz c7
     have zw:wrap64 ((z:Int)+(u:Int))=(z2:Int):=by rw[zs];unfold wrap64;omega
     clear zw
     have Ja:=al zs
     have zl:z≤1099511627776:=by omega
     have ul:u≤1099511627776:=by omega
     clear zs zu
     go_wp2_with fail
     refine (ab HC).mono ?_
     rintro e w2 ⟨rfl,bd⟩
     have kh:=al ((ab cN).trans (bd.mono (ab cN).size))
     have mJ:=al ((bd.block _ (zA (ab iH)).1).trans (ab iH))
     clear bd cN iH HC c0 c1 c2 c3 c4 c5 c6
     obtain ⟨c0,c1,c2,c3,c4,c5,c6⟩:=dI (ab mJ)
     go_wp2
     go_roundg (ms.length-(i+1))
     case measure=>have:=ab bz;have:=ab bu;omega
     case rel=>exact ⟨i+1,by rw[ab Fj,←ab Ja],by go_num,rfl,ab bu,kh,mJ⟩
    ·obtain rfl:i=ms.length:=by omega
     rw[List.take_length]
     go_wp2
     go_ret
     exact ⟨rfl,ab cN⟩
theorem jJ:∀f,W7 f
 |0=>fun _ _ _ _ _ _ _ _ _ _ _ _ _ _ _ _ _ _ h=>h.elim
 |f+1=>qJ (jJ f)
end Go.Proofs.YtichhjfjcinjgaaGreatDoor
