import Derived.Test.YtichhjfjcinjgaaGreatDoorYDf
import Derived.Test.YtichhjfjcinjgaaGreatDoorM34
set_option maxHeartbeats 8000000
set_option maxRecDepth 100000
namespace Go.Proofs.YtichhjfjcinjgaaGreatDoor
open Go.RowKit
attribute [local go_sem ↓] Go.wp_at_zero Go.wp_at_succ
def tL:Nat→Ms→Prop
 |0,_=>False
 |f+1,.mk _ _ _ ms _ _ _=>∀m ∈ ms,tL f m
def Ek (f:Nat):Prop:=∀(W:World) (v u:Value) (l l':List Ms) (cs iU:List Value),Rl W v l.length cs→tH W cs l→Rl W u l'.length iU→tH W iU l'→(∀m ∈ l,tL f m)→(∀m ∈ l',tL f m)→∀(w0:World),Below W.heap.size W w0→∀deep:Int,0≤deep→deep+f≤200→Calls Tryz.prog 23 #[v,u,.int .i64 deep] w0 (Ge w0 (l=l'))
theorem GW:Ek 0:=by
 intro W v u l l' cs iU h _ h' _ hd IL w0 hw deep h0 h1
 have e:l=[]:=by cases l with|nil=>rfl|cons m r=>exact (hd m (List.mem_cons_self ..)).elim
 have e':l'=[]:=by cases l' with|nil=>rfl|cons m r=>exact (IL m (List.mem_cons_self ..)).elim
 subst e e'
 obtain ⟨a,c,rfl,-,-⟩:=h
 obtain ⟨a',c',rfl,-,-⟩:=h'
 have h2:deep≤200:=by omega
 have HB:=al (zE w0.heap.size w0)
 simp only[List.length_nil]
 clear hd IL hw h1
 go_enter Tryz.func23,Tryz.ntmps23
 go_wp2
 go_loopg [7,8,9,10] 1 (fun gk v7 _ _ _ wr=>v7=.int .i64 0∧gk=1∧Hid (wr=w0))
 case atStart=>exact ⟨rfl,rfl,rfl⟩
 case round =>
  obtain ⟨rfl,aW,HW⟩:=hrel
  go_wp2
  go_ret
  have:=ab HW
  subst this
  exact Mj (by trivial) (ab HB)
theorem Aa {f:Nat} (ih:Ek f):Ek (f+1):=by
 intro W v u l l' cs iU h hE h' SA hd IL w0 hw deep hp0 pY
 obtain ⟨a,c,rfl,hc,h3⟩:=h
 obtain ⟨a',c',rfl,Sn,IV⟩:=h'
 have H3:=al h3
 have PD:=al IV
 have HE:=al hE
 have YD:=al SA
 have HW:=al hw
 have Hd:=al hd
 have Hd':=al IL
 have FU:=al ih
 have q8:=al (show 0≤deep+1∧deep+1+f≤200 from ⟨by omega,by omega⟩)
 have y9:deep≤200:=by omega
 clear h3 IV hE SA hw hd IL ih pY
 by_cases fR:l.length=l'.length
 ·have oC:=al fR
  have e1:((l.length:Int) != (l'.length:Int))=false:=by simp[fR]
  have e2:((l.length:Int)==(l'.length:Int))=true:=by simp[fR]
  clear fR
  go_enter Tryz.func23,Tryz.ntmps23
  go_wp2
  clear e1 e2
  go_loopg [7,8,9,10] l.length (fun gk v7 _ _ _ wr=>∃(i:Nat),v7=.int .i64 (i:Int)∧gk=l.length-i∧i≤l.length∧Hid (l.take i=l'.take i)∧Hid (Below w0.heap.size w0 wr))
  case atStart=>exact ⟨0,rfl,rfl,by omega,rfl,zE _ _⟩
  case round =>
   obtain ⟨i,rfl,aW,hi,HT,HB⟩:=hrel
   have bz:=al aW
   clear aW
   obtain ⟨wo,iI⟩:∃x,x=wr:=⟨_,rfl⟩
   subst iI
   by_cases aM:i<l.length
   ·obtain ⟨t,ht⟩:∃t,l[i]?=some t:=⟨_,List.getElem?_eq_getElem aM⟩
    obtain ⟨t',og⟩:∃t,l'[i]?=some t:=⟨_,List.getElem?_eq_getElem (by have:=ab oC;omega)⟩
    obtain ⟨g,o,rfl,hg,hx⟩:=ab H3 (by omega)
    obtain ⟨g',o',rfl,kY,mc⟩:=ab PD (by have:=ab oC;omega)
    have hB:Below W.heap.size W wo:=(ab HW).trans ((ab HB).mono (ab HW).size)
    obtain ⟨vf,vo,vm,ve,vr,vg,nm,fs,os,ms,es,rs,gs,cm,ce,dV,hV⟩:=(ab HE).at i t ht
    obtain ⟨vf',vo',YR,ve',UP,UT,J3,CS,Rh,Ch,Fx,Rc,SG,dm,de,Im,CN⟩:=(ab YD).at i t' og
    obtain rfl:=hV.is
    obtain rfl:=CN.is
    have ZW:=ab Hd _ (List.mem_of_getElem? ht)
    have Sl:=ab Hd' _ (List.mem_of_getElem? og)
    have key:∀(j:Nat) (x:Value),[Value.string nm,vf,vo,vm,ve,vr,vg][j]?=some x→wo.cell? ⟨g,o+(i*7+j),none⟩=some x:=fun j x c8=>(hB.cell (p:=⟨g,o+(i*7+j),none⟩) hg).trans (hx _ _ (by
     rw[←dV,List.getElem?_take,List.getElem?_drop] at c8
     split at c8
     ·exact c8
     ·cases c8))
    have oR:∀(j:Nat) (x:Value),[Value.string J3,vf',vo',YR,ve',UP,UT][j]?=some x→wo.cell? ⟨g',o'+(i*7+j),none⟩=some x:=fun j x c8=>(hB.cell (p:=⟨g',o'+(i*7+j),none⟩) kY).trans (mc _ _ (by
     rw[←Im,List.getElem?_take,List.getElem?_drop] at c8
     split at c8
     ·exact c8
     ·cases c8))
    have Gc:g'<wo.heap.size:=Nat.lt_of_lt_of_le kY hB.size
    have d0:wo.cell? ⟨g,o+i*7,none⟩=_:=key 0 _ rfl
    have d1:wo.cell? ⟨g,o+i*7+1,none⟩=_:=key 1 _ rfl
    have d2:wo.cell? ⟨g,o+i*7+2,none⟩=_:=key 2 _ rfl
    have d3:wo.cell? ⟨g,o+i*7+3,none⟩=_:=key 3 _ rfl
    have d4:wo.cell? ⟨g,o+i*7+4,none⟩=_:=key 4 _ rfl
    have d5:wo.cell? ⟨g,o+i*7+5,none⟩=_:=key 5 _ rfl
    have d6:wo.cell? ⟨g,o+i*7+6,none⟩=_:=key 6 _ rfl
    have f0:∀q,(wo.alloc q).cell? ⟨g',o'+i*7,none⟩=_:=fun q=>(World.cell?_alloc_lt _ _ _ Gc).trans (oR 0 _ rfl)
    have f1:∀q,(wo.alloc q).cell? ⟨g',o'+i*7+1,none⟩=_:=fun q=>(World.cell?_alloc_lt _ _ _ Gc).trans (oR 1 _ rfl)
    have f2:∀q,(wo.alloc q).cell? ⟨g',o'+i*7+2,none⟩=_:=fun q=>(World.cell?_alloc_lt _ _ _ Gc).trans (oR 2 _ rfl)
    have f3:∀q,(wo.alloc q).cell? ⟨g',o'+i*7+3,none⟩=_:=fun q=>(World.cell?_alloc_lt _ _ _ Gc).trans (oR 3 _ rfl)
    have f4:∀q,(wo.alloc q).cell? ⟨g',o'+i*7+4,none⟩=_:=fun q=>(World.cell?_alloc_lt _ _ _ Gc).trans (oR 4 _ rfl)
    have f5:∀q,(wo.alloc q).cell? ⟨g',o'+i*7+5,none⟩=_:=fun q=>(World.cell?_alloc_lt _ _ _ Gc).trans (oR 5 _ rfl)
    have f6:∀q,(wo.alloc q).cell? ⟨g',o'+i*7+6,none⟩=_:=fun q=>(World.cell?_alloc_lt _ _ _ Gc).trans (oR 6 _ rfl)
    have HO:=al (fun w' hb=>iv hV.ho CN.ho w' hb)
    have HR:=al (fun w' hb=>mu hV.hr CN.hr w' hb)
    have HG:=al (fun w' hb=>iv hV.hg CN.hg w' hb)
    have Gi:=al (fun w' hb=>ny hV.he hV.fA CN.he CN.fA w' hb)
    have FZ:=al (fun w' hb=>ab FU W vm YR ms Ch cm dm hV.hm hV.eo CN.hm CN.eo ZW Sl w' hb (deep+1) (ab q8).1 (ab q8).2)
    obtain ⟨af,cf,rfl,ku,Rb⟩:=hV.hf
    obtain ⟨Xx,Xl,rfl,aas,GX⟩:=CN.hf
    obtain ⟨ao,co,rfl,-,-⟩:=hV.ho
    obtain ⟨Xw,Xk,rfl,-,-⟩:=CN.ho
    obtain ⟨am,dk,rfl,-,-⟩:=hV.hm
    obtain ⟨Qo,Qi,rfl,-,-⟩:=CN.hm
    obtain ⟨ae,dc,rfl,-,-⟩:=hV.he
    obtain ⟨Qr,Qj,rfl,-,-⟩:=CN.he
    obtain ⟨ar,cr,rfl,-,-⟩:=hV.hr
    obtain ⟨Qn,Qk,rfl,-,-⟩:=CN.hr
    obtain ⟨ag,cg,rfl,-,-⟩:=hV.hg
    obtain ⟨Qp,Ql,rfl,-,-⟩:=CN.hg
    have RV:=al Rb
    have Xz:=al GX
    have i0:(0:Int)≤(i:Int):=zH _
    have i1:(i:Int)<(l.length:Int):=by omega
    have i2:(i:Int)<(l'.length:Int):=by have:=ab oC;omega
    have yT:=al (tR hB #[.string nm,.slice af fs.length cf,.slice ao os.length co,.slice am ms.length dk,.slice ae es.length dc,.slice ar rs.length cr,.slice ag gs.length cg] #[.string J3,.slice Xx CS.length Xl,.slice Xw Rh.length Xk,.slice Qo Ch.length Qi,.slice Qr Fx.length Qj,.slice Qn Rc.length Qk,.slice Qp SG.length Ql] 46)
    have iR:=al ((ab HB).trans (show Below w0.heap.size wo ((wo.alloc (.cells #[.string nm,.slice af fs.length cf,.slice ao os.length co,.slice am ms.length dk,.slice ae es.length dc,.slice ar rs.length cr,.slice ag gs.length cg] 46)).alloc (.cells #[.string J3,.slice Xx CS.length Xl,.slice Xw Rh.length Xk,.slice Qo Ch.length Qi,.slice Qr Fx.length Qj,.slice Qn Rc.length Qk,.slice Qp SG.length Ql] 46)) from ((zE _ _).alloc (ab HB).size _).alloc (by rw[zJ];have:=(ab HB).size;omega) _))
    have bu:=al aM
    have XI:=al (fun e:Ms.mk nm fs os ms es rs gs=.mk J3 CS Rh Ch Fx Rc SG=>fx (ab HT) ht (by rw[e];exact og))
    have nP:=al (fun e:¬Ms.mk nm fs os ms es rs gs=.mk J3 CS Rh Ch Fx Rc SG=>lb ht og e)
    clear hx mc ht og hB key oR dV Im Rb GX HT aM hV CN ZW Sl
    by_cases n1:nm=J3
    ·by_cases n2:fs.length=CS.length
     ·have XT:=al n1
      have L5:=al n2
      have e1:((fs.length:Int) != (CS.length:Int))=false:=by simp[n2]
      have e2:((fs.length:Int)==(CS.length:Int))=true:=by simp[n2]
      have e3:(nm.toList==J3.toList)=true:=by rw[n1];simp
      clear n1 n2
      go_wp2_with fail
      refine (ab HO _ (ab yT).bl).mono ?_
      rintro e' w1 ⟨q1,rfl,uP,aX⟩
      have sF:=al ((ab yT).up aX)
      have cO:=al ((ab iR).trans (aX.mono (ab iR).size))
      have X1:=(ab sF).x
      have Y1:=(ab sF).y
      have MR:=al uP
      clear aX yT iR HO uP d0 d1 d2 d3 d4 d5 d6 f0 f1 f2 f3 f4 f5 f6
      cases q1 with
      |false =>
       have HN:=al (ab nP (fun e=>by have:=(ab MR).2 (by injection e);cases this))
       go_wp2
       go_ret
       exact nu (ab HN) (ab cO)
      |true =>
       go_wp2_with fail
       refine (ab HR _ (ab sF).bl).mono ?_
       rintro e' w2 ⟨q2,rfl,gT,bd⟩
       have ox:=al ((ab sF).up bd)
       have cS:=al ((ab cO).trans (bd.mono (ab cO).size))
       have X2:=(ab ox).x
       have Y2:=(ab ox).y
       have Eo:=al gT
       clear bd sF cO HR gT X1 Y1
       cases q2 with
       |false =>
        have HN:=al (ab nP (fun e=>by have:=(ab Eo).2 (by injection e);cases this))
        go_wp2
        go_ret
        exact nu (ab HN) (ab cS)
       |true =>
        go_wp2_with fail
        refine (ab HG _ (ab ox).bl).mono ?_
        rintro e' w3 ⟨q3,rfl,oy,cz⟩
        have Gg:=al ((ab ox).up cz)
        have eh:=al ((ab cS).trans (cz.mono (ab cS).size))
        have X3:=(ab Gg).x
        have Y3:=(ab Gg).y
        have S3:=al oy
        clear cz ox cS HG oy X2 Y2
        cases q3 with
        |false =>
         have HN:=al (ab nP (fun e=>by have:=(ab S3).2 (by injection e);cases this))
         go_wp2
         go_ret
         exact nu (ab HN) (ab eh)
        |true =>
         clear e1 e2 e3
         go_wp2
         go_loopg [10] fs.length (fun gk v10 wq=>∃(k m:Nat),v10=.int .i64 (k:Int)∧gk=fs.length-k∧k≤fs.length∧Hid (fs.take k=CS.take k)∧wq=w3.drewN m)
         case atStart=>exact ⟨0,0,rfl,rfl,by omega,rfl,rfl⟩
         case round =>
          obtain ⟨k,m,rfl,gL,hk,Bh,rfl⟩:=hrel
          have kH:=al gL
          clear gL
          by_cases R8:k<fs.length
          ·obtain ⟨p,hp⟩:∃p,fs[k]?=some p:=⟨_,List.getElem?_eq_getElem R8⟩
           obtain ⟨p',oY⟩:∃p,CS[k]?=some p:=⟨_,List.getElem?_eq_getElem (by have:=ab L5;omega)⟩
           obtain ⟨gv,ov,rfl,Lp,l7⟩:=ab RV (by omega)
           obtain ⟨IW,G7,rfl,Lo,o8⟩:=ab Xz (by have:=ab L5;omega)
           have j7:=(ab Gg).bl
           obtain ⟨p0,p1,p2,p3,p4,p5⟩:=p
           obtain ⟨r0,r1,r2,r3,r4,r5⟩:=p'
           have kx:∀(j:Nat) (x:Value),j<6→[Value.int .i64 p0,.string p1,.string p2,.string p3,.int .i64 p4,.int .i64 p5][j]?=some x→w3.cell? ⟨gv,ov+(k*6+j),none⟩=some x:=fun j x hj hx=>(j7.cell (p:=⟨gv,ov+(k*6+j),none⟩) Lp).trans (l7 _ _ (by unfold fB;rw[lJ Fd.cs 6 (fun _=>rfl) fs k j _ hp hj];exact hx))
           have ky:∀(j:Nat) (x:Value),j<6→[Value.int .i64 r0,.string r1,.string r2,.string r3,.int .i64 r4,.int .i64 r5][j]?=some x→w3.cell? ⟨IW,G7+(k*6+j),none⟩=some x:=fun j x hj hx=>(j7.cell (p:=⟨IW,G7+(k*6+j),none⟩) Lo).trans (o8 _ _ (by unfold fB;rw[lJ Fd.cs 6 (fun _=>rfl) CS k j _ oY hj];exact hx))
           have x0:w3.cell? ⟨gv,ov+k*6,none⟩=_:=kx 0 _ (by decide) rfl
           have x1:w3.cell? ⟨gv,ov+k*6+1,none⟩=_:=kx 1 _ (by decide) rfl
           have x2:w3.cell? ⟨gv,ov+k*6+2,none⟩=_:=kx 2 _ (by decide) rfl
           have x3:w3.cell? ⟨gv,ov+k*6+3,none⟩=_:=kx 3 _ (by decide) rfl
           have x4:w3.cell? ⟨gv,ov+k*6+4,none⟩=_:=kx 4 _ (by decide) rfl
           have x5:w3.cell? ⟨gv,ov+k*6+5,none⟩=_:=kx 5 _ (by decide) rfl
           have y0:w3.cell? ⟨IW,G7+k*6,none⟩=_:=ky 0 _ (by decide) rfl
           have y1:w3.cell? ⟨IW,G7+k*6+1,none⟩=_:=ky 1 _ (by decide) rfl
           have y2:w3.cell? ⟨IW,G7+k*6+2,none⟩=_:=ky 2 _ (by decide) rfl
           have y3:w3.cell? ⟨IW,G7+k*6+3,none⟩=_:=ky 3 _ (by decide) rfl
           have y4:w3.cell? ⟨IW,G7+k*6+4,none⟩=_:=ky 4 _ (by decide) rfl
           have y5:w3.cell? ⟨IW,G7+k*6+5,none⟩=_:=ky 5 _ (by decide) rfl
           have k0:(0:Int)≤(k:Int):=zH _
           have k1:(k:Int)<(fs.length:Int):=by omega
           have k2:(k:Int)<(CS.length:Int):=by have:=ab L5;omega
           clear kx ky
           by_cases h0:p0=r0
           ·by_cases h1:p1=r1
            ·by_cases h2:p2=r2
             ·by_cases h3:p3=r3
              ·by_cases h4:p4=r4
               ·by_cases h5:p5=r5
                ·subst h0 h1 h2 h3 h4 h5
                 have Pj:=al (fx (ab Bh) hp oY)
                 clear l7 o8 hp oY Bh j7
                 go_wp2
                 go_quiet (fail)
                 go_wp2
                 go_roundg (fs.length-(k+1))
                 case measure=>have:=ab kH;omega
                 case rel=>exact ⟨k+1,_,by go_num,rfl,by omega,Pj,rfl⟩
                ·have HN:=al (ab nP (fun e=>lb hp oY (fun e2=>h5 (congrArg Fd.aE e2)) (by injection e)))
                 have n1:(p5==r5)=false:=by simpa using h5
                 clear l7 o8 hp oY Bh j7
                 go_wp2
                 go_quiet (fail)
                 go_wp2
                 go_ret
                 exact nu (ab HN) (below_drewN (below_drewN (ab eh) _) _)
               ·have HN:=al (ab nP (fun e=>lb hp oY (fun e2=>h4 (congrArg Fd.num e2)) (by injection e)))
                have n1:(p4==r4)=false:=by simpa using h4
                clear l7 o8 hp oY Bh j7
                go_wp2
                go_quiet (fail)
                go_wp2
                go_ret
                exact nu (ab HN) (below_drewN (below_drewN (ab eh) _) _)
              ·have HN:=al (ab nP (fun e=>lb hp oY (fun e2=>h3 (congrArg Fd.name e2)) (by injection e)))
               have n1:=mn h3
               clear l7 o8 hp oY Bh j7
               go_wp2
               go_quiet (fail)
               go_wp2
               go_ret
               exact nu (ab HN) (below_drewN (below_drewN (ab eh) _) _)
             ·have HN:=al (ab nP (fun e=>lb hp oY (fun e2=>h2 (congrArg Fd.ty e2)) (by injection e)))
              have n1:=mn h2
              clear l7 o8 hp oY Bh j7
              go_wp2
              go_quiet (fail)
              go_wp2
              go_ret
              exact nu (ab HN) (below_drewN (below_drewN (ab eh) _) _)
            ·have HN:=al (ab nP (fun e=>lb hp oY (fun e2=>h1 (congrArg Fd.key e2)) (by injection e)))
             have n1:=mn h1
             clear l7 o8 hp oY Bh j7
             go_wp2
             go_quiet (fail)
             go_wp2
             go_ret
             exact nu (ab HN) (below_drewN (below_drewN (ab eh) _) _)
           ·have HN:=al (ab nP (fun e=>lb hp oY (fun e2=>h0 (congrArg Fd.aQ e2)) (by injection e)))
            have n1:(p0==r0)=false:=by simpa using h0
            clear l7 o8 hp oY Bh j7
            go_wp2
            go_quiet (fail)
            go_wp2
            go_ret
            exact nu (ab HN) (below_drewN (below_drewN (ab eh) _) _)
          ·obtain rfl:k=fs.length:=by omega
           have Yg:=al (show Jz W wo.heap.size (wo.heap.size+1) #[.string nm,.slice af fs.length cf,.slice ao os.length co,.slice am ms.length dk,.slice ae es.length dc,.slice ar rs.length cr,.slice ag gs.length cg] #[.string J3,.slice Xx CS.length Xl,.slice Xw Rh.length Xk,.slice Qo Ch.length Qi,.slice Qr Fx.length Qj,.slice Qn Rc.length Qk,.slice Qp SG.length Ql] (w3.drewN m) from (ab Gg).up (below_drewN (zE _ _) m))
           have Dg:=al (below_drewN (ab eh) m)
           have HTf:=al (kL (ab L5) (ab Bh))
           clear Bh eh Gg
           go_wp2_with fail
           refine (ab Gi _ (ab Yg).bl).mono ?_
           rintro e' w5 ⟨q5,rfl,RP,kh⟩
           have Pl:=al ((ab Yg).up kh)
           have vN:=al ((ab Dg).trans (kh.mono (ab Dg).size))
           have X5:=(ab Pl).x
           have Y5:=(ab Pl).y
           have Hq5:=al RP
           clear kh Yg Dg Gi RP
           cases q5 with
           |false =>
            have HN:=al (ab nP (fun e=>by have:=(ab Hq5).2 (by injection e);cases this))
            go_wp2
            go_ret
            exact nu (ab HN) (ab vN)
           |true =>
            go_wp2_with fail
            refine (ab FZ _ (ab Pl).bl).mono ?_
            rintro e' w6 ⟨q6,rfl,Zu,pa⟩
            have HT6:=al ((ab Pl).up pa)
            have Km:=al ((ab vN).trans (pa.mono (ab vN).size))
            have X6:=(ab HT6).x
            have Y6:=(ab HT6).y
            have Hq6:=al Zu
            clear pa Pl vN FZ Zu X5 Y5
            cases q6 with
            |false =>
             have HN:=al (ab nP (fun e=>by have:=(ab Hq6).2 (by injection e);cases this))
             go_wp2
             go_ret
             exact nu (ab HN) (ab Km)
            |true =>
             have Yf:=al (ab XI (by
              have a1:=ab XT
              have a2:=ab HTf
              have a3:=(ab MR).1 (by trivial)
              have a4:=(ab Eo).1 (by trivial)
              have a5:=(ab S3).1 (by trivial)
              have a6:=(ab Hq5).1 (by trivial)
              have a7:=(ab Hq6).1 (by trivial)
              rw[a1,a2,a3,a4,a5,a6,a7]))
             go_wp2
             go_roundg (l.length-(i+1))
             case measure=>have:=ab bz;have:=ab bu;omega
             case rel=>exact ⟨i+1,by go_num,rfl,by have:=ab bu;omega,Yf,Km⟩
     ·have HN:=al (ab nP (fun e=>n2 (by injection e with _ e;rw[e])))
      have e1:((fs.length:Int) != (CS.length:Int))=true:=by simp;omega
      have e2:((fs.length:Int)==(CS.length:Int))=false:=by simp;omega
      have e3:(nm.toList==J3.toList)=true:=by rw[n1];simp
      have e4:¬(fs.length:Int)=(CS.length:Int):=by omega
      clear n1 n2 HR HG HO Gi FZ
      go_wp2
      go_ret
      exact nu (ab HN) (ab iR)
    ·have HN:=al (ab nP (fun e=>n1 (by injection e)))
     have e3:=mn n1
     clear n1 HR HG HO Gi FZ
     go_wp2
     go_ret
     exact nu (ab HN) (ab iR)
   ·obtain rfl:i=l.length:=by omega
    have YB:=al (kL (ab oC) (ab HT))
    clear HT
    go_wp2
    go_ret
    exact Mj (ab YB) (ab HB)
 ·have HN:Hid (¬l=l'):=fun e=>fR (by rw[e])
  have e1:((l.length:Int) != (l'.length:Int))=true:=by simp;omega
  have e2:((l.length:Int)==(l'.length:Int))=false:=by simp;omega
  have e3:¬(l.length:Int)=(l'.length:Int):=by omega
  clear fR
  go_enter Tryz.func23,Tryz.ntmps23
  go_wp2
  go_ret
  exact nu (ab HN) (zE _ _)
theorem tZ:∀f,Ek f
 |0=>GW
 |f+1=>Aa (tZ f)
def bE {α:Type} (c:α→Nat):List α→Nat
 |[]=>0
 |a::r=>c a+bE c r
theorem tT {α:Type} (c:α→Nat):∀(a b:List α),bE c (a++b)=bE c a+bE c b
 |[],b=>by simp[bE]
 |x::a,b=>by rw[List.cons_append,bE,bE,tT c a b];omega
theorem hJ {α:Type} (c:α→Nat) {l:List α}{i:Nat}{x:α} (h:l[i]?=some x):bE c (l.take (i+1))=bE c (l.take i)+c x:=by
 rw[bM h,tT]
 rfl
theorem lA {α:Type} (c:α→Nat) (l:List α) (i:Nat):bE c (l.take i)≤bE c l:=by
 have h:=congrArg (bE c) (List.take_append_drop i l)
 rw[tT] at h
 omega
theorem tS {α:Type} (c:α→Nat) {l:List α}{i:Nat}{x:α} (h:l[i]?=some x):c x≤bE c l:=by
 have h1:=hJ c h
 have h2:=lA c l (i+1)
 omega
def kF (e:En):Nat:=1+e.aR.length+e.res.length+e.gone.length
def cR:Nat→Ms→Nat
 |0,_=>0
 |f+1,.mk _ fs os ms es rs gs=>1+fs.length+os.length+rs.length+gs.length+bE kF es+bE (cR f) ms
theorem mv {W:World}{e:En}{vv vr vg:Value} (hv:Rl W vv e.aR.length (rn e.aR)) (hr:Rl W vr e.res.length (lj e.res)) (hg:Rl W vg e.gone.length (cc e.gone)) (w0:World) :
  Calls Tryz.prog 54 #[.agg #[.string e.name,vv,vr,vg]] w0 fun e' w=>e'=.returned (.int .i64 (kF e:Int))∧Below w0.heap.size w0 w:=by
 obtain ⟨av,cv,rfl,n1,-⟩:=hv
 obtain ⟨ar,cr,rfl,n2,-⟩:=hr
 obtain ⟨ag,cg,rfl,n3,-⟩:=hg
 have k0:=aJ w0 (.cells #[.string e.name,.slice av e.aR.length cv,.slice ar e.res.length cr,.slice ag e.gone.length cg] 67)
 have bG:Below w0.heap.size w0 (w0.alloc (.cells #[.string e.name,.slice av e.aR.length cv,.slice ar e.res.length cr,.slice ag e.gone.length cg] 67)):=(zE _ _).alloc (zD _) _
 obtain ⟨V,hV⟩:∃V,w0.alloc (.cells #[.string e.name,.slice av e.aR.length cv,.slice ar e.res.length cr,.slice ag e.gone.length cg] 67)=V:=⟨_,rfl⟩
 rw[hV] at k0 bG
 obtain ⟨c0,c1,c2,c3⟩:=aP k0
 have HB:=al bG
 have HE:Hid ((kF e:Int)=1+(e.aR.length:Int)+(e.res.length:Int)+(e.gone.length:Int)):=by unfold kF;push_cast;rfl
 clear k0 bG
 go_enter Tryz.func54,Tryz.ntmps54
 go_wp2
 go_ret
 exact ⟨by rw[ab HE];rfl,ab HB⟩
def XB (f:Nat):Prop:=∀(W:World) (m:Ms) vf vo vm ve vr vg nm fs os ms es rs gs cm ce,L0 W m vf vo vm ve vr vg nm fs os ms es rs gs cm ce→tL f m→cR f m≤1099511627776→∀(w0:World),Below W.heap.size W w0 →
 Calls Tryz.prog 52 #[.agg #[.string nm,vf,vo,vm,ve,vr,vg]] w0 fun e w=>e=.returned (.int .i64 (cR f m:Int))∧Below w0.heap.size w0 w
theorem rf {f:Nat} (ih:XB f):XB (f+1):=by
 intro W m vf vo vm ve vr vg nm fs os ms es rs gs cm ce hV hd ht w0 hw
 obtain rfl:=hV.is
 have wH:=al hV.fA
 have wG:=al hV.eo
 obtain ⟨af,cf,rfl,P0,-⟩:=hV.hf
 obtain ⟨ao,co,rfl,nJ,-⟩:=hV.ho
 obtain ⟨am,dk,rfl,IC,lm⟩:=hV.hm
 obtain ⟨ae,dc,rfl,iP,le⟩:=hV.he
 obtain ⟨ar,cr,rfl,TP,-⟩:=hV.hr
 obtain ⟨ag,cg,rfl,TQ,-⟩:=hV.hg
 have wz:=al lm
 have wF:=al le
 have FU:=al ih
 have q8:Hid (∀m ∈ ms,tL f m):=hd
 have k0:=aJ w0 (.cells #[.string nm,.slice af fs.length cf,.slice ao os.length co,.slice am ms.length dk,.slice ae es.length dc,.slice ar rs.length cr,.slice ag gs.length cg] 46)
 have bG:Below w0.heap.size w0 (w0.alloc (.cells #[.string nm,.slice af fs.length cf,.slice ao os.length co,.slice am ms.length dk,.slice ae es.length dc,.slice ar rs.length cr,.slice ag gs.length cg] 46)):=(zE _ _).alloc (zD _) _
 obtain ⟨V,fX⟩:∃V,w0.alloc (.cells #[.string nm,.slice af fs.length cf,.slice ao os.length co,.slice am ms.length dk,.slice ae es.length dc,.slice ar rs.length cr,.slice ag gs.length cg] 46)=V:=⟨_,rfl⟩
 rw[fX] at k0 bG
 obtain ⟨c0,c1,c2,c3,c4,c5,c6⟩:=dK k0
 obtain ⟨K0,W4⟩:∃K,1+fs.length+os.length+rs.length+gs.length=K:=⟨_,rfl⟩
 have hc:cR (f+1) (.mk nm fs os ms es rs gs)=K0+bE kF es+bE (cR f) ms:=by rw[←W4];rfl
 rw[hc] at ht ⊢
 have HT:=al ht
 have kA:Hid ((K0:Int)=1+(fs.length:Int)+(os.length:Int)+(rs.length:Int)+(gs.length:Int)):=by show _=_;rw[←W4];push_cast;rfl
 have HW:=al hw
 have HB:=al bG
 have HK:=al k0
 have bf:fs.length≤1099511627776:=by omega
 have bo:os.length≤1099511627776:=by omega
 have br:rs.length≤1099511627776:=by omega
 have bg:gs.length≤1099511627776:=by omega
 clear lm le ih hw bG k0 hV hd ht hc W4
 go_enter Tryz.func52,Tryz.ntmps52
 go_wp2
 rw[show (1+(fs.length:Int)+(os.length:Int)+(rs.length:Int)+(gs.length:Int))=(K0:Int) from (ab kA).symm]
 go_wp2
 go_loopg [3,4] es.length (fun gk v3 v4 wr=>∃(i:Nat),v3=.int .i64 ((K0+bE kF (es.take i):Nat):Int)∧v4=.int .i64 (i:Int)∧gk=es.length-i∧i≤es.length∧Hid (Below w0.heap.size w0 wr)∧Hid (wr.heap[w0.heap.size]?=some (.cells #[.string nm,.slice af fs.length cf,.slice ao os.length co,.slice am ms.length dk,.slice ae es.length dc,.slice ar rs.length cr,.slice ag gs.length cg] 46 (0,0))))
 case atStart=>exact ⟨0,rfl,rfl,rfl,by omega,ab HB,ab HK⟩
 case round =>
  obtain ⟨i,rfl,rfl,aW,eV,iR,kA⟩:=hrel
  have bz:=al aW
  clear aW HB HK
  obtain ⟨c0,c1,c2,c3,c4,c5,c6⟩:=dK (ab kA)
  by_cases aM:i<es.length
  ·have aT:Below W.heap.size W wr:=(ab HW).trans ((ab iR).mono (ab HW).size)
   obtain ⟨g,o,rfl,hg,hc⟩:=ab wF (by omega)
   have hl:=List.getElem?_eq_getElem aM
   obtain ⟨t,ht⟩:∃d,es[i]=d:=⟨_,rfl⟩
   rw[ht] at hl
   obtain ⟨vv,BG,BJ,dV,rv,rr,rg⟩:=(ab wH).at i t hl
   have gY:=al (And.intro rv (And.intro rr rg))
   obtain ⟨av,cv,rfl,-,-⟩:=rv
   obtain ⟨ry,rp,rfl,-,-⟩:=rr
   obtain ⟨rz,ru,rfl,-,-⟩:=rg
   have key:∀(j:Nat) (x:Value),[Value.string t.name,.slice av t.aR.length cv,.slice ry t.res.length rp,.slice rz t.gone.length ru][j]?=some x→wr.cell? ⟨g,o+(i*4+j),none⟩=some x:=fun j x hx=>(aT.cell (p:=⟨g,o+(i*4+j),none⟩) hg).trans (hc _ _ (by
    rw[←dV,List.getElem?_take,List.getElem?_drop] at hx
    split at hx
    ·exact hx
    ·cases hx))
   have x0:wr.cell? ⟨g,o+i*4,none⟩=_:=key 0 _ rfl
   have x1:wr.cell? ⟨g,o+i*4+1,none⟩=_:=key 1 _ rfl
   have x2:wr.cell? ⟨g,o+i*4+2,none⟩=_:=key 2 _ rfl
   have x3:wr.cell? ⟨g,o+i*4+3,none⟩=_:=key 3 _ rfl
   clear hc ht key dV
   have fv:=hJ kF hl
   have hle:=lA kF es (i+1)
   have HC:=al (mv (ab gY).1 (ab gY).2.1 (ab gY).2.2 wr)
   obtain ⟨u,hu⟩:∃u,kF t=u:=⟨_,rfl⟩
   rw[hu] at HC fv
   obtain ⟨z,hz⟩:∃z,K0+bE kF (es.take i)=z:=⟨_,rfl⟩
   obtain ⟨z2,da⟩:∃z,K0+bE kF (es.take (i+1))=z:=⟨_,rfl⟩
   have zu:z+u=z2:=by omega
   have zb:z2≤1099511627776:=by have:=ab HT;omega
   have zs:((z:Int)+(u:Int))=(z2:Int):=by omega
   rw[hz]
   have FR:=al da
   have i0:(0:Int)≤(i:Int):=zH _
   have i1:(i:Int)<(es.length:Int):=by omega
   have bu:=al aM
   clear hl aT aM gY fv hle hu hz da
   have zw:wrap64 ((z:Int)+(u:Int))=(z2:Int):=by rw[zs];unfold wrap64;omega
   clear zw
   have JI:=al zs
   have zl:z≤1099511627776:=by omega
   have ul:u≤1099511627776:=by omega
   clear zs zu
   go_wp2_with fail
   refine (ab HC).mono ?_
   rintro e w2 ⟨rfl,bd⟩
   have kB:=al ((ab iR).trans (bd.mono (ab iR).size))
   have mZ:=al ((bd.block _ (zA (ab kA)).1).trans (ab kA))
   clear bd iR kA HC c0 c1 c2 c3 c4 c5 c6
   obtain ⟨c0,c1,c2,c3,c4,c5,c6⟩:=dK (ab mZ)
   go_wp2
   go_roundg (es.length-(i+1))
   case measure=>have:=ab bz;have:=ab bu;omega
   case rel=>exact ⟨i+1,by rw[ab FR,←ab JI],by go_num,rfl,ab bu,kB,mZ⟩
  ·obtain rfl:i=es.length:=by omega
   obtain ⟨UG,iI⟩:∃x,x=wr:=⟨_,rfl⟩
   subst iI
   rw[List.take_length]
   go_wp2
   go_loopg [3,5] ms.length (fun gk v3 v5 wr=>∃(i:Nat),v3=.int .i64 (((K0+bE kF es)+bE (cR f) (ms.take i):Nat):Int)∧v5=.int .i64 (i:Int)∧gk=ms.length-i∧i≤ms.length∧Hid (Below w0.heap.size w0 wr)∧Hid (wr.heap[w0.heap.size]?=some (.cells #[.string nm,.slice af fs.length cf,.slice ao os.length co,.slice am ms.length dk,.slice ae es.length dc,.slice ar rs.length cr,.slice ag gs.length cg] 46 (0,0))))
   case atStart=>exact ⟨0,rfl,rfl,rfl,by omega,ab iR,ab kA⟩
   case round =>
    obtain ⟨i,rfl,rfl,aW,eV,cO,iO⟩:=hrel
    have bz:=al aW
    clear aW iR kA
    obtain ⟨c0,c1,c2,c3,c4,c5,c6⟩:=dK (ab iO)
    by_cases aM:i<ms.length
    ·have aT:Below W.heap.size W wr:=(ab HW).trans ((ab cO).mono (ab HW).size)
     obtain ⟨g,o,rfl,hg,hc⟩:=ab wz (by omega)
     have hl:=List.getElem?_eq_getElem aM
     obtain ⟨t,ht⟩:∃d,ms[i]=d:=⟨_,rfl⟩
     rw[ht] at hl
     obtain ⟨M',M9,PI,Na,BG,BJ,xZ,D6,DI,rh,xu,DB,D4,Je,Kb,dV,fX⟩:=(ab wG).at i t hl
     have gY:=al fX
     obtain ⟨FN,FG,rfl,-,-⟩:=fX.hf
     obtain ⟨Eh,Ee,rfl,-,-⟩:=fX.ho
     obtain ⟨Ba,mD,rfl,-,-⟩:=fX.hm
     obtain ⟨FO,qj,rfl,-,-⟩:=fX.he
     obtain ⟨ry,rp,rfl,-,-⟩:=fX.hr
     obtain ⟨rz,ru,rfl,-,-⟩:=fX.hg
     have key:∀(j:Nat) (x:Value),[Value.string xZ,.slice FN D6.length FG,.slice Eh DI.length Ee,.slice Ba rh.length mD,.slice FO xu.length qj,.slice ry DB.length rp,.slice rz D4.length ru][j]?=some x→wr.cell? ⟨g,o+(i*7+j),none⟩=some x:=fun j x hx=>(aT.cell (p:=⟨g,o+(i*7+j),none⟩) hg).trans (hc _ _ (by
      rw[←dV,List.getElem?_take,List.getElem?_drop] at hx
      split at hx
      ·exact hx
      ·cases hx))
     have x0:wr.cell? ⟨g,o+i*7,none⟩=_:=key 0 _ rfl
     have x1:wr.cell? ⟨g,o+i*7+1,none⟩=_:=key 1 _ rfl
     have x2:wr.cell? ⟨g,o+i*7+2,none⟩=_:=key 2 _ rfl
     have x3:wr.cell? ⟨g,o+i*7+3,none⟩=_:=key 3 _ rfl
     have x4:wr.cell? ⟨g,o+i*7+4,none⟩=_:=key 4 _ rfl
     have x5:wr.cell? ⟨g,o+i*7+5,none⟩=_:=key 5 _ rfl
     have x6:wr.cell? ⟨g,o+i*7+6,none⟩=_:=key 6 _ rfl
     clear hc ht key dV
     have fv:=hJ (cR f) hl
     have hle:=lA (cR f) ms (i+1)
     have HC:=al (ab FU _ _ _ _ _ _ _ _ _ _ _ _ _ _ _ _ _ (ab gY) (ab q8 t (List.mem_of_getElem? hl)) (by have:=ab HT;have:=tS (cR f) hl;omega) wr aT)
     obtain ⟨u,hu⟩:∃u,(cR f) t=u:=⟨_,rfl⟩
     rw[hu] at HC fv
     obtain ⟨z,hz⟩:∃z,(K0+bE kF es)+bE (cR f) (ms.take i)=z:=⟨_,rfl⟩
     obtain ⟨z2,da⟩:∃z,(K0+bE kF es)+bE (cR f) (ms.take (i+1))=z:=⟨_,rfl⟩
     have zu:z+u=z2:=by omega
     have zb:z2≤1099511627776:=by have:=ab HT;omega
     have zs:((z:Int)+(u:Int))=(z2:Int):=by omega
     rw[hz]
     have FR:=al da
     have i0:(0:Int)≤(i:Int):=zH _
     have i1:(i:Int)<(ms.length:Int):=by omega
     have bu:=al aM
     clear hl aT aM gY fv hle hu hz da
     have zw:wrap64 ((z:Int)+(u:Int))=(z2:Int):=by rw[zs];unfold wrap64;omega
     clear zw
     have JI:=al zs
     have zl:z≤1099511627776:=by omega
     have ul:u≤1099511627776:=by omega
     clear zs zu
     go_wp2_with fail
     refine (ab HC).mono ?_
     rintro e w2 ⟨rfl,bd⟩
     have kB:=al ((ab cO).trans (bd.mono (ab cO).size))
     have mZ:=al ((bd.block _ (zA (ab iO)).1).trans (ab iO))
     clear bd cO iO HC c0 c1 c2 c3 c4 c5 c6
     obtain ⟨c0,c1,c2,c3,c4,c5,c6⟩:=dK (ab mZ)
     go_wp2
     go_roundg (ms.length-(i+1))
     case measure=>have:=ab bz;have:=ab bu;omega
     case rel=>exact ⟨i+1,by rw[ab FR,←ab JI],by go_num,rfl,ab bu,kB,mZ⟩
    ·obtain rfl:i=ms.length:=by omega
     rw[List.take_length]
     go_wp2
     go_ret
     exact ⟨rfl,ab cO⟩
theorem jW:∀f,XB f
 |0=>fun _ _ _ _ _ _ _ _ _ _ _ _ _ _ _ _ _ _ h=>h.elim
 |f+1=>rf (jW f)
end Go.Proofs.YtichhjfjcinjgaaGreatDoor
