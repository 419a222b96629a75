import Derived.Test.YtichhjfjcinjgaaGreatDoorM26
set_option maxHeartbeats 4000000
set_option maxRecDepth 100000
namespace Go.Proofs.YtichhjfjcinjgaaGreatDoor
open Go.RowKit
attribute [local go_sem ↓] Go.wp_at_zero Go.wp_at_succ
def Ge (W:World) (p:Prop) (e:Ending) (w:World):Prop:=∃b:Bool,e=.returned (.bool b)∧(b=true↔p)∧Below W.heap.size W w
theorem Mj {W w:World}{p:Prop} (h:p) (hb:Below W.heap.size W w):Ge W p (.returned (.bool true)) w:=⟨true,rfl,⟨fun _=>h,fun _=>rfl⟩,hb⟩
theorem nu {W w:World}{p:Prop} (h:¬p) (hb:Below W.heap.size W w):Ge W p (.returned (.bool false)) w:=⟨false,rfl,⟨fun e=>(by cases e),fun e=>absurd e h⟩,hb⟩
theorem mn {a b:ByteArray} (h:¬a=b):(a.toList==b.toList)=false:=by
 rw[beq_eq_false_iff_ne]
 intro e
 rw[toList_data,toList_data] at e
 obtain ⟨a⟩:=a
 obtain ⟨b⟩:=b
 exact h (congrArg ByteArray.mk (Array.toList_inj.1 e))
theorem fx {α:Type}{l l':List α}{i:Nat}{x:α} (h:l.take i=l'.take i) (h1:l[i]?=some x) (h2:l'[i]?=some x):l.take (i+1)=l'.take (i+1):=by rw[bM h1,bM h2,h]
theorem kL {α:Type}{l l':List α} (hl:l.length=l'.length) (h:l.take l.length=l'.take l.length):l=l':=by
 rw[List.take_length] at h
 rw[h,hl,List.take_length]
theorem lb {α:Type}{l l':List α}{i:Nat}{x y:α} (h1:l[i]?=some x) (h2:l'[i]?=some y) (h:¬x=y):¬l=l':=by
 rintro rfl
 rw[h1] at h2
 exact h (zC h2)
theorem iv {W:World}{v u:Value}{l l':List ByteArray} (h:Rl W v l.length (cc l)) (h':Rl W u l'.length (cc l')) (w0:World) (hw:Below W.heap.size W w0):Calls Tryz.prog 22 #[v,u] w0 (Ge w0 (l=l')):=by
 obtain ⟨a,c,rfl,hc,h3⟩:=h
 obtain ⟨a',c',rfl,Sn,IV⟩:=h'
 have H3:=al h3
 have PD:=al IV
 have HW:=al hw
 clear h3 IV hw
 by_cases fR:l.length=l'.length
 ·have oC:=al fR
  have e1:((l.length:Int) != (l'.length:Int))=false:=by simp[fR]
  have e2:((l.length:Int)==(l'.length:Int))=true:=by simp[fR]
  clear fR
  go_enter Tryz.func22,Tryz.ntmps22
  go_wp2
  go_loopg [5] l.length (fun gk v5 wr=>∃(i m:Nat),v5=.int .i64 (i:Int)∧gk=l.length-i∧i≤l.length∧Hid (l.take i=l'.take i)∧wr=w0.drewN m)
  case atStart=>exact ⟨0,0,rfl,rfl,by omega,rfl,rfl⟩
  case round =>
   obtain ⟨i,m,rfl,aW,hi,HT,rfl⟩:=hrel
   have bz:=al aW
   clear aW
   by_cases aM:i<l.length
   ·obtain ⟨t,ht⟩:∃t,l[i]?=some t:=⟨_,List.getElem?_eq_getElem aM⟩
    obtain ⟨t',og⟩:∃t,l'[i]?=some t:=⟨_,List.getElem?_eq_getElem (by have:=ab oC;omega)⟩
    obtain ⟨g,o,rfl,hg,hx⟩:=ab H3 (by omega)
    obtain ⟨g',o',rfl,kY,mc⟩:=ab PD (by have:=ab oC;omega)
    have x1:=((ab HW).cell (p:=⟨g,o+i,none⟩) hg).trans (hx _ _ (dT ht))
    have y1:=((ab HW).cell (p:=⟨g',o'+i,none⟩) kY).trans (mc _ _ (dT og))
    have i0:(0:Int)≤(i:Int):=zH _
    have i1:(i:Int)<(l.length:Int):=by omega
    have i2:(i:Int)<(l'.length:Int):=by have:=ab oC;omega
    by_cases Mu:t=t'
    ·subst Mu
     have ox:=al (fx (ab HT) ht og)
     clear hx mc ht og HT
     go_wp2
     go_quiet (fail)
     go_wp2
     go_roundg (l.length-(i+1))
     case measure=>have:=ab bz;omega
     case rel=>exact ⟨i+1,_,by go_num,rfl,by omega,ox,rfl⟩
    ·have HN:=al (lb ht og Mu)
     have n1:=mn Mu
     clear hx mc ht og HT Mu
     go_wp2
     go_quiet (fail)
     go_wp2
     go_ret
     exact nu (ab HN) (below_drewN (below_drewN (zE _ _) _) _)
   ·obtain rfl:i=l.length:=by omega
    have HE:=al (kL (ab oC) (ab HT))
    clear HT
    go_wp2
    go_ret
    exact Mj (ab HE) (below_drewN (zE _ _) _)
 ·have HN:Hid (¬l=l'):=fun e=>fR (by rw[e])
  have e1:((l.length:Int) != (l'.length:Int))=true:=by simp;omega
  have e2:((l.length:Int)==(l'.length:Int))=false:=by simp;omega
  have e3:¬(l.length:Int)=(l'.length:Int):=by omega
  clear fR
  go_enter Tryz.func22,Tryz.ntmps22
  go_wp2
  go_ret
  exact nu (ab HN) (zE _ _)
theorem mu {W:World}{v u:Value}{l l':List (Int×Int)} (h:Rl W v l.length (lj l)) (h':Rl W u l'.length (lj l')) (w0:World) (hw:Below W.heap.size W w0):Calls Tryz.prog 49 #[v,u] w0 (Ge w0 (l=l')):=by
 obtain ⟨a,c,rfl,hc,h3⟩:=h
 obtain ⟨a',c',rfl,Sn,IV⟩:=h'
 have H3:=al h3
 have PD:=al IV
 have HW:=al hw
 clear h3 IV hw
 by_cases fR:l.length=l'.length
 ·have oC:=al fR
  have e1:((l.length:Int) != (l'.length:Int))=false:=by simp[fR]
  have e2:((l.length:Int)==(l'.length:Int))=true:=by simp[fR]
  clear fR
  go_enter Tryz.func49,Tryz.ntmps49
  go_wp2
  go_loopg [5] l.length (fun gk v5 wr=>∃(i m:Nat),v5=.int .i64 (i:Int)∧gk=l.length-i∧i≤l.length∧Hid (l.take i=l'.take i)∧wr=w0.drewN m)
  case atStart=>exact ⟨0,0,rfl,rfl,by omega,rfl,rfl⟩
  case round =>
   obtain ⟨i,m,rfl,aW,hi,HT,rfl⟩:=hrel
   have bz:=al aW
   clear aW
   by_cases aM:i<l.length
   ·obtain ⟨t,ht⟩:∃t,l[i]?=some t:=⟨_,List.getElem?_eq_getElem aM⟩
    obtain ⟨t',og⟩:∃t,l'[i]?=some t:=⟨_,List.getElem?_eq_getElem (by have:=ab oC;omega)⟩
    obtain ⟨g,o,rfl,hg,hx⟩:=ab H3 (by omega)
    obtain ⟨g',o',rfl,kY,mc⟩:=ab PD (by have:=ab oC;omega)
    have x1:=((ab HW).cell (p:=⟨g,o+(i*2+0),none⟩) hg).trans (hx _ _ (gI ht (j:=0) (by decide)))
    have x2:=((ab HW).cell (p:=⟨g,o+(i*2+1),none⟩) hg).trans (hx _ _ (gI ht (j:=1) (by decide)))
    have y1:=((ab HW).cell (p:=⟨g',o'+(i*2+0),none⟩) kY).trans (mc _ _ (gI og (j:=0) (by decide)))
    have y2:=((ab HW).cell (p:=⟨g',o'+(i*2+1),none⟩) kY).trans (mc _ _ (gI og (j:=1) (by decide)))
    rw[Nat.add_zero] at x1 y1
    rw[←Nat.add_assoc] at x2 y2
    obtain ⟨t1,t2⟩:=t
    obtain ⟨r1,r2⟩:=t'
    simp only at x1 x2 y1 y2
    have i0:(0:Int)≤(i:Int):=zH _
    have i1:(i:Int)<(l.length:Int):=by omega
    have i2:(i:Int)<(l'.length:Int):=by have:=ab oC;omega
    by_cases h1:t1=r1
    ·by_cases h2:t2=r2
     ·subst h1 h2
      have ox:=al (fx (ab HT) ht og)
      clear hx mc ht og HT
      go_wp2
      go_quiet (fail)
      go_wp2
      go_roundg (l.length-(i+1))
      case measure=>have:=ab bz;omega
      case rel=>exact ⟨i+1,_,by go_num,rfl,by omega,ox,rfl⟩
     ·have HN:=al (lb ht og (fun e=>h2 (congrArg Prod.snd e)))
      have n1:(t2==r2)=false:=by simpa using h2
      clear hx mc ht og HT
      go_wp2
      go_quiet (fail)
      go_wp2
      go_ret
      exact nu (ab HN) (below_drewN (below_drewN (zE _ _) _) _)
    ·have HN:=al (lb ht og (fun e=>h1 (congrArg Prod.fst e)))
     have n1:(t1==r1)=false:=by simpa using h1
     clear hx mc ht og HT
     go_wp2
     go_quiet (fail)
     go_wp2
     go_ret
     exact nu (ab HN) (below_drewN (below_drewN (zE _ _) _) _)
   ·obtain rfl:i=l.length:=by omega
    have HE:=al (kL (ab oC) (ab HT))
    clear HT
    go_wp2
    go_ret
    exact Mj (ab HE) (below_drewN (zE _ _) _)
 ·have HN:Hid (¬l=l'):=fun e=>fR (by rw[e])
  have e1:((l.length:Int) != (l'.length:Int))=true:=by simp;omega
  have e2:((l.length:Int)==(l'.length:Int))=false:=by simp;omega
  have e3:¬(l.length:Int)=(l'.length:Int):=by omega
  clear fR
  go_enter Tryz.func49,Tryz.ntmps49
  go_wp2
  go_ret
  exact nu (ab HN) (zE _ _)
structure Jz (W:World) (p q:Nat) (xs ys:Array Value) (w:World):Prop where
 bl:Below W.heap.size W w
 x:∀j,w.cell? ⟨p,j,none⟩=xs[j]?
 y:∀j,w.cell? ⟨q,j,none⟩=ys[j]?
 lx:p<w.heap.size
 ly:q<w.heap.size
theorem tR {W wr:World} (hb:Below W.heap.size W wr) (xs ys:Array Value) (t:TypeId):Jz W wr.heap.size (wr.heap.size+1) xs ys ((wr.alloc (.cells xs t)).alloc (.cells ys t)):=by
 have h1:=hb.size
 refine ⟨(hb.alloc h1 _).alloc (by rw[zJ];omega) _,fun j=>?_,fun j=>?_,by rw[zJ,zJ];omega,by rw[zJ,zJ];omega⟩
 ·rw[World.cell?_alloc_past _ _ _ (by rw[zJ];omega),World.cell?_alloc_at _ _ _ _ rfl]
 ·rw[World.cell?_alloc_at _ _ _ _ (by rw[zJ])]
theorem Jz.up {W w w':World}{p q:Nat}{xs ys:Array Value} (h:Jz W p q xs ys w) (hb:Below w.heap.size w w'):Jz W p q xs ys w' :=
 ⟨h.bl.trans (hb.mono h.bl.size),fun j=>(hb.cell (p:=⟨p,j,none⟩) h.lx).trans (h.x j),fun j=>(hb.cell (p:=⟨q,j,none⟩) h.ly).trans (h.y j),Nat.lt_of_lt_of_le h.lx hb.size,Nat.lt_of_lt_of_le h.ly hb.size⟩
theorem ny {W:World}{v u:Value}{l l':List En}{cs iU:List Value} (h:Rl W v l.length cs) (hE:vO W cs l) (h':Rl W u l'.length iU) (SA:vO W iU l') (w0:World) (hw:Below W.heap.size W w0):Calls Tryz.prog 24 #[v,u] w0 (Ge w0 (l=l')):=by
 obtain ⟨a,c,rfl,hc,h3⟩:=h
 obtain ⟨a',c',rfl,Sn,IV⟩:=h'
 have H3:=al h3
 have PD:=al IV
 have HE:=al hE
 have YD:=al SA
 have HW:=al hw
 clear h3 IV hE SA hw
 by_cases fR:l.length=l'.length
 ·have oC:=al fR
  have e1:((l.length:Int) != (l'.length:Int))=false:=by simp[fR]
  have e2:((l.length:Int)==(l'.length:Int))=true:=by simp[fR]
  clear fR
  go_enter Tryz.func24,Tryz.ntmps24
  go_wp2
  clear e1 e2
  go_loopg [5,6,7,8] l.length (fun gk v5 _ _ _ wr=>∃(i:Nat),v5=.int .i64 (i:Int)∧gk=l.length-i∧i≤l.length∧Hid (l.take i=l'.take i)∧Hid (Below w0.heap.size w0 wr))
  case atStart=>exact ⟨0,rfl,rfl,by omega,rfl,zE _ _⟩
  case round =>
   obtain ⟨i,rfl,aW,hi,HT,HB⟩:=hrel
   have bz:=al aW
   clear aW
   obtain ⟨wo,iI⟩:∃x,x=wr:=⟨_,rfl⟩
   subst iI
   by_cases aM:i<l.length
   ·obtain ⟨t,ht⟩:∃t,l[i]?=some t:=⟨_,List.getElem?_eq_getElem aM⟩
    obtain ⟨t',og⟩:∃t,l'[i]?=some t:=⟨_,List.getElem?_eq_getElem (by have:=ab oC;omega)⟩
    obtain ⟨g,o,rfl,hg,hx⟩:=ab H3 (by omega)
    obtain ⟨g',o',rfl,kY,mc⟩:=ab PD (by have:=ab oC;omega)
    have hB:Below W.heap.size W wo:=(ab HW).trans ((ab HB).mono (ab HW).size)
    obtain ⟨vv,vr,vg,dV,rv,rr,rg⟩:=(ab HE).at i t ht
    obtain ⟨vv',UP,UT,Im,rv',Y4,Y8⟩:=(ab YD).at i t' og
    have key:∀(j:Nat) (x:Value),[Value.string t.name,vv,vr,vg][j]?=some x→wo.cell? ⟨g,o+(i*4+j),none⟩=some x:=fun j x c8=>(hB.cell (p:=⟨g,o+(i*4+j),none⟩) hg).trans (hx _ _ (by
     rw[←dV,List.getElem?_take,List.getElem?_drop] at c8
     split at c8
     ·exact c8
     ·cases c8))
    have oR:∀(j:Nat) (x:Value),[Value.string t'.name,vv',UP,UT][j]?=some x→wo.cell? ⟨g',o'+(i*4+j),none⟩=some x:=fun j x c8=>(hB.cell (p:=⟨g',o'+(i*4+j),none⟩) kY).trans (mc _ _ (by
     rw[←Im,List.getElem?_take,List.getElem?_drop] at c8
     split at c8
     ·exact c8
     ·cases c8))
    have Gc:g'<wo.heap.size:=Nat.lt_of_lt_of_le kY hB.size
    have d0:wo.cell? ⟨g,o+i*4,none⟩=_:=key 0 _ rfl
    have d1:wo.cell? ⟨g,o+i*4+1,none⟩=_:=key 1 _ rfl
    have d2:wo.cell? ⟨g,o+i*4+2,none⟩=_:=key 2 _ rfl
    have d3:wo.cell? ⟨g,o+i*4+3,none⟩=_:=key 3 _ rfl
    have f0:∀q,(wo.alloc q).cell? ⟨g',o'+i*4,none⟩=_:=fun q=>(World.cell?_alloc_lt _ _ _ Gc).trans (oR 0 _ rfl)
    have f1:∀q,(wo.alloc q).cell? ⟨g',o'+i*4+1,none⟩=_:=fun q=>(World.cell?_alloc_lt _ _ _ Gc).trans (oR 1 _ rfl)
    have f2:∀q,(wo.alloc q).cell? ⟨g',o'+i*4+2,none⟩=_:=fun q=>(World.cell?_alloc_lt _ _ _ Gc).trans (oR 2 _ rfl)
    have f3:∀q,(wo.alloc q).cell? ⟨g',o'+i*4+3,none⟩=_:=fun q=>(World.cell?_alloc_lt _ _ _ Gc).trans (oR 3 _ rfl)
    have HR:=al (fun w' hb=>mu rr Y4 w' hb)
    have HG:=al (fun w' hb=>iv rg Y8 w' hb)
    obtain ⟨av,cv,rfl,V7,Rb⟩:=rv
    obtain ⟨av',cv',rfl,aaq,GX⟩:=rv'
    obtain ⟨ar,cr,rfl,-,-⟩:=rr
    obtain ⟨Qn,Qk,rfl,-,-⟩:=Y4
    obtain ⟨ag,cg,rfl,-,-⟩:=rg
    obtain ⟨Qp,Ql,rfl,-,-⟩:=Y8
    have RV:=al Rb
    have Xz:=al GX
    have i0:(0:Int)≤(i:Int):=zH _
    have i1:(i:Int)<(l.length:Int):=by omega
    have i2:(i:Int)<(l'.length:Int):=by have:=ab oC;omega
    have yT:=al (tR hB #[.string t.name,.slice av t.aR.length cv,.slice ar t.res.length cr,.slice ag t.gone.length cg] #[.string t'.name,.slice av' t'.aR.length cv',.slice Qn t'.res.length Qk,.slice Qp t'.gone.length Ql] 67)
    have iR:=al ((ab HB).trans (show Below w0.heap.size wo ((wo.alloc (.cells #[.string t.name,.slice av t.aR.length cv,.slice ar t.res.length cr,.slice ag t.gone.length cg] 67)).alloc (.cells #[.string t'.name,.slice av' t'.aR.length cv',.slice Qn t'.res.length Qk,.slice Qp t'.gone.length Ql] 67)) from ((zE _ _).alloc (ab HB).size _).alloc (by rw[zJ];have:=(ab HB).size;omega) _))
    have bu:=al aM
    have XI:=al (fun e:t=t'=>fx (ab HT) ht (by rw[e];exact og))
    have nP:=al (fun e:¬t=t'=>lb ht og e)
    clear hx mc ht og hB key oR dV Im Rb GX HT aM
    by_cases n1:t.name=t'.name
    ·by_cases n2:t.aR.length=t'.aR.length
     ·have XT:=al n1
      have L5:=al n2
      have e1:((t.aR.length:Int) != (t'.aR.length:Int))=false:=by simp[n2]
      have e2:((t.aR.length:Int)==(t'.aR.length:Int))=true:=by simp[n2]
      have e3:(t.name.toList==t'.name.toList)=true:=by rw[n1];simp
      clear n1 n2
      go_wp2_with fail
      refine (ab HR _ (ab yT).bl).mono ?_
      rintro e' w2 ⟨q1,rfl,uP,bd⟩
      have ox:=al ((ab yT).up bd)
      have cS:=al ((ab iR).trans (bd.mono (ab iR).size))
      have X2:=(ab ox).x
      have Y2:=(ab ox).y
      have MR:=al uP
      clear bd yT iR HR d0 d1 d2 d3 f0 f1 f2 f3 uP
      cases q1 with
      |false =>
       have HN:=al (ab nP (fun e=>by have:=(ab MR).2 (by rw[e]);cases this))
       clear HG
       go_wp2
       go_ret
       exact nu (ab HN) (ab cS)
      |true =>
       go_wp2_with fail
       refine (ab HG _ (ab ox).bl).mono ?_
       rintro e' w3 ⟨q2,rfl,gT,cz⟩
       have Gg:=al ((ab ox).up cz)
       have eh:=al ((ab cS).trans (cz.mono (ab cS).size))
       have X3:=(ab Gg).x
       have Y3:=(ab Gg).y
       have Eo:=al gT
       clear cz ox cS HG X2 Y2 gT
       cases q2 with
       |false =>
        have HN:=al (ab nP (fun e=>by have:=(ab Eo).2 (by rw[e]);cases this))
        go_wp2
        go_ret
        exact nu (ab HN) (ab eh)
       |true =>
        clear e1 e2 e3
        go_wp2
        go_loopg [8] t.aR.length (fun gk v8 wq=>∃(k m:Nat),v8=.int .i64 (k:Int)∧gk=t.aR.length-k∧k≤t.aR.length∧Hid (t.aR.take k=t'.aR.take k)∧wq=w3.drewN m)
        case atStart=>exact ⟨0,0,rfl,rfl,by omega,rfl,rfl⟩
        case round =>
         obtain ⟨k,m,rfl,gL,hk,Bh,rfl⟩:=hrel
         have kH:=al gL
         clear gL
         by_cases R8:k<t.aR.length
         ·obtain ⟨p,hp⟩:∃p,t.aR[k]?=some p:=⟨_,List.getElem?_eq_getElem R8⟩
          obtain ⟨p',oY⟩:∃p,t'.aR[k]?=some p:=⟨_,List.getElem?_eq_getElem (by have:=ab L5;omega)⟩
          obtain ⟨gv,ov,rfl,Lp,l7⟩:=ab RV (by omega)
          obtain ⟨IW,G7,rfl,Lo,o8⟩:=ab Xz (by have:=ab L5;omega)
          have j7:=(ab Gg).bl
          have x1:=(j7.cell (p:=⟨gv,ov+(k*2+0),none⟩) Lp).trans (l7 _ _ (fL hp (j:=0) (by decide)))
          have x2:=(j7.cell (p:=⟨gv,ov+(k*2+1),none⟩) Lp).trans (l7 _ _ (fL hp (j:=1) (by decide)))
          have y1:=(j7.cell (p:=⟨IW,G7+(k*2+0),none⟩) Lo).trans (o8 _ _ (fL oY (j:=0) (by decide)))
          have y2:=(j7.cell (p:=⟨IW,G7+(k*2+1),none⟩) Lo).trans (o8 _ _ (fL oY (j:=1) (by decide)))
          rw[Nat.add_zero] at x1 y1
          rw[←Nat.add_assoc] at x2 y2
          obtain ⟨t1,t2⟩:=p
          obtain ⟨r1,r2⟩:=p'
          simp only at x1 x2 y1 y2
          have k0:(0:Int)≤(k:Int):=zH _
          have k1:(k:Int)<(t.aR.length:Int):=by omega
          have k2:(k:Int)<(t'.aR.length:Int):=by have:=ab L5;omega
          by_cases h1:t1=r1
          ·by_cases h2:t2=r2
           ·subst h1 h2
            have Pj:=al (fx (ab Bh) hp oY)
            clear l7 o8 hp oY Bh j7
            go_wp2
            go_quiet (fail)
            go_wp2
            go_roundg (t.aR.length-(k+1))
            case measure=>have:=ab kH;omega
            case rel=>exact ⟨k+1,_,by go_num,rfl,by omega,Pj,rfl⟩
           ·have HN:=al (ab nP (fun e=>lb hp oY (fun e2=>h2 (congrArg Prod.snd e2)) (by rw[e])))
            have n1:(t2==r2)=false:=by simpa using h2
            clear l7 o8 hp oY Bh j7
            go_wp2
            go_quiet (fail)
            go_wp2
            go_ret
            exact nu (ab HN) (below_drewN (below_drewN (ab eh) _) _)
          ·have HN:=al (ab nP (fun e=>lb hp oY (fun e2=>h1 (congrArg Prod.fst e2)) (by rw[e])))
           have n1:=mn h1
           clear l7 o8 hp oY Bh j7
           go_wp2
           go_quiet (fail)
           go_wp2
           go_ret
           exact nu (ab HN) (below_drewN (below_drewN (ab eh) _) _)
         ·obtain rfl:k=t.aR.length:=by omega
          have Yf:=al (ab XI (by
           have a1:=ab XT
           have a2:=kL (ab L5) (ab Bh)
           have a3:=(ab MR).1 trivial
           have a4:=(ab Eo).1 trivial
           obtain ⟨p1,p2,p3,p4⟩:=t
           obtain ⟨r1,r2,r3,r4⟩:=t'
           simp only at a1 a2 a3 a4
           rw[a1,a2,a3,a4]))
          have vM:=al (below_drewN (ab eh) m)
          clear Bh eh
          go_wp2
          go_roundg (l.length-(i+1))
          case measure=>have:=ab bz;have:=ab bu;omega
          case rel=>exact ⟨i+1,by go_num,rfl,by have:=ab bu;omega,Yf,vM⟩
     ·have HN:=al (ab nP (fun e=>n2 (by rw[e])))
      have e1:((t.aR.length:Int) != (t'.aR.length:Int))=true:=by simp;omega
      have e2:((t.aR.length:Int)==(t'.aR.length:Int))=false:=by simp;omega
      have e3:(t.name.toList==t'.name.toList)=true:=by rw[n1];simp
      have e4:¬(t.aR.length:Int)=(t'.aR.length:Int):=by omega
      clear n1 n2 HR HG
      go_wp2
      go_ret
      exact nu (ab HN) (ab iR)
    ·have HN:=al (ab nP (fun e=>n1 (by rw[e])))
     have e3:=mn n1
     clear n1 HR HG
     go_wp2
     go_ret
     exact nu (ab HN) (ab iR)
   ·obtain rfl:i=l.length:=by omega
    have YB:=al (kL (ab oC) (ab HT))
    clear HT
    go_wp2
    go_ret
    exact Mj (ab YB) (ab HB)
 ·have HN:Hid (¬l=l'):=fun e=>fR (by rw[e])
  have e1:((l.length:Int) != (l'.length:Int))=true:=by simp;omega
  have e2:((l.length:Int)==(l'.length:Int))=false:=by simp;omega
  have e3:¬(l.length:Int)=(l'.length:Int):=by omega
  clear fR
  go_enter Tryz.func24,Tryz.ntmps24
  go_wp2
  go_ret
  exact nu (ab HN) (zE _ _)
end Go.Proofs.YtichhjfjcinjgaaGreatDoor
