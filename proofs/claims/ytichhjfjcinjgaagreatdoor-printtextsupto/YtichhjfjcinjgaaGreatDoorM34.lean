import Derived.Test.YtichhjfjcinjgaaGreatDoorM26
set_option maxHeartbeats 4000000
set_option maxRecDepth 100000
namespace Go.Proofs.YtichhjfjcinjgaaGreatDoor
open Go.RowKit
attribute [local go_sem ↓] Go.wp_at_zero Go.wp_at_succ
def Me (W:World) (p:Prop) (e:Ending) (w:World):Prop:=∃b:Bool,e=.returned (.bool b)∧(b=true↔p)∧Below W.heap.size W w
theorem LF {W w:World}{p:Prop} (h:p) (hb:Below W.heap.size W w):Me W p (.returned (.bool true)) w:=⟨true,rfl,⟨fun _=>h,fun _=>rfl⟩,hb⟩
theorem mO {W w:World}{p:Prop} (h:¬p) (hb:Below W.heap.size W w):Me W p (.returned (.bool false)) w:=⟨false,rfl,⟨fun e=>(by cases e),fun e=>absurd e h⟩,hb⟩
theorem lT {a b:ByteArray} (h:¬a=b):(a.toList==b.toList)=false:=by
 rw[beq_eq_false_iff_ne]
 intro e
 rw[toList_data,toList_data] at e
 obtain ⟨a⟩:=a
 obtain ⟨b⟩:=b
 exact h (congrArg ByteArray.mk (Array.toList_inj.1 e))
theorem fh {α:Type}{l l':List α}{i:Nat}{x:α} (h:l.take i=l'.take i) (h1:l[i]?=some x) (h2:l'[i]?=some x):l.take (i+1)=l'.take (i+1):=by rw[bL h1,bL h2,h]
theorem kq {α:Type}{l l':List α} (hl:l.length=l'.length) (h:l.take l.length=l'.take l.length):l=l':=by
 rw[List.take_length] at h
 rw[h,hl,List.take_length]
theorem kL {α:Type}{l l':List α}{i:Nat}{x y:α} (h1:l[i]?=some x) (h2:l'[i]?=some y) (h:¬x=y):¬l=l':=by
 rintro rfl
 rw[h1] at h2
 exact h (zC h2)
theorem hZ {W:World}{v u:Value}{l l':List ByteArray} (h:Rl W v l.length (bY l)) (h':Rl W u l'.length (bY l')) (w0:World) (hw:Below W.heap.size W w0):Calls Tryz.prog 22 #[v,u] w0 (Me w0 (l=l')):=by
 obtain ⟨a,c,rfl,hc,h3⟩:=h
 obtain ⟨a',c',rfl,RG,H8⟩:=h'
 have H3:=al h3
 have OT:=al H8
 have HW:=al hw
 clear h3 H8 hw
 by_cases fJ:l.length=l'.length
 ·have nR:=al fJ
  have e1:((l.length:Int) != (l'.length:Int))=false:=by simp[fJ]
  have e2:((l.length:Int)==(l'.length:Int))=true:=by simp[fJ]
  clear fJ
  go_enter Tryz.func22,Tryz.ntmps22
  go_wp2
  go_loopg [5] l.length (fun gk v5 wr=>∃(i m:Nat),v5=.int .i64 (i:Int)∧gk=l.length-i∧i≤l.length∧Hid (l.take i=l'.take i)∧wr=w0.drewN m)
  case atStart=>exact ⟨0,0,rfl,rfl,by omega,rfl,rfl⟩
  case round =>
   obtain ⟨i,m,rfl,aU,hi,HT,rfl⟩:=hrel
   have bz:=al aU
   clear aU
   by_cases aM:i<l.length
   ·obtain ⟨t,ht⟩:∃t,l[i]?=some t:=⟨_,List.getElem?_eq_getElem aM⟩
    obtain ⟨t',nH⟩:∃t,l'[i]?=some t:=⟨_,List.getElem?_eq_getElem (by have:=ab nR;omega)⟩
    obtain ⟨g,o,rfl,hg,hx⟩:=ab H3 (by omega)
    obtain ⟨g',o',rfl,kH,lN⟩:=ab OT (by have:=ab nR;omega)
    have x1:=((ab HW).cell (p:=⟨g,o+i,none⟩) hg).trans (hx _ _ (dO ht))
    have y1:=((ab HW).cell (p:=⟨g',o'+i,none⟩) kH).trans (lN _ _ (dO nH))
    have i0:(0:Int)≤(i:Int):=zH _
    have i1:(i:Int)<(l.length:Int):=by omega
    have i2:(i:Int)<(l'.length:Int):=by have:=ab nR;omega
    by_cases LP:t=t'
    ·subst LP
     have nN:=al (fh (ab HT) ht nH)
     clear hx lN ht nH HT
     go_wp2
     go_quiet (fail)
     go_wp2
     go_roundg (l.length-(i+1))
     case measure=>have:=ab bz;omega
     case rel=>exact ⟨i+1,_,by go_num,rfl,by omega,nN,rfl⟩
    ·have HN:=al (kL ht nH LP)
     have n1:=lT LP
     clear hx lN ht nH HT LP
     go_wp2
     go_quiet (fail)
     go_wp2
     go_ret
     exact mO (ab HN) (below_drewN (below_drewN (zE _ _) _) _)
   ·obtain rfl:i=l.length:=by omega
    have HE:=al (kq (ab nR) (ab HT))
    clear HT
    go_wp2
    go_ret
    exact LF (ab HE) (below_drewN (zE _ _) _)
 ·have HN:Hid (¬l=l'):=fun e=>fJ (by rw[e])
  have e1:((l.length:Int) != (l'.length:Int))=true:=by simp;omega
  have e2:((l.length:Int)==(l'.length:Int))=false:=by simp;omega
  have e3:¬(l.length:Int)=(l'.length:Int):=by omega
  clear fJ
  go_enter Tryz.func22,Tryz.ntmps22
  go_wp2
  go_ret
  exact mO (ab HN) (zE _ _)
theorem lV {W:World}{v u:Value}{l l':List (Int×Int)} (h:Rl W v l.length (kO l)) (h':Rl W u l'.length (kO l')) (w0:World) (hw:Below W.heap.size W w0):Calls Tryz.prog 49 #[v,u] w0 (Me w0 (l=l')):=by
 obtain ⟨a,c,rfl,hc,h3⟩:=h
 obtain ⟨a',c',rfl,RG,H8⟩:=h'
 have H3:=al h3
 have OT:=al H8
 have HW:=al hw
 clear h3 H8 hw
 by_cases fJ:l.length=l'.length
 ·have nR:=al fJ
  have e1:((l.length:Int) != (l'.length:Int))=false:=by simp[fJ]
  have e2:((l.length:Int)==(l'.length:Int))=true:=by simp[fJ]
  clear fJ
  go_enter Tryz.func49,Tryz.ntmps49
  go_wp2
  go_loopg [5] l.length (fun gk v5 wr=>∃(i m:Nat),v5=.int .i64 (i:Int)∧gk=l.length-i∧i≤l.length∧Hid (l.take i=l'.take i)∧wr=w0.drewN m)
  case atStart=>exact ⟨0,0,rfl,rfl,by omega,rfl,rfl⟩
  case round =>
   obtain ⟨i,m,rfl,aU,hi,HT,rfl⟩:=hrel
   have bz:=al aU
   clear aU
   by_cases aM:i<l.length
   ·obtain ⟨t,ht⟩:∃t,l[i]?=some t:=⟨_,List.getElem?_eq_getElem aM⟩
    obtain ⟨t',nH⟩:∃t,l'[i]?=some t:=⟨_,List.getElem?_eq_getElem (by have:=ab nR;omega)⟩
    obtain ⟨g,o,rfl,hg,hx⟩:=ab H3 (by omega)
    obtain ⟨g',o',rfl,kH,lN⟩:=ab OT (by have:=ab nR;omega)
    have x1:=((ab HW).cell (p:=⟨g,o+(i*2+0),none⟩) hg).trans (hx _ _ (gz ht (j:=0) (by decide)))
    have x2:=((ab HW).cell (p:=⟨g,o+(i*2+1),none⟩) hg).trans (hx _ _ (gz ht (j:=1) (by decide)))
    have y1:=((ab HW).cell (p:=⟨g',o'+(i*2+0),none⟩) kH).trans (lN _ _ (gz nH (j:=0) (by decide)))
    have y2:=((ab HW).cell (p:=⟨g',o'+(i*2+1),none⟩) kH).trans (lN _ _ (gz nH (j:=1) (by decide)))
    rw[Nat.add_zero] at x1 y1
    rw[←Nat.add_assoc] at x2 y2
    obtain ⟨t1,t2⟩:=t
    obtain ⟨r1,r2⟩:=t'
    simp only at x1 x2 y1 y2
    have i0:(0:Int)≤(i:Int):=zH _
    have i1:(i:Int)<(l.length:Int):=by omega
    have i2:(i:Int)<(l'.length:Int):=by have:=ab nR;omega
    by_cases h1:t1=r1
    ·by_cases h2:t2=r2
     ·subst h1 h2
      have nN:=al (fh (ab HT) ht nH)
      clear hx lN ht nH HT
      go_wp2
      go_quiet (fail)
      go_wp2
      go_roundg (l.length-(i+1))
      case measure=>have:=ab bz;omega
      case rel=>exact ⟨i+1,_,by go_num,rfl,by omega,nN,rfl⟩
     ·have HN:=al (kL ht nH (fun e=>h2 (congrArg Prod.snd e)))
      have n1:(t2==r2)=false:=by simpa using h2
      clear hx lN ht nH HT
      go_wp2
      go_quiet (fail)
      go_wp2
      go_ret
      exact mO (ab HN) (below_drewN (below_drewN (zE _ _) _) _)
    ·have HN:=al (kL ht nH (fun e=>h1 (congrArg Prod.fst e)))
     have n1:(t1==r1)=false:=by simpa using h1
     clear hx lN ht nH HT
     go_wp2
     go_quiet (fail)
     go_wp2
     go_ret
     exact mO (ab HN) (below_drewN (below_drewN (zE _ _) _) _)
   ·obtain rfl:i=l.length:=by omega
    have HE:=al (kq (ab nR) (ab HT))
    clear HT
    go_wp2
    go_ret
    exact LF (ab HE) (below_drewN (zE _ _) _)
 ·have HN:Hid (¬l=l'):=fun e=>fJ (by rw[e])
  have e1:((l.length:Int) != (l'.length:Int))=true:=by simp;omega
  have e2:((l.length:Int)==(l'.length:Int))=false:=by simp;omega
  have e3:¬(l.length:Int)=(l'.length:Int):=by omega
  clear fJ
  go_enter Tryz.func49,Tryz.ntmps49
  go_wp2
  go_ret
  exact mO (ab HN) (zE _ _)
structure IS (W:World) (p q:Nat) (xs ys:Array Value) (w:World):Prop where
 bl:Below W.heap.size W w
 x:∀j,w.cell? ⟨p,j,none⟩=xs[j]?
 y:∀j,w.cell? ⟨q,j,none⟩=ys[j]?
 lx:p<w.heap.size
 ly:q<w.heap.size
theorem tn {W wr:World} (hb:Below W.heap.size W wr) (xs ys:Array Value) (t:TypeId):IS W wr.heap.size (wr.heap.size+1) xs ys ((wr.alloc (.cells xs t)).alloc (.cells ys t)):=by
 have h1:=hb.size
 refine ⟨(hb.alloc h1 _).alloc (by rw[zJ];omega) _,fun j=>?_,fun j=>?_,by rw[zJ,zJ];omega,by rw[zJ,zJ];omega⟩
 ·rw[World.cell?_alloc_past _ _ _ (by rw[zJ];omega),World.cell?_alloc_at _ _ _ _ rfl]
 ·rw[World.cell?_alloc_at _ _ _ _ (by rw[zJ])]
theorem IS.up {W w w':World}{p q:Nat}{xs ys:Array Value} (h:IS W p q xs ys w) (hb:Below w.heap.size w w'):IS W p q xs ys w' :=
 ⟨h.bl.trans (hb.mono h.bl.size),fun j=>(hb.cell (p:=⟨p,j,none⟩) h.lx).trans (h.x j),fun j=>(hb.cell (p:=⟨q,j,none⟩) h.ly).trans (h.y j),Nat.lt_of_lt_of_le h.lx hb.size,Nat.lt_of_lt_of_le h.ly hb.size⟩
theorem mR {W:World}{v u:Value}{l l':List En}{cs iH:List Value} (h:Rl W v l.length cs) (hE:u9 W cs l) (h':Rl W u l'.length iH) (RT:u9 W iH l') (w0:World) (hw:Below W.heap.size W w0):Calls Tryz.prog 24 #[v,u] w0 (Me w0 (l=l')):=by
 obtain ⟨a,c,rfl,hc,h3⟩:=h
 obtain ⟨a',c',rfl,RG,H8⟩:=h'
 have H3:=al h3
 have OT:=al H8
 have HE:=al hE
 have X8:=al RT
 have HW:=al hw
 clear h3 H8 hE RT hw
 by_cases fJ:l.length=l'.length
 ·have nR:=al fJ
  have e1:((l.length:Int) != (l'.length:Int))=false:=by simp[fJ]
  have e2:((l.length:Int)==(l'.length:Int))=true:=by simp[fJ]
  clear fJ
  go_enter Tryz.func24,Tryz.ntmps24
  go_wp2
  clear e1 e2
  go_loopg [5,6,7,8] l.length (fun gk v5 _ _ _ wr=>∃(i:Nat),v5=.int .i64 (i:Int)∧gk=l.length-i∧i≤l.length∧Hid (l.take i=l'.take i)∧Hid (Below w0.heap.size w0 wr))
  case atStart=>exact ⟨0,rfl,rfl,by omega,rfl,zE _ _⟩
  case round =>
   obtain ⟨i,rfl,aU,hi,HT,HB⟩:=hrel
   have bz:=al aU
   clear aU
   obtain ⟨wo,iv⟩:∃x,x=wr:=⟨_,rfl⟩
   subst iv
   by_cases aM:i<l.length
   ·obtain ⟨t,ht⟩:∃t,l[i]?=some t:=⟨_,List.getElem?_eq_getElem aM⟩
    obtain ⟨t',nH⟩:∃t,l'[i]?=some t:=⟨_,List.getElem?_eq_getElem (by have:=ab nR;omega)⟩
    obtain ⟨g,o,rfl,hg,hx⟩:=ab H3 (by omega)
    obtain ⟨g',o',rfl,kH,lN⟩:=ab OT (by have:=ab nR;omega)
    have hB:Below W.heap.size W wo:=(ab HW).trans ((ab HB).mono (ab HW).size)
    obtain ⟨vv,vr,vg,dQ,rv,rr,rg⟩:=(ab HE).at i t ht
    obtain ⟨vv',Uh,Ui,GK,rv',Yx,Yz⟩:=(ab X8).at i t' nH
    have key:∀(j:Nat) (x:Value),[Value.string t.name,vv,vr,vg][j]?=some x→wo.cell? ⟨g,o+(i*4+j),none⟩=some x:=fun j x cY=>(hB.cell (p:=⟨g,o+(i*4+j),none⟩) hg).trans (hx _ _ (by
     rw[←dQ,List.getElem?_take,List.getElem?_drop] at cY
     split at cY
     ·exact cY
     ·cases cY))
    have ou:∀(j:Nat) (x:Value),[Value.string t'.name,vv',Uh,Ui][j]?=some x→wo.cell? ⟨g',o'+(i*4+j),none⟩=some x:=fun j x cY=>(hB.cell (p:=⟨g',o'+(i*4+j),none⟩) kH).trans (lN _ _ (by
     rw[←GK,List.getElem?_take,List.getElem?_drop] at cY
     split at cY
     ·exact cY
     ·cases cY))
    have Fw:g'<wo.heap.size:=Nat.lt_of_lt_of_le kH hB.size
    have d0:wo.cell? ⟨g,o+i*4,none⟩=_:=key 0 _ rfl
    have d1:wo.cell? ⟨g,o+i*4+1,none⟩=_:=key 1 _ rfl
    have d2:wo.cell? ⟨g,o+i*4+2,none⟩=_:=key 2 _ rfl
    have d3:wo.cell? ⟨g,o+i*4+3,none⟩=_:=key 3 _ rfl
    have f0:∀q,(wo.alloc q).cell? ⟨g',o'+i*4,none⟩=_:=fun q=>(World.cell?_alloc_lt _ _ _ Fw).trans (ou 0 _ rfl)
    have f1:∀q,(wo.alloc q).cell? ⟨g',o'+i*4+1,none⟩=_:=fun q=>(World.cell?_alloc_lt _ _ _ Fw).trans (ou 1 _ rfl)
    have f2:∀q,(wo.alloc q).cell? ⟨g',o'+i*4+2,none⟩=_:=fun q=>(World.cell?_alloc_lt _ _ _ Fw).trans (ou 2 _ rfl)
    have f3:∀q,(wo.alloc q).cell? ⟨g',o'+i*4+3,none⟩=_:=fun q=>(World.cell?_alloc_lt _ _ _ Fw).trans (ou 3 _ rfl)
    have HR:=al (fun w' hb=>lV rr Yx w' hb)
    have HG:=al (fun w' hb=>hZ rg Yz w' hb)
    obtain ⟨av,cv,rfl,Vx,QA⟩:=rv
    obtain ⟨ZZ,ZS,rfl,aam,Gb⟩:=rv'
    obtain ⟨ar,cr,rfl,-,-⟩:=rr
    obtain ⟨PK,PH,rfl,-,-⟩:=Yx
    obtain ⟨ag,cg,rfl,-,-⟩:=rg
    obtain ⟨PM,PI,rfl,-,-⟩:=Yz
    have RV:=al QA
    have WZ:=al Gb
    have i0:(0:Int)≤(i:Int):=zH _
    have i1:(i:Int)<(l.length:Int):=by omega
    have i2:(i:Int)<(l'.length:Int):=by have:=ab nR;omega
    have ym:=al (tn hB #[.string t.name,.slice av t.aQ.length cv,.slice ar t.res.length cr,.slice ag t.gone.length cg] #[.string t'.name,.slice ZZ t'.aQ.length ZS,.slice PK t'.res.length PH,.slice PM t'.gone.length PI] 67)
    have iE:=al ((ab HB).trans (show Below w0.heap.size wo ((wo.alloc (.cells #[.string t.name,.slice av t.aQ.length cv,.slice ar t.res.length cr,.slice ag t.gone.length cg] 67)).alloc (.cells #[.string t'.name,.slice ZZ t'.aQ.length ZS,.slice PK t'.res.length PH,.slice PM t'.gone.length PI] 67)) from ((zE _ _).alloc (ab HB).size _).alloc (by rw[zJ];have:=(ab HB).size;omega) _))
    have bu:=al aM
    have Xa:=al (fun e:t=t'=>fh (ab HT) ht (by rw[e];exact nH))
    have nk:=al (fun e:¬t=t'=>kL ht nH e)
    clear hx lN ht nH hB key ou dQ GK QA Gb HT aM
    by_cases n1:t.name=t'.name
    ·by_cases n2:t.aQ.length=t'.aQ.length
     ·have Xl:=al n1
      have Lq:=al n2
      have e1:((t.aQ.length:Int) != (t'.aQ.length:Int))=false:=by simp[n2]
      have e2:((t.aQ.length:Int)==(t'.aQ.length:Int))=true:=by simp[n2]
      have e3:(t.name.toList==t'.name.toList)=true:=by rw[n1];simp
      clear n1 n2
      go_wp2_with fail
      refine (ab HR _ (ab ym).bl).mono ?_
      rintro e' w2 ⟨q1,rfl,tU,bd⟩
      have nN:=al ((ab ym).up bd)
      have cP:=al ((ab iE).trans (bd.mono (ab iE).size))
      have X2:=(ab nN).x
      have Y2:=(ab nN).y
      have Mg:=al tU
      clear bd ym iE HR d0 d1 d2 d3 f0 f1 f2 f3 tU
      cases q1 with
      |false =>
       have HN:=al (ab nk (fun e=>by have:=(ab Mg).2 (by rw[e]);cases this))
       clear HG
       go_wp2
       go_ret
       exact mO (ab HN) (ab cP)
      |true =>
       go_wp2_with fail
       refine (ab HG _ (ab nN).bl).mono ?_
       rintro e' w3 ⟨q2,rfl,kj,cC⟩
       have Fz:=al ((ab nN).up cC)
       have dX:=al ((ab cP).trans (cC.mono (ab cP).size))
       have X3:=(ab Fz).x
       have Y3:=(ab Fz).y
       have DK:=al kj
       clear cC nN cP HG X2 Y2 kj
       cases q2 with
       |false =>
        have HN:=al (ab nk (fun e=>by have:=(ab DK).2 (by rw[e]);cases this))
        go_wp2
        go_ret
        exact mO (ab HN) (ab dX)
       |true =>
        clear e1 e2 e3
        go_wp2
        go_loopg [8] t.aQ.length (fun gk v8 wq=>∃(k m:Nat),v8=.int .i64 (k:Int)∧gk=t.aQ.length-k∧k≤t.aQ.length∧Hid (t.aQ.take k=t'.aQ.take k)∧wq=w3.drewN m)
        case atStart=>exact ⟨0,0,rfl,rfl,by omega,rfl,rfl⟩
        case round =>
         obtain ⟨k,m,rfl,gD,hk,AL,rfl⟩:=hrel
         have ki:=al gD
         clear gD
         by_cases Rq:k<t.aQ.length
         ·obtain ⟨p,hp⟩:∃p,t.aQ[k]?=some p:=⟨_,List.getElem?_eq_getElem Rq⟩
          obtain ⟨p',oD⟩:∃p,t'.aQ[k]?=some p:=⟨_,List.getElem?_eq_getElem (by have:=ab Lq;omega)⟩
          obtain ⟨gv,ov,rfl,KJ,lH⟩:=ab RV (by omega)
          obtain ⟨H9,Gl,rfl,KI,oH⟩:=ab WZ (by have:=ab Lq;omega)
          have l9:=(ab Fz).bl
          have x1:=(l9.cell (p:=⟨gv,ov+(k*2+0),none⟩) KJ).trans (lH _ _ (fD hp (j:=0) (by decide)))
          have x2:=(l9.cell (p:=⟨gv,ov+(k*2+1),none⟩) KJ).trans (lH _ _ (fD hp (j:=1) (by decide)))
          have y1:=(l9.cell (p:=⟨H9,Gl+(k*2+0),none⟩) KI).trans (oH _ _ (fD oD (j:=0) (by decide)))
          have y2:=(l9.cell (p:=⟨H9,Gl+(k*2+1),none⟩) KI).trans (oH _ _ (fD oD (j:=1) (by decide)))
          rw[Nat.add_zero] at x1 y1
          rw[←Nat.add_assoc] at x2 y2
          obtain ⟨t1,t2⟩:=p
          obtain ⟨r1,r2⟩:=p'
          simp only at x1 x2 y1 y2
          have k0:(0:Int)≤(k:Int):=zH _
          have k1:(k:Int)<(t.aQ.length:Int):=by omega
          have k2:(k:Int)<(t'.aQ.length:Int):=by have:=ab Lq;omega
          by_cases h1:t1=r1
          ·by_cases h2:t2=r2
           ·subst h1 h2
            have OH:=al (fh (ab AL) hp oD)
            clear lH oH hp oD AL l9
            go_wp2
            go_quiet (fail)
            go_wp2
            go_roundg (t.aQ.length-(k+1))
            case measure=>have:=ab ki;omega
            case rel=>exact ⟨k+1,_,by go_num,rfl,by omega,OH,rfl⟩
           ·have HN:=al (ab nk (fun e=>kL hp oD (fun e2=>h2 (congrArg Prod.snd e2)) (by rw[e])))
            have n1:(t2==r2)=false:=by simpa using h2
            clear lH oH hp oD AL l9
            go_wp2
            go_quiet (fail)
            go_wp2
            go_ret
            exact mO (ab HN) (below_drewN (below_drewN (ab dX) _) _)
          ·have HN:=al (ab nk (fun e=>kL hp oD (fun e2=>h1 (congrArg Prod.fst e2)) (by rw[e])))
           have n1:=lT h1
           clear lH oH hp oD AL l9
           go_wp2
           go_quiet (fail)
           go_wp2
           go_ret
           exact mO (ab HN) (below_drewN (below_drewN (ab dX) _) _)
         ·obtain rfl:k=t.aQ.length:=by omega
          have XD:=al (ab Xa (by
           have a1:=ab Xl
           have a2:=kq (ab Lq) (ab AL)
           have a3:=(ab Mg).1 trivial
           have a4:=(ab DK).1 trivial
           obtain ⟨p1,p2,p3,p4⟩:=t
           obtain ⟨r1,r2,r3,r4⟩:=t'
           simp only at a1 a2 a3 a4
           rw[a1,a2,a3,a4]))
          have uZ:=al (below_drewN (ab dX) m)
          clear AL dX
          go_wp2
          go_roundg (l.length-(i+1))
          case measure=>have:=ab bz;have:=ab bu;omega
          case rel=>exact ⟨i+1,by go_num,rfl,by have:=ab bu;omega,XD,uZ⟩
     ·have HN:=al (ab nk (fun e=>n2 (by rw[e])))
      have e1:((t.aQ.length:Int) != (t'.aQ.length:Int))=true:=by simp;omega
      have e2:((t.aQ.length:Int)==(t'.aQ.length:Int))=false:=by simp;omega
      have e3:(t.name.toList==t'.name.toList)=true:=by rw[n1];simp
      have e4:¬(t.aQ.length:Int)=(t'.aQ.length:Int):=by omega
      clear n1 n2 HR HG
      go_wp2
      go_ret
      exact mO (ab HN) (ab iE)
    ·have HN:=al (ab nk (fun e=>n1 (by rw[e])))
     have e3:=lT n1
     clear n1 HR HG
     go_wp2
     go_ret
     exact mO (ab HN) (ab iE)
   ·obtain rfl:i=l.length:=by omega
    have X4:=al (kq (ab nR) (ab HT))
    clear HT
    go_wp2
    go_ret
    exact LF (ab X4) (ab HB)
 ·have HN:Hid (¬l=l'):=fun e=>fJ (by rw[e])
  have e1:((l.length:Int) != (l'.length:Int))=true:=by simp;omega
  have e2:((l.length:Int)==(l'.length:Int))=false:=by simp;omega
  have e3:¬(l.length:Int)=(l'.length:Int):=by omega
  clear fJ
  go_enter Tryz.func24,Tryz.ntmps24
  go_wp2
  go_ret
  exact mO (ab HN) (zE _ _)
end Go.Proofs.YtichhjfjcinjgaaGreatDoor
