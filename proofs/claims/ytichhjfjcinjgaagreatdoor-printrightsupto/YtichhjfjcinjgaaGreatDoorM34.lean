import Derived.Test.YtichhjfjcinjgaaGreatDoorM26
set_option maxHeartbeats 4000000
set_option maxRecDepth 100000
namespace Go.Proofs.YtichhjfjcinjgaaGreatDoor
open Go.RowKit
attribute [local go_sem ↓] Go.wp_at_zero Go.wp_at_succ
def FI (W:World) (p:Prop) (e:Ending) (w:World):Prop:=∃b:Bool,e=.returned (.bool b)∧(b=true↔p)∧Below W.heap.size W w
theorem LO {W w:World}{p:Prop} (h:p) (hb:Below W.heap.size W w):FI W p (.returned (.bool true)) w:=⟨true,rfl,⟨fun _=>h,fun _=>rfl⟩,hb⟩
theorem mQ {W w:World}{p:Prop} (h:¬p) (hb:Below W.heap.size W w):FI W p (.returned (.bool false)) w:=⟨false,rfl,⟨fun e=>(by cases e),fun e=>absurd e h⟩,hb⟩
theorem lU {a b:ByteArray} (h:¬a=b):(a.toList==b.toList)=false:=by
 rw[beq_eq_false_iff_ne]
 intro e
 rw[toList_data,toList_data] at e
 obtain ⟨a⟩:=a
 obtain ⟨b⟩:=b
 exact h (congrArg ByteArray.mk (Array.toList_inj.1 e))
theorem ft {α:Type}{l l':List α}{i:Nat}{x:α} (h:l.take i=l'.take i) (h1:l[i]?=some x) (h2:l'[i]?=some x):l.take (i+1)=l'.take (i+1):=by rw[bL h1,bL h2,h]
theorem kt {α:Type}{l l':List α} (hl:l.length=l'.length) (h:l.take l.length=l'.take l.length):l=l':=by
 rw[List.take_length] at h
 rw[h,hl,List.take_length]
theorem kN {α:Type}{l l':List α}{i:Nat}{x y:α} (h1:l[i]?=some x) (h2:l'[i]?=some y) (h:¬x=y):¬l=l':=by
 rintro rfl
 rw[h1] at h2
 exact h (zC h2)
theorem ic {W:World}{v u:Value}{l l':List ByteArray} (h:Rl W v l.length (bZ l)) (h':Rl W u l'.length (bZ l')) (w0:World) (hw:Below W.heap.size W w0):Calls Tryz.prog 22 #[v,u] w0 (FI w0 (l=l')):=by
 obtain ⟨a,c,rfl,hc,h3⟩:=h
 obtain ⟨a',c',rfl,RT,Il⟩:=h'
 have H3:=al h3
 have O7:=al Il
 have HW:=al hw
 clear h3 Il hw
 by_cases fM:l.length=l'.length
 ·have nU:=al fM
  have e1:((l.length:Int) != (l'.length:Int))=false:=by simp[fM]
  have e2:((l.length:Int)==(l'.length:Int))=true:=by simp[fM]
  clear fM
  go_enter Tryz.func22,Tryz.ntmps22
  go_wp2
  go_loopg [5] l.length (fun gk v5 wr=>∃(i m:Nat),v5=.int .i64 (i:Int)∧gk=l.length-i∧i≤l.length∧Hid (l.take i=l'.take i)∧wr=w0.drewN m)
  case atStart=>exact ⟨0,0,rfl,rfl,by omega,rfl,rfl⟩
  case round =>
   obtain ⟨i,m,rfl,aU,hi,HT,rfl⟩:=hrel
   have bz:=al aU
   clear aU
   by_cases aM:i<l.length
   ·obtain ⟨t,ht⟩:∃t,l[i]?=some t:=⟨_,List.getElem?_eq_getElem aM⟩
    obtain ⟨t',nK⟩:∃t,l'[i]?=some t:=⟨_,List.getElem?_eq_getElem (by have:=ab nU;omega)⟩
    obtain ⟨g,o,rfl,hg,hx⟩:=ab H3 (by omega)
    obtain ⟨g',o',rfl,kJ,lP⟩:=ab O7 (by have:=ab nU;omega)
    have x1:=((ab HW).cell (p:=⟨g,o+i,none⟩) hg).trans (hx _ _ (dS ht))
    have y1:=((ab HW).cell (p:=⟨g',o'+i,none⟩) kJ).trans (lP _ _ (dS nK))
    have i0:(0:Int)≤(i:Int):=zH _
    have i1:(i:Int)<(l.length:Int):=by omega
    have i2:(i:Int)<(l'.length:Int):=by have:=ab nU;omega
    by_cases LZ:t=t'
    ·subst LZ
     have nP:=al (ft (ab HT) ht nK)
     clear hx lP ht nK HT
     go_wp2
     go_quiet (fail)
     go_wp2
     go_roundg (l.length-(i+1))
     case measure=>have:=ab bz;omega
     case rel=>exact ⟨i+1,_,by go_num,rfl,by omega,nP,rfl⟩
    ·have HN:=al (kN ht nK LZ)
     have n1:=lU LZ
     clear hx lP ht nK HT LZ
     go_wp2
     go_quiet (fail)
     go_wp2
     go_ret
     exact mQ (ab HN) (below_drewN (below_drewN (zE _ _) _) _)
   ·obtain rfl:i=l.length:=by omega
    have HE:=al (kt (ab nU) (ab HT))
    clear HT
    go_wp2
    go_ret
    exact LO (ab HE) (below_drewN (zE _ _) _)
 ·have HN:Hid (¬l=l'):=fun e=>fM (by rw[e])
  have e1:((l.length:Int) != (l'.length:Int))=true:=by simp;omega
  have e2:((l.length:Int)==(l'.length:Int))=false:=by simp;omega
  have e3:¬(l.length:Int)=(l'.length:Int):=by omega
  clear fM
  go_enter Tryz.func22,Tryz.ntmps22
  go_wp2
  go_ret
  exact mQ (ab HN) (zE _ _)
theorem lW {W:World}{v u:Value}{l l':List (Int×Int)} (h:Rl W v l.length (kQ l)) (h':Rl W u l'.length (kQ l')) (w0:World) (hw:Below W.heap.size W w0):Calls Tryz.prog 49 #[v,u] w0 (FI w0 (l=l')):=by
 obtain ⟨a,c,rfl,hc,h3⟩:=h
 obtain ⟨a',c',rfl,RT,Il⟩:=h'
 have H3:=al h3
 have O7:=al Il
 have HW:=al hw
 clear h3 Il hw
 by_cases fM:l.length=l'.length
 ·have nU:=al fM
  have e1:((l.length:Int) != (l'.length:Int))=false:=by simp[fM]
  have e2:((l.length:Int)==(l'.length:Int))=true:=by simp[fM]
  clear fM
  go_enter Tryz.func49,Tryz.ntmps49
  go_wp2
  go_loopg [5] l.length (fun gk v5 wr=>∃(i m:Nat),v5=.int .i64 (i:Int)∧gk=l.length-i∧i≤l.length∧Hid (l.take i=l'.take i)∧wr=w0.drewN m)
  case atStart=>exact ⟨0,0,rfl,rfl,by omega,rfl,rfl⟩
  case round =>
   obtain ⟨i,m,rfl,aU,hi,HT,rfl⟩:=hrel
   have bz:=al aU
   clear aU
   by_cases aM:i<l.length
   ·obtain ⟨t,ht⟩:∃t,l[i]?=some t:=⟨_,List.getElem?_eq_getElem aM⟩
    obtain ⟨t',nK⟩:∃t,l'[i]?=some t:=⟨_,List.getElem?_eq_getElem (by have:=ab nU;omega)⟩
    obtain ⟨g,o,rfl,hg,hx⟩:=ab H3 (by omega)
    obtain ⟨g',o',rfl,kJ,lP⟩:=ab O7 (by have:=ab nU;omega)
    have x1:=((ab HW).cell (p:=⟨g,o+(i*2+0),none⟩) hg).trans (hx _ _ (gB ht (j:=0) (by decide)))
    have x2:=((ab HW).cell (p:=⟨g,o+(i*2+1),none⟩) hg).trans (hx _ _ (gB ht (j:=1) (by decide)))
    have y1:=((ab HW).cell (p:=⟨g',o'+(i*2+0),none⟩) kJ).trans (lP _ _ (gB nK (j:=0) (by decide)))
    have y2:=((ab HW).cell (p:=⟨g',o'+(i*2+1),none⟩) kJ).trans (lP _ _ (gB nK (j:=1) (by decide)))
    rw[Nat.add_zero] at x1 y1
    rw[←Nat.add_assoc] at x2 y2
    obtain ⟨t1,t2⟩:=t
    obtain ⟨r1,r2⟩:=t'
    simp only at x1 x2 y1 y2
    have i0:(0:Int)≤(i:Int):=zH _
    have i1:(i:Int)<(l.length:Int):=by omega
    have i2:(i:Int)<(l'.length:Int):=by have:=ab nU;omega
    by_cases h1:t1=r1
    ·by_cases h2:t2=r2
     ·subst h1 h2
      have nP:=al (ft (ab HT) ht nK)
      clear hx lP ht nK HT
      go_wp2
      go_quiet (fail)
      go_wp2
      go_roundg (l.length-(i+1))
      case measure=>have:=ab bz;omega
      case rel=>exact ⟨i+1,_,by go_num,rfl,by omega,nP,rfl⟩
     ·have HN:=al (kN ht nK (fun e=>h2 (congrArg Prod.snd e)))
      have n1:(t2==r2)=false:=by simpa using h2
      clear hx lP ht nK HT
      go_wp2
      go_quiet (fail)
      go_wp2
      go_ret
      exact mQ (ab HN) (below_drewN (below_drewN (zE _ _) _) _)
    ·have HN:=al (kN ht nK (fun e=>h1 (congrArg Prod.fst e)))
     have n1:(t1==r1)=false:=by simpa using h1
     clear hx lP ht nK HT
     go_wp2
     go_quiet (fail)
     go_wp2
     go_ret
     exact mQ (ab HN) (below_drewN (below_drewN (zE _ _) _) _)
   ·obtain rfl:i=l.length:=by omega
    have HE:=al (kt (ab nU) (ab HT))
    clear HT
    go_wp2
    go_ret
    exact LO (ab HE) (below_drewN (zE _ _) _)
 ·have HN:Hid (¬l=l'):=fun e=>fM (by rw[e])
  have e1:((l.length:Int) != (l'.length:Int))=true:=by simp;omega
  have e2:((l.length:Int)==(l'.length:Int))=false:=by simp;omega
  have e3:¬(l.length:Int)=(l'.length:Int):=by omega
  clear fM
  go_enter Tryz.func49,Tryz.ntmps49
  go_wp2
  go_ret
  exact mQ (ab HN) (zE _ _)
structure I4 (W:World) (p q:Nat) (xs ys:Array Value) (w:World):Prop where
 bl:Below W.heap.size W w
 x:∀j,w.cell? ⟨p,j,none⟩=xs[j]?
 y:∀j,w.cell? ⟨q,j,none⟩=ys[j]?
 lx:p<w.heap.size
 ly:q<w.heap.size
theorem tr {W wr:World} (hb:Below W.heap.size W wr) (xs ys:Array Value) (t:TypeId):I4 W wr.heap.size (wr.heap.size+1) xs ys ((wr.alloc (.cells xs t)).alloc (.cells ys t)):=by
 have h1:=hb.size
 refine ⟨(hb.alloc h1 _).alloc (by rw[zJ];omega) _,fun j=>?_,fun j=>?_,by rw[zJ,zJ];omega,by rw[zJ,zJ];omega⟩
 ·rw[World.cell?_alloc_past _ _ _ (by rw[zJ];omega),World.cell?_alloc_at _ _ _ _ rfl]
 ·rw[World.cell?_alloc_at _ _ _ _ (by rw[zJ])]
theorem I4.up {W w w':World}{p q:Nat}{xs ys:Array Value} (h:I4 W p q xs ys w) (hb:Below w.heap.size w w'):I4 W p q xs ys w' :=
 ⟨h.bl.trans (hb.mono h.bl.size),fun j=>(hb.cell (p:=⟨p,j,none⟩) h.lx).trans (h.x j),fun j=>(hb.cell (p:=⟨q,j,none⟩) h.ly).trans (h.y j),Nat.lt_of_lt_of_le h.lx hb.size,Nat.lt_of_lt_of_le h.ly hb.size⟩
theorem mT {W:World}{v u:Value}{l l':List En}{cs iN:List Value} (h:Rl W v l.length cs) (hE:vl W cs l) (h':Rl W u l'.length iN) (R9:vl W iN l') (w0:World) (hw:Below W.heap.size W w0):Calls Tryz.prog 24 #[v,u] w0 (FI w0 (l=l')):=by
 obtain ⟨a,c,rfl,hc,h3⟩:=h
 obtain ⟨a',c',rfl,RT,Il⟩:=h'
 have H3:=al h3
 have O7:=al Il
 have HE:=al hE
 have Yc:=al R9
 have HW:=al hw
 clear h3 Il hE R9 hw
 by_cases fM:l.length=l'.length
 ·have nU:=al fM
  have e1:((l.length:Int) != (l'.length:Int))=false:=by simp[fM]
  have e2:((l.length:Int)==(l'.length:Int))=true:=by simp[fM]
  clear fM
  go_enter Tryz.func24,Tryz.ntmps24
  go_wp2
  clear e1 e2
  go_loopg [5,6,7,8] l.length (fun gk v5 _ _ _ wr=>∃(i:Nat),v5=.int .i64 (i:Int)∧gk=l.length-i∧i≤l.length∧Hid (l.take i=l'.take i)∧Hid (Below w0.heap.size w0 wr))
  case atStart=>exact ⟨0,rfl,rfl,by omega,rfl,zE _ _⟩
  case round =>
   obtain ⟨i,rfl,aU,hi,HT,HB⟩:=hrel
   have bz:=al aU
   clear aU
   obtain ⟨wo,iA⟩:∃x,x=wr:=⟨_,rfl⟩
   subst iA
   by_cases aM:i<l.length
   ·obtain ⟨t,ht⟩:∃t,l[i]?=some t:=⟨_,List.getElem?_eq_getElem aM⟩
    obtain ⟨t',nK⟩:∃t,l'[i]?=some t:=⟨_,List.getElem?_eq_getElem (by have:=ab nU;omega)⟩
    obtain ⟨g,o,rfl,hg,hx⟩:=ab H3 (by omega)
    obtain ⟨g',o',rfl,kJ,lP⟩:=ab O7 (by have:=ab nU;omega)
    have hB:Below W.heap.size W wo:=(ab HW).trans ((ab HB).mono (ab HW).size)
    obtain ⟨vv,vr,vg,dU,rv,rr,rg⟩:=(ab HE).at i t ht
    obtain ⟨vv',Uo,Uq,GW,rv',YC,YE⟩:=(ab Yc).at i t' nK
    have key:∀(j:Nat) (x:Value),[Value.string t.name,vv,vr,vg][j]?=some x→wo.cell? ⟨g,o+(i*4+j),none⟩=some x:=fun j x cZ=>(hB.cell (p:=⟨g,o+(i*4+j),none⟩) hg).trans (hx _ _ (by
     rw[←dU,List.getElem?_take,List.getElem?_drop] at cZ
     split at cZ
     ·exact cZ
     ·cases cZ))
    have oy:∀(j:Nat) (x:Value),[Value.string t'.name,vv',Uo,Uq][j]?=some x→wo.cell? ⟨g',o'+(i*4+j),none⟩=some x:=fun j x cZ=>(hB.cell (p:=⟨g',o'+(i*4+j),none⟩) kJ).trans (lP _ _ (by
     rw[←GW,List.getElem?_take,List.getElem?_drop] at cZ
     split at cZ
     ·exact cZ
     ·cases cZ))
    have FG:g'<wo.heap.size:=Nat.lt_of_lt_of_le kJ hB.size
    have d0:wo.cell? ⟨g,o+i*4,none⟩=_:=key 0 _ rfl
    have d1:wo.cell? ⟨g,o+i*4+1,none⟩=_:=key 1 _ rfl
    have d2:wo.cell? ⟨g,o+i*4+2,none⟩=_:=key 2 _ rfl
    have d3:wo.cell? ⟨g,o+i*4+3,none⟩=_:=key 3 _ rfl
    have f0:∀q,(wo.alloc q).cell? ⟨g',o'+i*4,none⟩=_:=fun q=>(World.cell?_alloc_lt _ _ _ FG).trans (oy 0 _ rfl)
    have f1:∀q,(wo.alloc q).cell? ⟨g',o'+i*4+1,none⟩=_:=fun q=>(World.cell?_alloc_lt _ _ _ FG).trans (oy 1 _ rfl)
    have f2:∀q,(wo.alloc q).cell? ⟨g',o'+i*4+2,none⟩=_:=fun q=>(World.cell?_alloc_lt _ _ _ FG).trans (oy 2 _ rfl)
    have f3:∀q,(wo.alloc q).cell? ⟨g',o'+i*4+3,none⟩=_:=fun q=>(World.cell?_alloc_lt _ _ _ FG).trans (oy 3 _ rfl)
    have HR:=al (fun w' hb=>lW rr YC w' hb)
    have HG:=al (fun w' hb=>ic rg YE w' hb)
    obtain ⟨av,cv,rfl,VC,QL⟩:=rv
    obtain ⟨Z5,ZY,rfl,aam,Gm⟩:=rv'
    obtain ⟨ar,cr,rfl,-,-⟩:=rr
    obtain ⟨PY,PV,rfl,-,-⟩:=YC
    obtain ⟨ag,cg,rfl,-,-⟩:=rg
    obtain ⟨P0,PW,rfl,-,-⟩:=YE
    have RV:=al QL
    have W5:=al Gm
    have i0:(0:Int)≤(i:Int):=zH _
    have i1:(i:Int)<(l.length:Int):=by omega
    have i2:(i:Int)<(l'.length:Int):=by have:=ab nU;omega
    have yp:=al (tr hB #[.string t.name,.slice av t.aQ.length cv,.slice ar t.res.length cr,.slice ag t.gone.length cg] #[.string t'.name,.slice Z5 t'.aQ.length ZY,.slice PY t'.res.length PV,.slice P0 t'.gone.length PW] 67)
    have iK:=al ((ab HB).trans (show Below w0.heap.size wo ((wo.alloc (.cells #[.string t.name,.slice av t.aQ.length cv,.slice ar t.res.length cr,.slice ag t.gone.length cg] 67)).alloc (.cells #[.string t'.name,.slice Z5 t'.aQ.length ZY,.slice PY t'.res.length PV,.slice P0 t'.gone.length PW] 67)) from ((zE _ _).alloc (ab HB).size _).alloc (by rw[zJ];have:=(ab HB).size;omega) _))
    have bu:=al aM
    have Xe:=al (fun e:t=t'=>ft (ab HT) ht (by rw[e];exact nK))
    have np:=al (fun e:¬t=t'=>kN ht nK e)
    clear hx lP ht nK hB key oy dU GW QL Gm HT aM
    by_cases n1:t.name=t'.name
    ·by_cases n2:t.aQ.length=t'.aQ.length
     ·have Xp:=al n1
      have Lz:=al n2
      have e1:((t.aQ.length:Int) != (t'.aQ.length:Int))=false:=by simp[n2]
      have e2:((t.aQ.length:Int)==(t'.aQ.length:Int))=true:=by simp[n2]
      have e3:(t.name.toList==t'.name.toList)=true:=by rw[n1];simp
      clear n1 n2
      go_wp2_with fail
      refine (ab HR _ (ab yp).bl).mono ?_
      rintro e' w2 ⟨q1,rfl,tX,bd⟩
      have nP:=al ((ab yp).up bd)
      have cR:=al ((ab iK).trans (bd.mono (ab iK).size))
      have X2:=(ab nP).x
      have Y2:=(ab nP).y
      have Mt:=al tX
      clear bd yp iK HR d0 d1 d2 d3 f0 f1 f2 f3 tX
      cases q1 with
      |false =>
       have HN:=al (ab np (fun e=>by have:=(ab Mt).2 (by rw[e]);cases this))
       clear HG
       go_wp2
       go_ret
       exact mQ (ab HN) (ab cR)
      |true =>
       go_wp2_with fail
       refine (ab HG _ (ab nP).bl).mono ?_
       rintro e' w3 ⟨q2,rfl,jZ,cE⟩
       have FK:=al ((ab nP).up cE)
       have ed:=al ((ab cR).trans (cE.mono (ab cR).size))
       have X3:=(ab FK).x
       have Y3:=(ab FK).y
       have DU:=al jZ
       clear cE nP cR HG X2 Y2 jZ
       cases q2 with
       |false =>
        have HN:=al (ab np (fun e=>by have:=(ab DU).2 (by rw[e]);cases this))
        go_wp2
        go_ret
        exact mQ (ab HN) (ab ed)
       |true =>
        clear e1 e2 e3
        go_wp2
        go_loopg [8] t.aQ.length (fun gk v8 wq=>∃(k m:Nat),v8=.int .i64 (k:Int)∧gk=t.aQ.length-k∧k≤t.aQ.length∧Hid (t.aQ.take k=t'.aQ.take k)∧wq=w3.drewN m)
        case atStart=>exact ⟨0,0,rfl,rfl,by omega,rfl,rfl⟩
        case round =>
         obtain ⟨k,m,rfl,gF,hk,AT,rfl⟩:=hrel
         have kq:=al gF
         clear gF
         by_cases RD:k<t.aQ.length
         ·obtain ⟨p,hp⟩:∃p,t.aQ[k]?=some p:=⟨_,List.getElem?_eq_getElem RD⟩
          obtain ⟨p',oG⟩:∃p,t'.aQ[k]?=some p:=⟨_,List.getElem?_eq_getElem (by have:=ab Lz;omega)⟩
          obtain ⟨gv,ov,rfl,KS,lJ⟩:=ab RV (by omega)
          obtain ⟨Im,Gy,rfl,KR,oK⟩:=ab W5 (by have:=ab Lz;omega)
          have ma:=(ab FK).bl
          have x1:=(ma.cell (p:=⟨gv,ov+(k*2+0),none⟩) KS).trans (lJ _ _ (fG hp (j:=0) (by decide)))
          have x2:=(ma.cell (p:=⟨gv,ov+(k*2+1),none⟩) KS).trans (lJ _ _ (fG hp (j:=1) (by decide)))
          have y1:=(ma.cell (p:=⟨Im,Gy+(k*2+0),none⟩) KR).trans (oK _ _ (fG oG (j:=0) (by decide)))
          have y2:=(ma.cell (p:=⟨Im,Gy+(k*2+1),none⟩) KR).trans (oK _ _ (fG oG (j:=1) (by decide)))
          rw[Nat.add_zero] at x1 y1
          rw[←Nat.add_assoc] at x2 y2
          obtain ⟨t1,t2⟩:=p
          obtain ⟨r1,r2⟩:=p'
          simp only at x1 x2 y1 y2
          have k0:(0:Int)≤(k:Int):=zH _
          have k1:(k:Int)<(t.aQ.length:Int):=by omega
          have k2:(k:Int)<(t'.aQ.length:Int):=by have:=ab Lz;omega
          by_cases h1:t1=r1
          ·by_cases h2:t2=r2
           ·subst h1 h2
            have OS:=al (ft (ab AT) hp oG)
            clear lJ oK hp oG AT ma
            go_wp2
            go_quiet (fail)
            go_wp2
            go_roundg (t.aQ.length-(k+1))
            case measure=>have:=ab kq;omega
            case rel=>exact ⟨k+1,_,by go_num,rfl,by omega,OS,rfl⟩
           ·have HN:=al (ab np (fun e=>kN hp oG (fun e2=>h2 (congrArg Prod.snd e2)) (by rw[e])))
            have n1:(t2==r2)=false:=by simpa using h2
            clear lJ oK hp oG AT ma
            go_wp2
            go_quiet (fail)
            go_wp2
            go_ret
            exact mQ (ab HN) (below_drewN (below_drewN (ab ed) _) _)
          ·have HN:=al (ab np (fun e=>kN hp oG (fun e2=>h1 (congrArg Prod.fst e2)) (by rw[e])))
           have n1:=lU h1
           clear lJ oK hp oG AT ma
           go_wp2
           go_quiet (fail)
           go_wp2
           go_ret
           exact mQ (ab HN) (below_drewN (below_drewN (ab ed) _) _)
         ·obtain rfl:k=t.aQ.length:=by omega
          have XH:=al (ab Xe (by
           have a1:=ab Xp
           have a2:=kt (ab Lz) (ab AT)
           have a3:=(ab Mt).1 trivial
           have a4:=(ab DU).1 trivial
           obtain ⟨p1,p2,p3,p4⟩:=t
           obtain ⟨r1,r2,r3,r4⟩:=t'
           simp only at a1 a2 a3 a4
           rw[a1,a2,a3,a4]))
          have vj:=al (below_drewN (ab ed) m)
          clear AT ed
          go_wp2
          go_roundg (l.length-(i+1))
          case measure=>have:=ab bz;have:=ab bu;omega
          case rel=>exact ⟨i+1,by go_num,rfl,by have:=ab bu;omega,XH,vj⟩
     ·have HN:=al (ab np (fun e=>n2 (by rw[e])))
      have e1:((t.aQ.length:Int) != (t'.aQ.length:Int))=true:=by simp;omega
      have e2:((t.aQ.length:Int)==(t'.aQ.length:Int))=false:=by simp;omega
      have e3:(t.name.toList==t'.name.toList)=true:=by rw[n1];simp
      have e4:¬(t.aQ.length:Int)=(t'.aQ.length:Int):=by omega
      clear n1 n2 HR HG
      go_wp2
      go_ret
      exact mQ (ab HN) (ab iK)
    ·have HN:=al (ab np (fun e=>n1 (by rw[e])))
     have e3:=lU n1
     clear n1 HR HG
     go_wp2
     go_ret
     exact mQ (ab HN) (ab iK)
   ·obtain rfl:i=l.length:=by omega
    have Ya:=al (kt (ab nU) (ab HT))
    clear HT
    go_wp2
    go_ret
    exact LO (ab Ya) (ab HB)
 ·have HN:Hid (¬l=l'):=fun e=>fM (by rw[e])
  have e1:((l.length:Int) != (l'.length:Int))=true:=by simp;omega
  have e2:((l.length:Int)==(l'.length:Int))=false:=by simp;omega
  have e3:¬(l.length:Int)=(l'.length:Int):=by omega
  clear fM
  go_enter Tryz.func24,Tryz.ntmps24
  go_wp2
  go_ret
  exact mQ (ab HN) (zE _ _)
end Go.Proofs.YtichhjfjcinjgaaGreatDoor
