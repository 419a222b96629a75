import Derived.Test.YtichhjfjcinjgaaGreatDoorM35
set_option maxHeartbeats 8000000
set_option maxRecDepth 100000
namespace Go.Proofs.YtichhjfjcinjgaaGreatDoor
open Go.RowKit
attribute [local go_sem ↓] Go.wp_at_zero Go.wp_at_succ
theorem G0:∀(f:Nat) (m:Ms),ib f m=true→tL f m
 |0,_,h=>by cases h
 |f+1,.mk nm fs os ms es rs gs,h=>fun m hm=>by
  unfold ib at h
  simp only[Bool.and_eq_true] at h
  exact G0 f m (List.all_eq_true.1 h.2.2.2.2.2.2 m hm)
def kG (F:Fl):Nat:=F.cX.length+bE (cR 32) F.ms+bE kF F.es
noncomputable def D8 (F:Fl):Bool:=(F.jr.toList.isEmpty ||dA F.jr)&&(F.cX.all du&&(F.ms.all (ib 32)&&(F.es.all bc&&decide (kG F≤4096))))
theorem ER {W:World}{v vi vm ve:Value}{F:Fl}{cm ce:List Value} (qW:xE W v F vi vm ve cm ce) (ht:kG F≤1099511627776) (w0:World) (hw:Below W.heap.size W w0) :
  Calls Tryz.prog 25 #[v] w0 fun e w=>e=.returned (.bool (D8 F))∧Below w0.heap.size w0 w:=by
 obtain ⟨pk,is,ms,es⟩:=F
 obtain ⟨rfl,hi,hm,eo,he,fA⟩:=qW
 obtain ⟨N,hN⟩:∃N,kG ⟨pk,is,ms,es⟩=N:=⟨_,rfl⟩
 obtain ⟨R,hR⟩:∃R,D8 ⟨pk,is,ms,es⟩=R:=⟨_,rfl⟩
 rw[hN] at ht
 rw[hR]
 have HR:Hid (((pk.toList.isEmpty ||dA pk)&&(is.all du&&(ms.all (ib 32)&&(es.all bc&&decide (N≤4096)))))=R):=by show _=R;rw[←hR,←hN];rfl
 have HN:Hid (is.length+bE (cR 32) ms+bE kF es=N):=hN
 have HT:Hid (is.length+bE (cR 32) ms+bE kF es≤1099511627776):=by show _≤_;rw[ab HN];exact ht
 simp only at hi hm eo he fA ⊢
 have MW:=al (oG 32 (by omega))
 unfold SX at MW
 rw[show (33:Int)-((32:Nat):Int)=1 from rfl] at MW
 have wG:=al eo
 have wH:=al fA
 obtain ⟨ai,ci,rfl,RU,li⟩:=hi
 obtain ⟨am,dk,rfl,IC,lm⟩:=hm
 obtain ⟨ae,dc,rfl,iP,le⟩:=he
 have L9:=al li
 have wz:=al lm
 have wF:=al le
 have k0:=aJ w0 (.cells #[.string pk,.slice ai is.length ci,.slice am ms.length dk,.slice ae es.length dc] 26)
 have bG:Below w0.heap.size w0 (w0.alloc (.cells #[.string pk,.slice ai is.length ci,.slice am ms.length dk,.slice ae es.length dc] 26)):=(zE _ _).alloc (zD _) _
 obtain ⟨V,fX⟩:∃V,w0.alloc (.cells #[.string pk,.slice ai is.length ci,.slice am ms.length dk,.slice ae es.length dc] 26)=V:=⟨_,rfl⟩
 rw[fX] at k0 bG
 obtain ⟨c0,c1,c2,c3⟩:=aP k0
 have HW:=al hw
 have HB:=al bG
 have HK:=al k0
 obtain ⟨q1,uP⟩:∃q,pk.toList.isEmpty=q:=⟨_,rfl⟩
 obtain ⟨q2,gT⟩:∃q,dA pk=q:=⟨_,rfl⟩
 have Tk:=al (lE V pk)
 rw[gT] at Tk HR
 rw[uP] at HR
 have bi:is.length≤1099511627776:=by have:=ab HT;omega
 clear gT li lm le eo fA hw bG k0 hR hN ht
 cases q1 with
 |true =>
  have Tf:Hid ((is.all du&&(ms.all (ib 32)&&(es.all bc&&decide (N≤4096))))=R):=by have h:=ab HR;rw[Bool.true_or,Bool.true_and] at h;exact h
  clear HR Tk
  go_enter Tryz.func25,Tryz.ntmps25
  go_wp2
  go_loopg [3] is.length (fun gk v3 wr=>∃(i:Nat),v3=.int .i64 (i:Int)∧gk=is.length-i∧i≤is.length∧wr=V∧Hid (((is.drop i).all du&&(ms.all (ib 32)&&(es.all bc&&decide (N≤4096))))=R))
  case atStart=>exact ⟨0,rfl,rfl,by omega,rfl,ab Tf⟩
  case round =>
   obtain ⟨i,rfl,aW,eV,rfl,HA⟩:=hrel
   have bz:=al aW
   clear aW Tf
   by_cases aM:i<is.length
   ·have aT:Below W.heap.size W wr:=(ab HW).trans ((ab HB).mono (ab HW).size)
    obtain ⟨g,o,rfl,hg,hc⟩:=ab L9 (by omega)
    have hl:=List.getElem?_eq_getElem aM
    obtain ⟨s,hs⟩:∃d,is[i]=d:=⟨_,rfl⟩
    rw[hs] at hl
    have x0:=(aT.cell (p:=⟨g,o+i,none⟩) hg).trans (hc _ _ (dT hl))
    clear hc hs
    obtain ⟨q,hq⟩:∃q,du s=q:=⟨_,rfl⟩
    have HS:Hid ((q&&((is.drop (i+1)).all du&&(ms.all (ib 32)&&(es.all bc&&decide (N≤4096)))))=R):=by have:=ab HA;rw[ew hl,hq,Bool.and_assoc] at this;exact this
    have HI:Hid (q=(decide ((1:Int)≤(s.size:Int))&&decide ((s.size:Int)≤255))):=hq.symm
    have i0:(0:Int)≤(i:Int):=zH _
    have i1:(i:Int)<(is.length:Int):=by omega
    have bu:=al aM
    clear hl aT aM HA hq
    by_cases z0:s.size=0
    ·have e0:((s.size:Int)==0)=true:=beq_iff_eq.2 (by omega)
     have HX:Hid (R=false):=by show R=_;rw[←ab HS,ab HI,decide_eq_false (by omega)];rfl
     clear HS HI z0
     go_wp2
     go_ret
     exact ⟨by rw[ab HX];rfl,ab HB⟩
    ·have e0:((s.size:Int)==0)=false:=beq_eq_false_iff_ne.2 (by omega)
     by_cases z1:s.size≤255
     ·have e1:decide ((255:Int)<(s.size:Int))=false:=decide_eq_false (by omega)
      have HX:Hid (((is.drop (i+1)).all du&&(ms.all (ib 32)&&(es.all bc&&decide (N≤4096))))=R):=by show _=R;rw[←ab HS,ab HI,decide_eq_true (show (1:Int)≤(s.size:Int) by omega),decide_eq_true (show (s.size:Int)≤255 by omega)];rfl
      clear HS HI z0 z1
      go_wp2
      go_roundg (is.length-(i+1))
      case measure=>have:=ab bz;have:=ab bu;omega
      case rel=>exact ⟨i+1,by go_num,rfl,ab bu,rfl,HX⟩
     ·have e1:decide ((255:Int)<(s.size:Int))=true:=decide_eq_true (by omega)
      have HX:Hid (R=false):=by show R=_;rw[←ab HS,ab HI,decide_eq_false (show ¬(s.size:Int)≤255 by omega),Bool.and_false];rfl
      clear HS HI z0 z1
      go_wp2
      go_ret
      exact ⟨by rw[ab HX];rfl,ab HB⟩
   ·obtain rfl:i=is.length:=by omega
    have Bj:Hid ((ms.all (ib 32)&&(es.all bc&&decide (N≤4096)))=R):=by have h:=ab HA;rw[List.drop_length,List.all_nil,Bool.true_and] at h;exact h
    clear HA
    obtain ⟨wo,iI⟩:∃x,x=wr:=⟨_,rfl⟩
    subst iI
    go_wp2
    go_loopg [4,5] ms.length (fun gk v4 v5 wr=>∃(i:Nat),v4=.int .i64 ((is.length+bE (cR 32) (ms.take i):Nat):Int)∧v5=.int .i64 (i:Int)∧gk=ms.length-i∧i≤ms.length∧Hid (((ms.drop i).all (ib 32)&&(es.all bc&&decide (N≤4096)))=R)∧Hid (Below w0.heap.size w0 wr)∧Hid (wr.heap[w0.heap.size]?=some (.cells #[.string pk,.slice ai is.length ci,.slice am ms.length dk,.slice ae es.length dc] 26 (0,0))))
    case atStart=>exact ⟨0,rfl,rfl,rfl,by omega,ab Bj,ab HB,ab HK⟩
    case round =>
     obtain ⟨i,rfl,rfl,aW,eV,HA,iR,kA⟩:=hrel
     have bz:=al aW
     clear aW Bj HB HK
     obtain ⟨c0,c1,c2,c3⟩:=aP (ab kA)
     by_cases aM:i<ms.length
     ·have aT:Below W.heap.size W wr:=(ab HW).trans ((ab iR).mono (ab HW).size)
      obtain ⟨g,o,rfl,hg,hc⟩:=ab wz (by omega)
      have hl:=List.getElem?_eq_getElem aM
      obtain ⟨t,ht⟩:∃d,ms[i]=d:=⟨_,rfl⟩
      rw[ht] at hl
      obtain ⟨M',M9,PI,Na,BG,BJ,xZ,D6,DI,rh,xu,DB,D4,Je,Kb,dV,fX⟩:=(ab wG).at i t hl
      have gY:=al fX
      obtain ⟨FN,FG,rfl,-,-⟩:=fX.hf
      obtain ⟨Eh,Ee,rfl,-,-⟩:=fX.ho
      obtain ⟨Ba,mD,rfl,-,-⟩:=fX.hm
      obtain ⟨FO,qj,rfl,-,-⟩:=fX.he
      obtain ⟨ry,rp,rfl,-,-⟩:=fX.hr
      obtain ⟨rz,ru,rfl,-,-⟩:=fX.hg
      have key:∀(j:Nat) (x:Value),[Value.string xZ,.slice FN D6.length FG,.slice Eh DI.length Ee,.slice Ba rh.length mD,.slice FO xu.length qj,.slice ry DB.length rp,.slice rz D4.length ru][j]?=some x→wr.cell? ⟨g,o+(i*7+j),none⟩=some x:=fun j x hx=>(aT.cell (p:=⟨g,o+(i*7+j),none⟩) hg).trans (hc _ _ (by
       rw[←dV,List.getElem?_take,List.getElem?_drop] at hx
       split at hx
       ·exact hx
       ·cases hx))
      have x0:wr.cell? ⟨g,o+i*7,none⟩=_:=key 0 _ rfl
      have x1:wr.cell? ⟨g,o+i*7+1,none⟩=_:=key 1 _ rfl
      have x2:wr.cell? ⟨g,o+i*7+2,none⟩=_:=key 2 _ rfl
      have x3:wr.cell? ⟨g,o+i*7+3,none⟩=_:=key 3 _ rfl
      have x4:wr.cell? ⟨g,o+i*7+4,none⟩=_:=key 4 _ rfl
      have x5:wr.cell? ⟨g,o+i*7+5,none⟩=_:=key 5 _ rfl
      have x6:wr.cell? ⟨g,o+i*7+6,none⟩=_:=key 6 _ rfl
      clear hc ht key dV
      have sD:Hid (g<wr.heap.size):=Nat.lt_of_lt_of_le hg aT.size
      obtain ⟨q,hq⟩:∃q,(ib 32) t=q:=⟨_,rfl⟩
      have HS:Hid ((q&&((ms.drop (i+1)).all (ib 32)&&(es.all bc&&decide (N≤4096))))=R):=by have:=ab HA;rw[ew hl,hq,Bool.and_assoc] at this;exact this
      have fv:=hJ (cR 32) hl
      have hle:=lA (cR 32) ms (i+1)
      have HC:=al (ab MW W t _ _ _ _ _ _ _ _ _ _ _ _ _ _ _ (ab gY) wr aT)
      have HD:Hid (∀w2,Below wr.heap.size wr w2→q=true→Calls Tryz.prog 52 #[.agg #[.string xZ,.slice FN D6.length FG,.slice Eh DI.length Ee,.slice Ba rh.length mD,.slice FO xu.length qj,.slice ry DB.length rp,.slice rz D4.length ru]] w2 fun e w=>e=.returned (.int .i64 (cR 32 t:Int))∧Below w2.heap.size w2 w):=fun w2 hb E'=>jW 32 W t _ _ _ _ _ _ _ _ _ _ _ _ _ _ _ (ab gY) (G0 32 t (hq.trans E')) (by have:=ab HT;have:=tS (cR 32) hl;omega) w2 (aT.trans (hb.mono aT.size))
      rw[hq] at HC
      obtain ⟨u,hu⟩:∃u,(cR 32) t=u:=⟨_,rfl⟩
      rw[hu] at HD fv
      obtain ⟨z,hz⟩:∃z,is.length+bE (cR 32) (ms.take i)=z:=⟨_,rfl⟩
      obtain ⟨z2,da⟩:∃z,is.length+bE (cR 32) (ms.take (i+1))=z:=⟨_,rfl⟩
      have zb:z2≤1099511627776:=by have:=ab HT;omega
      have JI:=al (show ((z:Int)+(u:Int))=(z2:Int) by omega)
      rw[hz]
      have FR:=al da
      have i0:(0:Int)≤(i:Int):=zH _
      have i1:(i:Int)<(ms.length:Int):=by omega
      have bu:=al aM
      have zl:z≤1099511627776:=by omega
      have ul:u≤1099511627776:=by omega
      clear hl aT aM gY fv hle hu hz da HA hq
      go_wp2_with fail
      refine (ab HC).mono ?_
      rintro e w2 ⟨rfl,bd⟩
      have kB:=al ((ab iR).trans (bd.mono (ab iR).size))
      have mZ:=al ((bd.block _ (zA (ab kA)).1).trans (ab kA))
      have y0:=(bd.cell (p:=⟨g,o+i*7,none⟩) (ab sD)).trans x0
      have y1:=(bd.cell (p:=⟨g,o+i*7+1,none⟩) (ab sD)).trans x1
      have y2:=(bd.cell (p:=⟨g,o+i*7+2,none⟩) (ab sD)).trans x2
      have y3:=(bd.cell (p:=⟨g,o+i*7+3,none⟩) (ab sD)).trans x3
      have y4:=(bd.cell (p:=⟨g,o+i*7+4,none⟩) (ab sD)).trans x4
      have y5:=(bd.cell (p:=⟨g,o+i*7+5,none⟩) (ab sD)).trans x5
      have y6:=(bd.cell (p:=⟨g,o+i*7+6,none⟩) (ab sD)).trans x6
      have Df:=al (ab HD w2 bd)
      clear bd iR kA HC HD c0 c1 c2 c3 x0 x1 x2 x3 x4 x5 x6
      obtain ⟨c0,c1,c2,c3⟩:=aP (ab mZ)
      cases q with
      |false =>
       have HX:Hid (R=false):=by show R=_;rw[←ab HS];rfl
       clear HS Df
       go_wp2
       go_ret
       exact ⟨by rw[ab HX];rfl,ab kB⟩
      |true =>
       have HX:Hid (((ms.drop (i+1)).all (ib 32)&&(es.all bc&&decide (N≤4096)))=R):=by have:=ab HS;rw[Bool.true_and] at this;exact this
       have JZ:=al (ab Df (by trivial))
       clear HS Df
       go_wp2_with fail
       refine (ab JZ).mono ?_
       rintro e w3 ⟨rfl,cz⟩
       have PB:=al ((ab kB).trans (cz.mono (ab kB).size))
       have JX:=al ((cz.block _ (zA (ab mZ)).1).trans (ab mZ))
       clear cz kB mZ JZ c0 c1 c2 c3 y0 y1 y2 y3 y4 y5 y6
       obtain ⟨c0,c1,c2,c3⟩:=aP (ab JX)
       go_wp2
       go_roundg (ms.length-(i+1))
       case measure=>have:=ab bz;have:=ab bu;omega
       case rel=>exact ⟨i+1,by rw[ab FR,←ab JI],by go_num,rfl,ab bu,HX,PB,JX⟩
     ·obtain rfl:i=ms.length:=by omega
      rw[List.take_length]
      have sG:Hid ((es.all bc&&decide (N≤4096))=R):=by have h:=ab HA;rw[List.drop_length,List.all_nil,Bool.true_and] at h;exact h
      clear HA
      obtain ⟨UG,iI⟩:∃x,x=wr:=⟨_,rfl⟩
      subst iI
      go_wp2
      go_loopg [4,6] es.length (fun gk v4 v6 wr=>∃(i:Nat),v4=.int .i64 ((is.length+bE (cR 32) ms+bE kF (es.take i):Nat):Int)∧v6=.int .i64 (i:Int)∧gk=es.length-i∧i≤es.length∧Hid (((es.drop i).all bc&&decide (N≤4096))=R)∧Hid (Below w0.heap.size w0 wr)∧Hid (wr.heap[w0.heap.size]?=some (.cells #[.string pk,.slice ai is.length ci,.slice am ms.length dk,.slice ae es.length dc] 26 (0,0))))
      case atStart=>exact ⟨0,rfl,rfl,rfl,by omega,ab sG,ab iR,ab kA⟩
      case round =>
       obtain ⟨i,rfl,rfl,aW,eV,HA,cO,iO⟩:=hrel
       have bz:=al aW
       clear aW sG iR kA
       obtain ⟨c0,c1,c2,c3⟩:=aP (ab iO)
       by_cases aM:i<es.length
       ·have aT:Below W.heap.size W wr:=(ab HW).trans ((ab cO).mono (ab HW).size)
        obtain ⟨g,o,rfl,hg,hc⟩:=ab wF (by omega)
        have hl:=List.getElem?_eq_getElem aM
        obtain ⟨t,ht⟩:∃d,es[i]=d:=⟨_,rfl⟩
        rw[ht] at hl
        obtain ⟨vv,BG,BJ,dV,rv,rr,rg⟩:=(ab wH).at i t hl
        have gY:=al (And.intro rv (And.intro rr rg))
        obtain ⟨av,cv,rfl,-,-⟩:=rv
        obtain ⟨ry,rp,rfl,-,-⟩:=rr
        obtain ⟨rz,ru,rfl,-,-⟩:=rg
        have key:∀(j:Nat) (x:Value),[Value.string t.name,.slice av t.aR.length cv,.slice ry t.res.length rp,.slice rz t.gone.length ru][j]?=some x→wr.cell? ⟨g,o+(i*4+j),none⟩=some x:=fun j x hx=>(aT.cell (p:=⟨g,o+(i*4+j),none⟩) hg).trans (hc _ _ (by
         rw[←dV,List.getElem?_take,List.getElem?_drop] at hx
         split at hx
         ·exact hx
         ·cases hx))
        have x0:wr.cell? ⟨g,o+i*4,none⟩=_:=key 0 _ rfl
        have x1:wr.cell? ⟨g,o+i*4+1,none⟩=_:=key 1 _ rfl
        have x2:wr.cell? ⟨g,o+i*4+2,none⟩=_:=key 2 _ rfl
        have x3:wr.cell? ⟨g,o+i*4+3,none⟩=_:=key 3 _ rfl
        clear hc ht key dV
        have sD:Hid (g<wr.heap.size):=Nat.lt_of_lt_of_le hg aT.size
        obtain ⟨q,hq⟩:∃q,bc t=q:=⟨_,rfl⟩
        have HS:Hid ((q&&((es.drop (i+1)).all bc&&decide (N≤4096)))=R):=by have:=ab HA;rw[ew hl,hq,Bool.and_assoc] at this;exact this
        have fv:=hJ kF hl
        have hle:=lA kF es (i+1)
        have HC:=al (pR (ab gY).1 (ab gY).2.1 (ab gY).2.2 wr aT)
        have HD:=al (fun w2 (_:Below wr.heap.size wr w2) (_:q=true)=>mv (ab gY).1 (ab gY).2.1 (ab gY).2.2 w2)
        rw[hq] at HC
        obtain ⟨u,hu⟩:∃u,kF t=u:=⟨_,rfl⟩
        rw[hu] at HD fv
        obtain ⟨z,hz⟩:∃z,is.length+bE (cR 32) ms+bE kF (es.take i)=z:=⟨_,rfl⟩
        obtain ⟨z2,da⟩:∃z,is.length+bE (cR 32) ms+bE kF (es.take (i+1))=z:=⟨_,rfl⟩
        have zb:z2≤1099511627776:=by have:=ab HT;omega
        have JI:=al (show ((z:Int)+(u:Int))=(z2:Int) by omega)
        rw[hz]
        have FR:=al da
        have i0:(0:Int)≤(i:Int):=zH _
        have i1:(i:Int)<(es.length:Int):=by omega
        have bu:=al aM
        have zl:z≤1099511627776:=by omega
        have ul:u≤1099511627776:=by omega
        clear hl aT aM gY fv hle hu hz da HA hq
        go_wp2_with fail
        refine (ab HC).mono ?_
        rintro e w2 ⟨rfl,bd⟩
        have kB:=al ((ab cO).trans (bd.mono (ab cO).size))
        have mZ:=al ((bd.block _ (zA (ab iO)).1).trans (ab iO))
        have y0:=(bd.cell (p:=⟨g,o+i*4,none⟩) (ab sD)).trans x0
        have y1:=(bd.cell (p:=⟨g,o+i*4+1,none⟩) (ab sD)).trans x1
        have y2:=(bd.cell (p:=⟨g,o+i*4+2,none⟩) (ab sD)).trans x2
        have y3:=(bd.cell (p:=⟨g,o+i*4+3,none⟩) (ab sD)).trans x3
        have Df:=al (ab HD w2 bd)
        clear bd cO iO HC HD c0 c1 c2 c3 x0 x1 x2 x3
        obtain ⟨c0,c1,c2,c3⟩:=aP (ab mZ)
        cases q with
        |false =>
         have HX:Hid (R=false):=by show R=_;rw[←ab HS];rfl
         clear HS Df
         go_wp2
         go_ret
         exact ⟨by rw[ab HX];rfl,ab kB⟩
        |true =>
         have HX:Hid (((es.drop (i+1)).all bc&&decide (N≤4096))=R):=by have:=ab HS;rw[Bool.true_and] at this;exact this
         have JZ:=al (ab Df (by trivial))
         clear HS Df
         go_wp2_with fail
         refine (ab JZ).mono ?_
         rintro e w3 ⟨rfl,cz⟩
         have PB:=al ((ab kB).trans (cz.mono (ab kB).size))
         have JX:=al ((cz.block _ (zA (ab mZ)).1).trans (ab mZ))
         clear cz kB mZ JZ c0 c1 c2 c3 y0 y1 y2 y3
         obtain ⟨c0,c1,c2,c3⟩:=aP (ab JX)
         go_wp2
         go_roundg (es.length-(i+1))
         case measure=>have:=ab bz;have:=ab bu;omega
         case rel=>exact ⟨i+1,by rw[ab FR,←ab JI],by go_num,rfl,ab bu,HX,PB,JX⟩
       ·obtain rfl:i=es.length:=by omega
        rw[List.take_length]
        have HX:Hid (decide (N≤4096)=R):=by have h:=ab HA;rw[List.drop_length,List.all_nil,Bool.true_and] at h;exact h
        obtain ⟨N',Oo⟩:∃n,is.length+bE (cR 32) ms+bE kF es=n:=⟨_,rfl⟩
        rw[Oo]
        have WX:N'=N:=Oo.symm.trans (ab HN)
        clear HA Oo
        subst WX
        have JR:Hid (decide ((N':Int)≤4096)=R):=by show _=R;rw[←ab HX];exact decide_eq_decide.2 (by omega)
        clear HX
        go_wp2
        go_ret
        exact ⟨by rw[←ab JR];rfl,ab cO⟩
 |false =>
  cases q2 with
  |false =>
   have HX:Hid (R=false):=by show R=_;rw[←ab HR];rfl
   clear HR
   go_enter Tryz.func25,Tryz.ntmps25
   go_wp2_with fail
   refine (ab Tk).mono ?_
   rintro e w ⟨rfl,rfl⟩
   go_wp2
   go_ret
   exact ⟨by rw[ab HX];rfl,ab HB⟩
  |true =>
   have Tf:Hid ((is.all du&&(ms.all (ib 32)&&(es.all bc&&decide (N≤4096))))=R):=by have h:=ab HR;rw[Bool.or_true,Bool.true_and] at h;exact h
   clear HR
   go_enter Tryz.func25,Tryz.ntmps25
   go_wp2_with fail
   refine (ab Tk).mono ?_
   rintro e w ⟨rfl,rfl⟩
   clear Tk
   go_wp2
   go_loopg [3] is.length (fun gk v3 wr=>∃(i:Nat),v3=.int .i64 (i:Int)∧gk=is.length-i∧i≤is.length∧wr=w∧Hid (((is.drop i).all du&&(ms.all (ib 32)&&(es.all bc&&decide (N≤4096))))=R))
   case atStart=>exact ⟨0,rfl,rfl,by omega,rfl,ab Tf⟩
   case round =>
    obtain ⟨i,rfl,aW,eV,rfl,HA⟩:=hrel
    have bz:=al aW
    clear aW Tf
    by_cases aM:i<is.length
    ·have aT:Below W.heap.size W wr:=(ab HW).trans ((ab HB).mono (ab HW).size)
     obtain ⟨g,o,rfl,hg,hc⟩:=ab L9 (by omega)
     have hl:=List.getElem?_eq_getElem aM
     obtain ⟨s,hs⟩:∃d,is[i]=d:=⟨_,rfl⟩
     rw[hs] at hl
     have x0:=(aT.cell (p:=⟨g,o+i,none⟩) hg).trans (hc _ _ (dT hl))
     clear hc hs
     obtain ⟨q,hq⟩:∃q,du s=q:=⟨_,rfl⟩
     have HS:Hid ((q&&((is.drop (i+1)).all du&&(ms.all (ib 32)&&(es.all bc&&decide (N≤4096)))))=R):=by have:=ab HA;rw[ew hl,hq,Bool.and_assoc] at this;exact this
     have HI:Hid (q=(decide ((1:Int)≤(s.size:Int))&&decide ((s.size:Int)≤255))):=hq.symm
     have i0:(0:Int)≤(i:Int):=zH _
     have i1:(i:Int)<(is.length:Int):=by omega
     have bu:=al aM
     clear hl aT aM HA hq
     by_cases z0:s.size=0
     ·have e0:((s.size:Int)==0)=true:=beq_iff_eq.2 (by omega)
      have HX:Hid (R=false):=by show R=_;rw[←ab HS,ab HI,decide_eq_false (by omega)];rfl
      clear HS HI z0
      go_wp2
      go_ret
      exact ⟨by rw[ab HX];rfl,ab HB⟩
     ·have e0:((s.size:Int)==0)=false:=beq_eq_false_iff_ne.2 (by omega)
      by_cases z1:s.size≤255
      ·have e1:decide ((255:Int)<(s.size:Int))=false:=decide_eq_false (by omega)
       have HX:Hid (((is.drop (i+1)).all du&&(ms.all (ib 32)&&(es.all bc&&decide (N≤4096))))=R):=by show _=R;rw[←ab HS,ab HI,decide_eq_true (show (1:Int)≤(s.size:Int) by omega),decide_eq_true (show (s.size:Int)≤255 by omega)];rfl
       clear HS HI z0 z1
       go_wp2
       go_roundg (is.length-(i+1))
       case measure=>have:=ab bz;have:=ab bu;omega
       case rel=>exact ⟨i+1,by go_num,rfl,ab bu,rfl,HX⟩
      ·have e1:decide ((255:Int)<(s.size:Int))=true:=decide_eq_true (by omega)
       have HX:Hid (R=false):=by show R=_;rw[←ab HS,ab HI,decide_eq_false (show ¬(s.size:Int)≤255 by omega),Bool.and_false];rfl
       clear HS HI z0 z1
       go_wp2
       go_ret
       exact ⟨by rw[ab HX];rfl,ab HB⟩
    ·obtain rfl:i=is.length:=by omega
     have Bj:Hid ((ms.all (ib 32)&&(es.all bc&&decide (N≤4096)))=R):=by have h:=ab HA;rw[List.drop_length,List.all_nil,Bool.true_and] at h;exact h
     clear HA
     obtain ⟨wo,iI⟩:∃x,x=wr:=⟨_,rfl⟩
     subst iI
     go_wp2
     go_loopg [4,5] ms.length (fun gk v4 v5 wr=>∃(i:Nat),v4=.int .i64 ((is.length+bE (cR 32) (ms.take i):Nat):Int)∧v5=.int .i64 (i:Int)∧gk=ms.length-i∧i≤ms.length∧Hid (((ms.drop i).all (ib 32)&&(es.all bc&&decide (N≤4096)))=R)∧Hid (Below w0.heap.size w0 wr)∧Hid (wr.heap[w0.heap.size]?=some (.cells #[.string pk,.slice ai is.length ci,.slice am ms.length dk,.slice ae es.length dc] 26 (0,0))))
     case atStart=>exact ⟨0,rfl,rfl,rfl,by omega,ab Bj,ab HB,ab HK⟩
     case round =>
      obtain ⟨i,rfl,rfl,aW,eV,HA,iR,kA⟩:=hrel
      have bz:=al aW
      clear aW Bj HB HK
      obtain ⟨c0,c1,c2,c3⟩:=aP (ab kA)
      by_cases aM:i<ms.length
      ·have aT:Below W.heap.size W wr:=(ab HW).trans ((ab iR).mono (ab HW).size)
       obtain ⟨g,o,rfl,hg,hc⟩:=ab wz (by omega)
       have hl:=List.getElem?_eq_getElem aM
       obtain ⟨t,ht⟩:∃d,ms[i]=d:=⟨_,rfl⟩
       rw[ht] at hl
       obtain ⟨M',M9,PI,Na,BG,BJ,xZ,D6,DI,rh,xu,DB,D4,Je,Kb,dV,fX⟩:=(ab wG).at i t hl
       have gY:=al fX
       obtain ⟨FN,FG,rfl,-,-⟩:=fX.hf
       obtain ⟨Eh,Ee,rfl,-,-⟩:=fX.ho
       obtain ⟨Ba,mD,rfl,-,-⟩:=fX.hm
       obtain ⟨FO,qj,rfl,-,-⟩:=fX.he
       obtain ⟨ry,rp,rfl,-,-⟩:=fX.hr
       obtain ⟨rz,ru,rfl,-,-⟩:=fX.hg
       have key:∀(j:Nat) (x:Value),[Value.string xZ,.slice FN D6.length FG,.slice Eh DI.length Ee,.slice Ba rh.length mD,.slice FO xu.length qj,.slice ry DB.length rp,.slice rz D4.length ru][j]?=some x→wr.cell? ⟨g,o+(i*7+j),none⟩=some x:=fun j x hx=>(aT.cell (p:=⟨g,o+(i*7+j),none⟩) hg).trans (hc _ _ (by
        rw[←dV,List.getElem?_take,List.getElem?_drop] at hx
        split at hx
        ·exact hx
        ·cases hx))
       have x0:wr.cell? ⟨g,o+i*7,none⟩=_:=key 0 _ rfl
       have x1:wr.cell? ⟨g,o+i*7+1,none⟩=_:=key 1 _ rfl
       have x2:wr.cell? ⟨g,o+i*7+2,none⟩=_:=key 2 _ rfl
       have x3:wr.cell? ⟨g,o+i*7+3,none⟩=_:=key 3 _ rfl
       have x4:wr.cell? ⟨g,o+i*7+4,none⟩=_:=key 4 _ rfl
       have x5:wr.cell? ⟨g,o+i*7+5,none⟩=_:=key 5 _ rfl
       have x6:wr.cell? ⟨g,o+i*7+6,none⟩=_:=key 6 _ rfl
       clear hc ht key dV
       have sD:Hid (g<wr.heap.size):=Nat.lt_of_lt_of_le hg aT.size
       obtain ⟨q,hq⟩:∃q,(ib 32) t=q:=⟨_,rfl⟩
       have HS:Hid ((q&&((ms.drop (i+1)).all (ib 32)&&(es.all bc&&decide (N≤4096))))=R):=by have:=ab HA;rw[ew hl,hq,Bool.and_assoc] at this;exact this
       have fv:=hJ (cR 32) hl
       have hle:=lA (cR 32) ms (i+1)
       have HC:=al (ab MW W t _ _ _ _ _ _ _ _ _ _ _ _ _ _ _ (ab gY) wr aT)
       have HD:Hid (∀w2,Below wr.heap.size wr w2→q=true→Calls Tryz.prog 52 #[.agg #[.string xZ,.slice FN D6.length FG,.slice Eh DI.length Ee,.slice Ba rh.length mD,.slice FO xu.length qj,.slice ry DB.length rp,.slice rz D4.length ru]] w2 fun e w=>e=.returned (.int .i64 (cR 32 t:Int))∧Below w2.heap.size w2 w):=fun w2 hb E'=>jW 32 W t _ _ _ _ _ _ _ _ _ _ _ _ _ _ _ (ab gY) (G0 32 t (hq.trans E')) (by have:=ab HT;have:=tS (cR 32) hl;omega) w2 (aT.trans (hb.mono aT.size))
       rw[hq] at HC
       obtain ⟨u,hu⟩:∃u,(cR 32) t=u:=⟨_,rfl⟩
       rw[hu] at HD fv
       obtain ⟨z,hz⟩:∃z,is.length+bE (cR 32) (ms.take i)=z:=⟨_,rfl⟩
       obtain ⟨z2,da⟩:∃z,is.length+bE (cR 32) (ms.take (i+1))=z:=⟨_,rfl⟩
       have zb:z2≤1099511627776:=by have:=ab HT;omega
       have JI:=al (show ((z:Int)+(u:Int))=(z2:Int) by omega)
       rw[hz]
       have FR:=al da
       have i0:(0:Int)≤(i:Int):=zH _
       have i1:(i:Int)<(ms.length:Int):=by omega
       have bu:=al aM
       have zl:z≤1099511627776:=by omega
       have ul:u≤1099511627776:=by omega
       clear hl aT aM gY fv hle hu hz da HA hq
       go_wp2_with fail
       refine (ab HC).mono ?_
       rintro e w2 ⟨rfl,bd⟩
       have kB:=al ((ab iR).trans (bd.mono (ab iR).size))
       have mZ:=al ((bd.block _ (zA (ab kA)).1).trans (ab kA))
       have y0:=(bd.cell (p:=⟨g,o+i*7,none⟩) (ab sD)).trans x0
       have y1:=(bd.cell (p:=⟨g,o+i*7+1,none⟩) (ab sD)).trans x1
       have y2:=(bd.cell (p:=⟨g,o+i*7+2,none⟩) (ab sD)).trans x2
       have y3:=(bd.cell (p:=⟨g,o+i*7+3,none⟩) (ab sD)).trans x3
       have y4:=(bd.cell (p:=⟨g,o+i*7+4,none⟩) (ab sD)).trans x4
       have y5:=(bd.cell (p:=⟨g,o+i*7+5,none⟩) (ab sD)).trans x5
       have y6:=(bd.cell (p:=⟨g,o+i*7+6,none⟩) (ab sD)).trans x6
       have Df:=al (ab HD w2 bd)
       clear bd iR kA HC HD c0 c1 c2 c3 x0 x1 x2 x3 x4 x5 x6
       obtain ⟨c0,c1,c2,c3⟩:=aP (ab mZ)
       cases q with
       |false =>
        have HX:Hid (R=false):=by show R=_;rw[←ab HS];rfl
        clear HS Df
        go_wp2
        go_ret
        exact ⟨by rw[ab HX];rfl,ab kB⟩
       |true =>
        have HX:Hid (((ms.drop (i+1)).all (ib 32)&&(es.all bc&&decide (N≤4096)))=R):=by have:=ab HS;rw[Bool.true_and] at this;exact this
        have JZ:=al (ab Df (by trivial))
        clear HS Df
        go_wp2_with fail
        refine (ab JZ).mono ?_
        rintro e w3 ⟨rfl,cz⟩
        have PB:=al ((ab kB).trans (cz.mono (ab kB).size))
        have JX:=al ((cz.block _ (zA (ab mZ)).1).trans (ab mZ))
        clear cz kB mZ JZ c0 c1 c2 c3 y0 y1 y2 y3 y4 y5 y6
        obtain ⟨c0,c1,c2,c3⟩:=aP (ab JX)
        go_wp2
        go_roundg (ms.length-(i+1))
        case measure=>have:=ab bz;have:=ab bu;omega
        case rel=>exact ⟨i+1,by rw[ab FR,←ab JI],by go_num,rfl,ab bu,HX,PB,JX⟩
      ·obtain rfl:i=ms.length:=by omega
       rw[List.take_length]
       have sG:Hid ((es.all bc&&decide (N≤4096))=R):=by have h:=ab HA;rw[List.drop_length,List.all_nil,Bool.true_and] at h;exact h
       clear HA
       obtain ⟨UG,iI⟩:∃x,x=wr:=⟨_,rfl⟩
       subst iI
       go_wp2
       go_loopg [4,6] es.length (fun gk v4 v6 wr=>∃(i:Nat),v4=.int .i64 ((is.length+bE (cR 32) ms+bE kF (es.take i):Nat):Int)∧v6=.int .i64 (i:Int)∧gk=es.length-i∧i≤es.length∧Hid (((es.drop i).all bc&&decide (N≤4096))=R)∧Hid (Below w0.heap.size w0 wr)∧Hid (wr.heap[w0.heap.size]?=some (.cells #[.string pk,.slice ai is.length ci,.slice am ms.length dk,.slice ae es.length dc] 26 (0,0))))
       case atStart=>exact ⟨0,rfl,rfl,rfl,by omega,ab sG,ab iR,ab kA⟩
       case round =>
        obtain ⟨i,rfl,rfl,aW,eV,HA,cO,iO⟩:=hrel
        have bz:=al aW
        clear aW sG iR kA
        obtain ⟨c0,c1,c2,c3⟩:=aP (ab iO)
        by_cases aM:i<es.length
        ·have aT:Below W.heap.size W wr:=(ab HW).trans ((ab cO).mono (ab HW).size)
         obtain ⟨g,o,rfl,hg,hc⟩:=ab wF (by omega)
         have hl:=List.getElem?_eq_getElem aM
         obtain ⟨t,ht⟩:∃d,es[i]=d:=⟨_,rfl⟩
         rw[ht] at hl
         obtain ⟨vv,BG,BJ,dV,rv,rr,rg⟩:=(ab wH).at i t hl
         have gY:=al (And.intro rv (And.intro rr rg))
         obtain ⟨av,cv,rfl,-,-⟩:=rv
         obtain ⟨ry,rp,rfl,-,-⟩:=rr
         obtain ⟨rz,ru,rfl,-,-⟩:=rg
         have key:∀(j:Nat) (x:Value),[Value.string t.name,.slice av t.aR.length cv,.slice ry t.res.length rp,.slice rz t.gone.length ru][j]?=some x→wr.cell? ⟨g,o+(i*4+j),none⟩=some x:=fun j x hx=>(aT.cell (p:=⟨g,o+(i*4+j),none⟩) hg).trans (hc _ _ (by
          rw[←dV,List.getElem?_take,List.getElem?_drop] at hx
          split at hx
          ·exact hx
          ·cases hx))
         have x0:wr.cell? ⟨g,o+i*4,none⟩=_:=key 0 _ rfl
         have x1:wr.cell? ⟨g,o+i*4+1,none⟩=_:=key 1 _ rfl
         have x2:wr.cell? ⟨g,o+i*4+2,none⟩=_:=key 2 _ rfl
         have x3:wr.cell? ⟨g,o+i*4+3,none⟩=_:=key 3 _ rfl
         clear hc ht key dV
         have sD:Hid (g<wr.heap.size):=Nat.lt_of_lt_of_le hg aT.size
         obtain ⟨q,hq⟩:∃q,bc t=q:=⟨_,rfl⟩
         have HS:Hid ((q&&((es.drop (i+1)).all bc&&decide (N≤4096)))=R):=by have:=ab HA;rw[ew hl,hq,Bool.and_assoc] at this;exact this
         have fv:=hJ kF hl
         have hle:=lA kF es (i+1)
         have HC:=al (pR (ab gY).1 (ab gY).2.1 (ab gY).2.2 wr aT)
         have HD:=al (fun w2 (_:Below wr.heap.size wr w2) (_:q=true)=>mv (ab gY).1 (ab gY).2.1 (ab gY).2.2 w2)
         rw[hq] at HC
         obtain ⟨u,hu⟩:∃u,kF t=u:=⟨_,rfl⟩
         rw[hu] at HD fv
         obtain ⟨z,hz⟩:∃z,is.length+bE (cR 32) ms+bE kF (es.take i)=z:=⟨_,rfl⟩
         obtain ⟨z2,da⟩:∃z,is.length+bE (cR 32) ms+bE kF (es.take (i+1))=z:=⟨_,rfl⟩
         have zb:z2≤1099511627776:=by have:=ab HT;omega
         have JI:=al (show ((z:Int)+(u:Int))=(z2:Int) by omega)
         rw[hz]
         have FR:=al da
         have i0:(0:Int)≤(i:Int):=zH _
         have i1:(i:Int)<(es.length:Int):=by omega
         have bu:=al aM
         have zl:z≤1099511627776:=by omega
         have ul:u≤1099511627776:=by omega
         clear hl aT aM gY fv hle hu hz da HA hq
         go_wp2_with fail
         refine (ab HC).mono ?_
         rintro e w2 ⟨rfl,bd⟩
         have kB:=al ((ab cO).trans (bd.mono (ab cO).size))
         have mZ:=al ((bd.block _ (zA (ab iO)).1).trans (ab iO))
         have y0:=(bd.cell (p:=⟨g,o+i*4,none⟩) (ab sD)).trans x0
         have y1:=(bd.cell (p:=⟨g,o+i*4+1,none⟩) (ab sD)).trans x1
         have y2:=(bd.cell (p:=⟨g,o+i*4+2,none⟩) (ab sD)).trans x2
         have y3:=(bd.cell (p:=⟨g,o+i*4+3,none⟩) (ab sD)).trans x3
         have Df:=al (ab HD w2 bd)
         clear bd cO iO HC HD c0 c1 c2 c3 x0 x1 x2 x3
         obtain ⟨c0,c1,c2,c3⟩:=aP (ab mZ)
         cases q with
         |false =>
          have HX:Hid (R=false):=by show R=_;rw[←ab HS];rfl
          clear HS Df
          go_wp2
          go_ret
          exact ⟨by rw[ab HX];rfl,ab kB⟩
         |true =>
          have HX:Hid (((es.drop (i+1)).all bc&&decide (N≤4096))=R):=by have:=ab HS;rw[Bool.true_and] at this;exact this
          have JZ:=al (ab Df (by trivial))
          clear HS Df
          go_wp2_with fail
          refine (ab JZ).mono ?_
          rintro e w3 ⟨rfl,cz⟩
          have PB:=al ((ab kB).trans (cz.mono (ab kB).size))
          have JX:=al ((cz.block _ (zA (ab mZ)).1).trans (ab mZ))
          clear cz kB mZ JZ c0 c1 c2 c3 y0 y1 y2 y3
          obtain ⟨c0,c1,c2,c3⟩:=aP (ab JX)
          go_wp2
          go_roundg (es.length-(i+1))
          case measure=>have:=ab bz;have:=ab bu;omega
          case rel=>exact ⟨i+1,by rw[ab FR,←ab JI],by go_num,rfl,ab bu,HX,PB,JX⟩
        ·obtain rfl:i=es.length:=by omega
         rw[List.take_length]
         have HX:Hid (decide (N≤4096)=R):=by have h:=ab HA;rw[List.drop_length,List.all_nil,Bool.true_and] at h;exact h
         obtain ⟨N',Oo⟩:∃n,is.length+bE (cR 32) ms+bE kF es=n:=⟨_,rfl⟩
         rw[Oo]
         have WX:N'=N:=Oo.symm.trans (ab HN)
         clear HA Oo
         subst WX
         have JR:Hid (decide ((N':Int)≤4096)=R):=by show _=R;rw[←ab HX];exact decide_eq_decide.2 (by omega)
         clear HX
         go_wp2
         go_ret
         exact ⟨by rw[←ab JR];rfl,ab cO⟩
end Go.Proofs.YtichhjfjcinjgaaGreatDoor
