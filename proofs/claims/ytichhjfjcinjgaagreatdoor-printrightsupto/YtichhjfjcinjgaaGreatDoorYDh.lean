import Derived.Test.YtichhjfjcinjgaaGreatDoorM35
set_option maxHeartbeats 8000000
set_option maxRecDepth 100000
namespace Go.Proofs.YtichhjfjcinjgaaGreatDoor
open Go.RowKit
attribute [local go_sem ↓] Go.wp_at_zero Go.wp_at_succ
theorem Gq:∀(f:Nat) (m:Ms),gX f m=true→tl f m
 |0,_,h=>by cases h
 |f+1,.mk nm fs os ms es rs gs,h=>fun m hm=>by
  unfold gX at h
  simp only[Bool.and_eq_true] at h
  exact Gq f m (List.all_eq_true.1 h.2.2.2.2.2.2 m hm)
def mf (F:Fl):Nat:=F.cV.length+bE (cQ 32) F.ms+bE kl F.es
noncomputable def DE (F:Fl):Bool:=(F.jL.toList.isEmpty ||dx F.jL)&&(F.cV.all dr&&(F.ms.all (gX 32)&&(F.es.all bc&&decide (mf F≤4096))))
theorem Ek {W:World}{v vi vm ve:Value}{F:Fl}{cm ce:List Value} (qD:yH W v F vi vm ve cm ce) (ht:mf F≤1099511627776) (w0:World) (hw:Below W.heap.size W w0) :
  Calls Tryz.prog 25 #[v] w0 fun e w=>e=.returned (.bool (DE F))∧Below w0.heap.size w0 w:=by
 obtain ⟨pk,is,ms,es⟩:=F
 obtain ⟨rfl,hi,hm,et,he,fv⟩:=qD
 obtain ⟨N,hN⟩:∃N,mf ⟨pk,is,ms,es⟩=N:=⟨_,rfl⟩
 obtain ⟨R,hR⟩:∃R,DE ⟨pk,is,ms,es⟩=R:=⟨_,rfl⟩
 rw[hN] at ht
 rw[hR]
 have HR:Hid (((pk.toList.isEmpty ||dx pk)&&(is.all dr&&(ms.all (gX 32)&&(es.all bc&&decide (N≤4096)))))=R):=by show _=R;rw[←hR,←hN];rfl
 have HN:Hid (is.length+bE (cQ 32) ms+bE kl es=N):=hN
 have HT:Hid (is.length+bE (cQ 32) ms+bE kl es≤1099511627776):=by show _≤_;rw[ab HN];exact ht
 simp only at hi hm et he fv ⊢
 have My:=al (nX 32 (by omega))
 unfold Sv at My
 rw[show (33:Int)-((32:Nat):Int)=1 from rfl] at My
 have vQ:=al et
 have vR:=al fv
 obtain ⟨ai,ci,rfl,Ru,li⟩:=hi
 obtain ⟨am,dh,rfl,H4,lm⟩:=hm
 obtain ⟨ae,da,rfl,iI,le⟩:=he
 have LG:=al li
 have vO:=al lm
 have vP:=al le
 have k0:=aK w0 (.cells #[.string pk,.slice ai is.length ci,.slice am ms.length dh,.slice ae es.length da] 26)
 have bG:Below w0.heap.size w0 (w0.alloc (.cells #[.string pk,.slice ai is.length ci,.slice am ms.length dh,.slice ae es.length da] 26)):=(zE _ _).alloc (zD _) _
 obtain ⟨V,fR⟩:∃V,w0.alloc (.cells #[.string pk,.slice ai is.length ci,.slice am ms.length dh,.slice ae es.length da] 26)=V:=⟨_,rfl⟩
 rw[fR] at k0 bG
 obtain ⟨c0,c1,c2,c3⟩:=a8 k0
 have HW:=al hw
 have HB:=al bG
 have HK:=al k0
 obtain ⟨q1,tX⟩:∃q,pk.toList.isEmpty=q:=⟨_,rfl⟩
 obtain ⟨q2,jZ⟩:∃q,dx pk=q:=⟨_,rfl⟩
 have SV:=al (k9 V pk)
 rw[jZ] at SV HR
 rw[tX] at HR
 have bi:is.length≤1099511627776:=by have:=ab HT;omega
 clear jZ li lm le et fv hw bG k0 hR hN ht
 cases q1 with
 |true =>
  have SP:Hid ((is.all dr&&(ms.all (gX 32)&&(es.all bc&&decide (N≤4096))))=R):=by have h:=ab HR;rw[Bool.true_or,Bool.true_and] at h;exact h
  clear HR SV
  go_enter Tryz.func25,Tryz.ntmps25
  go_wp2
  go_loopg [3] is.length (fun gk v3 wr=>∃(i:Nat),v3=.int .i64 (i:Int)∧gk=is.length-i∧i≤is.length∧wr=V∧Hid (((is.drop i).all dr&&(ms.all (gX 32)&&(es.all bc&&decide (N≤4096))))=R))
  case atStart=>exact ⟨0,rfl,rfl,by omega,rfl,ab SP⟩
  case round =>
   obtain ⟨i,rfl,aU,eS,rfl,HA⟩:=hrel
   have bz:=al aU
   clear aU SP
   by_cases aM:i<is.length
   ·have aS:Below W.heap.size W wr:=(ab HW).trans ((ab HB).mono (ab HW).size)
    obtain ⟨g,o,rfl,hg,hc⟩:=ab LG (by omega)
    have hl:=List.getElem?_eq_getElem aM
    obtain ⟨s,hs⟩:∃d,is[i]=d:=⟨_,rfl⟩
    rw[hs] at hl
    have x0:=(aS.cell (p:=⟨g,o+i,none⟩) hg).trans (hc _ _ (dS hl))
    clear hc hs
    obtain ⟨q,hq⟩:∃q,dr s=q:=⟨_,rfl⟩
    have HS:Hid ((q&&((is.drop (i+1)).all dr&&(ms.all (gX 32)&&(es.all bc&&decide (N≤4096)))))=R):=by have:=ab HA;rw[ep hl,hq,Bool.and_assoc] at this;exact this
    have HI:Hid (q=(decide ((1:Int)≤(s.size:Int))&&decide ((s.size:Int)≤255))):=hq.symm
    have i0:(0:Int)≤(i:Int):=zH _
    have i1:(i:Int)<(is.length:Int):=by omega
    have bu:=al aM
    clear hl aS aM HA hq
    by_cases z0:s.size=0
    ·have e0:((s.size:Int)==0)=true:=beq_iff_eq.2 (by omega)
     have HX:Hid (R=false):=by show R=_;rw[←ab HS,ab HI,decide_eq_false (by omega)];rfl
     clear HS HI z0
     go_wp2
     go_ret
     exact ⟨by rw[ab HX];rfl,ab HB⟩
    ·have e0:((s.size:Int)==0)=false:=beq_eq_false_iff_ne.2 (by omega)
     by_cases z1:s.size≤255
     ·have e1:decide ((255:Int)<(s.size:Int))=false:=decide_eq_false (by omega)
      have HX:Hid (((is.drop (i+1)).all dr&&(ms.all (gX 32)&&(es.all bc&&decide (N≤4096))))=R):=by show _=R;rw[←ab HS,ab HI,decide_eq_true (show (1:Int)≤(s.size:Int) by omega),decide_eq_true (show (s.size:Int)≤255 by omega)];rfl
      clear HS HI z0 z1
      go_wp2
      go_roundg (is.length-(i+1))
      case measure=>have:=ab bz;have:=ab bu;omega
      case rel=>exact ⟨i+1,by go_num,rfl,ab bu,rfl,HX⟩
     ·have e1:decide ((255:Int)<(s.size:Int))=true:=decide_eq_true (by omega)
      have HX:Hid (R=false):=by show R=_;rw[←ab HS,ab HI,decide_eq_false (show ¬(s.size:Int)≤255 by omega),Bool.and_false];rfl
      clear HS HI z0 z1
      go_wp2
      go_ret
      exact ⟨by rw[ab HX];rfl,ab HB⟩
   ·obtain rfl:i=is.length:=by omega
    have AU:Hid ((ms.all (gX 32)&&(es.all bc&&decide (N≤4096)))=R):=by have h:=ab HA;rw[List.drop_length,List.all_nil,Bool.true_and] at h;exact h
    clear HA
    obtain ⟨wo,iA⟩:∃x,x=wr:=⟨_,rfl⟩
    subst iA
    go_wp2
    go_loopg [4,5] ms.length (fun gk v4 v5 wr=>∃(i:Nat),v4=.int .i64 ((is.length+bE (cQ 32) (ms.take i):Nat):Int)∧v5=.int .i64 (i:Int)∧gk=ms.length-i∧i≤ms.length∧Hid (((ms.drop i).all (gX 32)&&(es.all bc&&decide (N≤4096)))=R)∧Hid (Below w0.heap.size w0 wr)∧Hid (wr.heap[w0.heap.size]?=some (.cells #[.string pk,.slice ai is.length ci,.slice am ms.length dh,.slice ae es.length da] 26 (0,0))))
    case atStart=>exact ⟨0,rfl,rfl,rfl,by omega,ab AU,ab HB,ab HK⟩
    case round =>
     obtain ⟨i,rfl,rfl,aU,eS,HA,iK,kd⟩:=hrel
     have bz:=al aU
     clear aU AU HB HK
     obtain ⟨c0,c1,c2,c3⟩:=a8 (ab kd)
     by_cases aM:i<ms.length
     ·have aS:Below W.heap.size W wr:=(ab HW).trans ((ab iK).mono (ab HW).size)
      obtain ⟨g,o,rfl,hg,hc⟩:=ab vO (by omega)
      have hl:=List.getElem?_eq_getElem aM
      obtain ⟨t,ht⟩:∃d,ms[i]=d:=⟨_,rfl⟩
      rw[ht] at hl
      obtain ⟨MJ,MI,Pb,MK,Bg,Bj,xy,DD,Dh,qK,wP,Da,DB,IJ,JD,dU,fR⟩:=(ab vQ).at i t hl
      have gR:=al fR
      obtain ⟨Ff,E8,rfl,-,-⟩:=fR.hf
      obtain ⟨DO,DL,rfl,-,-⟩:=fR.ho
      obtain ⟨AM,mg,rfl,-,-⟩:=fR.hm
      obtain ⟨Fg,pP,rfl,-,-⟩:=fR.he
      obtain ⟨qT,qQ,rfl,-,-⟩:=fR.hr
      obtain ⟨qU,qS,rfl,-,-⟩:=fR.hg
      have key:∀(j:Nat) (x:Value),[Value.string xy,.slice Ff DD.length E8,.slice DO Dh.length DL,.slice AM qK.length mg,.slice Fg wP.length pP,.slice qT Da.length qQ,.slice qU DB.length qS][j]?=some x→wr.cell? ⟨g,o+(i*7+j),none⟩=some x:=fun j x hx=>(aS.cell (p:=⟨g,o+(i*7+j),none⟩) hg).trans (hc _ _ (by
       rw[←dU,List.getElem?_take,List.getElem?_drop] at hx
       split at hx
       ·exact hx
       ·cases hx))
      have x0:wr.cell? ⟨g,o+i*7,none⟩=_:=key 0 _ rfl
      have x1:wr.cell? ⟨g,o+i*7+1,none⟩=_:=key 1 _ rfl
      have x2:wr.cell? ⟨g,o+i*7+2,none⟩=_:=key 2 _ rfl
      have x3:wr.cell? ⟨g,o+i*7+3,none⟩=_:=key 3 _ rfl
      have x4:wr.cell? ⟨g,o+i*7+4,none⟩=_:=key 4 _ rfl
      have x5:wr.cell? ⟨g,o+i*7+5,none⟩=_:=key 5 _ rfl
      have x6:wr.cell? ⟨g,o+i*7+6,none⟩=_:=key 6 _ rfl
      clear hc ht key dU
      have sd:Hid (g<wr.heap.size):=Nat.lt_of_lt_of_le hg aS.size
      obtain ⟨q,hq⟩:∃q,(gX 32) t=q:=⟨_,rfl⟩
      have HS:Hid ((q&&((ms.drop (i+1)).all (gX 32)&&(es.all bc&&decide (N≤4096))))=R):=by have:=ab HA;rw[ep hl,hq,Bool.and_assoc] at this;exact this
      have fl:=gU (cQ 32) hl
      have hle:=kW (cQ 32) ms (i+1)
      have HC:=al (ab My W t _ _ _ _ _ _ _ _ _ _ _ _ _ _ _ (ab gR) wr aS)
      have HD:Hid (∀w2,Below wr.heap.size wr w2→q=true→Calls Tryz.prog 52 #[.agg #[.string xy,.slice Ff DD.length E8,.slice DO Dh.length DL,.slice AM qK.length mg,.slice Fg wP.length pP,.slice qT Da.length qQ,.slice qU DB.length qS]] w2 fun e w=>e=.returned (.int .i64 (cQ 32 t:Int))∧Below w2.heap.size w2 w):=fun w2 hb EH=>jJ 32 W t _ _ _ _ _ _ _ _ _ _ _ _ _ _ _ (ab gR) (Gq 32 t (hq.trans EH)) (by have:=ab HT;have:=tu (cQ 32) hl;omega) w2 (aS.trans (hb.mono aS.size))
      rw[hq] at HC
      obtain ⟨u,hu⟩:∃u,(cQ 32) t=u:=⟨_,rfl⟩
      rw[hu] at HD fl
      obtain ⟨z,hz⟩:∃z,is.length+bE (cQ 32) (ms.take i)=z:=⟨_,rfl⟩
      obtain ⟨z2,c7⟩:∃z,is.length+bE (cQ 32) (ms.take (i+1))=z:=⟨_,rfl⟩
      have zb:z2≤1099511627776:=by have:=ab HT;omega
      have Ja:=al (show ((z:Int)+(u:Int))=(z2:Int) by omega)
      rw[hz]
      have Fj:=al c7
      have i0:(0:Int)≤(i:Int):=zH _
      have i1:(i:Int)<(ms.length:Int):=by omega
      have bu:=al aM
      have zl:z≤1099511627776:=by omega
      have ul:u≤1099511627776:=by omega
      clear hl aS aM gR fl hle hu hz c7 HA hq
      go_wp2_with fail
      refine (ab HC).mono ?_
      rintro e w2 ⟨rfl,bd⟩
      have kh:=al ((ab iK).trans (bd.mono (ab iK).size))
      have mJ:=al ((bd.block _ (zA (ab kd)).1).trans (ab kd))
      have y0:=(bd.cell (p:=⟨g,o+i*7,none⟩) (ab sd)).trans x0
      have y1:=(bd.cell (p:=⟨g,o+i*7+1,none⟩) (ab sd)).trans x1
      have y2:=(bd.cell (p:=⟨g,o+i*7+2,none⟩) (ab sd)).trans x2
      have y3:=(bd.cell (p:=⟨g,o+i*7+3,none⟩) (ab sd)).trans x3
      have y4:=(bd.cell (p:=⟨g,o+i*7+4,none⟩) (ab sd)).trans x4
      have y5:=(bd.cell (p:=⟨g,o+i*7+5,none⟩) (ab sd)).trans x5
      have y6:=(bd.cell (p:=⟨g,o+i*7+6,none⟩) (ab sd)).trans x6
      have CM:=al (ab HD w2 bd)
      clear bd iK kd HC HD c0 c1 c2 c3 x0 x1 x2 x3 x4 x5 x6
      obtain ⟨c0,c1,c2,c3⟩:=a8 (ab mJ)
      cases q with
      |false =>
       have HX:Hid (R=false):=by show R=_;rw[←ab HS];rfl
       clear HS CM
       go_wp2
       go_ret
       exact ⟨by rw[ab HX];rfl,ab kh⟩
      |true =>
       have HX:Hid (((ms.drop (i+1)).all (gX 32)&&(es.all bc&&decide (N≤4096)))=R):=by have:=ab HS;rw[Bool.true_and] at this;exact this
       have Jr:=al (ab CM (by trivial))
       clear HS CM
       go_wp2_with fail
       refine (ab Jr).mono ?_
       rintro e w3 ⟨rfl,cE⟩
       have O6:=al ((ab kh).trans (cE.mono (ab kh).size))
       have Jp:=al ((cE.block _ (zA (ab mJ)).1).trans (ab mJ))
       clear cE kh mJ Jr c0 c1 c2 c3 y0 y1 y2 y3 y4 y5 y6
       obtain ⟨c0,c1,c2,c3⟩:=a8 (ab Jp)
       go_wp2
       go_roundg (ms.length-(i+1))
       case measure=>have:=ab bz;have:=ab bu;omega
       case rel=>exact ⟨i+1,by rw[ab Fj,←ab Ja],by go_num,rfl,ab bu,HX,O6,Jp⟩
     ·obtain rfl:i=ms.length:=by omega
      rw[List.take_length]
      have se:Hid ((es.all bc&&decide (N≤4096))=R):=by have h:=ab HA;rw[List.drop_length,List.all_nil,Bool.true_and] at h;exact h
      clear HA
      obtain ⟨Ug,iA⟩:∃x,x=wr:=⟨_,rfl⟩
      subst iA
      go_wp2
      go_loopg [4,6] es.length (fun gk v4 v6 wr=>∃(i:Nat),v4=.int .i64 ((is.length+bE (cQ 32) ms+bE kl (es.take i):Nat):Int)∧v6=.int .i64 (i:Int)∧gk=es.length-i∧i≤es.length∧Hid (((es.drop i).all bc&&decide (N≤4096))=R)∧Hid (Below w0.heap.size w0 wr)∧Hid (wr.heap[w0.heap.size]?=some (.cells #[.string pk,.slice ai is.length ci,.slice am ms.length dh,.slice ae es.length da] 26 (0,0))))
      case atStart=>exact ⟨0,rfl,rfl,rfl,by omega,ab se,ab iK,ab kd⟩
      case round =>
       obtain ⟨i,rfl,rfl,aU,eS,HA,cN,iH⟩:=hrel
       have bz:=al aU
       clear aU se iK kd
       obtain ⟨c0,c1,c2,c3⟩:=a8 (ab iH)
       by_cases aM:i<es.length
       ·have aS:Below W.heap.size W wr:=(ab HW).trans ((ab cN).mono (ab HW).size)
        obtain ⟨g,o,rfl,hg,hc⟩:=ab vP (by omega)
        have hl:=List.getElem?_eq_getElem aM
        obtain ⟨t,ht⟩:∃d,es[i]=d:=⟨_,rfl⟩
        rw[ht] at hl
        obtain ⟨vv,Bg,Bj,dU,rv,rr,rg⟩:=(ab vR).at i t hl
        have gR:=al (And.intro rv (And.intro rr rg))
        obtain ⟨av,cv,rfl,-,-⟩:=rv
        obtain ⟨qT,qQ,rfl,-,-⟩:=rr
        obtain ⟨qU,qS,rfl,-,-⟩:=rg
        have key:∀(j:Nat) (x:Value),[Value.string t.name,.slice av t.aQ.length cv,.slice qT t.res.length qQ,.slice qU t.gone.length qS][j]?=some x→wr.cell? ⟨g,o+(i*4+j),none⟩=some x:=fun j x hx=>(aS.cell (p:=⟨g,o+(i*4+j),none⟩) hg).trans (hc _ _ (by
         rw[←dU,List.getElem?_take,List.getElem?_drop] at hx
         split at hx
         ·exact hx
         ·cases hx))
        have x0:wr.cell? ⟨g,o+i*4,none⟩=_:=key 0 _ rfl
        have x1:wr.cell? ⟨g,o+i*4+1,none⟩=_:=key 1 _ rfl
        have x2:wr.cell? ⟨g,o+i*4+2,none⟩=_:=key 2 _ rfl
        have x3:wr.cell? ⟨g,o+i*4+3,none⟩=_:=key 3 _ rfl
        clear hc ht key dU
        have sd:Hid (g<wr.heap.size):=Nat.lt_of_lt_of_le hg aS.size
        obtain ⟨q,hq⟩:∃q,bc t=q:=⟨_,rfl⟩
        have HS:Hid ((q&&((es.drop (i+1)).all bc&&decide (N≤4096)))=R):=by have:=ab HA;rw[ep hl,hq,Bool.and_assoc] at this;exact this
        have fl:=gU kl hl
        have hle:=kW kl es (i+1)
        have HC:=al (pz (ab gR).1 (ab gR).2.1 (ab gR).2.2 wr aS)
        have HD:=al (fun w2 (_:Below wr.heap.size wr w2) (_:q=true)=>lX (ab gR).1 (ab gR).2.1 (ab gR).2.2 w2)
        rw[hq] at HC
        obtain ⟨u,hu⟩:∃u,kl t=u:=⟨_,rfl⟩
        rw[hu] at HD fl
        obtain ⟨z,hz⟩:∃z,is.length+bE (cQ 32) ms+bE kl (es.take i)=z:=⟨_,rfl⟩
        obtain ⟨z2,c7⟩:∃z,is.length+bE (cQ 32) ms+bE kl (es.take (i+1))=z:=⟨_,rfl⟩
        have zb:z2≤1099511627776:=by have:=ab HT;omega
        have Ja:=al (show ((z:Int)+(u:Int))=(z2:Int) by omega)
        rw[hz]
        have Fj:=al c7
        have i0:(0:Int)≤(i:Int):=zH _
        have i1:(i:Int)<(es.length:Int):=by omega
        have bu:=al aM
        have zl:z≤1099511627776:=by omega
        have ul:u≤1099511627776:=by omega
        clear hl aS aM gR fl hle hu hz c7 HA hq
        go_wp2_with fail
        refine (ab HC).mono ?_
        rintro e w2 ⟨rfl,bd⟩
        have kh:=al ((ab cN).trans (bd.mono (ab cN).size))
        have mJ:=al ((bd.block _ (zA (ab iH)).1).trans (ab iH))
        have y0:=(bd.cell (p:=⟨g,o+i*4,none⟩) (ab sd)).trans x0
        have y1:=(bd.cell (p:=⟨g,o+i*4+1,none⟩) (ab sd)).trans x1
        have y2:=(bd.cell (p:=⟨g,o+i*4+2,none⟩) (ab sd)).trans x2
        have y3:=(bd.cell (p:=⟨g,o+i*4+3,none⟩) (ab sd)).trans x3
        have CM:=al (ab HD w2 bd)
        clear bd cN iH HC HD c0 c1 c2 c3 x0 x1 x2 x3
        obtain ⟨c0,c1,c2,c3⟩:=a8 (ab mJ)
        cases q with
        |false =>
         have HX:Hid (R=false):=by show R=_;rw[←ab HS];rfl
         clear HS CM
         go_wp2
         go_ret
         exact ⟨by rw[ab HX];rfl,ab kh⟩
        |true =>
         have HX:Hid (((es.drop (i+1)).all bc&&decide (N≤4096))=R):=by have:=ab HS;rw[Bool.true_and] at this;exact this
         have Jr:=al (ab CM (by trivial))
         clear HS CM
         go_wp2_with fail
         refine (ab Jr).mono ?_
         rintro e w3 ⟨rfl,cE⟩
         have O6:=al ((ab kh).trans (cE.mono (ab kh).size))
         have Jp:=al ((cE.block _ (zA (ab mJ)).1).trans (ab mJ))
         clear cE kh mJ Jr c0 c1 c2 c3 y0 y1 y2 y3
         obtain ⟨c0,c1,c2,c3⟩:=a8 (ab Jp)
         go_wp2
         go_roundg (es.length-(i+1))
         case measure=>have:=ab bz;have:=ab bu;omega
         case rel=>exact ⟨i+1,by rw[ab Fj,←ab Ja],by go_num,rfl,ab bu,HX,O6,Jp⟩
       ·obtain rfl:i=es.length:=by omega
        rw[List.take_length]
        have HX:Hid (decide (N≤4096)=R):=by have h:=ab HA;rw[List.drop_length,List.all_nil,Bool.true_and] at h;exact h
        obtain ⟨N',NW⟩:∃n,is.length+bE (cQ 32) ms+bE kl es=n:=⟨_,rfl⟩
        rw[NW]
        have Wq:N'=N:=NW.symm.trans (ab HN)
        clear HA NW
        subst Wq
        have Ji:Hid (decide ((N':Int)≤4096)=R):=by show _=R;rw[←ab HX];exact decide_eq_decide.2 (by omega)
        clear HX
        go_wp2
        go_ret
        exact ⟨by rw[←ab Ji];rfl,ab cN⟩
 |false =>
  cases q2 with
  |false =>
   have HX:Hid (R=false):=by show R=_;rw[←ab HR];rfl
   clear HR
   go_enter Tryz.func25,Tryz.ntmps25
   go_wp2_with fail
   refine (ab SV).mono ?_
   rintro e w ⟨rfl,rfl⟩
   go_wp2
   go_ret
   exact ⟨by rw[ab HX];rfl,ab HB⟩
  |true =>
   have SP:Hid ((is.all dr&&(ms.all (gX 32)&&(es.all bc&&decide (N≤4096))))=R):=by have h:=ab HR;rw[Bool.or_true,Bool.true_and] at h;exact h
   clear HR
   go_enter Tryz.func25,Tryz.ntmps25
   go_wp2_with fail
   refine (ab SV).mono ?_
   rintro e w ⟨rfl,rfl⟩
   clear SV
   go_wp2
   go_loopg [3] is.length (fun gk v3 wr=>∃(i:Nat),v3=.int .i64 (i:Int)∧gk=is.length-i∧i≤is.length∧wr=w∧Hid (((is.drop i).all dr&&(ms.all (gX 32)&&(es.all bc&&decide (N≤4096))))=R))
   case atStart=>exact ⟨0,rfl,rfl,by omega,rfl,ab SP⟩
   case round =>
    obtain ⟨i,rfl,aU,eS,rfl,HA⟩:=hrel
    have bz:=al aU
    clear aU SP
    by_cases aM:i<is.length
    ·have aS:Below W.heap.size W wr:=(ab HW).trans ((ab HB).mono (ab HW).size)
     obtain ⟨g,o,rfl,hg,hc⟩:=ab LG (by omega)
     have hl:=List.getElem?_eq_getElem aM
     obtain ⟨s,hs⟩:∃d,is[i]=d:=⟨_,rfl⟩
     rw[hs] at hl
     have x0:=(aS.cell (p:=⟨g,o+i,none⟩) hg).trans (hc _ _ (dS hl))
     clear hc hs
     obtain ⟨q,hq⟩:∃q,dr s=q:=⟨_,rfl⟩
     have HS:Hid ((q&&((is.drop (i+1)).all dr&&(ms.all (gX 32)&&(es.all bc&&decide (N≤4096)))))=R):=by have:=ab HA;rw[ep hl,hq,Bool.and_assoc] at this;exact this
     have HI:Hid (q=(decide ((1:Int)≤(s.size:Int))&&decide ((s.size:Int)≤255))):=hq.symm
     have i0:(0:Int)≤(i:Int):=zH _
     have i1:(i:Int)<(is.length:Int):=by omega
     have bu:=al aM
     clear hl aS aM HA hq
     by_cases z0:s.size=0
     ·have e0:((s.size:Int)==0)=true:=beq_iff_eq.2 (by omega)
      have HX:Hid (R=false):=by show R=_;rw[←ab HS,ab HI,decide_eq_false (by omega)];rfl
      clear HS HI z0
      go_wp2
      go_ret
      exact ⟨by rw[ab HX];rfl,ab HB⟩
     ·have e0:((s.size:Int)==0)=false:=beq_eq_false_iff_ne.2 (by omega)
      by_cases z1:s.size≤255
      ·have e1:decide ((255:Int)<(s.size:Int))=false:=decide_eq_false (by omega)
       have HX:Hid (((is.drop (i+1)).all dr&&(ms.all (gX 32)&&(es.all bc&&decide (N≤4096))))=R):=by show _=R;rw[←ab HS,ab HI,decide_eq_true (show (1:Int)≤(s.size:Int) by omega),decide_eq_true (show (s.size:Int)≤255 by omega)];rfl
       clear HS HI z0 z1
       go_wp2
       go_roundg (is.length-(i+1))
       case measure=>have:=ab bz;have:=ab bu;omega
       case rel=>exact ⟨i+1,by go_num,rfl,ab bu,rfl,HX⟩
      ·have e1:decide ((255:Int)<(s.size:Int))=true:=decide_eq_true (by omega)
       have HX:Hid (R=false):=by show R=_;rw[←ab HS,ab HI,decide_eq_false (show ¬(s.size:Int)≤255 by omega),Bool.and_false];rfl
       clear HS HI z0 z1
       go_wp2
       go_ret
       exact ⟨by rw[ab HX];rfl,ab HB⟩
    ·obtain rfl:i=is.length:=by omega
     have AU:Hid ((ms.all (gX 32)&&(es.all bc&&decide (N≤4096)))=R):=by have h:=ab HA;rw[List.drop_length,List.all_nil,Bool.true_and] at h;exact h
     clear HA
     obtain ⟨wo,iA⟩:∃x,x=wr:=⟨_,rfl⟩
     subst iA
     go_wp2
     go_loopg [4,5] ms.length (fun gk v4 v5 wr=>∃(i:Nat),v4=.int .i64 ((is.length+bE (cQ 32) (ms.take i):Nat):Int)∧v5=.int .i64 (i:Int)∧gk=ms.length-i∧i≤ms.length∧Hid (((ms.drop i).all (gX 32)&&(es.all bc&&decide (N≤4096)))=R)∧Hid (Below w0.heap.size w0 wr)∧Hid (wr.heap[w0.heap.size]?=some (.cells #[.string pk,.slice ai is.length ci,.slice am ms.length dh,.slice ae es.length da] 26 (0,0))))
     case atStart=>exact ⟨0,rfl,rfl,rfl,by omega,ab AU,ab HB,ab HK⟩
     case round =>
      obtain ⟨i,rfl,rfl,aU,eS,HA,iK,kd⟩:=hrel
      have bz:=al aU
      clear aU AU HB HK
      obtain ⟨c0,c1,c2,c3⟩:=a8 (ab kd)
      by_cases aM:i<ms.length
      ·have aS:Below W.heap.size W wr:=(ab HW).trans ((ab iK).mono (ab HW).size)
       obtain ⟨g,o,rfl,hg,hc⟩:=ab vO (by omega)
       have hl:=List.getElem?_eq_getElem aM
       obtain ⟨t,ht⟩:∃d,ms[i]=d:=⟨_,rfl⟩
       rw[ht] at hl
       obtain ⟨MJ,MI,Pb,MK,Bg,Bj,xy,DD,Dh,qK,wP,Da,DB,IJ,JD,dU,fR⟩:=(ab vQ).at i t hl
       have gR:=al fR
       obtain ⟨Ff,E8,rfl,-,-⟩:=fR.hf
       obtain ⟨DO,DL,rfl,-,-⟩:=fR.ho
       obtain ⟨AM,mg,rfl,-,-⟩:=fR.hm
       obtain ⟨Fg,pP,rfl,-,-⟩:=fR.he
       obtain ⟨qT,qQ,rfl,-,-⟩:=fR.hr
       obtain ⟨qU,qS,rfl,-,-⟩:=fR.hg
       have key:∀(j:Nat) (x:Value),[Value.string xy,.slice Ff DD.length E8,.slice DO Dh.length DL,.slice AM qK.length mg,.slice Fg wP.length pP,.slice qT Da.length qQ,.slice qU DB.length qS][j]?=some x→wr.cell? ⟨g,o+(i*7+j),none⟩=some x:=fun j x hx=>(aS.cell (p:=⟨g,o+(i*7+j),none⟩) hg).trans (hc _ _ (by
        rw[←dU,List.getElem?_take,List.getElem?_drop] at hx
        split at hx
        ·exact hx
        ·cases hx))
       have x0:wr.cell? ⟨g,o+i*7,none⟩=_:=key 0 _ rfl
       have x1:wr.cell? ⟨g,o+i*7+1,none⟩=_:=key 1 _ rfl
       have x2:wr.cell? ⟨g,o+i*7+2,none⟩=_:=key 2 _ rfl
       have x3:wr.cell? ⟨g,o+i*7+3,none⟩=_:=key 3 _ rfl
       have x4:wr.cell? ⟨g,o+i*7+4,none⟩=_:=key 4 _ rfl
       have x5:wr.cell? ⟨g,o+i*7+5,none⟩=_:=key 5 _ rfl
       have x6:wr.cell? ⟨g,o+i*7+6,none⟩=_:=key 6 _ rfl
       clear hc ht key dU
       have sd:Hid (g<wr.heap.size):=Nat.lt_of_lt_of_le hg aS.size
       obtain ⟨q,hq⟩:∃q,(gX 32) t=q:=⟨_,rfl⟩
       have HS:Hid ((q&&((ms.drop (i+1)).all (gX 32)&&(es.all bc&&decide (N≤4096))))=R):=by have:=ab HA;rw[ep hl,hq,Bool.and_assoc] at this;exact this
       have fl:=gU (cQ 32) hl
       have hle:=kW (cQ 32) ms (i+1)
       have HC:=al (ab My W t _ _ _ _ _ _ _ _ _ _ _ _ _ _ _ (ab gR) wr aS)
       have HD:Hid (∀w2,Below wr.heap.size wr w2→q=true→Calls Tryz.prog 52 #[.agg #[.string xy,.slice Ff DD.length E8,.slice DO Dh.length DL,.slice AM qK.length mg,.slice Fg wP.length pP,.slice qT Da.length qQ,.slice qU DB.length qS]] w2 fun e w=>e=.returned (.int .i64 (cQ 32 t:Int))∧Below w2.heap.size w2 w):=fun w2 hb EH=>jJ 32 W t _ _ _ _ _ _ _ _ _ _ _ _ _ _ _ (ab gR) (Gq 32 t (hq.trans EH)) (by have:=ab HT;have:=tu (cQ 32) hl;omega) w2 (aS.trans (hb.mono aS.size))
       rw[hq] at HC
       obtain ⟨u,hu⟩:∃u,(cQ 32) t=u:=⟨_,rfl⟩
       rw[hu] at HD fl
       obtain ⟨z,hz⟩:∃z,is.length+bE (cQ 32) (ms.take i)=z:=⟨_,rfl⟩
       obtain ⟨z2,c7⟩:∃z,is.length+bE (cQ 32) (ms.take (i+1))=z:=⟨_,rfl⟩
       have zb:z2≤1099511627776:=by have:=ab HT;omega
       have Ja:=al (show ((z:Int)+(u:Int))=(z2:Int) by omega)
       rw[hz]
       have Fj:=al c7
       have i0:(0:Int)≤(i:Int):=zH _
       have i1:(i:Int)<(ms.length:Int):=by omega
       have bu:=al aM
       have zl:z≤1099511627776:=by omega
       have ul:u≤1099511627776:=by omega
       clear hl aS aM gR fl hle hu hz c7 HA hq
       go_wp2_with fail
       refine (ab HC).mono ?_
       rintro e w2 ⟨rfl,bd⟩
       have kh:=al ((ab iK).trans (bd.mono (ab iK).size))
       have mJ:=al ((bd.block _ (zA (ab kd)).1).trans (ab kd))
       have y0:=(bd.cell (p:=⟨g,o+i*7,none⟩) (ab sd)).trans x0
       have y1:=(bd.cell (p:=⟨g,o+i*7+1,none⟩) (ab sd)).trans x1
       have y2:=(bd.cell (p:=⟨g,o+i*7+2,none⟩) (ab sd)).trans x2
       have y3:=(bd.cell (p:=⟨g,o+i*7+3,none⟩) (ab sd)).trans x3
       have y4:=(bd.cell (p:=⟨g,o+i*7+4,none⟩) (ab sd)).trans x4
       have y5:=(bd.cell (p:=⟨g,o+i*7+5,none⟩) (ab sd)).trans x5
       have y6:=(bd.cell (p:=⟨g,o+i*7+6,none⟩) (ab sd)).trans x6
       have CM:=al (ab HD w2 bd)
       clear bd iK kd HC HD c0 c1 c2 c3 x0 x1 x2 x3 x4 x5 x6
       obtain ⟨c0,c1,c2,c3⟩:=a8 (ab mJ)
       cases q with
       |false =>
        have HX:Hid (R=false):=by show R=_;rw[←ab HS];rfl
        clear HS CM
        go_wp2
        go_ret
        exact ⟨by rw[ab HX];rfl,ab kh⟩
       |true =>
        have HX:Hid (((ms.drop (i+1)).all (gX 32)&&(es.all bc&&decide (N≤4096)))=R):=by have:=ab HS;rw[Bool.true_and] at this;exact this
        have Jr:=al (ab CM (by trivial))
        clear HS CM
        go_wp2_with fail
        refine (ab Jr).mono ?_
        rintro e w3 ⟨rfl,cE⟩
        have O6:=al ((ab kh).trans (cE.mono (ab kh).size))
        have Jp:=al ((cE.block _ (zA (ab mJ)).1).trans (ab mJ))
        clear cE kh mJ Jr c0 c1 c2 c3 y0 y1 y2 y3 y4 y5 y6
        obtain ⟨c0,c1,c2,c3⟩:=a8 (ab Jp)
        go_wp2
        go_roundg (ms.length-(i+1))
        case measure=>have:=ab bz;have:=ab bu;omega
        case rel=>exact ⟨i+1,by rw[ab Fj,←ab Ja],by go_num,rfl,ab bu,HX,O6,Jp⟩
      ·obtain rfl:i=ms.length:=by omega
       rw[List.take_length]
       have se:Hid ((es.all bc&&decide (N≤4096))=R):=by have h:=ab HA;rw[List.drop_length,List.all_nil,Bool.true_and] at h;exact h
       clear HA
       obtain ⟨Ug,iA⟩:∃x,x=wr:=⟨_,rfl⟩
       subst iA
       go_wp2
       go_loopg [4,6] es.length (fun gk v4 v6 wr=>∃(i:Nat),v4=.int .i64 ((is.length+bE (cQ 32) ms+bE kl (es.take i):Nat):Int)∧v6=.int .i64 (i:Int)∧gk=es.length-i∧i≤es.length∧Hid (((es.drop i).all bc&&decide (N≤4096))=R)∧Hid (Below w0.heap.size w0 wr)∧Hid (wr.heap[w0.heap.size]?=some (.cells #[.string pk,.slice ai is.length ci,.slice am ms.length dh,.slice ae es.length da] 26 (0,0))))
       case atStart=>exact ⟨0,rfl,rfl,rfl,by omega,ab se,ab iK,ab kd⟩
       case round =>
        obtain ⟨i,rfl,rfl,aU,eS,HA,cN,iH⟩:=hrel
        have bz:=al aU
        clear aU se iK kd
        obtain ⟨c0,c1,c2,c3⟩:=a8 (ab iH)
        by_cases aM:i<es.length
        ·have aS:Below W.heap.size W wr:=(ab HW).trans ((ab cN).mono (ab HW).size)
         obtain ⟨g,o,rfl,hg,hc⟩:=ab vP (by omega)
         have hl:=List.getElem?_eq_getElem aM
         obtain ⟨t,ht⟩:∃d,es[i]=d:=⟨_,rfl⟩
         rw[ht] at hl
         obtain ⟨vv,Bg,Bj,dU,rv,rr,rg⟩:=(ab vR).at i t hl
         have gR:=al (And.intro rv (And.intro rr rg))
         obtain ⟨av,cv,rfl,-,-⟩:=rv
         obtain ⟨qT,qQ,rfl,-,-⟩:=rr
         obtain ⟨qU,qS,rfl,-,-⟩:=rg
         have key:∀(j:Nat) (x:Value),[Value.string t.name,.slice av t.aQ.length cv,.slice qT t.res.length qQ,.slice qU t.gone.length qS][j]?=some x→wr.cell? ⟨g,o+(i*4+j),none⟩=some x:=fun j x hx=>(aS.cell (p:=⟨g,o+(i*4+j),none⟩) hg).trans (hc _ _ (by
          rw[←dU,List.getElem?_take,List.getElem?_drop] at hx
          split at hx
          ·exact hx
          ·cases hx))
         have x0:wr.cell? ⟨g,o+i*4,none⟩=_:=key 0 _ rfl
         have x1:wr.cell? ⟨g,o+i*4+1,none⟩=_:=key 1 _ rfl
         have x2:wr.cell? ⟨g,o+i*4+2,none⟩=_:=key 2 _ rfl
         have x3:wr.cell? ⟨g,o+i*4+3,none⟩=_:=key 3 _ rfl
         clear hc ht key dU
         have sd:Hid (g<wr.heap.size):=Nat.lt_of_lt_of_le hg aS.size
         obtain ⟨q,hq⟩:∃q,bc t=q:=⟨_,rfl⟩
         have HS:Hid ((q&&((es.drop (i+1)).all bc&&decide (N≤4096)))=R):=by have:=ab HA;rw[ep hl,hq,Bool.and_assoc] at this;exact this
         have fl:=gU kl hl
         have hle:=kW kl es (i+1)
         have HC:=al (pz (ab gR).1 (ab gR).2.1 (ab gR).2.2 wr aS)
         have HD:=al (fun w2 (_:Below wr.heap.size wr w2) (_:q=true)=>lX (ab gR).1 (ab gR).2.1 (ab gR).2.2 w2)
         rw[hq] at HC
         obtain ⟨u,hu⟩:∃u,kl t=u:=⟨_,rfl⟩
         rw[hu] at HD fl
         obtain ⟨z,hz⟩:∃z,is.length+bE (cQ 32) ms+bE kl (es.take i)=z:=⟨_,rfl⟩
         obtain ⟨z2,c7⟩:∃z,is.length+bE (cQ 32) ms+bE kl (es.take (i+1))=z:=⟨_,rfl⟩
         have zb:z2≤1099511627776:=by have:=ab HT;omega
         have Ja:=al (show ((z:Int)+(u:Int))=(z2:Int) by omega)
         rw[hz]
         have Fj:=al c7
         have i0:(0:Int)≤(i:Int):=zH _
         have i1:(i:Int)<(es.length:Int):=by omega
         have bu:=al aM
         have zl:z≤1099511627776:=by omega
         have ul:u≤1099511627776:=by omega
         clear hl aS aM gR fl hle hu hz c7 HA hq
         go_wp2_with fail
         refine (ab HC).mono ?_
         rintro e w2 ⟨rfl,bd⟩
         have kh:=al ((ab cN).trans (bd.mono (ab cN).size))
         have mJ:=al ((bd.block _ (zA (ab iH)).1).trans (ab iH))
         have y0:=(bd.cell (p:=⟨g,o+i*4,none⟩) (ab sd)).trans x0
         have y1:=(bd.cell (p:=⟨g,o+i*4+1,none⟩) (ab sd)).trans x1
         have y2:=(bd.cell (p:=⟨g,o+i*4+2,none⟩) (ab sd)).trans x2
         have y3:=(bd.cell (p:=⟨g,o+i*4+3,none⟩) (ab sd)).trans x3
         have CM:=al (ab HD w2 bd)
         clear bd cN iH HC HD c0 c1 c2 c3 x0 x1 x2 x3
         obtain ⟨c0,c1,c2,c3⟩:=a8 (ab mJ)
         cases q with
         |false =>
          have HX:Hid (R=false):=by show R=_;rw[←ab HS];rfl
          clear HS CM
          go_wp2
          go_ret
          exact ⟨by rw[ab HX];rfl,ab kh⟩
         |true =>
          have HX:Hid (((es.drop (i+1)).all bc&&decide (N≤4096))=R):=by have:=ab HS;rw[Bool.true_and] at this;exact this
          have Jr:=al (ab CM (by trivial))
          clear HS CM
          go_wp2_with fail
          refine (ab Jr).mono ?_
          rintro e w3 ⟨rfl,cE⟩
          have O6:=al ((ab kh).trans (cE.mono (ab kh).size))
          have Jp:=al ((cE.block _ (zA (ab mJ)).1).trans (ab mJ))
          clear cE kh mJ Jr c0 c1 c2 c3 y0 y1 y2 y3
          obtain ⟨c0,c1,c2,c3⟩:=a8 (ab Jp)
          go_wp2
          go_roundg (es.length-(i+1))
          case measure=>have:=ab bz;have:=ab bu;omega
          case rel=>exact ⟨i+1,by rw[ab Fj,←ab Ja],by go_num,rfl,ab bu,HX,O6,Jp⟩
        ·obtain rfl:i=es.length:=by omega
         rw[List.take_length]
         have HX:Hid (decide (N≤4096)=R):=by have h:=ab HA;rw[List.drop_length,List.all_nil,Bool.true_and] at h;exact h
         obtain ⟨N',NW⟩:∃n,is.length+bE (cQ 32) ms+bE kl es=n:=⟨_,rfl⟩
         rw[NW]
         have Wq:N'=N:=NW.symm.trans (ab HN)
         clear HA NW
         subst Wq
         have Ji:Hid (decide ((N':Int)≤4096)=R):=by show _=R;rw[←ab HX];exact decide_eq_decide.2 (by omega)
         clear HX
         go_wp2
         go_ret
         exact ⟨by rw[←ab Ji];rfl,ab cN⟩
end Go.Proofs.YtichhjfjcinjgaaGreatDoor
