import Derived.Test.YtichhjfjcinjgaaGreatDoorM35
set_option maxHeartbeats 8000000
set_option maxRecDepth 100000
namespace Go.Proofs.YtichhjfjcinjgaaGreatDoor
open Go.RowKit
attribute [local go_sem ↓] Go.wp_at_zero Go.wp_at_succ
theorem Ge:∀(f:Nat) (m:Ms),gV f m=true→tg f m
 |0,_,h=>by cases h
 |f+1,.mk nm fs os ms es rs gs,h=>fun m hm=>by
  unfold gV at h
  simp only[Bool.and_eq_true] at h
  exact Ge f m (List.all_eq_true.1 h.2.2.2.2.2.2 m hm)
def mL (F:Fl):Nat:=F.cT.length+bE (cO 32) F.ms+bE kh F.es
noncomputable def Du (F:Fl):Bool:=(F.kz.toList.isEmpty ||dv F.kz)&&(F.cT.all dk&&(F.ms.all (gV 32)&&(F.es.all bc&&decide (mL F≤4096))))
theorem D' {W:World}{v vi vm ve:Value}{F:Fl}{cm ce:List Value} (A5:A6 W v F vi vm ve cm ce) (ht:mL F≤1099511627776) (w0:World) (hw:Below W.heap.size W w0) :
  Calls Tryz.prog 25 #[v] w0 fun e w=>e=.returned (.bool (Du F))∧Below w0.heap.size w0 w:=by
 obtain ⟨pk,is,ms,es⟩:=F
 obtain ⟨rfl,hi,hm,ej,he,fl⟩:=A5
 obtain ⟨N,hN⟩:∃N,mL ⟨pk,is,ms,es⟩=N:=⟨_,rfl⟩
 obtain ⟨R,hR⟩:∃R,Du ⟨pk,is,ms,es⟩=R:=⟨_,rfl⟩
 rw[hN] at ht
 rw[hR]
 have HR:Hid (((pk.toList.isEmpty ||dv pk)&&(is.all dk&&(ms.all (gV 32)&&(es.all bc&&decide (N≤4096)))))=R):=by show _=R;rw[←hR,←hN];rfl
 have HN:Hid (is.length+bE (cO 32) ms+bE kh es=N):=hN
 have HT:Hid (is.length+bE (cO 32) ms+bE kh es≤1099511627776):=by show _≤_;rw[ab HN];exact ht
 simp only at hi hm ej he fl ⊢
 have Mm:=al (nU 32 (by omega))
 unfold Si at Mm
 rw[show (33:Int)-((32:Nat):Int)=1 from rfl] at Mm
 have vJ:=al ej
 have vK:=al fl
 obtain ⟨ai,ci,rfl,Th,li⟩:=hi
 obtain ⟨am,dh,rfl,Jp,lm⟩:=hm
 obtain ⟨ae,dc,rfl,iG,le⟩:=he
 have Lu:=al li
 have vH:=al lm
 have vI:=al le
 have k0:=aK w0 (.cells #[.string pk,.slice ai is.length ci,.slice am ms.length dh,.slice ae es.length dc] 26)
 have bJ:Below w0.heap.size w0 (w0.alloc (.cells #[.string pk,.slice ai is.length ci,.slice am ms.length dh,.slice ae es.length dc] 26)):=(zE _ _).alloc (zD _) _
 obtain ⟨V,fO⟩:∃V,w0.alloc (.cells #[.string pk,.slice ai is.length ci,.slice am ms.length dh,.slice ae es.length dc] 26)=V:=⟨_,rfl⟩
 rw[fO] at k0 bJ
 obtain ⟨c0,c1,c2,c3⟩:=a8 k0
 have HW:=al hw
 have HB:=al bJ
 have HK:=al k0
 obtain ⟨q1,tU⟩:∃q,pk.toList.isEmpty=q:=⟨_,rfl⟩
 obtain ⟨q2,kj⟩:∃q,dv pk=q:=⟨_,rfl⟩
 have SJ:=al (kY V pk)
 rw[kj] at SJ HR
 rw[tU] at HR
 have bi:is.length≤1099511627776:=by have:=ab HT;omega
 clear kj li lm le ej fl hw bJ k0 hR hN ht
 cases q1 with
 |true =>
  have SE:Hid ((is.all dk&&(ms.all (gV 32)&&(es.all bc&&decide (N≤4096))))=R):=by have h:=ab HR;rw[Bool.true_or,Bool.true_and] at h;exact h
  clear HR SJ
  go_enter Tryz.func25,Tryz.ntmps25
  go_wp2
  go_loopg [3] is.length (fun gk v3 wr=>∃(i:Nat),v3=.int .i64 (i:Int)∧gk=is.length-i∧i≤is.length∧wr=V∧Hid (((is.drop i).all dk&&(ms.all (gV 32)&&(es.all bc&&decide (N≤4096))))=R))
  case atStart=>exact ⟨0,rfl,rfl,by omega,rfl,ab SE⟩
  case round =>
   obtain ⟨i,rfl,aU,eO,rfl,HA⟩:=hrel
   have bz:=al aU
   clear aU SE
   by_cases aM:i<is.length
   ·have aS:Below W.heap.size W wr:=(ab HW).trans ((ab HB).mono (ab HW).size)
    obtain ⟨g,o,rfl,hg,hc⟩:=ab Lu (by omega)
    have hl:=List.getElem?_eq_getElem aM
    obtain ⟨s,hs⟩:∃d,is[i]=d:=⟨_,rfl⟩
    rw[hs] at hl
    have x0:=(aS.cell (p:=⟨g,o+i,none⟩) hg).trans (hc _ _ (dO hl))
    clear hc hs
    obtain ⟨q,hq⟩:∃q,dk s=q:=⟨_,rfl⟩
    have HS:Hid ((q&&((is.drop (i+1)).all dk&&(ms.all (gV 32)&&(es.all bc&&decide (N≤4096)))))=R):=by have:=ab HA;rw[ei hl,hq,Bool.and_assoc] at this;exact this
    have HI:Hid (q=(decide ((1:Int)≤(s.size:Int))&&decide ((s.size:Int)≤255))):=hq.symm
    have i0:(0:Int)≤(i:Int):=zH _
    have i1:(i:Int)<(is.length:Int):=by omega
    have bu:=al aM
    clear hl aS aM HA hq
    by_cases z0:s.size=0
    ·have e0:((s.size:Int)==0)=true:=beq_iff_eq.2 (by omega)
     have HX:Hid (R=false):=by show R=_;rw[←ab HS,ab HI,decide_eq_false (by omega)];rfl
     clear HS HI z0
     go_wp2
     go_ret
     exact ⟨by rw[ab HX];rfl,ab HB⟩
    ·have e0:((s.size:Int)==0)=false:=beq_eq_false_iff_ne.2 (by omega)
     by_cases z1:s.size≤255
     ·have e1:decide ((255:Int)<(s.size:Int))=false:=decide_eq_false (by omega)
      have HX:Hid (((is.drop (i+1)).all dk&&(ms.all (gV 32)&&(es.all bc&&decide (N≤4096))))=R):=by show _=R;rw[←ab HS,ab HI,decide_eq_true (show (1:Int)≤(s.size:Int) by omega),decide_eq_true (show (s.size:Int)≤255 by omega)];rfl
      clear HS HI z0 z1
      go_wp2
      go_roundg (is.length-(i+1))
      case measure=>have:=ab bz;have:=ab bu;omega
      case rel=>exact ⟨i+1,by go_num,rfl,ab bu,rfl,HX⟩
     ·have e1:decide ((255:Int)<(s.size:Int))=true:=decide_eq_true (by omega)
      have HX:Hid (R=false):=by show R=_;rw[←ab HS,ab HI,decide_eq_false (show ¬(s.size:Int)≤255 by omega),Bool.and_false];rfl
      clear HS HI z0 z1
      go_wp2
      go_ret
      exact ⟨by rw[ab HX];rfl,ab HB⟩
   ·obtain rfl:i=is.length:=by omega
    have AM:Hid ((ms.all (gV 32)&&(es.all bc&&decide (N≤4096)))=R):=by have h:=ab HA;rw[List.drop_length,List.all_nil,Bool.true_and] at h;exact h
    clear HA
    obtain ⟨wo,iv⟩:∃x,x=wr:=⟨_,rfl⟩
    subst iv
    go_wp2
    go_loopg [4,5] ms.length (fun gk v4 v5 wr=>∃(i:Nat),v4=.int .i64 ((is.length+bE (cO 32) (ms.take i):Nat):Int)∧v5=.int .i64 (i:Int)∧gk=ms.length-i∧i≤ms.length∧Hid (((ms.drop i).all (gV 32)&&(es.all bc&&decide (N≤4096)))=R)∧Hid (Below w0.heap.size w0 wr)∧Hid (wr.heap[w0.heap.size]?=some (.cells #[.string pk,.slice ai is.length ci,.slice am ms.length dh,.slice ae es.length dc] 26 (0,0))))
    case atStart=>exact ⟨0,rfl,rfl,rfl,by omega,ab AM,ab HB,ab HK⟩
    case round =>
     obtain ⟨i,rfl,rfl,aU,eO,HA,iE,j9⟩:=hrel
     have bz:=al aU
     clear aU AM HB HK
     obtain ⟨c0,c1,c2,c3⟩:=a8 (ab j9)
     by_cases aM:i<ms.length
     ·have aS:Below W.heap.size W wr:=(ab HW).trans ((ab iE).mono (ab HW).size)
      obtain ⟨g,o,rfl,hg,hc⟩:=ab vH (by omega)
      have hl:=List.getElem?_eq_getElem aM
      obtain ⟨t,ht⟩:∃d,ms[i]=d:=⟨_,rfl⟩
      rw[ht] at hl
      obtain ⟨My,Mx,OY,Mz,Ba,Bc,xw,Dt,C8,qH,wM,CZ,Dr,Ix,Jv,dQ,fO⟩:=(ab vJ).at i t hl
      have gP:=al fO
      obtain ⟨E5,EY,rfl,-,-⟩:=fO.hf
      obtain ⟨DE,DB,rfl,-,-⟩:=fO.ho
      obtain ⟨AE,mc,rfl,-,-⟩:=fO.hm
      obtain ⟨E6,pM,rfl,-,-⟩:=fO.he
      obtain ⟨qQ,qN,rfl,-,-⟩:=fO.hr
      obtain ⟨qR,qP,rfl,-,-⟩:=fO.hg
      have key:∀(j:Nat) (x:Value),[Value.string xw,.slice E5 Dt.length EY,.slice DE C8.length DB,.slice AE qH.length mc,.slice E6 wM.length pM,.slice qQ CZ.length qN,.slice qR Dr.length qP][j]?=some x→wr.cell? ⟨g,o+(i*7+j),none⟩=some x:=fun j x hx=>(aS.cell (p:=⟨g,o+(i*7+j),none⟩) hg).trans (hc _ _ (by
       rw[←dQ,List.getElem?_take,List.getElem?_drop] at hx
       split at hx
       ·exact hx
       ·cases hx))
      have x0:wr.cell? ⟨g,o+i*7,none⟩=_:=key 0 _ rfl
      have x1:wr.cell? ⟨g,o+i*7+1,none⟩=_:=key 1 _ rfl
      have x2:wr.cell? ⟨g,o+i*7+2,none⟩=_:=key 2 _ rfl
      have x3:wr.cell? ⟨g,o+i*7+3,none⟩=_:=key 3 _ rfl
      have x4:wr.cell? ⟨g,o+i*7+4,none⟩=_:=key 4 _ rfl
      have x5:wr.cell? ⟨g,o+i*7+5,none⟩=_:=key 5 _ rfl
      have x6:wr.cell? ⟨g,o+i*7+6,none⟩=_:=key 6 _ rfl
      clear hc ht key dQ
      have r9:Hid (g<wr.heap.size):=Nat.lt_of_lt_of_le hg aS.size
      obtain ⟨q,hq⟩:∃q,(gV 32) t=q:=⟨_,rfl⟩
      have HS:Hid ((q&&((ms.drop (i+1)).all (gV 32)&&(es.all bc&&decide (N≤4096))))=R):=by have:=ab HA;rw[ei hl,hq,Bool.and_assoc] at this;exact this
      have ff:=gS (cO 32) hl
      have hle:=kV (cO 32) ms (i+1)
      have HC:=al (ab Mm W t _ _ _ _ _ _ _ _ _ _ _ _ _ _ _ (ab gP) wr aS)
      have HD:Hid (∀w2,Below wr.heap.size wr w2→q=true→Calls Tryz.prog 52 #[.agg #[.string xw,.slice E5 Dt.length EY,.slice DE C8.length DB,.slice AE qH.length mc,.slice E6 wM.length pM,.slice qQ CZ.length qN,.slice qR Dr.length qP]] w2 fun e w=>e=.returned (.int .i64 (cO 32 t:Int))∧Below w2.heap.size w2 w):=fun w2 hb Ew=>jG 32 W t _ _ _ _ _ _ _ _ _ _ _ _ _ _ _ (ab gP) (Ge 32 t (hq.trans Ew)) (by have:=ab HT;have:=tp (cO 32) hl;omega) w2 (aS.trans (hb.mono aS.size))
      rw[hq] at HC
      obtain ⟨u,hu⟩:∃u,(cO 32) t=u:=⟨_,rfl⟩
      rw[hu] at HD ff
      obtain ⟨z,hz⟩:∃z,is.length+bE (cO 32) (ms.take i)=z:=⟨_,rfl⟩
      obtain ⟨z2,dY⟩:∃z,is.length+bE (cO 32) (ms.take (i+1))=z:=⟨_,rfl⟩
      have zb:z2≤1099511627776:=by have:=ab HT;omega
      have IZ:=al (show ((z:Int)+(u:Int))=(z2:Int) by omega)
      rw[hz]
      have E9:=al dY
      have i0:(0:Int)≤(i:Int):=zH _
      have i1:(i:Int)<(ms.length:Int):=by omega
      have bu:=al aM
      have zl:z≤1099511627776:=by omega
      have ul:u≤1099511627776:=by omega
      clear hl aS aM gP ff hle hu hz dY HA hq
      go_wp2_with fail
      refine (ab HC).mono ?_
      rintro e w2 ⟨rfl,bd⟩
      have j':=al ((ab iE).trans (bd.mono (ab iE).size))
      have mG:=al ((bd.block _ (zA (ab j9)).1).trans (ab j9))
      have y0:=(bd.cell (p:=⟨g,o+i*7,none⟩) (ab r9)).trans x0
      have y1:=(bd.cell (p:=⟨g,o+i*7+1,none⟩) (ab r9)).trans x1
      have y2:=(bd.cell (p:=⟨g,o+i*7+2,none⟩) (ab r9)).trans x2
      have y3:=(bd.cell (p:=⟨g,o+i*7+3,none⟩) (ab r9)).trans x3
      have y4:=(bd.cell (p:=⟨g,o+i*7+4,none⟩) (ab r9)).trans x4
      have y5:=(bd.cell (p:=⟨g,o+i*7+5,none⟩) (ab r9)).trans x5
      have y6:=(bd.cell (p:=⟨g,o+i*7+6,none⟩) (ab r9)).trans x6
      have CC:=al (ab HD w2 bd)
      clear bd iE j9 HC HD c0 c1 c2 c3 x0 x1 x2 x3 x4 x5 x6
      obtain ⟨c0,c1,c2,c3⟩:=a8 (ab mG)
      cases q with
      |false =>
       have HX:Hid (R=false):=by show R=_;rw[←ab HS];rfl
       clear HS CC
       go_wp2
       go_ret
       exact ⟨by rw[ab HX];rfl,ab j'⟩
      |true =>
       have HX:Hid (((ms.drop (i+1)).all (gV 32)&&(es.all bc&&decide (N≤4096)))=R):=by have:=ab HS;rw[Bool.true_and] at this;exact this
       have Jc:=al (ab CC (by trivial))
       clear HS CC
       go_wp2_with fail
       refine (ab Jc).mono ?_
       rintro e w3 ⟨rfl,cC⟩
       have OS:=al ((ab j').trans (cC.mono (ab j').size))
       have Ja:=al ((cC.block _ (zA (ab mG)).1).trans (ab mG))
       clear cC j' mG Jc c0 c1 c2 c3 y0 y1 y2 y3 y4 y5 y6
       obtain ⟨c0,c1,c2,c3⟩:=a8 (ab Ja)
       go_wp2
       go_roundg (ms.length-(i+1))
       case measure=>have:=ab bz;have:=ab bu;omega
       case rel=>exact ⟨i+1,by rw[ab E9,←ab IZ],by go_num,rfl,ab bu,HX,OS,Ja⟩
     ·obtain rfl:i=ms.length:=by omega
      rw[List.take_length]
      have sb:Hid ((es.all bc&&decide (N≤4096))=R):=by have h:=ab HA;rw[List.drop_length,List.all_nil,Bool.true_and] at h;exact h
      clear HA
      obtain ⟨T',iv⟩:∃x,x=wr:=⟨_,rfl⟩
      subst iv
      go_wp2
      go_loopg [4,6] es.length (fun gk v4 v6 wr=>∃(i:Nat),v4=.int .i64 ((is.length+bE (cO 32) ms+bE kh (es.take i):Nat):Int)∧v6=.int .i64 (i:Int)∧gk=es.length-i∧i≤es.length∧Hid (((es.drop i).all bc&&decide (N≤4096))=R)∧Hid (Below w0.heap.size w0 wr)∧Hid (wr.heap[w0.heap.size]?=some (.cells #[.string pk,.slice ai is.length ci,.slice am ms.length dh,.slice ae es.length dc] 26 (0,0))))
      case atStart=>exact ⟨0,rfl,rfl,rfl,by omega,ab sb,ab iE,ab j9⟩
      case round =>
       obtain ⟨i,rfl,rfl,aU,eO,HA,cM,iC⟩:=hrel
       have bz:=al aU
       clear aU sb iE j9
       obtain ⟨c0,c1,c2,c3⟩:=a8 (ab iC)
       by_cases aM:i<es.length
       ·have aS:Below W.heap.size W wr:=(ab HW).trans ((ab cM).mono (ab HW).size)
        obtain ⟨g,o,rfl,hg,hc⟩:=ab vI (by omega)
        have hl:=List.getElem?_eq_getElem aM
        obtain ⟨t,ht⟩:∃d,es[i]=d:=⟨_,rfl⟩
        rw[ht] at hl
        obtain ⟨vv,Ba,Bc,dQ,rv,rr,rg⟩:=(ab vK).at i t hl
        have gP:=al (And.intro rv (And.intro rr rg))
        obtain ⟨av,cv,rfl,-,-⟩:=rv
        obtain ⟨qQ,qN,rfl,-,-⟩:=rr
        obtain ⟨qR,qP,rfl,-,-⟩:=rg
        have key:∀(j:Nat) (x:Value),[Value.string t.name,.slice av t.aQ.length cv,.slice qQ t.res.length qN,.slice qR t.gone.length qP][j]?=some x→wr.cell? ⟨g,o+(i*4+j),none⟩=some x:=fun j x hx=>(aS.cell (p:=⟨g,o+(i*4+j),none⟩) hg).trans (hc _ _ (by
         rw[←dQ,List.getElem?_take,List.getElem?_drop] at hx
         split at hx
         ·exact hx
         ·cases hx))
        have x0:wr.cell? ⟨g,o+i*4,none⟩=_:=key 0 _ rfl
        have x1:wr.cell? ⟨g,o+i*4+1,none⟩=_:=key 1 _ rfl
        have x2:wr.cell? ⟨g,o+i*4+2,none⟩=_:=key 2 _ rfl
        have x3:wr.cell? ⟨g,o+i*4+3,none⟩=_:=key 3 _ rfl
        clear hc ht key dQ
        have r9:Hid (g<wr.heap.size):=Nat.lt_of_lt_of_le hg aS.size
        obtain ⟨q,hq⟩:∃q,bc t=q:=⟨_,rfl⟩
        have HS:Hid ((q&&((es.drop (i+1)).all bc&&decide (N≤4096)))=R):=by have:=ab HA;rw[ei hl,hq,Bool.and_assoc] at this;exact this
        have ff:=gS kh hl
        have hle:=kV kh es (i+1)
        have HC:=al (pt (ab gP).1 (ab gP).2.1 (ab gP).2.2 wr aS)
        have HD:=al (fun w2 (_:Below wr.heap.size wr w2) (_:q=true)=>lW (ab gP).1 (ab gP).2.1 (ab gP).2.2 w2)
        rw[hq] at HC
        obtain ⟨u,hu⟩:∃u,kh t=u:=⟨_,rfl⟩
        rw[hu] at HD ff
        obtain ⟨z,hz⟩:∃z,is.length+bE (cO 32) ms+bE kh (es.take i)=z:=⟨_,rfl⟩
        obtain ⟨z2,dY⟩:∃z,is.length+bE (cO 32) ms+bE kh (es.take (i+1))=z:=⟨_,rfl⟩
        have zb:z2≤1099511627776:=by have:=ab HT;omega
        have IZ:=al (show ((z:Int)+(u:Int))=(z2:Int) by omega)
        rw[hz]
        have E9:=al dY
        have i0:(0:Int)≤(i:Int):=zH _
        have i1:(i:Int)<(es.length:Int):=by omega
        have bu:=al aM
        have zl:z≤1099511627776:=by omega
        have ul:u≤1099511627776:=by omega
        clear hl aS aM gP ff hle hu hz dY HA hq
        go_wp2_with fail
        refine (ab HC).mono ?_
        rintro e w2 ⟨rfl,bd⟩
        have j':=al ((ab cM).trans (bd.mono (ab cM).size))
        have mG:=al ((bd.block _ (zA (ab iC)).1).trans (ab iC))
        have y0:=(bd.cell (p:=⟨g,o+i*4,none⟩) (ab r9)).trans x0
        have y1:=(bd.cell (p:=⟨g,o+i*4+1,none⟩) (ab r9)).trans x1
        have y2:=(bd.cell (p:=⟨g,o+i*4+2,none⟩) (ab r9)).trans x2
        have y3:=(bd.cell (p:=⟨g,o+i*4+3,none⟩) (ab r9)).trans x3
        have CC:=al (ab HD w2 bd)
        clear bd cM iC HC HD c0 c1 c2 c3 x0 x1 x2 x3
        obtain ⟨c0,c1,c2,c3⟩:=a8 (ab mG)
        cases q with
        |false =>
         have HX:Hid (R=false):=by show R=_;rw[←ab HS];rfl
         clear HS CC
         go_wp2
         go_ret
         exact ⟨by rw[ab HX];rfl,ab j'⟩
        |true =>
         have HX:Hid (((es.drop (i+1)).all bc&&decide (N≤4096))=R):=by have:=ab HS;rw[Bool.true_and] at this;exact this
         have Jc:=al (ab CC (by trivial))
         clear HS CC
         go_wp2_with fail
         refine (ab Jc).mono ?_
         rintro e w3 ⟨rfl,cC⟩
         have OS:=al ((ab j').trans (cC.mono (ab j').size))
         have Ja:=al ((cC.block _ (zA (ab mG)).1).trans (ab mG))
         clear cC j' mG Jc c0 c1 c2 c3 y0 y1 y2 y3
         obtain ⟨c0,c1,c2,c3⟩:=a8 (ab Ja)
         go_wp2
         go_roundg (es.length-(i+1))
         case measure=>have:=ab bz;have:=ab bu;omega
         case rel=>exact ⟨i+1,by rw[ab E9,←ab IZ],by go_num,rfl,ab bu,HX,OS,Ja⟩
       ·obtain rfl:i=es.length:=by omega
        rw[List.take_length]
        have HX:Hid (decide (N≤4096)=R):=by have h:=ab HA;rw[List.drop_length,List.all_nil,Bool.true_and] at h;exact h
        obtain ⟨N',NL⟩:∃n,is.length+bE (cO 32) ms+bE kh es=n:=⟨_,rfl⟩
        rw[NL]
        have Wm:N'=N:=NL.symm.trans (ab HN)
        clear HA NL
        subst Wm
        have I5:Hid (decide ((N':Int)≤4096)=R):=by show _=R;rw[←ab HX];exact decide_eq_decide.2 (by omega)
        clear HX
        go_wp2
        go_ret
        exact ⟨by rw[←ab I5];rfl,ab cM⟩
 |false =>
  cases q2 with
  |false =>
   have HX:Hid (R=false):=by show R=_;rw[←ab HR];rfl
   clear HR
   go_enter Tryz.func25,Tryz.ntmps25
   go_wp2_with fail
   refine (ab SJ).mono ?_
   rintro e w ⟨rfl,rfl⟩
   go_wp2
   go_ret
   exact ⟨by rw[ab HX];rfl,ab HB⟩
  |true =>
   have SE:Hid ((is.all dk&&(ms.all (gV 32)&&(es.all bc&&decide (N≤4096))))=R):=by have h:=ab HR;rw[Bool.or_true,Bool.true_and] at h;exact h
   clear HR
   go_enter Tryz.func25,Tryz.ntmps25
   go_wp2_with fail
   refine (ab SJ).mono ?_
   rintro e w ⟨rfl,rfl⟩
   clear SJ
   go_wp2
   go_loopg [3] is.length (fun gk v3 wr=>∃(i:Nat),v3=.int .i64 (i:Int)∧gk=is.length-i∧i≤is.length∧wr=w∧Hid (((is.drop i).all dk&&(ms.all (gV 32)&&(es.all bc&&decide (N≤4096))))=R))
   case atStart=>exact ⟨0,rfl,rfl,by omega,rfl,ab SE⟩
   case round =>
    obtain ⟨i,rfl,aU,eO,rfl,HA⟩:=hrel
    have bz:=al aU
    clear aU SE
    by_cases aM:i<is.length
    ·have aS:Below W.heap.size W wr:=(ab HW).trans ((ab HB).mono (ab HW).size)
     obtain ⟨g,o,rfl,hg,hc⟩:=ab Lu (by omega)
     have hl:=List.getElem?_eq_getElem aM
     obtain ⟨s,hs⟩:∃d,is[i]=d:=⟨_,rfl⟩
     rw[hs] at hl
     have x0:=(aS.cell (p:=⟨g,o+i,none⟩) hg).trans (hc _ _ (dO hl))
     clear hc hs
     obtain ⟨q,hq⟩:∃q,dk s=q:=⟨_,rfl⟩
     have HS:Hid ((q&&((is.drop (i+1)).all dk&&(ms.all (gV 32)&&(es.all bc&&decide (N≤4096)))))=R):=by have:=ab HA;rw[ei hl,hq,Bool.and_assoc] at this;exact this
     have HI:Hid (q=(decide ((1:Int)≤(s.size:Int))&&decide ((s.size:Int)≤255))):=hq.symm
     have i0:(0:Int)≤(i:Int):=zH _
     have i1:(i:Int)<(is.length:Int):=by omega
     have bu:=al aM
     clear hl aS aM HA hq
     by_cases z0:s.size=0
     ·have e0:((s.size:Int)==0)=true:=beq_iff_eq.2 (by omega)
      have HX:Hid (R=false):=by show R=_;rw[←ab HS,ab HI,decide_eq_false (by omega)];rfl
      clear HS HI z0
      go_wp2
      go_ret
      exact ⟨by rw[ab HX];rfl,ab HB⟩
     ·have e0:((s.size:Int)==0)=false:=beq_eq_false_iff_ne.2 (by omega)
      by_cases z1:s.size≤255
      ·have e1:decide ((255:Int)<(s.size:Int))=false:=decide_eq_false (by omega)
       have HX:Hid (((is.drop (i+1)).all dk&&(ms.all (gV 32)&&(es.all bc&&decide (N≤4096))))=R):=by show _=R;rw[←ab HS,ab HI,decide_eq_true (show (1:Int)≤(s.size:Int) by omega),decide_eq_true (show (s.size:Int)≤255 by omega)];rfl
       clear HS HI z0 z1
       go_wp2
       go_roundg (is.length-(i+1))
       case measure=>have:=ab bz;have:=ab bu;omega
       case rel=>exact ⟨i+1,by go_num,rfl,ab bu,rfl,HX⟩
      ·have e1:decide ((255:Int)<(s.size:Int))=true:=decide_eq_true (by omega)
       have HX:Hid (R=false):=by show R=_;rw[←ab HS,ab HI,decide_eq_false (show ¬(s.size:Int)≤255 by omega),Bool.and_false];rfl
       clear HS HI z0 z1
       go_wp2
       go_ret
       exact ⟨by rw[ab HX];rfl,ab HB⟩
    ·obtain rfl:i=is.length:=by omega
     have AM:Hid ((ms.all (gV 32)&&(es.all bc&&decide (N≤4096)))=R):=by have h:=ab HA;rw[List.drop_length,List.all_nil,Bool.true_and] at h;exact h
     clear HA
     obtain ⟨wo,iv⟩:∃x,x=wr:=⟨_,rfl⟩
     subst iv
     go_wp2
     go_loopg [4,5] ms.length (fun gk v4 v5 wr=>∃(i:Nat),v4=.int .i64 ((is.length+bE (cO 32) (ms.take i):Nat):Int)∧v5=.int .i64 (i:Int)∧gk=ms.length-i∧i≤ms.length∧Hid (((ms.drop i).all (gV 32)&&(es.all bc&&decide (N≤4096)))=R)∧Hid (Below w0.heap.size w0 wr)∧Hid (wr.heap[w0.heap.size]?=some (.cells #[.string pk,.slice ai is.length ci,.slice am ms.length dh,.slice ae es.length dc] 26 (0,0))))
     case atStart=>exact ⟨0,rfl,rfl,rfl,by omega,ab AM,ab HB,ab HK⟩
     case round =>
      obtain ⟨i,rfl,rfl,aU,eO,HA,iE,j9⟩:=hrel
      have bz:=al aU
      clear aU AM HB HK
      obtain ⟨c0,c1,c2,c3⟩:=a8 (ab j9)
      by_cases aM:i<ms.length
      ·have aS:Below W.heap.size W wr:=(ab HW).trans ((ab iE).mono (ab HW).size)
       obtain ⟨g,o,rfl,hg,hc⟩:=ab vH (by omega)
       have hl:=List.getElem?_eq_getElem aM
       obtain ⟨t,ht⟩:∃d,ms[i]=d:=⟨_,rfl⟩
       rw[ht] at hl
       obtain ⟨My,Mx,OY,Mz,Ba,Bc,xw,Dt,C8,qH,wM,CZ,Dr,Ix,Jv,dQ,fO⟩:=(ab vJ).at i t hl
       have gP:=al fO
       obtain ⟨E5,EY,rfl,-,-⟩:=fO.hf
       obtain ⟨DE,DB,rfl,-,-⟩:=fO.ho
       obtain ⟨AE,mc,rfl,-,-⟩:=fO.hm
       obtain ⟨E6,pM,rfl,-,-⟩:=fO.he
       obtain ⟨qQ,qN,rfl,-,-⟩:=fO.hr
       obtain ⟨qR,qP,rfl,-,-⟩:=fO.hg
       have key:∀(j:Nat) (x:Value),[Value.string xw,.slice E5 Dt.length EY,.slice DE C8.length DB,.slice AE qH.length mc,.slice E6 wM.length pM,.slice qQ CZ.length qN,.slice qR Dr.length qP][j]?=some x→wr.cell? ⟨g,o+(i*7+j),none⟩=some x:=fun j x hx=>(aS.cell (p:=⟨g,o+(i*7+j),none⟩) hg).trans (hc _ _ (by
        rw[←dQ,List.getElem?_take,List.getElem?_drop] at hx
        split at hx
        ·exact hx
        ·cases hx))
       have x0:wr.cell? ⟨g,o+i*7,none⟩=_:=key 0 _ rfl
       have x1:wr.cell? ⟨g,o+i*7+1,none⟩=_:=key 1 _ rfl
       have x2:wr.cell? ⟨g,o+i*7+2,none⟩=_:=key 2 _ rfl
       have x3:wr.cell? ⟨g,o+i*7+3,none⟩=_:=key 3 _ rfl
       have x4:wr.cell? ⟨g,o+i*7+4,none⟩=_:=key 4 _ rfl
       have x5:wr.cell? ⟨g,o+i*7+5,none⟩=_:=key 5 _ rfl
       have x6:wr.cell? ⟨g,o+i*7+6,none⟩=_:=key 6 _ rfl
       clear hc ht key dQ
       have r9:Hid (g<wr.heap.size):=Nat.lt_of_lt_of_le hg aS.size
       obtain ⟨q,hq⟩:∃q,(gV 32) t=q:=⟨_,rfl⟩
       have HS:Hid ((q&&((ms.drop (i+1)).all (gV 32)&&(es.all bc&&decide (N≤4096))))=R):=by have:=ab HA;rw[ei hl,hq,Bool.and_assoc] at this;exact this
       have ff:=gS (cO 32) hl
       have hle:=kV (cO 32) ms (i+1)
       have HC:=al (ab Mm W t _ _ _ _ _ _ _ _ _ _ _ _ _ _ _ (ab gP) wr aS)
       have HD:Hid (∀w2,Below wr.heap.size wr w2→q=true→Calls Tryz.prog 52 #[.agg #[.string xw,.slice E5 Dt.length EY,.slice DE C8.length DB,.slice AE qH.length mc,.slice E6 wM.length pM,.slice qQ CZ.length qN,.slice qR Dr.length qP]] w2 fun e w=>e=.returned (.int .i64 (cO 32 t:Int))∧Below w2.heap.size w2 w):=fun w2 hb Ew=>jG 32 W t _ _ _ _ _ _ _ _ _ _ _ _ _ _ _ (ab gP) (Ge 32 t (hq.trans Ew)) (by have:=ab HT;have:=tp (cO 32) hl;omega) w2 (aS.trans (hb.mono aS.size))
       rw[hq] at HC
       obtain ⟨u,hu⟩:∃u,(cO 32) t=u:=⟨_,rfl⟩
       rw[hu] at HD ff
       obtain ⟨z,hz⟩:∃z,is.length+bE (cO 32) (ms.take i)=z:=⟨_,rfl⟩
       obtain ⟨z2,dY⟩:∃z,is.length+bE (cO 32) (ms.take (i+1))=z:=⟨_,rfl⟩
       have zb:z2≤1099511627776:=by have:=ab HT;omega
       have IZ:=al (show ((z:Int)+(u:Int))=(z2:Int) by omega)
       rw[hz]
       have E9:=al dY
       have i0:(0:Int)≤(i:Int):=zH _
       have i1:(i:Int)<(ms.length:Int):=by omega
       have bu:=al aM
       have zl:z≤1099511627776:=by omega
       have ul:u≤1099511627776:=by omega
       clear hl aS aM gP ff hle hu hz dY HA hq
       go_wp2_with fail
       refine (ab HC).mono ?_
       rintro e w2 ⟨rfl,bd⟩
       have j':=al ((ab iE).trans (bd.mono (ab iE).size))
       have mG:=al ((bd.block _ (zA (ab j9)).1).trans (ab j9))
       have y0:=(bd.cell (p:=⟨g,o+i*7,none⟩) (ab r9)).trans x0
       have y1:=(bd.cell (p:=⟨g,o+i*7+1,none⟩) (ab r9)).trans x1
       have y2:=(bd.cell (p:=⟨g,o+i*7+2,none⟩) (ab r9)).trans x2
       have y3:=(bd.cell (p:=⟨g,o+i*7+3,none⟩) (ab r9)).trans x3
       have y4:=(bd.cell (p:=⟨g,o+i*7+4,none⟩) (ab r9)).trans x4
       have y5:=(bd.cell (p:=⟨g,o+i*7+5,none⟩) (ab r9)).trans x5
       have y6:=(bd.cell (p:=⟨g,o+i*7+6,none⟩) (ab r9)).trans x6
       have CC:=al (ab HD w2 bd)
       clear bd iE j9 HC HD c0 c1 c2 c3 x0 x1 x2 x3 x4 x5 x6
       obtain ⟨c0,c1,c2,c3⟩:=a8 (ab mG)
       cases q with
       |false =>
        have HX:Hid (R=false):=by show R=_;rw[←ab HS];rfl
        clear HS CC
        go_wp2
        go_ret
        exact ⟨by rw[ab HX];rfl,ab j'⟩
       |true =>
        have HX:Hid (((ms.drop (i+1)).all (gV 32)&&(es.all bc&&decide (N≤4096)))=R):=by have:=ab HS;rw[Bool.true_and] at this;exact this
        have Jc:=al (ab CC (by trivial))
        clear HS CC
        go_wp2_with fail
        refine (ab Jc).mono ?_
        rintro e w3 ⟨rfl,cC⟩
        have OS:=al ((ab j').trans (cC.mono (ab j').size))
        have Ja:=al ((cC.block _ (zA (ab mG)).1).trans (ab mG))
        clear cC j' mG Jc c0 c1 c2 c3 y0 y1 y2 y3 y4 y5 y6
        obtain ⟨c0,c1,c2,c3⟩:=a8 (ab Ja)
        go_wp2
        go_roundg (ms.length-(i+1))
        case measure=>have:=ab bz;have:=ab bu;omega
        case rel=>exact ⟨i+1,by rw[ab E9,←ab IZ],by go_num,rfl,ab bu,HX,OS,Ja⟩
      ·obtain rfl:i=ms.length:=by omega
       rw[List.take_length]
       have sb:Hid ((es.all bc&&decide (N≤4096))=R):=by have h:=ab HA;rw[List.drop_length,List.all_nil,Bool.true_and] at h;exact h
       clear HA
       obtain ⟨T',iv⟩:∃x,x=wr:=⟨_,rfl⟩
       subst iv
       go_wp2
       go_loopg [4,6] es.length (fun gk v4 v6 wr=>∃(i:Nat),v4=.int .i64 ((is.length+bE (cO 32) ms+bE kh (es.take i):Nat):Int)∧v6=.int .i64 (i:Int)∧gk=es.length-i∧i≤es.length∧Hid (((es.drop i).all bc&&decide (N≤4096))=R)∧Hid (Below w0.heap.size w0 wr)∧Hid (wr.heap[w0.heap.size]?=some (.cells #[.string pk,.slice ai is.length ci,.slice am ms.length dh,.slice ae es.length dc] 26 (0,0))))
       case atStart=>exact ⟨0,rfl,rfl,rfl,by omega,ab sb,ab iE,ab j9⟩
       case round =>
        obtain ⟨i,rfl,rfl,aU,eO,HA,cM,iC⟩:=hrel
        have bz:=al aU
        clear aU sb iE j9
        obtain ⟨c0,c1,c2,c3⟩:=a8 (ab iC)
        by_cases aM:i<es.length
        ·have aS:Below W.heap.size W wr:=(ab HW).trans ((ab cM).mono (ab HW).size)
         obtain ⟨g,o,rfl,hg,hc⟩:=ab vI (by omega)
         have hl:=List.getElem?_eq_getElem aM
         obtain ⟨t,ht⟩:∃d,es[i]=d:=⟨_,rfl⟩
         rw[ht] at hl
         obtain ⟨vv,Ba,Bc,dQ,rv,rr,rg⟩:=(ab vK).at i t hl
         have gP:=al (And.intro rv (And.intro rr rg))
         obtain ⟨av,cv,rfl,-,-⟩:=rv
         obtain ⟨qQ,qN,rfl,-,-⟩:=rr
         obtain ⟨qR,qP,rfl,-,-⟩:=rg
         have key:∀(j:Nat) (x:Value),[Value.string t.name,.slice av t.aQ.length cv,.slice qQ t.res.length qN,.slice qR t.gone.length qP][j]?=some x→wr.cell? ⟨g,o+(i*4+j),none⟩=some x:=fun j x hx=>(aS.cell (p:=⟨g,o+(i*4+j),none⟩) hg).trans (hc _ _ (by
          rw[←dQ,List.getElem?_take,List.getElem?_drop] at hx
          split at hx
          ·exact hx
          ·cases hx))
         have x0:wr.cell? ⟨g,o+i*4,none⟩=_:=key 0 _ rfl
         have x1:wr.cell? ⟨g,o+i*4+1,none⟩=_:=key 1 _ rfl
         have x2:wr.cell? ⟨g,o+i*4+2,none⟩=_:=key 2 _ rfl
         have x3:wr.cell? ⟨g,o+i*4+3,none⟩=_:=key 3 _ rfl
         clear hc ht key dQ
         have r9:Hid (g<wr.heap.size):=Nat.lt_of_lt_of_le hg aS.size
         obtain ⟨q,hq⟩:∃q,bc t=q:=⟨_,rfl⟩
         have HS:Hid ((q&&((es.drop (i+1)).all bc&&decide (N≤4096)))=R):=by have:=ab HA;rw[ei hl,hq,Bool.and_assoc] at this;exact this
         have ff:=gS kh hl
         have hle:=kV kh es (i+1)
         have HC:=al (pt (ab gP).1 (ab gP).2.1 (ab gP).2.2 wr aS)
         have HD:=al (fun w2 (_:Below wr.heap.size wr w2) (_:q=true)=>lW (ab gP).1 (ab gP).2.1 (ab gP).2.2 w2)
         rw[hq] at HC
         obtain ⟨u,hu⟩:∃u,kh t=u:=⟨_,rfl⟩
         rw[hu] at HD ff
         obtain ⟨z,hz⟩:∃z,is.length+bE (cO 32) ms+bE kh (es.take i)=z:=⟨_,rfl⟩
         obtain ⟨z2,dY⟩:∃z,is.length+bE (cO 32) ms+bE kh (es.take (i+1))=z:=⟨_,rfl⟩
         have zb:z2≤1099511627776:=by have:=ab HT;omega
         have IZ:=al (show ((z:Int)+(u:Int))=(z2:Int) by omega)
         rw[hz]
         have E9:=al dY
         have i0:(0:Int)≤(i:Int):=zH _
         have i1:(i:Int)<(es.length:Int):=by omega
         have bu:=al aM
         have zl:z≤1099511627776:=by omega
         have ul:u≤1099511627776:=by omega
         clear hl aS aM gP ff hle hu hz dY HA hq
         go_wp2_with fail
         refine (ab HC).mono ?_
         rintro e w2 ⟨rfl,bd⟩
         have j':=al ((ab cM).trans (bd.mono (ab cM).size))
         have mG:=al ((bd.block _ (zA (ab iC)).1).trans (ab iC))
         have y0:=(bd.cell (p:=⟨g,o+i*4,none⟩) (ab r9)).trans x0
         have y1:=(bd.cell (p:=⟨g,o+i*4+1,none⟩) (ab r9)).trans x1
         have y2:=(bd.cell (p:=⟨g,o+i*4+2,none⟩) (ab r9)).trans x2
         have y3:=(bd.cell (p:=⟨g,o+i*4+3,none⟩) (ab r9)).trans x3
         have CC:=al (ab HD w2 bd)
         clear bd cM iC HC HD c0 c1 c2 c3 x0 x1 x2 x3
         obtain ⟨c0,c1,c2,c3⟩:=a8 (ab mG)
         cases q with
         |false =>
          have HX:Hid (R=false):=by show R=_;rw[←ab HS];rfl
          clear HS CC
          go_wp2
          go_ret
          exact ⟨by rw[ab HX];rfl,ab j'⟩
         |true =>
          have HX:Hid (((es.drop (i+1)).all bc&&decide (N≤4096))=R):=by have:=ab HS;rw[Bool.true_and] at this;exact this
          have Jc:=al (ab CC (by trivial))
          clear HS CC
          go_wp2_with fail
          refine (ab Jc).mono ?_
          rintro e w3 ⟨rfl,cC⟩
          have OS:=al ((ab j').trans (cC.mono (ab j').size))
          have Ja:=al ((cC.block _ (zA (ab mG)).1).trans (ab mG))
          clear cC j' mG Jc c0 c1 c2 c3 y0 y1 y2 y3
          obtain ⟨c0,c1,c2,c3⟩:=a8 (ab Ja)
          go_wp2
          go_roundg (es.length-(i+1))
          case measure=>have:=ab bz;have:=ab bu;omega
          case rel=>exact ⟨i+1,by rw[ab E9,←ab IZ],by go_num,rfl,ab bu,HX,OS,Ja⟩
        ·obtain rfl:i=es.length:=by omega
         rw[List.take_length]
         have HX:Hid (decide (N≤4096)=R):=by have h:=ab HA;rw[List.drop_length,List.all_nil,Bool.true_and] at h;exact h
         obtain ⟨N',NL⟩:∃n,is.length+bE (cO 32) ms+bE kh es=n:=⟨_,rfl⟩
         rw[NL]
         have Wm:N'=N:=NL.symm.trans (ab HN)
         clear HA NL
         subst Wm
         have I5:Hid (decide ((N':Int)≤4096)=R):=by show _=R;rw[←ab HX];exact decide_eq_decide.2 (by omega)
         clear HX
         go_wp2
         go_ret
         exact ⟨by rw[←ab I5];rfl,ab cM⟩
end Go.Proofs.YtichhjfjcinjgaaGreatDoor
