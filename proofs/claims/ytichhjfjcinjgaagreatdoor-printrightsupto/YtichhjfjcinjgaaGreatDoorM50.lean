import Derived.Test.YtichhjfjcinjgaaGreatDoorM39
import Derived.Test.YtichhjfjcinjgaaGreatDoorYDp
import Derived.Test.YtichhjfjcinjgaaGreatDoorM49
set_option maxHeartbeats 16000000
set_option maxRecDepth 100000
namespace Go.Proofs.YtichhjfjcinjgaaGreatDoor
open Go.RowKit
attribute [local go_sem ↓] Go.wp_at_zero Go.wp_at_succ
theorem Af (s:ByteArray):aV 0 [⟨#[105,109,112,111,114,116,32]⟩++bA s++⟨#[59]⟩]=aV 0 [kY,bA s,bC]:=by
 unfold aV kY bC
 simp[ku]
theorem Gw (s:ByteArray):aV 0 [⟨#[112,97,99,107,97,103,101,32]⟩++s++⟨#[59]⟩]=aV 0 [kv,s,bC]:=by
 unfold aV kv bC
 simp[ku]
theorem Ei {W:World}{v vi vm ve:Value}{F:Fl}{cm ce:List Value} (hF:iG W) (qD:yH W v F vi vm ve cm ce) (ht:mf F≤1099511627776) :
  Calls Tryz.prog 12 #[v] W fun e w=>e=.returned (.tuple #[.string (il F).1,.int .i64 (il F).2])∧Below W.heap.size W w:=by
 have Wz:=Ek qD ht
 obtain ⟨pk,is,ms,es⟩:=F
 obtain ⟨rfl,hi,hm,et,he,fv⟩:=qD
 simp only at hi hm et he fv Wz ⊢
 obtain ⟨ai,ci,rfl,Ru,li⟩:=hi
 obtain ⟨am,dh,rfl,H4,lm⟩:=hm
 obtain ⟨ae,da,rfl,iI,le⟩:=he
 have LG:=al li
 have vO:=al lm
 have vP:=al le
 have vQ:=al et
 have vR:=al fv
 have k0:=aK W (.cells #[.string pk,.slice ai is.length ci,.slice am ms.length dh,.slice ae es.length da] 26)
 have bG:Below W.heap.size W (W.alloc (.cells #[.string pk,.slice ai is.length ci,.slice am ms.length dh,.slice ae es.length da] 26)):=(zE _ _).alloc (zD _) _
 have NS:W.heap.size<(W.alloc (.cells #[.string pk,.slice ai is.length ci,.slice am ms.length dh,.slice ae es.length da] 26)).heap.size:=by rw[zJ];omega
 obtain ⟨V,hV⟩:∃V,W.alloc (.cells #[.string pk,.slice ai is.length ci,.slice am ms.length dh,.slice ae es.length da] 26)=V:=⟨_,rfl⟩
 rw[hV] at k0 bG NS
 have Qg:=al (Wz V bG)
 obtain ⟨c0,c1,c2,c3⟩:=a8 k0
 rw[←Cy] at Qg
 have HB:=al bG
 have HK:=al k0
 have OR:=al NS
 have HF:=al hF
 obtain ⟨⟨R1,R2⟩,hR⟩:∃R,il ⟨pk,is,ms,es⟩=R:=⟨_,rfl⟩
 rw[hR]
 simp only
 have HR:=al hR
 unfold il at HR
 obtain ⟨q,hq⟩:∃q,(lD ⟨pk,is,ms,es⟩).isSome=q:=⟨_,rfl⟩
 rw[hq] at Qg HR
 have Hq:=al hq
 clear Wz bG k0 NS et fv li lm le hF hq ht hR
 cases q with
 |false =>
  have Fq:Hid (R1=⟨#[]⟩∧R2=60):=by have h:=ab HR;rw[if_neg Bool.false_ne_true] at h;cases h;exact ⟨rfl,rfl⟩
  go_enter Tryz.func12,Tryz.ntmps12
  go_wp2_with fail
  refine (ab Qg).mono ?_
  rintro e w1 ⟨rfl,aW⟩
  have HE:=al ((ab HB).trans (aW.mono (ab HB).size))
  clear aW Qg HB
  go_wp2
  go_ret2
  rw[(ab Fq).1,(ab Fq).2]
  exact ⟨rfl,ab HE⟩
 |true =>
  have VO:=ab HR
  rw[if_pos rfl] at VO
  clear HR
  have HR:=al VO
  clear VO
  obtain ⟨Ri,d1,d2,d3,d4,d5⟩:=wM (ab Hq)
  have Hiz:Hid (∀s ∈ is,s.size≤1048576):=d2
  have XQ:Hid (∀m ∈ ms,JH 32 m):=d3
  have XR:Hid (∀e ∈ es,I7 e):=d4
  have My:Hid (∀m ∈ ms,OC 32 m):=Ri.ms
  have Xy:Hid (∀e ∈ es,e.name.size≤255∧∀v ∈ e.aQ,v.1.size≤255):=fun e he=>by
   have h1:=Ri.es e he
   unfold bc at h1
   simp only[Bool.and_eq_true] at h1
   refine ⟨dE h1.1.1.1.1,fun v hv=>?_⟩
   have h2:=List.all_eq_true.1 h1.1.1.2 v hv
   unfold eB at h2
   simp only[Bool.and_eq_true] at h2
   exact dE h2.1.1.1
  have HLf:=al d5
  obtain ⟨LA,Wu⟩:∃X,[]++aV 0 [⟨#[115,121,110,116,97,120,32,61,32,34,112,114,111,116,111,51,34,59]⟩]=X:=⟨_,rfl⟩
  obtain ⟨LB,K6⟩:∃X,LA++lH pk=X:=⟨_,rfl⟩
  have Wb:fB ⟨pk,is,ms,es⟩=LB++is.flatMap ew++ms.flatMap (fun m=>cn 0 aL m.nm (cj 32 (0+1) m))++es.flatMap (jB 0):=by
   rw[←K6,←Wu,List.nil_append]
   unfold fB pF
   simp only[List.append_assoc]
   rfl
  have PC:=d5
  rw[Wb,zK,zK,zK] at PC
  have HL:Hid (LB.length+(is.flatMap ew).length+(ms.flatMap (fun m=>cn 0 aL m.nm (cj 32 (0+1) m))).length+(es.flatMap (jB 0)).length≤1099511627776):=PC
  have DX:=al Wb
  have HLA:=al Wu
  have T3:=al K6
  have fF:LB.length=LA.length+(lH pk).length:=by rw[←K6,zK]
  have dR:LA.length+(lH pk).length≤1099511627776:=by omega
  have Hz1:=al dR
  clear fF dR PC Wb Wu K6 Ri d1 d2 d3 d4 d5
  go_enter Tryz.func12,Tryz.ntmps12
  go_wp2_with fail
  refine (ab Qg).mono ?_
  rintro e w1 ⟨rfl,aW⟩
  have NR:=(ab HB).trans (aW.mono (ab HB).size)
  have lQ:=(aW.block _ (ab OR)).trans (ab HK)
  have kp:=aK w1 (.cells #[.slice none 0 0] 60)
  have bp:Below w1.heap.size w1 (w1.alloc (.cells #[.slice none 0 0] 60)):=(zE _ _).alloc (zD _) _
  obtain ⟨P,hP⟩:∃P,w1.alloc (.cells #[.slice none 0 0] 60)=P:=⟨_,rfl⟩
  rw[hP] at kp bp
  have KP:W.heap.size<w1.heap.size:=Nat.lt_of_lt_of_le (ab OR) aW.size
  have aaB:=al KP
  have lI:=(bp.block _ KP).trans lQ
  have ZH:Pg W w1.heap.size [] (.slice none 0 0) P:=⟨NR.trans (bp.mono NR.size),Nat.le_of_lt KP,kp,World.ownsRow_nil _ _ _ _⟩
  have OG:Hid (W.heap.size≠w1.heap.size):=by show _≠_;omega
  have hG:=df ZH 0 ⟨#[115,121,110,116,97,120,32,61,32,34,112,114,111,116,111,51,34,59]⟩ (by omega) (by decide)
  rw[ab HLA] at hG
  have HG:=al hG
  have fD:=al lI
  obtain ⟨pg,hpg⟩:∃b,w1.heap.size=b:=⟨_,rfl⟩
  rw[hpg] at HG OG
  have yD:=OG
  clear aW NR lQ kp bp KP lI ZH hG Qg OG HK HB OR
  go_wp2_with fail
  refine (ab HG).mono ?_
  rintro e w2 ⟨rfl,lK,lI⟩
  have cR:=al (lI _ _ _ _ (ab yD) (ab fD) (by decide))
  have fC:=al lK
  clear lK lI HG fD c0 c1 c2 c3
  obtain ⟨c0,c1,c2,c3⟩:=a8 (ab cR)
  go_upto_if 20 with fail
  go_cut [20] (fun _ wx=>Hid (∃v,Pg W pg LB v wx)∧Hid (wx.heap[W.heap.size]?=some (.cells #[.string pk,.slice ai is.length ci,.slice am ms.length dh,.slice ae es.length da] 26 (0,0))))
  case first =>
   obtain ⟨q1,tX⟩:∃q,pk.toList.isEmpty=q:=⟨_,rfl⟩
   cases q1 with
   |true =>
    have HX:Hid (LB=LA):=by show _=_;rw[←ab T3];unfold lH;rw[if_pos tX,List.append_nil]
    rw[tX]
    clear tX
    go_wp2_with fail
    go_meet
    exact ⟨by show ∃_,_;rw[ab HX];exact ab fC,cR⟩
   |false =>
    have EK:lH pk=aV 0 [⟨#[112,97,99,107,97,103,101,32]⟩++pk++⟨#[59]⟩]:=by rw[Gw];unfold lH;rw[if_neg (by rw[tX];exact Bool.false_ne_true)]
    obtain ⟨u2,lK⟩:=ab fC
    have hz:=ab Hz1
    rw[EK,dT] at hz
    have hG:=df lK 0 (⟨#[112,97,99,107,97,103,101,32]⟩++pk++⟨#[59]⟩) (by omega) (by omega)
    rw[←EK,ab T3] at hG
    have HG:=al hG
    rw[ByteArray.size_append,ByteArray.size_append] at hz
    have zp:pk.size≤1099511627776:=by omega
    have zp2:((⟨#[112,97,99,107,97,103,101,32]⟩:ByteArray)++pk).size≤1099511627776:=by rw[ByteArray.size_append];omega
    rw[tX]
    clear hz hG EK lK tX
    go_wp2_with fail
    refine (ab HG).mono ?_
    rintro e w3 ⟨rfl,Dy,sx⟩
    have ed:=al (sx _ _ _ _ (ab yD) (ab cR) (by decide))
    have pb:=al Dy
    clear Dy sx HG
    go_wp2_with fail
    go_meet
    exact ⟨pb,ed⟩
  case rest =>
   obtain ⟨ph,sg⟩:=hcut
   clear c0 c1 c2 c3 fC cR
   obtain ⟨c0,c1,c2,c3⟩:=a8 (ab sg)
   go_wp2
   go_loopg [5] is.length (fun gk v5 wr=>∃(i:Nat),v5=.int .i64 (i:Int)∧gk=is.length-i∧i≤is.length∧Hid (∃v,Pg W pg (LB++(is.take i).flatMap (ew)) v wr)∧Hid (wr.heap[W.heap.size]?=some (.cells #[.string pk,.slice ai is.length ci,.slice am ms.length dh,.slice ae es.length da] 26 (0,0))))
   case atStart=>exact ⟨0,rfl,rfl,by omega,by show ∃_,_;rw[List.take_zero,List.flatMap_nil,List.append_nil];exact ab ph,sg⟩
   case round =>
    obtain ⟨i,rfl,aU,eS,HP,HB⟩:=hrel
    have bz:=al aU
    clear aU ph sg
    obtain ⟨c0,c1,c2,c3⟩:=a8 (ab HB)
    by_cases aM:i<is.length
    ·obtain ⟨up,xT⟩:=ab HP
     have aS:Below W.heap.size W wr:=xT.bW
     obtain ⟨g,o,rfl,hg,hc⟩:=ab LG (by omega)
     have hl:=List.getElem?_eq_getElem aM
     obtain ⟨s,hs⟩:∃d,is[i]=d:=⟨_,rfl⟩
     rw[hs] at hl
     have x0:=(aS.cell (p:=⟨g,o+i,none⟩) hg).trans (hc _ _ (dS hl))
     clear hc hs
     have cI:=List.mem_of_getElem? hl
     have Ba:LB++(is.take (i+1)).flatMap (ew)=LB++(is.take i).flatMap (ew)++ew s:=by rw[bL hl,List.flatMap_append];simp
     have j':=fx (ew) is (i+1)
     rw[bL hl,List.flatMap_append,zK,show [s].flatMap (ew)=ew s by simp] at j'
     have qA:(LB++(is.take i).flatMap (ew)).length+(ew s).length≤1099511627776:=by have:=ab HL;rw[zK];omega
     have hq:=ab Hiz s cI
     have HQ:=al (nw wr s hq)
     have zq:=tH hq
     have hil:(ew s).length=7+(bA s).size+1+1:=by unfold ew;rw[←Af,dT,ByteArray.size_append,ByteArray.size_append];have:(⟨#[105,109,112,111,114,116,32]⟩:ByteArray).size=7:=rfl;have:(⟨#[59]⟩:ByteArray).size=1:=rfl;omega
     have Tc:Hid (∀w4,Below wr.heap.size wr w4→Calls Tryz.prog 26 #[.pointer (some ⟨pg,0,none⟩),.int .i64 0,.string (⟨#[105,109,112,111,114,116,32]⟩++bA s++⟨#[59]⟩)] w4 (Lv W pg (LB++(is.take i).flatMap ew++ew s) w4)):=by
      intro w4 gT
      have hG:=df (xT.below gT) 0 (⟨#[105,109,112,111,114,116,32]⟩++bA s++⟨#[59]⟩) (by omega) (by rw[ByteArray.size_append,ByteArray.size_append];have:(⟨#[105,109,112,111,114,116,32]⟩:ByteArray).size=7:=rfl;have:(⟨#[59]⟩:ByteArray).size=1:=rfl;omega)
      rw[Af] at hG
      exact hG
     obtain ⟨Q,hQ⟩:∃Q,bA s=Q:=⟨_,rfl⟩
     rw[hQ] at zq Tc
     have HQ2:Hid (gr (34::jK s 0++[34])=Q):=hQ
     rw[ab HQ2] at HQ
     have z7:((⟨#[105,109,112,111,114,116,32]⟩:ByteArray)++Q).size≤4194400:=by rw[ByteArray.size_append];have:(⟨#[105,109,112,111,114,116,32]⟩:ByteArray).size=7:=rfl;omega
     clear hq hil hQ
     have th:=al Ba
     have i0:(0:Int)≤(i:Int):=zH _
     have i1:(i:Int)<(is.length:Int):=by omega
     have bu:=al aM
     clear hl aS aM cI Ba j' qA xT
     go_wp2_with fail
     refine (ab HQ).mono ?_
     rintro e w4 ⟨rfl,gT⟩
     have HC:=al (ab Tc w4 gT)
     have CN:=al ((gT.block _ (zA (ab HB)).1).trans (ab HB))
     clear gT Tc HQ
     go_wp2_with fail
     refine (ab HC).mono ?_
     rintro e w5 ⟨rfl,sy,jA⟩
     have lN:Hid (∃v,Pg W pg (LB++(is.take (i+1)).flatMap (ew)) v w5):=by show ∃_,_;rw[ab th];exact sy
     have vk:=al (jA _ _ _ _ (ab yD) (ab CN) (by decide))
     clear sy jA HC th c0 c1 c2 c3
     go_wp2
     go_roundg (is.length-(i+1))
     case measure=>have:=ab bz;have:=ab bu;omega
     case rel=>exact ⟨i+1,by go_num,rfl,ab bu,lN,vk⟩
    ·obtain rfl:i=is.length:=by omega
     have ph:=al (ab HP)
     rw[List.take_length] at ph
     have sg:=HB
     clear HP HB
     obtain ⟨wo5,Vv⟩:∃x,x=wr:=⟨_,rfl⟩
     subst Vv
     go_wp2
     go_loopg [6] ms.length (fun gk v6 wr=>∃(i:Nat),v6=.int .i64 (i:Int)∧gk=ms.length-i∧i≤ms.length∧Hid (∃v,Pg W pg ((LB++is.flatMap ew)++(ms.take i).flatMap (fun m=>cn 0 aL m.nm (cj 32 (0+1) m))) v wr)∧Hid (wr.heap[W.heap.size]?=some (.cells #[.string pk,.slice ai is.length ci,.slice am ms.length dh,.slice ae es.length da] 26 (0,0))))
     case atStart=>exact ⟨0,rfl,rfl,by omega,by show ∃_,_;rw[List.take_zero,List.flatMap_nil,List.append_nil];exact ab ph,sg⟩
     case round =>
      obtain ⟨i,rfl,aU,eS,HP,HB⟩:=hrel
      have bz:=al aU
      clear aU ph sg
      obtain ⟨c0,c1,c2,c3⟩:=a8 (ab HB)
      by_cases aM:i<ms.length
      ·obtain ⟨up,xT⟩:=ab HP
       have aS:Below W.heap.size W wr:=xT.bW
       obtain ⟨g,o,rfl,hg,hc⟩:=ab vO (by omega)
       have hl:=List.getElem?_eq_getElem aM
       obtain ⟨t,ht⟩:∃d,ms[i]=d:=⟨_,rfl⟩
       rw[ht] at hl
       obtain ⟨MJ,MI,Pb,MK,Bg,Bj,xy,DD,Dh,qK,wP,Da,DB,IJ,JD,dU,fR⟩:=(ab vQ).at i t hl
       have gR:=al fR
       obtain ⟨Ff,E8,rfl,-,-⟩:=fR.hf
       obtain ⟨DO,DL,rfl,-,-⟩:=fR.ho
       obtain ⟨AM,mg,rfl,-,-⟩:=fR.hm
       obtain ⟨Fg,pP,rfl,-,-⟩:=fR.he
       obtain ⟨qT,qQ,rfl,-,-⟩:=fR.hr
       obtain ⟨qU,qS,rfl,-,-⟩:=fR.hg
       have key:∀(j:Nat) (x:Value),[Value.string xy,.slice Ff DD.length E8,.slice DO Dh.length DL,.slice AM qK.length mg,.slice Fg wP.length pP,.slice qT Da.length qQ,.slice qU DB.length qS][j]?=some x→wr.cell? ⟨g,o+(i*7+j),none⟩=some x:=fun j x hx=>(aS.cell (p:=⟨g,o+(i*7+j),none⟩) hg).trans (hc _ _ (by
        rw[←dU,List.getElem?_take,List.getElem?_drop] at hx
        split at hx
        ·exact hx
        ·cases hx))
       have x0:wr.cell? ⟨g,o+i*7,none⟩=_:=key 0 _ rfl
       have x1:wr.cell? ⟨g,o+i*7+1,none⟩=_:=key 1 _ rfl
       have x2:wr.cell? ⟨g,o+i*7+2,none⟩=_:=key 2 _ rfl
       have x3:wr.cell? ⟨g,o+i*7+3,none⟩=_:=key 3 _ rfl
       have x4:wr.cell? ⟨g,o+i*7+4,none⟩=_:=key 4 _ rfl
       have x5:wr.cell? ⟨g,o+i*7+5,none⟩=_:=key 5 _ rfl
       have x6:wr.cell? ⟨g,o+i*7+6,none⟩=_:=key 6 _ rfl
       clear hc ht key dU
       have cI:=List.mem_of_getElem? hl
       have Ba:(LB++is.flatMap ew)++(ms.take (i+1)).flatMap (fun m=>cn 0 aL m.nm (cj 32 (0+1) m))=(LB++is.flatMap ew)++(ms.take i).flatMap (fun m=>cn 0 aL m.nm (cj 32 (0+1) m))++cn 0 aL t.nm (cj 32 (0+1) t):=by rw[bL hl,List.flatMap_append];simp
       have j':=fx (fun m=>cn 0 aL m.nm (cj 32 (0+1) m)) ms (i+1)
       rw[bL hl,List.flatMap_append,zK,show [t].flatMap (fun m=>cn 0 aL m.nm (cj 32 (0+1) m))=cn 0 aL t.nm (cj 32 (0+1) t) by simp] at j'
       have qA:((LB++is.flatMap ew)++(ms.take i).flatMap (fun m=>cn 0 aL m.nm (cj 32 (0+1) m))).length+(cn 0 aL t.nm (cj 32 (0+1) t)).length≤1099511627776:=by have:=ab HL;rw[zK];rw[zK];omega
       have Cf:t.nm=xy:=by rw[(ab gR).is];rfl
       rw[Cf] at qA Ba
       have HC:=al (oM 32 W wr pg _ up 0 t _ _ _ _ _ _ _ _ _ _ _ _ _ _ _ xT (ab HF) (by omega) (ab gR) (ab XQ t cI) (ab My t cI) qA)
       rw[show ((0:Nat):Int)=0 from rfl] at HC
       have th:=al Ba
       have i0:(0:Int)≤(i:Int):=zH _
       have i1:(i:Int)<(ms.length:Int):=by omega
       have bu:=al aM
       clear hl aS aM gR cI Ba j' qA xT
       go_wp2_with fail
       refine (ab HC).mono ?_
       rintro e w5 ⟨rfl,sy,jA⟩
       have lN:Hid (∃v,Pg W pg ((LB++is.flatMap ew)++(ms.take (i+1)).flatMap (fun m=>cn 0 aL m.nm (cj 32 (0+1) m))) v w5):=by show ∃_,_;rw[ab th];exact sy
       have vk:=al (jA _ _ _ _ (ab yD) (ab HB) (by decide))
       clear sy jA HC th c0 c1 c2 c3
       go_wp2
       go_roundg (ms.length-(i+1))
       case measure=>have:=ab bz;have:=ab bu;omega
       case rel=>exact ⟨i+1,by go_num,rfl,ab bu,lN,vk⟩
      ·obtain rfl:i=ms.length:=by omega
       have ph:=al (ab HP)
       rw[List.take_length] at ph
       have sg:=HB
       clear HP HB
       obtain ⟨wo6,Vu⟩:∃x,x=wr:=⟨_,rfl⟩
       subst Vu
       go_wp2
       go_loopg [7] es.length (fun gk v7 wr=>∃(i:Nat),v7=.int .i64 (i:Int)∧gk=es.length-i∧i≤es.length∧Hid (∃v,Pg W pg ((LB++is.flatMap ew++ms.flatMap (fun m=>cn 0 aL m.nm (cj 32 (0+1) m)))++(es.take i).flatMap (jB 0)) v wr)∧Hid (wr.heap[W.heap.size]?=some (.cells #[.string pk,.slice ai is.length ci,.slice am ms.length dh,.slice ae es.length da] 26 (0,0))))
       case atStart=>exact ⟨0,rfl,rfl,by omega,by show ∃_,_;rw[List.take_zero,List.flatMap_nil,List.append_nil];exact ab ph,sg⟩
       case round =>
        obtain ⟨i,rfl,aU,eS,HP,HB⟩:=hrel
        have bz:=al aU
        clear aU ph sg
        obtain ⟨c0,c1,c2,c3⟩:=a8 (ab HB)
        by_cases aM:i<es.length
        ·obtain ⟨up,xT⟩:=ab HP
         have aS:Below W.heap.size W wr:=xT.bW
         obtain ⟨g,o,rfl,hg,hc⟩:=ab vP (by omega)
         have hl:=List.getElem?_eq_getElem aM
         obtain ⟨t,ht⟩:∃d,es[i]=d:=⟨_,rfl⟩
         rw[ht] at hl
         obtain ⟨vv,Bg,Bj,dU,rv,rr,rg⟩:=(ab vR).at i t hl
         have gR:=al (And.intro rv (And.intro rr rg))
         obtain ⟨av,cv,rfl,-,-⟩:=rv
         obtain ⟨qT,qQ,rfl,-,-⟩:=rr
         obtain ⟨qU,qS,rfl,-,-⟩:=rg
         have key:∀(j:Nat) (x:Value),[Value.string t.name,.slice av t.aQ.length cv,.slice qT t.res.length qQ,.slice qU t.gone.length qS][j]?=some x→wr.cell? ⟨g,o+(i*4+j),none⟩=some x:=fun j x hx=>(aS.cell (p:=⟨g,o+(i*4+j),none⟩) hg).trans (hc _ _ (by
          rw[←dU,List.getElem?_take,List.getElem?_drop] at hx
          split at hx
          ·exact hx
          ·cases hx))
         have x0:wr.cell? ⟨g,o+i*4,none⟩=_:=key 0 _ rfl
         have x1:wr.cell? ⟨g,o+i*4+1,none⟩=_:=key 1 _ rfl
         have x2:wr.cell? ⟨g,o+i*4+2,none⟩=_:=key 2 _ rfl
         have x3:wr.cell? ⟨g,o+i*4+3,none⟩=_:=key 3 _ rfl
         clear hc ht key dU
         have cI:=List.mem_of_getElem? hl
         have Ba:(LB++is.flatMap ew++ms.flatMap (fun m=>cn 0 aL m.nm (cj 32 (0+1) m)))++(es.take (i+1)).flatMap (jB 0)=(LB++is.flatMap ew++ms.flatMap (fun m=>cn 0 aL m.nm (cj 32 (0+1) m)))++(es.take i).flatMap (jB 0)++jB 0 t:=by rw[bL hl,List.flatMap_append];simp
         have j':=fx (jB 0) es (i+1)
         rw[bL hl,List.flatMap_append,zK,show [t].flatMap (jB 0)=jB 0 t by simp] at j'
         have qA:((LB++is.flatMap ew++ms.flatMap (fun m=>cn 0 aL m.nm (cj 32 (0+1) m)))++(es.take i).flatMap (jB 0)).length+(jB 0 t).length≤1099511627776:=by have:=ab HL;rw[zK];rw[zK,zK];omega
         have RO:=ab Xy t cI
         have HC:=al (wJ xT (ab HF) 0 (by omega) (ab gR).1 (ab gR).2.1 (ab gR).2.2 (ab XR t cI) RO.1 RO.2 qA)
         rw[show ((0:Nat):Int)=0 from rfl] at HC
         have th:=al Ba
         have i0:(0:Int)≤(i:Int):=zH _
         have i1:(i:Int)<(es.length:Int):=by omega
         have bu:=al aM
         clear hl aS aM gR cI Ba j' qA xT
         go_wp2_with fail
         refine (ab HC).mono ?_
         rintro e w5 ⟨rfl,sy,jA⟩
         have lN:Hid (∃v,Pg W pg ((LB++is.flatMap ew++ms.flatMap (fun m=>cn 0 aL m.nm (cj 32 (0+1) m)))++(es.take (i+1)).flatMap (jB 0)) v w5):=by show ∃_,_;rw[ab th];exact sy
         have vk:=al (jA _ _ _ _ (ab yD) (ab HB) (by decide))
         clear sy jA HC th c0 c1 c2 c3
         go_wp2
         go_roundg (es.length-(i+1))
         case measure=>have:=ab bz;have:=ab bu;omega
         case rel=>exact ⟨i+1,by go_num,rfl,ab bu,lN,vk⟩
        ·obtain rfl:i=es.length:=by omega
         have ph:=al (ab HP)
         rw[List.take_length] at ph
         have sg:=HB
         clear HP HB
         obtain ⟨Qn,Vt⟩:∃x,x=wr:=⟨_,rfl⟩
         subst Vt
         have OW:Hid (∃v,Pg W pg (fB ⟨pk,is,ms,es⟩) v Qn):=by show ∃_,_;rw[ab DX];exact ab ph
         clear ph DX
         obtain ⟨u,NV⟩:=ab OW
         have eu:=wN ⟨pk,is,ms,es⟩
         obtain ⟨T,hT⟩:∃T,fB ⟨pk,is,ms,es⟩=T:=⟨_,rfl⟩
         rw[hT] at NV eu HLf
         have XF:=al hT
         obtain ⟨au,cu,rfl⟩:=xw NV
         have p0:Qn.cell? ⟨pg,0,none⟩=some (.slice au T.length cu):=cell_of_row _ _ _ _ _ _ NV.dq
         have XN:=al NV
         have HBy:=al eu
         have kI:(gr T).size=T.length:=jN T
         clear hT OW eu
         by_cases dD:65536<T.length
         ·have Hr:Hid (jD (gr T)=.inr (0,2)):=pt (by omega)
          have f0:decide ((65536:Int)<(T.length:Int))=true:=decide_eq_true (by omega)
          have Fq:Hid (R1=⟨#[]⟩∧R2=2):=by have h:=ab HR;rw[ab XF,ab Hr] at h;cases h;exact ⟨rfl,rfl⟩
          clear NV dD
          go_wp2
          go_ret2
          rw[(ab Fq).1,(ab Fq).2]
          exact ⟨rfl,(ab XN).bW⟩
         ·have f0:decide ((65536:Int)<(T.length:Int))=false:=decide_eq_false (by omega)
          have lJ:=kL (show pW Qn _ T from Bytes.has (show Bytes W.heap.size Qn _ T from NV.own)) (ab HBy)
          have HT:=al (yJ Qn (gr T))
          obtain ⟨t,ht⟩:∃t,jD (gr T)=t:=⟨_,rfl⟩
          have Ht:=al ht
          clear NV dD ht
          go_wp2_with fail
          refine (ab HT).mono ?_
          rintro e w8 ⟨RX,hA⟩
          have Mc:=(ab XN).below RX
          have p1:w8.cell? ⟨pg,0,none⟩=some (.slice au T.length cu):=cell_of_row _ _ _ _ _ _ Mc.dq
          have aaq:=kL (show pW w8 _ T from Bytes.has (show Bytes W.heap.size w8 _ T from Mc.own)) (ab HBy)
          have HP8:=al Mc
          rw[ab Ht] at hA
          clear RX Mc HT XN p0 lJ
          cases t with
          |inl ts =>
           obtain ⟨x,rfl,hx⟩:=hA
           obtain ⟨ax,cx,rfl⟩:=bq hx
           have hle:=F2 (ab Ht)
           have f1:decide ((16384:Int)<(ts.length:Int))=false:=decide_eq_false (by omega)
           clear hx hle
           have Fq:Hid (R1=gr T∧R2=0):=by have h:=ab HR;rw[ab XF,ab Ht] at h;cases h;exact ⟨rfl,rfl⟩
           go_wp2
           go_ret2
           rw[(ab Fq).1,(ab Fq).2]
           exact ⟨rfl,(ab HP8).bW⟩
          |inr r =>
           obtain ⟨k,c⟩:=r
           obtain ⟨hc,rfl⟩:=hA
           have Fq:Hid (R1=⟨#[]⟩∧R2=2):=by have h:=ab HR;rw[ab XF,ab Ht] at h;cases h;exact ⟨rfl,rfl⟩
           have n0:((c:Int)==0)=false:=by simp;omega
           have n1:((c:Int) != 0)=true:=by simp;omega
           have n2:¬(c:Int)=0:=by omega
           go_wp2
           go_ret2
           rw[(ab Fq).1,(ab Fq).2]
           exact ⟨rfl,(ab HP8).bW⟩
theorem kZ {W:World}{v vi vm ve:Value}{F:Fl}{cm ce:List Value} (hF:iG W) (qD:yH W v F vi vm ve cm ce) (ht:mf F≤1099511627776) :
  Calls Tryz.prog 15 #[v] W fun e w=>e=.returned (.int .i64 (il F).2)∧Below W.heap.size W w:=by
 have bG:Below W.heap.size W (W.alloc (.cells #[.string F.jL,vi,vm,ve] 26)):=(zE _ _).alloc (zD _) _
 have k0:=aK W (.cells #[.string F.jL,vi,vm,ve] 26)
 obtain ⟨V,hV⟩:∃V,W.alloc (.cells #[.string F.jL,vi,vm,ve] 26)=V:=⟨_,rfl⟩
 rw[hV] at bG k0
 have HT:=al (Ei (hF.up bG) (qD.up bG) ht)
 have hv:=qD.is
 subst hv
 obtain ⟨⟨R1,R2⟩,hR⟩:∃R,il F=R:=⟨_,rfl⟩
 rw[hR] at HT ⊢
 simp only at HT ⊢
 have HB:=al bG
 obtain ⟨ai,ci,rfl,Ru,-⟩:=qD.hi
 obtain ⟨am,dh,rfl,H4,-⟩:=qD.hm
 obtain ⟨ae,da,rfl,iI,-⟩:=qD.he
 obtain ⟨c0,c1,c2,c3⟩:=a8 k0
 clear bG k0 qD hF ht hR
 go_enter Tryz.func15,Tryz.ntmps15
 go_wp2_with fail
 refine (ab HT).mono ?_
 rintro e w1 ⟨rfl,aW⟩
 have HE:=al ((ab HB).trans (aW.mono (ab HB).size))
 clear aW HT HB
 go_wp2
 go_ret
 exact ⟨rfl,ab HE⟩
theorem CZ:∀(k f:Nat) (m:Ms),vM k m→vM k (lM f m)
 |0,_,_,_=>trivial
 |k+1,0,.mk _ _ _ _ _ _ _,h=>⟨h.1,fun m hm=>by simp at hm⟩
 |k+1,f+1,.mk _ _ _ _ _ _ _,h=>⟨h.1,fun m hm=>by obtain ⟨x,hx,rfl⟩:=List.mem_map.1 hm;exact CZ k f x (h.2 x hx)⟩
theorem DN:∀(k f:Nat) (m:Ms),cQ k (lM f m)≤cQ k m
 |0,_,_=>zD _
 |k+1,0,.mk _ _ _ _ _ _ _=>by simp only[lM,cQ,bE];omega
 |k+1,f+1,.mk _ _ _ ms _ _ _=>by
  have:bE (cQ k) (ms.map (lM f))≤bE (cQ k) ms:=by
   induction ms with
   |nil=>exact zD _
   |cons m r ih=>simp only[List.map_cons,bE];have:=DN k f m;omega
  simp only[lM,cQ];omega
theorem Gt:∀(k f:Nat) (m:Ms),DS k m→DS k (lM f m)
 |0,0,.mk _ _ _ _ _ _ _,h=>by obtain ⟨a,b,-,c⟩:=h.s;exact ⟨a,b,by simp,c⟩
 |0,f+1,.mk _ _ _ _ _ _ _,h=>by obtain ⟨a,b,c,d⟩:=h.s;exact ⟨a,b,by rw[List.length_map];exact c,d⟩
 |k+1,0,.mk _ _ _ _ _ _ _,h=>by obtain ⟨a,b,-,c⟩:=h.s;exact ⟨⟨a,b,by simp,c⟩,fun m hm=>by simp at hm⟩
 |k+1,f+1,.mk _ _ _ _ _ _ _,h=>by
  obtain ⟨a,b,c,d⟩:=h.s
  exact ⟨⟨a,b,by rw[List.length_map];exact c,d⟩,fun m hm=>by obtain ⟨x,hx,rfl⟩:=List.mem_map.1 hm;exact Gt k f x (h.2 x hx)⟩
theorem Lu.cut {F:Fl} (h:Lu F):Lu (AG F):=⟨h.i,by show (F.ms.map _).length*160≤_;rw[List.length_map];exact h.m,fun m hm=>by obtain ⟨x,hx,rfl⟩:=List.mem_map.1 (show m ∈ F.ms.map (lM 199) from hm);exact Gt 200 199 x (h.ms x hx),h.e,h.es⟩
theorem II (F:Fl):mf (AG F)≤mf F:=by
 have:∀ms:List Ms,bE (cQ 32) (ms.map (lM 199))≤bE (cQ 32) ms:=fun ms=>by
  induction ms with
  |nil=>exact zD _
  |cons m r ih=>simp only[List.map_cons,bE];have:=DN 32 199 m;omega
 have:=this F.ms
 show F.cV.length+bE (cQ 32) (F.ms.map (lM 199))+bE kl F.es≤F.cV.length+bE (cQ 32) F.ms+bE kl F.es
 omega
theorem Va {w:World}{b:Nat}{v0 v1 v2 v3:Value}{t:TypeId} (h:w.heap[b]?=some (.cells #[v0,v1,v2,v3] t (0,0))) (u0 u1 u2 u3:Value) :
  ((((w.setCell ⟨b,0,none⟩ u0).setCell ⟨b,1,none⟩ u1).setCell ⟨b,2,none⟩ u2).setCell ⟨b,3,none⟩ u3).heap[b]?=some (.cells #[u0,u1,u2,u3] t (0,0))∧w.grownBy ((((w.setCell ⟨b,0,none⟩ u0).setCell ⟨b,1,none⟩ u1).setCell ⟨b,2,none⟩ u2).setCell ⟨b,3,none⟩ u3) (some b):=by
 obtain ⟨a1,a2⟩:=bh (j:=0) h u0
 obtain ⟨b1,b2⟩:=bh (j:=1) a1 u1
 obtain ⟨c1,c2⟩:=bh (j:=2) b1 u2
 obtain ⟨d1,d2⟩:=bh (j:=3) c1 u3
 exact ⟨d1,((a2.trans b2).trans c2).trans d2⟩
theorem Mf {w:World}{b:Nat}{cs:Array Value}{t:TypeId} (h:w.heap[b]?=some (.cells cs t (0,0))):w.frozen? ⟨b,0,none⟩=false∧w.frozen? ⟨b,1,none⟩=false∧w.frozen? ⟨b,2,none⟩=false∧w.frozen? ⟨b,3,none⟩=false:=by simp[World.frozen?,h]
theorem oQ {R:Nat→Prop}{w:World}{v vi vm ve:Value}{F:Fl}{cm ce:List Value} (h:Js R w v F vi vm ve cm ce):∃bi di bm dm be de,vi=.slice bi F.cV.length di∧vm=.slice bm F.ms.length dm∧ve=.slice be F.es.length de:=by
 obtain ⟨a,b,e1,-⟩:=h.hi.rl
 obtain ⟨c,d,e2,-⟩:=h.hm.rl
 obtain ⟨e,f,e3,-⟩:=h.he.rl
 exact ⟨a,b,c,d,e,f,e1,e2,e3⟩
theorem Sp.file {B:Nat}{w w':World} (h:Sp B w w') {b:Nat}{cs:Array Value} (hb:w.heap[b]?=some (.cells cs 26 (0,0))):w'.heap[b]?=some (.cells cs 26 (0,0)):=by
 by_cases aM:b<B
 ·exact (h.bW.block b aM).trans hb
 ·obtain ⟨c',h1,h2,h3⟩:=h.dq b cs _ (by omega) hb
  have:c'=cs:=by
   apply Array.ext_getElem?
   intro j
   by_cases hj:j<cs.size
   ·rw[Array.getElem?_eq_getElem hj]
    rcases h3 j _ (Array.getElem?_eq_getElem hj) with e|⟨y,-,hy⟩
    ·exact e
    ·exact absurd hy (xj y)
   ·rw[Array.getElem?_eq_none (by omega),Array.getElem?_eq_none (by omega)]
  rw[h1,this]
structure P5 (F G:Fl):Prop where
 i:G.cV.length=F.cV.length
 m:AP F.ms G.ms
 e:Fh F.es G.es
theorem P5.re {F G:Fl} (h:P5 F G) (k:Lu F):Lu G:=⟨by rw[h.i];exact k.i,by rw[h.m.len];exact k.m,h.m.re 200 k.ms,by rw[h.e.len];exact k.e,h.e.re k.es⟩
theorem P5.Z2 {F G:Fl} (h:P5 F G):mf G=mf F:=by simp only[mf,h.i,h.m.sum,h.e.sum]
theorem mz {W:World}{v vi vm ve:Value}{F:Fl}{cm ce:List Value} (hM:ia W) (hE:jW W) (hP:iF W) (hF:iG W) (qD:yH W v F vi vm ve cm ce) (kI:∀m ∈ F.ms,vM 32 m) :
  Calls Tryz.prog 14 #[v] W fun e w=>e=.returned (.int .i64 (il F).2)∧Below W.heap.size W w:=by
 have bG:Below W.heap.size W (W.alloc (.cells #[.string F.jL,vi,vm,ve] 26)):=(zE _ _).alloc (zD _) _
 have k0:=aK W (.cells #[.string F.jL,vi,vm,ve] 26)
 obtain ⟨V,hV⟩:∃V,W.alloc (.cells #[.string F.jL,vi,vm,ve] 26)=V:=⟨_,rfl⟩
 rw[hV] at bG k0
 have HT:=al (yU (hM.up bG hM.1) (hE.up bG) (hP.up bG) (hF.up bG) (qD.up bG) kI)
 obtain ⟨pk,is,ms,es⟩:=F
 obtain ⟨rfl,⟨ai,ci,rfl,-,-⟩,⟨am,cm1,rfl,-,-⟩,-,⟨ae,ce1,rfl,-,-⟩,-⟩:=qD
 simp only at hV k0 HT ⊢
 obtain ⟨c0,c1,c2,c3⟩:=a8 k0
 have HB:=al bG
 obtain ⟨⟨t1,t2⟩,ht⟩:∃T,il ⟨pk,is,ms,es⟩=T:=⟨_,rfl⟩
 rw[ht] at HT ⊢
 simp only at HT ⊢
 clear hM hE hP hF kI k0 bG ht
 go_enter Tryz.func14,Tryz.ntmps14
 go_wp2_with fail
 refine (ab HT).mono ?_
 rintro e w1 ⟨rfl,aW⟩
 have cN:=al ((ab HB).trans (aW.mono (ab HB).size))
 clear aW HB HT
 go_wp2
 go_ret
 exact ⟨rfl,ab cN⟩
end Go.Proofs.YtichhjfjcinjgaaGreatDoor
