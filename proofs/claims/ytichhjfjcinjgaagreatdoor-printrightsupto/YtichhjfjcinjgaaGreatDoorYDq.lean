import Derived.Test.YtichhjfjcinjgaaGreatDoorYDp
import Derived.Test.YtichhjfjcinjgaaGreatDoorM49
set_option maxHeartbeats 16000000
set_option maxRecDepth 100000
namespace Go.Proofs.YtichhjfjcinjgaaGreatDoor
open Go.RowKit
attribute [local go_sem ↓] Go.wp_at_zero Go.wp_at_succ
theorem AI (s:ByteArray):aY 0 [⟨#[105,109,112,111,114,116,32]⟩++bA s++⟨#[59]⟩]=aY 0 [lC,bA s,bC]:=by
 unfold aY lC bC
 simp[kM]
theorem G5 (s:ByteArray):aY 0 [⟨#[112,97,99,107,97,103,101,32]⟩++s++⟨#[59]⟩]=aY 0 [kN,s,bC]:=by
 unfold aY kN bC
 simp[kM]
theorem kP {W:World}{v vi vm ve:Value}{F:Fl}{cm ce:List Value} (hF:ir W) (qW:xE W v F vi vm ve cm ce) (ht:kG F≤1099511627776) :
  Calls Tryz.prog 12 #[v] W fun e w=>e=.returned (.tuple #[.string (fO F).1,.int .i64 (fO F).2])∧Below W.heap.size W w:=by
 have W6:=ER qW ht
 obtain ⟨pk,is,ms,es⟩:=F
 obtain ⟨rfl,hi,hm,eo,he,fA⟩:=qW
 simp only at hi hm eo he fA W6 ⊢
 obtain ⟨ai,ci,rfl,RU,li⟩:=hi
 obtain ⟨am,dk,rfl,IC,lm⟩:=hm
 obtain ⟨ae,dc,rfl,iP,le⟩:=he
 have L9:=al li
 have wz:=al lm
 have wF:=al le
 have wG:=al eo
 have wH:=al fA
 have k0:=aJ W (.cells #[.string pk,.slice ai is.length ci,.slice am ms.length dk,.slice ae es.length dc] 26)
 have bG:Below W.heap.size W (W.alloc (.cells #[.string pk,.slice ai is.length ci,.slice am ms.length dk,.slice ae es.length dc] 26)):=(zE _ _).alloc (zD _) _
 have Oj:W.heap.size<(W.alloc (.cells #[.string pk,.slice ai is.length ci,.slice am ms.length dk,.slice ae es.length dc] 26)).heap.size:=by rw[zJ];omega
 obtain ⟨V,hV⟩:∃V,W.alloc (.cells #[.string pk,.slice ai is.length ci,.slice am ms.length dk,.slice ae es.length dc] 26)=V:=⟨_,rfl⟩
 rw[hV] at k0 bG Oj
 have QE:=al (W6 V bG)
 obtain ⟨c0,c1,c2,c3⟩:=aP k0
 rw[←CY] at QE
 have HB:=al bG
 have HK:=al k0
 have Ph:=al Oj
 have HF:=al hF
 obtain ⟨⟨R1,R2⟩,hR⟩:∃R,fO ⟨pk,is,ms,es⟩=R:=⟨_,rfl⟩
 rw[hR]
 simp only
 have HR:=al hR
 unfold fO at HR
 obtain ⟨q,hq⟩:∃q,(lU ⟨pk,is,ms,es⟩).isSome=q:=⟨_,rfl⟩
 rw[hq] at QE HR
 have Hq:=al hq
 clear W6 bG k0 Oj eo fA li lm le hF hq ht hR
 cases q with
 |false =>
  have FY:Hid (R1=⟨#[]⟩∧R2=60):=by have h:=ab HR;rw[if_neg Bool.false_ne_true] at h;cases h;exact ⟨rfl,rfl⟩
  go_enter Tryz.func12,Tryz.ntmps12
  go_wp2_with fail
  refine (ab QE).mono ?_
  rintro e w1 ⟨rfl,aX⟩
  have HE:=al ((ab HB).trans (aX.mono (ab HB).size))
  clear aX QE HB
  go_wp2
  go_ret2
  rw[(ab FY).1,(ab FY).2]
  exact ⟨rfl,ab HE⟩
 |true =>
  have Wj:=ab HR
  rw[if_pos rfl] at Wj
  clear HR
  have HR:=al Wj
  clear Wj
  obtain ⟨RI,d1,d2,d3,d4,d5⟩:=xq (ab Hq)
  have Hiz:Hid (∀s ∈ is,s.size≤1048576):=d2
  have Yn:Hid (∀m ∈ ms,Kh 32 m):=d3
  have Yo:Hid (∀e ∈ es,JD e):=d4
  have MW:Hid (∀m ∈ ms,O4 32 m):=RI.ms
  have X8:Hid (∀e ∈ es,e.name.size≤255∧∀v ∈ e.aR,v.1.size≤255):=fun e he=>by
   have h1:=RI.es e he
   unfold bc at h1
   simp only[Bool.and_eq_true] at h1
   refine ⟨dG h1.1.1.1.1,fun v hv=>?_⟩
   have h2:=List.all_eq_true.1 h1.1.1.2 v hv
   unfold eD at h2
   simp only[Bool.and_eq_true] at h2
   exact dG h2.1.1.1
  have HLf:=al d5
  obtain ⟨LA,WZ⟩:∃X,[]++aY 0 [⟨#[115,121,110,116,97,120,32,61,32,34,112,114,111,116,111,51,34,59]⟩]=X:=⟨_,rfl⟩
  obtain ⟨LB,Lw⟩:∃X,LA++lY pk=X:=⟨_,rfl⟩
  have WG:fG ⟨pk,is,ms,es⟩=LB++is.flatMap ez++ms.flatMap (fun m=>ct 0 aL m.nm (ck 32 (0+1) m))++es.flatMap (jO 0):=by
   rw[←Lw,←WZ,List.nil_append]
   unfold fG pW
   simp only[List.append_assoc]
   rfl
  have P4:=d5
  rw[WG,zK,zK,zK] at P4
  have HL:Hid (LB.length+(is.flatMap ez).length+(ms.flatMap (fun m=>ct 0 aL m.nm (ck 32 (0+1) m))).length+(es.flatMap (jO 0)).length≤1099511627776):=P4
  have Es:=al WG
  have HLA:=al WZ
  have Ut:=al Lw
  have fK:LB.length=LA.length+(lY pk).length:=by rw[←Lw,zK]
  have dS:LA.length+(lY pk).length≤1099511627776:=by omega
  have Hz1:=al dS
  clear fK dS P4 WG WZ Lw RI d1 d2 d3 d4 d5
  go_enter Tryz.func12,Tryz.ntmps12
  go_wp2_with fail
  refine (ab QE).mono ?_
  rintro e w1 ⟨rfl,aX⟩
  have Oh:=(ab HB).trans (aX.mono (ab HB).size)
  have mf:=(aX.block _ (ab Ph)).trans (ab HK)
  have kp:=aJ w1 (.cells #[.slice none 0 0] 60)
  have bp:Below w1.heap.size w1 (w1.alloc (.cells #[.slice none 0 0] 60)):=(zE _ _).alloc (zD _) _
  obtain ⟨P,hP⟩:∃P,w1.alloc (.cells #[.slice none 0 0] 60)=P:=⟨_,rfl⟩
  rw[hP] at kp bp
  have Lm:W.heap.size<w1.heap.size:=Nat.lt_of_lt_of_le (ab Ph) aX.size
  have aaF:=al Lm
  have lZ:=(bp.block _ Lm).trans mf
  have Z5:Pg W w1.heap.size [] (.slice none 0 0) P:=⟨Oh.trans (bp.mono Oh.size),Nat.le_of_lt Lm,kp,World.ownsRow_nil _ _ _ _⟩
  have O8:Hid (W.heap.size≠w1.heap.size):=by show _≠_;omega
  have hG:=dj Z5 0 ⟨#[115,121,110,116,97,120,32,61,32,34,112,114,111,116,111,51,34,59]⟩ (by omega) (by decide)
  rw[ab HLA] at hG
  have HG:=al hG
  have fI:=al lZ
  obtain ⟨pg,hpg⟩:∃b,w1.heap.size=b:=⟨_,rfl⟩
  rw[hpg] at HG O8
  have zf:=O8
  clear aX Oh mf kp bp Lm lZ Z5 hG QE O8 HK HB Ph
  go_wp2_with fail
  refine (ab HG).mono ?_
  rintro e w2 ⟨rfl,l8,lZ⟩
  have cS:=al (lZ _ _ _ _ (ab zf) (ab fI) (by decide))
  have fH:=al l8
  clear l8 lZ HG fI c0 c1 c2 c3
  obtain ⟨c0,c1,c2,c3⟩:=aP (ab cS)
  go_upto_if 20 with fail
  go_cut [20] (fun _ wx=>Hid (∃v,Pg W pg LB v wx)∧Hid (wx.heap[W.heap.size]?=some (.cells #[.string pk,.slice ai is.length ci,.slice am ms.length dk,.slice ae es.length dc] 26 (0,0))))
  case first =>
   obtain ⟨q1,uP⟩:∃q,pk.toList.isEmpty=q:=⟨_,rfl⟩
   cases q1 with
   |true =>
    have HX:Hid (LB=LA):=by show _=_;rw[←ab Ut];unfold lY;rw[if_pos uP,List.append_nil]
    rw[uP]
    clear uP
    go_wp2_with fail
    go_meet
    exact ⟨by show ∃_,_;rw[ab HX];exact ab fH,cS⟩
   |false =>
    have Fc:lY pk=aY 0 [⟨#[112,97,99,107,97,103,101,32]⟩++pk++⟨#[59]⟩]:=by rw[G5];unfold lY;rw[if_neg (by rw[uP];exact Bool.false_ne_true)]
    obtain ⟨u2,l8⟩:=ab fH
    have hz:=ab Hz1
    rw[Fc,dU] at hz
    have hG:=dj l8 0 (⟨#[112,97,99,107,97,103,101,32]⟩++pk++⟨#[59]⟩) (by omega) (by omega)
    rw[←Fc,ab Ut] at hG
    have HG:=al hG
    rw[ByteArray.size_append,ByteArray.size_append] at hz
    have zp:pk.size≤1099511627776:=by omega
    have zp2:((⟨#[112,97,99,107,97,103,101,32]⟩:ByteArray)++pk).size≤1099511627776:=by rw[ByteArray.size_append];omega
    rw[uP]
    clear hz hG Fc l8 uP
    go_wp2_with fail
    refine (ab HG).mono ?_
    rintro e w3 ⟨rfl,D1,sU⟩
    have eh:=al (sU _ _ _ _ (ab zf) (ab cS) (by decide))
    have pD:=al D1
    clear D1 sU HG
    go_wp2_with fail
    go_meet
    exact ⟨pD,eh⟩
  case rest =>
   obtain ⟨pH,sI⟩:=hcut
   clear c0 c1 c2 c3 fH cS
   obtain ⟨c0,c1,c2,c3⟩:=aP (ab sI)
   go_wp2
   go_loopg [5] is.length (fun gk v5 wr=>∃(i:Nat),v5=.int .i64 (i:Int)∧gk=is.length-i∧i≤is.length∧Hid (∃v,Pg W pg (LB++(is.take i).flatMap (ez)) v wr)∧Hid (wr.heap[W.heap.size]?=some (.cells #[.string pk,.slice ai is.length ci,.slice am ms.length dk,.slice ae es.length dc] 26 (0,0))))
   case atStart=>exact ⟨0,rfl,rfl,by omega,by show ∃_,_;rw[List.take_zero,List.flatMap_nil,List.append_nil];exact ab pH,sI⟩
   case round =>
    obtain ⟨i,rfl,aW,eV,HP,HB⟩:=hrel
    have bz:=al aW
    clear aW pH sI
    obtain ⟨c0,c1,c2,c3⟩:=aP (ab HB)
    by_cases aM:i<is.length
    ·obtain ⟨up,yw⟩:=ab HP
     have aT:Below W.heap.size W wr:=yw.bU
     obtain ⟨g,o,rfl,hg,hc⟩:=ab L9 (by omega)
     have hl:=List.getElem?_eq_getElem aM
     obtain ⟨s,hs⟩:∃d,is[i]=d:=⟨_,rfl⟩
     rw[hs] at hl
     have x0:=(aT.cell (p:=⟨g,o+i,none⟩) hg).trans (hc _ _ (dT hl))
     clear hc hs
     have cJ:=List.mem_of_getElem? hl
     have BA:LB++(is.take (i+1)).flatMap (ez)=LB++(is.take i).flatMap (ez)++ez s:=by rw[bM hl,List.flatMap_append];simp
     have ku:=fC (ez) is (i+1)
     rw[bM hl,List.flatMap_append,zK,show [s].flatMap (ez)=ez s by simp] at ku
     have qS:(LB++(is.take i).flatMap (ez)).length+(ez s).length≤1099511627776:=by have:=ab HL;rw[zK];omega
     have hq:=ab Hiz s cJ
     have HQ:=al (nU wr s hq)
     have zq:=ux hq
     have hil:(ez s).length=7+(bA s).size+1+1:=by unfold ez;rw[←AI,dU,ByteArray.size_append,ByteArray.size_append];have:(⟨#[105,109,112,111,114,116,32]⟩:ByteArray).size=7:=rfl;have:(⟨#[59]⟩:ByteArray).size=1:=rfl;omega
     have TC:Hid (∀w4,Below wr.heap.size wr w4→Calls Tryz.prog 26 #[.pointer (some ⟨pg,0,none⟩),.int .i64 0,.string (⟨#[105,109,112,111,114,116,32]⟩++bA s++⟨#[59]⟩)] w4 (LZ W pg (LB++(is.take i).flatMap ez++ez s) w4)):=by
      intro w4 ff
      have hG:=dj (yw.below ff) 0 (⟨#[105,109,112,111,114,116,32]⟩++bA s++⟨#[59]⟩) (by omega) (by rw[ByteArray.size_append,ByteArray.size_append];have:(⟨#[105,109,112,111,114,116,32]⟩:ByteArray).size=7:=rfl;have:(⟨#[59]⟩:ByteArray).size=1:=rfl;omega)
      rw[AI] at hG
      exact hG
     obtain ⟨Q,hQ⟩:∃Q,bA s=Q:=⟨_,rfl⟩
     rw[hQ] at zq TC
     have HQ2:Hid (gE (34::jY s 0++[34])=Q):=hQ
     rw[ab HQ2] at HQ
     have z7:((⟨#[105,109,112,111,114,116,32]⟩:ByteArray)++Q).size≤4194400:=by rw[ByteArray.size_append];have:(⟨#[105,109,112,111,114,116,32]⟩:ByteArray).size=7:=rfl;omega
     clear hq hil hQ
     have tJ:=al BA
     have i0:(0:Int)≤(i:Int):=zH _
     have i1:(i:Int)<(is.length:Int):=by omega
     have bu:=al aM
     clear hl aT aM cJ BA ku qS yw
     go_wp2_with fail
     refine (ab HQ).mono ?_
     rintro e w4 ⟨rfl,ff⟩
     have HC:=al (ab TC w4 ff)
     have Dg:=al ((ff.block _ (zA (ab HB)).1).trans (ab HB))
     clear ff TC HQ
     go_wp2_with fail
     refine (ab HC).mono ?_
     rintro e w5 ⟨rfl,sV,jN⟩
     have ma:Hid (∃v,Pg W pg (LB++(is.take (i+1)).flatMap (ez)) v w5):=by show ∃_,_;rw[ab tJ];exact sV
     have vN:=al (jN _ _ _ _ (ab zf) (ab Dg) (by decide))
     clear sV jN HC tJ c0 c1 c2 c3
     go_wp2
     go_roundg (is.length-(i+1))
     case measure=>have:=ab bz;have:=ab bu;omega
     case rel=>exact ⟨i+1,by go_num,rfl,ab bu,ma,vN⟩
    ·obtain rfl:i=is.length:=by omega
     have pH:=al (ab HP)
     rw[List.take_length] at pH
     have sI:=HB
     clear HP HB
     obtain ⟨wo5,VZ⟩:∃x,x=wr:=⟨_,rfl⟩
     subst VZ
     go_wp2
     go_loopg [6] ms.length (fun gk v6 wr=>∃(i:Nat),v6=.int .i64 (i:Int)∧gk=ms.length-i∧i≤ms.length∧Hid (∃v,Pg W pg ((LB++is.flatMap ez)++(ms.take i).flatMap (fun m=>ct 0 aL m.nm (ck 32 (0+1) m))) v wr)∧Hid (wr.heap[W.heap.size]?=some (.cells #[.string pk,.slice ai is.length ci,.slice am ms.length dk,.slice ae es.length dc] 26 (0,0))))
     case atStart=>exact ⟨0,rfl,rfl,by omega,by show ∃_,_;rw[List.take_zero,List.flatMap_nil,List.append_nil];exact ab pH,sI⟩
     case round =>
      obtain ⟨i,rfl,aW,eV,HP,HB⟩:=hrel
      have bz:=al aW
      clear aW pH sI
      obtain ⟨c0,c1,c2,c3⟩:=aP (ab HB)
      by_cases aM:i<ms.length
      ·obtain ⟨up,yw⟩:=ab HP
       have aT:Below W.heap.size W wr:=yw.bU
       obtain ⟨g,o,rfl,hg,hc⟩:=ab wz (by omega)
       have hl:=List.getElem?_eq_getElem aM
       obtain ⟨t,ht⟩:∃d,ms[i]=d:=⟨_,rfl⟩
       rw[ht] at hl
       obtain ⟨M',M9,PI,Na,BG,BJ,xZ,D6,DI,rh,xu,DB,D4,Je,Kb,dV,fX⟩:=(ab wG).at i t hl
       have gY:=al fX
       obtain ⟨FN,FG,rfl,-,-⟩:=fX.hf
       obtain ⟨Eh,Ee,rfl,-,-⟩:=fX.ho
       obtain ⟨Ba,mD,rfl,-,-⟩:=fX.hm
       obtain ⟨FO,qj,rfl,-,-⟩:=fX.he
       obtain ⟨ry,rp,rfl,-,-⟩:=fX.hr
       obtain ⟨rz,ru,rfl,-,-⟩:=fX.hg
       have key:∀(j:Nat) (x:Value),[Value.string xZ,.slice FN D6.length FG,.slice Eh DI.length Ee,.slice Ba rh.length mD,.slice FO xu.length qj,.slice ry DB.length rp,.slice rz D4.length ru][j]?=some x→wr.cell? ⟨g,o+(i*7+j),none⟩=some x:=fun j x hx=>(aT.cell (p:=⟨g,o+(i*7+j),none⟩) hg).trans (hc _ _ (by
        rw[←dV,List.getElem?_take,List.getElem?_drop] at hx
        split at hx
        ·exact hx
        ·cases hx))
       have x0:wr.cell? ⟨g,o+i*7,none⟩=_:=key 0 _ rfl
       have x1:wr.cell? ⟨g,o+i*7+1,none⟩=_:=key 1 _ rfl
       have x2:wr.cell? ⟨g,o+i*7+2,none⟩=_:=key 2 _ rfl
       have x3:wr.cell? ⟨g,o+i*7+3,none⟩=_:=key 3 _ rfl
       have x4:wr.cell? ⟨g,o+i*7+4,none⟩=_:=key 4 _ rfl
       have x5:wr.cell? ⟨g,o+i*7+5,none⟩=_:=key 5 _ rfl
       have x6:wr.cell? ⟨g,o+i*7+6,none⟩=_:=key 6 _ rfl
       clear hc ht key dV
       have cJ:=List.mem_of_getElem? hl
       have BA:(LB++is.flatMap ez)++(ms.take (i+1)).flatMap (fun m=>ct 0 aL m.nm (ck 32 (0+1) m))=(LB++is.flatMap ez)++(ms.take i).flatMap (fun m=>ct 0 aL m.nm (ck 32 (0+1) m))++ct 0 aL t.nm (ck 32 (0+1) t):=by rw[bM hl,List.flatMap_append];simp
       have ku:=fC (fun m=>ct 0 aL m.nm (ck 32 (0+1) m)) ms (i+1)
       rw[bM hl,List.flatMap_append,zK,show [t].flatMap (fun m=>ct 0 aL m.nm (ck 32 (0+1) m))=ct 0 aL t.nm (ck 32 (0+1) t) by simp] at ku
       have qS:((LB++is.flatMap ez)++(ms.take i).flatMap (fun m=>ct 0 aL m.nm (ck 32 (0+1) m))).length+(ct 0 aL t.nm (ck 32 (0+1) t)).length≤1099511627776:=by have:=ab HL;rw[zK];rw[zK];omega
       have CD:t.nm=xZ:=by rw[(ab gY).is];rfl
       rw[CD] at qS BA
       have HC:=al (pb 32 W wr pg _ up 0 t _ _ _ _ _ _ _ _ _ _ _ _ _ _ _ yw (ab HF) (by omega) (ab gY) (ab Yn t cJ) (ab MW t cJ) qS)
       rw[show ((0:Nat):Int)=0 from rfl] at HC
       have tJ:=al BA
       have i0:(0:Int)≤(i:Int):=zH _
       have i1:(i:Int)<(ms.length:Int):=by omega
       have bu:=al aM
       clear hl aT aM gY cJ BA ku qS yw
       go_wp2_with fail
       refine (ab HC).mono ?_
       rintro e w5 ⟨rfl,sV,jN⟩
       have ma:Hid (∃v,Pg W pg ((LB++is.flatMap ez)++(ms.take (i+1)).flatMap (fun m=>ct 0 aL m.nm (ck 32 (0+1) m))) v w5):=by show ∃_,_;rw[ab tJ];exact sV
       have vN:=al (jN _ _ _ _ (ab zf) (ab HB) (by decide))
       clear sV jN HC tJ c0 c1 c2 c3
       go_wp2
       go_roundg (ms.length-(i+1))
       case measure=>have:=ab bz;have:=ab bu;omega
       case rel=>exact ⟨i+1,by go_num,rfl,ab bu,ma,vN⟩
      ·obtain rfl:i=ms.length:=by omega
       have pH:=al (ab HP)
       rw[List.take_length] at pH
       have sI:=HB
       clear HP HB
       obtain ⟨wo6,VY⟩:∃x,x=wr:=⟨_,rfl⟩
       subst VY
       go_wp2
       go_loopg [7] es.length (fun gk v7 wr=>∃(i:Nat),v7=.int .i64 (i:Int)∧gk=es.length-i∧i≤es.length∧Hid (∃v,Pg W pg ((LB++is.flatMap ez++ms.flatMap (fun m=>ct 0 aL m.nm (ck 32 (0+1) m)))++(es.take i).flatMap (jO 0)) v wr)∧Hid (wr.heap[W.heap.size]?=some (.cells #[.string pk,.slice ai is.length ci,.slice am ms.length dk,.slice ae es.length dc] 26 (0,0))))
       case atStart=>exact ⟨0,rfl,rfl,by omega,by show ∃_,_;rw[List.take_zero,List.flatMap_nil,List.append_nil];exact ab pH,sI⟩
       case round =>
        obtain ⟨i,rfl,aW,eV,HP,HB⟩:=hrel
        have bz:=al aW
        clear aW pH sI
        obtain ⟨c0,c1,c2,c3⟩:=aP (ab HB)
        by_cases aM:i<es.length
        ·obtain ⟨up,yw⟩:=ab HP
         have aT:Below W.heap.size W wr:=yw.bU
         obtain ⟨g,o,rfl,hg,hc⟩:=ab wF (by omega)
         have hl:=List.getElem?_eq_getElem aM
         obtain ⟨t,ht⟩:∃d,es[i]=d:=⟨_,rfl⟩
         rw[ht] at hl
         obtain ⟨vv,BG,BJ,dV,rv,rr,rg⟩:=(ab wH).at i t hl
         have gY:=al (And.intro rv (And.intro rr rg))
         obtain ⟨av,cv,rfl,-,-⟩:=rv
         obtain ⟨ry,rp,rfl,-,-⟩:=rr
         obtain ⟨rz,ru,rfl,-,-⟩:=rg
         have key:∀(j:Nat) (x:Value),[Value.string t.name,.slice av t.aR.length cv,.slice ry t.res.length rp,.slice rz t.gone.length ru][j]?=some x→wr.cell? ⟨g,o+(i*4+j),none⟩=some x:=fun j x hx=>(aT.cell (p:=⟨g,o+(i*4+j),none⟩) hg).trans (hc _ _ (by
          rw[←dV,List.getElem?_take,List.getElem?_drop] at hx
          split at hx
          ·exact hx
          ·cases hx))
         have x0:wr.cell? ⟨g,o+i*4,none⟩=_:=key 0 _ rfl
         have x1:wr.cell? ⟨g,o+i*4+1,none⟩=_:=key 1 _ rfl
         have x2:wr.cell? ⟨g,o+i*4+2,none⟩=_:=key 2 _ rfl
         have x3:wr.cell? ⟨g,o+i*4+3,none⟩=_:=key 3 _ rfl
         clear hc ht key dV
         have cJ:=List.mem_of_getElem? hl
         have BA:(LB++is.flatMap ez++ms.flatMap (fun m=>ct 0 aL m.nm (ck 32 (0+1) m)))++(es.take (i+1)).flatMap (jO 0)=(LB++is.flatMap ez++ms.flatMap (fun m=>ct 0 aL m.nm (ck 32 (0+1) m)))++(es.take i).flatMap (jO 0)++jO 0 t:=by rw[bM hl,List.flatMap_append];simp
         have ku:=fC (jO 0) es (i+1)
         rw[bM hl,List.flatMap_append,zK,show [t].flatMap (jO 0)=jO 0 t by simp] at ku
         have qS:((LB++is.flatMap ez++ms.flatMap (fun m=>ct 0 aL m.nm (ck 32 (0+1) m)))++(es.take i).flatMap (jO 0)).length+(jO 0 t).length≤1099511627776:=by have:=ab HL;rw[zK];rw[zK,zK];omega
         have Si:=ab X8 t cJ
         have HC:=al (xj yw (ab HF) 0 (by omega) (ab gY).1 (ab gY).2.1 (ab gY).2.2 (ab Yo t cJ) Si.1 Si.2 qS)
         rw[show ((0:Nat):Int)=0 from rfl] at HC
         have tJ:=al BA
         have i0:(0:Int)≤(i:Int):=zH _
         have i1:(i:Int)<(es.length:Int):=by omega
         have bu:=al aM
         clear hl aT aM gY cJ BA ku qS yw
         go_wp2_with fail
         refine (ab HC).mono ?_
         rintro e w5 ⟨rfl,sV,jN⟩
         have ma:Hid (∃v,Pg W pg ((LB++is.flatMap ez++ms.flatMap (fun m=>ct 0 aL m.nm (ck 32 (0+1) m)))++(es.take (i+1)).flatMap (jO 0)) v w5):=by show ∃_,_;rw[ab tJ];exact sV
         have vN:=al (jN _ _ _ _ (ab zf) (ab HB) (by decide))
         clear sV jN HC tJ c0 c1 c2 c3
         go_wp2
         go_roundg (es.length-(i+1))
         case measure=>have:=ab bz;have:=ab bu;omega
         case rel=>exact ⟨i+1,by go_num,rfl,ab bu,ma,vN⟩
        ·obtain rfl:i=es.length:=by omega
         have pH:=al (ab HP)
         rw[List.take_length] at pH
         have sI:=HB
         clear HP HB
         obtain ⟨QL,VX⟩:∃x,x=wr:=⟨_,rfl⟩
         subst VX
         have Pp:Hid (∃v,Pg W pg (fG ⟨pk,is,ms,es⟩) v QL):=by show ∃_,_;rw[ab Es];exact ab pH
         clear pH Es
         obtain ⟨u,On⟩:=ab Pp
         have ey:=xr ⟨pk,is,ms,es⟩
         obtain ⟨T,hT⟩:∃T,fG ⟨pk,is,ms,es⟩=T:=⟨_,rfl⟩
         rw[hT] at On ey HLf
         have Ye:=al hT
         obtain ⟨au,cu,rfl⟩:=xX On
         have p0:QL.cell? ⟨pg,0,none⟩=some (.slice au T.length cu):=cell_of_row _ _ _ _ _ _ On.dt
         have Yk:=al On
         have HBy:=al ey
         have kI:(gE T).size=T.length:=j3 T
         clear hT Pp ey
         by_cases dF:65536<T.length
         ·have Hr:Hid (jQ (gE T)=.inr (0,2)):=pN (by omega)
          have f0:decide ((65536:Int)<(T.length:Int))=true:=decide_eq_true (by omega)
          have FY:Hid (R1=⟨#[]⟩∧R2=2):=by have h:=ab HR;rw[ab Ye,ab Hr] at h;cases h;exact ⟨rfl,rfl⟩
          clear On dF
          go_wp2
          go_ret2
          rw[(ab FY).1,(ab FY).2]
          exact ⟨rfl,(ab Yk).bU⟩
         ·have f0:decide ((65536:Int)<(T.length:Int))=false:=decide_eq_false (by omega)
          have l7:=k9 (show qA QL _ T from Bytes.has (show Bytes W.heap.size QL _ T from On.own)) (ab HBy)
          have HT:=al (zr QL (gE T))
          obtain ⟨t,ht⟩:∃t,jQ (gE T)=t:=⟨_,rfl⟩
          have Ht:=al ht
          clear On dF ht
          go_wp2_with fail
          refine (ab HT).mono ?_
          rintro e w8 ⟨Ss,hA⟩
          have MG:=(ab Yk).below Ss
          have p1:w8.cell? ⟨pg,0,none⟩=some (.slice au T.length cu):=cell_of_row _ _ _ _ _ _ MG.dt
          have aau:=k9 (show qA w8 _ T from Bytes.has (show Bytes W.heap.size w8 _ T from MG.own)) (ab HBy)
          have HP8:=al MG
          rw[ab Ht] at hA
          clear Ss MG HT Yk p0 l7
          cases t with
          |inl ts =>
           obtain ⟨x,rfl,hx⟩:=hA
           obtain ⟨ax,cx,rfl⟩:=bq hx
           have hle:=Gx (ab Ht)
           have f1:decide ((16384:Int)<(ts.length:Int))=false:=decide_eq_false (by omega)
           clear hx hle
           have FY:Hid (R1=gE T∧R2=0):=by have h:=ab HR;rw[ab Ye,ab Ht] at h;cases h;exact ⟨rfl,rfl⟩
           go_wp2
           go_ret2
           rw[(ab FY).1,(ab FY).2]
           exact ⟨rfl,(ab HP8).bU⟩
          |inr r =>
           obtain ⟨k,c⟩:=r
           obtain ⟨hc,rfl⟩:=hA
           have FY:Hid (R1=⟨#[]⟩∧R2=2):=by have h:=ab HR;rw[ab Ye,ab Ht] at h;cases h;exact ⟨rfl,rfl⟩
           have n0:((c:Int)==0)=false:=by simp;omega
           have n1:((c:Int) != 0)=true:=by simp;omega
           have n2:¬(c:Int)=0:=by omega
           go_wp2
           go_ret2
           rw[(ab FY).1,(ab FY).2]
           exact ⟨rfl,(ab HP8).bU⟩
theorem lD {W:World}{v vi vm ve:Value}{F:Fl}{cm ce:List Value} (hF:ir W) (qW:xE W v F vi vm ve cm ce) (ht:kG F≤1099511627776) :
  Calls Tryz.prog 15 #[v] W fun e w=>e=.returned (.int .i64 (fO F).2)∧Below W.heap.size W w:=by
 have bG:Below W.heap.size W (W.alloc (.cells #[.string F.jr,vi,vm,ve] 26)):=(zE _ _).alloc (zD _) _
 have k0:=aJ W (.cells #[.string F.jr,vi,vm,ve] 26)
 obtain ⟨V,hV⟩:∃V,W.alloc (.cells #[.string F.jr,vi,vm,ve] 26)=V:=⟨_,rfl⟩
 rw[hV] at bG k0
 have HT:=al (kP (hF.up bG) (qW.up bG) ht)
 have hv:=qW.is
 subst hv
 obtain ⟨⟨R1,R2⟩,hR⟩:∃R,fO F=R:=⟨_,rfl⟩
 rw[hR] at HT ⊢
 simp only at HT ⊢
 have HB:=al bG
 obtain ⟨ai,ci,rfl,RU,-⟩:=qW.hi
 obtain ⟨am,dk,rfl,IC,-⟩:=qW.hm
 obtain ⟨ae,dc,rfl,iP,-⟩:=qW.he
 obtain ⟨c0,c1,c2,c3⟩:=aP k0
 clear bG k0 qW hF ht hR
 go_enter Tryz.func15,Tryz.ntmps15
 go_wp2_with fail
 refine (ab HT).mono ?_
 rintro e w1 ⟨rfl,aX⟩
 have HE:=al ((ab HB).trans (aX.mono (ab HB).size))
 clear aX HT HB
 go_wp2
 go_ret
 exact ⟨rfl,ab HE⟩
end Go.Proofs.YtichhjfjcinjgaaGreatDoor
