import Derived.Test.YtichhjfjcinjgaaGreatDoorYDp
import Derived.Test.YtichhjfjcinjgaaGreatDoorM49
set_option maxHeartbeats 16000000
set_option maxRecDepth 100000
namespace Go.Proofs.YtichhjfjcinjgaaGreatDoor
open Go.RowKit
attribute [local go_sem ↓] Go.wp_at_zero Go.wp_at_succ
theorem z8 (s:ByteArray):aV 0 [⟨#[105,109,112,111,114,116,32]⟩++bA s++⟨#[59]⟩]=aV 0 [kX,bA s,bC]:=by
 unfold aV kX bC
 simp[ks]
theorem Gj (s:ByteArray):aV 0 [⟨#[112,97,99,107,97,103,101,32]⟩++s++⟨#[59]⟩]=aV 0 [kt,s,bC]:=by
 unfold aV kt bC
 simp[ks]
theorem mv {W:World}{v vi vm ve:Value}{F:Fl}{cm ce:List Value} (hF:jw W) (A5:A6 W v F vi vm ve cm ce) (ht:mL F≤1099511627776) :
  Calls Tryz.prog 12 #[v] W fun e w=>e=.returned (.tuple #[.string (kl F).1,.int .i64 (kl F).2])∧Below W.heap.size W w:=by
 have Wv:=D' A5 ht
 obtain ⟨pk,is,ms,es⟩:=F
 obtain ⟨rfl,hi,hm,ej,he,fl⟩:=A5
 simp only at hi hm ej he fl Wv ⊢
 obtain ⟨ai,ci,rfl,Th,li⟩:=hi
 obtain ⟨am,dh,rfl,Jp,lm⟩:=hm
 obtain ⟨ae,dc,rfl,iG,le⟩:=he
 have Lu:=al li
 have vH:=al lm
 have vI:=al le
 have vJ:=al ej
 have vK:=al fl
 have k0:=aK W (.cells #[.string pk,.slice ai is.length ci,.slice am ms.length dh,.slice ae es.length dc] 26)
 have bJ:Below W.heap.size W (W.alloc (.cells #[.string pk,.slice ai is.length ci,.slice am ms.length dh,.slice ae es.length dc] 26)):=(zE _ _).alloc (zD _) _
 have NH:W.heap.size<(W.alloc (.cells #[.string pk,.slice ai is.length ci,.slice am ms.length dh,.slice ae es.length dc] 26)).heap.size:=by rw[zJ];omega
 obtain ⟨V,hV⟩:∃V,W.alloc (.cells #[.string pk,.slice ai is.length ci,.slice am ms.length dh,.slice ae es.length dc] 26)=V:=⟨_,rfl⟩
 rw[hV] at k0 bJ NH
 have P6:=al (Wv V bJ)
 obtain ⟨c0,c1,c2,c3⟩:=a8 k0
 rw[←Cp] at P6
 have HB:=al bJ
 have HK:=al k0
 have OG:=al NH
 have HF:=al hF
 obtain ⟨⟨R1,R2⟩,hR⟩:∃R,kl ⟨pk,is,ms,es⟩=R:=⟨_,rfl⟩
 rw[hR]
 simp only
 have HR:=al hR
 unfold kl at HR
 obtain ⟨q,hq⟩:∃q,(lB ⟨pk,is,ms,es⟩).isSome=q:=⟨_,rfl⟩
 rw[hq] at P6 HR
 have Hq:=al hq
 clear Wv bJ k0 NH ej fl li lm le hF hq ht hR
 cases q with
 |false =>
  have Fe:Hid (R1=⟨#[]⟩∧R2=60):=by have h:=ab HR;rw[if_neg Bool.false_ne_true] at h;cases h;exact ⟨rfl,rfl⟩
  go_enter Tryz.func12,Tryz.ntmps12
  go_wp2_with fail
  refine (ab P6).mono ?_
  rintro e w1 ⟨rfl,aY⟩
  have HE:=al ((ab HB).trans (aY.mono (ab HB).size))
  clear aY P6 HB
  go_wp2
  go_ret2
  rw[(ab Fe).1,(ab Fe).2]
  exact ⟨rfl,ab HE⟩
 |true =>
  have VJ:=ab HR
  rw[if_pos rfl] at VJ
  clear HR
  have HR:=al VJ
  clear VJ
  obtain ⟨Q7,d1,d2,d3,d4,d5⟩:=wJ (ab Hq)
  have Hiz:Hid (∀s ∈ is,s.size≤1048576):=d2
  have XM:Hid (∀m ∈ ms,Jy 32 m):=d3
  have XN:Hid (∀e ∈ es,IV e):=d4
  have Mm:Hid (∀m ∈ ms,Oo 32 m):=Q7.ms
  have Xu:Hid (∀e ∈ es,e.name.size≤255∧∀v ∈ e.aQ,v.1.size≤255):=fun e he=>by
   have h1:=Q7.es e he
   unfold bc at h1
   simp only[Bool.and_eq_true] at h1
   refine ⟨dC h1.1.1.1.1,fun v hv=>?_⟩
   have h2:=List.all_eq_true.1 h1.1.1.2 v hv
   unfold ey at h2
   simp only[Bool.and_eq_true] at h2
   exact dC h2.1.1.1
  have HLf:=al d5
  obtain ⟨LA,Wp⟩:∃X,[]++aV 0 [⟨#[115,121,110,116,97,120,32,61,32,34,112,114,111,116,111,51,34,59]⟩]=X:=⟨_,rfl⟩
  obtain ⟨LB,KT⟩:∃X,LA++lF pk=X:=⟨_,rfl⟩
  have V6:fx ⟨pk,is,ms,es⟩=LB++is.flatMap ep++ms.flatMap (fun m=>cl 0 aL m.nm (cd 32 (0+1) m))++es.flatMap (jy 0):=by
   rw[←KT,←Wp,List.nil_append]
   unfold fx pB
   simp only[List.append_assoc]
   rfl
  have Pm:=d5
  rw[V6,zK,zK,zK] at Pm
  have HL:Hid (LB.length+(is.flatMap ep).length+(ms.flatMap (fun m=>cl 0 aL m.nm (cd 32 (0+1) m))).length+(es.flatMap (jy 0)).length≤1099511627776):=Pm
  have DN:=al V6
  have HLA:=al Wp
  have TX:=al KT
  have fC:LB.length=LA.length+(lF pk).length:=by rw[←KT,zK]
  have fX:LA.length+(lF pk).length≤1099511627776:=by omega
  have Hz1:=al fX
  clear fC fX Pm V6 Wp KT Q7 d1 d2 d3 d4 d5
  go_enter Tryz.func12,Tryz.ntmps12
  go_wp2_with fail
  refine (ab P6).mono ?_
  rintro e w1 ⟨rfl,aY⟩
  have NG:=(ab HB).trans (aY.mono (ab HB).size)
  have lO:=(aY.block _ (ab OG)).trans (ab HK)
  have kp:=aK w1 (.cells #[.slice none 0 0] 60)
  have bp:Below w1.heap.size w1 (w1.alloc (.cells #[.slice none 0 0] 60)):=(zE _ _).alloc (zD _) _
  obtain ⟨P,hP⟩:∃P,w1.alloc (.cells #[.slice none 0 0] 60)=P:=⟨_,rfl⟩
  rw[hP] at kp bp
  have KG:W.heap.size<w1.heap.size:=Nat.lt_of_lt_of_le (ab OG) aY.size
  have aaB:=al KG
  have lG:=(bp.block _ KG).trans lO
  have ZB:Pg W w1.heap.size [] (.slice none 0 0) P:=⟨NG.trans (bp.mono NG.size),Nat.le_of_lt KG,kp,World.ownsRow_nil _ _ _ _⟩
  have Ov:Hid (W.heap.size≠w1.heap.size):=by show _≠_;omega
  have hG:=da ZB 0 ⟨#[115,121,110,116,97,120,32,61,32,34,112,114,111,116,111,51,34,59]⟩ (by omega) (by decide)
  rw[ab HLA] at hG
  have HG:=al hG
  have fA:=al lG
  obtain ⟨pg,hpg⟩:∃b,w1.heap.size=b:=⟨_,rfl⟩
  rw[hpg] at HG Ov
  have yz:=Ov
  clear aY NG lO kp bp KG lG ZB hG P6 Ov HK HB OG
  go_wp2_with fail
  refine (ab HG).mono ?_
  rintro e w2 ⟨rfl,lI,lG⟩
  have cP:=al (lG _ _ _ _ (ab yz) (ab fA) (by decide))
  have fz:=al lI
  clear lI lG HG fA c0 c1 c2 c3
  obtain ⟨c0,c1,c2,c3⟩:=a8 (ab cP)
  go_upto_if 20 with fail
  go_cut [20] (fun _ wx=>Hid (∃v,Pg W pg LB v wx)∧Hid (wx.heap[W.heap.size]?=some (.cells #[.string pk,.slice ai is.length ci,.slice am ms.length dh,.slice ae es.length dc] 26 (0,0))))
  case first =>
   obtain ⟨q1,tU⟩:∃q,pk.toList.isEmpty=q:=⟨_,rfl⟩
   cases q1 with
   |true =>
    have HX:Hid (LB=LA):=by show _=_;rw[←ab TX];unfold lF;rw[if_pos tU,List.append_nil]
    rw[tU]
    clear tU
    go_wp2_with fail
    go_meet
    exact ⟨by show ∃_,_;rw[ab HX];exact ab fz,cP⟩
   |false =>
    have Ez:lF pk=aV 0 [⟨#[112,97,99,107,97,103,101,32]⟩++pk++⟨#[59]⟩]:=by rw[Gj];unfold lF;rw[if_neg (by rw[tU];exact Bool.false_ne_true)]
    obtain ⟨u2,lI⟩:=ab fz
    have hz:=ab Hz1
    rw[Ez,dP] at hz
    have hG:=da lI 0 (⟨#[112,97,99,107,97,103,101,32]⟩++pk++⟨#[59]⟩) (by omega) (by omega)
    rw[←Ez,ab TX] at hG
    have HG:=al hG
    rw[ByteArray.size_append,ByteArray.size_append] at hz
    have zp:pk.size≤1099511627776:=by omega
    have zp2:((⟨#[112,97,99,107,97,103,101,32]⟩:ByteArray)++pk).size≤1099511627776:=by rw[ByteArray.size_append];omega
    rw[tU]
    clear hz hG Ez lI tU
    go_wp2_with fail
    refine (ab HG).mono ?_
    rintro e w3 ⟨rfl,Dn,sv⟩
    have dX:=al (sv _ _ _ _ (ab yz) (ab cP) (by decide))
    have o4:=al Dn
    clear Dn sv HG
    go_wp2_with fail
    go_meet
    exact ⟨o4,dX⟩
  case rest =>
   obtain ⟨pb,se⟩:=hcut
   clear c0 c1 c2 c3 fz cP
   obtain ⟨c0,c1,c2,c3⟩:=a8 (ab se)
   go_wp2
   go_loopg [5] is.length (fun gk v5 wr=>∃(i:Nat),v5=.int .i64 (i:Int)∧gk=is.length-i∧i≤is.length∧Hid (∃v,Pg W pg (LB++(is.take i).flatMap (ep)) v wr)∧Hid (wr.heap[W.heap.size]?=some (.cells #[.string pk,.slice ai is.length ci,.slice am ms.length dh,.slice ae es.length dc] 26 (0,0))))
   case atStart=>exact ⟨0,rfl,rfl,by omega,by show ∃_,_;rw[List.take_zero,List.flatMap_nil,List.append_nil];exact ab pb,se⟩
   case round =>
    obtain ⟨i,rfl,aU,eO,HP,HB⟩:=hrel
    have bz:=al aU
    clear aU pb se
    obtain ⟨c0,c1,c2,c3⟩:=a8 (ab HB)
    by_cases aM:i<is.length
    ·obtain ⟨up,xR⟩:=ab HP
     have aS:Below W.heap.size W wr:=xR.bV
     obtain ⟨g,o,rfl,hg,hc⟩:=ab Lu (by omega)
     have hl:=List.getElem?_eq_getElem aM
     obtain ⟨s,hs⟩:∃d,is[i]=d:=⟨_,rfl⟩
     rw[hs] at hl
     have x0:=(aS.cell (p:=⟨g,o+i,none⟩) hg).trans (hc _ _ (dO hl))
     clear hc hs
     have cG:=List.mem_of_getElem? hl
     have A3:LB++(is.take (i+1)).flatMap (ep)=LB++(is.take i).flatMap (ep)++ep s:=by rw[bL hl,List.flatMap_append];simp
     have j6:=ft (ep) is (i+1)
     rw[bL hl,List.flatMap_append,zK,show [s].flatMap (ep)=ep s by simp] at j6
     have qw:(LB++(is.take i).flatMap (ep)).length+(ep s).length≤1099511627776:=by have:=ab HL;rw[zK];omega
     have hq:=ab Hiz s cG
     have HQ:=al (nu wr s hq)
     have zq:=tE hq
     have hil:(ep s).length=7+(bA s).size+1+1:=by unfold ep;rw[←z8,dP,ByteArray.size_append,ByteArray.size_append];have:(⟨#[105,109,112,111,114,116,32]⟩:ByteArray).size=7:=rfl;have:(⟨#[59]⟩:ByteArray).size=1:=rfl;omega
     have S2:Hid (∀w4,Below wr.heap.size wr w4→Calls Tryz.prog 26 #[.pointer (some ⟨pg,0,none⟩),.int .i64 0,.string (⟨#[105,109,112,111,114,116,32]⟩++bA s++⟨#[59]⟩)] w4 (Lm W pg (LB++(is.take i).flatMap ep++ep s) w4)):=by
      intro w4 gR
      have hG:=da (xR.below gR) 0 (⟨#[105,109,112,111,114,116,32]⟩++bA s++⟨#[59]⟩) (by omega) (by rw[ByteArray.size_append,ByteArray.size_append];have:(⟨#[105,109,112,111,114,116,32]⟩:ByteArray).size=7:=rfl;have:(⟨#[59]⟩:ByteArray).size=1:=rfl;omega)
      rw[z8] at hG
      exact hG
     obtain ⟨Q,hQ⟩:∃Q,bA s=Q:=⟨_,rfl⟩
     rw[hQ] at zq S2
     have HQ2:Hid (gp (34::jH s 0++[34])=Q):=hQ
     rw[ab HQ2] at HQ
     have z7:((⟨#[105,109,112,111,114,116,32]⟩:ByteArray)++Q).size≤4194400:=by rw[ByteArray.size_append];have:(⟨#[105,109,112,111,114,116,32]⟩:ByteArray).size=7:=rfl;omega
     clear hq hil hQ
     have s9:=al A3
     have i0:(0:Int)≤(i:Int):=zH _
     have i1:(i:Int)<(is.length:Int):=by omega
     have bu:=al aM
     clear hl aS aM cG A3 j6 qw xR
     go_wp2_with fail
     refine (ab HQ).mono ?_
     rintro e w4 ⟨rfl,gR⟩
     have HC:=al (ab S2 w4 gR)
     have CD:=al ((gR.block _ (zA (ab HB)).1).trans (ab HB))
     clear gR S2 HQ
     go_wp2_with fail
     refine (ab HC).mono ?_
     rintro e w5 ⟨rfl,sw,jx⟩
     have lL:Hid (∃v,Pg W pg (LB++(is.take (i+1)).flatMap (ep)) v w5):=by show ∃_,_;rw[ab s9];exact sw
     have u6:=al (jx _ _ _ _ (ab yz) (ab CD) (by decide))
     clear sw jx HC s9 c0 c1 c2 c3
     go_wp2
     go_roundg (is.length-(i+1))
     case measure=>have:=ab bz;have:=ab bu;omega
     case rel=>exact ⟨i+1,by go_num,rfl,ab bu,lL,u6⟩
    ·obtain rfl:i=is.length:=by omega
     have pb:=al (ab HP)
     rw[List.take_length] at pb
     have se:=HB
     clear HP HB
     obtain ⟨wo5,Vr⟩:∃x,x=wr:=⟨_,rfl⟩
     subst Vr
     go_wp2
     go_loopg [6] ms.length (fun gk v6 wr=>∃(i:Nat),v6=.int .i64 (i:Int)∧gk=ms.length-i∧i≤ms.length∧Hid (∃v,Pg W pg ((LB++is.flatMap ep)++(ms.take i).flatMap (fun m=>cl 0 aL m.nm (cd 32 (0+1) m))) v wr)∧Hid (wr.heap[W.heap.size]?=some (.cells #[.string pk,.slice ai is.length ci,.slice am ms.length dh,.slice ae es.length dc] 26 (0,0))))
     case atStart=>exact ⟨0,rfl,rfl,by omega,by show ∃_,_;rw[List.take_zero,List.flatMap_nil,List.append_nil];exact ab pb,se⟩
     case round =>
      obtain ⟨i,rfl,aU,eO,HP,HB⟩:=hrel
      have bz:=al aU
      clear aU pb se
      obtain ⟨c0,c1,c2,c3⟩:=a8 (ab HB)
      by_cases aM:i<ms.length
      ·obtain ⟨up,xR⟩:=ab HP
       have aS:Below W.heap.size W wr:=xR.bV
       obtain ⟨g,o,rfl,hg,hc⟩:=ab vH (by omega)
       have hl:=List.getElem?_eq_getElem aM
       obtain ⟨t,ht⟩:∃d,ms[i]=d:=⟨_,rfl⟩
       rw[ht] at hl
       obtain ⟨My,Mx,OY,Mz,Ba,Bc,xw,Dt,C8,qH,wM,CZ,Dr,Ix,Jv,dQ,fO⟩:=(ab vJ).at i t hl
       have gP:=al fO
       obtain ⟨E5,EY,rfl,-,-⟩:=fO.hf
       obtain ⟨DE,DB,rfl,-,-⟩:=fO.ho
       obtain ⟨AE,mc,rfl,-,-⟩:=fO.hm
       obtain ⟨E6,pM,rfl,-,-⟩:=fO.he
       obtain ⟨qQ,qN,rfl,-,-⟩:=fO.hr
       obtain ⟨qR,qP,rfl,-,-⟩:=fO.hg
       have key:∀(j:Nat) (x:Value),[Value.string xw,.slice E5 Dt.length EY,.slice DE C8.length DB,.slice AE qH.length mc,.slice E6 wM.length pM,.slice qQ CZ.length qN,.slice qR Dr.length qP][j]?=some x→wr.cell? ⟨g,o+(i*7+j),none⟩=some x:=fun j x hx=>(aS.cell (p:=⟨g,o+(i*7+j),none⟩) hg).trans (hc _ _ (by
        rw[←dQ,List.getElem?_take,List.getElem?_drop] at hx
        split at hx
        ·exact hx
        ·cases hx))
       have x0:wr.cell? ⟨g,o+i*7,none⟩=_:=key 0 _ rfl
       have x1:wr.cell? ⟨g,o+i*7+1,none⟩=_:=key 1 _ rfl
       have x2:wr.cell? ⟨g,o+i*7+2,none⟩=_:=key 2 _ rfl
       have x3:wr.cell? ⟨g,o+i*7+3,none⟩=_:=key 3 _ rfl
       have x4:wr.cell? ⟨g,o+i*7+4,none⟩=_:=key 4 _ rfl
       have x5:wr.cell? ⟨g,o+i*7+5,none⟩=_:=key 5 _ rfl
       have x6:wr.cell? ⟨g,o+i*7+6,none⟩=_:=key 6 _ rfl
       clear hc ht key dQ
       have cG:=List.mem_of_getElem? hl
       have A3:(LB++is.flatMap ep)++(ms.take (i+1)).flatMap (fun m=>cl 0 aL m.nm (cd 32 (0+1) m))=(LB++is.flatMap ep)++(ms.take i).flatMap (fun m=>cl 0 aL m.nm (cd 32 (0+1) m))++cl 0 aL t.nm (cd 32 (0+1) t):=by rw[bL hl,List.flatMap_append];simp
       have j6:=ft (fun m=>cl 0 aL m.nm (cd 32 (0+1) m)) ms (i+1)
       rw[bL hl,List.flatMap_append,zK,show [t].flatMap (fun m=>cl 0 aL m.nm (cd 32 (0+1) m))=cl 0 aL t.nm (cd 32 (0+1) t) by simp] at j6
       have qw:((LB++is.flatMap ep)++(ms.take i).flatMap (fun m=>cl 0 aL m.nm (cd 32 (0+1) m))).length+(cl 0 aL t.nm (cd 32 (0+1) t)).length≤1099511627776:=by have:=ab HL;rw[zK];rw[zK];omega
       have B7:t.nm=xw:=by rw[(ab gP).is];rfl
       rw[B7] at qw A3
       have HC:=al (oJ 32 W wr pg _ up 0 t _ _ _ _ _ _ _ _ _ _ _ _ _ _ _ xR (ab HF) (by omega) (ab gP) (ab XM t cG) (ab Mm t cG) qw)
       rw[show ((0:Nat):Int)=0 from rfl] at HC
       have s9:=al A3
       have i0:(0:Int)≤(i:Int):=zH _
       have i1:(i:Int)<(ms.length:Int):=by omega
       have bu:=al aM
       clear hl aS aM gP cG A3 j6 qw xR
       go_wp2_with fail
       refine (ab HC).mono ?_
       rintro e w5 ⟨rfl,sw,jx⟩
       have lL:Hid (∃v,Pg W pg ((LB++is.flatMap ep)++(ms.take (i+1)).flatMap (fun m=>cl 0 aL m.nm (cd 32 (0+1) m))) v w5):=by show ∃_,_;rw[ab s9];exact sw
       have u6:=al (jx _ _ _ _ (ab yz) (ab HB) (by decide))
       clear sw jx HC s9 c0 c1 c2 c3
       go_wp2
       go_roundg (ms.length-(i+1))
       case measure=>have:=ab bz;have:=ab bu;omega
       case rel=>exact ⟨i+1,by go_num,rfl,ab bu,lL,u6⟩
      ·obtain rfl:i=ms.length:=by omega
       have pb:=al (ab HP)
       rw[List.take_length] at pb
       have se:=HB
       clear HP HB
       obtain ⟨wo6,Vq⟩:∃x,x=wr:=⟨_,rfl⟩
       subst Vq
       go_wp2
       go_loopg [7] es.length (fun gk v7 wr=>∃(i:Nat),v7=.int .i64 (i:Int)∧gk=es.length-i∧i≤es.length∧Hid (∃v,Pg W pg ((LB++is.flatMap ep++ms.flatMap (fun m=>cl 0 aL m.nm (cd 32 (0+1) m)))++(es.take i).flatMap (jy 0)) v wr)∧Hid (wr.heap[W.heap.size]?=some (.cells #[.string pk,.slice ai is.length ci,.slice am ms.length dh,.slice ae es.length dc] 26 (0,0))))
       case atStart=>exact ⟨0,rfl,rfl,by omega,by show ∃_,_;rw[List.take_zero,List.flatMap_nil,List.append_nil];exact ab pb,se⟩
       case round =>
        obtain ⟨i,rfl,aU,eO,HP,HB⟩:=hrel
        have bz:=al aU
        clear aU pb se
        obtain ⟨c0,c1,c2,c3⟩:=a8 (ab HB)
        by_cases aM:i<es.length
        ·obtain ⟨up,xR⟩:=ab HP
         have aS:Below W.heap.size W wr:=xR.bV
         obtain ⟨g,o,rfl,hg,hc⟩:=ab vI (by omega)
         have hl:=List.getElem?_eq_getElem aM
         obtain ⟨t,ht⟩:∃d,es[i]=d:=⟨_,rfl⟩
         rw[ht] at hl
         obtain ⟨vv,Ba,Bc,dQ,rv,rr,rg⟩:=(ab vK).at i t hl
         have gP:=al (And.intro rv (And.intro rr rg))
         obtain ⟨av,cv,rfl,-,-⟩:=rv
         obtain ⟨qQ,qN,rfl,-,-⟩:=rr
         obtain ⟨qR,qP,rfl,-,-⟩:=rg
         have key:∀(j:Nat) (x:Value),[Value.string t.name,.slice av t.aQ.length cv,.slice qQ t.res.length qN,.slice qR t.gone.length qP][j]?=some x→wr.cell? ⟨g,o+(i*4+j),none⟩=some x:=fun j x hx=>(aS.cell (p:=⟨g,o+(i*4+j),none⟩) hg).trans (hc _ _ (by
          rw[←dQ,List.getElem?_take,List.getElem?_drop] at hx
          split at hx
          ·exact hx
          ·cases hx))
         have x0:wr.cell? ⟨g,o+i*4,none⟩=_:=key 0 _ rfl
         have x1:wr.cell? ⟨g,o+i*4+1,none⟩=_:=key 1 _ rfl
         have x2:wr.cell? ⟨g,o+i*4+2,none⟩=_:=key 2 _ rfl
         have x3:wr.cell? ⟨g,o+i*4+3,none⟩=_:=key 3 _ rfl
         clear hc ht key dQ
         have cG:=List.mem_of_getElem? hl
         have A3:(LB++is.flatMap ep++ms.flatMap (fun m=>cl 0 aL m.nm (cd 32 (0+1) m)))++(es.take (i+1)).flatMap (jy 0)=(LB++is.flatMap ep++ms.flatMap (fun m=>cl 0 aL m.nm (cd 32 (0+1) m)))++(es.take i).flatMap (jy 0)++jy 0 t:=by rw[bL hl,List.flatMap_append];simp
         have j6:=ft (jy 0) es (i+1)
         rw[bL hl,List.flatMap_append,zK,show [t].flatMap (jy 0)=jy 0 t by simp] at j6
         have qw:((LB++is.flatMap ep++ms.flatMap (fun m=>cl 0 aL m.nm (cd 32 (0+1) m)))++(es.take i).flatMap (jy 0)).length+(jy 0 t).length≤1099511627776:=by have:=ab HL;rw[zK];rw[zK,zK];omega
         have RB:=ab Xu t cG
         have HC:=al (wG xR (ab HF) 0 (by omega) (ab gP).1 (ab gP).2.1 (ab gP).2.2 (ab XN t cG) RB.1 RB.2 qw)
         rw[show ((0:Nat):Int)=0 from rfl] at HC
         have s9:=al A3
         have i0:(0:Int)≤(i:Int):=zH _
         have i1:(i:Int)<(es.length:Int):=by omega
         have bu:=al aM
         clear hl aS aM gP cG A3 j6 qw xR
         go_wp2_with fail
         refine (ab HC).mono ?_
         rintro e w5 ⟨rfl,sw,jx⟩
         have lL:Hid (∃v,Pg W pg ((LB++is.flatMap ep++ms.flatMap (fun m=>cl 0 aL m.nm (cd 32 (0+1) m)))++(es.take (i+1)).flatMap (jy 0)) v w5):=by show ∃_,_;rw[ab s9];exact sw
         have u6:=al (jx _ _ _ _ (ab yz) (ab HB) (by decide))
         clear sw jx HC s9 c0 c1 c2 c3
         go_wp2
         go_roundg (es.length-(i+1))
         case measure=>have:=ab bz;have:=ab bu;omega
         case rel=>exact ⟨i+1,by go_num,rfl,ab bu,lL,u6⟩
        ·obtain rfl:i=es.length:=by omega
         have pb:=al (ab HP)
         rw[List.take_length] at pb
         have se:=HB
         clear HP HB
         obtain ⟨Qc,Vp⟩:∃x,x=wr:=⟨_,rfl⟩
         subst Vp
         have OK:Hid (∃v,Pg W pg (fx ⟨pk,is,ms,es⟩) v Qc):=by show ∃_,_;rw[ab DN];exact ab pb
         clear pb DN
         obtain ⟨u,NK⟩:=ab OK
         have eo:=wK ⟨pk,is,ms,es⟩
         obtain ⟨T,hT⟩:∃T,fx ⟨pk,is,ms,es⟩=T:=⟨_,rfl⟩
         rw[hT] at NK eo HLf
         have XB:=al hT
         obtain ⟨au,cu,rfl⟩:=xu NK
         have p0:Qc.cell? ⟨pg,0,none⟩=some (.slice au T.length cu):=cell_of_row _ _ _ _ _ _ NK.dj
         have XJ:=al NK
         have HBy:=al eo
         have lz:(gp T).size=T.length:=jJ T
         clear hT OK eo
         by_cases dB:65536<T.length
         ·have Hr:Hid (jA (gp T)=.inr (0,2)):=pn (by omega)
          have f0:decide ((65536:Int)<(T.length:Int))=true:=decide_eq_true (by omega)
          have Fe:Hid (R1=⟨#[]⟩∧R2=2):=by have h:=ab HR;rw[ab XB,ab Hr] at h;cases h;exact ⟨rfl,rfl⟩
          clear NK dB
          go_wp2
          go_ret2
          rw[(ab Fe).1,(ab Fe).2]
          exact ⟨rfl,(ab XJ).bV⟩
         ·have f0:decide ((65536:Int)<(T.length:Int))=false:=decide_eq_false (by omega)
          have lH:=kJ (show pT Qc _ T from Bytes.has (show Bytes W.heap.size Qc _ T from NK.own)) (ab HBy)
          have HT:=al (yE Qc (gp T))
          obtain ⟨t,ht⟩:∃t,jA (gp T)=t:=⟨_,rfl⟩
          have Ht:=al ht
          clear NK dB ht
          go_wp2_with fail
          refine (ab HT).mono ?_
          rintro e w8 ⟨RL,hA⟩
          have L4:=(ab XJ).below RL
          have p1:w8.cell? ⟨pg,0,none⟩=some (.slice au T.length cu):=cell_of_row _ _ _ _ _ _ L4.dj
          have aaq:=kJ (show pT w8 _ T from Bytes.has (show Bytes W.heap.size w8 _ T from L4.own)) (ab HBy)
          have HP8:=al L4
          rw[ab Ht] at hA
          clear RL L4 HT XJ p0 lH
          cases t with
          |inl ts =>
           obtain ⟨x,rfl,hx⟩:=hA
           obtain ⟨ax,cx,rfl⟩:=bq hx
           have hle:=FP (ab Ht)
           have f1:decide ((16384:Int)<(ts.length:Int))=false:=decide_eq_false (by omega)
           clear hx hle
           have Fe:Hid (R1=gp T∧R2=0):=by have h:=ab HR;rw[ab XB,ab Ht] at h;cases h;exact ⟨rfl,rfl⟩
           go_wp2
           go_ret2
           rw[(ab Fe).1,(ab Fe).2]
           exact ⟨rfl,(ab HP8).bV⟩
          |inr r =>
           obtain ⟨k,c⟩:=r
           obtain ⟨hc,rfl⟩:=hA
           have Fe:Hid (R1=⟨#[]⟩∧R2=2):=by have h:=ab HR;rw[ab XB,ab Ht] at h;cases h;exact ⟨rfl,rfl⟩
           have n0:((c:Int)==0)=false:=by simp;omega
           have n1:((c:Int) != 0)=true:=by simp;omega
           have n2:¬(c:Int)=0:=by omega
           go_wp2
           go_ret2
           rw[(ab Fe).1,(ab Fe).2]
           exact ⟨rfl,(ab HP8).bV⟩
end Go.Proofs.YtichhjfjcinjgaaGreatDoor
