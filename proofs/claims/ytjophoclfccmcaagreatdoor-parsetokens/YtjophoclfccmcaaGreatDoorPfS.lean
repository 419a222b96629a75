import Derived.Test.YtjophoclfccmcaaGreatDoorM41
set_option maxHeartbeats 8000000
set_option maxRecDepth 100000
namespace Go.Proofs.YtjophoclfccmcaaGreatDoor
open Go.RowKit
attribute [local go_sem ↓] Go.wp_at_zero Go.wp_at_succ
def EnQ (lo b:Nat) (W:World) (r:Except (Int×Int) (En×ay)) (e:Ending) (w:World):Prop:=W.grownBy w (some b)∧Zr lo w b (aT r)∧∃(x:En) (a1:Option Addr) (c1:Nat) (a2:Option Addr) (c2:Nat) (a3:Option Addr) (c3:Nat),e=.returned (.agg #[.string x.name,.slice a1 x.bS.length c1,.slice a2 x.res.length c2,.slice a3 x.gone.length c3])∧Sl W.heap.size [] w (ES x (.slice a1 x.bS.length c1) (.slice a2 x.res.length c2) (.slice a3 x.gone.length c3))∧∀a s,r=.ok (a,s)→a=x
def M3:PX→Bool
 |.ok _=>true
 |.error _=>false
theorem Sl.less {l:Nat}{L L':List Nat}{w:World}{ss:List Slot} (h:Sl l L w ss) (hl:∀k ∈ L',k ∈ L):Sl l L' w ss:=⟨h.own,h.apart,fun i sl k hi hk hm=>h.q i sl k hi hk (hl k hm),fun k hk=>h.lt k (hl k hk)⟩
theorem MA (l:List (Int×Int)):∀u ∈ qG l,u.oneCell'=true:=by
 intro u hu
 unfold qG at hu
 obtain ⟨p,_,hp⟩:=List.mem_flatMap.1 hu
 simp at hp
 rcases hp with rfl|rfl<;>rfl
theorem Ih (l:List ByteArray):∀u ∈ dR l,u.oneCell'=true:=by
 intro u hu
 unfold dR at hu
 obtain ⟨p,_,rfl⟩:=List.mem_map.1 hu
 rfl
theorem Mu {W w:World}{lo b g:Nat}{R:PX}{b0 b1 b2 b3:Value}{T:TypeId} (hg:W.grownBy w (some b)) (hz:Zr lo w b R) (hl:lo≤W.heap.size) (hW:W.heap.size≤g) (hr:w.heap[g]?=some (.cells #[b0,b1,b2,b3] T (0,0))) (a0 a1 a2 a3:Value) :
  ((((w.setCell ⟨g,0,none⟩ a0).setCell ⟨g,1,none⟩ a1).setCell ⟨g,2,none⟩ a2).setCell ⟨g,3,none⟩ a3).heap[g]?=some (.cells #[a0,a1,a2,a3] T (0,0))∧W.grownBy ((((w.setCell ⟨g,0,none⟩ a0).setCell ⟨g,1,none⟩ a1).setCell ⟨g,2,none⟩ a2).setCell ⟨g,3,none⟩ a3) (some b)∧Zr lo ((((w.setCell ⟨g,0,none⟩ a0).setCell ⟨g,1,none⟩ a1).setCell ⟨g,2,none⟩ a2).setCell ⟨g,3,none⟩ a3) b R∧w.grownBy ((((w.setCell ⟨g,0,none⟩ a0).setCell ⟨g,1,none⟩ a1).setCell ⟨g,2,none⟩ a2).setCell ⟨g,3,none⟩ a3) (some g):=by
 obtain ⟨h0,g0⟩:=aC (j:=0) hr a0
 obtain ⟨h1,g1⟩:=aC (j:=1) h0 a1
 obtain ⟨h2,g2⟩:=aC (j:=2) h1 a2
 obtain ⟨h3,g3⟩:=aC (j:=3) h2 a3
 have gg:=((g0.trans g1).trans g2).trans g3
 exact ⟨h3,cx hg gg hW,hz.gu gg (Nat.le_trans hl hW),gg⟩
theorem G5 {W:World}{lo b:Nat}{R:PX} (h:Zr lo W b R) (hk:∀s,R=.ok s→aJ s.here 1 lj=true):Calls Tryz.prog 41 #[.pointer (some ⟨b,0,none⟩)] W (EnQ lo b W (al R db)):=by
 obtain ⟨i0,hi,zy,zx,jK⟩:=info_parts ry
 obtain ⟨j0,hj,Tq,Tp,To⟩:=info_parts FV
 obtain ⟨k0,hkk,Xr,U8,Xq⟩:=info_parts Vh
 have cB:=h.low
 have l9:Hid (lq R):=h.2
 have HK:=ab hk
 have HZ:=ab h
 have HG:Hid (W.grownBy W (some b)):=zI _ _
 clear h hk
 have Vm:b<W.heap.size:=by have:=(aa HG).size;omega
 have AQ:W.heap.size≤W.heap.size:=by have:=(aa HG).size;omega
 have aV:=ab (aH (W) (.cells #[.string ⟨#[]⟩,.slice none 0 0,.slice none 0 0,.slice none 0 0] 71))
 replace HZ:=ab ((aa HZ).up ((zE _ _).alloc (zD _) (.cells #[.string ⟨#[]⟩,.slice none 0 0,.slice none 0 0,.slice none 0 0] 71)))
 replace HG:=ab ((aa HG).trans (aO ((zE _ _).alloc (zD _) (.cells #[.string ⟨#[]⟩,.slice none 0 0,.slice none 0 0,.slice none 0 0] 71)) (some b)))
 go_enter Tryz.func41,Tryz.ntmps41
 have qC:=seen (aa aV)
 have qu:=aS (aa aV)
 go_wp2_with fail
 refine (gf (aa HZ)).mono ?_
 rintro e w1 ⟨⟨kt,pt,tt⟩,rfl,hb,hp⟩
 clear qC qu
 have pB:=ab hp
 replace HZ:=ab ((aa HZ).up hb)
 have hg:=aO hb (some b)
 replace aV:=ab (ax hg (aa aV) (by omega))
 replace HG:=ab ((aa HG).trans hg)
 clear hb hp hg
 unfold Tk.val
 have NZ:b<w1.heap.size:=by have:=(aa HG).size;omega
 have RN:W.heap.size≤w1.heap.size:=by have:=(aa HG).size;omega
 have DV:W.heap.size<w1.heap.size:=by have h:=(zA (aa aV)).1;exact h
 replace aV:=ab (bL (aa aV) (.cells #[.int .i64 kt,.int .i64 pt,.string tt] 38))
 have aZ:=ab (aH (w1) (.cells #[.int .i64 kt,.int .i64 pt,.string tt] 38))
 replace HZ:=ab ((aa HZ).up ((zE _ _).alloc (zD _) (.cells #[.int .i64 kt,.int .i64 pt,.string tt] 38)))
 replace HG:=ab ((aa HG).trans (aO ((zE _ _).alloc (zD _) (.cells #[.int .i64 kt,.int .i64 pt,.string tt] 38)) (some b)))
 have qB:=seen (aa aV)
 have qt:=aS (aa aV)
 have lY:=seen (aa aZ)
 have lU:=aS (aa aZ)
 go_wp2_with fail
 refine (eu (aa HZ) ⟨kt,pt,tt⟩).mono ?_
 rintro e w2 ⟨hg,hz,v2,rfl,BT,zz⟩
 clear qB qt lY lU
 replace HZ:=ab hz
 replace aV:=ab (ax hg (aa aV) (by omega))
 replace aZ:=ab (ax hg (aa aZ) (by omega))
 replace HG:=ab ((aa HG).trans hg)
 clear hg hz
 obtain rfl:=BT
 clear zz
 have rQ:=seen (aa aV)
 have rG:=aS (aa aV)
 have oK:=seen (aa aZ)
 have oA:=aS (aa aZ)
 go_wp2_with fail
 refine (oQ (aa HZ) lj).mono ?_
 rintro e w3 ⟨hg,hz,v3,rfl,ni,lv⟩
 clear rQ rG oK oA
 replace HZ:=ab hz
 replace aV:=ab (ax hg (aa aV) (by omega))
 replace aZ:=ab (ax hg (aa aZ) (by omega))
 replace HG:=ab ((aa HG).trans hg)
 clear hg hz
 obtain rfl:=ni
 clear lv
 have oM:=seen (aa aV)
 have oD:=aS (aa aV)
 have oJ:=seen (aa aZ)
 have oy:=aS (aa aZ)
 go_wp2_with fail
 refine (lB (aa HZ)).mono ?_
 rintro e w4 ⟨hg,hz,v4,rfl,qi,qI⟩
 clear oM oD oJ oy
 replace HZ:=ab hz
 replace aV:=ab (ax hg (aa aV) (by omega))
 replace aZ:=ab (ax hg (aa aZ) (by omega))
 replace HG:=ab ((aa HG).trans hg)
 clear hg hz
 obtain ⟨nm,rfl,jq⟩:=qi
 have HS:=ab (OZ (aa l9) (aa pB) (aa HK) (aa HZ).2 qI)
 clear qI jq l9 pB HK
 have Vl:b<w4.heap.size:=by have:=(aa HG).size;omega
 have N3:W.heap.size≤w4.heap.size:=by have:=(aa HG).size;omega
 have Kz:W.heap.size<w4.heap.size:=by have h:=(zA (aa aV)).1;exact h
 have F7:w1.heap.size<w4.heap.size:=by have h:=(zA (aa aZ)).1;exact h
 replace aV:=ab (bL (aa aV) (.cells #[.string nm,.slice none 0 0,.slice none 0 0,.slice none 0 0] 71))
 replace aZ:=ab (bL (aa aZ) (.cells #[.string nm,.slice none 0 0,.slice none 0 0,.slice none 0 0] 71))
 have bF:=ab (aH (w4) (.cells #[.string nm,.slice none 0 0,.slice none 0 0,.slice none 0 0] 71))
 replace HZ:=ab ((aa HZ).up ((zE _ _).alloc (zD _) (.cells #[.string nm,.slice none 0 0,.slice none 0 0,.slice none 0 0] 71)))
 replace HG:=ab ((aa HG).trans (aO ((zE _ _).alloc (zD _) (.cells #[.string nm,.slice none 0 0,.slice none 0 0,.slice none 0 0] 71)) (some b)))
 have oL:=seen (aa aV)
 have oC:=aS (aa aV)
 have oI:=seen (aa aZ)
 have ox:=aS (aa aZ)
 have y9:=seen (aa bF)
 have yX:=aS (aa bF)
 go_wp2_with fail
 refine (eW (aa HZ) ⟨#[123]⟩).mono ?_
 rintro e w5 ⟨hg,hz,v5,rfl,BS,nD⟩
 clear oL oC oI ox y9 yX
 replace HZ:=ab hz
 replace aV:=ab (ax hg (aa aV) (by omega))
 replace aZ:=ab (ax hg (aa aZ) (by omega))
 replace bF:=ab (ax hg (aa bF) (by omega))
 replace HG:=ab ((aa HG).trans hg)
 clear hg hz
 obtain rfl:=BS
 clear nD
 obtain ⟨R4,IJ⟩:∃R4,R4=aT (al (aT (al (aT (al (aT (al R (aP pt))) (cl lj))) aR)) (au ⟨#[123]⟩)):=⟨_,rfl⟩
 rw[←IJ] at HZ HS
 obtain ⟨F0,sP⟩:∃F0,F0=al R db:=⟨_,rfl⟩
 rw[←sP] at HS
 have E5:=ab sP
 obtain ⟨xi,Xs⟩:∃i,i=w4.heap.size:=⟨_,rfl⟩
 obtain ⟨ti,IA⟩:∃i,i=w1.heap.size:=⟨_,rfl⟩
 rw[←Xs] at bF Vl N3 Kz F7 ⊢
 rw[←IA] at aZ NZ RN DV F7 ⊢
 clear IJ sP Xs IA
 have Qj:Sl W.heap.size [xi,ti,W.heap.size] w5 (ES ⟨nm,[],[],[]⟩ (.slice none 0 0) (.slice none 0 0) (.slice none 0 0)):=by
  refine ⟨fun i sl hs=>?_,fun i j a c hij ha hc k hk=>?_,fun i sl k hs hk=>?_,fun k hk=>?_⟩
  ·match i,hs with
   |0,hs=>cases hs;exact World.ownsRow_nil _ _ _ _
   |1,hs=>cases hs;exact World.ownsRow_nil _ _ _ _
   |2,hs=>cases hs;exact World.ownsRow_nil _ _ _ _
   |i+3,hs=>cases hs
  ·match i,ha with
   |0,ha=>cases ha;cases hk
   |1,ha=>cases ha;cases hk
   |2,ha=>cases ha;cases hk
   |i+3,ha=>cases ha
  ·match i,hs with
   |0,hs=>cases hs;cases hk
   |1,hs=>cases hs;cases hk
   |2,hs=>cases hs;cases hk
   |i+3,hs=>cases hs
  ·have e1:=(zA (aa bF)).1
   have e2:=(zA (aa aZ)).1
   have e3:=(zA (aa aV)).1
   simp only[List.mem_cons,List.not_mem_nil,or_false] at hk
   rcases hk with rfl|rfl|rfl
   ·exact e1
   ·exact e2
   ·exact e3
 have HE:Hid (Xh W lo b W.heap.size ti xi nm F0 gT ⟨nm,[],[],[]⟩ R4 w5):=⟨aa HG,aa HZ,aa aV,⟨_,_,_,aa aZ⟩,⟨none,0,none,0,none,0,aa bF,Qj⟩,rfl,aa HS,⟨by simp,fun s e=>by have:=(aa HZ).2;rw[e] at this;have:=Gd.len this;simp;omega⟩⟩
 have mO:b<W.heap.size∧b<W.heap.size∧b<ti∧b<xi:=⟨by omega,by omega,by omega,by omega⟩
 clear Qj HG HZ aV aZ bF HS
 go_wp2
 go_loopg [5,6,7] (mR R4) (fun gk _ _ _ wr=>∃(x:En) (Rk:PX),gk=mR Rk∧Hid (Xh W lo b W.heap.size ti xi nm F0 gT x Rk wr))
 case atStart=>exact ⟨_,R4,rfl,HE⟩
 case round =>
  clear HE
  obtain ⟨x,Rk,eG,Av⟩:=hrel
  have zu:=ab eG
  clear eG
  obtain ⟨er,SH,her⟩:=(aa Av).z.err
  go_upto_region 6 with fail
  go_cut [29] from 20 to 84 (fun v29 wx=>v29=.bool (M3 Rk&&!(fU Rk 4 ⟨#[125]⟩))∧Hid (Below wr.heap.size wr wx))
  case first =>
   cases Rk with
   |error y =>
    replace her:(er==0)=false:=her
    go_wp2
    go_meet
    exact ⟨rfl,zE _ _⟩
   |ok s =>
    replace her:(er==0)=true:=her
    go_wp2_with fail
    refine (iw (aa Av).z 4 (by decide) ⟨#[125]⟩).mono ?_
    rintro e w0 ⟨rfl,hb⟩
    have HB:=ab hb
    clear hb
    go_wp2
    go_meet
    exact ⟨rfl,HB⟩
  case rest =>
  obtain ⟨zW,fP⟩:∃x,x=wc:=⟨_,rfl⟩
  subst fP
  obtain ⟨rfl,hb⟩:=hcut
  have hg:=aO (aa hb) (some b)
  have jV:=ab ((aa Av).kept mO hg ((aa Av).z.up (aa hb)) (aa Av).f (aa Av).l)
  clear hg hb SH her Av
  obtain ⟨q,hq⟩:∃q,(M3 Rk&&!(fU Rk 4 ⟨#[125]⟩))=q:=⟨_,rfl⟩
  rw[hq]
  have jx:=ab hq
  clear hq
  cases q with
  |true =>
   obtain ⟨s,rfl,Ty⟩:∃s,Rk=.ok s∧¬aJ s.here 4 ⟨#[125]⟩=true:=by
    have hq:=aa jx
    match Rk,hq with
    |.error y,hq=>cases hq
    |.ok s,hq =>
     refine ⟨s,rfl,?_⟩
     have:(true&&!(aJ s.here 4 ⟨#[125]⟩))=true:=hq
     intro h1
     rw[h1] at this
     cases this
   have zT:Hid (Gd s):=(aa jV).z.2
   have yI:F0=al (aT (al (.ok s) (dj [nw]))) (lK x):=by
    rw[←O5 (aa zT) Ty]
    exact (aa jV).f
   have Qz:=ab yI
   clear Ty yI jx
   have HW:=ab (mY zW [nw] 9)
   have qL:=(zE zW.heap.size zW).alloc (zD _) (.cells #[.string nw] 9)
   have Jl:=ab ((aa jV).z.up qL)
   have Lt:=ab (aO qL (some b))
   clear qL
   go_wp2_with fail
   refine (gY (aa Jl) (aa HW)).mono ?_
   rintro e LY ⟨hg,hz,v0,rfl,mD,-⟩
   obtain rfl:=mD
   obtain ⟨R5,um⟩:∃R5,R5=aT (al (.ok s) (dj [nw])):=⟨_,rfl⟩
   have jL:∀s',R5=.ok s'→s'=s:=by
    intro s' e
    rw[um,show al (.ok s) (dj [nw])=dj [nw] s from rfl] at e
    unfold dj at e
    split at e
    ·cases e
    ·cases e;rfl
   rw[←um] at hz
   have P6:Hid (F0=al R5 (lK x)):=by rw[um];exact aa Qz
   have CB:=ab jL
   have tj:Hid (pU 1000000000 (x.bS.length+x.res.length+x.gone.length) (.ok s)):=(aa jV).l
   have Jr:=ab ((aa jV).kept (G':=lK) mO ((aa Lt).trans hg) hz (aa P6) ⟨(aa tj).1,fun s' e=>by rw[jL s' e];exact (aa tj).2 s rfl⟩)
   clear jV
   clear hg hz jL um Qz P6 HW Jl Lt
   go_wp2_with fail
   refine (iw (aa Jr).z 4 (by decide) ⟨#[59]⟩).mono ?_
   rintro e w23 ⟨rfl,hb⟩
   have xN:=ab ((aa Jr).kept (G':=lK) mO (aO hb (some b)) ((aa Jr).z.up hb) (aa Jr).f (aa Jr).l)
   clear Jr
   clear hb
   obtain ⟨q,hq⟩:∃q,fU R5 4 ⟨#[59]⟩=q:=⟨_,rfl⟩
   rw[hq]
   have GZ:=ab hq
   clear hq
   cases q with
   |true =>
    obtain ⟨s1,rfl,nJ⟩:=fB (aa GZ)
    obtain rfl:=aa CB s1 rfl
    have dL:=eR (aa zT).en nJ (by decide)
    have LA:s1.nx.ts.length=s1.ts.length-1:=List.length_tail
    have pq:F0=al (kK (.ok s1)) (gT x):=by
     show F0=gT x s1.nx
     rw[←Nk nJ]
     exact (aa xN).f
    have rA:pU 1000000000 (x.bS.length+x.res.length+x.gone.length) (kK (.ok s1)):=(aa tj).next (by omega) (fun s' e=>by cases e;omega)
    obtain ⟨i,ci,fi,bD,ui⟩:=(aa xN).z.next (fun s' e=>by cases e;exact dL)
    obtain ⟨g1,z1⟩:=bD (wrap64 (i+1)) (fun s e=>eJ (ui s e))
    have lN:=ab ((aa xN).kept (G':=gT) mO g1 z1 pq rA)
    have HM:Hid (mR (kK (.ok s1))<gk):=by have:=aa zu;show s1.nx.ts.length+1<gk;rw[this];show _<s1.ts.length+1;omega
    clear g1 z1 bD ui pq rA nJ dL LA xN
    go_wp2
    go_roundg (mR (kK (.ok s1)))
    case measure=>exact aa HM
    case rel=>exact ⟨x,_,rfl,lN⟩
   |false =>
    go_wp2_with fail
    refine (iw (aa xN).z 1 (by decide) kq).mono ?_
    rintro e Xk ⟨rfl,hb⟩
    have fz:=ab ((aa xN).kept (G':=lK) mO (aO hb (some b)) ((aa xN).z.up hb) (aa xN).f (aa xN).l)
    clear xN
    clear hb
    obtain ⟨q,hq⟩:∃q,fU R5 1 kq=q:=⟨_,rfl⟩
    rw[hq]
    have wX:=ab hq
    clear hq
    cases q with
    |true =>
     obtain ⟨s1,rfl,nJ⟩:=fB (aa wX)
     obtain rfl:=aa CB s1 rfl
     have CK:=ab nJ
     have dL:=eR (aa zT).en nJ (by decide)
     have acI:=ab dL
     clear nJ dL
     go_wp2_with fail
     refine (tq (aa fz).z (fun s e=>by cases e;exact aa CK) true).mono ?_
     rintro e zw ⟨hg,hz,v1,v2,l1,l2,rfl,Og,hlen,hv⟩
     have pM:¬aJ s1.here 4 ⟨#[59]⟩=true:=by rw[show aJ s1.here 4 ⟨#[59]⟩=false from aa GZ];decide
     have pq:F0=al (aT (al (.ok s1) (gF true))) (gT { x with res:=x.res++l1,gone:=x.gone++l2 }):=by
      rw[←Rz pM (aa CK) hv]
      exact (aa fz).f
     have ot:∀s',aT (al (.ok s1) (gF true))=.ok s'→s'.ts.length<s1.ts.length:=by
      intro s' e
      rw[show al (.ok s1) (gF true)=gF true s1 from rfl] at e
      cases hr:gF true s1 with
      |error y=>rw[hr] at e;cases e
      |ok p =>
       rw[hr] at e
       cases e
       exact dP (yV (l:=p.1) hr) (aa acI)
     have rA:pU 1000000000 (x.bS.length+(x.res++l1).length+(x.gone++l2).length) (aT (al (.ok s1) (gF true))):=(aa tj).next (by rw[zK,zK];omega) ot
     have HM:Hid (mR (aT (al (.ok s1) (gF true)))<gk):=by
      have h1:=aa zu
      show _<gk
      rw[h1]
      cases hr:aT (al (.ok s1) (gF true)) with
      |error y=>show 0<s1.ts.length+1;omega
      |ok s'=>have:=ot s' hr;show s'.ts.length+1<s1.ts.length+1;omega
     have nB:=ab pq
     have HL2:=ab rA
     obtain ⟨tk,tp,ttx,ht⟩:=(aa fz).t
     obtain ⟨a1,c1,a2,c2,a3,c3,hx,hs⟩:=(aa fz).bx
     have bQ:∀(i:Nat) (sl:Slot) (k:Nat),(ES x (.slice a1 x.bS.length c1) (.slice a2 x.res.length c2) (.slice a3 x.gone.length c3))[i]?=some sl→sl.v.ownBlock=some k→k<Xk.heap.size:=fun i sl k h1 h2=>((hs.own i sl h1).lt k h2).2
     have ado:=hs.lt xi (by simp)
     have HNM:=ab (aa fz).n
     have WZ:=ab ((aa fz).g.trans hg)
     have aaO:=ab hz
     have SY:=ab (ax hg hx (by omega))
     have aaP:=ab (ax hg ht (by omega))
     have aaR:=ab (ax hg (aa fz).r (by omega))
     have SZ:=ab (hs.kept hg (.inl mO.1))
     have P7:=ab Og
     have CC:=ab hlen
     have lO:=ab bQ
     have adr:Xk.heap.size≤zw.heap.size:=hg.size
     have ck:W.heap.size≤zw.heap.size:=(aa WZ).size
     obtain ⟨va1,vc1,rfl⟩:=bY Og.r1
     obtain ⟨QG,QF,rfl⟩:=bY Og.r2
     clear hg hz Og hlen hv pM pq ot rA hx hs ht bQ fz
     obtain ⟨⟨Wm,Wl,Wk,Wj⟩,AT⟩:=cC (aa SY)
     have fx2:=AT 2
     have fx3:=AT 3
     clear AT
     have O1:Hid (x.res.length+l1.length≤maxLen):=by have:=(aa tj).1;have:=(aa CC).1;show _≤_;unfold maxLen;omega
     have O2:Hid ((x.res.length+l1.length)*16≤140737488355328):=by have:=(aa tj).1;have:=(aa CC).1;show _≤_;omega
     have O3:Hid (x.gone.length+l2.length≤maxLen):=by have:=(aa tj).1;have:=(aa CC).2;show _≤_;unfold maxLen;omega
     have O4:Hid ((x.gone.length+l2.length)*16≤140737488355328):=by have:=(aa tj).1;have:=(aa CC).2;show _≤_;omega
     have LQ:Hid (∀w',zw.grownBy w' (Value.slice a2 x.res.length c2).ownBlock→w'.cell? ⟨xi,2,none⟩=some (.slice a2 x.res.length c2)∧w'.frozen? ⟨xi,2,none⟩=false):=fun w' hg=>by
      have hm:xi ∈ [xi,ti,W.heap.size]:=List.mem_cons_self
      have h:=(aa SZ).lA (i:=1) rfl hm (aa SY) hg
      exact ⟨(cC h).1.2.2.1,(cC h).2 2⟩
     go_upto_region 20 with (at_builtin;go_loud (refine iO rfl _ _ 47 rfl W.heap.size 98 j0 (.agg #[.int .i64 0,.int .i64 0]) 2 16 Tryz.underlying47 hj Tq Tp To rfl (by decide) (.slice a2 x.res.length c2) x.res.length (qG x.res) rfl ((aa SZ).own 1 _ rfl) (.slice va1 l1.length vc1) l1.length Xk.heap.size (qG l1) rfl (aa P7).r1 (MA _) (aa O1) (aa O2) ck ?_;intro v4 C5 gz eM mG;have EM:=ab gz;have se:=ab eM;have Qc:=ab mG;obtain ⟨a4,c4,rfl⟩:=bY gz;obtain ⟨adL,adH⟩:=aa LQ C5 eM;clear gz eM mG))
     obtain ⟨k1,k2,k3,k4,k5,k6⟩:=Cr (j:=2) (aa SZ) (i:=1) rfl (zD _) cB.2 (aa WZ) (aa aaO) (aa SY) List.mem_cons_self N3 (aa EM) (aa se) (aa Qc)
     have Y6:=(aC (j:=2) k1 (.slice a4 (x.res.length+l1.length) c4)).1
     have WM:Hid ((C5.setCell ⟨xi,2,none⟩ (.slice a4 (x.res.length+l1.length) c4)).heap[xi]?=some (.cells #[.string nm,.slice a1 x.bS.length c1,.slice a4 (x.res.length+l1.length) c4,.slice a3 x.gone.length c3] 71 (0,0))):=Y6
     have acG:=ab (k5 ti _ (by simp) (by omega) (aa aaP))
     have acH:=ab (k5 W.heap.size _ (by simp) (by omega) (aa aaR))
     have WR:=ab k2
     have acL:=ab k3
     have acF:=ab k4
     have h27:(C5.setCell ⟨xi,2,none⟩ (.slice a4 (x.res.length+l1.length) c4)).ownsRow Xk.heap.size 9 1 (.slice QG l2.length QF) l2.length (dR l2):=by
      refine ((aa P7).r2.kept (aa se) ?_).kept k6 ?_
      ·by_cases e:(Value.slice QG l2.length QF).ownBlock=none
       ·exact .inl e
       ·refine .inr (fun q=>?_)
        obtain ⟨m,hm⟩:=Option.ne_none_iff_exists'.1 e
        have h1:=((aa P7).r2.lt m hm).1
        have h2:=aa lO 1 _ m rfl (by rw[←q];exact hm)
        omega
      ·by_cases e:(Value.slice QG l2.length QF).ownBlock=none
       ·exact .inl e
       ·refine .inr (fun q=>?_)
        have h1:=((aa P7).r2.lt xi q).1
        omega
     have H27:=ab h27
     have sM:W.heap.size≤(C5.setCell ⟨xi,2,none⟩ (.slice a4 (x.res.length+l1.length) c4)).heap.size:=k3.size
     clear k1 k2 k3 k4 k5 k6 Y6 h27 Wm Wl Wk Wj fx2 fx3 LQ EM se Qc SY aaP aaR SZ WZ aaO P7
     obtain ⟨⟨Wm,Wl,Wk,Wj⟩,AT⟩:=cC (aa WM)
     have fx3:=AT 3
     clear AT
     have LQ:Hid (∀w',(C5.setCell ⟨xi,2,none⟩ (.slice a4 (x.res.length+l1.length) c4)).grownBy w' (Value.slice a3 x.gone.length c3).ownBlock→w'.cell? ⟨xi,3,none⟩=some (.slice a3 x.gone.length c3)∧w'.frozen? ⟨xi,3,none⟩=false):=fun w' hg=>by
      have hm:xi ∈ [xi,ti,W.heap.size]:=List.mem_cons_self
      have h:=(aa WR).lA (i:=2) rfl hm (aa WM) hg
      exact ⟨(cC h).1.2.2.2,(cC h).2 3⟩
     go_wp2_with (at_builtin;refine iO rfl _ _ 22 rfl W.heap.size 9 i0 (.string ⟨#[]⟩) 1 16 Tryz.underlying22 hi zy zx jK rfl (by decide) (.slice a3 x.gone.length c3) x.gone.length (dR x.gone) rfl ((aa WR).own 2 _ rfl) (.slice QG l2.length QF) l2.length Xk.heap.size (dR l2) rfl (aa H27) (Ih _) (aa O3) (aa O4) sM ?_;intro v5 Tc oo kZ D3;have QA:=ab oo;have Jq:=ab kZ;have Yh:=ab D3;obtain ⟨a5,c5,rfl⟩:=bY oo;obtain ⟨aca,abS⟩:=aa LQ Tc kZ;clear oo kZ D3)
     obtain ⟨k1,k2,k3,k4,k5,k6⟩:=Cr (j:=3) (aa WR) (i:=2) rfl (zD _) cB.2 (aa acL) (aa acF) (aa WM) List.mem_cons_self N3 (aa QA) (aa Jq) (aa Yh)
     have N0:(Tc.setCell ⟨xi,3,none⟩ (.slice a5 (x.gone.length+l2.length) c5)).heap[xi]?=some (.cells #[.string nm,.slice a1 x.bS.length c1,.slice a4 (x.res.length+l1.length) c4,.slice a5 (x.gone.length+l2.length) c5] 71 (0,0)):=(aC (j:=3) k1 (.slice a5 (x.gone.length+l2.length) c5)).1
     have lN:Hid (Xh W lo b W.heap.size ti xi nm F0 gT { x with res:=x.res++l1,gone:=x.gone++l2 } (aT (al (.ok s1) (gF true))) (Tc.setCell ⟨xi,3,none⟩ (.slice a5 (x.gone.length+l2.length) c5))):=by
      refine ⟨k3,k4,k5 W.heap.size _ (by simp) (by omega) (aa acH),⟨_,_,_,k5 ti _ (by simp) (by omega) (aa acG)⟩,⟨a1,c1,a4,c4,a5,c5,?_,?_⟩,aa HNM,aa nB,aa HL2⟩
      ·simp only[zK]
       exact N0
      ·unfold ES at k2 ⊢
       simp only[zK,xk,mu]
       exact k2
     clear k1 k2 k3 k4 k5 k6 N0
     go_roundg (mR (aT (al (.ok s1) (gF true))))
     case measure=>exact aa HM
     case rel=>exact ⟨_,_,rfl,lN⟩
    |false =>
     obtain ⟨tk,tp,ttx,ht⟩:=(aa fz).t
     obtain ⟨a1,c1,a2,c2,a3,c3,hx,hs⟩:=(aa fz).bx
     have HG:=ab (aa fz).g
     have HZ:=ab (aa fz).z
     have aV:=ab (aa fz).r
     have aZ:=ab ht
     have bF:=ab hx
     have HO:=ab hs
     have HNM:=ab (aa fz).n
     have HF:=ab (aa fz).f
     have Uo:=ab (aa fz).z.2
     clear ht hx hs fz
     have qC:=seen (aa aV)
     have qu:=aS (aa aV)
     have Ch:=seen (aa aZ)
     have B2:=aS (aa aZ)
     have Gx:=seen (aa bF)
     have Gh:=aS (aa bF)
     go_wp2_with fail
     refine (gf (aa HZ)).mono ?_
     rintro e zw ⟨⟨ku,pu,tu⟩,rfl,hb,hp⟩
     clear qC qu Ch B2 Gx Gh
     have HPu:=ab hp
     replace HZ:=ab ((aa HZ).up hb)
     have hg:=aO hb (some b)
     replace aV:=ab (ax hg (aa aV) (by omega))
     replace aZ:=ab (ax hg (aa aZ) (by omega))
     replace bF:=ab (ax hg (aa bF) (by omega))
     replace HG:=ab ((aa HG).trans hg)
     replace HO:=ab ((aa HO).kept hg (.inl mO.1))
     clear hb hp hg
     unfold Tk.val
     have qB:=seen (aa aV)
     have qt:=aS (aa aV)
     have lY:=seen (aa aZ)
     have lU:=aS (aa aZ)
     have Gw:=seen (aa bF)
     have Gg:=aS (aa bF)
     obtain ⟨k0,g0⟩:=aC (j:=0) (aa aZ) (.int .i64 ku)
     obtain ⟨k1,g1⟩:=aC (j:=1) k0 (.int .i64 pu)
     obtain ⟨k2,g2⟩:=aC (j:=2) k1 (.string tu)
     have gg:=((g0.trans g1).trans g2)
     replace aV:=ab (ax gg (aa aV) (by omega))
     replace bF:=ab (ax gg (aa bF) (by omega))
     replace aZ:Hid ((((zw.setCell ⟨ti,0,none⟩ (.int .i64 ku)).setCell ⟨ti,1,none⟩ (.int .i64 pu)).setCell ⟨ti,2,none⟩ (.string tu)).heap[ti]?=some (.cells #[.int .i64 ku,.int .i64 pu,.string tu] 38 (0,0))):=k2
     replace HZ:=ab ((aa HZ).gu gg (by omega))
     replace HG:=ab (cx (aa HG) gg (by omega))
     replace HO:=ab ((aa HO).kept gg (.inr (by simp)))
     clear gg k0 g0 k1 g1 k2 g2
     have rQ:=seen (aa aV)
     have rG:=aS (aa aV)
     have oK:=seen (aa aZ)
     have oA:=aS (aa aZ)
     have K5:=seen (aa bF)
     have KN:=aS (aa bF)
     go_wp2_with fail
     refine (lB (aa HZ)).mono ?_
     rintro e C5 ⟨hg,hz,v26,rfl,Zq,Zb⟩
     clear qB qt lY lU Gw Gg rQ rG oK oA K5 KN
     replace HZ:=ab hz
     replace aV:=ab (ax hg (aa aV) (by omega))
     replace aZ:=ab (ax hg (aa aZ) (by omega))
     replace bF:=ab (ax hg (aa bF) (by omega))
     replace HG:=ab ((aa HG).trans hg)
     replace HO:=ab ((aa HO).kept hg (.inl mO.1))
     clear hg hz
     obtain ⟨x1,rfl,jo⟩:=Zq
     have HV1:=ab Zb
     clear Zb jo
     have Lx:b<C5.heap.size:=by have:=(aa HG).size;omega
     have EU:W.heap.size≤C5.heap.size:=by have:=(aa HG).size;omega
     have adB:W.heap.size<C5.heap.size:=by have h:=(zA (aa aV)).1;exact h
     have adz:ti<C5.heap.size:=by have h:=(zA (aa aZ)).1;exact h
     have adu:xi<C5.heap.size:=by have h:=(zA (aa bF)).1;exact h
     replace aV:=ab (bL (aa aV) (.cells #[.string x1,.int .i64 0] 73))
     replace aZ:=ab (bL (aa aZ) (.cells #[.string x1,.int .i64 0] 73))
     replace bF:=ab (bL (aa bF) (.cells #[.string x1,.int .i64 0] 73))
     have zS:=ab (aH (C5) (.cells #[.string x1,.int .i64 0] 73))
     replace HZ:=ab ((aa HZ).up ((zE _ _).alloc (zD _) (.cells #[.string x1,.int .i64 0] 73)))
     replace HG:=ab ((aa HG).trans (aO ((zE _ _).alloc (zD _) (.cells #[.string x1,.int .i64 0] 73)) (some b)))
     replace HO:=ab ((aa HO).box (.cells #[.string x1,.int .i64 0] 73))
     have oM:=seen (aa aV)
     have oD:=aS (aa aV)
     have oJ:=seen (aa aZ)
     have oy:=aS (aa aZ)
     have Cg:=seen (aa bF)
     have B1:=aS (aa bF)
     have acg:=seen (aa zS)
     have abX:=aS (aa zS)
     go_wp2_with fail
     refine (eu (aa HZ) ⟨ku,pu,tu⟩).mono ?_
     rintro e w27 ⟨hg,hz,v27,rfl,Zp,abx⟩
     clear oM oD oJ oy Cg B1 acg abX
     replace HZ:=ab hz
     replace aV:=ab (ax hg (aa aV) (by omega))
     replace aZ:=ab (ax hg (aa aZ) (by omega))
     replace bF:=ab (ax hg (aa bF) (by omega))
     replace zS:=ab (ax hg (aa zS) (by omega))
     replace HG:=ab ((aa HG).trans hg)
     replace HO:=ab ((aa HO).kept hg (.inl mO.1))
     clear hg hz
     obtain rfl:=Zp
     clear abx
     have oL:=seen (aa aV)
     have oC:=aS (aa aV)
     have oI:=seen (aa aZ)
     have ox:=aS (aa aZ)
     have y9:=seen (aa bF)
     have yX:=aS (aa bF)
     have acf:=seen (aa zS)
     have abW:=aS (aa zS)
     go_wp2_with fail
     refine (eW (aa HZ) ⟨#[61]⟩).mono ?_
     rintro e Tc ⟨hg,hz,v28,rfl,Zo,abw⟩
     clear oL oC oI ox y9 yX acf abW
     replace HZ:=ab hz
     replace aV:=ab (ax hg (aa aV) (by omega))
     replace aZ:=ab (ax hg (aa aZ) (by omega))
     replace bF:=ab (ax hg (aa bF) (by omega))
     replace zS:=ab (ax hg (aa zS) (by omega))
     replace HG:=ab ((aa HG).trans hg)
     replace HO:=ab ((aa HO).kept hg (.inl mO.1))
     clear hg hz
     obtain rfl:=Zo
     clear abw
     have xM:=ab (aa HZ).2
     have qA:=seen (aa aV)
     have qs:=aS (aa aV)
     have qz:=seen (aa aZ)
     have qp:=aS (aa aZ)
     have sY:=seen (aa bF)
     have sU:=aS (aa bF)
     have ace:=seen (aa zS)
     have abV:=aS (aa zS)
     go_wp2_with fail
     refine (si (aa HZ) true).mono ?_
     rintro e w29 ⟨hg,hz,v29,rfl,Zm,Za⟩
     clear qA qs qz qp sY sU ace abV
     replace HZ:=ab hz
     replace aV:=ab (ax hg (aa aV) (by omega))
     replace aZ:=ab (ax hg (aa aZ) (by omega))
     replace bF:=ab (ax hg (aa bF) (by omega))
     replace zS:=ab (ax hg (aa zS) (by omega))
     replace HG:=ab ((aa HG).trans hg)
     replace HO:=ab ((aa HO).kept hg (.inl mO.1))
     clear hg hz
     obtain ⟨n,⟨kw,pw,tw⟩,rfl⟩:=Zm
     have HV4:Hid (∀a s,al (aT (al (aT (al (aT (al R5 aR)) (aP pu))) (au ⟨#[61]⟩))) (jc true)=.ok (a,s)→a=(n,(⟨kw,pw,tw⟩:Tk))):=fun a s e=>BD (Za a s e)
     clear Za
     unfold Tk.val
     have Gy:=seen (aa aV)
     have Gk:=aS (aa aV)
     have Ei:=seen (aa aZ)
     have D7:=aS (aa aZ)
     have Gv:=seen (aa bF)
     have Gf:=aS (aa bF)
     have acd:=seen (aa zS)
     have abU:=aS (aa zS)
     obtain ⟨k1,g1⟩:=aC (j:=1) (aa zS) (.int .i64 n)
     replace aV:=ab (ax g1 (aa aV) (by omega))
     replace aZ:=ab (ax g1 (aa aZ) (by omega))
     replace bF:=ab (ax g1 (aa bF) (by omega))
     replace zS:Hid ((w29.setCell ⟨C5.heap.size,1,none⟩ (.int .i64 n)).heap[C5.heap.size]?=some (.cells #[.string x1,.int .i64 n] 73 (0,0))):=k1
     replace HZ:=ab ((aa HZ).gu g1 (by omega))
     replace HG:=ab (cx (aa HG) g1 (by omega))
     replace HO:=ab ((aa HO).kept g1 (.inr (by simp)))
     clear k1 g1
     have K6:=seen (aa aV)
     have KS:=aS (aa aV)
     have Eh:=seen (aa aZ)
     have D6:=aS (aa aZ)
     have K4:=seen (aa bF)
     have KM:=aS (aa bF)
     have acb:=seen (aa zS)
     have abT:=aS (aa zS)
     go_wp2_with fail
     refine (G6 (aa HZ)).mono ?_
     rintro e Ym ⟨hg,hz,v30,rfl,Zl,abv⟩
     clear Gy Gk Ei D7 Gv Gf acd abU K6 KS Eh D6 K4 KM acb abT
     replace HZ:=ab hz
     replace aV:=ab (ax hg (aa aV) (by omega))
     replace aZ:=ab (ax hg (aa aZ) (by omega))
     replace bF:=ab (ax hg (aa bF) (by omega))
     replace zS:=ab (ax hg (aa zS) (by omega))
     replace HG:=ab ((aa HG).trans hg)
     replace HO:=ab ((aa HO).kept hg (.inl mO.1))
     clear hg hz
     obtain rfl:=Zl
     clear abv
     obtain ⟨e1,e2⟩:=Yo (aa Uo) (aa HPu) (aa xM) (aa HV1) (aa HV4)
     replace HZ:=aa HZ
     rw[e1] at HZ
     replace HZ:=ab HZ
     have pq:F0=al (aT (al R5 dd)) (gT { x with bS:=x.bS++[(x1,n)] }):=by
      rw[←Ry (aa GZ) (aa wX) e2]
      exact aa HF
     have ot:∀s',aT (al R5 dd)=.ok s'→s'.ts.length<s.ts.length:=by
      intro s' e
      match R5,aa CB,e with
      |.error y,_,e=>cases e
      |.ok s1,fJ,e =>
       obtain rfl:=fJ s1 rfl
       rw[show al (.ok s1) dd=dd s1 from rfl] at e
       cases hr:dd s1 with
       |error y=>rw[hr] at e;cases e
       |ok p =>
        rw[hr] at e
        cases e
        obtain ⟨h1,h2⟩:=yU (v:=p.1) hr
        exact dP h1 (h2 (aa zT).en)
     have rA:pU 1000000000 ((x.bS++[(x1,n)]).length+x.res.length+x.gone.length) (aT (al R5 dd)):=(aa tj).next (by rw[zK];show x.bS.length+1+x.res.length+x.gone.length≤_;omega) ot
     have HM:Hid (mR (aT (al R5 dd))<gk):=by
      have h1:=aa zu
      show _<gk
      rw[h1]
      cases hr:aT (al R5 dd) with
      |error y=>show 0<s.ts.length+1;omega
      |ok s'=>have:=ot s' hr;show s'.ts.length+1<s.ts.length+1;omega
     have nB:=ab pq
     have HL2:=ab rA
     clear e1 e2 pq ot rA Uo HPu xM HV1 HV4 HF
     have O1:Hid (x.bS.length+1≤maxLen):=by have:=(aa tj).1;show _≤_;unfold maxLen;omega
     have O2:Hid ((x.bS.length+1)*24≤140737488355328):=by have:=(aa tj).1;show _≤_;omega
     have ck:W.heap.size≤Ym.heap.size:=(aa HG).size
     have HOA:=ab ((aa HO).alloc (.cells #[.string x1,.int .i64 n] 73))
     have kN:=ab (bL (aa bF) (.cells #[.string x1,.int .i64 n] 73))
     have qL:=(zE Ym.heap.size Ym).alloc (zD _) (.cells #[.string x1,.int .i64 n] 73)
     have Lt:=ab ((aa HG).trans (aO qL (some b)))
     have Jl:=ab ((aa HZ).up qL)
     have LQ:Hid (∀w',(World.alloc Ym (.cells #[.string x1,.int .i64 n] 73)).grownBy w' (Value.slice a1 x.bS.length c1).ownBlock→w'.cell? ⟨xi,1,none⟩=some (.slice a1 x.bS.length c1)∧w'.frozen? ⟨xi,1,none⟩=false):=fun w' hg=>by
      have h:=(aa HOA).lA (i:=0) (g:=xi) rfl (by simp) (aa kN) hg
      exact ⟨(cC h).1.2.1,(cC h).2 1⟩
     clear qL
     have SD:=seen (aa aV)
     have Si:=aS (aa aV)
     have SC:=seen (aa aZ)
     have Sg:=aS (aa aZ)
     have SB:=seen (aa bF)
     have Sf:=aS (aa bF)
     have adM:=seen (aa zS)
     have adI:=aS (aa zS)
     go_wp2_with (at_builtin;refine wpList_append_own_at _ rfl _ _ 69 rfl W.heap.size 73 k0 (.agg #[.string ⟨#[]⟩,.int .i64 0]) 2 24 Tryz.underlying69 hkk Xr U8 Xq rfl (by decide) (.slice a1 x.bS.length c1) x.bS.length (KX x.bS) rfl ((aa HOA).own 0 _ rfl) ⟨Ym.heap.size,0,none⟩ 1 1 [.string x1,.int .i64 n] rfl rfl (df _ _ _) (by simp[Value.oneCell']) (aa O1) (aa O2) (by rw[zJ];omega) ?_;intro v5 Tc oo kZ _ D3;have QA:=ab oo;have Jq:=ab kZ;have Yh:=ab D3;obtain ⟨a5,c5,rfl⟩:=bY oo;obtain ⟨aca,abS⟩:=aa LQ Tc kZ;clear oo kZ D3)
     obtain ⟨k1,k2,k3,k4,k5,k6⟩:=Cr (j:=1) (aa HOA) (i:=0) rfl (zD _) cB.2 (aa Lt) (aa Jl) (aa kN) (by simp) N3 (aa QA) (aa Jq) (aa Yh)
     have N0:(Tc.setCell ⟨xi,1,none⟩ (.slice a5 (x.bS.length+1) c5)).heap[xi]?=some (.cells #[.string nm,.slice a5 (x.bS.length+1) c5,.slice a2 x.res.length c2,.slice a3 x.gone.length c3] 71 (0,0)):=(aC (j:=1) k1 (.slice a5 (x.bS.length+1) c5)).1
     have lN:Hid (Xh W lo b W.heap.size ti xi nm F0 gT { x with bS:=x.bS++[(x1,n)] } (aT (al R5 dd)) (Tc.setCell ⟨xi,1,none⟩ (.slice a5 (x.bS.length+1) c5))):=by
      refine ⟨k3,k4,k5 W.heap.size _ (by simp) (by omega) (bL (aa aV) _),⟨_,_,_,k5 ti _ (by simp) (by omega) (bL (aa aZ) _)⟩,⟨a5,c5,a2,c2,a3,c3,?_,?_⟩,aa HNM,aa nB,aa HL2⟩
      ·simp only[zK]
       exact N0
      ·have k2':=k2.less (L':=[xi,ti,W.heap.size]) (by simp)
       unfold ES at k2' ⊢
       simp only[zK,I1]
       exact k2'
     clear k1 k2 k3 k4 k5 k6 N0
     go_roundg (mR (aT (al R5 dd)))
     case measure=>exact aa HM
     case rel=>exact ⟨_,_,rfl,lN⟩
  |false =>
   have hq:∀s,Rk=.ok s→aJ s.here 4 ⟨#[125]⟩=true:=by
    intro s e
    have hq:=aa jx
    rw[e] at hq
    have:(true&&!(aJ s.here 4 ⟨#[125]⟩))=false:=hq
    cases hp:aJ s.here 4 ⟨#[125]⟩ with
    |true=>rfl
    |false=>rw[hp] at this;cases this
   obtain ⟨e1,e2⟩:=Wg (aa jV).z.2 hq (aa jV).f
   have sg:=ab e1
   have lN:=ab e2
   obtain ⟨tk,tp,ttx,ht⟩:=(aa jV).t
   obtain ⟨a1,c1,a2,c2,a3,c3,hx,hs⟩:=(aa jV).bx
   have HG:=ab (aa jV).g
   have HZ:=ab (aa jV).z
   have aV:=ab (aa jV).r
   have aZ:=ab ht
   have bF:=ab hx
   have HO:=ab hs
   have HNM:=ab (aa jV).n
   clear ht hx hs hq e1 e2 jx jV
   obtain ⟨q2,lG⟩:∃q,((x.bS.length:Int)==0)=q:=⟨_,rfl⟩
   have wX:=ab lG
   have qC:=seen (aa aV)
   have qu:=aS (aa aV)
   have Ch:=seen (aa aZ)
   have B2:=aS (aa aZ)
   have Gx:=seen (aa bF)
   have Gh:=aS (aa bF)
   go_upto_if 88 with fail
   go_cut [] (fun wx=>Hid (World.grownBy (zW) wx (some b)∧Zr lo wx b (TV x.bS.length Rk)))
   case first =>
    cases q2 with
    |true =>
     go_wp2_with fail
     refine (kO (aa HZ)).mono ?_
     rintro e w0 ⟨rfl,hg,hz⟩
     have HH:Hid (World.grownBy (zW) w0 (some b)∧Zr lo w0 b (TV x.bS.length Rk)):=⟨hg,by
      have h1:x.bS.length=0:=by have:=aa wX;simp at this;rw[this];rfl
      unfold TV
      rw[if_pos h1]
      exact hz⟩
     clear hg hz
     go_wp2
     go_meet
     exact HH
    |false =>
     have HH:Hid (World.grownBy (zW) (zW) (some b)∧Zr lo (zW) b (TV x.bS.length Rk)):=⟨zI _ _,by
      have h1:¬x.bS.length=0:=by have:=aa wX;intro q;rw[q] at this;simp at this
      unfold TV
      rw[if_neg h1]
      exact aa HZ⟩
     go_wp2
     go_meet
     exact HH
   case rest =>
   obtain ⟨w41,fP⟩:∃x,x=wc:=⟨_,rfl⟩
   subst fP
   clear qC qu Ch B2 Gx Gh
   obtain ⟨hg,hz⟩:=aa hcut
   replace HZ:=ab hz
   replace aV:=ab (ax hg (aa aV) (by omega))
   replace aZ:=ab (ax hg (aa aZ) (by omega))
   replace bF:=ab (ax hg (aa bF) (by omega))
   replace HG:=ab ((aa HG).trans hg)
   replace HO:=ab ((aa HO).kept hg (.inl mO.1))
   clear hg hz hcut
   clear lG wX
   have qB:=seen (aa aV)
   have qt:=aS (aa aV)
   have lY:=seen (aa aZ)
   have lU:=aS (aa aZ)
   have Gw:=seen (aa bF)
   have Gg:=aS (aa bF)
   go_wp2_with fail
   refine (eW (aa HZ) ⟨#[125]⟩).mono ?_
   rintro e w42 ⟨hg,hz,v42,rfl,Zk,abu⟩
   clear qB qt lY lU Gw Gg
   replace HZ:=ab hz
   replace aV:=ab (ax hg (aa aV) (by omega))
   replace aZ:=ab (ax hg (aa aZ) (by omega))
   replace bF:=ab (ax hg (aa bF) (by omega))
   replace HG:=ab ((aa HG).trans hg)
   replace HO:=ab ((aa HO).kept hg (.inl mO.1))
   clear hg hz
   obtain rfl:=Zk
   clear abu
   have F5:W.heap.size≠xi:=by omega
   have rQ:=seen (aa aV)
   have rG:=aS (aa aV)
   have oK:=seen (aa aZ)
   have oA:=aS (aa aZ)
   have K5:=seen (aa bF)
   have KN:=aS (aa bF)
   obtain ⟨t1,t2,t3,t4⟩:=Mu (aa HG) (aa HZ) cB.2 (zD _) (aa aV) (.string nm) (.slice a1 x.bS.length c1) (.slice a2 x.res.length c2) (.slice a3 x.gone.length c3)
   have T1:=ab t1
   have T2:=ab t2
   have T3:=ab t3
   have TO:=ab (((aa HO).kept t4 (.inr (by simp))).less (L':=[]) (by simp))
   clear t1 t2 t3 t4
   go_wp2
   refine bodyPost_ret (results_cell_row rfl _ _ W.heap.size 71 #[.string nm,.slice a1 x.bS.length c1,.slice a2 x.res.length c2,.slice a3 x.gone.length c3] (0,0) _ rfl (aa T1) Tryz.underlying71 rfl Mt) rfl ?_
   rw[←aa E5]
   exact ⟨aa T2,by rw[←aa sg];exact aa T3,x,a1,c1,a2,c2,a3,c3,by rw[aa HNM],aa TO,aa lN⟩
end Go.Proofs.YtjophoclfccmcaaGreatDoor
