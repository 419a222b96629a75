import Derived.Test.YtjophoclfccmcaaGreatDoorM41
set_option maxHeartbeats 8000000
set_option maxRecDepth 100000
namespace Go.Proofs.YtjophoclfccmcaaGreatDoor
open Go.RowKit
attribute [local go_sem ↓] Go.wp_at_zero Go.wp_at_succ
def EnQ (lo b:Nat) (W:World) (r:Except (Int×Int) (En×ax)) (e:Ending) (w:World):Prop:=W.grownBy w (some b)∧Zr lo w b (aT r)∧∃(x:En) (a1:Option Addr) (c1:Nat) (a2:Option Addr) (c2:Nat) (a3:Option Addr) (c3:Nat),e=.returned (.agg #[.string x.name,.slice a1 x.bT.length c1,.slice a2 x.res.length c2,.slice a3 x.gone.length c3])∧Sl W.heap.size [] w (ES x (.slice a1 x.bT.length c1) (.slice a2 x.res.length c2) (.slice a3 x.gone.length c3))∧∀a s,r=.ok (a,s)→a=x
def MW:PX→Bool
 |.ok _=>true
 |.error _=>false
theorem Sl.less {l:Nat}{L L':List Nat}{w:World}{ss:List Slot} (h:Sl l L w ss) (hl:∀k ∈ L',k ∈ L):Sl l L' w ss:=⟨h.own,h.apart,fun i sl k hi hk hm=>h.q i sl k hi hk (hl k hm),fun k hk=>h.lt k (hl k hk)⟩
theorem Mx (l:List (Int×Int)):∀u ∈ qC l,u.oneCell'=true:=by
 intro u hu
 unfold qC at hu
 obtain ⟨p,_,hp⟩:=List.mem_flatMap.1 hu
 simp at hp
 rcases hp with rfl|rfl<;>rfl
theorem Ij (l:List ByteArray):∀u ∈ dV l,u.oneCell'=true:=by
 intro u hu
 unfold dV at hu
 obtain ⟨p,_,rfl⟩:=List.mem_map.1 hu
 rfl
theorem Mq {W w:World}{lo b g:Nat}{R:PX}{b0 b1 b2 b3:Value}{T:TypeId} (hg:W.grownBy w (some b)) (hz:Zr lo w b R) (hl:lo≤W.heap.size) (hW:W.heap.size≤g) (hr:w.heap[g]?=some (.cells #[b0,b1,b2,b3] T (0,0))) (a0 a1 a2 a3:Value) :
  ((((w.setCell ⟨g,0,none⟩ a0).setCell ⟨g,1,none⟩ a1).setCell ⟨g,2,none⟩ a2).setCell ⟨g,3,none⟩ a3).heap[g]?=some (.cells #[a0,a1,a2,a3] T (0,0))∧W.grownBy ((((w.setCell ⟨g,0,none⟩ a0).setCell ⟨g,1,none⟩ a1).setCell ⟨g,2,none⟩ a2).setCell ⟨g,3,none⟩ a3) (some b)∧Zr lo ((((w.setCell ⟨g,0,none⟩ a0).setCell ⟨g,1,none⟩ a1).setCell ⟨g,2,none⟩ a2).setCell ⟨g,3,none⟩ a3) b R∧w.grownBy ((((w.setCell ⟨g,0,none⟩ a0).setCell ⟨g,1,none⟩ a1).setCell ⟨g,2,none⟩ a2).setCell ⟨g,3,none⟩ a3) (some g):=by
 obtain ⟨h0,g0⟩:=aC (j:=0) hr a0
 obtain ⟨h1,g1⟩:=aC (j:=1) h0 a1
 obtain ⟨h2,g2⟩:=aC (j:=2) h1 a2
 obtain ⟨h3,g3⟩:=aC (j:=3) h2 a3
 have gg:=((g0.trans g1).trans g2).trans g3
 exact ⟨h3,cy hg gg hW,hz.gA gg (Nat.le_trans hl hW),gg⟩
theorem G6 {W:World}{lo b:Nat}{R:PX} (h:Zr lo W b R) (hk:∀s,R=.ok s→aH s.here 1 lh=true):Calls Tryz.prog 41 #[.pointer (some ⟨b,0,none⟩)] W (EnQ lo b W (al R dd)):=by
 obtain ⟨i0,hi,tZ,tY,jg⟩:=info_parts rk
 obtain ⟨j0,hj,Ti,Th,Tg⟩:=info_parts F2
 obtain ⟨k0,hkk,kz0,kz1,kz2⟩:=info_parts U6
 have cC:=h.low
 have lZ:Hid (lp R):=h.2
 have HK:=ab hk
 have HZ:=ab h
 have HG:Hid (W.grownBy W (some b)):=zI _ _
 clear h hk
 have Va:b<W.heap.size:=by have:=(aa HG).size;omega
 have rl:W.heap.size≤W.heap.size:=by have:=(aa HG).size;omega
 have aW:=ab (aF (W) (.cells #[.string ⟨#[]⟩,.slice none 0 0,.slice none 0 0,.slice none 0 0] 71))
 replace HZ:=ab ((aa HZ).up ((zE _ _).alloc (zD _) (.cells #[.string ⟨#[]⟩,.slice none 0 0,.slice none 0 0,.slice none 0 0] 71)))
 replace HG:=ab ((aa HG).trans (aM ((zE _ _).alloc (zD _) (.cells #[.string ⟨#[]⟩,.slice none 0 0,.slice none 0 0,.slice none 0 0] 71)) (some b)))
 go_enter Tryz.func41,Tryz.ntmps41
 have qv:=seen (aa aW)
 have qi:=frzn (aa aW)
 go_wp2_with fail
 refine (gm (aa HZ)).mono ?_
 rintro e w1 ⟨⟨kt,pt,tt⟩,rfl,hb,hp⟩
 clear qv qi
 have po:=ab hp
 replace HZ:=ab ((aa HZ).up hb)
 have hg:=aM hb (some b)
 replace aW:=ab (aw hg (aa aW) (by omega))
 replace HG:=ab ((aa HG).trans hg)
 clear hb hp hg
 unfold Tk.val
 have NN:b<w1.heap.size:=by have:=(aa HG).size;omega
 have Ry:W.heap.size≤w1.heap.size:=by have:=(aa HG).size;omega
 have D4:W.heap.size<w1.heap.size:=by have h:=(zA (aa aW)).1;exact h
 replace aW:=ab (bL (aa aW) (.cells #[.int .i64 kt,.int .i64 pt,.string tt] 38))
 have aZ:=ab (aF (w1) (.cells #[.int .i64 kt,.int .i64 pt,.string tt] 38))
 replace HZ:=ab ((aa HZ).up ((zE _ _).alloc (zD _) (.cells #[.int .i64 kt,.int .i64 pt,.string tt] 38)))
 replace HG:=ab ((aa HG).trans (aM ((zE _ _).alloc (zD _) (.cells #[.int .i64 kt,.int .i64 pt,.string tt] 38)) (some b)))
 have qu:=seen (aa aW)
 have qh:=frzn (aa aW)
 have lV:=seen (aa aZ)
 have lR:=frzn (aa aZ)
 go_wp2_with fail
 refine (eB (aa HZ) ⟨kt,pt,tt⟩).mono ?_
 rintro e w2 ⟨hg,hz,v2,rfl,B0,zS⟩
 clear qu qh lV lR
 replace HZ:=ab hz
 replace aW:=ab (aw hg (aa aW) (by omega))
 replace aZ:=ab (aw hg (aa aZ) (by omega))
 replace HG:=ab ((aa HG).trans hg)
 clear hg hz
 obtain rfl:=B0
 clear zS
 have rI:=seen (aa aW)
 have ry:=frzn (aa aW)
 have oF:=seen (aa aZ)
 have ou:=frzn (aa aZ)
 go_wp2_with fail
 refine (oL (aa HZ) lh).mono ?_
 rintro e w3 ⟨hg,hz,v3,rfl,nc,lu⟩
 clear rI ry oF ou
 replace HZ:=ab hz
 replace aW:=ab (aw hg (aa aW) (by omega))
 replace aZ:=ab (aw hg (aa aZ) (by omega))
 replace HG:=ab ((aa HG).trans hg)
 clear hg hz
 obtain rfl:=nc
 clear lu
 have oH:=seen (aa aW)
 have ox:=frzn (aa aW)
 have oE:=seen (aa aZ)
 have ot:=frzn (aa aZ)
 go_wp2_with fail
 refine (lA (aa HZ)).mono ?_
 rintro e w4 ⟨hg,hz,v4,rfl,p9,qE⟩
 clear oH ox oE ot
 replace HZ:=ab hz
 replace aW:=ab (aw hg (aa aW) (by omega))
 replace aZ:=ab (aw hg (aa aZ) (by omega))
 replace HG:=ab ((aa HG).trans hg)
 clear hg hz
 obtain ⟨nm,rfl,jo⟩:=p9
 have HS:=ab (OP (aa lZ) (aa po) (aa HK) (aa HZ).2 qE)
 clear qE jo lZ po HK
 have U':b<w4.heap.size:=by have:=(aa HG).size;omega
 have NP:W.heap.size≤w4.heap.size:=by have:=(aa HG).size;omega
 have KB:W.heap.size<w4.heap.size:=by have h:=(zA (aa aW)).1;exact h
 have Gb:w1.heap.size<w4.heap.size:=by have h:=(zA (aa aZ)).1;exact h
 replace aW:=ab (bL (aa aW) (.cells #[.string nm,.slice none 0 0,.slice none 0 0,.slice none 0 0] 71))
 replace aZ:=ab (bL (aa aZ) (.cells #[.string nm,.slice none 0 0,.slice none 0 0,.slice none 0 0] 71))
 have bH:=ab (aF (w4) (.cells #[.string nm,.slice none 0 0,.slice none 0 0,.slice none 0 0] 71))
 replace HZ:=ab ((aa HZ).up ((zE _ _).alloc (zD _) (.cells #[.string nm,.slice none 0 0,.slice none 0 0,.slice none 0 0] 71)))
 replace HG:=ab ((aa HG).trans (aM ((zE _ _).alloc (zD _) (.cells #[.string nm,.slice none 0 0,.slice none 0 0,.slice none 0 0] 71)) (some b)))
 have oG:=seen (aa aW)
 have ow:=frzn (aa aW)
 have oD:=seen (aa aZ)
 have oq:=frzn (aa aZ)
 have zc:=seen (aa bH)
 have y7:=frzn (aa bH)
 go_wp2_with fail
 refine (eZ (aa HZ) ⟨#[123]⟩).mono ?_
 rintro e w5 ⟨hg,hz,v5,rfl,BZ,nA⟩
 clear oG ow oD oq zc y7
 replace HZ:=ab hz
 replace aW:=ab (aw hg (aa aW) (by omega))
 replace aZ:=ab (aw hg (aa aZ) (by omega))
 replace bH:=ab (aw hg (aa bH) (by omega))
 replace HG:=ab ((aa HG).trans hg)
 clear hg hz
 obtain rfl:=BZ
 clear nA
 obtain ⟨R4,IN⟩:∃R4,R4=aT (al (aT (al (aT (al (aT (al R (aN pt))) (cn lh))) aQ)) (au ⟨#[123]⟩)):=⟨_,rfl⟩
 rw[←IN] at HZ HS
 obtain ⟨F0,sM⟩:∃F0,F0=al R dd:=⟨_,rfl⟩
 rw[←sM] at HS
 have Fe:=ab sM
 obtain ⟨xi,Xa⟩:∃i,i=w4.heap.size:=⟨_,rfl⟩
 obtain ⟨ti,IC⟩:∃i,i=w1.heap.size:=⟨_,rfl⟩
 rw[←Xa] at bH U' NP KB Gb ⊢
 rw[←IC] at aZ NN Ry D4 Gb ⊢
 clear IN sM Xa IC
 have P1:Sl W.heap.size [xi,ti,W.heap.size] w5 (ES ⟨nm,[],[],[]⟩ (.slice none 0 0) (.slice none 0 0) (.slice none 0 0)):=by
  refine ⟨fun i sl hs=>?_,fun i j a c hij ha hc k hk=>?_,fun i sl k hs hk=>?_,fun k hk=>?_⟩
  ·match i,hs with
   |0,hs=>cases hs;exact World.ownsRow_nil _ _ _ _
   |1,hs=>cases hs;exact World.ownsRow_nil _ _ _ _
   |2,hs=>cases hs;exact World.ownsRow_nil _ _ _ _
   |i+3,hs=>cases hs
  ·match i,ha with
   |0,ha=>cases ha;cases hk
   |1,ha=>cases ha;cases hk
   |2,ha=>cases ha;cases hk
   |i+3,ha=>cases ha
  ·match i,hs with
   |0,hs=>cases hs;cases hk
   |1,hs=>cases hs;cases hk
   |2,hs=>cases hs;cases hk
   |i+3,hs=>cases hs
  ·have e1:=(zA (aa bH)).1
   have e2:=(zA (aa aZ)).1
   have e3:=(zA (aa aW)).1
   simp only[List.mem_cons,List.not_mem_nil,or_false] at hk
   rcases hk with rfl|rfl|rfl
   ·exact e1
   ·exact e2
   ·exact e3
 have HE:Hid (WO W lo b W.heap.size ti xi nm F0 gV ⟨nm,[],[],[]⟩ R4 w5):=⟨aa HG,aa HZ,aa aW,⟨_,_,_,aa aZ⟩,⟨none,0,none,0,none,0,aa bH,P1⟩,rfl,aa HS,⟨by simp,fun s e=>by have:=(aa HZ).2;rw[e] at this;have:=Gd.len this;simp;omega⟩⟩
 have eQ:b<W.heap.size∧b<W.heap.size∧b<ti∧b<xi:=⟨by omega,by omega,by omega,by omega⟩
 clear P1 HG HZ aW aZ bH HS
 go_wp2
 go_loopg [5,6,7] (mR R4) (fun gk _ _ _ wr=>∃(x:En) (Rk:PX),gk=mR Rk∧Hid (WO W lo b W.heap.size ti xi nm F0 gV x Rk wr))
 case atStart=>exact ⟨_,R4,rfl,HE⟩
 case round =>
  clear HE
  obtain ⟨x,Rk,dY,Aw⟩:=hrel
  have zz:=ab dY
  clear dY
  obtain ⟨er,Sz,her⟩:=(aa Aw).z.err
  go_upto_region 6 with fail
  go_cut [29] from 20 to 84 (fun v29 wx=>v29=.bool (MW Rk&&!(gd Rk 4 ⟨#[125]⟩))∧Hid (Below wr.heap.size wr wx))
  case first =>
   cases Rk with
   |error y =>
    replace her:(er==0)=false:=her
    go_wp2
    go_meet
    exact ⟨rfl,zE _ _⟩
   |ok s =>
    replace her:(er==0)=true:=her
    go_wp2_with fail
    refine (iw (aa Aw).z 4 (by decide) ⟨#[125]⟩).mono ?_
    rintro e w0 ⟨rfl,hb⟩
    have HB:=ab hb
    clear hb
    go_wp2
    go_meet
    exact ⟨rfl,HB⟩
  case rest =>
  obtain ⟨zY,fV⟩:∃x,x=wc:=⟨_,rfl⟩
  subst fV
  obtain ⟨rfl,hb⟩:=hcut
  have hg:=aM (aa hb) (some b)
  have jY:=ab ((aa Aw).kept eQ hg ((aa Aw).z.up (aa hb)) (aa Aw).f (aa Aw).l)
  clear hg hb Sz her Aw
  obtain ⟨q,hq⟩:∃q,(MW Rk&&!(gd Rk 4 ⟨#[125]⟩))=q:=⟨_,rfl⟩
  rw[hq]
  have jw:=ab hq
  clear hq
  cases q with
  |true =>
   obtain ⟨s,rfl,Tp⟩:∃s,Rk=.ok s∧¬aH s.here 4 ⟨#[125]⟩=true:=by
    have hq:=aa jw
    match Rk,hq with
    |.error y,hq=>cases hq
    |.ok s,hq =>
     refine ⟨s,rfl,?_⟩
     have:(true&&!(aH s.here 4 ⟨#[125]⟩))=true:=hq
     intro h1
     rw[h1] at this
     cases this
   have zV:Hid (Gd s):=(aa jY).z.2
   have yN:F0=al (aT (al (.ok s) (dp [nt]))) (lJ x):=by
    rw[←OR (aa zV) Tp]
    exact (aa jY).f
   have Qi:=ab yN
   clear Tp yN jw
   have HW:=ab (mV zY [nt] 9)
   have pd:=(zE zY.heap.size zY).alloc (zD _) (.cells #[.string nt] 9)
   have Jo:=ab ((aa jY).z.up pd)
   have Lt:=ab (aM pd (some b))
   clear pd
   go_wp2_with fail
   refine (hJ (aa Jo) (aa HW)).mono ?_
   rintro e JG ⟨hg,hz,v0,rfl,mA,-⟩
   obtain rfl:=mA
   obtain ⟨R5,uh⟩:∃R5,R5=aT (al (.ok s) (dp [nt])):=⟨_,rfl⟩
   have jM:∀s',R5=.ok s'→s'=s:=by
    intro s' e
    rw[uh,show al (.ok s) (dp [nt])=dp [nt] s from rfl] at e
    unfold dp at e
    split at e
    ·cases e
    ·cases e;rfl
   rw[←uh] at hz
   have PJ:Hid (F0=al R5 (lJ x)):=by rw[uh];exact aa Qi
   have CG:=ab jM
   have wU:Hid (pO 1000000000 (x.bT.length+x.res.length+x.gone.length) (.ok s)):=(aa jY).l
   have Ju:=ab ((aa jY).kept (G':=lJ) eQ ((aa Lt).trans hg) hz (aa PJ) ⟨(aa wU).1,fun s' e=>by rw[jM s' e];exact (aa wU).2 s rfl⟩)
   clear jY
   clear hg hz jM uh Qi PJ HW Jo Lt
   go_wp2_with fail
   refine (iw (aa Ju).z 4 (by decide) ⟨#[59]⟩).mono ?_
   rintro e w23 ⟨rfl,hb⟩
   have xQ:=ab ((aa Ju).kept (G':=lJ) eQ (aM hb (some b)) ((aa Ju).z.up hb) (aa Ju).f (aa Ju).l)
   clear Ju
   clear hb
   obtain ⟨q,hq⟩:∃q,gd R5 4 ⟨#[59]⟩=q:=⟨_,rfl⟩
   rw[hq]
   have G1:=ab hq
   clear hq
   cases q with
   |true =>
    obtain ⟨s1,rfl,nG⟩:=fE (aa G1)
    obtain rfl:=aa CG s1 rfl
    have dN:=eT (aa zV).en nG (by decide)
    have IE:s1.nx.ts.length=s1.ts.length-1:=List.length_tail
    have o8:F0=al (kI (.ok s1)) (gV x):=by
     show F0=gV x s1.nx
     rw[←Nd nG]
     exact (aa xQ).f
    have ue:pO 1000000000 (x.bT.length+x.res.length+x.gone.length) (kI (.ok s1)):=(aa wU).next (by omega) (fun s' e=>by cases e;omega)
    obtain ⟨i,ci,fi,bF,AX⟩:=(aa xQ).z.next (fun s' e=>by cases e;exact dN)
    obtain ⟨g1,z1⟩:=bF (wrap64 (i+1)) (fun s e=>eN (AX s e))
    have lM:=ab ((aa xQ).kept (G':=gV) eQ g1 z1 o8 ue)
    have HM:Hid (mR (kI (.ok s1))<gk):=by have:=aa zz;show s1.nx.ts.length+1<gk;rw[this];show _<s1.ts.length+1;omega
    clear g1 z1 bF AX o8 ue nG dN IE xQ
    go_wp2
    go_roundg (mR (kI (.ok s1)))
    case measure=>exact aa HM
    case rel=>exact ⟨x,_,rfl,lM⟩
   |false =>
    go_wp2_with fail
    refine (iw (aa xQ).z 1 (by decide) kp).mono ?_
    rintro e WS ⟨rfl,hb⟩
    have fD:=ab ((aa xQ).kept (G':=lJ) eQ (aM hb (some b)) ((aa xQ).z.up hb) (aa xQ).f (aa xQ).l)
    clear xQ
    clear hb
    obtain ⟨q,hq⟩:∃q,gd R5 1 kp=q:=⟨_,rfl⟩
    rw[hq]
    have wT:=ab hq
    clear hq
    cases q with
    |true =>
     obtain ⟨s1,rfl,nG⟩:=fE (aa wT)
     obtain rfl:=aa CG s1 rfl
     have CQ:=ab nG
     have dN:=eT (aa zV).en nG (by decide)
     have aco:=ab dN
     clear nG dN
     go_wp2_with fail
     refine (tf (aa fD).z (fun s e=>by cases e;exact aa CQ) true).mono ?_
     rintro e zR ⟨hg,hz,v1,v2,l1,l2,rfl,N6,hlen,hv⟩
     have pH:¬aH s1.here 4 ⟨#[59]⟩=true:=by rw[show aH s1.here 4 ⟨#[59]⟩=false from aa G1];decide
     have o8:F0=al (aT (al (.ok s1) (gI true))) (gV { x with res:=x.res++l1,gone:=x.gone++l2 }):=by
      rw[←Ra pH (aa CQ) hv]
      exact (aa fD).f
     have om:∀s',aT (al (.ok s1) (gI true))=.ok s'→s'.ts.length<s1.ts.length:=by
      intro s' e
      rw[show al (.ok s1) (gI true)=gI true s1 from rfl] at e
      cases hr:gI true s1 with
      |error y=>rw[hr] at e;cases e
      |ok p =>
       rw[hr] at e
       cases e
       exact dS (yY (l:=p.1) hr) (aa aco)
     have ue:pO 1000000000 (x.bT.length+(x.res++l1).length+(x.gone++l2).length) (aT (al (.ok s1) (gI true))):=(aa wU).next (by rw[zK,zK];omega) om
     have HM:Hid (mR (aT (al (.ok s1) (gI true)))<gk):=by
      have h1:=aa zz
      show _<gk
      rw[h1]
      cases hr:aT (al (.ok s1) (gI true)) with
      |error y=>show 0<s1.ts.length+1;omega
      |ok s'=>have:=om s' hr;show s'.ts.length+1<s1.ts.length+1;omega
     have nz:=ab o8
     have HL2:=ab ue
     obtain ⟨tk,tp,ttx,ht⟩:=(aa fD).t
     obtain ⟨a1,c1,a2,c2,a3,c3,hx,hs⟩:=(aa fD).bx
     have bK:∀(i:Nat) (sl:Slot) (k:Nat),(ES x (.slice a1 x.bT.length c1) (.slice a2 x.res.length c2) (.slice a3 x.gone.length c3))[i]?=some sl→sl.v.ownBlock=some k→k<WS.heap.size:=fun i sl k h1 h2=>((hs.own i sl h1).lt k h2).2
     have ac5:=hs.lt xi (by simp)
     have HNM:=ab (aa fD).n
     have WC:=ab ((aa fD).g.trans hg)
     have aaC:=ab hz
     have SR:=ab (aw hg hx (by omega))
     have aaD:=ab (aw hg ht (by omega))
     have aaF:=ab (aw hg (aa fD).r (by omega))
     have SS:=ab (hs.kept hg (.inl eQ.1))
     have PK:=ab N6
     have CH:=ab hlen
     have lN:=ab bK
     have ac8:WS.heap.size≤zR.heap.size:=hg.size
     have cl:W.heap.size≤zR.heap.size:=(aa WC).size
     obtain ⟨va1,vc1,rfl⟩:=bY N6.r1
     obtain ⟨Qq,Qp,rfl⟩:=bY N6.r2
     clear hg hz N6 hlen hv pH o8 om ue hx hs ht bK fD
     obtain ⟨⟨V5,V4,V3,V2⟩,AY⟩:=ck (aa SR)
     have fx2:=AY 2
     have fx3:=AY 3
     clear AY
     have O1:Hid (x.res.length+l1.length≤maxLen):=by have:=(aa wU).1;have:=(aa CH).1;show _≤_;unfold maxLen;omega
     have O2:Hid ((x.res.length+l1.length)*16≤140737488355328):=by have:=(aa wU).1;have:=(aa CH).1;show _≤_;omega
     have O3:Hid (x.gone.length+l2.length≤maxLen):=by have:=(aa wU).1;have:=(aa CH).2;show _≤_;unfold maxLen;omega
     have O4:Hid ((x.gone.length+l2.length)*16≤140737488355328):=by have:=(aa wU).1;have:=(aa CH).2;show _≤_;omega
     have LO:Hid (∀w',zR.grownBy w' (Value.slice a2 x.res.length c2).ownBlock→w'.cell? ⟨xi,2,none⟩=some (.slice a2 x.res.length c2)∧w'.frozen? ⟨xi,2,none⟩=false):=fun w' hg=>by
      have hm:xi ∈ [xi,ti,W.heap.size]:=List.mem_cons_self
      have h:=(aa SS).lz (i:=1) rfl hm (aa SR) hg
      exact ⟨(ck h).1.2.2.1,(ck h).2 2⟩
     go_upto_region 20 with (at_builtin;go_loud (refine iL rfl _ _ 47 rfl W.heap.size 98 j0 (.agg #[.int .i64 0,.int .i64 0]) 2 16 Tryz.underlying47 hj Ti Th Tg rfl (by decide) (.slice a2 x.res.length c2) x.res.length (qC x.res) rfl ((aa SS).own 1 _ rfl) (.slice va1 l1.length vc1) l1.length WS.heap.size (qC l1) rfl (aa PK).r1 (Mx _) (aa O1) (aa O2) cl ?_;intro v4 C' eX dE jP;have EW:=ab eX;have rX:=ab dE;have PO:=ab jP;obtain ⟨a4,c4,rfl⟩:=bY eX;obtain ⟨adt,adp⟩:=aa LO C' dE;clear eX dE jP))
     obtain ⟨k1,k2,k3,k4,k5,k6⟩:=Cx (j:=2) (aa SS) (i:=1) rfl (zD _) cC.2 (aa WC) (aa aaC) (aa SR) List.mem_cons_self NP (aa EW) (aa rX) (aa PO)
     have YL:=(aC (j:=2) k1 (.slice a4 (x.res.length+l1.length) c4)).1
     have Wp:Hid ((C'.setCell ⟨xi,2,none⟩ (.slice a4 (x.res.length+l1.length) c4)).heap[xi]?=some (.cells #[.string nm,.slice a1 x.bT.length c1,.slice a4 (x.res.length+l1.length) c4,.slice a3 x.gone.length c3] 71 (0,0))):=YL
     have acm:=ab (k5 ti _ (by simp) (by omega) (aa aaD))
     have acn:=ab (k5 W.heap.size _ (by simp) (by omega) (aa aaF))
     have Wu:=ab k2
     have acr:=ab k3
     have ack:=ab k4
     have h27:(C'.setCell ⟨xi,2,none⟩ (.slice a4 (x.res.length+l1.length) c4)).ownsRow WS.heap.size 9 1 (.slice Qq l2.length Qp) l2.length (dV l2):=by
      refine ((aa PK).r2.kept (aa rX) ?_).kept k6 ?_
      ·by_cases e:(Value.slice Qq l2.length Qp).ownBlock=none
       ·exact .inl e
       ·refine .inr (fun q=>?_)
        obtain ⟨m,hm⟩:=Option.ne_none_iff_exists'.1 e
        have h1:=((aa PK).r2.lt m hm).1
        have h2:=aa lN 1 _ m rfl (by rw[←q];exact hm)
        omega
      ·by_cases e:(Value.slice Qq l2.length Qp).ownBlock=none
       ·exact .inl e
       ·refine .inr (fun q=>?_)
        have h1:=((aa PK).r2.lt xi q).1
        omega
     have H27:=ab h27
     have sI:W.heap.size≤(C'.setCell ⟨xi,2,none⟩ (.slice a4 (x.res.length+l1.length) c4)).heap.size:=k3.size
     clear k1 k2 k3 k4 k5 k6 YL h27 V5 V4 V3 V2 fx2 fx3 LO EW rX PO SR aaD aaF SS WC aaC PK
     obtain ⟨⟨V5,V4,V3,V2⟩,AY⟩:=ck (aa Wp)
     have fx3:=AY 3
     clear AY
     have LO:Hid (∀w',(C'.setCell ⟨xi,2,none⟩ (.slice a4 (x.res.length+l1.length) c4)).grownBy w' (Value.slice a3 x.gone.length c3).ownBlock→w'.cell? ⟨xi,3,none⟩=some (.slice a3 x.gone.length c3)∧w'.frozen? ⟨xi,3,none⟩=false):=fun w' hg=>by
      have hm:xi ∈ [xi,ti,W.heap.size]:=List.mem_cons_self
      have h:=(aa Wu).lz (i:=2) rfl hm (aa Wp) hg
      exact ⟨(ck h).1.2.2.2,(ck h).2 3⟩
     go_wp2_with (at_builtin;refine iL rfl _ _ 22 rfl W.heap.size 9 i0 (.string ⟨#[]⟩) 1 16 Tryz.underlying22 hi tZ tY jg rfl (by decide) (.slice a3 x.gone.length c3) x.gone.length (dV x.gone) rfl ((aa Wu).own 2 _ rfl) (.slice Qq l2.length Qp) l2.length WS.heap.size (dV l2) rfl (aa H27) (Ij _) (aa O3) (aa O4) sI ?_;intro v5 S6 oe kY D';have Qj:=ab oe;have Jt:=ab kY;have XX:=ab D';obtain ⟨a5,c5,rfl⟩:=bY oe;obtain ⟨abS,abB⟩:=aa LO S6 kY;clear oe kY D')
     obtain ⟨k1,k2,k3,k4,k5,k6⟩:=Cx (j:=3) (aa Wu) (i:=2) rfl (zD _) cC.2 (aa acr) (aa ack) (aa Wp) List.mem_cons_self NP (aa Qj) (aa Jt) (aa XX)
     have NO:(S6.setCell ⟨xi,3,none⟩ (.slice a5 (x.gone.length+l2.length) c5)).heap[xi]?=some (.cells #[.string nm,.slice a1 x.bT.length c1,.slice a4 (x.res.length+l1.length) c4,.slice a5 (x.gone.length+l2.length) c5] 71 (0,0)):=(aC (j:=3) k1 (.slice a5 (x.gone.length+l2.length) c5)).1
     have lM:Hid (WO W lo b W.heap.size ti xi nm F0 gV { x with res:=x.res++l1,gone:=x.gone++l2 } (aT (al (.ok s1) (gI true))) (S6.setCell ⟨xi,3,none⟩ (.slice a5 (x.gone.length+l2.length) c5))):=by
      refine ⟨k3,k4,k5 W.heap.size _ (by simp) (by omega) (aa acn),⟨_,_,_,k5 ti _ (by simp) (by omega) (aa acm)⟩,⟨a1,c1,a4,c4,a5,c5,?_,?_⟩,aa HNM,aa nz,aa HL2⟩
      ·simp only[zK]
       exact NO
      ·unfold ES at k2 ⊢
       simp only[zK,xd,mj]
       exact k2
     clear k1 k2 k3 k4 k5 k6 NO
     go_roundg (mR (aT (al (.ok s1) (gI true))))
     case measure=>exact aa HM
     case rel=>exact ⟨_,_,rfl,lM⟩
    |false =>
     obtain ⟨tk,tp,ttx,ht⟩:=(aa fD).t
     obtain ⟨a1,c1,a2,c2,a3,c3,hx,hs⟩:=(aa fD).bx
     have HG:=ab (aa fD).g
     have HZ:=ab (aa fD).z
     have aW:=ab (aa fD).r
     have aZ:=ab ht
     have bH:=ab hx
     have HO:=ab hs
     have HNM:=ab (aa fD).n
     have HF:=ab (aa fD).f
     have Ud:=ab (aa fD).z.2
     clear ht hx hs fD
     have qv:=seen (aa aW)
     have qi:=frzn (aa aW)
     have Cn:=seen (aa aZ)
     have B7:=frzn (aa aZ)
     have GD:=seen (aa bH)
     have Gm:=frzn (aa bH)
     go_wp2_with fail
     refine (gm (aa HZ)).mono ?_
     rintro e zR ⟨⟨ku,pu,tu⟩,rfl,hb,hp⟩
     clear qv qi Cn B7 GD Gm
     have HPu:=ab hp
     replace HZ:=ab ((aa HZ).up hb)
     have hg:=aM hb (some b)
     replace aW:=ab (aw hg (aa aW) (by omega))
     replace aZ:=ab (aw hg (aa aZ) (by omega))
     replace bH:=ab (aw hg (aa bH) (by omega))
     replace HG:=ab ((aa HG).trans hg)
     replace HO:=ab ((aa HO).kept hg (.inl eQ.1))
     clear hb hp hg
     unfold Tk.val
     have qu:=seen (aa aW)
     have qh:=frzn (aa aW)
     have lV:=seen (aa aZ)
     have lR:=frzn (aa aZ)
     have GC:=seen (aa bH)
     have Gl:=frzn (aa bH)
     obtain ⟨k0,g0⟩:=aC (j:=0) (aa aZ) (.int .i64 ku)
     obtain ⟨k1,g1⟩:=aC (j:=1) k0 (.int .i64 pu)
     obtain ⟨k2,g2⟩:=aC (j:=2) k1 (.string tu)
     have gg:=((g0.trans g1).trans g2)
     replace aW:=ab (aw gg (aa aW) (by omega))
     replace bH:=ab (aw gg (aa bH) (by omega))
     replace aZ:Hid ((((zR.setCell ⟨ti,0,none⟩ (.int .i64 ku)).setCell ⟨ti,1,none⟩ (.int .i64 pu)).setCell ⟨ti,2,none⟩ (.string tu)).heap[ti]?=some (.cells #[.int .i64 ku,.int .i64 pu,.string tu] 38 (0,0))):=k2
     replace HZ:=ab ((aa HZ).gA gg (by omega))
     replace HG:=ab (cy (aa HG) gg (by omega))
     replace HO:=ab ((aa HO).kept gg (.inr (by simp)))
     clear gg k0 g0 k1 g1 k2 g2
     have rI:=seen (aa aW)
     have ry:=frzn (aa aW)
     have oF:=seen (aa aZ)
     have ou:=frzn (aa aZ)
     have K6:=seen (aa bH)
     have KO:=frzn (aa bH)
     go_wp2_with fail
     refine (lA (aa HZ)).mono ?_
     rintro e C' ⟨hg,hz,v26,rfl,Za,YS⟩
     clear qu qh lV lR GC Gl rI ry oF ou K6 KO
     replace HZ:=ab hz
     replace aW:=ab (aw hg (aa aW) (by omega))
     replace aZ:=ab (aw hg (aa aZ) (by omega))
     replace bH:=ab (aw hg (aa bH) (by omega))
     replace HG:=ab ((aa HG).trans hg)
     replace HO:=ab ((aa HO).kept hg (.inl eQ.1))
     clear hg hz
     obtain ⟨x1,rfl,iZ⟩:=Za
     have HV1:=ab YS
     clear YS iZ
     have Lw:b<C'.heap.size:=by have:=(aa HG).size;omega
     have E5:W.heap.size≤C'.heap.size:=by have:=(aa HG).size;omega
     have adj:W.heap.size<C'.heap.size:=by have h:=(zA (aa aW)).1;exact h
     have adh:ti<C'.heap.size:=by have h:=(zA (aa aZ)).1;exact h
     have adb:xi<C'.heap.size:=by have h:=(zA (aa bH)).1;exact h
     replace aW:=ab (bL (aa aW) (.cells #[.string x1,.int .i64 0] 73))
     replace aZ:=ab (bL (aa aZ) (.cells #[.string x1,.int .i64 0] 73))
     replace bH:=ab (bL (aa bH) (.cells #[.string x1,.int .i64 0] 73))
     have zU:=ab (aF (C') (.cells #[.string x1,.int .i64 0] 73))
     replace HZ:=ab ((aa HZ).up ((zE _ _).alloc (zD _) (.cells #[.string x1,.int .i64 0] 73)))
     replace HG:=ab ((aa HG).trans (aM ((zE _ _).alloc (zD _) (.cells #[.string x1,.int .i64 0] 73)) (some b)))
     replace HO:=ab ((aa HO).box (.cells #[.string x1,.int .i64 0] 73))
     have oH:=seen (aa aW)
     have ox:=frzn (aa aW)
     have oE:=seen (aa aZ)
     have ot:=frzn (aa aZ)
     have Cm:=seen (aa bH)
     have B6:=frzn (aa bH)
     have abX:=seen (aa zU)
     have abG:=frzn (aa zU)
     go_wp2_with fail
     refine (eB (aa HZ) ⟨ku,pu,tu⟩).mono ?_
     rintro e w27 ⟨hg,hz,v27,rfl,Y',abh⟩
     clear oH ox oE ot Cm B6 abX abG
     replace HZ:=ab hz
     replace aW:=ab (aw hg (aa aW) (by omega))
     replace aZ:=ab (aw hg (aa aZ) (by omega))
     replace bH:=ab (aw hg (aa bH) (by omega))
     replace zU:=ab (aw hg (aa zU) (by omega))
     replace HG:=ab ((aa HG).trans hg)
     replace HO:=ab ((aa HO).kept hg (.inl eQ.1))
     clear hg hz
     obtain rfl:=Y'
     clear abh
     have oG:=seen (aa aW)
     have ow:=frzn (aa aW)
     have oD:=seen (aa aZ)
     have oq:=frzn (aa aZ)
     have zc:=seen (aa bH)
     have y7:=frzn (aa bH)
     have abW:=seen (aa zU)
     have abF:=frzn (aa zU)
     go_wp2_with fail
     refine (eZ (aa HZ) ⟨#[61]⟩).mono ?_
     rintro e S6 ⟨hg,hz,v28,rfl,Y9,abg⟩
     clear oG ow oD oq zc y7 abW abF
     replace HZ:=ab hz
     replace aW:=ab (aw hg (aa aW) (by omega))
     replace aZ:=ab (aw hg (aa aZ) (by omega))
     replace bH:=ab (aw hg (aa bH) (by omega))
     replace zU:=ab (aw hg (aa zU) (by omega))
     replace HG:=ab ((aa HG).trans hg)
     replace HO:=ab ((aa HO).kept hg (.inl eQ.1))
     clear hg hz
     obtain rfl:=Y9
     clear abg
     have xP:=ab (aa HZ).2
     have qt:=seen (aa aW)
     have qd:=frzn (aa aW)
     have qs:=seen (aa aZ)
     have qc:=frzn (aa aZ)
     have sU:=seen (aa bH)
     have sQ:=frzn (aa bH)
     have abV:=seen (aa zU)
     have abE:=frzn (aa zU)
     go_wp2_with fail
     refine (r' (aa HZ) true).mono ?_
     rintro e w29 ⟨hg,hz,v29,rfl,Y8,YR⟩
     clear qt qd qs qc sU sQ abV abE
     replace HZ:=ab hz
     replace aW:=ab (aw hg (aa aW) (by omega))
     replace aZ:=ab (aw hg (aa aZ) (by omega))
     replace bH:=ab (aw hg (aa bH) (by omega))
     replace zU:=ab (aw hg (aa zU) (by omega))
     replace HG:=ab ((aa HG).trans hg)
     replace HO:=ab ((aa HO).kept hg (.inl eQ.1))
     clear hg hz
     obtain ⟨n,⟨kw,pw,tw⟩,rfl⟩:=Y8
     have HV4:Hid (∀a s,al (aT (al (aT (al (aT (al R5 aQ)) (aN pu))) (au ⟨#[61]⟩))) (jb true)=.ok (a,s)→a=(n,(⟨kw,pw,tw⟩:Tk))):=fun a s e=>BL (YR a s e)
     clear YR
     unfold Tk.val
     have GF:=seen (aa aW)
     have Gq:=frzn (aa aW)
     have Eu:=seen (aa aZ)
     have Ed:=frzn (aa aZ)
     have GB:=seen (aa bH)
     have Gk:=frzn (aa bH)
     have abU:=seen (aa zU)
     have abD:=frzn (aa zU)
     obtain ⟨k1,g1⟩:=aC (j:=1) (aa zU) (.int .i64 n)
     replace aW:=ab (aw g1 (aa aW) (by omega))
     replace aZ:=ab (aw g1 (aa aZ) (by omega))
     replace bH:=ab (aw g1 (aa bH) (by omega))
     replace zU:Hid ((w29.setCell ⟨C'.heap.size,1,none⟩ (.int .i64 n)).heap[C'.heap.size]?=some (.cells #[.string x1,.int .i64 n] 73 (0,0))):=k1
     replace HZ:=ab ((aa HZ).gA g1 (by omega))
     replace HG:=ab (cy (aa HG) g1 (by omega))
     replace HO:=ab ((aa HO).kept g1 (.inr (by simp)))
     clear k1 g1
     have K7:=seen (aa aW)
     have KT:=frzn (aa aW)
     have Et:=seen (aa aZ)
     have Ec:=frzn (aa aZ)
     have K5:=seen (aa bH)
     have KN:=frzn (aa bH)
     have abT:=seen (aa zU)
     have abC:=frzn (aa zU)
     go_wp2_with fail
     refine (G7 (aa HZ)).mono ?_
     rintro e X8 ⟨hg,hz,v30,rfl,Y7,abf⟩
     clear GF Gq Eu Ed GB Gk abU abD K7 KT Et Ec K5 KN abT abC
     replace HZ:=ab hz
     replace aW:=ab (aw hg (aa aW) (by omega))
     replace aZ:=ab (aw hg (aa aZ) (by omega))
     replace bH:=ab (aw hg (aa bH) (by omega))
     replace zU:=ab (aw hg (aa zU) (by omega))
     replace HG:=ab ((aa HG).trans hg)
     replace HO:=ab ((aa HO).kept hg (.inl eQ.1))
     clear hg hz
     obtain rfl:=Y7
     clear abf
     obtain ⟨e1,e2⟩:=X' (aa Ud) (aa HPu) (aa xP) (aa HV1) (aa HV4)
     replace HZ:=aa HZ
     rw[e1] at HZ
     replace HZ:=ab HZ
     have o8:F0=al (aT (al R5 de)) (gV { x with bT:=x.bT++[(x1,n)] }):=by
      rw[←Q' (aa G1) (aa wT) e2]
      exact aa HF
     have om:∀s',aT (al R5 de)=.ok s'→s'.ts.length<s.ts.length:=by
      intro s' e
      match R5,aa CG,e with
      |.error y,_,e=>cases e
      |.ok s1,fP,e =>
       obtain rfl:=fP s1 rfl
       rw[show al (.ok s1) de=de s1 from rfl] at e
       cases hr:de s1 with
       |error y=>rw[hr] at e;cases e
       |ok p =>
        rw[hr] at e
        cases e
        obtain ⟨h1,h2⟩:=yX (v:=p.1) hr
        exact dS h1 (h2 (aa zV).en)
     have ue:pO 1000000000 ((x.bT++[(x1,n)]).length+x.res.length+x.gone.length) (aT (al R5 de)):=(aa wU).next (by rw[zK];show x.bT.length+1+x.res.length+x.gone.length≤_;omega) om
     have HM:Hid (mR (aT (al R5 de))<gk):=by
      have h1:=aa zz
      show _<gk
      rw[h1]
      cases hr:aT (al R5 de) with
      |error y=>show 0<s.ts.length+1;omega
      |ok s'=>have:=om s' hr;show s'.ts.length+1<s.ts.length+1;omega
     have nz:=ab o8
     have HL2:=ab ue
     clear e1 e2 o8 om ue Ud HPu xP HV1 HV4 HF
     have O1:Hid (x.bT.length+1≤maxLen):=by have:=(aa wU).1;show _≤_;unfold maxLen;omega
     have O2:Hid ((x.bT.length+1)*24≤140737488355328):=by have:=(aa wU).1;show _≤_;omega
     have cl:W.heap.size≤X8.heap.size:=(aa HG).size
     have HOA:=ab ((aa HO).alloc (.cells #[.string x1,.int .i64 n] 73))
     have kL:=ab (bL (aa bH) (.cells #[.string x1,.int .i64 n] 73))
     have pd:=(zE X8.heap.size X8).alloc (zD _) (.cells #[.string x1,.int .i64 n] 73)
     have Lt:=ab ((aa HG).trans (aM pd (some b)))
     have Jo:=ab ((aa HZ).up pd)
     have LO:Hid (∀w',(World.alloc X8 (.cells #[.string x1,.int .i64 n] 73)).grownBy w' (Value.slice a1 x.bT.length c1).ownBlock→w'.cell? ⟨xi,1,none⟩=some (.slice a1 x.bT.length c1)∧w'.frozen? ⟨xi,1,none⟩=false):=fun w' hg=>by
      have h:=(aa HOA).lz (i:=0) (g:=xi) rfl (by simp) (aa kL) hg
      exact ⟨(ck h).1.2.1,(ck h).2 1⟩
     clear pd
     have Sw:=seen (aa aW)
     have Sb:=frzn (aa aW)
     have Su:=seen (aa aZ)
     have R9:=frzn (aa aZ)
     have Ss:=seen (aa bH)
     have R7:=frzn (aa bH)
     have adu:=seen (aa zU)
     have adq:=frzn (aa zU)
     go_wp2_with (at_builtin;refine wpList_append_own_at _ rfl _ _ 69 rfl W.heap.size 73 k0 (.agg #[.string ⟨#[]⟩,.int .i64 0]) 2 24 Tryz.underlying69 hkk kz0 kz1 kz2 rfl (by decide) (.slice a1 x.bT.length c1) x.bT.length (KY x.bT) rfl ((aa HOA).own 0 _ rfl) ⟨X8.heap.size,0,none⟩ 1 1 [.string x1,.int .i64 n] rfl rfl (cN _ _ _) (by simp[Value.oneCell']) (aa O1) (aa O2) (by rw[zJ];omega) ?_;intro v5 S6 oe kY _ D';have Qj:=ab oe;have Jt:=ab kY;have XX:=ab D';obtain ⟨a5,c5,rfl⟩:=bY oe;obtain ⟨abS,abB⟩:=aa LO S6 kY;clear oe kY D')
     obtain ⟨k1,k2,k3,k4,k5,k6⟩:=Cx (j:=1) (aa HOA) (i:=0) rfl (zD _) cC.2 (aa Lt) (aa Jo) (aa kL) (by simp) NP (aa Qj) (aa Jt) (aa XX)
     have NO:(S6.setCell ⟨xi,1,none⟩ (.slice a5 (x.bT.length+1) c5)).heap[xi]?=some (.cells #[.string nm,.slice a5 (x.bT.length+1) c5,.slice a2 x.res.length c2,.slice a3 x.gone.length c3] 71 (0,0)):=(aC (j:=1) k1 (.slice a5 (x.bT.length+1) c5)).1
     have lM:Hid (WO W lo b W.heap.size ti xi nm F0 gV { x with bT:=x.bT++[(x1,n)] } (aT (al R5 de)) (S6.setCell ⟨xi,1,none⟩ (.slice a5 (x.bT.length+1) c5))):=by
      refine ⟨k3,k4,k5 W.heap.size _ (by simp) (by omega) (bL (aa aW) _),⟨_,_,_,k5 ti _ (by simp) (by omega) (bL (aa aZ) _)⟩,⟨a5,c5,a2,c2,a3,c3,?_,?_⟩,aa HNM,aa nz,aa HL2⟩
      ·simp only[zK]
       exact NO
      ·have k2':=k2.less (L':=[xi,ti,W.heap.size]) (by simp)
       unfold ES at k2' ⊢
       simp only[zK,I5]
       exact k2'
     clear k1 k2 k3 k4 k5 k6 NO
     go_roundg (mR (aT (al R5 de)))
     case measure=>exact aa HM
     case rel=>exact ⟨_,_,rfl,lM⟩
  |false =>
   have hq:∀s,Rk=.ok s→aH s.here 4 ⟨#[125]⟩=true:=by
    intro s e
    have hq:=aa jw
    rw[e] at hq
    have:(true&&!(aH s.here 4 ⟨#[125]⟩))=false:=hq
    cases hp:aH s.here 4 ⟨#[125]⟩ with
    |true=>rfl
    |false=>rw[hp] at this;cases this
   obtain ⟨e1,e2⟩:=V0 (aa jY).z.2 hq (aa jY).f
   have rY:=ab e1
   have lM:=ab e2
   obtain ⟨tk,tp,ttx,ht⟩:=(aa jY).t
   obtain ⟨a1,c1,a2,c2,a3,c3,hx,hs⟩:=(aa jY).bx
   have HG:=ab (aa jY).g
   have HZ:=ab (aa jY).z
   have aW:=ab (aa jY).r
   have aZ:=ab ht
   have bH:=ab hx
   have HO:=ab hs
   have HNM:=ab (aa jY).n
   clear ht hx hs hq e1 e2 jw jY
   obtain ⟨q2,lF⟩:∃q,((x.bT.length:Int)==0)=q:=⟨_,rfl⟩
   have wT:=ab lF
   have qv:=seen (aa aW)
   have qi:=frzn (aa aW)
   have Cn:=seen (aa aZ)
   have B7:=frzn (aa aZ)
   have GD:=seen (aa bH)
   have Gm:=frzn (aa bH)
   go_upto_if 88 with fail
   go_cut [] (fun wx=>Hid (World.grownBy (zY) wx (some b)∧Zr lo wx b (TI x.bT.length Rk)))
   case first =>
    cases q2 with
    |true =>
     go_wp2_with fail
     refine (kM (aa HZ)).mono ?_
     rintro e w0 ⟨rfl,hg,hz⟩
     have HH:Hid (World.grownBy (zY) w0 (some b)∧Zr lo w0 b (TI x.bT.length Rk)):=⟨hg,by
      have h1:x.bT.length=0:=by have:=aa wT;simp at this;rw[this];rfl
      unfold TI
      rw[if_pos h1]
      exact hz⟩
     clear hg hz
     go_wp2
     go_meet
     exact HH
    |false =>
     have HH:Hid (World.grownBy (zY) (zY) (some b)∧Zr lo (zY) b (TI x.bT.length Rk)):=⟨zI _ _,by
      have h1:¬x.bT.length=0:=by have:=aa wT;intro q;rw[q] at this;simp at this
      unfold TI
      rw[if_neg h1]
      exact aa HZ⟩
     go_wp2
     go_meet
     exact HH
   case rest =>
   obtain ⟨w41,fV⟩:∃x,x=wc:=⟨_,rfl⟩
   subst fV
   clear qv qi Cn B7 GD Gm
   obtain ⟨hg,hz⟩:=aa hcut
   replace HZ:=ab hz
   replace aW:=ab (aw hg (aa aW) (by omega))
   replace aZ:=ab (aw hg (aa aZ) (by omega))
   replace bH:=ab (aw hg (aa bH) (by omega))
   replace HG:=ab ((aa HG).trans hg)
   replace HO:=ab ((aa HO).kept hg (.inl eQ.1))
   clear hg hz hcut
   clear lF wT
   have qu:=seen (aa aW)
   have qh:=frzn (aa aW)
   have lV:=seen (aa aZ)
   have lR:=frzn (aa aZ)
   have GC:=seen (aa bH)
   have Gl:=frzn (aa bH)
   go_wp2_with fail
   refine (eZ (aa HZ) ⟨#[125]⟩).mono ?_
   rintro e w42 ⟨hg,hz,v42,rfl,Y6,abe⟩
   clear qu qh lV lR GC Gl
   replace HZ:=ab hz
   replace aW:=ab (aw hg (aa aW) (by omega))
   replace aZ:=ab (aw hg (aa aZ) (by omega))
   replace bH:=ab (aw hg (aa bH) (by omega))
   replace HG:=ab ((aa HG).trans hg)
   replace HO:=ab ((aa HO).kept hg (.inl eQ.1))
   clear hg hz
   obtain rfl:=Y6
   clear abe
   have F':W.heap.size≠xi:=by omega
   have rI:=seen (aa aW)
   have ry:=frzn (aa aW)
   have oF:=seen (aa aZ)
   have ou:=frzn (aa aZ)
   have K6:=seen (aa bH)
   have KO:=frzn (aa bH)
   obtain ⟨t1,t2,t3,t4⟩:=Mq (aa HG) (aa HZ) cC.2 (zD _) (aa aW) (.string nm) (.slice a1 x.bT.length c1) (.slice a2 x.res.length c2) (.slice a3 x.gone.length c3)
   have T1:=ab t1
   have T2:=ab t2
   have T3:=ab t3
   have TO:=ab (((aa HO).kept t4 (.inr (by simp))).less (L':=[]) (by simp))
   clear t1 t2 t3 t4
   go_wp2
   refine bodyPost_ret (results_cell_row rfl _ _ W.heap.size 71 #[.string nm,.slice a1 x.bT.length c1,.slice a2 x.res.length c2,.slice a3 x.gone.length c3] (0,0) _ rfl (aa T1) Tryz.underlying71 rfl Mo) rfl ?_
   rw[←aa Fe]
   exact ⟨aa T2,by rw[←aa rY];exact aa T3,x,a1,c1,a2,c2,a3,c3,by rw[aa HNM],aa TO,aa lM⟩
end Go.Proofs.YtjophoclfccmcaaGreatDoor
