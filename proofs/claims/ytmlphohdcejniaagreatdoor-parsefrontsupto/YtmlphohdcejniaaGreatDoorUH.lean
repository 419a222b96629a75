import Derived.Test.YtmlphohdcejniaaGreatDoorM50
set_option maxHeartbeats 8000000
set_option maxRecDepth 100000
namespace Go.Proofs.YtmlphohdcejniaaGreatDoor
open Go.RowKit
attribute [local go_sem ↓] Go.wp_at_zero Go.wp_at_succ
structure Wl (w:World) (p q:Nat) (a:ByteArray) (b c d:Value) (a':ByteArray) (b' c' d':Value):Prop where
 t0:w.cell? ⟨p,0,none⟩=some (.string a)
 t1:w.cell? ⟨p,1,none⟩=some b
 t2:w.cell? ⟨p,2,none⟩=some c
 t3:w.cell? ⟨p,3,none⟩=some d
 t4:w.cell? ⟨q,0,none⟩=some (.string a')
 t5:w.cell? ⟨q,1,none⟩=some b'
 t6:w.cell? ⟨q,2,none⟩=some c'
 t7:w.cell? ⟨q,3,none⟩=some d'
 lp:p<w.heap.size
 lq:q<w.heap.size
theorem Wl.up {w w':World}{p q:Nat}{a a':ByteArray}{b c d b' c' d':Value} (h:Wl w p q a b c d a' b' c' d') (hb:Below w.heap.size w w'):Wl w' p q a b c d a' b' c' d' :=
 ⟨(hb.cell (p:=⟨p,0,none⟩) h.lp).trans h.t0,(hb.cell (p:=⟨p,1,none⟩) h.lp).trans h.t1,(hb.cell (p:=⟨p,2,none⟩) h.lp).trans h.t2,(hb.cell (p:=⟨p,3,none⟩) h.lp).trans h.t3,(hb.cell (p:=⟨q,0,none⟩) h.lq).trans h.t4,(hb.cell (p:=⟨q,1,none⟩) h.lq).trans h.t5,(hb.cell (p:=⟨q,2,none⟩) h.lq).trans h.t6,(hb.cell (p:=⟨q,3,none⟩) h.lq).trans h.t7,Nat.lt_of_lt_of_le h.lp hb.size,Nat.lt_of_lt_of_le h.lq hb.size⟩
theorem J7 {w:World}{P Q:Nat→Prop}{y G:Fl}{iy my ey ia ma ea:Option Addr}{jy ny fy ic mc ec:Nat} (h:NF y (.agg #[.string y.eI,.slice iy y.bM.length jy,.slice my y.ms.length ny,.slice ey y.es.length fy]) P w) (k:NF G (.agg #[.string G.eI,.slice ia G.bM.length ic,.slice ma G.ms.length mc,.slice ea G.es.length ec]) Q w) (hm:kU y G):Calls Tryz.prog 13 #[.slice my y.ms.length ny,.slice ma y.ms.length mc] w (pg w):=by
 obtain ⟨vi,vm,ve,cm,ce,hx,-,r2,r3,-⟩:=h
 obtain ⟨vi',Xq,ve',PD,RP,rS,-,s2,s3,-⟩:=k
 simp only[Value.agg.injEq,Array.mk.injEq,List.cons.injEq,true_and,and_true] at hx rS
 obtain ⟨rfl,rfl,rfl⟩:=hx
 obtain ⟨rfl,rfl,rfl⟩:=rS
 obtain ⟨r,hr⟩:=hm.2.1
 rw[hr] at s3
 obtain ⟨kO,h1,t,h2⟩:=s3.front
 have h3:=s2.rd
 rw[h2] at h3
 exact Fj r2.rd r3 (LV h3 (by rw[hr,zK];omega)) h1
theorem D6 {W:World} (hF:nn W) (hE:gM W) (hM:gY W) (hP:oN W) {F:Fl}{v vi vm ve:Value}{cm ce:List Value} (hL:To W v F vi vm ve cm ce) (hz:Pd F) {x0:Int} (X7:kX x0):Calls Tryz.prog 4 #[v,.int .i64 x0] W fun e W'=>e=.returned (.bool true)∧Below W.heap.size W W':=by
 obtain ⟨k0,lM,kz0,kz1,kz2⟩:=info_parts Tryz.BG
 obtain ⟨h1,k1,l1⟩:=G9 W #[.string F.eI,vi,vm,ve] 26
 have HW:=aj (CH (vs:=.slice none 0 0) (hM.up h1 hM.1) (hP.up h1) (hL.up h1) hz ⟨none,0,0,rfl,by omega,fun h=>absurd h (by decide)⟩)
 have yF:=aj (And.intro hF (And.intro hE hM))
 obtain ⟨rfl,hi,hm,-,he,-⟩:=hL
 obtain ⟨Ky,Kj,rfl,-,-⟩:=hi
 obtain ⟨EU,B9,rfl,-,-⟩:=hm
 obtain ⟨Ey,AS,rfl,-,-⟩:=he
 obtain ⟨W1,ET⟩:∃x,W.alloc (.cells #[.string F.eI,.slice Ky F.bM.length Kj,.slice EU F.ms.length B9,.slice Ey F.es.length AS] 26)=x:=⟨_,rfl⟩
 rw[ET] at HW h1 k1
 have H1:=aj h1
 obtain ⟨c0,c1,c2,c3⟩:=eK k1
 clear h1 k1 l1 hF hE hM hP hz
 go_enter Tryz.func4,Tryz.ntmps4
 go_wp2_with fail
 refine (aa HW).mono ?_
 rintro e w1 ⟨G,gi,gm,ge,B,ps,c,ws,rfl,hn,kJ,Zi,Aq,hB,bF⟩
 have KV:=aj kJ
 have abB:=aj Zi
 have HOk:=aj Aq
 have Xi:=aj hB
 obtain ⟨xi,xm,xe,xcm,xce,hx,r1,r2,r3,r4,r5⟩:=id hn
 obtain ⟨ia,ic,e1,-,-⟩:=r1.rd
 obtain ⟨ma,mc,e2,-,-⟩:=r2.rd
 obtain ⟨ea,ec,e3,-,-⟩:=r4.rd
 subst e1 e2 e3
 simp only[Value.agg.injEq,Array.mk.injEq,List.cons.injEq,true_and,and_true] at hx
 obtain ⟨rfl,rfl,rfl⟩:=hx
 have Im:=(aa H1).trans (bF.mono (aa H1).size)
 obtain ⟨h2,k2,l2⟩:=G9 w1 #[.string G.eI,.slice ia G.bM.length ic,.slice ma G.ms.length mc,.slice ea G.es.length ec] 26
 obtain ⟨p5,hp5⟩:∃p,w1.heap.size=p:=⟨_,rfl⟩
 obtain ⟨W2,ES⟩:∃x,w1.alloc (.cells #[.string G.eI,.slice ia G.bM.length ic,.slice ma G.ms.length mc,.slice ea G.es.length ec] 26)=x:=⟨_,rfl⟩
 rw[ES] at h2 k2 l2
 have Il:=Im.trans (h2.mono Im.size)
 have Xd:=aj (hn.up h2)
 have yP:=aj (wL ((aa yF).1.up Il) ((aa yF).2.1.up Il) ((aa yF).2.2.up Il (aa yF).2.2.1) B)
 have iL:=aj Il
 have Ti:=aj (And.intro k2 l2)
 obtain ⟨fits,du⟩:∃f,(decide (c≤4096)&&decide (ps.length<16384)&&decide (B.size≤65536))=f:=⟨_,rfl⟩
 have aby:=aj du
 rw[du]
 clear hn kJ Zi Aq hB bF r1 r2 r3 r4 r5 Im h2 k2 l2 Il HW H1 c0 c1 c2 c3 du ET
 rw[hp5] at Ti
 go_wp2_with fail
 refine (aa yP).mono ?_
 intro e w3 hr
 cases fits with
 |false =>
  obtain ⟨v,k,c',rfl,mQ⟩:=Ln hr
  have D0:=(aa iL).trans (mQ.mono (aa iL).size)
  have HK:=aj (Al ((aa yF).1.up D0) ((aa yF).2.1.up D0) ((aa yF).2.2.up D0 (aa yF).2.2.1))
  have E0:=aj D0
  clear hr mQ D0 yP iL Xd Ti ES
  go_wp2_with fail
  refine (aa HK).mono ?_
  rintro e w4 ⟨rfl,eV⟩
  have EZ:=aj ((aa E0).trans (eV.mono (aa E0).size))
  clear eV HK E0
  go_wp2
  go_ret
  exact ⟨rfl,aa EZ⟩
 |true =>
  have du:=aa aby
  simp only[Bool.and_eq_true,decide_eq_true_eq] at du
  obtain ⟨ts,ht,hk⟩:=E9 (aa HOk) (aa Xi) du.2 (by omega)
  obtain ⟨mQ,ha⟩:=hr
  rw[ht] at ha
  obtain ⟨v,rfl,ho⟩:=ha
  have YT:∀n,n≤ps.length→_:=fun n hn=>F3 (n:=n) (aa KV) (aa abB) (aa HOk) du.1.1 (by omega) hk hn
  have HFr:=aj YT
  have BP:ts.length=ps.length+1:=by
   have:=congrArg List.length hk
   simpa using this
  have Cx:∀t ∈ ts,t.text.size≤65536∧t.place≤65536:=fun t htm=>by
   have hq:jV B (B.size+1) 0 0=.inl ts:=by
    have h1:=ht
    rw[A7 (by omega) (by rw[A3 (by rw[aa Xi];exact qn _ (aa HOk))];decide)] at h1
    exact h1
   obtain ⟨pre,q1,q2,-,q4⟩:=E' _ 0 0 ts (Nat.zero_le _) (by decide) hq
   rw[q1] at htm
   rcases List.mem_append.1 htm with h2|h2
   ·obtain ⟨e,he⟩:=q2 t h2
    have h3:=he.size
    have h4:=he.le
    have h5:=he.lt
    omega
   ·rw[List.mem_singleton.1 h2]
    show 0≤65536∧B.size≤65536
    omega
  obtain ⟨M,hM⟩:∃M,ts.length=M:=⟨_,rfl⟩
  have hMl:1≤M∧M≤16384∧M=ps.length+1:=by omega
  obtain ⟨gl,cl,rfl⟩:∃gl cl,v=.slice (some ⟨gl,0,none⟩) M cl:=by
   rcases ho.2 with ⟨-,h0⟩|⟨g,cap,cur,e,_⟩
   ·omega
   ·exact ⟨g,cap,by rw[e,hM]⟩
  rw[hM] at ho
  have HO:=aj ho
  have gE:M≤cl:=by
   rcases ho.2 with ⟨q,-⟩|⟨g,cap,cur,e,_,_,h4,_⟩
   ·cases q
   ·cases e
    exact h4
  have HCl:=aj gE
  clear gE
  have D0:=(aa iL).trans (mQ.mono (aa iL).size)
  have HN3:=aj ((aa Xd).up mQ)
  have GG:=aj (And.intro ((mQ.block _ (aa Ti).2).trans (aa Ti).1) (Nat.lt_of_lt_of_le (aa Ti).2 mQ.size))
  have HK:=aj (Al ((aa yF).1.up D0) ((aa yF).2.1.up D0) ((aa yF).2.2.up D0 (aa yF).2.2.1))
  have E0:=aj D0
  have W6:=aj Cx
  have HM:=aj hM
  have HMl:=aj hMl
  have m1:1≤M:=hMl.1
  have m2:M≤16384:=hMl.2.1
  have m3:((M:Int)==0)=false:=by simp;omega
  clear ho hk YT BP Cx hM hMl mQ D0 yP iL Xd Ti ES du ht
  go_wp2_with fail
  refine (aa HK).mono ?_
  rintro e w4 ⟨rfl,eV⟩
  have hB4:=(aa E0).trans (eV.mono (aa E0).size)
  have HN4:=aj ((aa HN3).up eV)
  have O8:=aj (And.intro ((eV.block _ (aa GG).2).trans (aa GG).1) (Nat.lt_of_lt_of_le (aa GG).2 eV.size))
  have HO4:=aj (gQ (aa HO) eV)
  have EZ:=aj hB4
  clear eV hB4 HK E0 HN3 GG HO
  go_wp2_with fail
  refine (dU w4 (lo:=0) (hi:=(M:Int)-1) X7 (by omega) (by omega) (by omega)).mono ?_
  rintro e w4' ⟨⟨x,hx,rfl⟩,hw⟩
  have ll:=hw.symm
  subst ll
  obtain ⟨n,rfl⟩:∃n:Nat,x=(n:Int):=⟨x.toNat,by omega⟩
  have hnM:n<M:=by omega
  have HnM:=aj hnM
  have ncl:n≤cl:=by have:=aa HCl;omega
  clear hx
  have hlT:(cI (ts.take n)).length=n*3:=by rw[gO,List.length_take,aa HM];omega
  have HlT:=aj hlT
  clear hlT
  go_wp2_with (at_make;refine wpList_make_full _ rfl _ _ 38 rfl w4.heap.size 44 k0 _ 3 Tryz.underlying38 lM kz0 kz1 .i64 .i64 _ _ n rfl rfl (by first|rfl|simp) (by first|rfl|simp) (by rw[kz2];omega) (by unfold maxLen;omega) (zD _) ?_;intro w5 SM rW;have Hr:=aj SM;have Hb:Hid (Below w4.heap.size w4 w5):=⟨rW.os,rW.tape,rW.output,rW.size,fun b hb=>rW.block b hb (by simp)⟩;clear SM rW)
  obtain ⟨cur,UO,cB⟩:∃cur:Array Value,w5.heap[w4.heap.size]?=some (.cells cur 44 (0,0))∧cur.size=n*3:=by
   rcases (aa Hr).2 with ⟨q,_⟩|⟨g,cap,cur,q,_,h3,_,_,h6,_⟩
   ·cases q
   ·cases q
    exact ⟨cur,h3,h6⟩
  have hO5:=gQ (aa HO4) (aa Hb)
  have Yn:=Jq (P:=Tryz.prog) w5 38 38 3 44 w4.heap.size n n ⟨gl,0,none⟩ cl cur 44 (cI (ts.take n)) Tryz.underlying38 P8 UO (aa HlT) (fun j u hj=>by
   rw[CT,List.getElem?_take] at hj
   split at hj
   ·rw[Go.WideShapes.add_plain,Nat.zero_add]
    have hjl:j<(cI ts).length:=(zB hj).1
    rw[World.ownsRow.cellAt hO5 j (by rw[gO] at hjl;omega)]
    exact hj
   ·cases hj) (by rw[aa HlT,cB]) (fun u hu=>by rw[rB] at hu;exact xE _ u hu)
  rw[Yn]
  have pR:=setRow_heap w5 w4.heap.size _ (cI (ts.take n)).toArray 44 _ UO
  have za:Below w4.heap.size w4 (w5.setRow w4.heap.size (cI (ts.take n)).toArray):=below_setRow (aa Hb) (zD _) _
  obtain ⟨w6,JY⟩:∃x,w5.setRow w4.heap.size (cI (ts.take n)).toArray=x:=⟨_,rfl⟩
  rw[JY] at pR za ⊢
  have aa3:=(zA pR).1
  have Zo:=(aa EZ).trans (za.mono (aa EZ).size)
  have HN6:=aj ((aa HN4).up za)
  have Th:=aj (And.intro ((za.block _ (aa O8).2).trans (aa O8).1) (Nat.lt_of_lt_of_le (aa O8).2 za.size))
  have V3:=aj (gQ (aa HO4) za)
  have hcp:=copied (B:=0) (w:=w6) (n:=n) (ts:=ts.take n) (Nat.zero_le _) (by rw[List.length_take,aa HM];omega) (by omega) pR
  have hPt:=sI ((aa yF).1.up Zo) ((aa yF).2.1.up Zo) ((aa yF).2.2.up Zo (aa yF).2.2.1) (GM hcp (zD _) (zD _)) (fun t htm=>by
   obtain ⟨t',h1,rfl⟩:=List.mem_map.1 htm
   have h2:=(aa W6 t' (List.mem_of_mem_take h1)).1
   show t'.text.size≤_
   omega) (by rw[List.length_map,List.length_take];omega)
  rw[List.map_take] at hPt
  have HPt:=aj hPt
  have PL:=aj Zo
  obtain ⟨gf,hgf⟩:∃g,w4.heap.size=g:=⟨_,rfl⟩
  rw[hgf] at HPt ⊢
  clear Yn UO cB hO5 pR za aa3 Zo hcp hPt Hr Hb EZ HN4 O8 HO4 JY hgf
  go_wp2_with fail
  refine (aa HPt).mono ?_
  intro e w7 hr
  obtain ⟨iy,il,jy,my,ml,ny,ey,el,fy,rfl,Ww,Nw⟩:=wY hr
  have hB7:=(aa PL).trans (Nw.mono (aa PL).size)
  have HN7:=aj ((aa HN6).up Nw)
  have HG7:=aj (And.intro ((Nw.block _ (aa Th).2).trans (aa Th).1) (Nat.lt_of_lt_of_le (aa Th).2 Nw.size))
  have V2:=aj (gQ (aa V3) Nw)
  rcases aa HFr n (by have:=(aa HMl).2.2;omega) with ⟨hnl,Pq⟩|⟨y,t,Pq,YG,jq⟩
  ·rw[Pq]
   have HB7:=aj hB7
   simp only[F9,N8,LK]
   have q5:(n:Int)<(M:Int)-1:=by have:=(aa HMl).2.2;omega
   have q7:decide ((n:Int)<(M:Int)-1)=true:=by simpa using q5
   obtain ⟨sp,BK⟩:∃s,qI ((ts.map Tok.tk).take n)=s:=⟨_,rfl⟩
   rw[BK]
   have Hsp:=aj BK
   have hT:=ko (aa HB7) #[.string (⟨#[]⟩:ByteArray),.slice iy il jy,.slice my ml ny,.slice ey el fy] #[.int .i64 51,.int .i64 0,.int .i64 sp,.string ⟨#[]⟩] 26 33
   have HT:=aj hT
   have Y4:=hT.y
   have z0:=Y4 0
   have z1:=Y4 1
   have z2:=Y4 2
   have z3:=Y4 3
   have QZ:=(ko (zE w7.heap.size w7) #[.string (⟨#[]⟩:ByteArray),.slice iy il jy,.slice my ml ny,.slice ey el fy] #[.int .i64 51,.int .i64 0,.int .i64 sp,.string ⟨#[]⟩] 26 33).bl
   have PH:=aj (gQ (aa V2) QZ)
   clear hr Ww Nw hB7 HPt HN6 Th PL HN7 HG7 Pq hT Y4 QZ V3 V2 BK HFr
   rcases Nat.eq_zero_or_pos n with rfl|iE
   ·obtain rfl:(0:Int)=sp:=aa Hsp
    have q8:decide ((0:Int)<(M:Int)-1)=true:=by simpa using q5
    have q9:(0:Int)<(M:Int)-1:=by simpa using q5
    have Cv:(1:Int)<(M:Int):=by omega
    have LY:decide ((1:Int)<(M:Int))=true:=decide_eq_true Cv
    have TM:(1:Nat)<M:=by omega
    have q13:decide ((1:Nat)<M)=true:=decide_eq_true TM
    clear PH q5 q7
    go_wp2
    go_ret
    exact ⟨rfl,(aa HT).bl⟩
   ·obtain ⟨i,hi⟩:∃i,n=i+1:=⟨n-1,by omega⟩
    have KO:(n:Int)-1=(i:Int):=by omega
    obtain ⟨tk,Ia⟩:∃t,ts[i]?=some t:=⟨_,List.getElem?_eq_getElem (by have:=aa HM;omega)⟩
    obtain ⟨t1,t2,t3⟩:=nW ts i tk Ia
    have Uv:=aa W6 tk (List.mem_of_getElem? Ia)
    have Nf:=gO ts
    have u2:=(World.ownsRow.cellAt (aa PH) (i*3+1) (by have:=aa HM;omega)).trans t2
    have u3:=(World.ownsRow.cellAt (aa PH) (i*3+2) (by have:=aa HM;omega)).trans t3
    obtain rfl:(tk.place:Int)+(tk.text.size:Int)=sp:=by
     have h1:=aa Hsp
     have h2:((ts.map Tok.tk).take n).getLast?=some tk.tk:=by
      rw[List.getLast?_eq_getElem?,List.length_take,List.length_map,aa HM,List.getElem?_take]
      rw[if_pos (by omega),show min n M-1=i by omega,List.getElem?_map,Ia]
      rfl
     unfold qI at h1
     rw[h2] at h1
     have h3:wrap64 ((tk.place:Int)+(tk.text.size:Int))=(tk.place:Int)+(tk.text.size:Int):=pW (by omega) (by omega)
     rw[←h1]
     exact h3.symm
    have j0:(0:Int)≤(i:Int):=zH _
    have j1:(i:Int)<(M:Int):=by omega
    have j2:(0:Int)<(n:Int):=by omega
    have j3:=Uv.1
    have j4:=Uv.2
    have Hi:=aj hi
    clear t1 t2 t3 Ia Uv Nf PH hi iE Hsp
    go_wp2
    go_quiet (fail)
    go_wp2
    go_ret
    exact ⟨rfl,below_drewN (aa HT).bl _⟩
  ·rw[Pq] at Ww ⊢
   have HB7:=aj hB7
   simp only[F9,N8,LK] at Ww ⊢
   obtain ⟨yi,ym,ye,ycm,yce,hx,r1,r2,r3,r4,r5⟩:=id Ww
   obtain ⟨iy',jy',e1,-,-⟩:=r1.rd
   obtain ⟨my',ny',e2,-,-⟩:=r2.rd
   obtain ⟨ey',fy',e3,-,-⟩:=r4.rd
   subst e1 e2 e3
   simp only[Value.agg.injEq,Array.mk.injEq,List.cons.injEq,true_and,and_true,Value.slice.injEq] at hx
   obtain ⟨⟨rfl,rfl,rfl⟩,⟨rfl,rfl,rfl⟩,⟨rfl,rfl,rfl⟩⟩:=hx
   have hT:=ko (aa HB7) #[.string y.eI,.slice iy y.bM.length jy,.slice my y.ms.length ny,.slice ey y.es.length fy] #[.int .i64 0,.int .i64 0,.int .i64 0,.string ⟨#[]⟩] 26 33
   have HT:=aj hT
   have QZ:=(ko (zE w7.heap.size w7) #[.string y.eI,.slice iy y.bM.length jy,.slice my y.ms.length ny,.slice ey y.es.length fy] #[.int .i64 0,.int .i64 0,.int .i64 0,.string ⟨#[]⟩] 26 33).bl
   have X4:=hT.x
   have x0:=X4 0
   have x1:=X4 1
   have x2:=X4 2
   have x3:=X4 3
   have Y4:=hT.y
   have z0:=Y4 0
   obtain ⟨g0,g1,g2,g3⟩:=eK ((QZ.block _ (aa HG7).2).trans (aa HG7).1)
   have HNy:=aj (Ww.up QZ)
   have HNG:=aj ((aa HN7).up QZ)
   have HMo:=aj YG
   have abC:=aj jq
   have lx:=hT.lx
   have lg:=Nat.lt_of_lt_of_le (aa HG7).2 QZ.size
   obtain ⟨yJ,Yv⟩:∃p,w7.heap.size=p:=⟨_,rfl⟩
   rw[Yv] at x0 x1 x2 x3 lx
   have q1:decide ((y.bM.length:Int)≤(G.bM.length:Int))=true:=by have:=YG.1;simp;omega
   have q2:decide ((y.ms.length:Int)≤(G.ms.length:Int))=true:=by
    obtain ⟨r,hr⟩:=YG.2.1
    rw[hr,zK]
    simp
    omega
   have q3:decide ((y.es.length:Int)≤(G.es.length:Int))=true:=by have:=YG.2.2;simp;omega
   have q4:y.ms.length≤G.ms.length:=by simpa using q2
   have q1n:y.bM.length≤G.bM.length:=by simpa using q1
   have q3n:y.es.length≤G.es.length:=by simpa using q3
   have q14:¬mc<y.ms.length:=by
    obtain ⟨_,_,_,_,_,rS,s1,s2,_⟩:=id (aa HNG)
    simp only[Value.agg.injEq,Array.mk.injEq,List.cons.injEq,true_and,and_true] at rS
    obtain ⟨rfl,rfl,rfl⟩:=rS
    rcases s2.1.2 with ⟨e,-⟩|⟨g,cap,cur,e,-,-,h4,-⟩
    ·simp only[Value.slice.injEq] at e
     omega
    ·simp only[Value.slice.injEq] at e
     omega
   have q16:IntKind.i64.wrap ((M:Int)-1)=(M:Int)-1:=by rw[IntKind.wrap_i64];omega
   have q6:G.ms.length≤9223372036854775807:=by
    obtain ⟨_,_,_,_,_,rS,s1,s2,_⟩:=id (aa HNG)
    obtain ⟨_,_,_,h9,_⟩:=s2.rd
    unfold maxLen at h9
    omega
   have PH:=aj (gQ (aa V2) QZ)
   clear hr Ww Nw hB7 HPt HN6 Th PL HN7 HG7 Pq hT QZ V3 V2 HFr YG jq X4 Y4 r1 r2 r3 r4 r5
   go_upto_if 61 with fail
   go_cut [15] (fun _ wx=>∃m,wx=World.drewN ((w7.alloc (.cells #[.string y.eI,.slice iy y.bM.length jy,.slice my y.ms.length ny,.slice ey y.es.length fy] 26)).alloc (.cells #[.int .i64 0,.int .i64 0,.int .i64 0,.string ⟨#[]⟩] 33)) m)
   case first =>
    rcases Nat.eq_zero_or_pos n with rfl|iE
    ·go_wp2
     go_meet
     exact ⟨0,rfl⟩
    ·obtain ⟨i,hi⟩:∃i,n=i+1:=⟨n-1,by omega⟩
     have KO:(n:Int)-1=(i:Int):=by omega
     obtain ⟨tk,Ia⟩:∃t,ts[i]?=some t:=⟨_,List.getElem?_eq_getElem (by have:=aa HM;omega)⟩
     obtain ⟨t1,t2,t3⟩:=nW ts i tk Ia
     have Uv:=aa W6 tk (List.mem_of_getElem? Ia)
     have Nf:=gO ts
     have u2:=(World.ownsRow.cellAt (aa PH) (i*3+1) (by have:=aa HM;omega)).trans t2
     have u3:=(World.ownsRow.cellAt (aa PH) (i*3+2) (by have:=aa HM;omega)).trans t3
     have j0:(0:Int)≤(i:Int):=zH _
     have j1:(i:Int)<(M:Int):=by omega
     have j2:(0:Int)<(n:Int):=by omega
     have j3:=Uv.1
     have j4:=Uv.2
     clear t1 t2 t3 Ia Uv Nf hi iE
     go_wp2
     go_quiet (fail)
     go_wp2
     go_meet
     exact ⟨nq,rfl⟩
   case rest =>
    obtain ⟨m,rfl⟩:=hcut
    have jo:Below (((w7.alloc (.cells #[.string y.eI,.slice iy y.bM.length jy,.slice my y.ms.length ny,.slice ey y.es.length fy] 26)).alloc (.cells #[.int .i64 0,.int .i64 0,.int .i64 0,.string ⟨#[]⟩] 33))).heap.size ((w7.alloc (.cells #[.string y.eI,.slice iy y.bM.length jy,.slice my y.ms.length ny,.slice ey y.es.length fy] 26)).alloc (.cells #[.int .i64 0,.int .i64 0,.int .i64 0,.string ⟨#[]⟩] 33)) (World.drewN ((w7.alloc (.cells #[.string y.eI,.slice iy y.bM.length jy,.slice my y.ms.length ny,.slice ey y.es.length fy] 26)).alloc (.cells #[.int .i64 0,.int .i64 0,.int .i64 0,.string ⟨#[]⟩] 33)) m):=below_drewN (zE _ _) m
    have zr:=aj ((aa HT).up jo)
    have V4:=aj ((aa HNy).up jo)
    have V5:=aj ((aa HNG).up jo)
    have x0a:=(jo.cell (p:=⟨yJ,0,none⟩) lx).trans x0
    have x1a:=(jo.cell (p:=⟨yJ,1,none⟩) lx).trans x1
    have x2a:=(jo.cell (p:=⟨yJ,2,none⟩) lx).trans x2
    have x3a:=(jo.cell (p:=⟨yJ,3,none⟩) lx).trans x3
    have g0a:=(jo.cell (p:=⟨p5,0,none⟩) lg).trans g0
    have g1a:=(jo.cell (p:=⟨p5,1,none⟩) lg).trans g1
    have g2a:=(jo.cell (p:=⟨p5,2,none⟩) lg).trans g2
    have g3a:=(jo.cell (p:=⟨p5,3,none⟩) lg).trans g3
    have T9:=Nat.lt_of_lt_of_le lx jo.size
    have Ua:=Nat.lt_of_lt_of_le lg jo.size
    have z0a:(World.drewN ((w7.alloc (.cells #[.string y.eI,.slice iy y.bM.length jy,.slice my y.ms.length ny,.slice ey y.es.length fy] 26)).alloc (.cells #[.int .i64 0,.int .i64 0,.int .i64 0,.string ⟨#[]⟩] 33)) m).cell? ⟨yJ+1,0,none⟩=some (.int .i64 0):=by rw[←Yv];exact (aa zr).y 0
    obtain ⟨wq,hwq⟩:∃x,World.drewN ((w7.alloc (.cells #[.string y.eI,.slice iy y.bM.length jy,.slice my y.ms.length ny,.slice ey y.es.length fy] 26)).alloc (.cells #[.int .i64 0,.int .i64 0,.int .i64 0,.string ⟨#[]⟩] 33)) m=x:=⟨_,rfl⟩
    rw[hwq] at zr V4 V5 x0a x1a x2a x3a g0a g1a g2a g3a T9 Ua z0a ⊢
    clear hwq jo HT HNy HNG x0 x1 x2 x3 g0 g1 g2 g3 lx lg z0 PH
    go_upto_region 16 with fail
    refine wp_region_any (by kernel_rfl) ?_
    try (change wpAny _ _ _ _ _ _ _ (World.drew _))
    have jo:Below wq.heap.size wq wq.drew:=below_drewN (zE _ _) 1
    have wH:=aj ((aa zr).up jo).bl
    have Sg:=aj ((aa V4).up jo)
    have Sh:=aj ((aa V5).up jo)
    have d0:wq.drew.cell? ⟨yJ,0,none⟩=_:=(jo.cell (p:=⟨yJ,0,none⟩) T9).trans x0a
    have d1:wq.drew.cell? ⟨yJ,1,none⟩=_:=(jo.cell (p:=⟨yJ,1,none⟩) T9).trans x1a
    have d2:wq.drew.cell? ⟨yJ,2,none⟩=_:=(jo.cell (p:=⟨yJ,2,none⟩) T9).trans x2a
    have d3:wq.drew.cell? ⟨yJ,3,none⟩=_:=(jo.cell (p:=⟨yJ,3,none⟩) T9).trans x3a
    have d4:wq.drew.cell? ⟨p5,0,none⟩=_:=(jo.cell (p:=⟨p5,0,none⟩) Ua).trans g0a
    have d5:wq.drew.cell? ⟨p5,1,none⟩=_:=(jo.cell (p:=⟨p5,1,none⟩) Ua).trans g1a
    have d6:wq.drew.cell? ⟨p5,2,none⟩=_:=(jo.cell (p:=⟨p5,2,none⟩) Ua).trans g2a
    have d7:wq.drew.cell? ⟨p5,3,none⟩=_:=(jo.cell (p:=⟨p5,3,none⟩) Ua).trans g3a
    have lx3:=Nat.lt_of_lt_of_le T9 jo.size
    have lg3:=Nat.lt_of_lt_of_le Ua jo.size
    obtain ⟨wd,iZ⟩:∃x,wq.drew=x:=⟨_,rfl⟩
    rw[iZ] at wH Sg Sh d0 d1 d2 d3 d4 d5 d6 d7 lx3 lg3 ⊢
    clear iZ jo zr V4 V5 x0a x1a x2a x3a g0a g1a g2a g3a T9 Ua z0a
    have HS:=aj (J7 (aa Sg) (aa Sh) (aa HMo))
    refine cj (z:=99) (T:=fun w'=>Wl w' yJ p5 y.eI (.slice iy y.bM.length jy) (.slice my y.ms.length ny) (.slice ey y.es.length fy) G.eI (.slice ia G.bM.length ic) (.slice ma G.ms.length mc) (.slice ea G.es.length ec)) _ _ _ _ ?_
    have hT:(fun w':World=>Wl w' yJ p5 y.eI (.slice iy y.bM.length jy) (.slice my y.ms.length ny) (.slice ey y.es.length fy) G.eI (.slice ia G.bM.length ic) (.slice ma G.ms.length mc) (.slice ea G.es.length ec)) wd:=⟨d0,d1,d2,d3,d4,d5,d6,d7,lx3,lg3⟩
    refine ak 0 (.pointer (some ⟨yJ,1,none⟩)) 90 rfl rfl (Or.inl ⟨by rfl,fun w' hw=>by obtain ⟨t0,t1,t2,t3,t4,t5,t6,t7,-,-⟩:=hw;go_simp⟩) hT ?_
    simp only[Act.put,zL,zM,zN]
    refine ak 1 (.slice iy y.bM.length jy) 91 rfl rfl (Or.inl ⟨by rfl,fun w' hw=>by obtain ⟨t0,t1,t2,t3,t4,t5,t6,t7,-,-⟩:=hw;go_simp⟩) hT ?_
    simp only[Act.put,zL,zM,zN]
    refine ak 2 (.int .i64 (y.bM.length:Int)) 92 rfl rfl (Or.inl ⟨by rfl,fun w' hw=>by obtain ⟨t0,t1,t2,t3,t4,t5,t6,t7,-,-⟩:=hw;go_simp⟩) hT ?_
    simp only[Act.put,zL,zM,zN]
    refine ak 3 (.pointer (some ⟨p5,1,none⟩)) 93 rfl rfl (Or.inl ⟨by rfl,fun w' hw=>by obtain ⟨t0,t1,t2,t3,t4,t5,t6,t7,-,-⟩:=hw;go_simp⟩) hT ?_
    simp only[Act.put,zL,zM,zN]
    refine ak 4 (.slice ia G.bM.length ic) 94 rfl rfl (Or.inl ⟨by rfl,fun w' hw=>by obtain ⟨t0,t1,t2,t3,t4,t5,t6,t7,-,-⟩:=hw;go_simp⟩) hT ?_
    simp only[Act.put,zL,zM,zN]
    refine ak 5 (.int .i64 (G.bM.length:Int)) 95 rfl rfl (Or.inl ⟨by rfl,fun w' hw=>by obtain ⟨t0,t1,t2,t3,t4,t5,t6,t7,-,-⟩:=hw;go_simp⟩) hT ?_
    simp only[Act.put,zL,zM,zN]
    refine ak 6 (.bool true) 96 rfl rfl (Or.inl ⟨by rfl,fun w' hw=>by obtain ⟨t0,t1,t2,t3,t4,t5,t6,t7,-,-⟩:=hw;go_simp⟩) hT ?_
    simp only[Act.put,zL,zM,zN]
    refine ak 7 (.bool true) 97 rfl rfl (Or.inl ⟨by rfl,fun w' hw=>by obtain ⟨t0,t1,t2,t3,t4,t5,t6,t7,-,-⟩:=hw;go_simp⟩) hT ?_
    simp only[Act.put,zL,zM,zN]
    refine ak 8 (.pointer (some ⟨yJ,2,none⟩)) 98 rfl rfl (Or.inl ⟨by rfl,fun w' hw=>by obtain ⟨t0,t1,t2,t3,t4,t5,t6,t7,-,-⟩:=hw;go_simp⟩) hT ?_
    simp only[Act.put,zL,zM,zN]
    refine ak 9 (.slice my y.ms.length ny) 99 rfl rfl (Or.inl ⟨by rfl,fun w' hw=>by obtain ⟨t0,t1,t2,t3,t4,t5,t6,t7,-,-⟩:=hw;go_simp⟩) hT ?_
    simp only[Act.put,zL,zM,zN]
    refine ak 10 (.int .i64 (y.ms.length:Int)) 100 rfl rfl (Or.inl ⟨by rfl,fun w' hw=>by obtain ⟨t0,t1,t2,t3,t4,t5,t6,t7,-,-⟩:=hw;go_simp⟩) hT ?_
    simp only[Act.put,zL,zM,zN]
    refine ak 11 (.pointer (some ⟨p5,2,none⟩)) 101 rfl rfl (Or.inl ⟨by rfl,fun w' hw=>by obtain ⟨t0,t1,t2,t3,t4,t5,t6,t7,-,-⟩:=hw;go_simp⟩) hT ?_
    simp only[Act.put,zL,zM,zN]
    refine ak 12 (.slice ma G.ms.length mc) 102 rfl rfl (Or.inl ⟨by rfl,fun w' hw=>by obtain ⟨t0,t1,t2,t3,t4,t5,t6,t7,-,-⟩:=hw;go_simp⟩) hT ?_
    simp only[Act.put,zL,zM,zN]
    refine ak 13 (.int .i64 (G.ms.length:Int)) 103 rfl rfl (Or.inl ⟨by rfl,fun w' hw=>by obtain ⟨t0,t1,t2,t3,t4,t5,t6,t7,-,-⟩:=hw;go_simp⟩) hT ?_
    simp only[Act.put,zL,zM,zN]
    refine ak 14 (.bool true) 104 rfl rfl (Or.inl ⟨by rfl,fun w' hw=>by obtain ⟨t0,t1,t2,t3,t4,t5,t6,t7,-,-⟩:=hw;go_simp⟩) hT ?_
    simp only[Act.put,zL,zM,zN]
    refine ak 15 (.bool true) 105 rfl rfl (Or.inl ⟨by rfl,fun w' hw=>by obtain ⟨t0,t1,t2,t3,t4,t5,t6,t7,-,-⟩:=hw;go_simp⟩) hT ?_
    simp only[Act.put,zL,zM,zN]
    refine ak 16 (.bool true) 106 rfl rfl (Or.inl ⟨by rfl,fun w' hw=>by obtain ⟨t0,t1,t2,t3,t4,t5,t6,t7,-,-⟩:=hw;go_simp⟩) hT ?_
    simp only[Act.put,zL,zM,zN]
    refine ak 17 (.pointer (some ⟨yJ,3,none⟩)) 107 rfl rfl (Or.inl ⟨by rfl,fun w' hw=>by obtain ⟨t0,t1,t2,t3,t4,t5,t6,t7,-,-⟩:=hw;go_simp⟩) hT ?_
    simp only[Act.put,zL,zM,zN]
    refine ak 18 (.slice ey y.es.length fy) 108 rfl rfl (Or.inl ⟨by rfl,fun w' hw=>by obtain ⟨t0,t1,t2,t3,t4,t5,t6,t7,-,-⟩:=hw;go_simp⟩) hT ?_
    simp only[Act.put,zL,zM,zN]
    refine ak 19 (.int .i64 (y.es.length:Int)) 109 rfl rfl (Or.inl ⟨by rfl,fun w' hw=>by obtain ⟨t0,t1,t2,t3,t4,t5,t6,t7,-,-⟩:=hw;go_simp⟩) hT ?_
    simp only[Act.put,zL,zM,zN]
    refine ak 20 (.pointer (some ⟨p5,3,none⟩)) 110 rfl rfl (Or.inl ⟨by rfl,fun w' hw=>by obtain ⟨t0,t1,t2,t3,t4,t5,t6,t7,-,-⟩:=hw;go_simp⟩) hT ?_
    simp only[Act.put,zL,zM,zN]
    refine ak 21 (.slice ea G.es.length ec) 111 rfl rfl (Or.inl ⟨by rfl,fun w' hw=>by obtain ⟨t0,t1,t2,t3,t4,t5,t6,t7,-,-⟩:=hw;go_simp⟩) hT ?_
    simp only[Act.put,zL,zM,zN]
    refine ak 22 (.int .i64 (G.es.length:Int)) 112 rfl rfl (Or.inl ⟨by rfl,fun w' hw=>by obtain ⟨t0,t1,t2,t3,t4,t5,t6,t7,-,-⟩:=hw;go_simp⟩) hT ?_
    simp only[Act.put,zL,zM,zN]
    refine ak 23 (.bool true) 113 rfl rfl (Or.inl ⟨by rfl,fun w' hw=>by obtain ⟨t0,t1,t2,t3,t4,t5,t6,t7,-,-⟩:=hw;go_simp⟩) hT ?_
    simp only[Act.put,zL,zM,zN]
    refine ak 24 (.bool true) 114 rfl rfl (Or.inl ⟨by rfl,fun w' hw=>by obtain ⟨t0,t1,t2,t3,t4,t5,t6,t7,-,-⟩:=hw;go_simp⟩) hT ?_
    simp only[Act.put,zL,zM,zN]
    refine ak 25 (.bool true) 115 rfl rfl (Or.inl ⟨by rfl,fun w' hw=>by obtain ⟨t0,t1,t2,t3,t4,t5,t6,t7,-,-⟩:=hw;go_simp⟩) hT ?_
    simp only[Act.put,zL,zM,zN]
    refine ak 26 (.pointer (some ⟨yJ,2,none⟩)) 116 rfl rfl (Or.inl ⟨by rfl,fun w' hw=>by obtain ⟨t0,t1,t2,t3,t4,t5,t6,t7,-,-⟩:=hw;go_simp⟩) hT ?_
    simp only[Act.put,zL,zM,zN]
    refine ak 27 (.slice my y.ms.length ny) 117 rfl rfl (Or.inl ⟨by rfl,fun w' hw=>by obtain ⟨t0,t1,t2,t3,t4,t5,t6,t7,-,-⟩:=hw;go_simp⟩) hT ?_
    simp only[Act.put,zL,zM,zN]
    refine ak 28 (.pointer (some ⟨p5,2,none⟩)) 118 rfl rfl (Or.inl ⟨by rfl,fun w' hw=>by obtain ⟨t0,t1,t2,t3,t4,t5,t6,t7,-,-⟩:=hw;go_simp⟩) hT ?_
    simp only[Act.put,zL,zM,zN]
    refine ak 29 (.slice ma G.ms.length mc) 119 rfl rfl (Or.inl ⟨by rfl,fun w' hw=>by obtain ⟨t0,t1,t2,t3,t4,t5,t6,t7,-,-⟩:=hw;go_simp⟩) hT ?_
    simp only[Act.put,zL,zM,zN]
    refine ak 30 (.pointer (some ⟨yJ,2,none⟩)) 120 rfl rfl (Or.inl ⟨by rfl,fun w' hw=>by obtain ⟨t0,t1,t2,t3,t4,t5,t6,t7,-,-⟩:=hw;go_simp⟩) hT ?_
    simp only[Act.put,zL,zM,zN]
    refine ak 31 (.slice my y.ms.length ny) 121 rfl rfl (Or.inl ⟨by rfl,fun w' hw=>by obtain ⟨t0,t1,t2,t3,t4,t5,t6,t7,-,-⟩:=hw;go_simp⟩) hT ?_
    simp only[Act.put,zL,zM,zN]
    refine ak 32 (.int .i64 (y.ms.length:Int)) 122 rfl rfl (Or.inl ⟨by rfl,fun w' hw=>by obtain ⟨t0,t1,t2,t3,t4,t5,t6,t7,-,-⟩:=hw;go_simp⟩) hT ?_
    simp only[Act.put,zL,zM,zN]
    refine ak 33 (.slice ma y.ms.length mc) 123 rfl rfl (Or.inl ⟨by rfl,fun w' hw=>by obtain ⟨t0,t1,t2,t3,t4,t5,t6,t7,-,-⟩:=hw;go_simp⟩) hT ?_
    simp only[Act.put,zL,zM,zN]
    refine ay 34 (by kernel_rfl) rfl (fun K hK=>?_)
    refine wR 124 rfl 13 (fun vs=>by kernel_rfl) #[.tmp 117,.tmp 123] #[23,23] rfl #[.slice my y.ms.length ny,.slice ma y.ms.length mc] (by first|rfl|simp[Act.eval]) (aa HS) (by rfl) ?_
    rintro e we ⟨rfl,Y9⟩
    have zb:(fun w':World=>Wl w' yJ p5 y.eI (.slice iy y.bM.length jy) (.slice my y.ms.length ny) (.slice ey y.es.length fy) G.eI (.slice ia G.bM.length ic) (.slice ma G.ms.length mc) (.slice ea G.es.length ec)) we:=hT.up Y9
    have CC:=aj ((aa wH).trans (Y9.mono (aa wH).size))
    have aaa:=aj ((aa Sg).up Y9)
    have aac:=aj ((aa Sh).up Y9)
    refine ⟨_,rfl,?_⟩
    refine hK _ _ ⟨fun _=>zb,?_⟩
    clear hK K Y9 hT wH Sg Sh HS d0 d1 d2 d3 d4 d5 d6 d7 lx3 lg3
    simp only[Act.put,zL,zM,zN]
    refine ak 35 (.bool true) 125 rfl rfl (Or.inl ⟨by rfl,fun w' hw=>by obtain ⟨t0,t1,t2,t3,t4,t5,t6,t7,-,-⟩:=hw;go_simp⟩) zb ?_
    simp only[Act.put,zL,zM,zN]
    refine ak 36 (.bool true) 126 rfl rfl (Or.inl ⟨by rfl,fun w' hw=>by obtain ⟨t0,t1,t2,t3,t4,t5,t6,t7,-,-⟩:=hw;go_simp⟩) zb ?_
    simp only[Act.put,zL,zM,zN]
    refine ak 37 (.int .i64 (n:Int)) 127 rfl rfl (Or.inl ⟨by rfl,fun w' hw=>by obtain ⟨t0,t1,t2,t3,t4,t5,t6,t7,-,-⟩:=hw;go_simp⟩) zb ?_
    simp only[Act.put,zL,zM,zN]
    refine ak 38 (.slice (some ⟨gl,0,none⟩) M cl) 128 rfl rfl (Or.inl ⟨by rfl,fun w' hw=>by obtain ⟨t0,t1,t2,t3,t4,t5,t6,t7,-,-⟩:=hw;go_simp⟩) zb ?_
    simp only[Act.put,zL,zM,zN]
    refine ak 39 (.int .i64 (M:Int)) 129 rfl rfl (Or.inl ⟨by rfl,fun w' hw=>by obtain ⟨t0,t1,t2,t3,t4,t5,t6,t7,-,-⟩:=hw;go_simp⟩) zb ?_
    simp only[Act.put,zL,zM,zN]
    refine ak 40 (.int .i64 ((M:Int)-1)) 130 rfl rfl (Or.inl ⟨by rfl,fun w' hw=>by obtain ⟨t0,t1,t2,t3,t4,t5,t6,t7,-,-⟩:=hw;go_simp⟩) zb ?_
    simp only[Act.put,zL,zM,zN]
    by_cases oY:n<ps.length
    ·have q8:decide ((n:Int)<(M:Int)-1)=true:=by have:=(aa HMl).2.2;simp;omega
     refine ak 41 (.bool true) 131 rfl rfl (Or.inl ⟨by rfl,fun w' hw=>by obtain ⟨t0,t1,t2,t3,t4,t5,t6,t7,-,-⟩:=hw;go_simp⟩) zb ?_
     simp only[Act.put,zL,zM,zN]
     refine ak 42 (.bool true) 132 rfl rfl (Or.inl ⟨by rfl,fun w' hw=>by obtain ⟨t0,t1,t2,t3,t4,t5,t6,t7,-,-⟩:=hw;go_simp⟩) zb ?_
     simp only[Act.put,zL,zM,zN]
     refine ak 43 undef 133 rfl rfl (Or.inr ⟨by rfl,rfl⟩) zb ?_
     simp only[Act.put,zL,zM,zN]
     refine ak 44 undef 134 rfl rfl (Or.inr ⟨by rfl,rfl⟩) zb ?_
     simp only[Act.put,zL,zM,zN]
     refine ak 45 undef 135 rfl rfl (Or.inr ⟨by rfl,rfl⟩) zb ?_
     simp only[Act.put,zL,zM,zN]
     refine ak 46 (.bool true) 136 rfl rfl (Or.inl ⟨by rfl,fun w' hw=>by obtain ⟨t0,t1,t2,t3,t4,t5,t6,t7,-,-⟩:=hw;go_simp⟩) zb ?_
     simp only[Act.put,zL,zM,zN]
     refine ak 47 (.bool true) 137 rfl rfl (Or.inl ⟨by rfl,fun w' hw=>by obtain ⟨t0,t1,t2,t3,t4,t5,t6,t7,-,-⟩:=hw;go_simp⟩) zb ?_
     simp only[Act.put,zL,zM,zN]
     refine ak 48 (.bool true) 4 rfl rfl (Or.inl ⟨by rfl,fun w' hw=>by obtain ⟨t0,t1,t2,t3,t4,t5,t6,t7,-,-⟩:=hw;go_simp⟩) zb ?_
     simp only[Act.put,zL,zM,zN]
     refine bj (by kernel_rfl) ?_
     go_wp2
     go_ret
     exact ⟨rfl,aa CC⟩
    ·have q8:decide ((n:Int)<(M:Int)-1)=false:=by have:=(aa HMl).2.2;simp;omega
     obtain rfl:y=G:=aa abC oY
     refine ak 41 (.bool false) 131 rfl rfl (Or.inl ⟨by rfl,fun w' hw=>by obtain ⟨t0,t1,t2,t3,t4,t5,t6,t7,-,-⟩:=hw;go_simp⟩) zb ?_
     simp only[Act.put,zL,zM,zN]
     refine ak 42 (.bool false) 132 rfl rfl (Or.inl ⟨by rfl,fun w' hw=>by obtain ⟨t0,t1,t2,t3,t4,t5,t6,t7,-,-⟩:=hw;go_simp⟩) zb ?_
     simp only[Act.put,zL,zM,zN]
     refine ak 43 (.agg #[.string y.eI,.slice iy y.bM.length jy,.slice my y.ms.length ny,.slice ey y.es.length fy]) 133 rfl rfl (Or.inl ⟨by rfl,fun w' hw=>by obtain ⟨t0,t1,t2,t3,t4,t5,t6,t7,-,-⟩:=hw;go_simp⟩) zb ?_
     simp only[Act.put,zL,zM,zN]
     refine ak 44 (.agg #[.string y.eI,.slice ia y.bM.length ic,.slice ma y.ms.length mc,.slice ea y.es.length ec]) 134 rfl rfl (Or.inl ⟨by rfl,fun w' hw=>by obtain ⟨t0,t1,t2,t3,t4,t5,t6,t7,-,-⟩:=hw;go_simp⟩) zb ?_
     simp only[Act.put,zL,zM,zN]
     refine ay 45 (by kernel_rfl) rfl (fun K hK=>?_)
     refine wR 135 rfl 9 (fun vs=>by kernel_rfl) #[.tmp 133,.tmp 134] #[26,26] rfl #[.agg #[.string y.eI,.slice iy y.bM.length jy,.slice my y.ms.length ny,.slice ey y.es.length fy],.agg #[.string y.eI,.slice ia y.bM.length ic,.slice ma y.ms.length mc,.slice ea y.es.length ec]] (by first|rfl|simp[Act.eval]) (mD (aa aaa) (aa aac)) (by rfl) ?_
     rintro e wf ⟨rfl,Au⟩
     have jr:(fun w':World=>Wl w' yJ p5 y.eI (.slice iy y.bM.length jy) (.slice my y.ms.length ny) (.slice ey y.es.length fy) y.eI (.slice ia y.bM.length ic) (.slice ma y.ms.length mc) (.slice ea y.es.length ec)) wf:=zb.up Au
     have W7:=aj ((aa CC).trans (Au.mono (aa CC).size))
     refine ⟨_,rfl,?_⟩
     refine hK _ _ ⟨fun _=>jr,?_⟩
     clear hK K Au zb CC aaa aac
     simp only[Act.put,zL,zM,zN]
     refine ak 46 (.bool true) 136 rfl rfl (Or.inl ⟨by rfl,fun w' hw=>by obtain ⟨t0,t1,t2,t3,t4,t5,t6,t7,-,-⟩:=hw;go_simp⟩) jr ?_
     simp only[Act.put,zL,zM,zN]
     refine ak 47 (.bool true) 137 rfl rfl (Or.inl ⟨by rfl,fun w' hw=>by obtain ⟨t0,t1,t2,t3,t4,t5,t6,t7,-,-⟩:=hw;go_simp⟩) jr ?_
     simp only[Act.put,zL,zM,zN]
     refine ak 48 (.bool true) 4 rfl rfl (Or.inl ⟨by rfl,fun w' hw=>by obtain ⟨t0,t1,t2,t3,t4,t5,t6,t7,-,-⟩:=hw;go_simp⟩) jr ?_
     simp only[Act.put,zL,zM,zN]
     refine bj (by kernel_rfl) ?_
     go_wp2
     go_ret
     exact ⟨rfl,aa W7⟩
end Go.Proofs.YtmlphohdcejniaaGreatDoor
