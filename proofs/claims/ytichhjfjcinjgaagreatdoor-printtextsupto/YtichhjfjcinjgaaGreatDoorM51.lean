import Derived.Test.YtichhjfjcinjgaaGreatDoorM39
import Derived.Test.YtichhjfjcinjgaaGreatDoorYDq
set_option maxHeartbeats 8000000
set_option maxRecDepth 100000
namespace Go.Proofs.YtichhjfjcinjgaaGreatDoor
open Go.RowKit
attribute [local go_sem ↓] Go.wp_at_zero Go.wp_at_succ
theorem CO:∀(k f:Nat) (m:Ms),wV k m→wV k (lK f m)
 |0,_,_,_=>trivial
 |k+1,0,.mk _ _ _ _ _ _ _,h=>⟨h.1,fun m hm=>by simp at hm⟩
 |k+1,f+1,.mk _ _ _ _ _ _ _,h=>⟨h.1,fun m hm=>by obtain ⟨x,hx,rfl⟩:=List.mem_map.1 hm;exact CO k f x (h.2 x hx)⟩
theorem DD:∀(k f:Nat) (m:Ms),cO k (lK f m)≤cO k m
 |0,_,_=>zD _
 |k+1,0,.mk _ _ _ _ _ _ _=>by simp only[lK,cO,bE];omega
 |k+1,f+1,.mk _ _ _ ms _ _ _=>by
  have:bE (cO k) (ms.map (lK f))≤bE (cO k) ms:=by
   induction ms with
   |nil=>exact zD _
   |cons m r ih=>simp only[List.map_cons,bE];have:=DD k f m;omega
  simp only[lK,cO];omega
theorem Gg:∀(k f:Nat) (m:Ms),DI k m→DI k (lK f m)
 |0,0,.mk _ _ _ _ _ _ _,h=>by obtain ⟨a,b,-,c⟩:=h.s;exact ⟨a,b,by simp,c⟩
 |0,f+1,.mk _ _ _ _ _ _ _,h=>by obtain ⟨a,b,c,d⟩:=h.s;exact ⟨a,b,by rw[List.length_map];exact c,d⟩
 |k+1,0,.mk _ _ _ _ _ _ _,h=>by obtain ⟨a,b,-,c⟩:=h.s;exact ⟨⟨a,b,by simp,c⟩,fun m hm=>by simp at hm⟩
 |k+1,f+1,.mk _ _ _ _ _ _ _,h=>by
  obtain ⟨a,b,c,d⟩:=h.s
  exact ⟨⟨a,b,by rw[List.length_map];exact c,d⟩,fun m hm=>by obtain ⟨x,hx,rfl⟩:=List.mem_map.1 hm;exact Gg k f x (h.2 x hx)⟩
theorem Ll.cut {F:Fl} (h:Ll F):Ll (Ax F):=⟨h.i,by show (F.ms.map _).length*160≤_;rw[List.length_map];exact h.m,fun m hm=>by obtain ⟨x,hx,rfl⟩:=List.mem_map.1 (show m ∈ F.ms.map (lK 199) from hm);exact Gg 200 199 x (h.ms x hx),h.e,h.es⟩
theorem Iw (F:Fl):mL (Ax F)≤mL F:=by
 have:∀ms:List Ms,bE (cO 32) (ms.map (lK 199))≤bE (cO 32) ms:=fun ms=>by
  induction ms with
  |nil=>exact zD _
  |cons m r ih=>simp only[List.map_cons,bE];have:=DD 32 199 m;omega
 have:=this F.ms
 show F.cT.length+bE (cO 32) (F.ms.map (lK 199))+bE kh F.es≤F.cT.length+bE (cO 32) F.ms+bE kh F.es
 omega
theorem U4 {w:World}{b:Nat}{v0 v1 v2 v3:Value}{t:TypeId} (h:w.heap[b]?=some (.cells #[v0,v1,v2,v3] t (0,0))) (u0 u1 u2 u3:Value) :
  ((((w.setCell ⟨b,0,none⟩ u0).setCell ⟨b,1,none⟩ u1).setCell ⟨b,2,none⟩ u2).setCell ⟨b,3,none⟩ u3).heap[b]?=some (.cells #[u0,u1,u2,u3] t (0,0))∧w.grownBy ((((w.setCell ⟨b,0,none⟩ u0).setCell ⟨b,1,none⟩ u1).setCell ⟨b,2,none⟩ u2).setCell ⟨b,3,none⟩ u3) (some b):=by
 obtain ⟨a1,a2⟩:=bh (j:=0) h u0
 obtain ⟨b1,b2⟩:=bh (j:=1) a1 u1
 obtain ⟨c1,c2⟩:=bh (j:=2) b1 u2
 obtain ⟨d1,d2⟩:=bh (j:=3) c1 u3
 exact ⟨d1,((a2.trans b2).trans c2).trans d2⟩
theorem L7 {w:World}{b:Nat}{cs:Array Value}{t:TypeId} (h:w.heap[b]?=some (.cells cs t (0,0))):w.frozen? ⟨b,0,none⟩=false∧w.frozen? ⟨b,1,none⟩=false∧w.frozen? ⟨b,2,none⟩=false∧w.frozen? ⟨b,3,none⟩=false:=by simp[World.frozen?,h]
theorem oN {R:Nat→Prop}{w:World}{v vi vm ve:Value}{F:Fl}{cm ce:List Value} (h:Je R w v F vi vm ve cm ce):∃bi di bm dm be de,vi=.slice bi F.cT.length di∧vm=.slice bm F.ms.length dm∧ve=.slice be F.es.length de:=by
 obtain ⟨a,b,e1,-⟩:=h.hi.rl
 obtain ⟨c,d,e2,-⟩:=h.hm.rl
 obtain ⟨e,f,e3,-⟩:=h.he.rl
 exact ⟨a,b,c,d,e,f,e1,e2,e3⟩
theorem Sp.file {B:Nat}{w w':World} (h:Sp B w w') {b:Nat}{cs:Array Value} (hb:w.heap[b]?=some (.cells cs 26 (0,0))):w'.heap[b]?=some (.cells cs 26 (0,0)):=by
 by_cases aM:b<B
 ·exact (h.bV.block b aM).trans hb
 ·obtain ⟨c',h1,h2,h3⟩:=h.dj b cs _ (by omega) hb
  have:c'=cs:=by
   apply Array.ext_getElem?
   intro j
   by_cases hj:j<cs.size
   ·rw[Array.getElem?_eq_getElem hj]
    rcases h3 j _ (Array.getElem?_eq_getElem hj) with e|⟨y,-,hy⟩
    ·exact e
    ·exact absurd hy (xh y)
   ·rw[Array.getElem?_eq_none (by omega),Array.getElem?_eq_none (by omega)]
  rw[h1,this]
structure PS (F G:Fl):Prop where
 i:G.cT.length=F.cT.length
 m:AH F.ms G.ms
 e:E7 F.es G.es
theorem PS.re {F G:Fl} (h:PS F G) (k:Ll F):Ll G:=⟨by rw[h.i];exact k.i,by rw[h.m.len];exact k.m,h.m.re 200 k.ms,by rw[h.e.len];exact k.e,h.e.re k.es⟩
theorem PS.ZW {F G:Fl} (h:PS F G):mL G=mL F:=by simp only[mL,h.i,h.m.sum,h.e.sum]
theorem Bg {W:World}{v vi vm ve:Value}{F:Fl}{cm ce:List Value} (hF:jw W) (hE:jW W) (hM:iB W) (hP:iY W) (h:A6 W v F vi vm ve cm ce) (hr:Ll F) (hs:∀m ∈ F.ms,wV 32 m) (hc:mL F≤1048576) :
  Calls Tryz.prog 4 #[v] W fun e w=>e=.returned (.bool true)∧Below W.heap.size W w:=by
 obtain ⟨pk,is,ms,es⟩:=F
 have XC:=al (fun w' hb=>nS h hr w' hb)
 have XF:=al (fun w' hb=>qh 200 W vm ms cm h.hm h.ej w' hb 0 (by omega) (by omega))
 have T3:=al h
 have P1:=al hr.cut
 have Hs:=al (show ∀m ∈ gI 200 ms,wV 32 m from fun m hm=>by obtain ⟨x,hx,rfl⟩:=List.mem_map.1 (show m ∈ ms.map (lK 199) from hm);exact CO 32 199 x (hs x hx))
 have OC:=al (Nat.le_trans (Iw ⟨pk,is,ms,es⟩) hc)
 have Cz:=al (Ir 200 ms)
 obtain ⟨rfl,⟨fi,Ty,rfl,-,-⟩,⟨fm,Tx,rfl,-,-⟩,-,⟨fe,Tz,rfl,-,-⟩,-⟩:=h
 unfold Ax at P1 OC
 simp only at XC XF T3 P1 OC ⊢
 have yl:=al (And.intro hM (And.intro hE (And.intro hP hF)))
 have k0:=aK W (.cells #[.string pk,.slice fi is.length Ty,.slice fm ms.length Tx,.slice fe es.length Tz] 26)
 have b0:Below W.heap.size W (W.alloc (.cells #[.string pk,.slice fi is.length Ty,.slice fm ms.length Tx,.slice fe es.length Tz] 26)):=(zE _ _).alloc (zD _) _
 obtain ⟨V,hV⟩:∃V,W.alloc (.cells #[.string pk,.slice fi is.length Ty,.slice fm ms.length Tx,.slice fe es.length Tz] 26)=V:=⟨_,rfl⟩
 rw[hV] at k0 b0
 have uW:=al (ab XC V b0)
 obtain ⟨c0,c1,c2,c3⟩:=a8 k0
 have HV:=al (And.intro b0 k0)
 clear hM hE hP hF hs hr hc k0 b0 XC
 go_enter Tryz.func4,Tryz.ntmps4
 go_wp2_with fail
 refine (ab uW).mono ?_
 rintro e w1 ⟨u1,ui1,um1,ue1,x1,y1,rfl,cV,aY⟩
 obtain ⟨b0,k0⟩:=ab HV
 have k0:=(aY.block _ (zA k0).1).trans k0
 have hb:=b0.trans (aY.mono b0.size)
 obtain ⟨mi,Vd,mm,Vc,me,Ve,rfl,rfl,rfl⟩:=oN cV
 obtain rfl:=cV.is
 unfold Ax at cV ⊢
 simp only at cV ⊢
 obtain ⟨M,Wn⟩:∃M,gI 200 ms=M:=⟨_,rfl⟩
 rw[Wn] at cV P1 Hs OC Cz ⊢
 have XU:=al Wn
 clear Wn
 have k1:=aK w1 (.cells #[.string pk,.slice mi is.length Vd,.slice mm M.length Vc,.slice me es.length Ve] 26)
 have b1:Below w1.heap.size w1 (w1.alloc (.cells #[.string pk,.slice mi is.length Vd,.slice mm M.length Vc,.slice me es.length Ve] 26)):=(zE _ _).alloc (zD _) _
 obtain ⟨V1,hV1⟩:∃V1,w1.alloc (.cells #[.string pk,.slice mi is.length Vd,.slice mm M.length Vc,.slice me es.length Ve] 26)=V1:=⟨_,rfl⟩
 rw[hV1] at k1 b1
 have kP:W.heap.size≤V.heap.size:=b0.size
 have Te:V.heap.size≤w1.heap.size:=aY.size
 have Ev:=(zA k1).1
 have k0:=(b1.block _ (zA k0).1).trans k0
 have hb:=hb.trans (b1.mono hb.size)
 have cV:=cV.mono (aC b1)
 have HC:=al (ab XF V1 hb)
 obtain ⟨c0,c1,c2,c3⟩:=a8 k0
 obtain ⟨d0,d1,d2,d3⟩:=a8 k1
 have aM:W.heap.size<w1.heap.size:=by have:=(zA (ab HV).2).1;omega
 have H1:=al (And.intro hb (And.intro k0 (And.intro k1 (And.intro cV (And.intro kP (And.intro Te Ev))))))
 clear HV b0 k0 hb cV k1 b1 kP Te Ev aY uW XF
 go_wp2_with fail
 refine (ab HC).mono ?_
 rintro e w2 ⟨q,rfl,hq,bd⟩
 obtain ⟨hb,k0,k1,cV,kP,Te,Ev⟩:=ab H1
 have k0:=(bd.block _ (zA k0).1).trans k0
 have k1:=(bd.block _ (zA k1).1).trans k1
 have cV:=cV.mono (aC bd)
 have hb:=hb.trans (bd.mono hb.size)
 have fk:=Nat.le_trans Te (Nat.le_trans (Nat.le_of_lt Ev) bd.size)
 obtain ⟨c0,c1,c2,c3⟩:=a8 k0
 obtain ⟨d0,d1,d2,d3⟩:=a8 k1
 obtain ⟨z0,z1,z2,z3⟩:=L7 k0
 have Hq:=al hq
 clear bd HC H1 hq
 cases q with
 |true =>
  obtain rfl:M=ms:=by have:=ab XU;rw[uD 200 ms ((ab Hq).1 (by trivial))] at this;exact this.symm
  have pF:=(ab T3).up hb
  clear Hq XU T3
  obtain ⟨hM,hE,hP,hF⟩:=ab yl
  have HX:=al (lS (hM.up hb hM.1) (hE.up hb) (hP.up hb) (hF.up hb) cV.yN (ab Hs))
  have H2:=al (And.intro hb (And.intro k0 (And.intro k1 (And.intro pF (And.intro cV (And.intro kP fk))))))
  obtain ⟨⟨s1,n1⟩,hT⟩:∃T,kl ⟨pk,is,M,es⟩=T:=⟨_,rfl⟩
  rw[hT] at HX
  simp only at HX
  have HT:=al hT
  clear hM hE hP hF hb k0 k1 pF cV kP fk hT
  go_wp2_with fail
  refine (ab HX).mono ?_
  rintro e w4 ⟨rfl,gR⟩
  obtain ⟨hb,k0,k1,pF,cV,kP,fk⟩:=ab H2
  have k0:=(gR.block _ (zA k0).1).trans k0
  have k1:=(gR.block _ (zA k1).1).trans k1
  have pF:=pF.up gR
  have cV:=cV.mono (aC gR)
  have hb:=hb.trans (gR.mono hb.size)
  have fk:=Nat.le_trans fk gR.size
  clear gR H2 HX
  obtain ⟨c0,c1,c2,c3⟩:=a8 k0
  obtain ⟨d0,d1,d2,d3⟩:=a8 k1
  obtain ⟨hM,hE,hP,hF⟩:=ab yl
  have HX:=al (mv (hF.up hb) pF (by have:=ab OC;omega))
  rw[ab HT] at HX
  simp only at HX
  have H2:=al (And.intro hb (And.intro k0 (And.intro k1 (And.intro pF (And.intro cV (And.intro kP fk))))))
  clear hM hE hP hF hb k0 k1 pF cV kP fk d0 d1 d2 d3
  go_wp2_with fail
  refine (ab HX).mono ?_
  rintro e w5 ⟨rfl,jT⟩
  obtain ⟨hb,k0,k1,pF,cV,kP,fk⟩:=ab H2
  have k0:=(jT.block _ (zA k0).1).trans k0
  have k1:=(jT.block _ (zA k1).1).trans k1
  have pF:=pF.up jT
  have cV:=cV.mono (aC jT)
  have hb:=hb.trans (jT.mono hb.size)
  have fk:=Nat.le_trans fk jT.size
  clear jT H2 HX
  obtain ⟨c0,c1,c2,c3⟩:=a8 k0
  obtain ⟨d0,d1,d2,d3⟩:=a8 k1
  obtain ⟨hM,hE,hP,hF⟩:=ab yl
  have HX:=al (xk (f:=200) (zD _) cV.yN pF (ab Cz) (ab Cz) w5 (zE _ _))
  have e1:(s1.toList==s1.toList)=true:=by simp
  have e2:(n1==n1)=true:=by simp
  have e3:(s1.toList != s1.toList)=false:=by simp
  have e4:(n1 != n1)=false:=by simp
  have H2:=al (And.intro hb (And.intro k0 (And.intro k1 (And.intro cV (And.intro kP fk)))))
  clear hM hE hP hF hb k0 k1 pF cV kP fk
  go_wp2_with fail
  refine (og _ n1).mono ?_
  rintro e w6 ⟨rfl,rfl⟩
  go_wp2_with fail
  refine (ab HX).mono ?_
  rintro e w7 ⟨q2,rfl,kj,Dl⟩
  obtain rfl:q2=true:=kj.2 (by trivial)
  obtain ⟨hb,k0,k1,cV,kP,fk⟩:=ab H2
  have k1:=(Dl.block _ (zA k1).1).trans k1
  have cV:=cV.mono (aC Dl)
  have hb:=hb.trans (Dl.mono hb.size)
  have fk:=Nat.le_trans fk Dl.size
  have HX:=al (vR cV (ab Cz) fk)
  clear d0 d1 d2 d3 c0 c1 c2 c3
  obtain ⟨d0,d1,d2,d3⟩:=a8 k1
  have H2:=al (And.intro hb (And.intro k1 (And.intro cV (And.intro kP fk))))
  clear hb k0 k1 cV kP fk Dl kj
  go_wp2_with fail
  refine (ab HX).mono ?_
  rintro e w8 ⟨rfl,GN⟩
  obtain ⟨hb,k1,cV,kP,fk⟩:=ab H2
  have k1:=GN.file k1
  have hb:Below W.heap.size W w8:=hb.trans (GN.bV.mono kP)
  have fk:=Nat.le_trans fk GN.bV.size
  obtain ⟨G,xm,xe,cV,g1,g2,g3,g4⟩:=cV.sp (fun _ h=>h) GN
  have Nt:PS ⟨pk,is,M,es⟩ G:=⟨g2,g3,g4⟩
  have OJ:=al (Nt.re (ab P1))
  have OB:=al (show mL G≤1048576 by rw[Nt.ZW];exact ab OC)
  have yj:=al (g3.dp 200 (ab Cz))
  have Sm:=al (g3.sz 32 (ab Hs))
  obtain ⟨gk,gi,gm,ge⟩:=G
  simp only at g1 g2 g3 g4 yj Sm cV
  have g1:=g1.symm
  subst g1
  have HL:=al (And.intro g2 (And.intro g3.len g4.len))
  have HX:=al (nS cV.yN (ab OJ) w8 (zE _ _))
  clear d0 d1 d2 d3
  obtain ⟨d0,d1,d2,d3⟩:=a8 k1
  have H2:=al (And.intro hb (And.intro k1 (And.intro cV (And.intro kP fk))))
  clear hb k1 cV kP fk GN g2 g3 g4 Nt e1 e2 e3 e4
  go_wp2_with fail
  refine (ab HX).mono ?_
  rintro e w9 ⟨u2,Yo,Yn,Uj,x2,y2,rfl,jc,l9⟩
  obtain ⟨hb,k1,cV,kP,fk⟩:=ab H2
  obtain ⟨oi,Jj,om,Ji,oe,Jk,rfl,rfl,rfl⟩:=oN jc
  obtain rfl:=jc.is
  unfold Ax at jc ⊢
  simp only at jc ⊢
  rw[uD 200 gm (ab yj)] at jc ⊢
  have k1:=(l9.block _ (zA k1).1).trans k1
  have cV:=cV.mono (aC l9)
  have hb:=hb.trans (l9.mono hb.size)
  have fk:=Nat.le_trans fk l9.size
  have k2:=aK w9 (.cells #[.string pk,.slice oi gi.length Jj,.slice om gm.length Ji,.slice oe ge.length Jk] 26)
  have b9:Below w9.heap.size w9 (w9.alloc (.cells #[.string pk,.slice oi gi.length Jj,.slice om gm.length Ji,.slice oe ge.length Jk] 26)):=(zE _ _).alloc (zD _) _
  obtain ⟨V9,Wh⟩:∃V9,w9.alloc (.cells #[.string pk,.slice oi gi.length Jj,.slice om gm.length Ji,.slice oe ge.length Jk] 26)=V9:=⟨_,rfl⟩
  rw[Wh] at k2 b9
  have k1:=(b9.block _ (zA k1).1).trans k1
  have cV:=(cV.mono (aC b9)).yN
  have jc:=(jc.mono (aC b9)).yN
  have hb:=hb.trans (b9.mono hb.size)
  obtain ⟨hM,hE,hP,hF⟩:=ab yl
  have HX:=al (lS (hM.up hb hM.1) (hE.up hb) (hP.up hb) (hF.up hb) cV (ab Sm))
  obtain ⟨⟨s2,n2⟩,hT⟩:∃T,kl ⟨pk,gi,gm,ge⟩=T:=⟨_,rfl⟩
  rw[hT] at HX
  simp only at HX
  have HT:=al hT
  clear d0 d1 d2 d3
  obtain ⟨d0,d1,d2,d3⟩:=a8 k1
  have H2:=al (And.intro hb (And.intro k1 (And.intro k2 (And.intro cV jc))))
  clear hM hE hP hF hb k1 k2 cV jc kP fk l9 b9 hT
  go_wp2_with fail
  refine (ab HX).mono ?_
  rintro e wA ⟨rfl,EG⟩
  obtain ⟨hb,k1,k2,cV,jc⟩:=ab H2
  have k1:=(EG.block _ (zA k1).1).trans k1
  have k2:=(EG.block _ (zA k2).1).trans k2
  have cV:=cV.up EG
  have jc:=jc.up EG
  have hb:=hb.trans (EG.mono hb.size)
  clear EG H2 HX d0 d1 d2 d3
  obtain ⟨d0,d1,d2,d3⟩:=a8 k1
  obtain ⟨c0,c1,c2,c3⟩:=a8 k2
  obtain ⟨hM,hE,hP,hF⟩:=ab yl
  have HX:=al (mv (hF.up hb) jc (by have:=ab OB;omega))
  rw[ab HT] at HX
  simp only at HX
  have H2:=al (And.intro hb (And.intro k1 (And.intro k2 (And.intro cV jc))))
  clear hM hE hP hF hb k1 k2 cV jc
  go_wp2_with fail
  refine (ab HX).mono ?_
  rintro e wB ⟨rfl,EF⟩
  obtain ⟨hb,k1,k2,cV,jc⟩:=ab H2
  have k1:=(EF.block _ (zA k1).1).trans k1
  have k2:=(EF.block _ (zA k2).1).trans k2
  have cV:=cV.up EF
  have jc:=jc.up EF
  have hb:=hb.trans (EF.mono hb.size)
  clear EF H2 HX d0 d1 d2 d3
  obtain ⟨d0,d1,d2,d3⟩:=a8 k1
  obtain ⟨c0,c1,c2,c3⟩:=a8 k2
  obtain ⟨hM,hE,hP,hF⟩:=ab yl
  have HX:=al (xk (f:=200) (zD _) cV jc (ab yj) (ab yj) wB (zE _ _))
  have e1:(s2.toList==s2.toList)=true:=by simp
  have e2:(n2==n2)=true:=by simp
  have H2:=al hb
  have sa:=al (And.intro hM (And.intro hE (And.intro hP hF)))
  clear hM hE hP hF hb k1 k2 cV jc yl
  go_wp2_with fail
  refine (og _ n2).mono ?_
  rintro e wC ⟨rfl,rfl⟩
  go_wp2_with fail
  refine (ab HX).mono ?_
  rintro e wD ⟨q2,rfl,kj,L3⟩
  obtain rfl:q2=true:=kj.2 (by trivial)
  have HB:=al ((ab H2).trans (L3.mono (ab H2).size))
  obtain ⟨hM,hE,hP,hF⟩:=ab sa
  have HX:=al (Ai (hM.up (ab HB) hM.1) (hE.up (ab HB)) (hP.up (ab HB)) (hF.up (ab HB)))
  clear hM hE hP hF sa L3 kj H2
  go_wp2_with fail
  refine (ab HX).mono ?_
  rintro e wE ⟨rfl,RJ⟩
  have Yc:=al ((ab HB).trans (RJ.mono (ab HB).size))
  clear RJ HB HX
  go_wp2
  go_ret
  exact ⟨rfl,ab Yc⟩
 |false =>
  have HX:=al (nS cV.yN (ab P1) w2 (zE _ _))
  have H2:=al (And.intro hb (And.intro k0 (And.intro k1 (And.intro cV (And.intro kP fk)))))
  clear hb k0 k1 cV kP fk Hq XU T3
  go_wp2_with fail
  refine (ab HX).mono ?_
  rintro e w3 ⟨u2,Yo,Yn,Uj,x2,y2,rfl,jc,cC⟩
  obtain ⟨hb,k0,k1,cV,kP,fk⟩:=ab H2
  obtain ⟨oi,Jj,om,Ji,oe,Jk,rfl,rfl,rfl⟩:=oN jc
  obtain rfl:=jc.is
  unfold Ax at jc ⊢
  simp only at jc ⊢
  rw[uD 200 M (ab Cz)] at jc ⊢
  have k0:=(cC.block _ (zA k0).1).trans k0
  have k1:=(cC.block _ (zA k1).1).trans k1
  have cV:=cV.mono (aC cC)
  have hb:=hb.trans (cC.mono hb.size)
  have fk:=Nat.le_trans fk cC.size
  clear c0 c1 c2 c3 d0 d1 d2 d3 z0 z1 z2 z3
  obtain ⟨c0,c1,c2,c3⟩:=a8 k0
  obtain ⟨z0,z1,z2,z3⟩:=L7 k0
  obtain ⟨X,hX⟩:∃X,(((w3.setCell ⟨W.heap.size,0,none⟩ (.string pk)).setCell ⟨W.heap.size,1,none⟩ (.slice oi is.length Jj)).setCell ⟨W.heap.size,2,none⟩ (.slice om M.length Ji)).setCell ⟨W.heap.size,3,none⟩ (.slice oe es.length Jk)=X:=⟨_,rfl⟩
  obtain ⟨kx,gx⟩:=U4 k0 (.string pk) (.slice oi is.length Jj) (.slice om M.length Ji) (.slice oe es.length Jk)
  rw[hX] at kx gx
  have hlw:W.heap.size<V.heap.size:=by have e:=zJ W (.cells #[.string pk,.slice fi is.length Ty,.slice fm ms.length Tx,.slice fe es.length Tz] 26);rw[hV] at e;omega
  have k1:=(gx.block _ (zA k1).1 (by simp;omega)).trans k1
  have cV:=cV.mono (j3 gx (fun g (hg:V.heap.size≤g) e=>by have:=zC e;omega))
  have pF:=(jc.mono (j3 gx (fun g (hg:w2.heap.size≤g) e=>by have:=zC e;omega))).yN
  have hb:=cq hb gx hb.size (fun k e=>by obtain rfl:=zC e;omega)
  have fk:=Nat.le_trans fk gx.size
  have k0:=kx
  have c0x:=hX
  clear kx gx jc cC H2 HX hlw c0x
  obtain ⟨d0,d1,d2,d3⟩:=a8 k1
  obtain ⟨hM,hE,hP,hF⟩:=ab yl
  have HX:=al (lS (hM.up hb hM.1) (hE.up hb) (hP.up hb) (hF.up hb) cV.yN (ab Hs))
  have H2:=al (And.intro hb (And.intro k0 (And.intro k1 (And.intro pF (And.intro cV (And.intro kP fk))))))
  obtain ⟨⟨s1,n1⟩,hT⟩:∃T,kl ⟨pk,is,M,es⟩=T:=⟨_,rfl⟩
  rw[hT] at HX
  simp only at HX
  have HT:=al hT
  clear hM hE hP hF hb k0 k1 pF cV kP fk hT
  go_wp2_with fail
  refine (ab HX).mono ?_
  rintro e w4 ⟨rfl,gR⟩
  obtain ⟨hb,k0,k1,pF,cV,kP,fk⟩:=ab H2
  have k0:=(gR.block _ (zA k0).1).trans k0
  have k1:=(gR.block _ (zA k1).1).trans k1
  have pF:=pF.up gR
  have cV:=cV.mono (aC gR)
  have hb:=hb.trans (gR.mono hb.size)
  have fk:=Nat.le_trans fk gR.size
  clear gR H2 HX
  obtain ⟨c0,c1,c2,c3⟩:=a8 k0
  obtain ⟨d0,d1,d2,d3⟩:=a8 k1
  obtain ⟨hM,hE,hP,hF⟩:=ab yl
  have HX:=al (mv (hF.up hb) pF (by have:=ab OC;omega))
  rw[ab HT] at HX
  simp only at HX
  have H2:=al (And.intro hb (And.intro k0 (And.intro k1 (And.intro pF (And.intro cV (And.intro kP fk))))))
  clear hM hE hP hF hb k0 k1 pF cV kP fk d0 d1 d2 d3
  go_wp2_with fail
  refine (ab HX).mono ?_
  rintro e w5 ⟨rfl,jT⟩
  obtain ⟨hb,k0,k1,pF,cV,kP,fk⟩:=ab H2
  have k0:=(jT.block _ (zA k0).1).trans k0
  have k1:=(jT.block _ (zA k1).1).trans k1
  have pF:=pF.up jT
  have cV:=cV.mono (aC jT)
  have hb:=hb.trans (jT.mono hb.size)
  have fk:=Nat.le_trans fk jT.size
  clear jT H2 HX
  obtain ⟨c0,c1,c2,c3⟩:=a8 k0
  obtain ⟨d0,d1,d2,d3⟩:=a8 k1
  obtain ⟨hM,hE,hP,hF⟩:=ab yl
  have HX:=al (xk (f:=200) (zD _) cV.yN pF (ab Cz) (ab Cz) w5 (zE _ _))
  have e1:(s1.toList==s1.toList)=true:=by simp
  have e2:(n1==n1)=true:=by simp
  have e3:(s1.toList != s1.toList)=false:=by simp
  have e4:(n1 != n1)=false:=by simp
  have H2:=al (And.intro hb (And.intro k0 (And.intro k1 (And.intro cV (And.intro kP fk)))))
  clear hM hE hP hF hb k0 k1 pF cV kP fk
  go_wp2_with fail
  refine (og _ n1).mono ?_
  rintro e w6 ⟨rfl,rfl⟩
  go_wp2_with fail
  refine (ab HX).mono ?_
  rintro e w7 ⟨q2,rfl,kj,Dl⟩
  obtain rfl:q2=true:=kj.2 (by trivial)
  obtain ⟨hb,k0,k1,cV,kP,fk⟩:=ab H2
  have k1:=(Dl.block _ (zA k1).1).trans k1
  have cV:=cV.mono (aC Dl)
  have hb:=hb.trans (Dl.mono hb.size)
  have fk:=Nat.le_trans fk Dl.size
  have HX:=al (vR cV (ab Cz) fk)
  clear d0 d1 d2 d3 c0 c1 c2 c3
  obtain ⟨d0,d1,d2,d3⟩:=a8 k1
  have H2:=al (And.intro hb (And.intro k1 (And.intro cV (And.intro kP fk))))
  clear hb k0 k1 cV kP fk Dl kj
  go_wp2_with fail
  refine (ab HX).mono ?_
  rintro e w8 ⟨rfl,GN⟩
  obtain ⟨hb,k1,cV,kP,fk⟩:=ab H2
  have k1:=GN.file k1
  have hb:Below W.heap.size W w8:=hb.trans (GN.bV.mono kP)
  have fk:=Nat.le_trans fk GN.bV.size
  obtain ⟨G,xm,xe,cV,g1,g2,g3,g4⟩:=cV.sp (fun _ h=>h) GN
  have Nt:PS ⟨pk,is,M,es⟩ G:=⟨g2,g3,g4⟩
  have OJ:=al (Nt.re (ab P1))
  have OB:=al (show mL G≤1048576 by rw[Nt.ZW];exact ab OC)
  have yj:=al (g3.dp 200 (ab Cz))
  have Sm:=al (g3.sz 32 (ab Hs))
  obtain ⟨gk,gi,gm,ge⟩:=G
  simp only at g1 g2 g3 g4 yj Sm cV
  have g1:=g1.symm
  subst g1
  have HL:=al (And.intro g2 (And.intro g3.len g4.len))
  have HX:=al (nS cV.yN (ab OJ) w8 (zE _ _))
  clear d0 d1 d2 d3
  obtain ⟨d0,d1,d2,d3⟩:=a8 k1
  have H2:=al (And.intro hb (And.intro k1 (And.intro cV (And.intro kP fk))))
  clear hb k1 cV kP fk GN g2 g3 g4 Nt e1 e2 e3 e4
  go_wp2_with fail
  refine (ab HX).mono ?_
  rintro e w9 ⟨u2,Yo,Yn,Uj,x2,y2,rfl,jc,l9⟩
  obtain ⟨hb,k1,cV,kP,fk⟩:=ab H2
  obtain ⟨oi,Jj,om,Ji,oe,Jk,rfl,rfl,rfl⟩:=oN jc
  obtain rfl:=jc.is
  unfold Ax at jc ⊢
  simp only at jc ⊢
  rw[uD 200 gm (ab yj)] at jc ⊢
  have k1:=(l9.block _ (zA k1).1).trans k1
  have cV:=cV.mono (aC l9)
  have hb:=hb.trans (l9.mono hb.size)
  have fk:=Nat.le_trans fk l9.size
  have k2:=aK w9 (.cells #[.string pk,.slice oi gi.length Jj,.slice om gm.length Ji,.slice oe ge.length Jk] 26)
  have b9:Below w9.heap.size w9 (w9.alloc (.cells #[.string pk,.slice oi gi.length Jj,.slice om gm.length Ji,.slice oe ge.length Jk] 26)):=(zE _ _).alloc (zD _) _
  obtain ⟨V9,Wh⟩:∃V9,w9.alloc (.cells #[.string pk,.slice oi gi.length Jj,.slice om gm.length Ji,.slice oe ge.length Jk] 26)=V9:=⟨_,rfl⟩
  rw[Wh] at k2 b9
  have k1:=(b9.block _ (zA k1).1).trans k1
  have cV:=(cV.mono (aC b9)).yN
  have jc:=(jc.mono (aC b9)).yN
  have hb:=hb.trans (b9.mono hb.size)
  obtain ⟨hM,hE,hP,hF⟩:=ab yl
  have HX:=al (lS (hM.up hb hM.1) (hE.up hb) (hP.up hb) (hF.up hb) cV (ab Sm))
  obtain ⟨⟨s2,n2⟩,hT⟩:∃T,kl ⟨pk,gi,gm,ge⟩=T:=⟨_,rfl⟩
  rw[hT] at HX
  simp only at HX
  have HT:=al hT
  clear d0 d1 d2 d3
  obtain ⟨d0,d1,d2,d3⟩:=a8 k1
  have H2:=al (And.intro hb (And.intro k1 (And.intro k2 (And.intro cV jc))))
  clear hM hE hP hF hb k1 k2 cV jc kP fk l9 b9 hT
  go_wp2_with fail
  refine (ab HX).mono ?_
  rintro e wA ⟨rfl,EG⟩
  obtain ⟨hb,k1,k2,cV,jc⟩:=ab H2
  have k1:=(EG.block _ (zA k1).1).trans k1
  have k2:=(EG.block _ (zA k2).1).trans k2
  have cV:=cV.up EG
  have jc:=jc.up EG
  have hb:=hb.trans (EG.mono hb.size)
  clear EG H2 HX d0 d1 d2 d3
  obtain ⟨d0,d1,d2,d3⟩:=a8 k1
  obtain ⟨c0,c1,c2,c3⟩:=a8 k2
  obtain ⟨hM,hE,hP,hF⟩:=ab yl
  have HX:=al (mv (hF.up hb) jc (by have:=ab OB;omega))
  rw[ab HT] at HX
  simp only at HX
  have H2:=al (And.intro hb (And.intro k1 (And.intro k2 (And.intro cV jc))))
  clear hM hE hP hF hb k1 k2 cV jc
  go_wp2_with fail
  refine (ab HX).mono ?_
  rintro e wB ⟨rfl,EF⟩
  obtain ⟨hb,k1,k2,cV,jc⟩:=ab H2
  have k1:=(EF.block _ (zA k1).1).trans k1
  have k2:=(EF.block _ (zA k2).1).trans k2
  have cV:=cV.up EF
  have jc:=jc.up EF
  have hb:=hb.trans (EF.mono hb.size)
  clear EF H2 HX d0 d1 d2 d3
  obtain ⟨d0,d1,d2,d3⟩:=a8 k1
  obtain ⟨c0,c1,c2,c3⟩:=a8 k2
  obtain ⟨hM,hE,hP,hF⟩:=ab yl
  have HX:=al (xk (f:=200) (zD _) cV jc (ab yj) (ab yj) wB (zE _ _))
  have e1:(s2.toList==s2.toList)=true:=by simp
  have e2:(n2==n2)=true:=by simp
  have H2:=al hb
  have sa:=al (And.intro hM (And.intro hE (And.intro hP hF)))
  clear hM hE hP hF hb k1 k2 cV jc yl
  go_wp2_with fail
  refine (og _ n2).mono ?_
  rintro e wC ⟨rfl,rfl⟩
  go_wp2_with fail
  refine (ab HX).mono ?_
  rintro e wD ⟨q2,rfl,kj,L3⟩
  obtain rfl:q2=true:=kj.2 (by trivial)
  have HB:=al ((ab H2).trans (L3.mono (ab H2).size))
  obtain ⟨hM,hE,hP,hF⟩:=ab sa
  have HX:=al (Ai (hM.up (ab HB) hM.1) (hE.up (ab HB)) (hP.up (ab HB)) (hF.up (ab HB)))
  clear hM hE hP hF sa L3 kj H2
  go_wp2_with fail
  refine (ab HX).mono ?_
  rintro e wE ⟨rfl,RJ⟩
  have Yc:=al ((ab HB).trans (RJ.mono (ab HB).size))
  clear RJ HB HX
  go_wp2
  go_ret
  exact ⟨rfl,ab Yc⟩
end Go.Proofs.YtichhjfjcinjgaaGreatDoor
