import Derived.Test.YtichhjfjcinjgaaGreatDoorYBe
set_option maxHeartbeats 4000000
set_option maxRecDepth 100000
namespace Go.Proofs.YtichhjfjcinjgaaGreatDoor
open Go.RowKit
attribute [local go_sem ↓] Go.wp_at_zero Go.wp_at_succ
def Ax (F:Fl):Fl:=⟨F.kz,F.cT,gI 200 F.ms,F.es⟩
structure Ll (F:Fl):Prop where
 i:F.cT.length*16≤140737488355328
 m:F.ms.length*160≤140737488355328
 ms:∀m ∈ F.ms,DI 200 m
 e:F.es.length*88≤140737488355328
 es:∀e ∈ F.es,Jx e
structure Je (R:Nat→Prop) (w:World) (v:Value) (F:Fl) (vi vm ve:Value) (cm ce:List Value):Prop where
 is:v=.agg #[.string F.kz,vi,vm,ve]
 hi:gM R w 9 1 vi F.cT.length (bY F.cT)
 hm:gM R w 46 7 vm F.ms.length cm
 ej:pa R w cm F.ms
 he:gM R w 67 4 ve F.es.length ce
 fl:pd R w ce F.es
theorem Je.mono {R R':Nat→Prop}{w w':World}{v vi vm ve:Value}{F:Fl}{cm ce:List Value} (h:Je R w v F vi vm ve cm ce) (hs:gK R R' w w'):Je R' w' v F vi vm ve cm ce:=⟨h.is,h.hi.mono hs,h.hm.mono hs,h.ej.mono hs,h.he.mono hs,h.fl.mono hs⟩
theorem Je.yN {R:Nat→Prop}{w:World}{v vi vm ve:Value}{F:Fl}{cm ce:List Value} (h:Je R w v F vi vm ve cm ce):A6 w v F vi vm ve cm ce:=⟨h.is,h.hi.rl,h.hm.rl,h.ej.yN,h.he.rl,h.fl.yN⟩
def TwP (w0:World) (F:Fl) (e:Ending) (w:World):Prop:=∃u ui um ue dh dc,e=.returned u∧Je (fun g=>w0.heap.size≤g) w u (Ax F) ui um ue dh dc∧Below w0.heap.size w0 w
theorem nS {W:World}{v vi vm ve:Value}{F:Fl}{cm ce:List Value} (A5:A6 W v F vi vm ve cm ce) (hr:Ll F) (w0:World) (hw:Below W.heap.size W w0) :
  Calls Tryz.prog 7 #[v] w0 (TwP w0 F):=by
 obtain ⟨pk,is,ms,es⟩:=F
 obtain ⟨rfl,hi,hm,ej,he,fl⟩:=A5
 obtain ⟨r1,r2,r3,r4,r5⟩:=hr
 simp only at hi hm ej he fl r1 r2 r3 r4 r5 ⊢
 have HI:=al (fun w' hb=>mr hi r1 w' hb)
 have HM:=al (fun w' hb=>oq 200 (zD _) W vm ms cm hm ej r2 r3 w' hb)
 rw[show (200:Int)-((200:Nat):Int)=0 from rfl] at HM
 have HE:=al (fun w' hb=>wN he fl r4 r5 w' hb)
 obtain ⟨ai,ci,rfl,-,-⟩:=hi
 obtain ⟨am,dh,rfl,-,-⟩:=hm
 obtain ⟨ae,dc,rfl,-,-⟩:=he
 have HS:=al (show is.length*16≤140737488355328∧ms.length*160≤140737488355328∧es.length*88≤140737488355328 from ⟨r1,r2,r4⟩)
 obtain ⟨V0,KS⟩:∃V,w0.alloc (.cells #[.string pk,.slice ai is.length ci,.slice am ms.length dh,.slice ae es.length dc] 26)=V:=⟨_,rfl⟩
 have k0:=aK w0 (.cells #[.string pk,.slice ai is.length ci,.slice am ms.length dh,.slice ae es.length dc] 26)
 have s0:=zJ w0 (.cells #[.string pk,.slice ai is.length ci,.slice am ms.length dh,.slice ae es.length dc] 26)
 have b0:Below w0.heap.size w0 (w0.alloc (.cells #[.string pk,.slice ai is.length ci,.slice am ms.length dh,.slice ae es.length dc] 26)):=(zE _ _).alloc (zD _) _
 rw[KS] at k0 s0 b0
 obtain ⟨V,hV⟩:∃V',V0.alloc (.cells #[.string ⟨#[]⟩,.slice none 0 0,.slice none 0 0,.slice none 0 0] 26)=V':=⟨_,rfl⟩
 have k1:=aK V0 (.cells #[.string ⟨#[]⟩,.slice none 0 0,.slice none 0 0,.slice none 0 0] 26)
 have s1:=zJ V0 (.cells #[.string ⟨#[]⟩,.slice none 0 0,.slice none 0 0,.slice none 0 0] 26)
 have b1:Below V0.heap.size V0 (V0.alloc (.cells #[.string ⟨#[]⟩,.slice none 0 0,.slice none 0 0,.slice none 0 0] 26)):=(zE _ _).alloc (zD _) _
 rw[hV] at k1 s1 b1
 have bJ:Below w0.heap.size w0 V:=b0.trans (b1.mono b0.size)
 have dL:V.heap[w0.heap.size]?=some (.cells #[.string pk,.slice ai is.length ci,.slice am ms.length dh,.slice ae es.length dc] 26 (0,0)):=(b1.block _ (by omega)).trans k0
 have bP:V.heap[V0.heap.size]?=some (.cells #[.string ⟨#[]⟩,.slice none 0 0,.slice none 0 0,.slice none 0 0] 26 (0,0)):=k1
 have aS:Below W.heap.size W V:=hw.trans (bJ.mono hw.size)
 have VI:w0.heap.size<V0.heap.size∧V0.heap.size<V.heap.size:=by omega
 have dy:Hid (∀w':World,(Below w0.heap.size w0 w'∧w'.heap[w0.heap.size]?=some (.cells #[.string pk,.slice ai is.length ci,.slice am ms.length dh,.slice ae es.length dc] 26 (0,0)))→w'.cell? ⟨w0.heap.size,0,none⟩=some (.string pk)∧w'.cell? ⟨w0.heap.size,1,none⟩=some (.slice ai is.length ci)∧w'.cell? ⟨w0.heap.size,2,none⟩=some (.slice am ms.length dh)∧w'.cell? ⟨w0.heap.size,3,none⟩=some (.slice ae es.length dc)):=fun w' hw=>a8 hw.2
 have HV:=al (And.intro bJ (And.intro dL (And.intro bP (And.intro aS VI))))
 have e0:=KS
 have e1:=hV
 clear hw ej fl r1 r2 r3 r4 r5 k0 s0 b0 k1 s1 b1 bJ dL bP aS VI KS hV
 go_enter Tryz.func7,Tryz.ntmps7
 go_wp2_with fail
 obtain ⟨bJ,dL,bP,aS,VI⟩:=ab HV
 refine wp_region_any (by kernel_rfl) (bK (z:=99) (T:=fun w'=>Below w0.heap.size w0 w'∧w'.heap[w0.heap.size]?=some (.cells #[.string pk,.slice ai is.length ci,.slice am ms.length dh,.slice ae es.length dc] 26 (0,0))) _ _ _ _ ?_)
 try (change bZ _ _ _ _ _ _ _ _ _ (World.drew _))
 have aS:Below W.heap.size W V.drew:=below_drewN aS 1
 have bJ:Below w0.heap.size w0 V.drew:=below_drewN bJ 1
 have kQ:Below V.heap.size V V.drew:=below_drewN (zE V.heap.size V) 1
 have dL:V.drew.heap[w0.heap.size]?=some (.cells #[.string pk,.slice ai is.length ci,.slice am ms.length dh,.slice ae es.length dc] 26 (0,0)):=dL
 have bP:V.drew.heap[V0.heap.size]?=some (.cells #[.string ⟨#[]⟩,.slice none 0 0,.slice none 0 0,.slice none 0 0] 26 (0,0)):=bP
 obtain ⟨wd,mW⟩:∃x,V.drew=x:=⟨_,rfl⟩
 rw[mW] at aS bJ kQ dL bP ⊢
 have hT:Below w0.heap.size w0 wd∧wd.heap[w0.heap.size]?=some (.cells #[.string pk,.slice ai is.length ci,.slice am ms.length dh,.slice ae es.length dc] 26 (0,0)):=⟨bJ,dL⟩
 refine aw 0 (.pointer (some ⟨w0.heap.size,0,none⟩)) 3 rfl rfl (Or.inl ⟨by rfl,fun w' hw=>by obtain ⟨x0,x1,x2,x3⟩:=ab dy w' hw;go_simp⟩) hT ?_
 simp only[Act.put,zL,zM,zN]
 refine aw 1 (.string pk) 4 rfl rfl (Or.inl ⟨by rfl,fun w' hw=>by obtain ⟨x0,x1,x2,x3⟩:=ab dy w' hw;go_simp⟩) hT ?_
 simp only[Act.put,zL,zM,zN]
 refine aw 2 (.pointer (some ⟨w0.heap.size,1,none⟩)) 5 rfl rfl (Or.inl ⟨by rfl,fun w' hw=>by obtain ⟨x0,x1,x2,x3⟩:=ab dy w' hw;go_simp⟩) hT ?_
 simp only[Act.put,zL,zM,zN]
 refine aw 3 (.slice ai is.length ci) 6 rfl rfl (Or.inl ⟨by rfl,fun w' hw=>by obtain ⟨x0,x1,x2,x3⟩:=ab dy w' hw;go_simp⟩) hT ?_
 simp only[Act.put,zL,zM,zN]
 refine aw 5 (.pointer (some ⟨w0.heap.size,2,none⟩)) 8 rfl rfl (Or.inl ⟨by rfl,fun w' hw=>by obtain ⟨x0,x1,x2,x3⟩:=ab dy w' hw;go_simp⟩) hT ?_
 simp only[Act.put,zL,zM,zN]
 refine aw 6 (.slice am ms.length dh) 9 rfl rfl (Or.inl ⟨by rfl,fun w' hw=>by obtain ⟨x0,x1,x2,x3⟩:=ab dy w' hw;go_simp⟩) hT ?_
 simp only[Act.put,zL,zM,zN]
 refine aw 8 (.pointer (some ⟨w0.heap.size,3,none⟩)) 11 rfl rfl (Or.inl ⟨by rfl,fun w' hw=>by obtain ⟨x0,x1,x2,x3⟩:=ab dy w' hw;go_simp⟩) hT ?_
 simp only[Act.put,zL,zM,zN]
 refine aw 9 (.slice ae es.length dc) 12 rfl rfl (Or.inl ⟨by rfl,fun w' hw=>by obtain ⟨x0,x1,x2,x3⟩:=ab dy w' hw;go_simp⟩) hT ?_
 simp only[Act.put,zL,zM,zN]
 clear hT
 refine aF 4 (by kernel_rfl) rfl (fun K hK=>?_)
 refine aO 7 rfl rfl 16 (fun vs=>by kernel_rfl) #[.tmp 6] #[22] rfl #[.slice ai is.length ci] (by first|rfl|simp[Act.eval]) (ab HI wd aS) ?_
 rintro e' yq ⟨u1,rfl,dM,aR⟩
 obtain ⟨FM,FL,rfl⟩:=bq dM
 have dM:=(cy dM (by have:=(ab HS).1;omega)).mono (R':=fun g=>V.heap.size≤g) (fun g hg _=>⟨rfl,Nat.le_trans kQ.size hg⟩)
 have kQ:=kQ.trans (aR.mono kQ.size)
 have aS:=aS.trans (aR.mono aS.size)
 have bJ:=bJ.trans (aR.mono bJ.size)
 have dL:=(aR.block _ (zA dL).1).trans dL
 have bP:=(aR.block _ (zA bP).1).trans bP
 refine ⟨_,rfl,hK _ _ ⟨fun _=>⟨bJ,dL⟩,?_⟩⟩
 clear hK K aR
 simp only[Act.put,zL,zM,zN]
 refine aF 7 (by kernel_rfl) rfl (fun K hK=>?_)
 refine aO 10 rfl rfl 17 (fun vs=>by kernel_rfl) #[.tmp 9,.const (.int .i64 0)] #[23,3] rfl #[.slice am ms.length dh,.int .i64 0] (by first|rfl|simp[Act.eval]) (ab HM yq aS) ?_
 rintro e' AQ ⟨u2,ZT,rfl,gC,gj,aR⟩
 have dM:=dM.mono (aC aR)
 obtain ⟨JK,JJ,rfl⟩:=bq gC
 have gC:=(cy gC (by have:=(ab HS).2.1;have:=oS (f:=200) (l:=ms);omega)).mono (R':=fun g=>V.heap.size≤g) (fun g hg _=>⟨rfl,Nat.le_trans kQ.size hg⟩)
 have gj:=gj.mono (R':=fun g=>V.heap.size≤g) (fun g hg _=>⟨rfl,Nat.le_trans kQ.size hg.1⟩)
 have kQ:=kQ.trans (aR.mono kQ.size)
 have aS:=aS.trans (aR.mono aS.size)
 have bJ:=bJ.trans (aR.mono bJ.size)
 have dL:=(aR.block _ (zA dL).1).trans dL
 have bP:=(aR.block _ (zA bP).1).trans bP
 refine ⟨_,rfl,hK _ _ ⟨fun _=>⟨bJ,dL⟩,?_⟩⟩
 clear hK K aR
 simp only[Act.put,zL,zM,zN]
 refine aF 10 (by kernel_rfl) rfl (fun K hK=>?_)
 refine aO 13 rfl rfl 18 (fun vs=>by kernel_rfl) #[.tmp 12] #[24] rfl #[.slice ae es.length dc] (by first|rfl|simp[Act.eval]) (ab HE AQ aS) ?_
 rintro e' A' ⟨u3,cs3,rfl,lA,mX,aR⟩
 have dM:=dM.mono (aC aR)
 have gC:=gC.mono (aC aR)
 have gj:=gj.mono (aC aR)
 obtain ⟨O7,O4,rfl⟩:=bq lA
 have lA:=(cy lA (by have:=(ab HS).2.2;omega)).mono (R':=fun g=>V.heap.size≤g) (fun g hg _=>⟨rfl,Nat.le_trans kQ.size hg⟩)
 have mX:=mX.mono (R':=fun g=>V.heap.size≤g) (fun g hg _=>⟨rfl,Nat.le_trans kQ.size hg.1⟩)
 have kQ:=kQ.trans (aR.mono kQ.size)
 have aS:=aS.trans (aR.mono aS.size)
 have bJ:=bJ.trans (aR.mono bJ.size)
 have dL:=(aR.block _ (zA dL).1).trans dL
 have bP:=(aR.block _ (zA bP).1).trans bP
 refine ⟨_,rfl,hK _ _ ⟨fun _=>⟨bJ,dL⟩,?_⟩⟩
 clear hK K aR
 simp only[Act.put,zL,zM,zN]
 have hT:Below w0.heap.size w0 A'∧A'.heap[w0.heap.size]?=some (.cells #[.string pk,.slice ai is.length ci,.slice am ms.length dh,.slice ae es.length dc] 26 (0,0)):=⟨bJ,dL⟩
 refine aw 11 (.agg #[.string pk,.slice FM is.length FL,.slice JK (gI 200 ms).length JJ,.slice O7 es.length O4]) 14 rfl rfl (Or.inl ⟨by rfl,fun w' hw=>by go_simp⟩) hT ?_
 simp only[Act.put,zL,zM,zN]
 refine aF 12 (by kernel_rfl) rfl (fun K hK=>?_)
 obtain ⟨c0,c1,c2,c3⟩:=a8 bP
 have z:∀j,A'.frozen? ⟨V0.heap.size,j,none⟩=false:=fun j=>by simp[World.frozen?,bP]
 have z0:=z 0
 have z1:=z 1
 have z2:=z 2
 have z3:=z 3
 obtain ⟨q0,g0⟩:=bh (j:=0) bP (.string pk)
 obtain ⟨q1,g1⟩:=bh (j:=1) q0 (.slice FM is.length FL)
 obtain ⟨q2,g2⟩:=bh (j:=2) q1 (.slice JK (gI 200 ms).length JJ)
 obtain ⟨q3,g3⟩:=bh (j:=3) q2 (.slice O7 es.length O4)
 have gg:=((g0.trans g1).trans g2).trans g3
 have st:gK (fun g=>V.heap.size≤g) (fun g=>w0.heap.size≤g) _ _:=(j3 gg (fun g (hg:V.heap.size≤g) e=>by have:=zC e;omega)).trans (R'':=fun g=>w0.heap.size≤g) (fun g hg _=>⟨rfl,by omega⟩) gg.size
 have p1:=dM.mono st
 have p2:=gC.mono st
 have p3:=lA.mono st
 have m2:=gj.mono st
 have m3:=mX.mono st
 have jT:=cq bJ gg bJ.size (fun k e=>by obtain rfl:=zC e;omega)
 have YH:=(gg.block _ (zA dL).1 (by simp;omega)).trans dL
 go_simp
 refine hK _ _ ⟨fun _=>⟨jT,YH⟩,?_⟩
 clear hK K
 refine aZ (by kernel_rfl) ?_
 have Q3:=al q3
 have P:=al (And.intro p1 (And.intro p2 (And.intro m2 (And.intro p3 (And.intro m3 jT)))))
 clear hT c0 c1 c2 c3 z z0 z1 z2 z3 q0 q1 q2 q3 g0 g1 g2 g3 gg st p1 p2 p3 m2 m3 jT YH dM gC lA gj mX dL bP aS bJ kQ dy HI HM HE HV
 go_wp2
 obtain ⟨p1,p2,m2,p3,m3,jT⟩:=ab P
 refine bodyPost_ret (results_cell_row rfl _ _ V0.heap.size 26 _ (0,0) _ rfl (ab Q3) Tryz.underlying26 rfl (by kernel_rfl)) rfl ?_
 exact ⟨_,_,_,_,_,_,rfl,⟨rfl,p1,p2,m2,p3,m3⟩,jT⟩
def gG:List UInt8→List (List UInt8)
 |[]=>[([])]
 |c::r=>if c=46 then []::gG r else match gG r with
  |[]=>[([c])]
  |p::ps=>(c::p)::ps
theorem DA:∀(a:List UInt8),46 ∉ a→gG a=[a]
 |[],_=>rfl
 |c::a,h=>by
  simp only[List.mem_cons,not_or] at h
  unfold gG
  rw[if_neg (fun e=>h.1 e.symm),DA a h.2]
theorem x7:∀(a b:List UInt8),46 ∉ a→gG (a++46::b)=a::gG b
 |[],b,_=>by
  rw[List.nil_append]
  unfold gG
  rw[if_pos rfl]
  cases b<;>rfl
 |c::a,b,h=>by
  simp only[List.mem_cons,not_or] at h
  rw[List.cons_append]
  unfold gG
  rw[if_neg (fun e=>h.1 e.symm),x7 a b h.2]
  cases b<;>rfl
theorem tw:∀(k:Nat) (l:List UInt8),l.count 46=k→Lib.splitK [46] 0 k l=gG l
 |0,l,h=>by
  rw[DA l (List.count_eq_zero.1 h)]
  rfl
 |k+1,l,h=>by
  have hm:46 ∈ l:=List.count_pos_iff.1 (by omega)
  unfold Lib.splitK
  rw[Lib.index_one]
  have iG:Lib.indexByte l 46≠-1:=fun e=>by
   obtain ⟨j,hj⟩:=List.getElem?_of_mem hm
   exact Lib.indexByte_none e j hj
  have h0:-1≤Lib.indexByte l 46:=by rw[←Lib.index_one];exact Lib.index_ge _ _
  obtain ⟨o,ho⟩:∃o:Nat,Lib.indexByte l 46=(o:Int):=⟨(Lib.indexByte l 46).toNat,by omega⟩
  rw[if_neg (by rw[beq_iff_eq];exact iG),ho,Int.toNat_natCast,Nat.add_zero]
  obtain ⟨h1,h2⟩:=Lib.indexByte_some ho
  have aM:=(zB h1).1
  have hl:l=l.take o++46::l.drop (o+1):=by
   have e:=List.getElem_cons_drop aM
   have e2:l[o]=46:=by
    rw[List.getElem?_eq_getElem aM] at h1
    exact zC h1
   rw[e2] at e
   rw[e,List.take_append_drop]
  have na:46 ∉ l.take o:=fun hx=>by
   obtain ⟨j,hj⟩:=List.getElem?_of_mem hx
   rw[List.getElem?_take] at hj
   split at hj
   ·rename_i hjo;exact h2 j hjo hj
   ·cases hj
  have hc:(l.drop (o+1)).count 46=k:=by
   have e:=congrArg (List.count 46) hl
   rw[List.count_append,List.count_cons_self,List.count_eq_zero.2 na,h] at e
   omega
  have hd:gG l=l.take o::gG (l.drop (o+1)):=by
   have e:=x7 (l.take o) (l.drop (o+1)) na
   rwa [←hl] at e
  rw[hd]
  exact congrArg _ (tw k _ hc)
noncomputable def FG (l:List UInt8):Bool:=bD ⟨l.toArray⟩
theorem zg (s:ByteArray):(pieces s).all bD=(gG s.data.toList).all FG:=by
 have h:=Lib.splitB_data uC 0 (Lib.countB s uC) s
 have h2:Lib.splitK [46] 0 (Lib.countB s uC) s.data.toList=gG s.data.toList:=tw _ _ (by rw[←Lib.count_one];rfl)
 have h3:(pieces s).map (·.data.toList)=gG s.data.toList:=h.trans h2
 rw[←h3,List.all_map]
 rfl
noncomputable def yr (s:ByteArray):Nat→Nat→Nat→Bool
 |0,_,_=>true
 |n+1,fr,i=>if i=s.size∨aD s i=46 then bD (s.extract fr i)&&yr s n (i+1) (i+1) else yr s n fr (i+1)
theorem gZ {s:ByteArray}{i:Nat} (h:i<s.size):aD s i=46↔s.data.toList[i]?=some 46:=by
 have hl:i<s.data.toList.length:=h
 unfold aD
 rw[dif_pos h,List.getElem?_eq_getElem hl]
 have e:s[i]=s.data.toList[i]:=rfl
 rw[e]
 constructor
 ·intro h;exact congrArg some (UInt8.toNat_inj.1 (h.trans rfl))
 ·intro h;rw[zC h];rfl
theorem BF (s:ByteArray):∀(n fr i:Nat),n+i=s.size+1→fr≤i→yr s n fr i=match gG (s.data.toList.drop i) with
  |[]=>true
  |p::ps=>if n=0 then true else FG ((s.data.toList.take i).drop fr++p)&&ps.all FG
 |0,fr,i,hn,_=>by
  unfold yr
  split
  ·rfl
  ·rfl
 |n+1,fr,i,hn,hf=>by
  have hx:s.extract fr i=⟨((s.data.toList.take i).drop fr).toArray⟩:=by
   apply ByteArray.ext
   apply Array.toList_inj.1
   rw[Lib.extract_data]
   simp[List.drop_take]
  unfold yr
  have Zr:∀(l:List UInt8),gG l≠[]:=fun l=>by
   cases l with
   |nil=>simp[gG]
   |cons c r=>unfold gG;split<;>(try split)<;>simp
  by_cases he:i=s.size
  ·rw[if_pos (.inl he),List.drop_eq_nil_of_le (by rw[he];exact zD _)]
   obtain rfl:n=0:=by omega
   simp only[yr,gG,List.append_nil,List.all_nil,Bool.and_true]
   rw[if_neg (by omega),hx]
   rfl
  ·have aM:i<s.size:=by omega
   have fJ:i<s.data.toList.length:=aM
   have Ps:=List.drop_eq_getElem_cons fJ
   by_cases vA:aD s i=46
   ·rw[if_pos (.inr vA)]
    have hc:s.data.toList[i]=46:=by
     have:=(gZ aM).1 vA
     rw[List.getElem?_eq_getElem fJ] at this
     exact zC this
    rw[Ps,hc,BF s n (i+1) (i+1) (by omega) (zD _)]
    have e:gG (46::s.data.toList.drop (i+1))=[]::gG (s.data.toList.drop (i+1)):=x7 [] _ (by simp)
    rw[e,hx]
    simp only[List.append_nil]
    rw[if_neg (by omega)]
    cases hd:gG (s.data.toList.drop (i+1)) with
    |nil=>exact absurd hd (Zr _)
    |cons p ps =>
     simp only[List.all_cons]
     rw[if_neg (by omega),show (s.data.toList.take (i+1)).drop (i+1)=[] from List.drop_eq_nil_of_le (by rw[List.length_take];omega),List.nil_append]
     rfl
   ·rw[if_neg (by rintro (h|h);exact he h;exact vA h)]
    have hc:¬s.data.toList[i]=46:=fun e=>vA ((gZ aM).2 (by rw[List.getElem?_eq_getElem fJ,e]))
    rw[Ps,BF s n fr (i+1) (by omega) (by omega)]
    cases hd:gG (s.data.toList.drop (i+1)) with
    |nil=>exact absurd hd (Zr _)
    |cons p ps =>
     have e:gG (s.data.toList[i]::s.data.toList.drop (i+1))=(s.data.toList[i]::p)::ps:=by
      rw[gG,if_neg hc,hd]
     rw[e]
     simp only
     rw[if_neg (by omega),if_neg (by omega),List.take_add_one,List.getElem?_eq_getElem fJ,List.drop_append_of_le_length (by rw[List.length_take];omega),List.append_assoc]
     rfl
theorem zz {s:ByteArray} (h:s.size≤255):dv s=yr s (s.size+1) 0 0:=by
 unfold dv
 rw[decide_eq_true h,Bool.true_and,zg,BF s _ 0 0 rfl (zD _),List.drop_zero]
 cases hd:gG s.data.toList with
 |nil=>rfl
 |cons p ps=>simp
theorem BJ {s:ByteArray} (h:¬s.size≤255):dv s=false:=by
 unfold dv
 rw[decide_eq_false h]
 rfl
theorem Ei {s:ByteArray} (h:s.size=0):dv s=false:=by
 rw[zz (by omega),h]
 show yr s (0+1) 0 0=false
 unfold yr
 rw[if_pos (.inl h.symm)]
 have:bD (s.extract 0 0)=false:=by
  cases hw:bD (s.extract 0 0) with
  |false=>rfl
  |true =>
   have:=(@of_decide_eq_true _ (Classical.propDecidable _) hw:mn _).1.1
   simp at this
 rw[this]
 rfl
theorem kY (W:World) (s:ByteArray):Calls Tryz.prog 50 #[.string s] W fun e w=>e=.returned (.bool (dv s))∧w=W:=by
 by_cases h0:s.size=0
 ·rw[Ei h0]
  have e0:((s.size:Int)==0)=true:=beq_iff_eq.2 (by omega)
  clear h0
  go_enter Tryz.func50,Tryz.ntmps50
  go_wp2
  go_ret
  exact ⟨rfl,rfl⟩
 ·have e0:((s.size:Int)==0)=false:=beq_eq_false_iff_ne.2 (by omega)
  by_cases h1:s.size≤255
  ·have e1:decide ((255:Int)<(s.size:Int))=false:=by simp;omega
   rw[zz h1]
   obtain ⟨R,hR⟩:∃R,yr s (s.size+1) 0 0=R:=⟨_,rfl⟩
   rw[hR]
   have HR:=al hR
   clear hR h0
   go_enter Tryz.func50,Tryz.ntmps50
   go_wp2
   clear e0 e1
   go_loopg [3,4] (s.size+1) (fun gk v3 v4 wr=>∃(fr i:Nat),v3=.int .i64 (fr:Int)∧v4=.int .i64 (i:Int)∧gk=s.size+1-i∧i≤s.size+1∧fr≤i∧wr=W∧Hid (yr s (s.size+1-i) fr i=R))
   case atStart=>exact ⟨0,0,rfl,rfl,rfl,by omega,by omega,rfl,ab HR⟩
   case round =>
    obtain ⟨fr,i,rfl,rfl,aU,hi,Tn,rfl,HN⟩:=hrel
    have bz:=al aU
    clear aU HR
    by_cases hle:i≤s.size
    ·have kk:Hid (yr s (s.size-i+1) fr i=R):=by
      have:=ab HN
      rwa [show s.size+1-i=s.size-i+1 by omega] at this
     clear HN
     have d0:decide ((i:Int)≤(s.size:Int))=true:=by simp;omega
     by_cases he:i=s.size
     ·have e1:((i:Int)==(s.size:Int))=true:=beq_iff_eq.2 (by omega)
      have He:=al he
      have lE:Hid ((bD (s.extract fr i)&&yr s (s.size-i) (i+1) (i+1))=R):=by
       have h:=ab kk
       unfold yr at h
       rwa [if_pos (.inl he)] at h
      clear he kk
      go_wp2_with fail
      refine (fW wr (s.extract fr i)).mono ?_
      rintro e w ⟨rfl,rfl⟩
      obtain ⟨q,hq⟩:∃q,bD (s.extract fr i)=q:=⟨_,rfl⟩
      rw[hq] at lE
      rw[hq]
      clear hq
      cases q with
      |false =>
       go_wp2
       go_ret
       exact ⟨by rw[←ab lE];rfl,rfl⟩
      |true =>
       go_wp2
       go_roundg (s.size+1-(i+1))
       case measure=>have:=ab bz;omega
       case rel=>exact ⟨i+1,i+1,by go_num,by go_num,rfl,by omega,by omega,rfl,by have:=ab lE;rw[Bool.true_and] at this;rwa [show s.size+1-(i+1)=s.size-i by omega]⟩
     ·have e1:((i:Int)==(s.size:Int))=false:=beq_eq_false_iff_ne.2 (by omega)
      have aM:i<s.size:=by omega
      obtain ⟨x,hx,cY,gx⟩:=cc s i aM
      have dL:aD s i=x:=by unfold aD;rw[dif_pos aM];exact gx
      by_cases vA:x=46
      ·have e2:((x:Int)==46)=true:=beq_iff_eq.2 (by omega)
       have lE:Hid ((bD (s.extract fr i)&&yr s (s.size-i) (i+1) (i+1))=R):=by
        have h:=ab kk
        unfold yr at h
        rwa [if_pos (.inr (dL.trans vA))] at h
       clear he vA hx dL kk
       go_wp2_with fail
       refine (fW wr (s.extract fr i)).mono ?_
       rintro e w ⟨rfl,rfl⟩
       obtain ⟨q,hq⟩:∃q,bD (s.extract fr i)=q:=⟨_,rfl⟩
       rw[hq] at lE
       rw[hq]
       clear hq
       cases q with
       |false =>
        go_wp2
        go_ret
        exact ⟨by rw[←ab lE];rfl,rfl⟩
       |true =>
        go_wp2
        go_roundg (s.size+1-(i+1))
        case measure=>have:=ab bz;omega
        case rel=>exact ⟨i+1,i+1,by go_num,by go_num,rfl,by omega,by omega,rfl,by have:=ab lE;rw[Bool.true_and] at this;rwa [show s.size+1-(i+1)=s.size-i by omega]⟩
      ·have e2:((x:Int)==46)=false:=beq_eq_false_iff_ne.2 (by omega)
       have lE:Hid (yr s (s.size-i) fr (i+1)=R):=by
        have h:=ab kk
        unfold yr at h
        rwa [if_neg (by rintro (a|a);exact he a;exact vA (dL.symm.trans a))] at h
       clear he vA hx dL kk
       go_wp2
       go_roundg (s.size+1-(i+1))
       case measure=>have:=ab bz;omega
       case rel=>exact ⟨fr,i+1,rfl,by go_num,rfl,by omega,by omega,rfl,by have:=ab lE;rwa [show s.size+1-(i+1)=s.size-i by omega]⟩
    ·have d0:decide (i≤s.size)=false:=decide_eq_false hle
     have d1:s.size<i:=by omega
     have hz:s.size+1-i=0:=by omega
     have lE:Hid (R=true):=by
      have:=ab HN
      rw[hz] at this
      exact this.symm
     clear hz HN
     go_wp2
     go_ret
     exact ⟨by rw[ab lE];rfl,rfl⟩
  ·rw[BJ h1]
   have e1:decide ((255:Int)<(s.size:Int))=true:=by simp;omega
   clear h0 h1
   go_enter Tryz.func50,Tryz.ntmps50
   go_wp2
   go_ret
   exact ⟨rfl,rfl⟩
theorem vS (W:World) (s:ByteArray):Calls Tryz.prog 150 #[.string s] W fun e w=>e=.returned (.bool (gQ s))∧w=W:=by
 unfold gQ
 by_cases h1:s.size≤255
 ·have e1:decide ((255:Int)<(s.size:Int))=false:=by simp;omega
  rw[decide_eq_true h1,Bool.true_and]
  by_cases h0:0<s.size
  ·have e0:decide ((0:Int)<(s.size:Int))=true:=by simp;omega
   obtain ⟨x,hx,cY,gx⟩:=cc s 0 h0
   have dL:aD s 0=x:=by unfold aD;rw[dif_pos h0];exact gx
   by_cases vA:x=46
   ·have e2:((x:Int)==46)=true:=beq_iff_eq.2 (by omega)
    have ht:jZ s=s.extract 1 s.size:=by
     have h2:=(gZ h0).1 (dL.trans vA)
     apply ByteArray.ext
     apply Array.toList_inj.1
     rw[Lib.extract_data]
     show Lib.trimPrefix s.data.toList [46]=_
     unfold Lib.trimPrefix
     cases hl:s.data.toList with
     |nil=>rw[hl] at h2;cases h2
     |cons a r =>
      rw[hl] at h2
      obtain rfl:a=46:=zC h2
      rw[if_pos (by simp[Lib.hasPrefix])]
      have:s.size=r.length+1:=by
       have:=congrArg List.length hl
       simpa using this
      simp[this]
    rw[ht]
    clear vA hx dL ht
    go_enter Tryz.func150,Tryz.ntmps150
    go_wp2_with fail
    refine (kY W (s.extract 1 s.size)).mono ?_
    rintro e w ⟨rfl,rfl⟩
    go_wp2
    go_ret
    exact ⟨rfl,rfl⟩
   ·have e2:((x:Int)==46)=false:=beq_eq_false_iff_ne.2 (by omega)
    have ht:jZ s=s:=by
     apply ByteArray.ext
     apply Array.toList_inj.1
     show Lib.trimPrefix s.data.toList [46]=_
     unfold Lib.trimPrefix
     rw[if_neg]
     intro hp
     apply vA
     rw[←dL,gZ h0]
     cases hl:s.data.toList with
     |nil=>rw[hl] at hp;simp[Lib.hasPrefix] at hp
     |cons a r =>
      rw[hl] at hp
      have:46=a:=by simpa[Lib.hasPrefix] using hp
      rw[←this]
      rfl
    rw[ht]
    clear vA hx dL ht
    go_enter Tryz.func150,Tryz.ntmps150
    go_wp2_with fail
    refine (kY W s).mono ?_
    rintro e w ⟨rfl,rfl⟩
    go_wp2
    go_ret
    exact ⟨rfl,rfl⟩
  ·have e0:decide ((0:Int)<(s.size:Int))=false:=decide_eq_false (by omega)
   have ht:jZ s=s:=by
    apply ByteArray.ext
    apply Array.toList_inj.1
    show Lib.trimPrefix s.data.toList [46]=_
    unfold Lib.trimPrefix
    have hl:s.data.toList=[]:=List.eq_nil_of_length_eq_zero (show s.size=0 by omega)
    rw[hl]
    simp
   rw[ht]
   clear ht
   go_enter Tryz.func150,Tryz.ntmps150
   go_wp2_with fail
   refine (kY W s).mono ?_
   rintro e w ⟨rfl,rfl⟩
   go_wp2
   go_ret
   exact ⟨rfl,rfl⟩
 ·have e1:decide ((255:Int)<(s.size:Int))=true:=by simp;omega
  rw[decide_eq_false h1,Bool.false_and]
  go_enter Tryz.func150,Tryz.ntmps150
  go_wp2
  go_ret
  exact ⟨rfl,rfl⟩
theorem As {s:ByteArray}{i:Nat} (hi:i<s.size) (vA:aD s i=46) (na:∀j,j<i→aD s j≠46):firstIdx s 46=(i:Int):=by
 rw[Lib.firstIdx_eq]
 have h0:-1≤Lib.indexByte s.data.toList 46:=by rw[←Lib.index_one];exact Lib.index_ge _ _
 have o8:=(gZ hi).1 vA
 by_cases hn:Lib.indexByte s.data.toList 46=-1
 ·exact absurd o8 (Lib.indexByte_none hn i)
 ·obtain ⟨o,ho⟩:∃o:Nat,Lib.indexByte s.data.toList 46=(o:Int):=⟨(Lib.indexByte s.data.toList 46).toNat,by omega⟩
  obtain ⟨h1,h2⟩:=Lib.indexByte_some ho
  have Ft:o<s.size:=(zB h1).1
  have:o=i:=by
   rcases Nat.lt_trichotomy o i with h|h|h
   ·exact absurd ((gZ Ft).2 h1) (na o h)
   ·exact h
   ·exact absurd o8 (h2 i h)
  rw[ho,this]
theorem Ar {s:ByteArray} (na:∀j,j<s.size→aD s j≠46):firstIdx s 46=-1:=by
 rw[Lib.firstIdx_eq]
 have h0:-1≤Lib.indexByte s.data.toList 46:=by rw[←Lib.index_one];exact Lib.index_ge _ _
 by_cases hn:Lib.indexByte s.data.toList 46=-1
 ·exact hn
 ·obtain ⟨o,ho⟩:∃o:Nat,Lib.indexByte s.data.toList 46=(o:Int):=⟨(Lib.indexByte s.data.toList 46).toNat,by omega⟩
  obtain ⟨h1,-⟩:=Lib.indexByte_some ho
  have Ft:o<s.size:=(zB h1).1
  exact absurd ((gZ Ft).2 h1) (na o Ft)
theorem Bv (W:World) (s:ByteArray) (hs:s.size≤281474976710656):Calls Tryz.prog 182 #[.string s] W fun e w=>e=.returned (.string (fa s))∧w=W:=by
 obtain ⟨R,hR⟩:∃R,fa s=R:=⟨_,rfl⟩
 rw[hR]
 have HR:=al hR
 clear hR
 go_enter Tryz.func182,Tryz.ntmps182
 go_wp2
 go_loopg [3] s.size (fun gk v3 wr=>∃(i:Nat),v3=.int .i64 (i:Int)∧gk=s.size-i∧i≤s.size∧wr=W∧Hid (∀j,j<i→aD s j≠46))
 case atStart=>exact ⟨0,rfl,rfl,by omega,rfl,fun j hj=>by omega⟩
 case round =>
  obtain ⟨i,rfl,aU,hi,rfl,HN⟩:=hrel
  have bz:=al aU
  clear aU
  by_cases aM:i<s.size
  ·obtain ⟨x,hx,cY,gx⟩:=cc s i aM
   have dL:aD s i=x:=by unfold aD;rw[dif_pos aM];exact gx
   by_cases vA:x=46
   ·have e2:((x:Int)==46)=true:=beq_iff_eq.2 (by omega)
    have HF:Hid (R=s.extract 0 i):=by
     show R=_
     rw[←ab HR]
     unfold fa
     rw[As aM (dL.trans vA) (ab HN),if_pos (by omega),Int.toNat_natCast]
    clear vA hx dL HN HR
    go_wp2
    go_ret
    exact ⟨by rw[ab HF];rfl,rfl⟩
   ·have e2:((x:Int)==46)=false:=beq_eq_false_iff_ne.2 (by omega)
    have I8:Hid (∀j,j<i+1→aD s j≠46):=fun j hj=>by
     by_cases Nv:j=i
     ·rw[Nv,dL];exact vA
     ·exact ab HN j (by omega)
    clear vA hx dL HN
    go_wp2
    go_roundg (s.size-(i+1))
    case measure=>have:=ab bz;omega
    case rel=>exact ⟨i+1,by go_num,rfl,by omega,rfl,I8⟩
  ·have HF:Hid (R=s):=by
    show R=_
    rw[←ab HR]
    unfold fa
    obtain rfl:i=s.size:=by omega
    rw[Ar (ab HN),if_neg (by omega)]
   have d1:s.size≤i:=by omega
   clear HN HR
   go_wp2
   go_ret
   exact ⟨by rw[ab HF];rfl,rfl⟩
def AX (l s:ByteArray):Nat→Nat→Nat→Bool
 |0,_,_=>false
 |n+1,fr,i=>if aD l i=32 then ((l.extract fr i).toList==s.toList) ||AX l s n (i+1) (i+1) else AX l s n fr (i+1)
def ph (l:ByteArray):Nat→Nat→Nat→List ByteArray
 |0,_,_=>[]
 |n+1,fr,i=>if aD l i=32 then l.extract fr i::ph l n (i+1) (i+1) else ph l n fr (i+1)
theorem xI (l s:ByteArray):∀n fr i,AX l s n fr i=su s (ph l n fr i)
 |0,_,_=>rfl
 |n+1,fr,i=>by
  unfold AX ph
  split
  ·rw[xI l s n]
   unfold su
   rw[List.any_cons]
   congr 1
   exact BEq.comm
  ·exact xI l s n _ _
theorem C3 (W:World) (l s:ByteArray) (hs:l.size≤281474976710656):Calls Tryz.prog 183 #[.string l,.string s] W fun e w=>e=.returned (.bool (AX l s l.size 0 0))∧w=W:=by
 obtain ⟨R,hR⟩:∃R,AX l s l.size 0 0=R:=⟨_,rfl⟩
 rw[hR]
 have HR:=al hR
 clear hR
 go_enter Tryz.func183,Tryz.ntmps183
 go_wp2
 go_loopg [5,6] l.size (fun gk v5 v6 wr=>∃(fr i:Nat),v5=.int .i64 (fr:Int)∧v6=.int .i64 (i:Int)∧gk=l.size-i∧i≤l.size∧fr≤i∧wr=W∧Hid (AX l s (l.size-i) fr i=R))
 case atStart=>exact ⟨0,0,rfl,rfl,rfl,by omega,by omega,rfl,ab HR⟩
 case round =>
  obtain ⟨fr,i,rfl,rfl,aU,hi,Tn,rfl,HN⟩:=hrel
  have bz:=al aU
  clear aU HR
  by_cases aM:i<l.size
  ·obtain ⟨x,hx,cY,gx⟩:=cc l i aM
   have dL:aD l i=x:=by unfold aD;rw[dif_pos aM];exact gx
   have kk:Hid (AX l s (l.size-(i+1)+1) fr i=R):=by
    have:=ab HN
    rwa [show l.size-i=l.size-(i+1)+1 by omega] at this
   by_cases Tw:x=32
   ·have e2:((x:Int)==32)=true:=beq_iff_eq.2 (by omega)
    obtain ⟨q,hq⟩:∃q,((l.extract fr i).toList==s.toList)=q:=⟨_,rfl⟩
    have lE:Hid ((q ||AX l s (l.size-(i+1)) (i+1) (i+1))=R):=by
     have h:=ab kk
     unfold AX at h
     rwa [if_pos (dL.trans Tw),hq] at h
    clear Tw hx dL HN kk
    cases q with
    |true =>
     go_wp2
     go_ret
     exact ⟨by rw[←ab lE];rfl,rfl⟩
    |false =>
     go_wp2
     go_roundg (l.size-(i+1))
     case measure=>have:=ab bz;omega
     case rel=>exact ⟨i+1,i+1,by go_num,by go_num,rfl,by omega,by omega,rfl,by have:=ab lE;rwa [Bool.false_or] at this⟩
   ·have e2:((x:Int)==32)=false:=beq_eq_false_iff_ne.2 (by omega)
    have lE:Hid (AX l s (l.size-(i+1)) fr (i+1)=R):=by
     have h:=ab kk
     unfold AX at h
     rwa [if_neg (fun e=>Tw (dL.symm.trans e))] at h
    clear Tw hx dL HN kk
    go_wp2
    go_roundg (l.size-(i+1))
    case measure=>have:=ab bz;omega
    case rel=>exact ⟨fr,i+1,rfl,by go_num,rfl,by omega,by omega,rfl,lE⟩
  ·have hz:l.size-i=0:=by omega
   have lE:Hid (R=false):=by
    have:=ab HN
    rw[hz] at this
    exact this.symm
   have d1:l.size≤i:=by omega
   clear hz HN
   go_wp2
   go_ret
   exact ⟨by rw[ab lE];rfl,rfl⟩
end Go.Proofs.YtichhjfjcinjgaaGreatDoor
