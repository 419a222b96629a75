import Derived.Test.YtichhjfjcinjgaaGreatDoorYBe
set_option maxHeartbeats 4000000
set_option maxRecDepth 100000
namespace Go.Proofs.YtichhjfjcinjgaaGreatDoor
open Go.RowKit
attribute [local go_sem ↓] Go.wp_at_zero Go.wp_at_succ
def qf (F:Fl):Fl:=⟨F.jr,F.cX,fY 200 F.ms,F.es⟩
structure JC (F:Fl):Prop where
 i:F.cX.length*16≤140737488355328
 m:F.ms.length*160≤140737488355328
 ms:∀m ∈ F.ms,El 200 m
 e:F.es.length*88≤140737488355328
 es:∀e ∈ F.es,Kd e
structure J0 (R:Nat→Prop) (w:World) (v:Value) (F:Fl) (vi vm ve:Value) (cm ce:List Value):Prop where
 is:v=.agg #[.string F.jr,vi,vm,ve]
 hi:gU R w 9 1 vi F.cX.length (cc F.cX)
 hm:gU R w 46 7 vm F.ms.length cm
 eo:pG R w cm F.ms
 he:gU R w 67 4 ve F.es.length ce
 fA:pJ R w ce F.es
theorem J0.mono {R R':Nat→Prop}{w w':World}{v vi vm ve:Value}{F:Fl}{cm ce:List Value} (h:J0 R w v F vi vm ve cm ce) (hs:gR R R' w w'):J0 R' w' v F vi vm ve cm ce:=⟨h.is,h.hi.mono hs,h.hm.mono hs,h.eo.mono hs,h.he.mono hs,h.fA.mono hs⟩
theorem J0.oE {R:Nat→Prop}{w:World}{v vi vm ve:Value}{F:Fl}{cm ce:List Value} (h:J0 R w v F vi vm ve cm ce):xE w v F vi vm ve cm ce:=⟨h.is,h.hi.rl,h.hm.rl,h.eo.oE,h.he.rl,h.fA.oE⟩
def TwP (w0:World) (F:Fl) (e:Ending) (w:World):Prop:=∃u ui um ue dk dc,e=.returned u∧J0 (fun g=>w0.heap.size≤g) w u (qf F) ui um ue dk dc∧Below w0.heap.size w0 w
theorem iB {W:World}{v vi vm ve:Value}{F:Fl}{cm ce:List Value} (qW:xE W v F vi vm ve cm ce) (hr:JC F) (w0:World) (hw:Below W.heap.size W w0) :
  Calls Tryz.prog 7 #[v] w0 (TwP w0 F):=by
 obtain ⟨pk,is,ms,es⟩:=F
 obtain ⟨rfl,hi,hm,eo,he,fA⟩:=qW
 obtain ⟨r1,r2,r3,r4,r5⟩:=hr
 simp only at hi hm eo he fA r1 r2 r3 r4 r5 ⊢
 have HI:=al (fun w' hb=>mL hi r1 w' hb)
 have HM:=al (fun w' hb=>oQ 200 (zD _) W vm ms cm hm eo r2 r3 w' hb)
 rw[show (200:Int)-((200:Nat):Int)=0 from rfl] at HM
 have HE:=al (fun w' hb=>xv he fA r4 r5 w' hb)
 obtain ⟨ai,ci,rfl,-,-⟩:=hi
 obtain ⟨am,dk,rfl,-,-⟩:=hm
 obtain ⟨ae,dc,rfl,-,-⟩:=he
 have HS:=al (show is.length*16≤140737488355328∧ms.length*160≤140737488355328∧es.length*88≤140737488355328 from ⟨r1,r2,r4⟩)
 obtain ⟨V0,Lv⟩:∃V,w0.alloc (.cells #[.string pk,.slice ai is.length ci,.slice am ms.length dk,.slice ae es.length dc] 26)=V:=⟨_,rfl⟩
 have k0:=aJ w0 (.cells #[.string pk,.slice ai is.length ci,.slice am ms.length dk,.slice ae es.length dc] 26)
 have s0:=zJ w0 (.cells #[.string pk,.slice ai is.length ci,.slice am ms.length dk,.slice ae es.length dc] 26)
 have b0:Below w0.heap.size w0 (w0.alloc (.cells #[.string pk,.slice ai is.length ci,.slice am ms.length dk,.slice ae es.length dc] 26)):=(zE _ _).alloc (zD _) _
 rw[Lv] at k0 s0 b0
 obtain ⟨V,hV⟩:∃V',V0.alloc (.cells #[.string ⟨#[]⟩,.slice none 0 0,.slice none 0 0,.slice none 0 0] 26)=V':=⟨_,rfl⟩
 have k1:=aJ V0 (.cells #[.string ⟨#[]⟩,.slice none 0 0,.slice none 0 0,.slice none 0 0] 26)
 have s1:=zJ V0 (.cells #[.string ⟨#[]⟩,.slice none 0 0,.slice none 0 0,.slice none 0 0] 26)
 have b1:Below V0.heap.size V0 (V0.alloc (.cells #[.string ⟨#[]⟩,.slice none 0 0,.slice none 0 0,.slice none 0 0] 26)):=(zE _ _).alloc (zD _) _
 rw[hV] at k1 s1 b1
 have bG:Below w0.heap.size w0 V:=b0.trans (b1.mono b0.size)
 have dP:V.heap[w0.heap.size]?=some (.cells #[.string pk,.slice ai is.length ci,.slice am ms.length dk,.slice ae es.length dc] 26 (0,0)):=(b1.block _ (by omega)).trans k0
 have bR:V.heap[V0.heap.size]?=some (.cells #[.string ⟨#[]⟩,.slice none 0 0,.slice none 0 0,.slice none 0 0] 26 (0,0)):=k1
 have aT:Below W.heap.size W V:=hw.trans (bG.mono hw.size)
 have Wi:w0.heap.size<V0.heap.size∧V0.heap.size<V.heap.size:=by omega
 have dD:Hid (∀w':World,(Below w0.heap.size w0 w'∧w'.heap[w0.heap.size]?=some (.cells #[.string pk,.slice ai is.length ci,.slice am ms.length dk,.slice ae es.length dc] 26 (0,0)))→w'.cell? ⟨w0.heap.size,0,none⟩=some (.string pk)∧w'.cell? ⟨w0.heap.size,1,none⟩=some (.slice ai is.length ci)∧w'.cell? ⟨w0.heap.size,2,none⟩=some (.slice am ms.length dk)∧w'.cell? ⟨w0.heap.size,3,none⟩=some (.slice ae es.length dc)):=fun w' hw=>aP hw.2
 have HV:=al (And.intro bG (And.intro dP (And.intro bR (And.intro aT Wi))))
 have e0:=Lv
 have e1:=hV
 clear hw eo fA r1 r2 r3 r4 r5 k0 s0 b0 k1 s1 b1 bG dP bR aT Wi Lv hV
 go_enter Tryz.func7,Tryz.ntmps7
 go_wp2_with fail
 obtain ⟨bG,dP,bR,aT,Wi⟩:=ab HV
 refine wp_region_any (by kernel_rfl) (bL (z:=99) (T:=fun w'=>Below w0.heap.size w0 w'∧w'.heap[w0.heap.size]?=some (.cells #[.string pk,.slice ai is.length ci,.slice am ms.length dk,.slice ae es.length dc] 26 (0,0))) _ _ _ _ ?_)
 try (change cd _ _ _ _ _ _ _ _ _ (World.drew _))
 have aT:Below W.heap.size W V.drew:=below_drewN aT 1
 have bG:Below w0.heap.size w0 V.drew:=below_drewN bG 1
 have lk:Below V.heap.size V V.drew:=below_drewN (zE V.heap.size V) 1
 have dP:V.drew.heap[w0.heap.size]?=some (.cells #[.string pk,.slice ai is.length ci,.slice am ms.length dk,.slice ae es.length dc] 26 (0,0)):=dP
 have bR:V.drew.heap[V0.heap.size]?=some (.cells #[.string ⟨#[]⟩,.slice none 0 0,.slice none 0 0,.slice none 0 0] 26 (0,0)):=bR
 obtain ⟨wd,nD⟩:∃x,V.drew=x:=⟨_,rfl⟩
 rw[nD] at aT bG lk dP bR ⊢
 have hT:Below w0.heap.size w0 wd∧wd.heap[w0.heap.size]?=some (.cells #[.string pk,.slice ai is.length ci,.slice am ms.length dk,.slice ae es.length dc] 26 (0,0)):=⟨bG,dP⟩
 refine aw 0 (.pointer (some ⟨w0.heap.size,0,none⟩)) 3 rfl rfl (Or.inl ⟨by rfl,fun w' hw=>by obtain ⟨x0,x1,x2,x3⟩:=ab dD w' hw;go_simp⟩) hT ?_
 simp only[Act.put,zL,zM,zN]
 refine aw 1 (.string pk) 4 rfl rfl (Or.inl ⟨by rfl,fun w' hw=>by obtain ⟨x0,x1,x2,x3⟩:=ab dD w' hw;go_simp⟩) hT ?_
 simp only[Act.put,zL,zM,zN]
 refine aw 2 (.pointer (some ⟨w0.heap.size,1,none⟩)) 5 rfl rfl (Or.inl ⟨by rfl,fun w' hw=>by obtain ⟨x0,x1,x2,x3⟩:=ab dD w' hw;go_simp⟩) hT ?_
 simp only[Act.put,zL,zM,zN]
 refine aw 3 (.slice ai is.length ci) 6 rfl rfl (Or.inl ⟨by rfl,fun w' hw=>by obtain ⟨x0,x1,x2,x3⟩:=ab dD w' hw;go_simp⟩) hT ?_
 simp only[Act.put,zL,zM,zN]
 refine aw 5 (.pointer (some ⟨w0.heap.size,2,none⟩)) 8 rfl rfl (Or.inl ⟨by rfl,fun w' hw=>by obtain ⟨x0,x1,x2,x3⟩:=ab dD w' hw;go_simp⟩) hT ?_
 simp only[Act.put,zL,zM,zN]
 refine aw 6 (.slice am ms.length dk) 9 rfl rfl (Or.inl ⟨by rfl,fun w' hw=>by obtain ⟨x0,x1,x2,x3⟩:=ab dD w' hw;go_simp⟩) hT ?_
 simp only[Act.put,zL,zM,zN]
 refine aw 8 (.pointer (some ⟨w0.heap.size,3,none⟩)) 11 rfl rfl (Or.inl ⟨by rfl,fun w' hw=>by obtain ⟨x0,x1,x2,x3⟩:=ab dD w' hw;go_simp⟩) hT ?_
 simp only[Act.put,zL,zM,zN]
 refine aw 9 (.slice ae es.length dc) 12 rfl rfl (Or.inl ⟨by rfl,fun w' hw=>by obtain ⟨x0,x1,x2,x3⟩:=ab dD w' hw;go_simp⟩) hT ?_
 simp only[Act.put,zL,zM,zN]
 clear hT
 refine aF 4 (by kernel_rfl) rfl (fun K hK=>?_)
 refine aO 7 rfl rfl 16 (fun vs=>by kernel_rfl) #[.tmp 6] #[22] rfl #[.slice ai is.length ci] (by first|rfl|simp[Act.eval]) (ab HI wd aT) ?_
 rintro e' yX ⟨u1,rfl,dQ,aS⟩
 obtain ⟨Gu,Gt,rfl⟩:=bq dQ
 have dQ:=(cB dQ (by have:=(ab HS).1;omega)).mono (R':=fun g=>V.heap.size≤g) (fun g hg _=>⟨rfl,Nat.le_trans lk.size hg⟩)
 have lk:=lk.trans (aS.mono lk.size)
 have aT:=aT.trans (aS.mono aT.size)
 have bG:=bG.trans (aS.mono bG.size)
 have dP:=(aS.block _ (zA dP).1).trans dP
 have bR:=(aS.block _ (zA bR).1).trans bR
 refine ⟨_,rfl,hK _ _ ⟨fun _=>⟨bG,dP⟩,?_⟩⟩
 clear hK K aS
 simp only[Act.put,zL,zM,zN]
 refine aF 7 (by kernel_rfl) rfl (fun K hK=>?_)
 refine aO 10 rfl rfl 17 (fun vs=>by kernel_rfl) #[.tmp 9,.const (.int .i64 0)] #[23,3] rfl #[.slice am ms.length dk,.int .i64 0] (by first|rfl|simp[Act.eval]) (ab HM yX aT) ?_
 rintro e' Bn ⟨u2,cs2,rfl,gK,gD,aS⟩
 have dQ:=dQ.mono (aB aS)
 obtain ⟨Kx,Kw,rfl⟩:=bq gK
 have gK:=(cB gK (by have:=(ab HS).2.1;have:=pq (f:=200) (l:=ms);omega)).mono (R':=fun g=>V.heap.size≤g) (fun g hg _=>⟨rfl,Nat.le_trans lk.size hg⟩)
 have gD:=gD.mono (R':=fun g=>V.heap.size≤g) (fun g hg _=>⟨rfl,Nat.le_trans lk.size hg.1⟩)
 have lk:=lk.trans (aS.mono lk.size)
 have aT:=aT.trans (aS.mono aT.size)
 have bG:=bG.trans (aS.mono bG.size)
 have dP:=(aS.block _ (zA dP).1).trans dP
 have bR:=(aS.block _ (zA bR).1).trans bR
 refine ⟨_,rfl,hK _ _ ⟨fun _=>⟨bG,dP⟩,?_⟩⟩
 clear hK K aS
 simp only[Act.put,zL,zM,zN]
 refine aF 10 (by kernel_rfl) rfl (fun K hK=>?_)
 refine aO 13 rfl rfl 18 (fun vs=>by kernel_rfl) #[.tmp 12] #[24] rfl #[.slice ae es.length dc] (by first|rfl|simp[Act.eval]) (ab HE Bn aT) ?_
 rintro e' BF ⟨u3,cs3,rfl,lT,nF,aS⟩
 have dQ:=dQ.mono (aB aS)
 have gK:=gK.mono (aB aS)
 have gD:=gD.mono (aB aS)
 obtain ⟨PR,PN,rfl⟩:=bq lT
 have lT:=(cB lT (by have:=(ab HS).2.2;omega)).mono (R':=fun g=>V.heap.size≤g) (fun g hg _=>⟨rfl,Nat.le_trans lk.size hg⟩)
 have nF:=nF.mono (R':=fun g=>V.heap.size≤g) (fun g hg _=>⟨rfl,Nat.le_trans lk.size hg.1⟩)
 have lk:=lk.trans (aS.mono lk.size)
 have aT:=aT.trans (aS.mono aT.size)
 have bG:=bG.trans (aS.mono bG.size)
 have dP:=(aS.block _ (zA dP).1).trans dP
 have bR:=(aS.block _ (zA bR).1).trans bR
 refine ⟨_,rfl,hK _ _ ⟨fun _=>⟨bG,dP⟩,?_⟩⟩
 clear hK K aS
 simp only[Act.put,zL,zM,zN]
 have hT:Below w0.heap.size w0 BF∧BF.heap[w0.heap.size]?=some (.cells #[.string pk,.slice ai is.length ci,.slice am ms.length dk,.slice ae es.length dc] 26 (0,0)):=⟨bG,dP⟩
 refine aw 11 (.agg #[.string pk,.slice Gu is.length Gt,.slice Kx (fY 200 ms).length Kw,.slice PR es.length PN]) 14 rfl rfl (Or.inl ⟨by rfl,fun w' hw=>by go_simp⟩) hT ?_
 simp only[Act.put,zL,zM,zN]
 refine aF 12 (by kernel_rfl) rfl (fun K hK=>?_)
 obtain ⟨c0,c1,c2,c3⟩:=aP bR
 have z:∀j,BF.frozen? ⟨V0.heap.size,j,none⟩=false:=fun j=>by simp[World.frozen?,bR]
 have z0:=z 0
 have z1:=z 1
 have z2:=z 2
 have z3:=z 3
 obtain ⟨q0,g0⟩:=bh (j:=0) bR (.string pk)
 obtain ⟨q1,g1⟩:=bh (j:=1) q0 (.slice Gu is.length Gt)
 obtain ⟨q2,g2⟩:=bh (j:=2) q1 (.slice Kx (fY 200 ms).length Kw)
 obtain ⟨q3,g3⟩:=bh (j:=3) q2 (.slice PR es.length PN)
 have gg:=((g0.trans g1).trans g2).trans g3
 have st:gR (fun g=>V.heap.size≤g) (fun g=>w0.heap.size≤g) _ _:=(gr gg (fun g (hg:V.heap.size≤g) e=>by have:=zC e;omega)).trans (R'':=fun g=>w0.heap.size≤g) (fun g hg _=>⟨rfl,by omega⟩) gg.size
 have p1:=dQ.mono st
 have p2:=gK.mono st
 have p3:=lT.mono st
 have m2:=gD.mono st
 have m3:=nF.mono st
 have kh:=cn bG gg bG.size (fun k e=>by obtain rfl:=zC e;omega)
 have Zf:=(gg.block _ (zA dP).1 (by simp;omega)).trans dP
 go_simp
 refine hK _ _ ⟨fun _=>⟨kh,Zf⟩,?_⟩
 clear hK K
 refine a8 (by kernel_rfl) ?_
 have Q3:=al q3
 have P:=al (And.intro p1 (And.intro p2 (And.intro m2 (And.intro p3 (And.intro m3 kh)))))
 clear hT c0 c1 c2 c3 z z0 z1 z2 z3 q0 q1 q2 q3 g0 g1 g2 g3 gg st p1 p2 p3 m2 m3 kh Zf dQ gK lT gD nF dP bR aT bG lk dD HI HM HE HV
 go_wp2
 obtain ⟨p1,p2,m2,p3,m3,kh⟩:=ab P
 refine bodyPost_ret (results_cell_row rfl _ _ V0.heap.size 26 _ (0,0) _ rfl (ab Q3) Tryz.underlying26 rfl (by kernel_rfl)) rfl ?_
 exact ⟨_,_,_,_,_,_,rfl,⟨rfl,p1,p2,m2,p3,m3⟩,kh⟩
def gO:List UInt8→List (List UInt8)
 |[]=>[([])]
 |c::r=>if c=46 then []::gO r else match gO r with
  |[]=>[([c])]
  |p::ps=>(c::p)::ps
theorem Ed:∀(a:List UInt8),46 ∉ a→gO a=[a]
 |[],_=>rfl
 |c::a,h=>by
  simp only[List.mem_cons,not_or] at h
  unfold gO
  rw[if_neg (fun e=>h.1 e.symm),Ed a h.2]
theorem yG:∀(a b:List UInt8),46 ∉ a→gO (a++46::b)=a::gO b
 |[],b,_=>by
  rw[List.nil_append]
  unfold gO
  rw[if_pos rfl]
  cases b<;>rfl
 |c::a,b,h=>by
  simp only[List.mem_cons,not_or] at h
  rw[List.cons_append]
  unfold gO
  rw[if_neg (fun e=>h.1 e.symm),yG a b h.2]
  cases b<;>rfl
theorem tX:∀(k:Nat) (l:List UInt8),l.count 46=k→Lib.splitK [46] 0 k l=gO l
 |0,l,h=>by
  rw[Ed l (List.count_eq_zero.1 h)]
  rfl
 |k+1,l,h=>by
  have hm:46 ∈ l:=List.count_pos_iff.1 (by omega)
  unfold Lib.splitK
  rw[Lib.index_one]
  have iP:Lib.indexByte l 46≠-1:=fun e=>by
   obtain ⟨j,hj⟩:=List.getElem?_of_mem hm
   exact Lib.indexByte_none e j hj
  have h0:-1≤Lib.indexByte l 46:=by rw[←Lib.index_one];exact Lib.index_ge _ _
  obtain ⟨o,ho⟩:∃o:Nat,Lib.indexByte l 46=(o:Int):=⟨(Lib.indexByte l 46).toNat,by omega⟩
  rw[if_neg (by rw[beq_iff_eq];exact iP),ho,Int.toNat_natCast,Nat.add_zero]
  obtain ⟨h1,h2⟩:=Lib.indexByte_some ho
  have aM:=(zB h1).1
  have hl:l=l.take o++46::l.drop (o+1):=by
   have e:=List.getElem_cons_drop aM
   have e2:l[o]=46:=by
    rw[List.getElem?_eq_getElem aM] at h1
    exact zC h1
   rw[e2] at e
   rw[e,List.take_append_drop]
  have nJ:46 ∉ l.take o:=fun hx=>by
   obtain ⟨j,hj⟩:=List.getElem?_of_mem hx
   rw[List.getElem?_take] at hj
   split at hj
   ·rename_i hjo;exact h2 j hjo hj
   ·cases hj
  have hc:(l.drop (o+1)).count 46=k:=by
   have e:=congrArg (List.count 46) hl
   rw[List.count_append,List.count_cons_self,List.count_eq_zero.2 nJ,h] at e
   omega
  have hd:gO l=l.take o::gO (l.drop (o+1)):=by
   have e:=yG (l.take o) (l.drop (o+1)) nJ
   rwa [←hl] at e
  rw[hd]
  exact congrArg _ (tX k _ hc)
noncomputable def Gn (l:List UInt8):Bool:=bD ⟨l.toArray⟩
theorem Ao (s:ByteArray):(pieces s).all bD=(gO s.data.toList).all Gn:=by
 have h:=Lib.splitB_data vj 0 (Lib.countB s vj) s
 have h2:Lib.splitK [46] 0 (Lib.countB s vj) s.data.toList=gO s.data.toList:=tX _ _ (by rw[←Lib.count_one];rfl)
 have h3:(pieces s).map (·.data.toList)=gO s.data.toList:=h.trans h2
 rw[←h3,List.all_map]
 rfl
noncomputable def yY (s:ByteArray):Nat→Nat→Nat→Bool
 |0,_,_=>true
 |n+1,fr,i=>if i=s.size∨aD s i=46 then bD (s.extract fr i)&&yY s n (i+1) (i+1) else yY s n fr (i+1)
theorem ik {s:ByteArray}{i:Nat} (h:i<s.size):aD s i=46↔s.data.toList[i]?=some 46:=by
 have hl:i<s.data.toList.length:=h
 unfold aD
 rw[dif_pos h,List.getElem?_eq_getElem hl]
 have e:s[i]=s.data.toList[i]:=rfl
 rw[e]
 constructor
 ·intro h;exact congrArg some (UInt8.toNat_inj.1 (h.trans rfl))
 ·intro h;rw[zC h];rfl
theorem Cd (s:ByteArray):∀(n fr i:Nat),n+i=s.size+1→fr≤i→yY s n fr i=match gO (s.data.toList.drop i) with
  |[]=>true
  |p::ps=>if n=0 then true else Gn ((s.data.toList.take i).drop fr++p)&&ps.all Gn
 |0,fr,i,hn,_=>by
  unfold yY
  split
  ·rfl
  ·rfl
 |n+1,fr,i,hn,hf=>by
  have hx:s.extract fr i=⟨((s.data.toList.take i).drop fr).toArray⟩:=by
   apply ByteArray.ext
   apply Array.toList_inj.1
   rw[Lib.extract_data]
   simp[List.drop_take]
  unfold yY
  have ZV:∀(l:List UInt8),gO l≠[]:=fun l=>by
   cases l with
   |nil=>simp[gO]
   |cons c r=>unfold gO;split<;>(try split)<;>simp
  by_cases he:i=s.size
  ·rw[if_pos (.inl he),List.drop_eq_nil_of_le (by rw[he];exact zD _)]
   obtain rfl:n=0:=by omega
   simp only[yY,gO,List.append_nil,List.all_nil,Bool.and_true]
   rw[if_neg (by omega),hx]
   rfl
  ·have aM:i<s.size:=by omega
   have fR:i<s.data.toList.length:=aM
   have P9:=List.drop_eq_getElem_cons fR
   by_cases we:aD s i=46
   ·rw[if_pos (.inr we)]
    have hc:s.data.toList[i]=46:=by
     have:=(ik aM).1 we
     rw[List.getElem?_eq_getElem fR] at this
     exact zC this
    rw[P9,hc,Cd s n (i+1) (i+1) (by omega) (zD _)]
    have e:gO (46::s.data.toList.drop (i+1))=[]::gO (s.data.toList.drop (i+1)):=yG [] _ (by simp)
    rw[e,hx]
    simp only[List.append_nil]
    rw[if_neg (by omega)]
    cases hd:gO (s.data.toList.drop (i+1)) with
    |nil=>exact absurd hd (ZV _)
    |cons p ps =>
     simp only[List.all_cons]
     rw[if_neg (by omega),show (s.data.toList.take (i+1)).drop (i+1)=[] from List.drop_eq_nil_of_le (by rw[List.length_take];omega),List.nil_append]
     rfl
   ·rw[if_neg (by rintro (h|h);exact he h;exact we h)]
    have hc:¬s.data.toList[i]=46:=fun e=>we ((ik aM).2 (by rw[List.getElem?_eq_getElem fR,e]))
    rw[P9,Cd s n fr (i+1) (by omega) (by omega)]
    cases hd:gO (s.data.toList.drop (i+1)) with
    |nil=>exact absurd hd (ZV _)
    |cons p ps =>
     have e:gO (s.data.toList[i]::s.data.toList.drop (i+1))=(s.data.toList[i]::p)::ps:=by
      rw[gO,if_neg hc,hd]
     rw[e]
     simp only
     rw[if_neg (by omega),if_neg (by omega),List.take_add_one,List.getElem?_eq_getElem fR,List.drop_append_of_le_length (by rw[List.length_take];omega),List.append_assoc]
     rfl
theorem Ax {s:ByteArray} (h:s.size≤255):dA s=yY s (s.size+1) 0 0:=by
 unfold dA
 rw[decide_eq_true h,Bool.true_and,Ao,Cd s _ 0 0 rfl (zD _),List.drop_zero]
 cases hd:gO s.data.toList with
 |nil=>rfl
 |cons p ps=>simp
theorem Cg {s:ByteArray} (h:¬s.size≤255):dA s=false:=by
 unfold dA
 rw[decide_eq_false h]
 rfl
theorem EZ {s:ByteArray} (h:s.size=0):dA s=false:=by
 rw[Ax (by omega),h]
 show yY s (0+1) 0 0=false
 unfold yY
 rw[if_pos (.inl h.symm)]
 have:bD (s.extract 0 0)=false:=by
  cases hw:bD (s.extract 0 0) with
  |false=>rfl
  |true =>
   have:=(@of_decide_eq_true _ (Classical.propDecidable _) hw:mI _).1.1
   simp at this
 rw[this]
 rfl
theorem lE (W:World) (s:ByteArray):Calls Tryz.prog 50 #[.string s] W fun e w=>e=.returned (.bool (dA s))∧w=W:=by
 by_cases h0:s.size=0
 ·rw[EZ h0]
  have e0:((s.size:Int)==0)=true:=beq_iff_eq.2 (by omega)
  clear h0
  go_enter Tryz.func50,Tryz.ntmps50
  go_wp2
  go_ret
  exact ⟨rfl,rfl⟩
 ·have e0:((s.size:Int)==0)=false:=beq_eq_false_iff_ne.2 (by omega)
  by_cases h1:s.size≤255
  ·have e1:decide ((255:Int)<(s.size:Int))=false:=by simp;omega
   rw[Ax h1]
   obtain ⟨R,hR⟩:∃R,yY s (s.size+1) 0 0=R:=⟨_,rfl⟩
   rw[hR]
   have HR:=al hR
   clear hR h0
   go_enter Tryz.func50,Tryz.ntmps50
   go_wp2
   clear e0 e1
   go_loopg [3,4] (s.size+1) (fun gk v3 v4 wr=>∃(fr i:Nat),v3=.int .i64 (fr:Int)∧v4=.int .i64 (i:Int)∧gk=s.size+1-i∧i≤s.size+1∧fr≤i∧wr=W∧Hid (yY s (s.size+1-i) fr i=R))
   case atStart=>exact ⟨0,0,rfl,rfl,rfl,by omega,by omega,rfl,ab HR⟩
   case round =>
    obtain ⟨fr,i,rfl,rfl,aW,hi,TV,rfl,HN⟩:=hrel
    have bz:=al aW
    clear aW HR
    by_cases hle:i≤s.size
    ·have kJ:Hid (yY s (s.size-i+1) fr i=R):=by
      have:=ab HN
      rwa [show s.size+1-i=s.size-i+1 by omega] at this
     clear HN
     have d0:decide ((i:Int)≤(s.size:Int))=true:=by simp;omega
     by_cases he:i=s.size
     ·have e1:((i:Int)==(s.size:Int))=true:=beq_iff_eq.2 (by omega)
      have He:=al he
      have lX:Hid ((bD (s.extract fr i)&&yY s (s.size-i) (i+1) (i+1))=R):=by
       have h:=ab kJ
       unfold yY at h
       rwa [if_pos (.inl he)] at h
      clear he kJ
      go_wp2_with fail
      refine (gu wr (s.extract fr i)).mono ?_
      rintro e w ⟨rfl,rfl⟩
      obtain ⟨q,hq⟩:∃q,bD (s.extract fr i)=q:=⟨_,rfl⟩
      rw[hq] at lX
      rw[hq]
      clear hq
      cases q with
      |false =>
       go_wp2
       go_ret
       exact ⟨by rw[←ab lX];rfl,rfl⟩
      |true =>
       go_wp2
       go_roundg (s.size+1-(i+1))
       case measure=>have:=ab bz;omega
       case rel=>exact ⟨i+1,i+1,by go_num,by go_num,rfl,by omega,by omega,rfl,by have:=ab lX;rw[Bool.true_and] at this;rwa [show s.size+1-(i+1)=s.size-i by omega]⟩
     ·have e1:((i:Int)==(s.size:Int))=false:=beq_eq_false_iff_ne.2 (by omega)
      have aM:i<s.size:=by omega
      obtain ⟨x,hx,c8,gx⟩:=cj s i aM
      have dP:aD s i=x:=by unfold aD;rw[dif_pos aM];exact gx
      by_cases we:x=46
      ·have e2:((x:Int)==46)=true:=beq_iff_eq.2 (by omega)
       have lX:Hid ((bD (s.extract fr i)&&yY s (s.size-i) (i+1) (i+1))=R):=by
        have h:=ab kJ
        unfold yY at h
        rwa [if_pos (.inr (dP.trans we))] at h
       clear he we hx dP kJ
       go_wp2_with fail
       refine (gu wr (s.extract fr i)).mono ?_
       rintro e w ⟨rfl,rfl⟩
       obtain ⟨q,hq⟩:∃q,bD (s.extract fr i)=q:=⟨_,rfl⟩
       rw[hq] at lX
       rw[hq]
       clear hq
       cases q with
       |false =>
        go_wp2
        go_ret
        exact ⟨by rw[←ab lX];rfl,rfl⟩
       |true =>
        go_wp2
        go_roundg (s.size+1-(i+1))
        case measure=>have:=ab bz;omega
        case rel=>exact ⟨i+1,i+1,by go_num,by go_num,rfl,by omega,by omega,rfl,by have:=ab lX;rw[Bool.true_and] at this;rwa [show s.size+1-(i+1)=s.size-i by omega]⟩
      ·have e2:((x:Int)==46)=false:=beq_eq_false_iff_ne.2 (by omega)
       have lX:Hid (yY s (s.size-i) fr (i+1)=R):=by
        have h:=ab kJ
        unfold yY at h
        rwa [if_neg (by rintro (a|a);exact he a;exact we (dP.symm.trans a))] at h
       clear he we hx dP kJ
       go_wp2
       go_roundg (s.size+1-(i+1))
       case measure=>have:=ab bz;omega
       case rel=>exact ⟨fr,i+1,rfl,by go_num,rfl,by omega,by omega,rfl,by have:=ab lX;rwa [show s.size+1-(i+1)=s.size-i by omega]⟩
    ·have d0:decide (i≤s.size)=false:=decide_eq_false hle
     have d1:s.size<i:=by omega
     have hz:s.size+1-i=0:=by omega
     have lX:Hid (R=true):=by
      have:=ab HN
      rw[hz] at this
      exact this.symm
     clear hz HN
     go_wp2
     go_ret
     exact ⟨by rw[ab lX];rfl,rfl⟩
  ·rw[Cg h1]
   have e1:decide ((255:Int)<(s.size:Int))=true:=by simp;omega
   clear h0 h1
   go_enter Tryz.func50,Tryz.ntmps50
   go_wp2
   go_ret
   exact ⟨rfl,rfl⟩
theorem wO (W:World) (s:ByteArray):Calls Tryz.prog 150 #[.string s] W fun e w=>e=.returned (.bool (gZ s))∧w=W:=by
 unfold gZ
 by_cases h1:s.size≤255
 ·have e1:decide ((255:Int)<(s.size:Int))=false:=by simp;omega
  rw[decide_eq_true h1,Bool.true_and]
  by_cases h0:0<s.size
  ·have e0:decide ((0:Int)<(s.size:Int))=true:=by simp;omega
   obtain ⟨x,hx,c8,gx⟩:=cj s 0 h0
   have dP:aD s 0=x:=by unfold aD;rw[dif_pos h0];exact gx
   by_cases we:x=46
   ·have e2:((x:Int)==46)=true:=beq_iff_eq.2 (by omega)
    have ht:kq s=s.extract 1 s.size:=by
     have h2:=(ik h0).1 (dP.trans we)
     apply ByteArray.ext
     apply Array.toList_inj.1
     rw[Lib.extract_data]
     show Lib.trimPrefix s.data.toList [46]=_
     unfold Lib.trimPrefix
     cases hl:s.data.toList with
     |nil=>rw[hl] at h2;cases h2
     |cons a r =>
      rw[hl] at h2
      obtain rfl:a=46:=zC h2
      rw[if_pos (by simp[Lib.hasPrefix])]
      have:s.size=r.length+1:=by
       have:=congrArg List.length hl
       simpa using this
      simp[this]
    rw[ht]
    clear we hx dP ht
    go_enter Tryz.func150,Tryz.ntmps150
    go_wp2_with fail
    refine (lE W (s.extract 1 s.size)).mono ?_
    rintro e w ⟨rfl,rfl⟩
    go_wp2
    go_ret
    exact ⟨rfl,rfl⟩
   ·have e2:((x:Int)==46)=false:=beq_eq_false_iff_ne.2 (by omega)
    have ht:kq s=s:=by
     apply ByteArray.ext
     apply Array.toList_inj.1
     show Lib.trimPrefix s.data.toList [46]=_
     unfold Lib.trimPrefix
     rw[if_neg]
     intro hp
     apply we
     rw[←dP,ik h0]
     cases hl:s.data.toList with
     |nil=>rw[hl] at hp;simp[Lib.hasPrefix] at hp
     |cons a r =>
      rw[hl] at hp
      have:46=a:=by simpa[Lib.hasPrefix] using hp
      rw[←this]
      rfl
    rw[ht]
    clear we hx dP ht
    go_enter Tryz.func150,Tryz.ntmps150
    go_wp2_with fail
    refine (lE W s).mono ?_
    rintro e w ⟨rfl,rfl⟩
    go_wp2
    go_ret
    exact ⟨rfl,rfl⟩
  ·have e0:decide ((0:Int)<(s.size:Int))=false:=decide_eq_false (by omega)
   have ht:kq s=s:=by
    apply ByteArray.ext
    apply Array.toList_inj.1
    show Lib.trimPrefix s.data.toList [46]=_
    unfold Lib.trimPrefix
    have hl:s.data.toList=[]:=List.eq_nil_of_length_eq_zero (show s.size=0 by omega)
    rw[hl]
    simp
   rw[ht]
   clear ht
   go_enter Tryz.func150,Tryz.ntmps150
   go_wp2_with fail
   refine (lE W s).mono ?_
   rintro e w ⟨rfl,rfl⟩
   go_wp2
   go_ret
   exact ⟨rfl,rfl⟩
 ·have e1:decide ((255:Int)<(s.size:Int))=true:=by simp;omega
  rw[decide_eq_false h1,Bool.false_and]
  go_enter Tryz.func150,Tryz.ntmps150
  go_wp2
  go_ret
  exact ⟨rfl,rfl⟩
theorem A0 {s:ByteArray}{i:Nat} (hi:i<s.size) (we:aD s i=46) (nJ:∀j,j<i→aD s j≠46):firstIdx s 46=(i:Int):=by
 rw[Lib.firstIdx_eq]
 have h0:-1≤Lib.indexByte s.data.toList 46:=by rw[←Lib.index_one];exact Lib.index_ge _ _
 have pF:=(ik hi).1 we
 by_cases hn:Lib.indexByte s.data.toList 46=-1
 ·exact absurd pF (Lib.indexByte_none hn i)
 ·obtain ⟨o,ho⟩:∃o:Nat,Lib.indexByte s.data.toList 46=(o:Int):=⟨(Lib.indexByte s.data.toList 46).toNat,by omega⟩
  obtain ⟨h1,h2⟩:=Lib.indexByte_some ho
  have Ga:o<s.size:=(zB h1).1
  have:o=i:=by
   rcases Nat.lt_trichotomy o i with h|h|h
   ·exact absurd ((ik Ga).2 h1) (nJ o h)
   ·exact h
   ·exact absurd pF (h2 i h)
  rw[ho,this]
theorem AZ {s:ByteArray} (nJ:∀j,j<s.size→aD s j≠46):firstIdx s 46=-1:=by
 rw[Lib.firstIdx_eq]
 have h0:-1≤Lib.indexByte s.data.toList 46:=by rw[←Lib.index_one];exact Lib.index_ge _ _
 by_cases hn:Lib.indexByte s.data.toList 46=-1
 ·exact hn
 ·obtain ⟨o,ho⟩:∃o:Nat,Lib.indexByte s.data.toList 46=(o:Int):=⟨(Lib.indexByte s.data.toList 46).toNat,by omega⟩
  obtain ⟨h1,-⟩:=Lib.indexByte_some ho
  have Ga:o<s.size:=(zB h1).1
  exact absurd ((ik Ga).2 h1) (nJ o Ga)
theorem B3 (W:World) (s:ByteArray) (hs:s.size≤281474976710656):Calls Tryz.prog 182 #[.string s] W fun e w=>e=.returned (.string (fp s))∧w=W:=by
 obtain ⟨R,hR⟩:∃R,fp s=R:=⟨_,rfl⟩
 rw[hR]
 have HR:=al hR
 clear hR
 go_enter Tryz.func182,Tryz.ntmps182
 go_wp2
 go_loopg [3] s.size (fun gk v3 wr=>∃(i:Nat),v3=.int .i64 (i:Int)∧gk=s.size-i∧i≤s.size∧wr=W∧Hid (∀j,j<i→aD s j≠46))
 case atStart=>exact ⟨0,rfl,rfl,by omega,rfl,fun j hj=>by omega⟩
 case round =>
  obtain ⟨i,rfl,aW,hi,rfl,HN⟩:=hrel
  have bz:=al aW
  clear aW
  by_cases aM:i<s.size
  ·obtain ⟨x,hx,c8,gx⟩:=cj s i aM
   have dP:aD s i=x:=by unfold aD;rw[dif_pos aM];exact gx
   by_cases we:x=46
   ·have e2:((x:Int)==46)=true:=beq_iff_eq.2 (by omega)
    have HF:Hid (R=s.extract 0 i):=by
     show R=_
     rw[←ab HR]
     unfold fp
     rw[A0 aM (dP.trans we) (ab HN),if_pos (by omega),Int.toNat_natCast]
    clear we hx dP HN HR
    go_wp2
    go_ret
    exact ⟨by rw[ab HF];rfl,rfl⟩
   ·have e2:((x:Int)==46)=false:=beq_eq_false_iff_ne.2 (by omega)
    have JU:Hid (∀j,j<i+1→aD s j≠46):=fun j hj=>by
     by_cases N6:j=i
     ·rw[N6,dP];exact we
     ·exact ab HN j (by omega)
    clear we hx dP HN
    go_wp2
    go_roundg (s.size-(i+1))
    case measure=>have:=ab bz;omega
    case rel=>exact ⟨i+1,by go_num,rfl,by omega,rfl,JU⟩
  ·have HF:Hid (R=s):=by
    show R=_
    rw[←ab HR]
    unfold fp
    obtain rfl:i=s.size:=by omega
    rw[AZ (ab HN),if_neg (by omega)]
   have d1:s.size≤i:=by omega
   clear HN HR
   go_wp2
   go_ret
   exact ⟨by rw[ab HF];rfl,rfl⟩
def Bu (l s:ByteArray):Nat→Nat→Nat→Bool
 |0,_,_=>false
 |n+1,fr,i=>if aD l i=32 then ((l.extract fr i).toList==s.toList) ||Bu l s n (i+1) (i+1) else Bu l s n fr (i+1)
def pL (l:ByteArray):Nat→Nat→Nat→List ByteArray
 |0,_,_=>[]
 |n+1,fr,i=>if aD l i=32 then l.extract fr i::pL l n (i+1) (i+1) else pL l n fr (i+1)
theorem yl (l s:ByteArray):∀n fr i,Bu l s n fr i=sT s (pL l n fr i)
 |0,_,_=>rfl
 |n+1,fr,i=>by
  unfold Bu pL
  split
  ·rw[yl l s n]
   unfold sT
   rw[List.any_cons]
   congr 1
   exact BEq.comm
  ·exact yl l s n _ _
theorem DD (W:World) (l s:ByteArray) (hs:l.size≤281474976710656):Calls Tryz.prog 183 #[.string l,.string s] W fun e w=>e=.returned (.bool (Bu l s l.size 0 0))∧w=W:=by
 obtain ⟨R,hR⟩:∃R,Bu l s l.size 0 0=R:=⟨_,rfl⟩
 rw[hR]
 have HR:=al hR
 clear hR
 go_enter Tryz.func183,Tryz.ntmps183
 go_wp2
 go_loopg [5,6] l.size (fun gk v5 v6 wr=>∃(fr i:Nat),v5=.int .i64 (fr:Int)∧v6=.int .i64 (i:Int)∧gk=l.size-i∧i≤l.size∧fr≤i∧wr=W∧Hid (Bu l s (l.size-i) fr i=R))
 case atStart=>exact ⟨0,0,rfl,rfl,rfl,by omega,by omega,rfl,ab HR⟩
 case round =>
  obtain ⟨fr,i,rfl,rfl,aW,hi,TV,rfl,HN⟩:=hrel
  have bz:=al aW
  clear aW HR
  by_cases aM:i<l.size
  ·obtain ⟨x,hx,c8,gx⟩:=cj l i aM
   have dP:aD l i=x:=by unfold aD;rw[dif_pos aM];exact gx
   have kJ:Hid (Bu l s (l.size-(i+1)+1) fr i=R):=by
    have:=ab HN
    rwa [show l.size-i=l.size-(i+1)+1 by omega] at this
   by_cases T4:x=32
   ·have e2:((x:Int)==32)=true:=beq_iff_eq.2 (by omega)
    obtain ⟨q,hq⟩:∃q,((l.extract fr i).toList==s.toList)=q:=⟨_,rfl⟩
    have lX:Hid ((q ||Bu l s (l.size-(i+1)) (i+1) (i+1))=R):=by
     have h:=ab kJ
     unfold Bu at h
     rwa [if_pos (dP.trans T4),hq] at h
    clear T4 hx dP HN kJ
    cases q with
    |true =>
     go_wp2
     go_ret
     exact ⟨by rw[←ab lX];rfl,rfl⟩
    |false =>
     go_wp2
     go_roundg (l.size-(i+1))
     case measure=>have:=ab bz;omega
     case rel=>exact ⟨i+1,i+1,by go_num,by go_num,rfl,by omega,by omega,rfl,by have:=ab lX;rwa [Bool.false_or] at this⟩
   ·have e2:((x:Int)==32)=false:=beq_eq_false_iff_ne.2 (by omega)
    have lX:Hid (Bu l s (l.size-(i+1)) fr (i+1)=R):=by
     have h:=ab kJ
     unfold Bu at h
     rwa [if_neg (fun e=>T4 (dP.symm.trans e))] at h
    clear T4 hx dP HN kJ
    go_wp2
    go_roundg (l.size-(i+1))
    case measure=>have:=ab bz;omega
    case rel=>exact ⟨fr,i+1,rfl,by go_num,rfl,by omega,by omega,rfl,lX⟩
  ·have hz:l.size-i=0:=by omega
   have lX:Hid (R=false):=by
    have:=ab HN
    rw[hz] at this
    exact this.symm
   have d1:l.size≤i:=by omega
   clear hz HN
   go_wp2
   go_ret
   exact ⟨by rw[ab lX];rfl,rfl⟩
end Go.Proofs.YtichhjfjcinjgaaGreatDoor
