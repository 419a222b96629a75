import Derived.Test.YtichhjfjcinjgaaGreatDoorYBe
set_option maxHeartbeats 4000000
set_option maxRecDepth 100000
namespace Go.Proofs.YtichhjfjcinjgaaGreatDoor
open Go.RowKit
attribute [local go_sem ↓] Go.wp_at_zero Go.wp_at_succ
def AG (F:Fl):Fl:=⟨F.jL,F.cV,gK 200 F.ms,F.es⟩
structure Lu (F:Fl):Prop where
 i:F.cV.length*16≤140737488355328
 m:F.ms.length*160≤140737488355328
 ms:∀m ∈ F.ms,DS 200 m
 e:F.es.length*88≤140737488355328
 es:∀e ∈ F.es,JG e
structure Js (R:Nat→Prop) (w:World) (v:Value) (F:Fl) (vi vm ve:Value) (cm ce:List Value):Prop where
 is:v=.agg #[.string F.jL,vi,vm,ve]
 hi:gO R w 9 1 vi F.cV.length (bZ F.cV)
 hm:gO R w 46 7 vm F.ms.length cm
 et:pf R w cm F.ms
 he:gO R w 67 4 ve F.es.length ce
 fv:pn R w ce F.es
theorem Js.mono {R R':Nat→Prop}{w w':World}{v vi vm ve:Value}{F:Fl}{cm ce:List Value} (h:Js R w v F vi vm ve cm ce) (hs:gM R R' w w'):Js R' w' v F vi vm ve cm ce:=⟨h.is,h.hi.mono hs,h.hm.mono hs,h.et.mono hs,h.he.mono hs,h.fv.mono hs⟩
theorem Js.yS {R:Nat→Prop}{w:World}{v vi vm ve:Value}{F:Fl}{cm ce:List Value} (h:Js R w v F vi vm ve cm ce):yH w v F vi vm ve cm ce:=⟨h.is,h.hi.rl,h.hm.rl,h.et.yS,h.he.rl,h.fv.yS⟩
def TwP (w0:World) (F:Fl) (e:Ending) (w:World):Prop:=∃u ui um ue dh da,e=.returned u∧Js (fun g=>w0.heap.size≤g) w u (AG F) ui um ue dh da∧Below w0.heap.size w0 w
theorem nV {W:World}{v vi vm ve:Value}{F:Fl}{cm ce:List Value} (qD:yH W v F vi vm ve cm ce) (hr:Lu F) (w0:World) (hw:Below W.heap.size W w0) :
  Calls Tryz.prog 7 #[v] w0 (TwP w0 F):=by
 obtain ⟨pk,is,ms,es⟩:=F
 obtain ⟨rfl,hi,hm,et,he,fv⟩:=qD
 obtain ⟨r1,r2,r3,r4,r5⟩:=hr
 simp only at hi hm et he fv r1 r2 r3 r4 r5 ⊢
 have HI:=al (fun w' hb=>mv hi r1 w' hb)
 have HM:=al (fun w' hb=>ox 200 (zD _) W vm ms cm hm et r2 r3 w' hb)
 rw[show (200:Int)-((200:Nat):Int)=0 from rfl] at HM
 have HE:=al (fun w' hb=>wQ he fv r4 r5 w' hb)
 obtain ⟨ai,ci,rfl,-,-⟩:=hi
 obtain ⟨am,dh,rfl,-,-⟩:=hm
 obtain ⟨ae,da,rfl,-,-⟩:=he
 have HS:=al (show is.length*16≤140737488355328∧ms.length*160≤140737488355328∧es.length*88≤140737488355328 from ⟨r1,r2,r4⟩)
 obtain ⟨V0,K5⟩:∃V,w0.alloc (.cells #[.string pk,.slice ai is.length ci,.slice am ms.length dh,.slice ae es.length da] 26)=V:=⟨_,rfl⟩
 have k0:=aK w0 (.cells #[.string pk,.slice ai is.length ci,.slice am ms.length dh,.slice ae es.length da] 26)
 have s0:=zJ w0 (.cells #[.string pk,.slice ai is.length ci,.slice am ms.length dh,.slice ae es.length da] 26)
 have b0:Below w0.heap.size w0 (w0.alloc (.cells #[.string pk,.slice ai is.length ci,.slice am ms.length dh,.slice ae es.length da] 26)):=(zE _ _).alloc (zD _) _
 rw[K5] at k0 s0 b0
 obtain ⟨V,hV⟩:∃V',V0.alloc (.cells #[.string ⟨#[]⟩,.slice none 0 0,.slice none 0 0,.slice none 0 0] 26)=V':=⟨_,rfl⟩
 have k1:=aK V0 (.cells #[.string ⟨#[]⟩,.slice none 0 0,.slice none 0 0,.slice none 0 0] 26)
 have s1:=zJ V0 (.cells #[.string ⟨#[]⟩,.slice none 0 0,.slice none 0 0,.slice none 0 0] 26)
 have b1:Below V0.heap.size V0 (V0.alloc (.cells #[.string ⟨#[]⟩,.slice none 0 0,.slice none 0 0,.slice none 0 0] 26)):=(zE _ _).alloc (zD _) _
 rw[hV] at k1 s1 b1
 have bG:Below w0.heap.size w0 V:=b0.trans (b1.mono b0.size)
 have dO:V.heap[w0.heap.size]?=some (.cells #[.string pk,.slice ai is.length ci,.slice am ms.length dh,.slice ae es.length da] 26 (0,0)):=(b1.block _ (by omega)).trans k0
 have bQ:V.heap[V0.heap.size]?=some (.cells #[.string ⟨#[]⟩,.slice none 0 0,.slice none 0 0,.slice none 0 0] 26 (0,0)):=k1
 have aS:Below W.heap.size W V:=hw.trans (bG.mono hw.size)
 have VM:w0.heap.size<V0.heap.size∧V0.heap.size<V.heap.size:=by omega
 have dB:Hid (∀w':World,(Below w0.heap.size w0 w'∧w'.heap[w0.heap.size]?=some (.cells #[.string pk,.slice ai is.length ci,.slice am ms.length dh,.slice ae es.length da] 26 (0,0)))→w'.cell? ⟨w0.heap.size,0,none⟩=some (.string pk)∧w'.cell? ⟨w0.heap.size,1,none⟩=some (.slice ai is.length ci)∧w'.cell? ⟨w0.heap.size,2,none⟩=some (.slice am ms.length dh)∧w'.cell? ⟨w0.heap.size,3,none⟩=some (.slice ae es.length da)):=fun w' hw=>a8 hw.2
 have HV:=al (And.intro bG (And.intro dO (And.intro bQ (And.intro aS VM))))
 have e0:=K5
 have e1:=hV
 clear hw et fv r1 r2 r3 r4 r5 k0 s0 b0 k1 s1 b1 bG dO bQ aS VM K5 hV
 go_enter Tryz.func7,Tryz.ntmps7
 go_wp2_with fail
 obtain ⟨bG,dO,bQ,aS,VM⟩:=ab HV
 refine wp_region_any (by kernel_rfl) (bK (z:=99) (T:=fun w'=>Below w0.heap.size w0 w'∧w'.heap[w0.heap.size]?=some (.cells #[.string pk,.slice ai is.length ci,.slice am ms.length dh,.slice ae es.length da] 26 (0,0))) _ _ _ _ ?_)
 try (change cc _ _ _ _ _ _ _ _ _ (World.drew _))
 have aS:Below W.heap.size W V.drew:=below_drewN aS 1
 have bG:Below w0.heap.size w0 V.drew:=below_drewN bG 1
 have kR:Below V.heap.size V V.drew:=below_drewN (zE V.heap.size V) 1
 have dO:V.drew.heap[w0.heap.size]?=some (.cells #[.string pk,.slice ai is.length ci,.slice am ms.length dh,.slice ae es.length da] 26 (0,0)):=dO
 have bQ:V.drew.heap[V0.heap.size]?=some (.cells #[.string ⟨#[]⟩,.slice none 0 0,.slice none 0 0,.slice none 0 0] 26 (0,0)):=bQ
 obtain ⟨wd,mY⟩:∃x,V.drew=x:=⟨_,rfl⟩
 rw[mY] at aS bG kR dO bQ ⊢
 have hT:Below w0.heap.size w0 wd∧wd.heap[w0.heap.size]?=some (.cells #[.string pk,.slice ai is.length ci,.slice am ms.length dh,.slice ae es.length da] 26 (0,0)):=⟨bG,dO⟩
 refine aw 0 (.pointer (some ⟨w0.heap.size,0,none⟩)) 3 rfl rfl (Or.inl ⟨by rfl,fun w' hw=>by obtain ⟨x0,x1,x2,x3⟩:=ab dB w' hw;go_simp⟩) hT ?_
 simp only[Act.put,zL,zM,zN]
 refine aw 1 (.string pk) 4 rfl rfl (Or.inl ⟨by rfl,fun w' hw=>by obtain ⟨x0,x1,x2,x3⟩:=ab dB w' hw;go_simp⟩) hT ?_
 simp only[Act.put,zL,zM,zN]
 refine aw 2 (.pointer (some ⟨w0.heap.size,1,none⟩)) 5 rfl rfl (Or.inl ⟨by rfl,fun w' hw=>by obtain ⟨x0,x1,x2,x3⟩:=ab dB w' hw;go_simp⟩) hT ?_
 simp only[Act.put,zL,zM,zN]
 refine aw 3 (.slice ai is.length ci) 6 rfl rfl (Or.inl ⟨by rfl,fun w' hw=>by obtain ⟨x0,x1,x2,x3⟩:=ab dB w' hw;go_simp⟩) hT ?_
 simp only[Act.put,zL,zM,zN]
 refine aw 5 (.pointer (some ⟨w0.heap.size,2,none⟩)) 8 rfl rfl (Or.inl ⟨by rfl,fun w' hw=>by obtain ⟨x0,x1,x2,x3⟩:=ab dB w' hw;go_simp⟩) hT ?_
 simp only[Act.put,zL,zM,zN]
 refine aw 6 (.slice am ms.length dh) 9 rfl rfl (Or.inl ⟨by rfl,fun w' hw=>by obtain ⟨x0,x1,x2,x3⟩:=ab dB w' hw;go_simp⟩) hT ?_
 simp only[Act.put,zL,zM,zN]
 refine aw 8 (.pointer (some ⟨w0.heap.size,3,none⟩)) 11 rfl rfl (Or.inl ⟨by rfl,fun w' hw=>by obtain ⟨x0,x1,x2,x3⟩:=ab dB w' hw;go_simp⟩) hT ?_
 simp only[Act.put,zL,zM,zN]
 refine aw 9 (.slice ae es.length da) 12 rfl rfl (Or.inl ⟨by rfl,fun w' hw=>by obtain ⟨x0,x1,x2,x3⟩:=ab dB w' hw;go_simp⟩) hT ?_
 simp only[Act.put,zL,zM,zN]
 clear hT
 refine aF 4 (by kernel_rfl) rfl (fun K hK=>?_)
 refine aO 7 rfl rfl 16 (fun vs=>by kernel_rfl) #[.tmp 6] #[22] rfl #[.slice ai is.length ci] (by first|rfl|simp[Act.eval]) (ab HI wd aS) ?_
 rintro e' yu ⟨u1,rfl,dP,aR⟩
 obtain ⟨FY,FX,rfl⟩:=bq dP
 have dP:=(cz dP (by have:=(ab HS).1;omega)).mono (R':=fun g=>V.heap.size≤g) (fun g hg _=>⟨rfl,Nat.le_trans kR.size hg⟩)
 have kR:=kR.trans (aR.mono kR.size)
 have aS:=aS.trans (aR.mono aS.size)
 have bG:=bG.trans (aR.mono bG.size)
 have dO:=(aR.block _ (zA dO).1).trans dO
 have bQ:=(aR.block _ (zA bQ).1).trans bQ
 refine ⟨_,rfl,hK _ _ ⟨fun _=>⟨bG,dO⟩,?_⟩⟩
 clear hK K aR
 simp only[Act.put,zL,zM,zN]
 refine aF 7 (by kernel_rfl) rfl (fun K hK=>?_)
 refine aO 10 rfl rfl 17 (fun vs=>by kernel_rfl) #[.tmp 9,.const (.int .i64 0)] #[23,3] rfl #[.slice am ms.length dh,.int .i64 0] (by first|rfl|simp[Act.eval]) (ab HM yu aS) ?_
 rintro e' AY ⟨u2,ZZ,rfl,gE,gp,aR⟩
 have dP:=dP.mono (aD aR)
 obtain ⟨JV,JU,rfl⟩:=bq gE
 have gE:=(cz gE (by have:=(ab HS).2.1;have:=oV (f:=200) (l:=ms);omega)).mono (R':=fun g=>V.heap.size≤g) (fun g hg _=>⟨rfl,Nat.le_trans kR.size hg⟩)
 have gp:=gp.mono (R':=fun g=>V.heap.size≤g) (fun g hg _=>⟨rfl,Nat.le_trans kR.size hg.1⟩)
 have kR:=kR.trans (aR.mono kR.size)
 have aS:=aS.trans (aR.mono aS.size)
 have bG:=bG.trans (aR.mono bG.size)
 have dO:=(aR.block _ (zA dO).1).trans dO
 have bQ:=(aR.block _ (zA bQ).1).trans bQ
 refine ⟨_,rfl,hK _ _ ⟨fun _=>⟨bG,dO⟩,?_⟩⟩
 clear hK K aR
 simp only[Act.put,zL,zM,zN]
 refine aF 10 (by kernel_rfl) rfl (fun K hK=>?_)
 refine aO 13 rfl rfl 18 (fun vs=>by kernel_rfl) #[.tmp 12] #[24] rfl #[.slice ae es.length da] (by first|rfl|simp[Act.eval]) (ab HE AY aS) ?_
 rintro e' Bf ⟨u3,cs3,rfl,lC,mZ,aR⟩
 have dP:=dP.mono (aD aR)
 have gE:=gE.mono (aD aR)
 have gp:=gp.mono (aD aR)
 obtain ⟨Pk,Pf,rfl⟩:=bq lC
 have lC:=(cz lC (by have:=(ab HS).2.2;omega)).mono (R':=fun g=>V.heap.size≤g) (fun g hg _=>⟨rfl,Nat.le_trans kR.size hg⟩)
 have mZ:=mZ.mono (R':=fun g=>V.heap.size≤g) (fun g hg _=>⟨rfl,Nat.le_trans kR.size hg.1⟩)
 have kR:=kR.trans (aR.mono kR.size)
 have aS:=aS.trans (aR.mono aS.size)
 have bG:=bG.trans (aR.mono bG.size)
 have dO:=(aR.block _ (zA dO).1).trans dO
 have bQ:=(aR.block _ (zA bQ).1).trans bQ
 refine ⟨_,rfl,hK _ _ ⟨fun _=>⟨bG,dO⟩,?_⟩⟩
 clear hK K aR
 simp only[Act.put,zL,zM,zN]
 have hT:Below w0.heap.size w0 Bf∧Bf.heap[w0.heap.size]?=some (.cells #[.string pk,.slice ai is.length ci,.slice am ms.length dh,.slice ae es.length da] 26 (0,0)):=⟨bG,dO⟩
 refine aw 11 (.agg #[.string pk,.slice FY is.length FX,.slice JV (gK 200 ms).length JU,.slice Pk es.length Pf]) 14 rfl rfl (Or.inl ⟨by rfl,fun w' hw=>by go_simp⟩) hT ?_
 simp only[Act.put,zL,zM,zN]
 refine aF 12 (by kernel_rfl) rfl (fun K hK=>?_)
 obtain ⟨c0,c1,c2,c3⟩:=a8 bQ
 have z:∀j,Bf.frozen? ⟨V0.heap.size,j,none⟩=false:=fun j=>by simp[World.frozen?,bQ]
 have z0:=z 0
 have z1:=z 1
 have z2:=z 2
 have z3:=z 3
 obtain ⟨q0,g0⟩:=bh (j:=0) bQ (.string pk)
 obtain ⟨q1,g1⟩:=bh (j:=1) q0 (.slice FY is.length FX)
 obtain ⟨q2,g2⟩:=bh (j:=2) q1 (.slice JV (gK 200 ms).length JU)
 obtain ⟨q3,g3⟩:=bh (j:=3) q2 (.slice Pk es.length Pf)
 have gg:=((g0.trans g1).trans g2).trans g3
 have st:gM (fun g=>V.heap.size≤g) (fun g=>w0.heap.size≤g) _ _:=(j7 gg (fun g (hg:V.heap.size≤g) e=>by have:=zC e;omega)).trans (R'':=fun g=>w0.heap.size≤g) (fun g hg _=>⟨rfl,by omega⟩) gg.size
 have p1:=dP.mono st
 have p2:=gE.mono st
 have p3:=lC.mono st
 have m2:=gp.mono st
 have m3:=mZ.mono st
 have nS:=ct bG gg bG.size (fun k e=>by obtain rfl:=zC e;omega)
 have YM:=(gg.block _ (zA dO).1 (by simp;omega)).trans dO
 go_simp
 refine hK _ _ ⟨fun _=>⟨nS,YM⟩,?_⟩
 clear hK K
 refine aZ (by kernel_rfl) ?_
 have Q3:=al q3
 have P:=al (And.intro p1 (And.intro p2 (And.intro m2 (And.intro p3 (And.intro m3 nS)))))
 clear hT c0 c1 c2 c3 z z0 z1 z2 z3 q0 q1 q2 q3 g0 g1 g2 g3 gg st p1 p2 p3 m2 m3 nS YM dP gE lC gp mZ dO bQ aS bG kR dB HI HM HE HV
 go_wp2
 obtain ⟨p1,p2,m2,p3,m3,nS⟩:=ab P
 refine bodyPost_ret (results_cell_row rfl _ _ V0.heap.size 26 _ (0,0) _ rfl (ab Q3) Tryz.underlying26 rfl (by kernel_rfl)) rfl ?_
 exact ⟨_,_,_,_,_,_,rfl,⟨rfl,p1,p2,m2,p3,m3⟩,nS⟩
def gI:List UInt8→List (List UInt8)
 |[]=>[([])]
 |c::r=>if c=46 then []::gI r else match gI r with
  |[]=>[([c])]
  |p::ps=>(c::p)::ps
theorem DK:∀(a:List UInt8),46 ∉ a→gI a=[a]
 |[],_=>rfl
 |c::a,h=>by
  simp only[List.mem_cons,not_or] at h
  unfold gI
  rw[if_neg (fun e=>h.1 e.symm),DK a h.2]
theorem ya:∀(a b:List UInt8),46 ∉ a→gI (a++46::b)=a::gI b
 |[],b,_=>by
  rw[List.nil_append]
  unfold gI
  rw[if_pos rfl]
  cases b<;>rfl
 |c::a,b,h=>by
  simp only[List.mem_cons,not_or] at h
  rw[List.cons_append]
  unfold gI
  rw[if_neg (fun e=>h.1 e.symm),ya a b h.2]
  cases b<;>rfl
theorem tA:∀(k:Nat) (l:List UInt8),l.count 46=k→Lib.splitK [46] 0 k l=gI l
 |0,l,h=>by
  rw[DK l (List.count_eq_zero.1 h)]
  rfl
 |k+1,l,h=>by
  have hm:46 ∈ l:=List.count_pos_iff.1 (by omega)
  unfold Lib.splitK
  rw[Lib.index_one]
  have iI:Lib.indexByte l 46≠-1:=fun e=>by
   obtain ⟨j,hj⟩:=List.getElem?_of_mem hm
   exact Lib.indexByte_none e j hj
  have h0:-1≤Lib.indexByte l 46:=by rw[←Lib.index_one];exact Lib.index_ge _ _
  obtain ⟨o,ho⟩:∃o:Nat,Lib.indexByte l 46=(o:Int):=⟨(Lib.indexByte l 46).toNat,by omega⟩
  rw[if_neg (by rw[beq_iff_eq];exact iI),ho,Int.toNat_natCast,Nat.add_zero]
  obtain ⟨h1,h2⟩:=Lib.indexByte_some ho
  have aM:=(zB h1).1
  have hl:l=l.take o++46::l.drop (o+1):=by
   have e:=List.getElem_cons_drop aM
   have e2:l[o]=46:=by
    rw[List.getElem?_eq_getElem aM] at h1
    exact zC h1
   rw[e2] at e
   rw[e,List.take_append_drop]
  have nh:46 ∉ l.take o:=fun hx=>by
   obtain ⟨j,hj⟩:=List.getElem?_of_mem hx
   rw[List.getElem?_take] at hj
   split at hj
   ·rename_i hjo;exact h2 j hjo hj
   ·cases hj
  have hc:(l.drop (o+1)).count 46=k:=by
   have e:=congrArg (List.count 46) hl
   rw[List.count_append,List.count_cons_self,List.count_eq_zero.2 nh,h] at e
   omega
  have hd:gI l=l.take o::gI (l.drop (o+1)):=by
   have e:=ya (l.take o) (l.drop (o+1)) nh
   rwa [←hl] at e
  rw[hd]
  exact congrArg _ (tA k _ hc)
noncomputable def FR (l:List UInt8):Bool:=bD ⟨l.toArray⟩
theorem zx (s:ByteArray):(pieces s).all bD=(gI s.data.toList).all FR:=by
 have h:=Lib.splitB_data uF 0 (Lib.countB s uF) s
 have h2:Lib.splitK [46] 0 (Lib.countB s uF) s.data.toList=gI s.data.toList:=tA _ _ (by rw[←Lib.count_one];rfl)
 have h3:(pieces s).map (·.data.toList)=gI s.data.toList:=h.trans h2
 rw[←h3,List.all_map]
 rfl
noncomputable def yv (s:ByteArray):Nat→Nat→Nat→Bool
 |0,_,_=>true
 |n+1,fr,i=>if i=s.size∨aC s i=46 then bD (s.extract fr i)&&yv s n (i+1) (i+1) else yv s n fr (i+1)
theorem hZ {s:ByteArray}{i:Nat} (h:i<s.size):aC s i=46↔s.data.toList[i]?=some 46:=by
 have hl:i<s.data.toList.length:=h
 unfold aC
 rw[dif_pos h,List.getElem?_eq_getElem hl]
 have e:s[i]=s.data.toList[i]:=rfl
 rw[e]
 constructor
 ·intro h;exact congrArg some (UInt8.toNat_inj.1 (h.trans rfl))
 ·intro h;rw[zC h];rfl
theorem BL (s:ByteArray):∀(n fr i:Nat),n+i=s.size+1→fr≤i→yv s n fr i=match gI (s.data.toList.drop i) with
  |[]=>true
  |p::ps=>if n=0 then true else FR ((s.data.toList.take i).drop fr++p)&&ps.all FR
 |0,fr,i,hn,_=>by
  unfold yv
  split
  ·rfl
  ·rfl
 |n+1,fr,i,hn,hf=>by
  have hx:s.extract fr i=⟨((s.data.toList.take i).drop fr).toArray⟩:=by
   apply ByteArray.ext
   apply Array.toList_inj.1
   rw[Lib.extract_data]
   simp[List.drop_take]
  unfold yv
  have Zw:∀(l:List UInt8),gI l≠[]:=fun l=>by
   cases l with
   |nil=>simp[gI]
   |cons c r=>unfold gI;split<;>(try split)<;>simp
  by_cases he:i=s.size
  ·rw[if_pos (.inl he),List.drop_eq_nil_of_le (by rw[he];exact zD _)]
   obtain rfl:n=0:=by omega
   simp only[yv,gI,List.append_nil,List.all_nil,Bool.and_true]
   rw[if_neg (by omega),hx]
   rfl
  ·have aM:i<s.size:=by omega
   have fM:i<s.data.toList.length:=aM
   have PH:=List.drop_eq_getElem_cons fM
   by_cases vG:aC s i=46
   ·rw[if_pos (.inr vG)]
    have hc:s.data.toList[i]=46:=by
     have:=(hZ aM).1 vG
     rw[List.getElem?_eq_getElem fM] at this
     exact zC this
    rw[PH,hc,BL s n (i+1) (i+1) (by omega) (zD _)]
    have e:gI (46::s.data.toList.drop (i+1))=[]::gI (s.data.toList.drop (i+1)):=ya [] _ (by simp)
    rw[e,hx]
    simp only[List.append_nil]
    rw[if_neg (by omega)]
    cases hd:gI (s.data.toList.drop (i+1)) with
    |nil=>exact absurd hd (Zw _)
    |cons p ps =>
     simp only[List.all_cons]
     rw[if_neg (by omega),show (s.data.toList.take (i+1)).drop (i+1)=[] from List.drop_eq_nil_of_le (by rw[List.length_take];omega),List.nil_append]
     rfl
   ·rw[if_neg (by rintro (h|h);exact he h;exact vG h)]
    have hc:¬s.data.toList[i]=46:=fun e=>vG ((hZ aM).2 (by rw[List.getElem?_eq_getElem fM,e]))
    rw[PH,BL s n fr (i+1) (by omega) (by omega)]
    cases hd:gI (s.data.toList.drop (i+1)) with
    |nil=>exact absurd hd (Zw _)
    |cons p ps =>
     have e:gI (s.data.toList[i]::s.data.toList.drop (i+1))=(s.data.toList[i]::p)::ps:=by
      rw[gI,if_neg hc,hd]
     rw[e]
     simp only
     rw[if_neg (by omega),if_neg (by omega),List.take_add_one,List.getElem?_eq_getElem fM,List.drop_append_of_le_length (by rw[List.length_take];omega),List.append_assoc]
     rfl
theorem zW {s:ByteArray} (h:s.size≤255):dx s=yv s (s.size+1) 0 0:=by
 unfold dx
 rw[decide_eq_true h,Bool.true_and,zx,BL s _ 0 0 rfl (zD _),List.drop_zero]
 cases hd:gI s.data.toList with
 |nil=>rfl
 |cons p ps=>simp
theorem BO {s:ByteArray} (h:¬s.size≤255):dx s=false:=by
 unfold dx
 rw[decide_eq_false h]
 rfl
theorem Ev {s:ByteArray} (h:s.size=0):dx s=false:=by
 rw[zW (by omega),h]
 show yv s (0+1) 0 0=false
 unfold yv
 rw[if_pos (.inl h.symm)]
 have:bD (s.extract 0 0)=false:=by
  cases hw:bD (s.extract 0 0) with
  |false=>rfl
  |true =>
   have:=(@of_decide_eq_true _ (Classical.propDecidable _) hw:mq _).1.1
   simp at this
 rw[this]
 rfl
theorem k9 (W:World) (s:ByteArray):Calls Tryz.prog 50 #[.string s] W fun e w=>e=.returned (.bool (dx s))∧w=W:=by
 by_cases h0:s.size=0
 ·rw[Ev h0]
  have e0:((s.size:Int)==0)=true:=beq_iff_eq.2 (by omega)
  clear h0
  go_enter Tryz.func50,Tryz.ntmps50
  go_wp2
  go_ret
  exact ⟨rfl,rfl⟩
 ·have e0:((s.size:Int)==0)=false:=beq_eq_false_iff_ne.2 (by omega)
  by_cases h1:s.size≤255
  ·have e1:decide ((255:Int)<(s.size:Int))=false:=by simp;omega
   rw[zW h1]
   obtain ⟨R,hR⟩:∃R,yv s (s.size+1) 0 0=R:=⟨_,rfl⟩
   rw[hR]
   have HR:=al hR
   clear hR h0
   go_enter Tryz.func50,Tryz.ntmps50
   go_wp2
   clear e0 e1
   go_loopg [3,4] (s.size+1) (fun gk v3 v4 wr=>∃(fr i:Nat),v3=.int .i64 (fr:Int)∧v4=.int .i64 (i:Int)∧gk=s.size+1-i∧i≤s.size+1∧fr≤i∧wr=W∧Hid (yv s (s.size+1-i) fr i=R))
   case atStart=>exact ⟨0,0,rfl,rfl,rfl,by omega,by omega,rfl,ab HR⟩
   case round =>
    obtain ⟨fr,i,rfl,rfl,aU,hi,Tw,rfl,HN⟩:=hrel
    have bz:=al aU
    clear aU HR
    by_cases hle:i≤s.size
    ·have ks:Hid (yv s (s.size-i+1) fr i=R):=by
      have:=ab HN
      rwa [show s.size+1-i=s.size-i+1 by omega] at this
     clear HN
     have d0:decide ((i:Int)≤(s.size:Int))=true:=by simp;omega
     by_cases he:i=s.size
     ·have e1:((i:Int)==(s.size:Int))=true:=beq_iff_eq.2 (by omega)
      have He:=al he
      have lG:Hid ((bD (s.extract fr i)&&yv s (s.size-i) (i+1) (i+1))=R):=by
       have h:=ab ks
       unfold yv at h
       rwa [if_pos (.inl he)] at h
      clear he ks
      go_wp2_with fail
      refine (fY wr (s.extract fr i)).mono ?_
      rintro e w ⟨rfl,rfl⟩
      obtain ⟨q,hq⟩:∃q,bD (s.extract fr i)=q:=⟨_,rfl⟩
      rw[hq] at lG
      rw[hq]
      clear hq
      cases q with
      |false =>
       go_wp2
       go_ret
       exact ⟨by rw[←ab lG];rfl,rfl⟩
      |true =>
       go_wp2
       go_roundg (s.size+1-(i+1))
       case measure=>have:=ab bz;omega
       case rel=>exact ⟨i+1,i+1,by go_num,by go_num,rfl,by omega,by omega,rfl,by have:=ab lG;rw[Bool.true_and] at this;rwa [show s.size+1-(i+1)=s.size-i by omega]⟩
     ·have e1:((i:Int)==(s.size:Int))=false:=beq_eq_false_iff_ne.2 (by omega)
      have aM:i<s.size:=by omega
      obtain ⟨x,hx,cZ,gx⟩:=cd s i aM
      have dO:aC s i=x:=by unfold aC;rw[dif_pos aM];exact gx
      by_cases vG:x=46
      ·have e2:((x:Int)==46)=true:=beq_iff_eq.2 (by omega)
       have lG:Hid ((bD (s.extract fr i)&&yv s (s.size-i) (i+1) (i+1))=R):=by
        have h:=ab ks
        unfold yv at h
        rwa [if_pos (.inr (dO.trans vG))] at h
       clear he vG hx dO ks
       go_wp2_with fail
       refine (fY wr (s.extract fr i)).mono ?_
       rintro e w ⟨rfl,rfl⟩
       obtain ⟨q,hq⟩:∃q,bD (s.extract fr i)=q:=⟨_,rfl⟩
       rw[hq] at lG
       rw[hq]
       clear hq
       cases q with
       |false =>
        go_wp2
        go_ret
        exact ⟨by rw[←ab lG];rfl,rfl⟩
       |true =>
        go_wp2
        go_roundg (s.size+1-(i+1))
        case measure=>have:=ab bz;omega
        case rel=>exact ⟨i+1,i+1,by go_num,by go_num,rfl,by omega,by omega,rfl,by have:=ab lG;rw[Bool.true_and] at this;rwa [show s.size+1-(i+1)=s.size-i by omega]⟩
      ·have e2:((x:Int)==46)=false:=beq_eq_false_iff_ne.2 (by omega)
       have lG:Hid (yv s (s.size-i) fr (i+1)=R):=by
        have h:=ab ks
        unfold yv at h
        rwa [if_neg (by rintro (a|a);exact he a;exact vG (dO.symm.trans a))] at h
       clear he vG hx dO ks
       go_wp2
       go_roundg (s.size+1-(i+1))
       case measure=>have:=ab bz;omega
       case rel=>exact ⟨fr,i+1,rfl,by go_num,rfl,by omega,by omega,rfl,by have:=ab lG;rwa [show s.size+1-(i+1)=s.size-i by omega]⟩
    ·have d0:decide (i≤s.size)=false:=decide_eq_false hle
     have d1:s.size<i:=by omega
     have hz:s.size+1-i=0:=by omega
     have lG:Hid (R=true):=by
      have:=ab HN
      rw[hz] at this
      exact this.symm
     clear hz HN
     go_wp2
     go_ret
     exact ⟨by rw[ab lG];rfl,rfl⟩
  ·rw[BO h1]
   have e1:decide ((255:Int)<(s.size:Int))=true:=by simp;omega
   clear h0 h1
   go_enter Tryz.func50,Tryz.ntmps50
   go_wp2
   go_ret
   exact ⟨rfl,rfl⟩
theorem vZ (W:World) (s:ByteArray):Calls Tryz.prog 150 #[.string s] W fun e w=>e=.returned (.bool (gS s))∧w=W:=by
 unfold gS
 by_cases h1:s.size≤255
 ·have e1:decide ((255:Int)<(s.size:Int))=false:=by simp;omega
  rw[decide_eq_true h1,Bool.true_and]
  by_cases h0:0<s.size
  ·have e0:decide ((0:Int)<(s.size:Int))=true:=by simp;omega
   obtain ⟨x,hx,cZ,gx⟩:=cd s 0 h0
   have dO:aC s 0=x:=by unfold aC;rw[dif_pos h0];exact gx
   by_cases vG:x=46
   ·have e2:((x:Int)==46)=true:=beq_iff_eq.2 (by omega)
    have ht:j6 s=s.extract 1 s.size:=by
     have h2:=(hZ h0).1 (dO.trans vG)
     apply ByteArray.ext
     apply Array.toList_inj.1
     rw[Lib.extract_data]
     show Lib.trimPrefix s.data.toList [46]=_
     unfold Lib.trimPrefix
     cases hl:s.data.toList with
     |nil=>rw[hl] at h2;cases h2
     |cons a r =>
      rw[hl] at h2
      obtain rfl:a=46:=zC h2
      rw[if_pos (by simp[Lib.hasPrefix])]
      have:s.size=r.length+1:=by
       have:=congrArg List.length hl
       simpa using this
      simp[this]
    rw[ht]
    clear vG hx dO ht
    go_enter Tryz.func150,Tryz.ntmps150
    go_wp2_with fail
    refine (k9 W (s.extract 1 s.size)).mono ?_
    rintro e w ⟨rfl,rfl⟩
    go_wp2
    go_ret
    exact ⟨rfl,rfl⟩
   ·have e2:((x:Int)==46)=false:=beq_eq_false_iff_ne.2 (by omega)
    have ht:j6 s=s:=by
     apply ByteArray.ext
     apply Array.toList_inj.1
     show Lib.trimPrefix s.data.toList [46]=_
     unfold Lib.trimPrefix
     rw[if_neg]
     intro hp
     apply vG
     rw[←dO,hZ h0]
     cases hl:s.data.toList with
     |nil=>rw[hl] at hp;simp[Lib.hasPrefix] at hp
     |cons a r =>
      rw[hl] at hp
      have:46=a:=by simpa[Lib.hasPrefix] using hp
      rw[←this]
      rfl
    rw[ht]
    clear vG hx dO ht
    go_enter Tryz.func150,Tryz.ntmps150
    go_wp2_with fail
    refine (k9 W s).mono ?_
    rintro e w ⟨rfl,rfl⟩
    go_wp2
    go_ret
    exact ⟨rfl,rfl⟩
  ·have e0:decide ((0:Int)<(s.size:Int))=false:=decide_eq_false (by omega)
   have ht:j6 s=s:=by
    apply ByteArray.ext
    apply Array.toList_inj.1
    show Lib.trimPrefix s.data.toList [46]=_
    unfold Lib.trimPrefix
    have hl:s.data.toList=[]:=List.eq_nil_of_length_eq_zero (show s.size=0 by omega)
    rw[hl]
    simp
   rw[ht]
   clear ht
   go_enter Tryz.func150,Tryz.ntmps150
   go_wp2_with fail
   refine (k9 W s).mono ?_
   rintro e w ⟨rfl,rfl⟩
   go_wp2
   go_ret
   exact ⟨rfl,rfl⟩
 ·have e1:decide ((255:Int)<(s.size:Int))=true:=by simp;omega
  rw[decide_eq_false h1,Bool.false_and]
  go_enter Tryz.func150,Tryz.ntmps150
  go_wp2
  go_ret
  exact ⟨rfl,rfl⟩
theorem AA {s:ByteArray}{i:Nat} (hi:i<s.size) (vG:aC s i=46) (nh:∀j,j<i→aC s j≠46):firstIdx s 46=(i:Int):=by
 rw[Lib.firstIdx_eq]
 have h0:-1≤Lib.indexByte s.data.toList 46:=by rw[←Lib.index_one];exact Lib.index_ge _ _
 have pd:=(hZ hi).1 vG
 by_cases hn:Lib.indexByte s.data.toList 46=-1
 ·exact absurd pd (Lib.indexByte_none hn i)
 ·obtain ⟨o,ho⟩:∃o:Nat,Lib.indexByte s.data.toList 46=(o:Int):=⟨(Lib.indexByte s.data.toList 46).toNat,by omega⟩
  obtain ⟨h1,h2⟩:=Lib.indexByte_some ho
  have FE:o<s.size:=(zB h1).1
  have:o=i:=by
   rcases Nat.lt_trichotomy o i with h|h|h
   ·exact absurd ((hZ FE).2 h1) (nh o h)
   ·exact h
   ·exact absurd pd (h2 i h)
  rw[ho,this]
theorem Az {s:ByteArray} (nh:∀j,j<s.size→aC s j≠46):firstIdx s 46=-1:=by
 rw[Lib.firstIdx_eq]
 have h0:-1≤Lib.indexByte s.data.toList 46:=by rw[←Lib.index_one];exact Lib.index_ge _ _
 by_cases hn:Lib.indexByte s.data.toList 46=-1
 ·exact hn
 ·obtain ⟨o,ho⟩:∃o:Nat,Lib.indexByte s.data.toList 46=(o:Int):=⟨(Lib.indexByte s.data.toList 46).toNat,by omega⟩
  obtain ⟨h1,-⟩:=Lib.indexByte_some ho
  have FE:o<s.size:=(zB h1).1
  exact absurd ((hZ FE).2 h1) (nh o FE)
theorem BA (W:World) (s:ByteArray) (hs:s.size≤281474976710656):Calls Tryz.prog 182 #[.string s] W fun e w=>e=.returned (.string (fh s))∧w=W:=by
 obtain ⟨R,hR⟩:∃R,fh s=R:=⟨_,rfl⟩
 rw[hR]
 have HR:=al hR
 clear hR
 go_enter Tryz.func182,Tryz.ntmps182
 go_wp2
 go_loopg [3] s.size (fun gk v3 wr=>∃(i:Nat),v3=.int .i64 (i:Int)∧gk=s.size-i∧i≤s.size∧wr=W∧Hid (∀j,j<i→aC s j≠46))
 case atStart=>exact ⟨0,rfl,rfl,by omega,rfl,fun j hj=>by omega⟩
 case round =>
  obtain ⟨i,rfl,aU,hi,rfl,HN⟩:=hrel
  have bz:=al aU
  clear aU
  by_cases aM:i<s.size
  ·obtain ⟨x,hx,cZ,gx⟩:=cd s i aM
   have dO:aC s i=x:=by unfold aC;rw[dif_pos aM];exact gx
   by_cases vG:x=46
   ·have e2:((x:Int)==46)=true:=beq_iff_eq.2 (by omega)
    have HF:Hid (R=s.extract 0 i):=by
     show R=_
     rw[←ab HR]
     unfold fh
     rw[AA aM (dO.trans vG) (ab HN),if_pos (by omega),Int.toNat_natCast]
    clear vG hx dO HN HR
    go_wp2
    go_ret
    exact ⟨by rw[ab HF];rfl,rfl⟩
   ·have e2:((x:Int)==46)=false:=beq_eq_false_iff_ne.2 (by omega)
    have Jl:Hid (∀j,j<i+1→aC s j≠46):=fun j hj=>by
     by_cases NH:j=i
     ·rw[NH,dO];exact vG
     ·exact ab HN j (by omega)
    clear vG hx dO HN
    go_wp2
    go_roundg (s.size-(i+1))
    case measure=>have:=ab bz;omega
    case rel=>exact ⟨i+1,by go_num,rfl,by omega,rfl,Jl⟩
  ·have HF:Hid (R=s):=by
    show R=_
    rw[←ab HR]
    unfold fh
    obtain rfl:i=s.size:=by omega
    rw[Az (ab HN),if_neg (by omega)]
   have d1:s.size≤i:=by omega
   clear HN HR
   go_wp2
   go_ret
   exact ⟨by rw[ab HF];rfl,rfl⟩
def A5 (l s:ByteArray):Nat→Nat→Nat→Bool
 |0,_,_=>false
 |n+1,fr,i=>if aC l i=32 then ((l.extract fr i).toList==s.toList) ||A5 l s n (i+1) (i+1) else A5 l s n fr (i+1)
def pq (l:ByteArray):Nat→Nat→Nat→List ByteArray
 |0,_,_=>[]
 |n+1,fr,i=>if aC l i=32 then l.extract fr i::pq l n (i+1) (i+1) else pq l n fr (i+1)
theorem xK (l s:ByteArray):∀n fr i,A5 l s n fr i=sw s (pq l n fr i)
 |0,_,_=>rfl
 |n+1,fr,i=>by
  unfold A5 pq
  split
  ·rw[xK l s n]
   unfold sw
   rw[List.any_cons]
   congr 1
   exact BEq.comm
  ·exact xK l s n _ _
theorem Dc (W:World) (l s:ByteArray) (hs:l.size≤281474976710656):Calls Tryz.prog 183 #[.string l,.string s] W fun e w=>e=.returned (.bool (A5 l s l.size 0 0))∧w=W:=by
 obtain ⟨R,hR⟩:∃R,A5 l s l.size 0 0=R:=⟨_,rfl⟩
 rw[hR]
 have HR:=al hR
 clear hR
 go_enter Tryz.func183,Tryz.ntmps183
 go_wp2
 go_loopg [5,6] l.size (fun gk v5 v6 wr=>∃(fr i:Nat),v5=.int .i64 (fr:Int)∧v6=.int .i64 (i:Int)∧gk=l.size-i∧i≤l.size∧fr≤i∧wr=W∧Hid (A5 l s (l.size-i) fr i=R))
 case atStart=>exact ⟨0,0,rfl,rfl,rfl,by omega,by omega,rfl,ab HR⟩
 case round =>
  obtain ⟨fr,i,rfl,rfl,aU,hi,Tw,rfl,HN⟩:=hrel
  have bz:=al aU
  clear aU HR
  by_cases aM:i<l.size
  ·obtain ⟨x,hx,cZ,gx⟩:=cd l i aM
   have dO:aC l i=x:=by unfold aC;rw[dif_pos aM];exact gx
   have ks:Hid (A5 l s (l.size-(i+1)+1) fr i=R):=by
    have:=ab HN
    rwa [show l.size-i=l.size-(i+1)+1 by omega] at this
   by_cases TF:x=32
   ·have e2:((x:Int)==32)=true:=beq_iff_eq.2 (by omega)
    obtain ⟨q,hq⟩:∃q,((l.extract fr i).toList==s.toList)=q:=⟨_,rfl⟩
    have lG:Hid ((q ||A5 l s (l.size-(i+1)) (i+1) (i+1))=R):=by
     have h:=ab ks
     unfold A5 at h
     rwa [if_pos (dO.trans TF),hq] at h
    clear TF hx dO HN ks
    cases q with
    |true =>
     go_wp2
     go_ret
     exact ⟨by rw[←ab lG];rfl,rfl⟩
    |false =>
     go_wp2
     go_roundg (l.size-(i+1))
     case measure=>have:=ab bz;omega
     case rel=>exact ⟨i+1,i+1,by go_num,by go_num,rfl,by omega,by omega,rfl,by have:=ab lG;rwa [Bool.false_or] at this⟩
   ·have e2:((x:Int)==32)=false:=beq_eq_false_iff_ne.2 (by omega)
    have lG:Hid (A5 l s (l.size-(i+1)) fr (i+1)=R):=by
     have h:=ab ks
     unfold A5 at h
     rwa [if_neg (fun e=>TF (dO.symm.trans e))] at h
    clear TF hx dO HN ks
    go_wp2
    go_roundg (l.size-(i+1))
    case measure=>have:=ab bz;omega
    case rel=>exact ⟨fr,i+1,rfl,by go_num,rfl,by omega,by omega,rfl,lG⟩
  ·have hz:l.size-i=0:=by omega
   have lG:Hid (R=false):=by
    have:=ab HN
    rw[hz] at this
    exact this.symm
   have d1:l.size≤i:=by omega
   clear hz HN
   go_wp2
   go_ret
   exact ⟨by rw[ab lG];rfl,rfl⟩
end Go.Proofs.YtichhjfjcinjgaaGreatDoor
