import Derived.Test.YtichhjfjcinjgaaGreatDoorYBd
set_option maxHeartbeats 8000000
set_option maxRecDepth 100000
namespace Go.Proofs.YtichhjfjcinjgaaGreatDoor
open Go.RowKit
attribute [local go_sem ↓] Go.wp_at_zero Go.wp_at_succ
theorem Cj:L3 0:=by
 intro W v l cs hv _ _ _ w0 hw
 obtain ⟨a,c,rfl,hn,-⟩:=hv
 have HB:=al (zE w0.heap.size w0)
 clear hw
 go_enter Tryz.func17,Tryz.ntmps17
 go_wp2
 go_loopg [5,6,7,8] 1 (fun gk v5 v6 _ _ wr=>v5=.slice none 0 0∧v6=.int .i64 0∧gk=1∧Hid (wr=w0))
 case atStart=>exact ⟨rfl,rfl,rfl,rfl⟩
 case round =>
  obtain ⟨rfl,rfl,aW,HW⟩:=hrel
  clear aW
  by_cases h0:(0:Int)<(l.length:Int)
  ·go_wp2
   go_ret
   have:=ab HW
   subst this
   first|exact ⟨_,[],rfl,⟨rfl,.inl ⟨rfl,rfl⟩⟩,.nil,ab HB⟩|exact ⟨_,rfl,[],⟨rfl,.inl ⟨rfl,rfl⟩⟩,.nil,ab HB⟩
  ·go_wp2
   go_ret
   have:=ab HW
   subst this
   first|exact ⟨_,[],rfl,⟨rfl,.inl ⟨rfl,rfl⟩⟩,.nil,ab HB⟩|exact ⟨_,rfl,[],⟨rfl,.inl ⟨rfl,rfl⟩⟩,.nil,ab HB⟩
theorem vV {f:Nat} (hf:f<200) (ih:L3 f):L3 (f+1):=by
 intro W v l cs hv hm hl hz w0 hw
 obtain ⟨a,c,rfl,hn,h2⟩:=hv
 obtain ⟨i0,hi,fU,dS,da⟩:=info_parts NM
 obtain ⟨j0,hj,VP,VO,VM⟩:=info_parts NN
 obtain ⟨dz,Sk⟩:∃z,(200-((f+1:Nat):Int))=z:=⟨_,rfl⟩
 rw[Sk]
 have IK:0≤dz:=by omega
 have hd1:dz<200:=by omega
 have X':=al (show dz+1=200-(f:Int) by omega)
 have H2:=al h2
 have HW:=al hw
 have Hl:=al hl
 have XV:=al hm
 have Hz:=al hz
 have FU:=al ih
 clear h2 hw hl hm hz ih Sk hf
 go_enter Tryz.func17,Tryz.ntmps17
 go_wp2
 go_loopg [5,6,7,8] l.length (fun gk v5 v6 _ _ wr=>∃(i:Nat) (iU:List Value),v6=.int .i64 (i:Int)∧gk=l.length-i∧i≤l.length∧Hid (wr.ownsRow w0.heap.size 46 7 v5 i iU)∧Hid (pG (Rest w0.heap.size v5) wr iU ((l.take i).map (lN f)))∧Hid (Below w0.heap.size w0 wr))
 case atStart=>exact ⟨0,[],rfl,rfl,by omega,⟨rfl,.inl ⟨rfl,rfl⟩⟩,.nil,zE _ _⟩
 case round =>
  obtain ⟨i,iU,rfl,aW,eV,HO,TB,HB⟩:=hrel
  have bz:=al aW
  clear aW
  obtain ⟨wo,iI⟩:∃x,x=wr:=⟨_,rfl⟩
  subst iI
  by_cases aM:i<l.length
  ·obtain ⟨g,o,rfl,hg,hc⟩:=ab H2 (by omega)
   have hr:=List.getElem?_eq_getElem aM
   have cJ:=List.getElem_mem aM
   obtain ⟨m,y'⟩:∃m,l[i]=m:=⟨_,rfl⟩
   rw[y'] at hr cJ
   obtain ⟨vf,vo,vm,ve,vr,vg,nm,fs,os,ms,es,rs,gs,cm,ce,dV,hV⟩:=(ab XV).at i m hr
   obtain rfl:=hV.is
   have VS:=ab Hz _ cJ
   obtain ⟨s1,s2,s3,s4,s5,s6,s7⟩:=VS.s
   have gV:=al (show Below W.heap.size W wo from (ab HW).trans ((ab HB).mono (ab HW).size))
   have dD:Hid (∀w',Below W.heap.size W w'→w'.cell? ⟨g,o+i*7,none⟩=some (.string nm)∧w'.cell? ⟨g,o+i*7+1,none⟩=some vf∧w'.cell? ⟨g,o+i*7+2,none⟩=some vo∧w'.cell? ⟨g,o+i*7+3,none⟩=some vm∧w'.cell? ⟨g,o+i*7+4,none⟩=some ve∧w'.cell? ⟨g,o+i*7+5,none⟩=some vr∧w'.cell? ⟨g,o+i*7+6,none⟩=some vg):=by
    intro w' hb
    have key:∀(j:Nat) (x:Value),[Value.string nm,vf,vo,vm,ve,vr,vg][j]?=some x→w'.cell? ⟨g,o+(i*7+j),none⟩=some x:=fun j x hx=>(hb.cell (p:=⟨g,o+(i*7+j),none⟩) hg).trans (hc _ _ (by
     rw[←dV,List.getElem?_take,List.getElem?_drop] at hx
     split at hx
     ·exact hx
     ·cases hx))
    exact ⟨key 0 _ rfl,key 1 _ rfl,key 2 _ rfl,key 3 _ rfl,key 4 _ rfl,key 5 _ rfl,key 6 _ rfl⟩
   have Gh:=al (fun w' hb=>mL hV.ho s2 w' hb)
   have JV:=al (fun w' hb=>ab FU W vm ms cm hV.hm hV.eo s3 VS.2 w' hb)
   rw[←ab X'] at JV
   have M4:=al (fun w' hb=>xv hV.he hV.fA s4 s5 w' hb)
   have sG:=al (fun w' hb=>uw hV.hr s6 w' hb)
   have pI:=al (fun w' hb=>mL hV.hg s7 w' hb)
   obtain ⟨af,cf,rfl,P0,cT⟩:=hV.hf
   obtain ⟨ao,co,rfl,-,-⟩:=hV.ho
   obtain ⟨am,dk,rfl,-,-⟩:=hV.hm
   obtain ⟨ae,dc,rfl,-,-⟩:=hV.he
   obtain ⟨ar,cr,rfl,-,-⟩:=hV.hr
   obtain ⟨ag,cg,rfl,-,-⟩:=hV.hg
   have Yd:=al cT
   have Mr:(0:Int)≤(i:Int):=zH _
   have i1:(i:Int)<(l.length:Int):=by omega
   have bu:=al aM
   have Hr:=al hr
   have HS:=al (show Qt fs os ms es rs gs from ⟨s1,s2,s3,s4,s5,s6,s7⟩)
   clear hc cJ y' dV cT aM hr hV VS s1 s2 s3 s4 s5 s6 s7
   go_upto_region 5 with fail
   go_cut [7] (fun v7 wx=>∃(b:Nat) (uo um ue ur ug:Value) (T8 T9:List Value),v7=.pointer (some ⟨b,0,none⟩)∧((∃a c,uo=.slice a os.length c)∧(∃a c,um=.slice a (fY f ms).length c)∧(∃a c,ue=.slice a es.length c)∧(∃a c,ur=.slice a rs.length c)∧(∃a c,ug=.slice a gs.length c))∧Hid (pK wo wx b (.slice none 0 0) uo um ue ur ug T8 T9 nm os (fY f ms) es rs gs))
   case first =>
    refine wp_region_any (by kernel_rfl) (bL (z:=99) (T:=fun w'=>Below W.heap.size W w') _ _ _ _ ?_)
    try (change cd _ _ _ _ _ _ _ _ _ (World.drew _))
    have aT:Below W.heap.size W wo.drew:=below_drewN (ab gV) 1
    have bW:Below wo.heap.size wo wo.drew:=below_drewN (zE wo.heap.size wo) 1
    obtain ⟨wd,nD⟩:∃x,wo.drew=x:=⟨_,rfl⟩
    rw[nD] at aT bW ⊢
    have hT:=aT
    refine aw 0 (.slice (some ⟨g,o,none⟩) l.length c) 19 rfl rfl (Or.inl ⟨by rfl,fun w' hw=>by obtain ⟨x0,x1,x2,x3,x4,x5,x6⟩:=ab dD w' hw;go_simp⟩) hT ?_
    simp only[Act.put,zL,zM,zN]
    refine aw 1 (.int .i64 (i:Int)) 20 rfl rfl (Or.inl ⟨by rfl,fun w' hw=>by obtain ⟨x0,x1,x2,x3,x4,x5,x6⟩:=ab dD w' hw;go_simp⟩) hT ?_
    simp only[Act.put,zL,zM,zN]
    refine aw 2 (.pointer (some ⟨g,o+i*7,none⟩)) 21 rfl rfl (Or.inl ⟨by rfl,fun w' hw=>by obtain ⟨x0,x1,x2,x3,x4,x5,x6⟩:=ab dD w' hw;go_simp⟩) hT ?_
    simp only[Act.put,zL,zM,zN]
    refine aw 3 (.pointer (some ⟨g,o+i*7,none⟩)) 22 rfl rfl (Or.inl ⟨by rfl,fun w' hw=>by obtain ⟨x0,x1,x2,x3,x4,x5,x6⟩:=ab dD w' hw;go_simp⟩) hT ?_
    simp only[Act.put,zL,zM,zN]
    refine aw 4 (.string nm) 23 rfl rfl (Or.inl ⟨by rfl,fun w' hw=>by obtain ⟨x0,x1,x2,x3,x4,x5,x6⟩:=ab dD w' hw;go_simp⟩) hT ?_
    simp only[Act.put,zL,zM,zN]
    refine aw 5 (.slice (some ⟨g,o,none⟩) l.length c) 24 rfl rfl (Or.inl ⟨by rfl,fun w' hw=>by obtain ⟨x0,x1,x2,x3,x4,x5,x6⟩:=ab dD w' hw;go_simp⟩) hT ?_
    simp only[Act.put,zL,zM,zN]
    refine aw 6 (.int .i64 (i:Int)) 25 rfl rfl (Or.inl ⟨by rfl,fun w' hw=>by obtain ⟨x0,x1,x2,x3,x4,x5,x6⟩:=ab dD w' hw;go_simp⟩) hT ?_
    simp only[Act.put,zL,zM,zN]
    refine aw 7 (.pointer (some ⟨g,o+i*7,none⟩)) 26 rfl rfl (Or.inl ⟨by rfl,fun w' hw=>by obtain ⟨x0,x1,x2,x3,x4,x5,x6⟩:=ab dD w' hw;go_simp⟩) hT ?_
    simp only[Act.put,zL,zM,zN]
    refine aw 8 (.pointer (some ⟨g,o+i*7+2,none⟩)) 27 rfl rfl (Or.inl ⟨by rfl,fun w' hw=>by obtain ⟨x0,x1,x2,x3,x4,x5,x6⟩:=ab dD w' hw;go_simp⟩) hT ?_
    simp only[Act.put,zL,zM,zN]
    refine aw 9 (.slice ao os.length co) 28 rfl rfl (Or.inl ⟨by rfl,fun w' hw=>by obtain ⟨x0,x1,x2,x3,x4,x5,x6⟩:=ab dD w' hw;go_simp⟩) hT ?_
    simp only[Act.put,zL,zM,zN]
    refine aw 11 (.slice (some ⟨g,o,none⟩) l.length c) 30 rfl rfl (Or.inl ⟨by rfl,fun w' hw=>by obtain ⟨x0,x1,x2,x3,x4,x5,x6⟩:=ab dD w' hw;go_simp⟩) hT ?_
    simp only[Act.put,zL,zM,zN]
    refine aw 12 (.int .i64 (i:Int)) 31 rfl rfl (Or.inl ⟨by rfl,fun w' hw=>by obtain ⟨x0,x1,x2,x3,x4,x5,x6⟩:=ab dD w' hw;go_simp⟩) hT ?_
    simp only[Act.put,zL,zM,zN]
    refine aw 13 (.pointer (some ⟨g,o+i*7,none⟩)) 32 rfl rfl (Or.inl ⟨by rfl,fun w' hw=>by obtain ⟨x0,x1,x2,x3,x4,x5,x6⟩:=ab dD w' hw;go_simp⟩) hT ?_
    simp only[Act.put,zL,zM,zN]
    refine aw 14 (.pointer (some ⟨g,o+i*7+3,none⟩)) 33 rfl rfl (Or.inl ⟨by rfl,fun w' hw=>by obtain ⟨x0,x1,x2,x3,x4,x5,x6⟩:=ab dD w' hw;go_simp⟩) hT ?_
    simp only[Act.put,zL,zM,zN]
    refine aw 15 (.slice am ms.length dk) 34 rfl rfl (Or.inl ⟨by rfl,fun w' hw=>by obtain ⟨x0,x1,x2,x3,x4,x5,x6⟩:=ab dD w' hw;go_simp⟩) hT ?_
    simp only[Act.put,zL,zM,zN]
    refine aw 16 (.int .i64 dz) 35 rfl rfl (Or.inl ⟨by rfl,fun w' hw=>by obtain ⟨x0,x1,x2,x3,x4,x5,x6⟩:=ab dD w' hw;go_simp⟩) hT ?_
    simp only[Act.put,zL,zM,zN]
    refine aw 17 (.int .i64 (dz+1)) 36 rfl rfl (Or.inl ⟨by rfl,fun w' hw=>by obtain ⟨x0,x1,x2,x3,x4,x5,x6⟩:=ab dD w' hw;go_simp;try exact IntWalk.i64_in _ (by omega)⟩) hT ?_
    simp only[Act.put,zL,zM,zN]
    refine aw 19 (.slice (some ⟨g,o,none⟩) l.length c) 38 rfl rfl (Or.inl ⟨by rfl,fun w' hw=>by obtain ⟨x0,x1,x2,x3,x4,x5,x6⟩:=ab dD w' hw;go_simp⟩) hT ?_
    simp only[Act.put,zL,zM,zN]
    refine aw 20 (.int .i64 (i:Int)) 39 rfl rfl (Or.inl ⟨by rfl,fun w' hw=>by obtain ⟨x0,x1,x2,x3,x4,x5,x6⟩:=ab dD w' hw;go_simp⟩) hT ?_
    simp only[Act.put,zL,zM,zN]
    refine aw 21 (.pointer (some ⟨g,o+i*7,none⟩)) 40 rfl rfl (Or.inl ⟨by rfl,fun w' hw=>by obtain ⟨x0,x1,x2,x3,x4,x5,x6⟩:=ab dD w' hw;go_simp⟩) hT ?_
    simp only[Act.put,zL,zM,zN]
    refine aw 22 (.pointer (some ⟨g,o+i*7+4,none⟩)) 41 rfl rfl (Or.inl ⟨by rfl,fun w' hw=>by obtain ⟨x0,x1,x2,x3,x4,x5,x6⟩:=ab dD w' hw;go_simp⟩) hT ?_
    simp only[Act.put,zL,zM,zN]
    refine aw 23 (.slice ae es.length dc) 42 rfl rfl (Or.inl ⟨by rfl,fun w' hw=>by obtain ⟨x0,x1,x2,x3,x4,x5,x6⟩:=ab dD w' hw;go_simp⟩) hT ?_
    simp only[Act.put,zL,zM,zN]
    refine aw 25 (.slice (some ⟨g,o,none⟩) l.length c) 44 rfl rfl (Or.inl ⟨by rfl,fun w' hw=>by obtain ⟨x0,x1,x2,x3,x4,x5,x6⟩:=ab dD w' hw;go_simp⟩) hT ?_
    simp only[Act.put,zL,zM,zN]
    refine aw 26 (.int .i64 (i:Int)) 45 rfl rfl (Or.inl ⟨by rfl,fun w' hw=>by obtain ⟨x0,x1,x2,x3,x4,x5,x6⟩:=ab dD w' hw;go_simp⟩) hT ?_
    simp only[Act.put,zL,zM,zN]
    refine aw 27 (.pointer (some ⟨g,o+i*7,none⟩)) 46 rfl rfl (Or.inl ⟨by rfl,fun w' hw=>by obtain ⟨x0,x1,x2,x3,x4,x5,x6⟩:=ab dD w' hw;go_simp⟩) hT ?_
    simp only[Act.put,zL,zM,zN]
    refine aw 28 (.pointer (some ⟨g,o+i*7+5,none⟩)) 47 rfl rfl (Or.inl ⟨by rfl,fun w' hw=>by obtain ⟨x0,x1,x2,x3,x4,x5,x6⟩:=ab dD w' hw;go_simp⟩) hT ?_
    simp only[Act.put,zL,zM,zN]
    refine aw 29 (.slice ar rs.length cr) 48 rfl rfl (Or.inl ⟨by rfl,fun w' hw=>by obtain ⟨x0,x1,x2,x3,x4,x5,x6⟩:=ab dD w' hw;go_simp⟩) hT ?_
    simp only[Act.put,zL,zM,zN]
    refine aw 31 (.slice (some ⟨g,o,none⟩) l.length c) 50 rfl rfl (Or.inl ⟨by rfl,fun w' hw=>by obtain ⟨x0,x1,x2,x3,x4,x5,x6⟩:=ab dD w' hw;go_simp⟩) hT ?_
    simp only[Act.put,zL,zM,zN]
    refine aw 32 (.int .i64 (i:Int)) 51 rfl rfl (Or.inl ⟨by rfl,fun w' hw=>by obtain ⟨x0,x1,x2,x3,x4,x5,x6⟩:=ab dD w' hw;go_simp⟩) hT ?_
    simp only[Act.put,zL,zM,zN]
    refine aw 33 (.pointer (some ⟨g,o+i*7,none⟩)) 52 rfl rfl (Or.inl ⟨by rfl,fun w' hw=>by obtain ⟨x0,x1,x2,x3,x4,x5,x6⟩:=ab dD w' hw;go_simp⟩) hT ?_
    simp only[Act.put,zL,zM,zN]
    refine aw 34 (.pointer (some ⟨g,o+i*7+6,none⟩)) 53 rfl rfl (Or.inl ⟨by rfl,fun w' hw=>by obtain ⟨x0,x1,x2,x3,x4,x5,x6⟩:=ab dD w' hw;go_simp⟩) hT ?_
    simp only[Act.put,zL,zM,zN]
    refine aw 35 (.slice ag gs.length cg) 54 rfl rfl (Or.inl ⟨by rfl,fun w' hw=>by obtain ⟨x0,x1,x2,x3,x4,x5,x6⟩:=ab dD w' hw;go_simp⟩) hT ?_
    simp only[Act.put,zL,zM,zN]
    clear hT
    refine eC 10 38 (by kernel_rfl) rfl rfl (fun K hK=>?_) (fun K hK=>?_)
    ·refine aO 29 rfl rfl 16 (fun vs=>by kernel_rfl) #[.tmp 28] #[22] rfl #[.slice ao os.length co] (by first|rfl|simp[Act.eval]) (ab Gh wd aT) ?_
     rintro e' yX ⟨u1,rfl,dQ,aS⟩
     obtain ⟨Gu,Gt,rfl⟩:=bq dQ
     have dQ:=(cB dQ (by have:=(ab HS).2.1;omega)).mono (Q7 bW.size)
     have bW:=bW.trans (aS.mono bW.size)
     have aT:=aT.trans (aS.mono aT.size)
     refine ⟨_,rfl,hK _ _ ⟨fun _=>aT,?_⟩⟩
     clear hK K aS
     simp only[Act.put,zL,zM,zN]
     refine eC 18 38 (by kernel_rfl) rfl rfl (fun K hK=>?_) (fun K hK=>?_)
     ·refine aO 37 rfl rfl 17 (fun vs=>by kernel_rfl) #[.tmp 34,.tmp 36] #[23,3] rfl #[.slice am ms.length dk,.int .i64 (dz+1)] (by first|rfl|simp[Act.eval]) (ab JV yX aT) ?_
      rintro e' Bn ⟨u2,cs2,rfl,gK,gD,aS⟩
      have dQ:=dQ.mono (aB aS)
      obtain ⟨Kx,Kw,rfl⟩:=bq gK
      have gK:=(cB gK (by have:=(ab HS).2.2.1;have:=pq (f:=f) (l:=ms);omega)).mono (Q7 bW.size)
      have gD:=gD.mono (YV bW.size)
      have bW:=bW.trans (aS.mono bW.size)
      have aT:=aT.trans (aS.mono aT.size)
      refine ⟨_,rfl,hK _ _ ⟨fun _=>aT,?_⟩⟩
      clear hK K aS
      simp only[Act.put,zL,zM,zN]
      refine eC 24 38 (by kernel_rfl) rfl rfl (fun K hK=>?_) (fun K hK=>?_)
      ·refine aO 43 rfl rfl 18 (fun vs=>by kernel_rfl) #[.tmp 42] #[24] rfl #[.slice ae es.length dc] (by first|rfl|simp[Act.eval]) (ab M4 Bn aT) ?_
       rintro e' BF ⟨u3,cs3,rfl,lT,nF,aS⟩
       have dQ:=dQ.mono (aB aS)
       have gK:=gK.mono (aB aS)
       have gD:=gD.mono (aB aS)
       obtain ⟨PR,PN,rfl⟩:=bq lT
       have lT:=(cB lT (by have:=(ab HS).2.2.2.1;omega)).mono (Q7 bW.size)
       have nF:=nF.mono (YV bW.size)
       have bW:=bW.trans (aS.mono bW.size)
       have aT:=aT.trans (aS.mono aT.size)
       refine ⟨_,rfl,hK _ _ ⟨fun _=>aT,?_⟩⟩
       clear hK K aS
       simp only[Act.put,zL,zM,zN]
       refine eC 30 38 (by kernel_rfl) rfl rfl (fun K hK=>?_) (fun K hK=>?_)
       ·refine aO 49 rfl rfl 33 (fun vs=>by kernel_rfl) #[.tmp 48] #[44] rfl #[.slice ar rs.length cr] (by first|rfl|simp[Act.eval]) (ab sG BF aT) ?_
        rintro e' F6 ⟨u4,rfl,oZ,aS⟩
        have dQ:=dQ.mono (aB aS)
        have gK:=gK.mono (aB aS)
        have gD:=gD.mono (aB aS)
        have lT:=lT.mono (aB aS)
        have nF:=nF.mono (aB aS)
        obtain ⟨YT,YS,rfl⟩:=bq oZ
        have oZ:=(cB oZ (by have:=(ab HS).2.2.2.2.2.1;omega)).mono (Q7 bW.size)
        have bW:=bW.trans (aS.mono bW.size)
        have aT:=aT.trans (aS.mono aT.size)
        refine ⟨_,rfl,hK _ _ ⟨fun _=>aT,?_⟩⟩
        clear hK K aS
        simp only[Act.put,zL,zM,zN]
        refine eC 36 38 (by kernel_rfl) rfl rfl (fun K hK=>?_) (fun K hK=>?_)
        ·refine aO 55 rfl rfl 16 (fun vs=>by kernel_rfl) #[.tmp 54] #[22] rfl #[.slice ag gs.length cg] (by first|rfl|simp[Act.eval]) (ab pI F6 aT) ?_
         rintro e' Mg ⟨u5,rfl,DU,aS⟩
         have dQ:=dQ.mono (aB aS)
         have gK:=gK.mono (aB aS)
         have gD:=gD.mono (aB aS)
         have lT:=lT.mono (aB aS)
         have nF:=nF.mono (aB aS)
         have oZ:=oZ.mono (aB aS)
         obtain ⟨Vi,U0,rfl⟩:=bq DU
         have DU:=(cB DU (by have:=(ab HS).2.2.2.2.2.2;omega)).mono (Q7 bW.size)
         have bW:=bW.trans (aS.mono bW.size)
         have aT:=aT.trans (aS.mono aT.size)
         refine ⟨_,rfl,hK _ _ ⟨fun _=>aT,?_⟩⟩
         clear hK K aS
         simp only[Act.put,zL,zM,zN]
         have hT:=aT
         refine aw 37 (.agg #[.string nm,.slice none 0 0,.slice Gu (os.length) Gt,.slice Kx ((fY f ms).length) Kw,.slice PR (es.length) PN,.slice YT (rs.length) YS,.slice Vi (gs.length) U0]) 56 rfl rfl (Or.inl ⟨by rfl,fun w' hw=>by go_simp⟩) hT ?_
         simp only[Act.put,zL,zM,zN]
         clear hT
         refine aF 38 (by kernel_rfl) rfl (fun K hK=>?_)
         obtain ⟨Mf,bN⟩:∃x,Mg.alloc (.cells #[.string ⟨#[]⟩,.slice none 0 0,.slice none 0 0,.slice none 0 0,.slice none 0 0,.slice none 0 0,.slice none 0 0] 46)=x:=⟨_,rfl⟩
         have aS:Below Mg.heap.size Mg Mf:=by rw[←bN];exact (zE _ _).alloc (zD _) _
         have bR:Mf.heap[Mg.heap.size]?=some (.cells #[.string ⟨#[]⟩,.slice none 0 0,.slice none 0 0,.slice none 0 0,.slice none 0 0,.slice none 0 0,.slice none 0 0] 46 (0,0)):=by rw[←bN];exact aJ _ _
         have dF:wo.heap.size≤Mg.heap.size:=bW.size
         go_simp
         have dQ:=dQ.mono (vF aS)
         have gK:=gK.mono (vF aS)
         have gD:=gD.mono (vF aS)
         have lT:=lT.mono (vF aS)
         have nF:=nF.mono (vF aS)
         have oZ:=oZ.mono (vF aS)
         have DU:=DU.mono (vF aS)
         have bW:=bW.trans (aS.mono bW.size)
         have aT:=aT.trans (aS.mono aT.size)
         obtain ⟨bk,eA⟩:∃b,Mg.heap.size=b:=⟨_,rfl⟩
         rw[eA] at bR dF dQ gK gD lT nF oZ DU
         rw[eA]
         refine hK _ _ ⟨fun _=>aT,?_⟩
         clear hK K bN aS eA
         refine aF 39 (by kernel_rfl) rfl (fun K hK=>?_)
         obtain ⟨c0,c1,c2,c3,c4,c5,c6⟩:=kU bR
         have z:∀j,Mf.frozen? ⟨bk,j,none⟩=false:=fun j=>by simp[World.frozen?,bR]
         have z0:=z 0
         have z1:=z 1
         have z2:=z 2
         have z3:=z 3
         have z4:=z 4
         have z5:=z 5
         have z6:=z 6
         have hC:=pK.new (nm:=nm) bW dF bR dQ gK gD lT nF oZ DU
         go_simp
         refine hK _ _ ⟨fun _=>(ab gV).trans (hC.bU.mono (ab gV).size),?_⟩
         clear hK K
         refine a8 (by kernel_rfl) ?_
         have HC:=al hC
         clear hC bW aT dF bR z z0 z1 z2 z3 z4 z5 z6 c0 c1 c2 c3 c4 c5 c6 dQ gK gD lT nF oZ DU
         go_wp2_with fail
         go_meet
         exact ⟨bk,_,_,_,_,_,_,_,rfl,⟨⟨_,_,rfl⟩,⟨_,_,rfl⟩,⟨_,_,rfl⟩,⟨_,_,rfl⟩,⟨_,_,rfl⟩⟩,HC⟩
        ·obtain ⟨M8,bN⟩:∃x,F6.alloc (.cells #[.string ⟨#[]⟩,.slice none 0 0,.slice none 0 0,.slice none 0 0,.slice none 0 0,.slice none 0 0,.slice none 0 0] 46)=x:=⟨_,rfl⟩
         have aS:Below F6.heap.size F6 M8:=by rw[←bN];exact (zE _ _).alloc (zD _) _
         have bR:M8.heap[F6.heap.size]?=some (.cells #[.string ⟨#[]⟩,.slice none 0 0,.slice none 0 0,.slice none 0 0,.slice none 0 0,.slice none 0 0,.slice none 0 0] 46 (0,0)):=by rw[←bN];exact aJ _ _
         have dF:wo.heap.size≤F6.heap.size:=bW.size
         go_simp
         have dQ:=dQ.mono (vF aS)
         have gK:=gK.mono (vF aS)
         have gD:=gD.mono (vF aS)
         have lT:=lT.mono (vF aS)
         have nF:=nF.mono (vF aS)
         have oZ:=oZ.mono (vF aS)
         have bW:=bW.trans (aS.mono bW.size)
         have aT:=aT.trans (aS.mono aT.size)
         obtain ⟨bk,eA⟩:∃b,F6.heap.size=b:=⟨_,rfl⟩
         rw[eA] at bR dF dQ gK gD lT nF oZ
         rw[eA]
         refine hK _ _ ⟨fun _=>aT,?_⟩
         clear hK K bN aS eA
         refine aF 36 (by kernel_rfl) rfl (fun K hK=>?_)
         refine aO 55 rfl rfl 16 (fun vs=>by kernel_rfl) #[.tmp 54] #[22] rfl #[.slice ag gs.length cg] (by first|rfl|simp[Act.eval]) (ab pI M8 aT) ?_
         rintro e' UI ⟨u8,rfl,Ix,aS⟩
         have dQ:=dQ.mono (aB aS)
         have gK:=gK.mono (aB aS)
         have gD:=gD.mono (aB aS)
         have lT:=lT.mono (aB aS)
         have nF:=nF.mono (aB aS)
         have oZ:=oZ.mono (aB aS)
         obtain ⟨Vh,UZ,rfl⟩:=bq Ix
         have fK:bk<M8.heap.size:=(zA bR).1
         have Ix:=(cB Ix (by have:=(ab HS).2.2.2.2.2.2;omega)).mono (vR bW.size fK)
         have bW:=bW.trans (aS.mono bW.size)
         have aT:=aT.trans (aS.mono aT.size)
         have bR:=(aS.block _ (zA bR).1).trans bR
         refine ⟨_,rfl,hK _ _ ⟨fun _=>aT,?_⟩⟩
         clear hK K aS fK
         simp only[Act.put,zL,zM,zN]
         have hT:=aT
         refine aw 37 (.agg #[.string nm,.slice none 0 0,.slice Gu (os.length) Gt,.slice Kx ((fY f ms).length) Kw,.slice PR (es.length) PN,.slice YT (rs.length) YS,.slice Vh (gs.length) UZ]) 56 rfl rfl (Or.inl ⟨by rfl,fun w' hw=>by go_simp⟩) hT ?_
         simp only[Act.put,zL,zM,zN]
         clear hT
         refine aF 39 (by kernel_rfl) rfl (fun K hK=>?_)
         obtain ⟨c0,c1,c2,c3,c4,c5,c6⟩:=kU bR
         have z:∀j,UI.frozen? ⟨bk,j,none⟩=false:=fun j=>by simp[World.frozen?,bR]
         have z0:=z 0
         have z1:=z 1
         have z2:=z 2
         have z3:=z 3
         have z4:=z 4
         have z5:=z 5
         have z6:=z 6
         have hC:=pK.new (nm:=nm) bW dF bR dQ gK gD lT nF oZ Ix
         go_simp
         refine hK _ _ ⟨fun _=>(ab gV).trans (hC.bU.mono (ab gV).size),?_⟩
         clear hK K
         refine a8 (by kernel_rfl) ?_
         have HC:=al hC
         clear hC bW aT dF bR z z0 z1 z2 z3 z4 z5 z6 c0 c1 c2 c3 c4 c5 c6 dQ gK gD lT nF oZ Ix
         go_wp2_with fail
         go_meet
         exact ⟨bk,_,_,_,_,_,_,_,rfl,⟨⟨_,_,rfl⟩,⟨_,_,rfl⟩,⟨_,_,rfl⟩,⟨_,_,rfl⟩,⟨_,_,rfl⟩⟩,HC⟩
       ·obtain ⟨TF,bN⟩:∃x,BF.alloc (.cells #[.string ⟨#[]⟩,.slice none 0 0,.slice none 0 0,.slice none 0 0,.slice none 0 0,.slice none 0 0,.slice none 0 0] 46)=x:=⟨_,rfl⟩
        have aS:Below BF.heap.size BF TF:=by rw[←bN];exact (zE _ _).alloc (zD _) _
        have bR:TF.heap[BF.heap.size]?=some (.cells #[.string ⟨#[]⟩,.slice none 0 0,.slice none 0 0,.slice none 0 0,.slice none 0 0,.slice none 0 0,.slice none 0 0] 46 (0,0)):=by rw[←bN];exact aJ _ _
        have dF:wo.heap.size≤BF.heap.size:=bW.size
        go_simp
        have dQ:=dQ.mono (vF aS)
        have gK:=gK.mono (vF aS)
        have gD:=gD.mono (vF aS)
        have lT:=lT.mono (vF aS)
        have nF:=nF.mono (vF aS)
        have bW:=bW.trans (aS.mono bW.size)
        have aT:=aT.trans (aS.mono aT.size)
        obtain ⟨bk,eA⟩:∃b,BF.heap.size=b:=⟨_,rfl⟩
        rw[eA] at bR dF dQ gK gD lT nF
        rw[eA]
        refine hK _ _ ⟨fun _=>aT,?_⟩
        clear hK K bN aS eA
        refine aF 30 (by kernel_rfl) rfl (fun K hK=>?_)
        refine aO 49 rfl rfl 33 (fun vs=>by kernel_rfl) #[.tmp 48] #[44] rfl #[.slice ar rs.length cr] (by first|rfl|simp[Act.eval]) (ab sG TF aT) ?_
        rintro e' QW ⟨u10,rfl,CC,aS⟩
        have dQ:=dQ.mono (aB aS)
        have gK:=gK.mono (aB aS)
        have gD:=gD.mono (aB aS)
        have lT:=lT.mono (aB aS)
        have nF:=nF.mono (aB aS)
        obtain ⟨Vw,Vd,rfl⟩:=bq CC
        have fK:bk<TF.heap.size:=(zA bR).1
        have CC:=(cB CC (by have:=(ab HS).2.2.2.2.2.1;omega)).mono (vR bW.size fK)
        have bW:=bW.trans (aS.mono bW.size)
        have aT:=aT.trans (aS.mono aT.size)
        have bR:=(aS.block _ (zA bR).1).trans bR
        refine ⟨_,rfl,hK _ _ ⟨fun _=>aT,?_⟩⟩
        clear hK K aS fK
        simp only[Act.put,zL,zM,zN]
        refine aF 36 (by kernel_rfl) rfl (fun K hK=>?_)
        refine aO 55 rfl rfl 16 (fun vs=>by kernel_rfl) #[.tmp 54] #[22] rfl #[.slice ag gs.length cg] (by first|rfl|simp[Act.eval]) (ab pI QW aT) ?_
        rintro e' UM ⟨u11,rfl,IB,aS⟩
        have dQ:=dQ.mono (aB aS)
        have gK:=gK.mono (aB aS)
        have gD:=gD.mono (aB aS)
        have lT:=lT.mono (aB aS)
        have nF:=nF.mono (aB aS)
        have CC:=CC.mono (aB aS)
        obtain ⟨Vv,Vc,rfl⟩:=bq IB
        have fK:bk<QW.heap.size:=(zA bR).1
        have IB:=(cB IB (by have:=(ab HS).2.2.2.2.2.2;omega)).mono (vR bW.size fK)
        have bW:=bW.trans (aS.mono bW.size)
        have aT:=aT.trans (aS.mono aT.size)
        have bR:=(aS.block _ (zA bR).1).trans bR
        refine ⟨_,rfl,hK _ _ ⟨fun _=>aT,?_⟩⟩
        clear hK K aS fK
        simp only[Act.put,zL,zM,zN]
        have hT:=aT
        refine aw 37 (.agg #[.string nm,.slice none 0 0,.slice Gu (os.length) Gt,.slice Kx ((fY f ms).length) Kw,.slice PR (es.length) PN,.slice Vw (rs.length) Vd,.slice Vv (gs.length) Vc]) 56 rfl rfl (Or.inl ⟨by rfl,fun w' hw=>by go_simp⟩) hT ?_
        simp only[Act.put,zL,zM,zN]
        clear hT
        refine aF 39 (by kernel_rfl) rfl (fun K hK=>?_)
        obtain ⟨c0,c1,c2,c3,c4,c5,c6⟩:=kU bR
        have z:∀j,UM.frozen? ⟨bk,j,none⟩=false:=fun j=>by simp[World.frozen?,bR]
        have z0:=z 0
        have z1:=z 1
        have z2:=z 2
        have z3:=z 3
        have z4:=z 4
        have z5:=z 5
        have z6:=z 6
        have hC:=pK.new (nm:=nm) bW dF bR dQ gK gD lT nF CC IB
        go_simp
        refine hK _ _ ⟨fun _=>(ab gV).trans (hC.bU.mono (ab gV).size),?_⟩
        clear hK K
        refine a8 (by kernel_rfl) ?_
        have HC:=al hC
        clear hC bW aT dF bR z z0 z1 z2 z3 z4 z5 z6 c0 c1 c2 c3 c4 c5 c6 dQ gK gD lT nF CC IB
        go_wp2_with fail
        go_meet
        exact ⟨bk,_,_,_,_,_,_,_,rfl,⟨⟨_,_,rfl⟩,⟨_,_,rfl⟩,⟨_,_,rfl⟩,⟨_,_,rfl⟩,⟨_,_,rfl⟩⟩,HC⟩
      ·obtain ⟨Kv,bN⟩:∃x,Bn.alloc (.cells #[.string ⟨#[]⟩,.slice none 0 0,.slice none 0 0,.slice none 0 0,.slice none 0 0,.slice none 0 0,.slice none 0 0] 46)=x:=⟨_,rfl⟩
       have aS:Below Bn.heap.size Bn Kv:=by rw[←bN];exact (zE _ _).alloc (zD _) _
       have bR:Kv.heap[Bn.heap.size]?=some (.cells #[.string ⟨#[]⟩,.slice none 0 0,.slice none 0 0,.slice none 0 0,.slice none 0 0,.slice none 0 0,.slice none 0 0] 46 (0,0)):=by rw[←bN];exact aJ _ _
       have dF:wo.heap.size≤Bn.heap.size:=bW.size
       go_simp
       have dQ:=dQ.mono (vF aS)
       have gK:=gK.mono (vF aS)
       have gD:=gD.mono (vF aS)
       have bW:=bW.trans (aS.mono bW.size)
       have aT:=aT.trans (aS.mono aT.size)
       obtain ⟨bk,eA⟩:∃b,Bn.heap.size=b:=⟨_,rfl⟩
       rw[eA] at bR dF dQ gK gD
       rw[eA]
       refine hK _ _ ⟨fun _=>aT,?_⟩
       clear hK K bN aS eA
       refine aF 24 (by kernel_rfl) rfl (fun K hK=>?_)
       refine aO 43 rfl rfl 18 (fun vs=>by kernel_rfl) #[.tmp 42] #[24] rfl #[.slice ae es.length dc] (by first|rfl|simp[Act.eval]) (ab M4 Kv aT) ?_
       rintro e' QV ⟨u13,aaC,rfl,yt,AP,aS⟩
       have dQ:=dQ.mono (aB aS)
       have gK:=gK.mono (aB aS)
       have gD:=gD.mono (aB aS)
       obtain ⟨Vu,Vb,rfl⟩:=bq yt
       have fK:bk<Kv.heap.size:=(zA bR).1
       have yt:=(cB yt (by have:=(ab HS).2.2.2.1;omega)).mono (vR bW.size fK)
       have AP:=AP.mono (Q8 bW.size fK)
       have bW:=bW.trans (aS.mono bW.size)
       have aT:=aT.trans (aS.mono aT.size)
       have bR:=(aS.block _ (zA bR).1).trans bR
       refine ⟨_,rfl,hK _ _ ⟨fun _=>aT,?_⟩⟩
       clear hK K aS fK
       simp only[Act.put,zL,zM,zN]
       refine aF 30 (by kernel_rfl) rfl (fun K hK=>?_)
       refine aO 49 rfl rfl 33 (fun vs=>by kernel_rfl) #[.tmp 48] #[44] rfl #[.slice ar rs.length cr] (by first|rfl|simp[Act.eval]) (ab sG QV aT) ?_
       rintro e' QU ⟨u14,rfl,CB,aS⟩
       have dQ:=dQ.mono (aB aS)
       have gK:=gK.mono (aB aS)
       have gD:=gD.mono (aB aS)
       have yt:=yt.mono (aB aS)
       have AP:=AP.mono (aB aS)
       obtain ⟨Vt,Va,rfl⟩:=bq CB
       have fK:bk<QV.heap.size:=(zA bR).1
       have CB:=(cB CB (by have:=(ab HS).2.2.2.2.2.1;omega)).mono (vR bW.size fK)
       have bW:=bW.trans (aS.mono bW.size)
       have aT:=aT.trans (aS.mono aT.size)
       have bR:=(aS.block _ (zA bR).1).trans bR
       refine ⟨_,rfl,hK _ _ ⟨fun _=>aT,?_⟩⟩
       clear hK K aS fK
       simp only[Act.put,zL,zM,zN]
       refine aF 36 (by kernel_rfl) rfl (fun K hK=>?_)
       refine aO 55 rfl rfl 16 (fun vs=>by kernel_rfl) #[.tmp 54] #[22] rfl #[.slice ag gs.length cg] (by first|rfl|simp[Act.eval]) (ab pI QU aT) ?_
       rintro e' UL ⟨u15,rfl,IA,aS⟩
       have dQ:=dQ.mono (aB aS)
       have gK:=gK.mono (aB aS)
       have gD:=gD.mono (aB aS)
       have yt:=yt.mono (aB aS)
       have AP:=AP.mono (aB aS)
       have CB:=CB.mono (aB aS)
       obtain ⟨Vs,U',rfl⟩:=bq IA
       have fK:bk<QU.heap.size:=(zA bR).1
       have IA:=(cB IA (by have:=(ab HS).2.2.2.2.2.2;omega)).mono (vR bW.size fK)
       have bW:=bW.trans (aS.mono bW.size)
       have aT:=aT.trans (aS.mono aT.size)
       have bR:=(aS.block _ (zA bR).1).trans bR
       refine ⟨_,rfl,hK _ _ ⟨fun _=>aT,?_⟩⟩
       clear hK K aS fK
       simp only[Act.put,zL,zM,zN]
       have hT:=aT
       refine aw 37 (.agg #[.string nm,.slice none 0 0,.slice Gu (os.length) Gt,.slice Kx ((fY f ms).length) Kw,.slice Vu (es.length) Vb,.slice Vt (rs.length) Va,.slice Vs (gs.length) U']) 56 rfl rfl (Or.inl ⟨by rfl,fun w' hw=>by go_simp⟩) hT ?_
       simp only[Act.put,zL,zM,zN]
       clear hT
       refine aF 39 (by kernel_rfl) rfl (fun K hK=>?_)
       obtain ⟨c0,c1,c2,c3,c4,c5,c6⟩:=kU bR
       have z:∀j,UL.frozen? ⟨bk,j,none⟩=false:=fun j=>by simp[World.frozen?,bR]
       have z0:=z 0
       have z1:=z 1
       have z2:=z 2
       have z3:=z 3
       have z4:=z 4
       have z5:=z 5
       have z6:=z 6
       have hC:=pK.new (nm:=nm) bW dF bR dQ gK gD yt AP CB IA
       go_simp
       refine hK _ _ ⟨fun _=>(ab gV).trans (hC.bU.mono (ab gV).size),?_⟩
       clear hK K
       refine a8 (by kernel_rfl) ?_
       have HC:=al hC
       clear hC bW aT dF bR z z0 z1 z2 z3 z4 z5 z6 c0 c1 c2 c3 c4 c5 c6 dQ gK gD yt AP CB IA
       go_wp2_with fail
       go_meet
       exact ⟨bk,_,_,_,_,_,_,_,rfl,⟨⟨_,_,rfl⟩,⟨_,_,rfl⟩,⟨_,_,rfl⟩,⟨_,_,rfl⟩,⟨_,_,rfl⟩⟩,HC⟩
     ·obtain ⟨Ku,bN⟩:∃x,yX.alloc (.cells #[.string ⟨#[]⟩,.slice none 0 0,.slice none 0 0,.slice none 0 0,.slice none 0 0,.slice none 0 0,.slice none 0 0] 46)=x:=⟨_,rfl⟩
      have aS:Below yX.heap.size yX Ku:=by rw[←bN];exact (zE _ _).alloc (zD _) _
      have bR:Ku.heap[yX.heap.size]?=some (.cells #[.string ⟨#[]⟩,.slice none 0 0,.slice none 0 0,.slice none 0 0,.slice none 0 0,.slice none 0 0,.slice none 0 0] 46 (0,0)):=by rw[←bN];exact aJ _ _
      have dF:wo.heap.size≤yX.heap.size:=bW.size
      go_simp
      have dQ:=dQ.mono (vF aS)
      have bW:=bW.trans (aS.mono bW.size)
      have aT:=aT.trans (aS.mono aT.size)
      obtain ⟨bk,eA⟩:∃b,yX.heap.size=b:=⟨_,rfl⟩
      rw[eA] at bR dF dQ
      rw[eA]
      refine hK _ _ ⟨fun _=>aT,?_⟩
      clear hK K bN aS eA
      refine aF 18 (by kernel_rfl) rfl (fun K hK=>?_)
      refine aO 37 rfl rfl 17 (fun vs=>by kernel_rfl) #[.tmp 34,.tmp 36] #[23,3] rfl #[.slice am ms.length dk,.int .i64 (dz+1)] (by first|rfl|simp[Act.eval]) (ab JV Ku aT) ?_
      rintro e' QT ⟨u17,aaB,rfl,uR,wb,aS⟩
      have dQ:=dQ.mono (aB aS)
      obtain ⟨Vr,U9,rfl⟩:=bq uR
      have fK:bk<Ku.heap.size:=(zA bR).1
      have uR:=(cB uR (by have:=(ab HS).2.2.1;have:=pq (f:=f) (l:=ms);omega)).mono (vR bW.size fK)
      have wb:=wb.mono (Q8 bW.size fK)
      have bW:=bW.trans (aS.mono bW.size)
      have aT:=aT.trans (aS.mono aT.size)
      have bR:=(aS.block _ (zA bR).1).trans bR
      refine ⟨_,rfl,hK _ _ ⟨fun _=>aT,?_⟩⟩
      clear hK K aS fK
      simp only[Act.put,zL,zM,zN]
      refine aF 24 (by kernel_rfl) rfl (fun K hK=>?_)
      refine aO 43 rfl rfl 18 (fun vs=>by kernel_rfl) #[.tmp 42] #[24] rfl #[.slice ae es.length dc] (by first|rfl|simp[Act.eval]) (ab M4 QT aT) ?_
      rintro e' QS ⟨u18,aaA,rfl,yr,AO,aS⟩
      have dQ:=dQ.mono (aB aS)
      have uR:=uR.mono (aB aS)
      have wb:=wb.mono (aB aS)
      obtain ⟨Vq,U8,rfl⟩:=bq yr
      have fK:bk<QT.heap.size:=(zA bR).1
      have yr:=(cB yr (by have:=(ab HS).2.2.2.1;omega)).mono (vR bW.size fK)
      have AO:=AO.mono (Q8 bW.size fK)
      have bW:=bW.trans (aS.mono bW.size)
      have aT:=aT.trans (aS.mono aT.size)
      have bR:=(aS.block _ (zA bR).1).trans bR
      refine ⟨_,rfl,hK _ _ ⟨fun _=>aT,?_⟩⟩
      clear hK K aS fK
      simp only[Act.put,zL,zM,zN]
      refine aF 30 (by kernel_rfl) rfl (fun K hK=>?_)
      refine aO 49 rfl rfl 33 (fun vs=>by kernel_rfl) #[.tmp 48] #[44] rfl #[.slice ar rs.length cr] (by first|rfl|simp[Act.eval]) (ab sG QS aT) ?_
      rintro e' QR ⟨u19,rfl,CA,aS⟩
      have dQ:=dQ.mono (aB aS)
      have uR:=uR.mono (aB aS)
      have wb:=wb.mono (aB aS)
      have yr:=yr.mono (aB aS)
      have AO:=AO.mono (aB aS)
      obtain ⟨Vp,U7,rfl⟩:=bq CA
      have fK:bk<QS.heap.size:=(zA bR).1
      have CA:=(cB CA (by have:=(ab HS).2.2.2.2.2.1;omega)).mono (vR bW.size fK)
      have bW:=bW.trans (aS.mono bW.size)
      have aT:=aT.trans (aS.mono aT.size)
      have bR:=(aS.block _ (zA bR).1).trans bR
      refine ⟨_,rfl,hK _ _ ⟨fun _=>aT,?_⟩⟩
      clear hK K aS fK
      simp only[Act.put,zL,zM,zN]
      refine aF 36 (by kernel_rfl) rfl (fun K hK=>?_)
      refine aO 55 rfl rfl 16 (fun vs=>by kernel_rfl) #[.tmp 54] #[22] rfl #[.slice ag gs.length cg] (by first|rfl|simp[Act.eval]) (ab pI QR aT) ?_
      rintro e' UK ⟨u20,rfl,Iz,aS⟩
      have dQ:=dQ.mono (aB aS)
      have uR:=uR.mono (aB aS)
      have wb:=wb.mono (aB aS)
      have yr:=yr.mono (aB aS)
      have AO:=AO.mono (aB aS)
      have CA:=CA.mono (aB aS)
      obtain ⟨Vo,U6,rfl⟩:=bq Iz
      have fK:bk<QR.heap.size:=(zA bR).1
      have Iz:=(cB Iz (by have:=(ab HS).2.2.2.2.2.2;omega)).mono (vR bW.size fK)
      have bW:=bW.trans (aS.mono bW.size)
      have aT:=aT.trans (aS.mono aT.size)
      have bR:=(aS.block _ (zA bR).1).trans bR
      refine ⟨_,rfl,hK _ _ ⟨fun _=>aT,?_⟩⟩
      clear hK K aS fK
      simp only[Act.put,zL,zM,zN]
      have hT:=aT
      refine aw 37 (.agg #[.string nm,.slice none 0 0,.slice Gu (os.length) Gt,.slice Vr ((fY f ms).length) U9,.slice Vq (es.length) U8,.slice Vp (rs.length) U7,.slice Vo (gs.length) U6]) 56 rfl rfl (Or.inl ⟨by rfl,fun w' hw=>by go_simp⟩) hT ?_
      simp only[Act.put,zL,zM,zN]
      clear hT
      refine aF 39 (by kernel_rfl) rfl (fun K hK=>?_)
      obtain ⟨c0,c1,c2,c3,c4,c5,c6⟩:=kU bR
      have z:∀j,UK.frozen? ⟨bk,j,none⟩=false:=fun j=>by simp[World.frozen?,bR]
      have z0:=z 0
      have z1:=z 1
      have z2:=z 2
      have z3:=z 3
      have z4:=z 4
      have z5:=z 5
      have z6:=z 6
      have hC:=pK.new (nm:=nm) bW dF bR dQ uR wb yr AO CA Iz
      go_simp
      refine hK _ _ ⟨fun _=>(ab gV).trans (hC.bU.mono (ab gV).size),?_⟩
      clear hK K
      refine a8 (by kernel_rfl) ?_
      have HC:=al hC
      clear hC bW aT dF bR z z0 z1 z2 z3 z4 z5 z6 c0 c1 c2 c3 c4 c5 c6 dQ uR wb yr AO CA Iz
      go_wp2_with fail
      go_meet
      exact ⟨bk,_,_,_,_,_,_,_,rfl,⟨⟨_,_,rfl⟩,⟨_,_,rfl⟩,⟨_,_,rfl⟩,⟨_,_,rfl⟩,⟨_,_,rfl⟩⟩,HC⟩
    ·obtain ⟨Kt,bN⟩:∃x,wd.alloc (.cells #[.string ⟨#[]⟩,.slice none 0 0,.slice none 0 0,.slice none 0 0,.slice none 0 0,.slice none 0 0,.slice none 0 0] 46)=x:=⟨_,rfl⟩
     have aS:Below wd.heap.size wd Kt:=by rw[←bN];exact (zE _ _).alloc (zD _) _
     have bR:Kt.heap[wd.heap.size]?=some (.cells #[.string ⟨#[]⟩,.slice none 0 0,.slice none 0 0,.slice none 0 0,.slice none 0 0,.slice none 0 0,.slice none 0 0] 46 (0,0)):=by rw[←bN];exact aJ _ _
     have dF:wo.heap.size≤wd.heap.size:=bW.size
     go_simp
     have bW:=bW.trans (aS.mono bW.size)
     have aT:=aT.trans (aS.mono aT.size)
     obtain ⟨bk,eA⟩:∃b,wd.heap.size=b:=⟨_,rfl⟩
     rw[eA] at bR dF
     rw[eA]
     refine hK _ _ ⟨fun _=>aT,?_⟩
     clear hK K bN aS eA
     refine aF 10 (by kernel_rfl) rfl (fun K hK=>?_)
     refine aO 29 rfl rfl 16 (fun vs=>by kernel_rfl) #[.tmp 28] #[22] rfl #[.slice ao os.length co] (by first|rfl|simp[Act.eval]) (ab Gh Kt aT) ?_
     rintro e' QQ ⟨u22,rfl,pZ,aS⟩
     obtain ⟨Vn,U5,rfl⟩:=bq pZ
     have fK:bk<Kt.heap.size:=(zA bR).1
     have pZ:=(cB pZ (by have:=(ab HS).2.1;omega)).mono (vR bW.size fK)
     have bW:=bW.trans (aS.mono bW.size)
     have aT:=aT.trans (aS.mono aT.size)
     have bR:=(aS.block _ (zA bR).1).trans bR
     refine ⟨_,rfl,hK _ _ ⟨fun _=>aT,?_⟩⟩
     clear hK K aS fK
     simp only[Act.put,zL,zM,zN]
     refine aF 18 (by kernel_rfl) rfl (fun K hK=>?_)
     refine aO 37 rfl rfl 17 (fun vs=>by kernel_rfl) #[.tmp 34,.tmp 36] #[23,3] rfl #[.slice am ms.length dk,.int .i64 (dz+1)] (by first|rfl|simp[Act.eval]) (ab JV QQ aT) ?_
     rintro e' QP ⟨u23,aaz,rfl,uQ,wa,aS⟩
     have pZ:=pZ.mono (aB aS)
     obtain ⟨Vm,U4,rfl⟩:=bq uQ
     have fK:bk<QQ.heap.size:=(zA bR).1
     have uQ:=(cB uQ (by have:=(ab HS).2.2.1;have:=pq (f:=f) (l:=ms);omega)).mono (vR bW.size fK)
     have wa:=wa.mono (Q8 bW.size fK)
     have bW:=bW.trans (aS.mono bW.size)
     have aT:=aT.trans (aS.mono aT.size)
     have bR:=(aS.block _ (zA bR).1).trans bR
     refine ⟨_,rfl,hK _ _ ⟨fun _=>aT,?_⟩⟩
     clear hK K aS fK
     simp only[Act.put,zL,zM,zN]
     refine aF 24 (by kernel_rfl) rfl (fun K hK=>?_)
     refine aO 43 rfl rfl 18 (fun vs=>by kernel_rfl) #[.tmp 42] #[24] rfl #[.slice ae es.length dc] (by first|rfl|simp[Act.eval]) (ab M4 QP aT) ?_
     rintro e' QO ⟨u24,aay,rfl,yq,AN,aS⟩
     have pZ:=pZ.mono (aB aS)
     have uQ:=uQ.mono (aB aS)
     have wa:=wa.mono (aB aS)
     obtain ⟨Vl,U3,rfl⟩:=bq yq
     have fK:bk<QP.heap.size:=(zA bR).1
     have yq:=(cB yq (by have:=(ab HS).2.2.2.1;omega)).mono (vR bW.size fK)
     have AN:=AN.mono (Q8 bW.size fK)
     have bW:=bW.trans (aS.mono bW.size)
     have aT:=aT.trans (aS.mono aT.size)
     have bR:=(aS.block _ (zA bR).1).trans bR
     refine ⟨_,rfl,hK _ _ ⟨fun _=>aT,?_⟩⟩
     clear hK K aS fK
     simp only[Act.put,zL,zM,zN]
     refine aF 30 (by kernel_rfl) rfl (fun K hK=>?_)
     refine aO 49 rfl rfl 33 (fun vs=>by kernel_rfl) #[.tmp 48] #[44] rfl #[.slice ar rs.length cr] (by first|rfl|simp[Act.eval]) (ab sG QO aT) ?_
     rintro e' QN ⟨u25,rfl,Cz,aS⟩
     have pZ:=pZ.mono (aB aS)
     have uQ:=uQ.mono (aB aS)
     have wa:=wa.mono (aB aS)
     have yq:=yq.mono (aB aS)
     have AN:=AN.mono (aB aS)
     obtain ⟨Vk,U2,rfl⟩:=bq Cz
     have fK:bk<QO.heap.size:=(zA bR).1
     have Cz:=(cB Cz (by have:=(ab HS).2.2.2.2.2.1;omega)).mono (vR bW.size fK)
     have bW:=bW.trans (aS.mono bW.size)
     have aT:=aT.trans (aS.mono aT.size)
     have bR:=(aS.block _ (zA bR).1).trans bR
     refine ⟨_,rfl,hK _ _ ⟨fun _=>aT,?_⟩⟩
     clear hK K aS fK
     simp only[Act.put,zL,zM,zN]
     refine aF 36 (by kernel_rfl) rfl (fun K hK=>?_)
     refine aO 55 rfl rfl 16 (fun vs=>by kernel_rfl) #[.tmp 54] #[22] rfl #[.slice ag gs.length cg] (by first|rfl|simp[Act.eval]) (ab pI QN aT) ?_
     rintro e' UJ ⟨u26,rfl,Iy,aS⟩
     have pZ:=pZ.mono (aB aS)
     have uQ:=uQ.mono (aB aS)
     have wa:=wa.mono (aB aS)
     have yq:=yq.mono (aB aS)
     have AN:=AN.mono (aB aS)
     have Cz:=Cz.mono (aB aS)
     obtain ⟨Vj,U1,rfl⟩:=bq Iy
     have fK:bk<QN.heap.size:=(zA bR).1
     have Iy:=(cB Iy (by have:=(ab HS).2.2.2.2.2.2;omega)).mono (vR bW.size fK)
     have bW:=bW.trans (aS.mono bW.size)
     have aT:=aT.trans (aS.mono aT.size)
     have bR:=(aS.block _ (zA bR).1).trans bR
     refine ⟨_,rfl,hK _ _ ⟨fun _=>aT,?_⟩⟩
     clear hK K aS fK
     simp only[Act.put,zL,zM,zN]
     have hT:=aT
     refine aw 37 (.agg #[.string nm,.slice none 0 0,.slice Vn (os.length) U5,.slice Vm ((fY f ms).length) U4,.slice Vl (es.length) U3,.slice Vk (rs.length) U2,.slice Vj (gs.length) U1]) 56 rfl rfl (Or.inl ⟨by rfl,fun w' hw=>by go_simp⟩) hT ?_
     simp only[Act.put,zL,zM,zN]
     clear hT
     refine aF 39 (by kernel_rfl) rfl (fun K hK=>?_)
     obtain ⟨c0,c1,c2,c3,c4,c5,c6⟩:=kU bR
     have z:∀j,UJ.frozen? ⟨bk,j,none⟩=false:=fun j=>by simp[World.frozen?,bR]
     have z0:=z 0
     have z1:=z 1
     have z2:=z 2
     have z3:=z 3
     have z4:=z 4
     have z5:=z 5
     have z6:=z 6
     have hC:=pK.new (nm:=nm) bW dF bR pZ uQ wa yq AN Cz Iy
     go_simp
     refine hK _ _ ⟨fun _=>(ab gV).trans (hC.bU.mono (ab gV).size),?_⟩
     clear hK K
     refine a8 (by kernel_rfl) ?_
     have HC:=al hC
     clear hC bW aT dF bR z z0 z1 z2 z3 z4 z5 z6 c0 c1 c2 c3 c4 c5 c6 pZ uQ wa yq AN Cz Iy
     go_wp2_with fail
     go_meet
     exact ⟨bk,_,_,_,_,_,_,_,rfl,⟨⟨_,_,rfl⟩,⟨_,_,rfl⟩,⟨_,_,rfl⟩,⟨_,_,rfl⟩,⟨_,_,rfl⟩⟩,HC⟩
   case rest =>
    obtain ⟨b,uo,um,ue,ur,ug,T8,T9,rfl,⟨⟨Ve,UW,rfl⟩,⟨Vf,UX,rfl⟩,⟨Vg,UY,rfl⟩,⟨PO,PL,rfl⟩,⟨PQ,PM,rfl⟩⟩,HC⟩:=hcut
    have HN:Hid (wc.ownsRow wo.heap.size 42 6 (.slice none 0 0) 0 []):=⟨rfl,.inl ⟨rfl,rfl⟩⟩
    obtain ⟨x0,x1,x2,x3,x4,x5,x6⟩:=ab dD wc ((ab gV).trans ((ab HC).bU.mono (ab gV).size))
    clear Gh JV M4 sG pI
    go_wp2_with fail
    clear x0 x1 x2 x3 x4 x5 x6
    go_loopg [8] fs.length (fun gk v8 wi=>∃(k:Nat) (uf:Value),v8=.int .i64 (k:Int)∧gk=fs.length-k∧k≤fs.length∧Hid (pK wo wi b (uf) (.slice Ve os.length UW) (.slice Vf (fY f ms).length UX) (.slice Vg es.length UY) (.slice PO rs.length PL) (.slice PQ gs.length PM) T8 T9 nm os (fY f ms) es rs gs)∧Hid (wi.ownsRow wo.heap.size 42 6 uf k (fB (fs.take k))))
    case atStart=>exact ⟨0,_,rfl,rfl,by omega,HC,HN⟩
    case round =>
     obtain ⟨k,uf,rfl,gL,lZ,vE,mb⟩:=hrel
     have kH:=al gL
     clear gL HC HN
     obtain ⟨Br,Bq,rfl⟩:=bq (ab mb)
     have YG:=al (show Below W.heap.size W wr from (ab gV).trans ((ab vE).bU.mono (ab gV).size))
     obtain ⟨x0,x1,x2,x3,x4,x5,x6⟩:=ab dD wr (ab YG)
     by_cases fV:k<fs.length
     ·obtain ⟨gv,ov,rfl,Lp,l7⟩:=ab Yd (by omega)
      have oV:=List.getElem?_eq_getElem fV
      obtain ⟨y,Rt⟩:∃y,fs[k]=y:=⟨_,rfl⟩
      rw[Rt] at oV
      have wu:Hid (∀w',Below W.heap.size W w'→w'.cell? ⟨gv,ov+k*6,none⟩=some (.int .i64 y.aQ)∧w'.cell? ⟨gv,ov+k*6+1,none⟩=some (.string y.key)∧w'.cell? ⟨gv,ov+k*6+2,none⟩=some (.string y.ty)∧w'.cell? ⟨gv,ov+k*6+3,none⟩=some (.string y.name)∧w'.cell? ⟨gv,ov+k*6+4,none⟩=some (.int .i64 y.num)∧w'.cell? ⟨gv,ov+k*6+5,none⟩=some (.int .i64 y.aE)):=by
       intro w' hb
       have key:∀(j:Nat) (x:Value),j<6→y.cs[j]?=some x→w'.cell? ⟨gv,ov+(k*6+j),none⟩=some x:=fun j x hj hx=>(hb.cell (p:=⟨gv,ov+(k*6+j),none⟩) Lp).trans (l7 _ _ (by unfold fB;rw[lJ Fd.cs 6 (fun _=>rfl) fs k j y oV hj];exact hx))
       exact ⟨key 0 _ (by decide) rfl,key 1 _ (by decide) rfl,key 2 _ (by decide) rfl,key 3 _ (by decide) rfl,key 4 _ (by decide) rfl,key 5 _ (by decide) rfl⟩
      have tJ:=al (KE oV)
      have Zd:(0:Int)≤(k:Int):=zH _
      have sS:(k:Int)<(fs.length:Int):=by omega
      have ed:=al fV
      clear l7 oV Rt fV
      go_upto_region 9 with fail
      refine wp_region_any (by kernel_rfl) (bL (z:=13) (T:=(fun w':World=>Below W.heap.size W w'∧w'.cell? ⟨b,1,none⟩=some (.slice Br k Bq))) _ _ _ _ ?_)
      try (change cd _ _ _ _ _ _ _ _ _ (World.drew _))
      have hC:=(ab vE).below (below_drewN (zE wr.heap.size wr) 1)
      have hO:=dL (ab mb) (below_drewN (zE wr.heap.size wr) 1)
      change pK wo wr.drew b (.slice Br k Bq) (.slice Ve os.length UW) (.slice Vf (fY f ms).length UX) (.slice Vg es.length UY) (.slice PO rs.length PL) (.slice PQ gs.length PM) T8 T9 nm os (fY f ms) es rs gs at hC
      change World.ownsRow wr.drew _ _ _ _ _ _ at hO
      obtain ⟨wd,nD⟩:∃x,wr.drew=x:=⟨_,rfl⟩
      rw[nD] at hC hO ⊢
      have hT:(fun w':World=>Below W.heap.size W w'∧w'.cell? ⟨b,1,none⟩=some (.slice Br k Bq)) wd:=⟨(ab gV).trans (hC.bU.mono (ab gV).size),cell_of_row _ _ _ _ _ _ hC.dt⟩
      clear x0 x1 x2 x3 x4 x5 x6
      refine aw 0 (.pointer (some ⟨b,1,none⟩)) 67 rfl rfl (Or.inl ⟨by rfl,fun w' hw=>by obtain ⟨fN,vZ⟩:=hw;obtain ⟨x0,x1,x2,x3,x4,x5,x6⟩:=ab dD w' fN;obtain ⟨y0,y1,y2,y3,y4,y5⟩:=ab wu w' fN;go_simp⟩) hT ?_
      simp only[Act.put,zL,zM,zN]
      refine aw 1 (.slice Br k Bq) 68 rfl rfl (Or.inl ⟨by rfl,fun w' hw=>by obtain ⟨fN,vZ⟩:=hw;obtain ⟨x0,x1,x2,x3,x4,x5,x6⟩:=ab dD w' fN;obtain ⟨y0,y1,y2,y3,y4,y5⟩:=ab wu w' fN;go_simp⟩) hT ?_
      simp only[Act.put,zL,zM,zN]
      refine aw 2 (.slice (some ⟨g,o,none⟩) l.length c) 69 rfl rfl (Or.inl ⟨by rfl,fun w' hw=>by obtain ⟨fN,vZ⟩:=hw;obtain ⟨x0,x1,x2,x3,x4,x5,x6⟩:=ab dD w' fN;obtain ⟨y0,y1,y2,y3,y4,y5⟩:=ab wu w' fN;go_simp⟩) hT ?_
      simp only[Act.put,zL,zM,zN]
      refine aw 3 (.int .i64 (i:Int)) 70 rfl rfl (Or.inl ⟨by rfl,fun w' hw=>by obtain ⟨fN,vZ⟩:=hw;obtain ⟨x0,x1,x2,x3,x4,x5,x6⟩:=ab dD w' fN;obtain ⟨y0,y1,y2,y3,y4,y5⟩:=ab wu w' fN;go_simp⟩) hT ?_
      simp only[Act.put,zL,zM,zN]
      refine aw 4 (.pointer (some ⟨g,o+i*7,none⟩)) 71 rfl rfl (Or.inl ⟨by rfl,fun w' hw=>by obtain ⟨fN,vZ⟩:=hw;obtain ⟨x0,x1,x2,x3,x4,x5,x6⟩:=ab dD w' fN;obtain ⟨y0,y1,y2,y3,y4,y5⟩:=ab wu w' fN;go_simp⟩) hT ?_
      simp only[Act.put,zL,zM,zN]
      refine aw 5 (.pointer (some ⟨g,o+i*7+1,none⟩)) 72 rfl rfl (Or.inl ⟨by rfl,fun w' hw=>by obtain ⟨fN,vZ⟩:=hw;obtain ⟨x0,x1,x2,x3,x4,x5,x6⟩:=ab dD w' fN;obtain ⟨y0,y1,y2,y3,y4,y5⟩:=ab wu w' fN;go_simp⟩) hT ?_
      simp only[Act.put,zL,zM,zN]
      refine aw 6 (.slice (some ⟨gv,ov,none⟩) fs.length cf) 73 rfl rfl (Or.inl ⟨by rfl,fun w' hw=>by obtain ⟨fN,vZ⟩:=hw;obtain ⟨x0,x1,x2,x3,x4,x5,x6⟩:=ab dD w' fN;obtain ⟨y0,y1,y2,y3,y4,y5⟩:=ab wu w' fN;go_simp⟩) hT ?_
      simp only[Act.put,zL,zM,zN]
      refine aw 7 (.int .i64 (k:Int)) 74 rfl rfl (Or.inl ⟨by rfl,fun w' hw=>by obtain ⟨fN,vZ⟩:=hw;obtain ⟨x0,x1,x2,x3,x4,x5,x6⟩:=ab dD w' fN;obtain ⟨y0,y1,y2,y3,y4,y5⟩:=ab wu w' fN;go_simp⟩) hT ?_
      simp only[Act.put,zL,zM,zN]
      refine aw 8 (.pointer (some ⟨gv,ov+k*6,none⟩)) 75 rfl rfl (Or.inl ⟨by rfl,fun w' hw=>by obtain ⟨fN,vZ⟩:=hw;obtain ⟨x0,x1,x2,x3,x4,x5,x6⟩:=ab dD w' fN;obtain ⟨y0,y1,y2,y3,y4,y5⟩:=ab wu w' fN;go_simp⟩) hT ?_
      simp only[Act.put,zL,zM,zN]
      refine aw 9 (.agg #[.int .i64 y.aQ,.string y.key,.string y.ty,.string y.name,.int .i64 y.num,.int .i64 y.aE]) 76 rfl rfl (Or.inl ⟨by rfl,fun w' hw=>by obtain ⟨fN,vZ⟩:=hw;obtain ⟨x0,x1,x2,x3,x4,x5,x6⟩:=ab dD w' fN;obtain ⟨y0,y1,y2,y3,y4,y5⟩:=ab wu w' fN;go_simp⟩) hT ?_
      simp only[Act.put,zL,zM,zN]
      obtain ⟨wy,J5⟩:∃x,wd.alloc (.cells #[.int .i64 y.aQ,.string y.key,.string y.ty,.string y.name,.int .i64 y.num,.int .i64 y.aE] 42)=x:=⟨_,rfl⟩
      have aS:Below wd.heap.size wd wy:=by rw[←J5];exact (zE _ _).alloc (zD _) _
      have hC:=hC.below aS
      have hO:=dL hO aS
      have hT:(fun w':World=>Below W.heap.size W w'∧w'.cell? ⟨b,1,none⟩=some (.slice Br k Bq)) wy:=⟨(ab gV).trans (hC.bU.mono (ab gV).size),cell_of_row _ _ _ _ _ _ hC.dt⟩
      have Lk:∀j u,y.cs[j]?=some u→wy.cell? ((⟨wd.heap.size,0,none⟩:Addr).add j)=some u:=by rw[←J5];exact qi _ _ _
      refine aF 10 (by kernel_rfl) rfl (fun K hK=>?_)
      go_simp
      refine hK _ _ ⟨fun _=>hT,?_⟩
      clear hK K J5 aS nD
      refine aF 11 (by kernel_rfl) rfl (fun K hK=>?_)
      refine lB 78 rfl rfl (.tmp 68) (.tmp 77) 43 rfl wo.heap.size 42 j0 (.agg #[.int .i64 0,.string ByteArray.empty,.string ByteArray.empty,.string ByteArray.empty,.int .i64 0,.int .i64 0]) 6 72 Tryz.underlying43 hj VP VO VM rfl (by decide) (.slice Br k Bq) k _ (by first|rfl|simp[Act.eval]) hO ⟨wd.heap.size,0,none⟩ 1 1 y.cs (by first|rfl|simp[Act.eval]) rfl Lk (by simp[Fd.cs,Value.oneCell']) (by have:=ab ed;have:=(ab HS).1;unfold maxLen;omega) (by have:=ab ed;have:=(ab HS).1;omega) hC.bU.size ?_
      intro v' w2 ho ep ei
      have D2:=hC.Cp ep (fun j e=>(hO.lt j e).1) (dR hO hC.dt (by decide))
      obtain ⟨a',c',rfl⟩:=bq ho
      have Gd:(fun w':World=>Below W.heap.size W w'∧w'.cell? ⟨b,1,none⟩=some (.slice Br k Bq)) w2:=⟨(ab gV).trans (D2.bU.mono (ab gV).size),cell_of_row _ _ _ _ _ _ D2.dt⟩
      rw[←ab tJ] at ho
      refine hK _ _ ⟨fun _=>Gd,?_⟩
      clear hK K hO hT Lk
      simp only[Act.put,zL,zM,zN]
      refine aw 12 (.pointer (some ⟨b,1,none⟩)) 79 rfl rfl (Or.inl ⟨by rfl,fun w' hw=>by obtain ⟨fN,vZ⟩:=hw;go_simp⟩) Gd ?_
      simp only[Act.put,zL,zM,zN]
      have Qa:=Gd.2
      have Oc:w2.frozen? ⟨b,1,none⟩=false:=by simp[World.frozen?,D2.dt]
      have SB:=hC.grow ep (u':=.slice a' (k+1) c') D2 ei
      have Se:=(bh (j:=1) D2.dt (.slice a' (k+1) c')).2
      have Sy:=ho.kept Se (.inr (dR ho D2.dt (by decide)))
      refine aF 13 (by kernel_rfl) rfl (fun K hK=>?_)
      go_simp
      refine hK _ _ ⟨fun h=>absurd rfl h,?_⟩
      have YF:=al SB
      have Ys:=al Sy
      clear hK K Qa Oc Gd ho hC D2 SB Sy Se ei ep
      refine a8 (by kernel_rfl) ?_
      go_wp2
      go_roundg (fs.length-(k+1))
      case measure=>have:=ab kH;have:=ab ed;omega
      case rel=>exact ⟨k+1,_,by go_num,rfl,ab ed,YF,Ys⟩
     ·obtain rfl:k=fs.length:=by omega
      have hO:=ab mb
      rw[List.take_length] at hO
      have Yr:=al hO
      clear hO mb
      obtain ⟨c0,c1,c2,c3,c4,c5,c6⟩:=kU (ab vE).dt
      have sS:¬(fs.length:Int)<(fs.length:Int):=by omega
      have iQ:=al (show w0.heap.size≤wr.heap.size from Nat.le_trans (ab HB).size (ab vE).bU.size)
      have Yq:=al ((ab HO).kept (show wo.grownBy wr none from ⟨(ab vE).bU.os,(ab vE).bU.tape,(ab vE).bU.output,(ab vE).bU.size,fun q hq _=>(ab vE).bU.block q hq⟩) (by cases u5.ownBlock with|none=>exact .inl rfl|some q=>exact .inr (by simp)))
      have vN:=al ((ab HB).trans ((ab vE).bU.mono (ab HB).size))
      obtain ⟨Eh,Ee,rfl⟩:=bq (ab HO)
      go_wp2_with (at_builtin;refine wpList_append_own_at _ rfl _ _ 23 rfl w0.heap.size 46 i0 (.agg #[.string ByteArray.empty,.slice none 0 0,.slice none 0 0,.slice none 0 0,.slice none 0 0,.slice none 0 0,.slice none 0 0]) 7 160 Tryz.underlying23 hi fU dS da rfl (by decide) _ _ _ rfl ((ab Yq).alloc _) ⟨wr.heap.size,0,none⟩ 1 1 [.string nm,.slice Br fs.length Bq,.slice Ve os.length UW,.slice Vf (fY f ms).length UX,.slice Vg es.length UY,.slice PO rs.length PL,.slice PQ gs.length PM] rfl rfl (qi _ _ _) (by simp[Value.oneCell']) (by have:=ab bu;unfold maxLen;omega) (by have:=ab bu;have:=ab Hl;omega) (by rw[zJ];have:=ab iQ;omega) ?_;intro v' w2 ho ep _ ei;have Yp:=al ho;have YC:=al (G8 (ab HO) (ab TB) (ab vE) (ab Yr) (ab HS).1 (ab HB).size (ab Hr) ((zE _ _).alloc (zD _) _) ep ei);have Km:=al (((ab vN).alloc (ab vN).size _).grown ep (by rw[zJ];have:=ab iQ;omega) (fun q e=>((ab HO).lt q e).1));clear ho ep ei)
      go_roundg (l.length-(i+1))
      case measure=>have:=ab bz;have:=ab bu;omega
      case rel=>exact ⟨i+1,_,by go_num,rfl,ab bu,Yp,YC,Km⟩
  ·obtain rfl:i=l.length:=by omega
   have hE:=ab TB
   rw[List.take_length] at hE
   have QF:=al hE
   have mb:=al (show wo.ownsRow w0.heap.size 46 7 u5 (fY (f+1) l).length iU by rw[show (fY (f+1) l).length=l.length from List.length_map _];exact ab HO)
   clear hE HO
   go_wp2
   go_ret
   exact ⟨_,_,rfl,ab mb,ab QF,ab HB⟩
theorem oQ:∀f,f≤200→L3 f
 |0,_=>Cj
 |f+1,h=>vV (by omega) (oQ f (by omega))
end Go.Proofs.YtichhjfjcinjgaaGreatDoor
