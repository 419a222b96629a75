import Derived.Test.YtichhjfjcinjgaaGreatDoorYBd
set_option maxHeartbeats 8000000
set_option maxRecDepth 100000
namespace Go.Proofs.YtichhjfjcinjgaaGreatDoor
open Go.RowKit
attribute [local go_sem ↓] Go.wp_at_zero Go.wp_at_succ
theorem BQ:Lx 0:=by
 intro W v l cs hv _ _ _ w0 hw
 obtain ⟨a,c,rfl,hn,-⟩:=hv
 have HB:=al (zE w0.heap.size w0)
 clear hw
 go_enter Tryz.func17,Tryz.ntmps17
 go_wp2
 go_loopg [5,6,7,8] 1 (fun gk v5 v6 _ _ wr=>v5=.slice none 0 0∧v6=.int .i64 0∧gk=1∧Hid (wr=w0))
 case atStart=>exact ⟨rfl,rfl,rfl,rfl⟩
 case round =>
  obtain ⟨rfl,rfl,aU,HW⟩:=hrel
  clear aU
  by_cases h0:(0:Int)<(l.length:Int)
  ·go_wp2
   go_ret
   have:=ab HW
   subst this
   first|exact ⟨_,[],rfl,⟨rfl,.inl ⟨rfl,rfl⟩⟩,.nil,ab HB⟩|exact ⟨_,rfl,[],⟨rfl,.inl ⟨rfl,rfl⟩⟩,.nil,ab HB⟩
  ·go_wp2
   go_ret
   have:=ab HW
   subst this
   first|exact ⟨_,[],rfl,⟨rfl,.inl ⟨rfl,rfl⟩⟩,.nil,ab HB⟩|exact ⟨_,rfl,[],⟨rfl,.inl ⟨rfl,rfl⟩⟩,.nil,ab HB⟩
theorem vz {f:Nat} (hf:f<200) (ih:Lx f):Lx (f+1):=by
 intro W v l cs hv hm hl hz w0 hw
 obtain ⟨a,c,rfl,hn,h2⟩:=hv
 obtain ⟨i0,hi,gj,dR,c7⟩:=info_parts Nl
 obtain ⟨j0,hj,Vl,Vk,Vj⟩:=info_parts Nn
 obtain ⟨dz,RQ⟩:∃z,(200-((f+1:Nat):Int))=z:=⟨_,rfl⟩
 rw[RQ]
 have Ib:0≤dz:=by omega
 have hd1:dz<200:=by omega
 have XA:=al (show dz+1=200-(f:Int) by omega)
 have H2:=al h2
 have HW:=al hw
 have Hl:=al hl
 have Xr:=al hm
 have Hz:=al hz
 have Fm:=al ih
 clear h2 hw hl hm hz ih RQ hf
 go_enter Tryz.func17,Tryz.ntmps17
 go_wp2
 go_loopg [5,6,7,8] l.length (fun gk v5 v6 _ _ wr=>∃(i:Nat) (iN:List Value),v6=.int .i64 (i:Int)∧gk=l.length-i∧i≤l.length∧Hid (wr.ownsRow w0.heap.size 46 7 v5 i iN)∧Hid (pf (Rest w0.heap.size v5) wr iN ((l.take i).map (lM f)))∧Hid (Below w0.heap.size w0 wr))
 case atStart=>exact ⟨0,[],rfl,rfl,by omega,⟨rfl,.inl ⟨rfl,rfl⟩⟩,.nil,zE _ _⟩
 case round =>
  obtain ⟨i,iN,rfl,aU,eS,HO,Tb,HB⟩:=hrel
  have bz:=al aU
  clear aU
  obtain ⟨wo,iA⟩:∃x,x=wr:=⟨_,rfl⟩
  subst iA
  by_cases aM:i<l.length
  ·obtain ⟨g,o,rfl,hg,hc⟩:=ab H2 (by omega)
   have hr:=List.getElem?_eq_getElem aM
   have cI:=List.getElem_mem aM
   obtain ⟨m,yz⟩:∃m,l[i]=m:=⟨_,rfl⟩
   rw[yz] at hr cI
   obtain ⟨vf,vo,vm,ve,vr,vg,nm,fs,os,ms,es,rs,gs,cm,ce,dU,hV⟩:=(ab Xr).at i m hr
   obtain rfl:=hV.is
   have Vo:=ab Hz _ cI
   obtain ⟨s1,s2,s3,s4,s5,s6,s7⟩:=Vo.s
   have gP:=al (show Below W.heap.size W wo from (ab HW).trans ((ab HB).mono (ab HW).size))
   have dB:Hid (∀w',Below W.heap.size W w'→w'.cell? ⟨g,o+i*7,none⟩=some (.string nm)∧w'.cell? ⟨g,o+i*7+1,none⟩=some vf∧w'.cell? ⟨g,o+i*7+2,none⟩=some vo∧w'.cell? ⟨g,o+i*7+3,none⟩=some vm∧w'.cell? ⟨g,o+i*7+4,none⟩=some ve∧w'.cell? ⟨g,o+i*7+5,none⟩=some vr∧w'.cell? ⟨g,o+i*7+6,none⟩=some vg):=by
    intro w' hb
    have key:∀(j:Nat) (x:Value),[Value.string nm,vf,vo,vm,ve,vr,vg][j]?=some x→w'.cell? ⟨g,o+(i*7+j),none⟩=some x:=fun j x hx=>(hb.cell (p:=⟨g,o+(i*7+j),none⟩) hg).trans (hc _ _ (by
     rw[←dU,List.getElem?_take,List.getElem?_drop] at hx
     split at hx
     ·exact hx
     ·cases hx))
    exact ⟨key 0 _ rfl,key 1 _ rfl,key 2 _ rfl,key 3 _ rfl,key 4 _ rfl,key 5 _ rfl,key 6 _ rfl⟩
   have FL:=al (fun w' hb=>mv hV.ho s2 w' hb)
   have Jm:=al (fun w' hb=>ab Fm W vm ms cm hV.hm hV.et s3 Vo.2 w' hb)
   rw[←ab XA] at Jm
   have MD:=al (fun w' hb=>wQ hV.he hV.fv s4 s5 w' hb)
   have se:=al (fun w' hb=>tG hV.hr s6 w' hb)
   have pj:=al (fun w' hb=>mv hV.hg s7 w' hb)
   obtain ⟨af,cf,rfl,Py,gC⟩:=hV.hf
   obtain ⟨ao,co,rfl,-,-⟩:=hV.ho
   obtain ⟨am,dh,rfl,-,-⟩:=hV.hm
   obtain ⟨ae,da,rfl,-,-⟩:=hV.he
   obtain ⟨ar,cr,rfl,-,-⟩:=hV.hr
   obtain ⟨ag,cg,rfl,-,-⟩:=hV.hg
   have XE:=al gC
   have LW:(0:Int)≤(i:Int):=zH _
   have i1:(i:Int)<(l.length:Int):=by omega
   have bu:=al aM
   have Hr:=al hr
   have HS:=al (show P4 fs os ms es rs gs from ⟨s1,s2,s3,s4,s5,s6,s7⟩)
   clear hc cI yz dU gC aM hr hV Vo s1 s2 s3 s4 s5 s6 s7
   go_upto_region 5 with fail
   go_cut [7] (fun v7 wx=>∃(b:Nat) (uo um ue ur ug:Value) (TI TJ:List Value),v7=.pointer (some ⟨b,0,none⟩)∧((∃a c,uo=.slice a os.length c)∧(∃a c,um=.slice a (gK f ms).length c)∧(∃a c,ue=.slice a es.length c)∧(∃a c,ur=.slice a rs.length c)∧(∃a c,ug=.slice a gs.length c))∧Hid (po wo wx b (.slice none 0 0) uo um ue ur ug TI TJ nm os (gK f ms) es rs gs))
   case first =>
    refine wp_region_any (by kernel_rfl) (bK (z:=99) (T:=fun w'=>Below W.heap.size W w') _ _ _ _ ?_)
    try (change cc _ _ _ _ _ _ _ _ _ (World.drew _))
    have aS:Below W.heap.size W wo.drew:=below_drewN (ab gP) 1
    have bU:Below wo.heap.size wo wo.drew:=below_drewN (zE wo.heap.size wo) 1
    obtain ⟨wd,mY⟩:∃x,wo.drew=x:=⟨_,rfl⟩
    rw[mY] at aS bU ⊢
    have hT:=aS
    refine aw 0 (.slice (some ⟨g,o,none⟩) l.length c) 19 rfl rfl (Or.inl ⟨by rfl,fun w' hw=>by obtain ⟨x0,x1,x2,x3,x4,x5,x6⟩:=ab dB w' hw;go_simp⟩) hT ?_
    simp only[Act.put,zL,zM,zN]
    refine aw 1 (.int .i64 (i:Int)) 20 rfl rfl (Or.inl ⟨by rfl,fun w' hw=>by obtain ⟨x0,x1,x2,x3,x4,x5,x6⟩:=ab dB w' hw;go_simp⟩) hT ?_
    simp only[Act.put,zL,zM,zN]
    refine aw 2 (.pointer (some ⟨g,o+i*7,none⟩)) 21 rfl rfl (Or.inl ⟨by rfl,fun w' hw=>by obtain ⟨x0,x1,x2,x3,x4,x5,x6⟩:=ab dB w' hw;go_simp⟩) hT ?_
    simp only[Act.put,zL,zM,zN]
    refine aw 3 (.pointer (some ⟨g,o+i*7,none⟩)) 22 rfl rfl (Or.inl ⟨by rfl,fun w' hw=>by obtain ⟨x0,x1,x2,x3,x4,x5,x6⟩:=ab dB w' hw;go_simp⟩) hT ?_
    simp only[Act.put,zL,zM,zN]
    refine aw 4 (.string nm) 23 rfl rfl (Or.inl ⟨by rfl,fun w' hw=>by obtain ⟨x0,x1,x2,x3,x4,x5,x6⟩:=ab dB w' hw;go_simp⟩) hT ?_
    simp only[Act.put,zL,zM,zN]
    refine aw 5 (.slice (some ⟨g,o,none⟩) l.length c) 24 rfl rfl (Or.inl ⟨by rfl,fun w' hw=>by obtain ⟨x0,x1,x2,x3,x4,x5,x6⟩:=ab dB w' hw;go_simp⟩) hT ?_
    simp only[Act.put,zL,zM,zN]
    refine aw 6 (.int .i64 (i:Int)) 25 rfl rfl (Or.inl ⟨by rfl,fun w' hw=>by obtain ⟨x0,x1,x2,x3,x4,x5,x6⟩:=ab dB w' hw;go_simp⟩) hT ?_
    simp only[Act.put,zL,zM,zN]
    refine aw 7 (.pointer (some ⟨g,o+i*7,none⟩)) 26 rfl rfl (Or.inl ⟨by rfl,fun w' hw=>by obtain ⟨x0,x1,x2,x3,x4,x5,x6⟩:=ab dB w' hw;go_simp⟩) hT ?_
    simp only[Act.put,zL,zM,zN]
    refine aw 8 (.pointer (some ⟨g,o+i*7+2,none⟩)) 27 rfl rfl (Or.inl ⟨by rfl,fun w' hw=>by obtain ⟨x0,x1,x2,x3,x4,x5,x6⟩:=ab dB w' hw;go_simp⟩) hT ?_
    simp only[Act.put,zL,zM,zN]
    refine aw 9 (.slice ao os.length co) 28 rfl rfl (Or.inl ⟨by rfl,fun w' hw=>by obtain ⟨x0,x1,x2,x3,x4,x5,x6⟩:=ab dB w' hw;go_simp⟩) hT ?_
    simp only[Act.put,zL,zM,zN]
    refine aw 11 (.slice (some ⟨g,o,none⟩) l.length c) 30 rfl rfl (Or.inl ⟨by rfl,fun w' hw=>by obtain ⟨x0,x1,x2,x3,x4,x5,x6⟩:=ab dB w' hw;go_simp⟩) hT ?_
    simp only[Act.put,zL,zM,zN]
    refine aw 12 (.int .i64 (i:Int)) 31 rfl rfl (Or.inl ⟨by rfl,fun w' hw=>by obtain ⟨x0,x1,x2,x3,x4,x5,x6⟩:=ab dB w' hw;go_simp⟩) hT ?_
    simp only[Act.put,zL,zM,zN]
    refine aw 13 (.pointer (some ⟨g,o+i*7,none⟩)) 32 rfl rfl (Or.inl ⟨by rfl,fun w' hw=>by obtain ⟨x0,x1,x2,x3,x4,x5,x6⟩:=ab dB w' hw;go_simp⟩) hT ?_
    simp only[Act.put,zL,zM,zN]
    refine aw 14 (.pointer (some ⟨g,o+i*7+3,none⟩)) 33 rfl rfl (Or.inl ⟨by rfl,fun w' hw=>by obtain ⟨x0,x1,x2,x3,x4,x5,x6⟩:=ab dB w' hw;go_simp⟩) hT ?_
    simp only[Act.put,zL,zM,zN]
    refine aw 15 (.slice am ms.length dh) 34 rfl rfl (Or.inl ⟨by rfl,fun w' hw=>by obtain ⟨x0,x1,x2,x3,x4,x5,x6⟩:=ab dB w' hw;go_simp⟩) hT ?_
    simp only[Act.put,zL,zM,zN]
    refine aw 16 (.int .i64 dz) 35 rfl rfl (Or.inl ⟨by rfl,fun w' hw=>by obtain ⟨x0,x1,x2,x3,x4,x5,x6⟩:=ab dB w' hw;go_simp⟩) hT ?_
    simp only[Act.put,zL,zM,zN]
    refine aw 17 (.int .i64 (dz+1)) 36 rfl rfl (Or.inl ⟨by rfl,fun w' hw=>by obtain ⟨x0,x1,x2,x3,x4,x5,x6⟩:=ab dB w' hw;go_simp;try exact IntWalk.i64_in _ (by omega)⟩) hT ?_
    simp only[Act.put,zL,zM,zN]
    refine aw 19 (.slice (some ⟨g,o,none⟩) l.length c) 38 rfl rfl (Or.inl ⟨by rfl,fun w' hw=>by obtain ⟨x0,x1,x2,x3,x4,x5,x6⟩:=ab dB w' hw;go_simp⟩) hT ?_
    simp only[Act.put,zL,zM,zN]
    refine aw 20 (.int .i64 (i:Int)) 39 rfl rfl (Or.inl ⟨by rfl,fun w' hw=>by obtain ⟨x0,x1,x2,x3,x4,x5,x6⟩:=ab dB w' hw;go_simp⟩) hT ?_
    simp only[Act.put,zL,zM,zN]
    refine aw 21 (.pointer (some ⟨g,o+i*7,none⟩)) 40 rfl rfl (Or.inl ⟨by rfl,fun w' hw=>by obtain ⟨x0,x1,x2,x3,x4,x5,x6⟩:=ab dB w' hw;go_simp⟩) hT ?_
    simp only[Act.put,zL,zM,zN]
    refine aw 22 (.pointer (some ⟨g,o+i*7+4,none⟩)) 41 rfl rfl (Or.inl ⟨by rfl,fun w' hw=>by obtain ⟨x0,x1,x2,x3,x4,x5,x6⟩:=ab dB w' hw;go_simp⟩) hT ?_
    simp only[Act.put,zL,zM,zN]
    refine aw 23 (.slice ae es.length da) 42 rfl rfl (Or.inl ⟨by rfl,fun w' hw=>by obtain ⟨x0,x1,x2,x3,x4,x5,x6⟩:=ab dB w' hw;go_simp⟩) hT ?_
    simp only[Act.put,zL,zM,zN]
    refine aw 25 (.slice (some ⟨g,o,none⟩) l.length c) 44 rfl rfl (Or.inl ⟨by rfl,fun w' hw=>by obtain ⟨x0,x1,x2,x3,x4,x5,x6⟩:=ab dB w' hw;go_simp⟩) hT ?_
    simp only[Act.put,zL,zM,zN]
    refine aw 26 (.int .i64 (i:Int)) 45 rfl rfl (Or.inl ⟨by rfl,fun w' hw=>by obtain ⟨x0,x1,x2,x3,x4,x5,x6⟩:=ab dB w' hw;go_simp⟩) hT ?_
    simp only[Act.put,zL,zM,zN]
    refine aw 27 (.pointer (some ⟨g,o+i*7,none⟩)) 46 rfl rfl (Or.inl ⟨by rfl,fun w' hw=>by obtain ⟨x0,x1,x2,x3,x4,x5,x6⟩:=ab dB w' hw;go_simp⟩) hT ?_
    simp only[Act.put,zL,zM,zN]
    refine aw 28 (.pointer (some ⟨g,o+i*7+5,none⟩)) 47 rfl rfl (Or.inl ⟨by rfl,fun w' hw=>by obtain ⟨x0,x1,x2,x3,x4,x5,x6⟩:=ab dB w' hw;go_simp⟩) hT ?_
    simp only[Act.put,zL,zM,zN]
    refine aw 29 (.slice ar rs.length cr) 48 rfl rfl (Or.inl ⟨by rfl,fun w' hw=>by obtain ⟨x0,x1,x2,x3,x4,x5,x6⟩:=ab dB w' hw;go_simp⟩) hT ?_
    simp only[Act.put,zL,zM,zN]
    refine aw 31 (.slice (some ⟨g,o,none⟩) l.length c) 50 rfl rfl (Or.inl ⟨by rfl,fun w' hw=>by obtain ⟨x0,x1,x2,x3,x4,x5,x6⟩:=ab dB w' hw;go_simp⟩) hT ?_
    simp only[Act.put,zL,zM,zN]
    refine aw 32 (.int .i64 (i:Int)) 51 rfl rfl (Or.inl ⟨by rfl,fun w' hw=>by obtain ⟨x0,x1,x2,x3,x4,x5,x6⟩:=ab dB w' hw;go_simp⟩) hT ?_
    simp only[Act.put,zL,zM,zN]
    refine aw 33 (.pointer (some ⟨g,o+i*7,none⟩)) 52 rfl rfl (Or.inl ⟨by rfl,fun w' hw=>by obtain ⟨x0,x1,x2,x3,x4,x5,x6⟩:=ab dB w' hw;go_simp⟩) hT ?_
    simp only[Act.put,zL,zM,zN]
    refine aw 34 (.pointer (some ⟨g,o+i*7+6,none⟩)) 53 rfl rfl (Or.inl ⟨by rfl,fun w' hw=>by obtain ⟨x0,x1,x2,x3,x4,x5,x6⟩:=ab dB w' hw;go_simp⟩) hT ?_
    simp only[Act.put,zL,zM,zN]
    refine aw 35 (.slice ag gs.length cg) 54 rfl rfl (Or.inl ⟨by rfl,fun w' hw=>by obtain ⟨x0,x1,x2,x3,x4,x5,x6⟩:=ab dB w' hw;go_simp⟩) hT ?_
    simp only[Act.put,zL,zM,zN]
    clear hT
    refine eA 10 38 (by kernel_rfl) rfl rfl (fun K hK=>?_) (fun K hK=>?_)
    ·refine aO 29 rfl rfl 16 (fun vs=>by kernel_rfl) #[.tmp 28] #[22] rfl #[.slice ao os.length co] (by first|rfl|simp[Act.eval]) (ab FL wd aS) ?_
     rintro e' yu ⟨u1,rfl,dP,aR⟩
     obtain ⟨FY,FX,rfl⟩:=bq dP
     have dP:=(cz dP (by have:=(ab HS).2.1;omega)).mono (QH bU.size)
     have bU:=bU.trans (aR.mono bU.size)
     have aS:=aS.trans (aR.mono aS.size)
     refine ⟨_,rfl,hK _ _ ⟨fun _=>aS,?_⟩⟩
     clear hK K aR
     simp only[Act.put,zL,zM,zN]
     refine eA 18 38 (by kernel_rfl) rfl rfl (fun K hK=>?_) (fun K hK=>?_)
     ·refine aO 37 rfl rfl 17 (fun vs=>by kernel_rfl) #[.tmp 34,.tmp 36] #[23,3] rfl #[.slice am ms.length dh,.int .i64 (dz+1)] (by first|rfl|simp[Act.eval]) (ab Jm yu aS) ?_
      rintro e' AY ⟨u2,ZZ,rfl,gE,gp,aR⟩
      have dP:=dP.mono (aD aR)
      obtain ⟨JV,JU,rfl⟩:=bq gE
      have gE:=(cz gE (by have:=(ab HS).2.2.1;have:=oV (f:=f) (l:=ms);omega)).mono (QH bU.size)
      have gp:=gp.mono (Yx bU.size)
      have bU:=bU.trans (aR.mono bU.size)
      have aS:=aS.trans (aR.mono aS.size)
      refine ⟨_,rfl,hK _ _ ⟨fun _=>aS,?_⟩⟩
      clear hK K aR
      simp only[Act.put,zL,zM,zN]
      refine eA 24 38 (by kernel_rfl) rfl rfl (fun K hK=>?_) (fun K hK=>?_)
      ·refine aO 43 rfl rfl 18 (fun vs=>by kernel_rfl) #[.tmp 42] #[24] rfl #[.slice ae es.length da] (by first|rfl|simp[Act.eval]) (ab MD AY aS) ?_
       rintro e' Bf ⟨u3,cs3,rfl,lC,mZ,aR⟩
       have dP:=dP.mono (aD aR)
       have gE:=gE.mono (aD aR)
       have gp:=gp.mono (aD aR)
       obtain ⟨Pk,Pf,rfl⟩:=bq lC
       have lC:=(cz lC (by have:=(ab HS).2.2.2.1;omega)).mono (QH bU.size)
       have mZ:=mZ.mono (Yx bU.size)
       have bU:=bU.trans (aR.mono bU.size)
       have aS:=aS.trans (aR.mono aS.size)
       refine ⟨_,rfl,hK _ _ ⟨fun _=>aS,?_⟩⟩
       clear hK K aR
       simp only[Act.put,zL,zM,zN]
       refine eA 30 38 (by kernel_rfl) rfl rfl (fun K hK=>?_) (fun K hK=>?_)
       ·refine aO 49 rfl rfl 33 (fun vs=>by kernel_rfl) #[.tmp 48] #[44] rfl #[.slice ar rs.length cr] (by first|rfl|simp[Act.eval]) (ab se Bf aS) ?_
        rintro e' Fz ⟨u4,rfl,oH,aR⟩
        have dP:=dP.mono (aD aR)
        have gE:=gE.mono (aD aR)
        have gp:=gp.mono (aD aR)
        have lC:=lC.mono (aD aR)
        have mZ:=mZ.mono (aD aR)
        obtain ⟨Yv,Yu,rfl⟩:=bq oH
        have oH:=(cz oH (by have:=(ab HS).2.2.2.2.2.1;omega)).mono (QH bU.size)
        have bU:=bU.trans (aR.mono bU.size)
        have aS:=aS.trans (aR.mono aS.size)
        refine ⟨_,rfl,hK _ _ ⟨fun _=>aS,?_⟩⟩
        clear hK K aR
        simp only[Act.put,zL,zM,zN]
        refine eA 36 38 (by kernel_rfl) rfl rfl (fun K hK=>?_) (fun K hK=>?_)
        ·refine aO 55 rfl rfl 16 (fun vs=>by kernel_rfl) #[.tmp 54] #[22] rfl #[.slice ag gs.length cg] (by first|rfl|simp[Act.eval]) (ab pj Fz aS) ?_
         rintro e' LM ⟨u5,rfl,Dt,aR⟩
         have dP:=dP.mono (aD aR)
         have gE:=gE.mono (aD aR)
         have gp:=gp.mono (aD aR)
         have lC:=lC.mono (aD aR)
         have mZ:=mZ.mono (aD aR)
         have oH:=oH.mono (aD aR)
         obtain ⟨UP,Uw,rfl⟩:=bq Dt
         have Dt:=(cz Dt (by have:=(ab HS).2.2.2.2.2.2;omega)).mono (QH bU.size)
         have bU:=bU.trans (aR.mono bU.size)
         have aS:=aS.trans (aR.mono aS.size)
         refine ⟨_,rfl,hK _ _ ⟨fun _=>aS,?_⟩⟩
         clear hK K aR
         simp only[Act.put,zL,zM,zN]
         have hT:=aS
         refine aw 37 (.agg #[.string nm,.slice none 0 0,.slice FY (os.length) FX,.slice JV ((gK f ms).length) JU,.slice Pk (es.length) Pf,.slice Yv (rs.length) Yu,.slice UP (gs.length) Uw]) 56 rfl rfl (Or.inl ⟨by rfl,fun w' hw=>by go_simp⟩) hT ?_
         simp only[Act.put,zL,zM,zN]
         clear hT
         refine aF 38 (by kernel_rfl) rfl (fun K hK=>?_)
         obtain ⟨LL,bM⟩:∃x,LM.alloc (.cells #[.string ⟨#[]⟩,.slice none 0 0,.slice none 0 0,.slice none 0 0,.slice none 0 0,.slice none 0 0,.slice none 0 0] 46)=x:=⟨_,rfl⟩
         have aR:Below LM.heap.size LM LL:=by rw[←bM];exact (zE _ _).alloc (zD _) _
         have bQ:LL.heap[LM.heap.size]?=some (.cells #[.string ⟨#[]⟩,.slice none 0 0,.slice none 0 0,.slice none 0 0,.slice none 0 0,.slice none 0 0,.slice none 0 0] 46 (0,0)):=by rw[←bM];exact aK _ _
         have dD:wo.heap.size≤LM.heap.size:=bU.size
         go_simp
         have dP:=dP.mono (uU aR)
         have gE:=gE.mono (uU aR)
         have gp:=gp.mono (uU aR)
         have lC:=lC.mono (uU aR)
         have mZ:=mZ.mono (uU aR)
         have oH:=oH.mono (uU aR)
         have Dt:=Dt.mono (uU aR)
         have bU:=bU.trans (aR.mono bU.size)
         have aS:=aS.trans (aR.mono aS.size)
         obtain ⟨bk,ey⟩:∃b,LM.heap.size=b:=⟨_,rfl⟩
         rw[ey] at bQ dD dP gE gp lC mZ oH Dt
         rw[ey]
         refine hK _ _ ⟨fun _=>aS,?_⟩
         clear hK K bM aR ey
         refine aF 39 (by kernel_rfl) rfl (fun K hK=>?_)
         obtain ⟨c0,c1,c2,c3,c4,c5,c6⟩:=kE bQ
         have z:∀j,LL.frozen? ⟨bk,j,none⟩=false:=fun j=>by simp[World.frozen?,bQ]
         have z0:=z 0
         have z1:=z 1
         have z2:=z 2
         have z3:=z 3
         have z4:=z 4
         have z5:=z 5
         have z6:=z 6
         have hC:=po.new (nm:=nm) bU dD bQ dP gE gp lC mZ oH Dt
         go_simp
         refine hK _ _ ⟨fun _=>(ab gP).trans (hC.bW.mono (ab gP).size),?_⟩
         clear hK K
         refine aZ (by kernel_rfl) ?_
         have HC:=al hC
         clear hC bU aS dD bQ z z0 z1 z2 z3 z4 z5 z6 c0 c1 c2 c3 c4 c5 c6 dP gE gp lC mZ oH Dt
         go_wp2_with fail
         go_meet
         exact ⟨bk,_,_,_,_,_,_,_,rfl,⟨⟨_,_,rfl⟩,⟨_,_,rfl⟩,⟨_,_,rfl⟩,⟨_,_,rfl⟩,⟨_,_,rfl⟩⟩,HC⟩
        ·obtain ⟨MH,bM⟩:∃x,Fz.alloc (.cells #[.string ⟨#[]⟩,.slice none 0 0,.slice none 0 0,.slice none 0 0,.slice none 0 0,.slice none 0 0,.slice none 0 0] 46)=x:=⟨_,rfl⟩
         have aR:Below Fz.heap.size Fz MH:=by rw[←bM];exact (zE _ _).alloc (zD _) _
         have bQ:MH.heap[Fz.heap.size]?=some (.cells #[.string ⟨#[]⟩,.slice none 0 0,.slice none 0 0,.slice none 0 0,.slice none 0 0,.slice none 0 0,.slice none 0 0] 46 (0,0)):=by rw[←bM];exact aK _ _
         have dD:wo.heap.size≤Fz.heap.size:=bU.size
         go_simp
         have dP:=dP.mono (uU aR)
         have gE:=gE.mono (uU aR)
         have gp:=gp.mono (uU aR)
         have lC:=lC.mono (uU aR)
         have mZ:=mZ.mono (uU aR)
         have oH:=oH.mono (uU aR)
         have bU:=bU.trans (aR.mono bU.size)
         have aS:=aS.trans (aR.mono aS.size)
         obtain ⟨bk,ey⟩:∃b,Fz.heap.size=b:=⟨_,rfl⟩
         rw[ey] at bQ dD dP gE gp lC mZ oH
         rw[ey]
         refine hK _ _ ⟨fun _=>aS,?_⟩
         clear hK K bM aR ey
         refine aF 36 (by kernel_rfl) rfl (fun K hK=>?_)
         refine aO 55 rfl rfl 16 (fun vs=>by kernel_rfl) #[.tmp 54] #[22] rfl #[.slice ag gs.length cg] (by first|rfl|simp[Act.eval]) (ab pj MH aS) ?_
         rintro e' Ui ⟨u8,rfl,G6,aR⟩
         have dP:=dP.mono (aD aR)
         have gE:=gE.mono (aD aR)
         have gp:=gp.mono (aD aR)
         have lC:=lC.mono (aD aR)
         have mZ:=mZ.mono (aD aR)
         have oH:=oH.mono (aD aR)
         obtain ⟨UO,Uv,rfl⟩:=bq G6
         have fF:bk<MH.heap.size:=(zA bQ).1
         have G6:=(cz G6 (by have:=(ab HS).2.2.2.2.2.2;omega)).mono (vu bU.size fF)
         have bU:=bU.trans (aR.mono bU.size)
         have aS:=aS.trans (aR.mono aS.size)
         have bQ:=(aR.block _ (zA bQ).1).trans bQ
         refine ⟨_,rfl,hK _ _ ⟨fun _=>aS,?_⟩⟩
         clear hK K aR fF
         simp only[Act.put,zL,zM,zN]
         have hT:=aS
         refine aw 37 (.agg #[.string nm,.slice none 0 0,.slice FY (os.length) FX,.slice JV ((gK f ms).length) JU,.slice Pk (es.length) Pf,.slice Yv (rs.length) Yu,.slice UO (gs.length) Uv]) 56 rfl rfl (Or.inl ⟨by rfl,fun w' hw=>by go_simp⟩) hT ?_
         simp only[Act.put,zL,zM,zN]
         clear hT
         refine aF 39 (by kernel_rfl) rfl (fun K hK=>?_)
         obtain ⟨c0,c1,c2,c3,c4,c5,c6⟩:=kE bQ
         have z:∀j,Ui.frozen? ⟨bk,j,none⟩=false:=fun j=>by simp[World.frozen?,bQ]
         have z0:=z 0
         have z1:=z 1
         have z2:=z 2
         have z3:=z 3
         have z4:=z 4
         have z5:=z 5
         have z6:=z 6
         have hC:=po.new (nm:=nm) bU dD bQ dP gE gp lC mZ oH G6
         go_simp
         refine hK _ _ ⟨fun _=>(ab gP).trans (hC.bW.mono (ab gP).size),?_⟩
         clear hK K
         refine aZ (by kernel_rfl) ?_
         have HC:=al hC
         clear hC bU aS dD bQ z z0 z1 z2 z3 z4 z5 z6 c0 c1 c2 c3 c4 c5 c6 dP gE gp lC mZ oH G6
         go_wp2_with fail
         go_meet
         exact ⟨bk,_,_,_,_,_,_,_,rfl,⟨⟨_,_,rfl⟩,⟨_,_,rfl⟩,⟨_,_,rfl⟩,⟨_,_,rfl⟩,⟨_,_,rfl⟩⟩,HC⟩
       ·obtain ⟨Tf,bM⟩:∃x,Bf.alloc (.cells #[.string ⟨#[]⟩,.slice none 0 0,.slice none 0 0,.slice none 0 0,.slice none 0 0,.slice none 0 0,.slice none 0 0] 46)=x:=⟨_,rfl⟩
        have aR:Below Bf.heap.size Bf Tf:=by rw[←bM];exact (zE _ _).alloc (zD _) _
        have bQ:Tf.heap[Bf.heap.size]?=some (.cells #[.string ⟨#[]⟩,.slice none 0 0,.slice none 0 0,.slice none 0 0,.slice none 0 0,.slice none 0 0,.slice none 0 0] 46 (0,0)):=by rw[←bM];exact aK _ _
        have dD:wo.heap.size≤Bf.heap.size:=bU.size
        go_simp
        have dP:=dP.mono (uU aR)
        have gE:=gE.mono (uU aR)
        have gp:=gp.mono (uU aR)
        have lC:=lC.mono (uU aR)
        have mZ:=mZ.mono (uU aR)
        have bU:=bU.trans (aR.mono bU.size)
        have aS:=aS.trans (aR.mono aS.size)
        obtain ⟨bk,ey⟩:∃b,Bf.heap.size=b:=⟨_,rfl⟩
        rw[ey] at bQ dD dP gE gp lC mZ
        rw[ey]
        refine hK _ _ ⟨fun _=>aS,?_⟩
        clear hK K bM aR ey
        refine aF 30 (by kernel_rfl) rfl (fun K hK=>?_)
        refine aO 49 rfl rfl 33 (fun vs=>by kernel_rfl) #[.tmp 48] #[44] rfl #[.slice ar rs.length cr] (by first|rfl|simp[Act.eval]) (ab se Tf aS) ?_
        rintro e' Qy ⟨u10,rfl,Ce,aR⟩
        have dP:=dP.mono (aD aR)
        have gE:=gE.mono (aD aR)
        have gp:=gp.mono (aD aR)
        have lC:=lC.mono (aD aR)
        have mZ:=mZ.mono (aD aR)
        obtain ⟨U5,UK,rfl⟩:=bq Ce
        have fF:bk<Tf.heap.size:=(zA bQ).1
        have Ce:=(cz Ce (by have:=(ab HS).2.2.2.2.2.1;omega)).mono (vu bU.size fF)
        have bU:=bU.trans (aR.mono bU.size)
        have aS:=aS.trans (aR.mono aS.size)
        have bQ:=(aR.block _ (zA bQ).1).trans bQ
        refine ⟨_,rfl,hK _ _ ⟨fun _=>aS,?_⟩⟩
        clear hK K aR fF
        simp only[Act.put,zL,zM,zN]
        refine aF 36 (by kernel_rfl) rfl (fun K hK=>?_)
        refine aO 55 rfl rfl 16 (fun vs=>by kernel_rfl) #[.tmp 54] #[22] rfl #[.slice ag gs.length cg] (by first|rfl|simp[Act.eval]) (ab pj Qy aS) ?_
        rintro e' Um ⟨u11,rfl,Hk,aR⟩
        have dP:=dP.mono (aD aR)
        have gE:=gE.mono (aD aR)
        have gp:=gp.mono (aD aR)
        have lC:=lC.mono (aD aR)
        have mZ:=mZ.mono (aD aR)
        have Ce:=Ce.mono (aD aR)
        obtain ⟨U4,UJ,rfl⟩:=bq Hk
        have fF:bk<Qy.heap.size:=(zA bQ).1
        have Hk:=(cz Hk (by have:=(ab HS).2.2.2.2.2.2;omega)).mono (vu bU.size fF)
        have bU:=bU.trans (aR.mono bU.size)
        have aS:=aS.trans (aR.mono aS.size)
        have bQ:=(aR.block _ (zA bQ).1).trans bQ
        refine ⟨_,rfl,hK _ _ ⟨fun _=>aS,?_⟩⟩
        clear hK K aR fF
        simp only[Act.put,zL,zM,zN]
        have hT:=aS
        refine aw 37 (.agg #[.string nm,.slice none 0 0,.slice FY (os.length) FX,.slice JV ((gK f ms).length) JU,.slice Pk (es.length) Pf,.slice U5 (rs.length) UK,.slice U4 (gs.length) UJ]) 56 rfl rfl (Or.inl ⟨by rfl,fun w' hw=>by go_simp⟩) hT ?_
        simp only[Act.put,zL,zM,zN]
        clear hT
        refine aF 39 (by kernel_rfl) rfl (fun K hK=>?_)
        obtain ⟨c0,c1,c2,c3,c4,c5,c6⟩:=kE bQ
        have z:∀j,Um.frozen? ⟨bk,j,none⟩=false:=fun j=>by simp[World.frozen?,bQ]
        have z0:=z 0
        have z1:=z 1
        have z2:=z 2
        have z3:=z 3
        have z4:=z 4
        have z5:=z 5
        have z6:=z 6
        have hC:=po.new (nm:=nm) bU dD bQ dP gE gp lC mZ Ce Hk
        go_simp
        refine hK _ _ ⟨fun _=>(ab gP).trans (hC.bW.mono (ab gP).size),?_⟩
        clear hK K
        refine aZ (by kernel_rfl) ?_
        have HC:=al hC
        clear hC bU aS dD bQ z z0 z1 z2 z3 z4 z5 z6 c0 c1 c2 c3 c4 c5 c6 dP gE gp lC mZ Ce Hk
        go_wp2_with fail
        go_meet
        exact ⟨bk,_,_,_,_,_,_,_,rfl,⟨⟨_,_,rfl⟩,⟨_,_,rfl⟩,⟨_,_,rfl⟩,⟨_,_,rfl⟩,⟨_,_,rfl⟩⟩,HC⟩
      ·obtain ⟨JT,bM⟩:∃x,AY.alloc (.cells #[.string ⟨#[]⟩,.slice none 0 0,.slice none 0 0,.slice none 0 0,.slice none 0 0,.slice none 0 0,.slice none 0 0] 46)=x:=⟨_,rfl⟩
       have aR:Below AY.heap.size AY JT:=by rw[←bM];exact (zE _ _).alloc (zD _) _
       have bQ:JT.heap[AY.heap.size]?=some (.cells #[.string ⟨#[]⟩,.slice none 0 0,.slice none 0 0,.slice none 0 0,.slice none 0 0,.slice none 0 0,.slice none 0 0] 46 (0,0)):=by rw[←bM];exact aK _ _
       have dD:wo.heap.size≤AY.heap.size:=bU.size
       go_simp
       have dP:=dP.mono (uU aR)
       have gE:=gE.mono (uU aR)
       have gp:=gp.mono (uU aR)
       have bU:=bU.trans (aR.mono bU.size)
       have aS:=aS.trans (aR.mono aS.size)
       obtain ⟨bk,ey⟩:∃b,AY.heap.size=b:=⟨_,rfl⟩
       rw[ey] at bQ dD dP gE gp
       rw[ey]
       refine hK _ _ ⟨fun _=>aS,?_⟩
       clear hK K bM aR ey
       refine aF 24 (by kernel_rfl) rfl (fun K hK=>?_)
       refine aO 43 rfl rfl 18 (fun vs=>by kernel_rfl) #[.tmp 42] #[24] rfl #[.slice ae es.length da] (by first|rfl|simp[Act.eval]) (ab MD JT aS) ?_
       rintro e' Qx ⟨u13,aay,rfl,xQ,Am,aR⟩
       have dP:=dP.mono (aD aR)
       have gE:=gE.mono (aD aR)
       have gp:=gp.mono (aD aR)
       obtain ⟨U3,UI,rfl⟩:=bq xQ
       have fF:bk<JT.heap.size:=(zA bQ).1
       have xQ:=(cz xQ (by have:=(ab HS).2.2.2.1;omega)).mono (vu bU.size fF)
       have Am:=Am.mono (QI bU.size fF)
       have bU:=bU.trans (aR.mono bU.size)
       have aS:=aS.trans (aR.mono aS.size)
       have bQ:=(aR.block _ (zA bQ).1).trans bQ
       refine ⟨_,rfl,hK _ _ ⟨fun _=>aS,?_⟩⟩
       clear hK K aR fF
       simp only[Act.put,zL,zM,zN]
       refine aF 30 (by kernel_rfl) rfl (fun K hK=>?_)
       refine aO 49 rfl rfl 33 (fun vs=>by kernel_rfl) #[.tmp 48] #[44] rfl #[.slice ar rs.length cr] (by first|rfl|simp[Act.eval]) (ab se Qx aS) ?_
       rintro e' Qw ⟨u14,rfl,Cd,aR⟩
       have dP:=dP.mono (aD aR)
       have gE:=gE.mono (aD aR)
       have gp:=gp.mono (aD aR)
       have xQ:=xQ.mono (aD aR)
       have Am:=Am.mono (aD aR)
       obtain ⟨U2,UH,rfl⟩:=bq Cd
       have fF:bk<Qx.heap.size:=(zA bQ).1
       have Cd:=(cz Cd (by have:=(ab HS).2.2.2.2.2.1;omega)).mono (vu bU.size fF)
       have bU:=bU.trans (aR.mono bU.size)
       have aS:=aS.trans (aR.mono aS.size)
       have bQ:=(aR.block _ (zA bQ).1).trans bQ
       refine ⟨_,rfl,hK _ _ ⟨fun _=>aS,?_⟩⟩
       clear hK K aR fF
       simp only[Act.put,zL,zM,zN]
       refine aF 36 (by kernel_rfl) rfl (fun K hK=>?_)
       refine aO 55 rfl rfl 16 (fun vs=>by kernel_rfl) #[.tmp 54] #[22] rfl #[.slice ag gs.length cg] (by first|rfl|simp[Act.eval]) (ab pj Qw aS) ?_
       rintro e' Ul ⟨u15,rfl,G9,aR⟩
       have dP:=dP.mono (aD aR)
       have gE:=gE.mono (aD aR)
       have gp:=gp.mono (aD aR)
       have xQ:=xQ.mono (aD aR)
       have Am:=Am.mono (aD aR)
       have Cd:=Cd.mono (aD aR)
       obtain ⟨U1,UG,rfl⟩:=bq G9
       have fF:bk<Qw.heap.size:=(zA bQ).1
       have G9:=(cz G9 (by have:=(ab HS).2.2.2.2.2.2;omega)).mono (vu bU.size fF)
       have bU:=bU.trans (aR.mono bU.size)
       have aS:=aS.trans (aR.mono aS.size)
       have bQ:=(aR.block _ (zA bQ).1).trans bQ
       refine ⟨_,rfl,hK _ _ ⟨fun _=>aS,?_⟩⟩
       clear hK K aR fF
       simp only[Act.put,zL,zM,zN]
       have hT:=aS
       refine aw 37 (.agg #[.string nm,.slice none 0 0,.slice FY (os.length) FX,.slice JV ((gK f ms).length) JU,.slice U3 (es.length) UI,.slice U2 (rs.length) UH,.slice U1 (gs.length) UG]) 56 rfl rfl (Or.inl ⟨by rfl,fun w' hw=>by go_simp⟩) hT ?_
       simp only[Act.put,zL,zM,zN]
       clear hT
       refine aF 39 (by kernel_rfl) rfl (fun K hK=>?_)
       obtain ⟨c0,c1,c2,c3,c4,c5,c6⟩:=kE bQ
       have z:∀j,Ul.frozen? ⟨bk,j,none⟩=false:=fun j=>by simp[World.frozen?,bQ]
       have z0:=z 0
       have z1:=z 1
       have z2:=z 2
       have z3:=z 3
       have z4:=z 4
       have z5:=z 5
       have z6:=z 6
       have hC:=po.new (nm:=nm) bU dD bQ dP gE gp xQ Am Cd G9
       go_simp
       refine hK _ _ ⟨fun _=>(ab gP).trans (hC.bW.mono (ab gP).size),?_⟩
       clear hK K
       refine aZ (by kernel_rfl) ?_
       have HC:=al hC
       clear hC bU aS dD bQ z z0 z1 z2 z3 z4 z5 z6 c0 c1 c2 c3 c4 c5 c6 dP gE gp xQ Am Cd G9
       go_wp2_with fail
       go_meet
       exact ⟨bk,_,_,_,_,_,_,_,rfl,⟨⟨_,_,rfl⟩,⟨_,_,rfl⟩,⟨_,_,rfl⟩,⟨_,_,rfl⟩,⟨_,_,rfl⟩⟩,HC⟩
     ·obtain ⟨JS,bM⟩:∃x,yu.alloc (.cells #[.string ⟨#[]⟩,.slice none 0 0,.slice none 0 0,.slice none 0 0,.slice none 0 0,.slice none 0 0,.slice none 0 0] 46)=x:=⟨_,rfl⟩
      have aR:Below yu.heap.size yu JS:=by rw[←bM];exact (zE _ _).alloc (zD _) _
      have bQ:JS.heap[yu.heap.size]?=some (.cells #[.string ⟨#[]⟩,.slice none 0 0,.slice none 0 0,.slice none 0 0,.slice none 0 0,.slice none 0 0,.slice none 0 0] 46 (0,0)):=by rw[←bM];exact aK _ _
      have dD:wo.heap.size≤yu.heap.size:=bU.size
      go_simp
      have dP:=dP.mono (uU aR)
      have bU:=bU.trans (aR.mono bU.size)
      have aS:=aS.trans (aR.mono aS.size)
      obtain ⟨bk,ey⟩:∃b,yu.heap.size=b:=⟨_,rfl⟩
      rw[ey] at bQ dD dP
      rw[ey]
      refine hK _ _ ⟨fun _=>aS,?_⟩
      clear hK K bM aR ey
      refine aF 18 (by kernel_rfl) rfl (fun K hK=>?_)
      refine aO 37 rfl rfl 17 (fun vs=>by kernel_rfl) #[.tmp 34,.tmp 36] #[23,3] rfl #[.slice am ms.length dh,.int .i64 (dz+1)] (by first|rfl|simp[Act.eval]) (ab Jm JS aS) ?_
      rintro e' Qv ⟨u17,aax,rfl,tZ,vF,aR⟩
      have dP:=dP.mono (aD aR)
      obtain ⟨U0,UF,rfl⟩:=bq tZ
      have fF:bk<JS.heap.size:=(zA bQ).1
      have tZ:=(cz tZ (by have:=(ab HS).2.2.1;have:=oV (f:=f) (l:=ms);omega)).mono (vu bU.size fF)
      have vF:=vF.mono (QI bU.size fF)
      have bU:=bU.trans (aR.mono bU.size)
      have aS:=aS.trans (aR.mono aS.size)
      have bQ:=(aR.block _ (zA bQ).1).trans bQ
      refine ⟨_,rfl,hK _ _ ⟨fun _=>aS,?_⟩⟩
      clear hK K aR fF
      simp only[Act.put,zL,zM,zN]
      refine aF 24 (by kernel_rfl) rfl (fun K hK=>?_)
      refine aO 43 rfl rfl 18 (fun vs=>by kernel_rfl) #[.tmp 42] #[24] rfl #[.slice ae es.length da] (by first|rfl|simp[Act.eval]) (ab MD Qv aS) ?_
      rintro e' Qu ⟨u18,aaw,rfl,xP,Ak,aR⟩
      have dP:=dP.mono (aD aR)
      have tZ:=tZ.mono (aD aR)
      have vF:=vF.mono (aD aR)
      obtain ⟨UZ,UE,rfl⟩:=bq xP
      have fF:bk<Qv.heap.size:=(zA bQ).1
      have xP:=(cz xP (by have:=(ab HS).2.2.2.1;omega)).mono (vu bU.size fF)
      have Ak:=Ak.mono (QI bU.size fF)
      have bU:=bU.trans (aR.mono bU.size)
      have aS:=aS.trans (aR.mono aS.size)
      have bQ:=(aR.block _ (zA bQ).1).trans bQ
      refine ⟨_,rfl,hK _ _ ⟨fun _=>aS,?_⟩⟩
      clear hK K aR fF
      simp only[Act.put,zL,zM,zN]
      refine aF 30 (by kernel_rfl) rfl (fun K hK=>?_)
      refine aO 49 rfl rfl 33 (fun vs=>by kernel_rfl) #[.tmp 48] #[44] rfl #[.slice ar rs.length cr] (by first|rfl|simp[Act.eval]) (ab se Qu aS) ?_
      rintro e' Qt ⟨u19,rfl,Cc,aR⟩
      have dP:=dP.mono (aD aR)
      have tZ:=tZ.mono (aD aR)
      have vF:=vF.mono (aD aR)
      have xP:=xP.mono (aD aR)
      have Ak:=Ak.mono (aD aR)
      obtain ⟨UY,UD,rfl⟩:=bq Cc
      have fF:bk<Qu.heap.size:=(zA bQ).1
      have Cc:=(cz Cc (by have:=(ab HS).2.2.2.2.2.1;omega)).mono (vu bU.size fF)
      have bU:=bU.trans (aR.mono bU.size)
      have aS:=aS.trans (aR.mono aS.size)
      have bQ:=(aR.block _ (zA bQ).1).trans bQ
      refine ⟨_,rfl,hK _ _ ⟨fun _=>aS,?_⟩⟩
      clear hK K aR fF
      simp only[Act.put,zL,zM,zN]
      refine aF 36 (by kernel_rfl) rfl (fun K hK=>?_)
      refine aO 55 rfl rfl 16 (fun vs=>by kernel_rfl) #[.tmp 54] #[22] rfl #[.slice ag gs.length cg] (by first|rfl|simp[Act.eval]) (ab pj Qt aS) ?_
      rintro e' Uk ⟨u20,rfl,G8,aR⟩
      have dP:=dP.mono (aD aR)
      have tZ:=tZ.mono (aD aR)
      have vF:=vF.mono (aD aR)
      have xP:=xP.mono (aD aR)
      have Ak:=Ak.mono (aD aR)
      have Cc:=Cc.mono (aD aR)
      obtain ⟨UX,UC,rfl⟩:=bq G8
      have fF:bk<Qt.heap.size:=(zA bQ).1
      have G8:=(cz G8 (by have:=(ab HS).2.2.2.2.2.2;omega)).mono (vu bU.size fF)
      have bU:=bU.trans (aR.mono bU.size)
      have aS:=aS.trans (aR.mono aS.size)
      have bQ:=(aR.block _ (zA bQ).1).trans bQ
      refine ⟨_,rfl,hK _ _ ⟨fun _=>aS,?_⟩⟩
      clear hK K aR fF
      simp only[Act.put,zL,zM,zN]
      have hT:=aS
      refine aw 37 (.agg #[.string nm,.slice none 0 0,.slice FY (os.length) FX,.slice U0 ((gK f ms).length) UF,.slice UZ (es.length) UE,.slice UY (rs.length) UD,.slice UX (gs.length) UC]) 56 rfl rfl (Or.inl ⟨by rfl,fun w' hw=>by go_simp⟩) hT ?_
      simp only[Act.put,zL,zM,zN]
      clear hT
      refine aF 39 (by kernel_rfl) rfl (fun K hK=>?_)
      obtain ⟨c0,c1,c2,c3,c4,c5,c6⟩:=kE bQ
      have z:∀j,Uk.frozen? ⟨bk,j,none⟩=false:=fun j=>by simp[World.frozen?,bQ]
      have z0:=z 0
      have z1:=z 1
      have z2:=z 2
      have z3:=z 3
      have z4:=z 4
      have z5:=z 5
      have z6:=z 6
      have hC:=po.new (nm:=nm) bU dD bQ dP tZ vF xP Ak Cc G8
      go_simp
      refine hK _ _ ⟨fun _=>(ab gP).trans (hC.bW.mono (ab gP).size),?_⟩
      clear hK K
      refine aZ (by kernel_rfl) ?_
      have HC:=al hC
      clear hC bU aS dD bQ z z0 z1 z2 z3 z4 z5 z6 c0 c1 c2 c3 c4 c5 c6 dP tZ vF xP Ak Cc G8
      go_wp2_with fail
      go_meet
      exact ⟨bk,_,_,_,_,_,_,_,rfl,⟨⟨_,_,rfl⟩,⟨_,_,rfl⟩,⟨_,_,rfl⟩,⟨_,_,rfl⟩,⟨_,_,rfl⟩⟩,HC⟩
    ·obtain ⟨JR,bM⟩:∃x,wd.alloc (.cells #[.string ⟨#[]⟩,.slice none 0 0,.slice none 0 0,.slice none 0 0,.slice none 0 0,.slice none 0 0,.slice none 0 0] 46)=x:=⟨_,rfl⟩
     have aR:Below wd.heap.size wd JR:=by rw[←bM];exact (zE _ _).alloc (zD _) _
     have bQ:JR.heap[wd.heap.size]?=some (.cells #[.string ⟨#[]⟩,.slice none 0 0,.slice none 0 0,.slice none 0 0,.slice none 0 0,.slice none 0 0,.slice none 0 0] 46 (0,0)):=by rw[←bM];exact aK _ _
     have dD:wo.heap.size≤wd.heap.size:=bU.size
     go_simp
     have bU:=bU.trans (aR.mono bU.size)
     have aS:=aS.trans (aR.mono aS.size)
     obtain ⟨bk,ey⟩:∃b,wd.heap.size=b:=⟨_,rfl⟩
     rw[ey] at bQ dD
     rw[ey]
     refine hK _ _ ⟨fun _=>aS,?_⟩
     clear hK K bM aR ey
     refine aF 10 (by kernel_rfl) rfl (fun K hK=>?_)
     refine aO 29 rfl rfl 16 (fun vs=>by kernel_rfl) #[.tmp 28] #[22] rfl #[.slice ao os.length co] (by first|rfl|simp[Act.eval]) (ab FL JR aS) ?_
     rintro e' Qs ⟨u22,rfl,pI,aR⟩
     obtain ⟨UW,UB,rfl⟩:=bq pI
     have fF:bk<JR.heap.size:=(zA bQ).1
     have pI:=(cz pI (by have:=(ab HS).2.1;omega)).mono (vu bU.size fF)
     have bU:=bU.trans (aR.mono bU.size)
     have aS:=aS.trans (aR.mono aS.size)
     have bQ:=(aR.block _ (zA bQ).1).trans bQ
     refine ⟨_,rfl,hK _ _ ⟨fun _=>aS,?_⟩⟩
     clear hK K aR fF
     simp only[Act.put,zL,zM,zN]
     refine aF 18 (by kernel_rfl) rfl (fun K hK=>?_)
     refine aO 37 rfl rfl 17 (fun vs=>by kernel_rfl) #[.tmp 34,.tmp 36] #[23,3] rfl #[.slice am ms.length dh,.int .i64 (dz+1)] (by first|rfl|simp[Act.eval]) (ab Jm Qs aS) ?_
     rintro e' Qr ⟨u23,aav,rfl,tY,vE,aR⟩
     have pI:=pI.mono (aD aR)
     obtain ⟨UU,UA,rfl⟩:=bq tY
     have fF:bk<Qs.heap.size:=(zA bQ).1
     have tY:=(cz tY (by have:=(ab HS).2.2.1;have:=oV (f:=f) (l:=ms);omega)).mono (vu bU.size fF)
     have vE:=vE.mono (QI bU.size fF)
     have bU:=bU.trans (aR.mono bU.size)
     have aS:=aS.trans (aR.mono aS.size)
     have bQ:=(aR.block _ (zA bQ).1).trans bQ
     refine ⟨_,rfl,hK _ _ ⟨fun _=>aS,?_⟩⟩
     clear hK K aR fF
     simp only[Act.put,zL,zM,zN]
     refine aF 24 (by kernel_rfl) rfl (fun K hK=>?_)
     refine aO 43 rfl rfl 18 (fun vs=>by kernel_rfl) #[.tmp 42] #[24] rfl #[.slice ae es.length da] (by first|rfl|simp[Act.eval]) (ab MD Qr aS) ?_
     rintro e' Qq ⟨u24,aau,rfl,xO,Aj,aR⟩
     have pI:=pI.mono (aD aR)
     have tY:=tY.mono (aD aR)
     have vE:=vE.mono (aD aR)
     obtain ⟨UT,Uz,rfl⟩:=bq xO
     have fF:bk<Qr.heap.size:=(zA bQ).1
     have xO:=(cz xO (by have:=(ab HS).2.2.2.1;omega)).mono (vu bU.size fF)
     have Aj:=Aj.mono (QI bU.size fF)
     have bU:=bU.trans (aR.mono bU.size)
     have aS:=aS.trans (aR.mono aS.size)
     have bQ:=(aR.block _ (zA bQ).1).trans bQ
     refine ⟨_,rfl,hK _ _ ⟨fun _=>aS,?_⟩⟩
     clear hK K aR fF
     simp only[Act.put,zL,zM,zN]
     refine aF 30 (by kernel_rfl) rfl (fun K hK=>?_)
     refine aO 49 rfl rfl 33 (fun vs=>by kernel_rfl) #[.tmp 48] #[44] rfl #[.slice ar rs.length cr] (by first|rfl|simp[Act.eval]) (ab se Qq aS) ?_
     rintro e' Qp ⟨u25,rfl,Cb,aR⟩
     have pI:=pI.mono (aD aR)
     have tY:=tY.mono (aD aR)
     have vE:=vE.mono (aD aR)
     have xO:=xO.mono (aD aR)
     have Aj:=Aj.mono (aD aR)
     obtain ⟨US,Uy,rfl⟩:=bq Cb
     have fF:bk<Qq.heap.size:=(zA bQ).1
     have Cb:=(cz Cb (by have:=(ab HS).2.2.2.2.2.1;omega)).mono (vu bU.size fF)
     have bU:=bU.trans (aR.mono bU.size)
     have aS:=aS.trans (aR.mono aS.size)
     have bQ:=(aR.block _ (zA bQ).1).trans bQ
     refine ⟨_,rfl,hK _ _ ⟨fun _=>aS,?_⟩⟩
     clear hK K aR fF
     simp only[Act.put,zL,zM,zN]
     refine aF 36 (by kernel_rfl) rfl (fun K hK=>?_)
     refine aO 55 rfl rfl 16 (fun vs=>by kernel_rfl) #[.tmp 54] #[22] rfl #[.slice ag gs.length cg] (by first|rfl|simp[Act.eval]) (ab pj Qp aS) ?_
     rintro e' Uj ⟨u26,rfl,G7,aR⟩
     have pI:=pI.mono (aD aR)
     have tY:=tY.mono (aD aR)
     have vE:=vE.mono (aD aR)
     have xO:=xO.mono (aD aR)
     have Aj:=Aj.mono (aD aR)
     have Cb:=Cb.mono (aD aR)
     obtain ⟨UR,Ux,rfl⟩:=bq G7
     have fF:bk<Qp.heap.size:=(zA bQ).1
     have G7:=(cz G7 (by have:=(ab HS).2.2.2.2.2.2;omega)).mono (vu bU.size fF)
     have bU:=bU.trans (aR.mono bU.size)
     have aS:=aS.trans (aR.mono aS.size)
     have bQ:=(aR.block _ (zA bQ).1).trans bQ
     refine ⟨_,rfl,hK _ _ ⟨fun _=>aS,?_⟩⟩
     clear hK K aR fF
     simp only[Act.put,zL,zM,zN]
     have hT:=aS
     refine aw 37 (.agg #[.string nm,.slice none 0 0,.slice UW (os.length) UB,.slice UU ((gK f ms).length) UA,.slice UT (es.length) Uz,.slice US (rs.length) Uy,.slice UR (gs.length) Ux]) 56 rfl rfl (Or.inl ⟨by rfl,fun w' hw=>by go_simp⟩) hT ?_
     simp only[Act.put,zL,zM,zN]
     clear hT
     refine aF 39 (by kernel_rfl) rfl (fun K hK=>?_)
     obtain ⟨c0,c1,c2,c3,c4,c5,c6⟩:=kE bQ
     have z:∀j,Uj.frozen? ⟨bk,j,none⟩=false:=fun j=>by simp[World.frozen?,bQ]
     have z0:=z 0
     have z1:=z 1
     have z2:=z 2
     have z3:=z 3
     have z4:=z 4
     have z5:=z 5
     have z6:=z 6
     have hC:=po.new (nm:=nm) bU dD bQ pI tY vE xO Aj Cb G7
     go_simp
     refine hK _ _ ⟨fun _=>(ab gP).trans (hC.bW.mono (ab gP).size),?_⟩
     clear hK K
     refine aZ (by kernel_rfl) ?_
     have HC:=al hC
     clear hC bU aS dD bQ z z0 z1 z2 z3 z4 z5 z6 c0 c1 c2 c3 c4 c5 c6 pI tY vE xO Aj Cb G7
     go_wp2_with fail
     go_meet
     exact ⟨bk,_,_,_,_,_,_,_,rfl,⟨⟨_,_,rfl⟩,⟨_,_,rfl⟩,⟨_,_,rfl⟩,⟨_,_,rfl⟩,⟨_,_,rfl⟩⟩,HC⟩
   case rest =>
    obtain ⟨b,uo,um,ue,ur,ug,TI,TJ,rfl,⟨⟨UL,Us,rfl⟩,⟨UM,Ut,rfl⟩,⟨UN,Uu,rfl⟩,⟨Ph,Pd,rfl⟩,⟨Pj,Pe,rfl⟩⟩,HC⟩:=hcut
    have HN:Hid (wc.ownsRow wo.heap.size 42 6 (.slice none 0 0) 0 []):=⟨rfl,.inl ⟨rfl,rfl⟩⟩
    obtain ⟨x0,x1,x2,x3,x4,x5,x6⟩:=ab dB wc ((ab gP).trans ((ab HC).bW.mono (ab gP).size))
    clear FL Jm MD se pj
    go_wp2_with fail
    clear x0 x1 x2 x3 x4 x5 x6
    go_loopg [8] fs.length (fun gk v8 wi=>∃(k:Nat) (uf:Value),v8=.int .i64 (k:Int)∧gk=fs.length-k∧k≤fs.length∧Hid (po wo wi b (uf) (.slice UL os.length Us) (.slice UM (gK f ms).length Ut) (.slice UN es.length Uu) (.slice Ph rs.length Pd) (.slice Pj gs.length Pe) TI TJ nm os (gK f ms) es rs gs)∧Hid (wi.ownsRow wo.heap.size 42 6 uf k (fw (fs.take k))))
    case atStart=>exact ⟨0,_,rfl,rfl,by omega,HC,HN⟩
    case round =>
     obtain ⟨k,uf,rfl,gF,lI,uT,lO⟩:=hrel
     have kq:=al gF
     clear gF HC HN
     obtain ⟨A2,A1,rfl⟩:=bq (ab lO)
     have Yf:=al (show Below W.heap.size W wr from (ab gP).trans ((ab uT).bW.mono (ab gP).size))
     obtain ⟨x0,x1,x2,x3,x4,x5,x6⟩:=ab dB wr (ab Yf)
     by_cases fP:k<fs.length
     ·obtain ⟨gv,ov,rfl,KS,lJ⟩:=ab XE (by omega)
      have oD:=List.getElem?_eq_getElem fP
      obtain ⟨y,Q4⟩:∃y,fs[k]=y:=⟨_,rfl⟩
      rw[Q4] at oD
      have vN:Hid (∀w',Below W.heap.size W w'→w'.cell? ⟨gv,ov+k*6,none⟩=some (.int .i64 y.aP)∧w'.cell? ⟨gv,ov+k*6+1,none⟩=some (.string y.key)∧w'.cell? ⟨gv,ov+k*6+2,none⟩=some (.string y.ty)∧w'.cell? ⟨gv,ov+k*6+3,none⟩=some (.string y.name)∧w'.cell? ⟨gv,ov+k*6+4,none⟩=some (.int .i64 y.num)∧w'.cell? ⟨gv,ov+k*6+5,none⟩=some (.int .i64 y.aE)):=by
       intro w' hb
       have key:∀(j:Nat) (x:Value),j<6→y.cs[j]?=some x→w'.cell? ⟨gv,ov+(k*6+j),none⟩=some x:=fun j x hj hx=>(hb.cell (p:=⟨gv,ov+(k*6+j),none⟩) KS).trans (lJ _ _ (by unfold fw;rw[lk Fd.cs 6 (fun _=>rfl) fs k j y oD hj];exact hx))
       exact ⟨key 0 _ (by decide) rfl,key 1 _ (by decide) rfl,key 2 _ (by decide) rfl,key 3 _ (by decide) rfl,key 4 _ (by decide) rfl,key 5 _ (by decide) rfl⟩
      have th:=al (J2 oD)
      have YK:(0:Int)≤(k:Int):=zH _
      have sv:(k:Int)<(fs.length:Int):=by omega
      have dZ:=al fP
      clear lJ oD Q4 fP
      go_upto_region 9 with fail
      refine wp_region_any (by kernel_rfl) (bK (z:=13) (T:=(fun w':World=>Below W.heap.size W w'∧w'.cell? ⟨b,1,none⟩=some (.slice A2 k A1))) _ _ _ _ ?_)
      try (change cc _ _ _ _ _ _ _ _ _ (World.drew _))
      have hC:=(ab uT).below (below_drewN (zE wr.heap.size wr) 1)
      have hO:=dJ (ab lO) (below_drewN (zE wr.heap.size wr) 1)
      change po wo wr.drew b (.slice A2 k A1) (.slice UL os.length Us) (.slice UM (gK f ms).length Ut) (.slice UN es.length Uu) (.slice Ph rs.length Pd) (.slice Pj gs.length Pe) TI TJ nm os (gK f ms) es rs gs at hC
      change World.ownsRow wr.drew _ _ _ _ _ _ at hO
      obtain ⟨wd,mY⟩:∃x,wr.drew=x:=⟨_,rfl⟩
      rw[mY] at hC hO ⊢
      have hT:(fun w':World=>Below W.heap.size W w'∧w'.cell? ⟨b,1,none⟩=some (.slice A2 k A1)) wd:=⟨(ab gP).trans (hC.bW.mono (ab gP).size),cell_of_row _ _ _ _ _ _ hC.dq⟩
      clear x0 x1 x2 x3 x4 x5 x6
      refine aw 0 (.pointer (some ⟨b,1,none⟩)) 67 rfl rfl (Or.inl ⟨by rfl,fun w' hw=>by obtain ⟨fJ,vD⟩:=hw;obtain ⟨x0,x1,x2,x3,x4,x5,x6⟩:=ab dB w' fJ;obtain ⟨y0,y1,y2,y3,y4,y5⟩:=ab vN w' fJ;go_simp⟩) hT ?_
      simp only[Act.put,zL,zM,zN]
      refine aw 1 (.slice A2 k A1) 68 rfl rfl (Or.inl ⟨by rfl,fun w' hw=>by obtain ⟨fJ,vD⟩:=hw;obtain ⟨x0,x1,x2,x3,x4,x5,x6⟩:=ab dB w' fJ;obtain ⟨y0,y1,y2,y3,y4,y5⟩:=ab vN w' fJ;go_simp⟩) hT ?_
      simp only[Act.put,zL,zM,zN]
      refine aw 2 (.slice (some ⟨g,o,none⟩) l.length c) 69 rfl rfl (Or.inl ⟨by rfl,fun w' hw=>by obtain ⟨fJ,vD⟩:=hw;obtain ⟨x0,x1,x2,x3,x4,x5,x6⟩:=ab dB w' fJ;obtain ⟨y0,y1,y2,y3,y4,y5⟩:=ab vN w' fJ;go_simp⟩) hT ?_
      simp only[Act.put,zL,zM,zN]
      refine aw 3 (.int .i64 (i:Int)) 70 rfl rfl (Or.inl ⟨by rfl,fun w' hw=>by obtain ⟨fJ,vD⟩:=hw;obtain ⟨x0,x1,x2,x3,x4,x5,x6⟩:=ab dB w' fJ;obtain ⟨y0,y1,y2,y3,y4,y5⟩:=ab vN w' fJ;go_simp⟩) hT ?_
      simp only[Act.put,zL,zM,zN]
      refine aw 4 (.pointer (some ⟨g,o+i*7,none⟩)) 71 rfl rfl (Or.inl ⟨by rfl,fun w' hw=>by obtain ⟨fJ,vD⟩:=hw;obtain ⟨x0,x1,x2,x3,x4,x5,x6⟩:=ab dB w' fJ;obtain ⟨y0,y1,y2,y3,y4,y5⟩:=ab vN w' fJ;go_simp⟩) hT ?_
      simp only[Act.put,zL,zM,zN]
      refine aw 5 (.pointer (some ⟨g,o+i*7+1,none⟩)) 72 rfl rfl (Or.inl ⟨by rfl,fun w' hw=>by obtain ⟨fJ,vD⟩:=hw;obtain ⟨x0,x1,x2,x3,x4,x5,x6⟩:=ab dB w' fJ;obtain ⟨y0,y1,y2,y3,y4,y5⟩:=ab vN w' fJ;go_simp⟩) hT ?_
      simp only[Act.put,zL,zM,zN]
      refine aw 6 (.slice (some ⟨gv,ov,none⟩) fs.length cf) 73 rfl rfl (Or.inl ⟨by rfl,fun w' hw=>by obtain ⟨fJ,vD⟩:=hw;obtain ⟨x0,x1,x2,x3,x4,x5,x6⟩:=ab dB w' fJ;obtain ⟨y0,y1,y2,y3,y4,y5⟩:=ab vN w' fJ;go_simp⟩) hT ?_
      simp only[Act.put,zL,zM,zN]
      refine aw 7 (.int .i64 (k:Int)) 74 rfl rfl (Or.inl ⟨by rfl,fun w' hw=>by obtain ⟨fJ,vD⟩:=hw;obtain ⟨x0,x1,x2,x3,x4,x5,x6⟩:=ab dB w' fJ;obtain ⟨y0,y1,y2,y3,y4,y5⟩:=ab vN w' fJ;go_simp⟩) hT ?_
      simp only[Act.put,zL,zM,zN]
      refine aw 8 (.pointer (some ⟨gv,ov+k*6,none⟩)) 75 rfl rfl (Or.inl ⟨by rfl,fun w' hw=>by obtain ⟨fJ,vD⟩:=hw;obtain ⟨x0,x1,x2,x3,x4,x5,x6⟩:=ab dB w' fJ;obtain ⟨y0,y1,y2,y3,y4,y5⟩:=ab vN w' fJ;go_simp⟩) hT ?_
      simp only[Act.put,zL,zM,zN]
      refine aw 9 (.agg #[.int .i64 y.aP,.string y.key,.string y.ty,.string y.name,.int .i64 y.num,.int .i64 y.aE]) 76 rfl rfl (Or.inl ⟨by rfl,fun w' hw=>by obtain ⟨fJ,vD⟩:=hw;obtain ⟨x0,x1,x2,x3,x4,x5,x6⟩:=ab dB w' fJ;obtain ⟨y0,y1,y2,y3,y4,y5⟩:=ab vN w' fJ;go_simp⟩) hT ?_
      simp only[Act.put,zL,zM,zN]
      obtain ⟨wy,Jx⟩:∃x,wd.alloc (.cells #[.int .i64 y.aP,.string y.key,.string y.ty,.string y.name,.int .i64 y.num,.int .i64 y.aE] 42)=x:=⟨_,rfl⟩
      have aR:Below wd.heap.size wd wy:=by rw[←Jx];exact (zE _ _).alloc (zD _) _
      have hC:=hC.below aR
      have hO:=dJ hO aR
      have hT:(fun w':World=>Below W.heap.size W w'∧w'.cell? ⟨b,1,none⟩=some (.slice A2 k A1)) wy:=⟨(ab gP).trans (hC.bW.mono (ab gP).size),cell_of_row _ _ _ _ _ _ hC.dq⟩
      have KN:∀j u,y.cs[j]?=some u→wy.cell? ((⟨wd.heap.size,0,none⟩:Addr).add j)=some u:=by rw[←Jx];exact pO _ _ _
      refine aF 10 (by kernel_rfl) rfl (fun K hK=>?_)
      go_simp
      refine hK _ _ ⟨fun _=>hT,?_⟩
      clear hK K Jx aR mY
      refine aF 11 (by kernel_rfl) rfl (fun K hK=>?_)
      refine kX 78 rfl rfl (.tmp 68) (.tmp 77) 43 rfl wo.heap.size 42 j0 (.agg #[.int .i64 0,.string ByteArray.empty,.string ByteArray.empty,.string ByteArray.empty,.int .i64 0,.int .i64 0]) 6 72 Tryz.underlying43 hj Vl Vk Vj rfl (by decide) (.slice A2 k A1) k _ (by first|rfl|simp[Act.eval]) hO ⟨wd.heap.size,0,none⟩ 1 1 y.cs (by first|rfl|simp[Act.eval]) rfl KN (by simp[Fd.cs,Value.oneCell']) (by have:=ab dZ;have:=(ab HS).1;unfold maxLen;omega) (by have:=ab dZ;have:=(ab HS).1;omega) hC.bW.size ?_
      intro v' w2 ho ei ef
      have Dz:=hC.B0 ei (fun j e=>(hO.lt j e).1) (dQ hO hC.dq (by decide))
      obtain ⟨a',c',rfl⟩:=bq ho
      have FH:(fun w':World=>Below W.heap.size W w'∧w'.cell? ⟨b,1,none⟩=some (.slice A2 k A1)) w2:=⟨(ab gP).trans (Dz.bW.mono (ab gP).size),cell_of_row _ _ _ _ _ _ Dz.dq⟩
      rw[←ab th] at ho
      refine hK _ _ ⟨fun _=>FH,?_⟩
      clear hK K hO hT KN
      simp only[Act.put,zL,zM,zN]
      refine aw 12 (.pointer (some ⟨b,1,none⟩)) 79 rfl rfl (Or.inl ⟨by rfl,fun w' hw=>by obtain ⟨fJ,vD⟩:=hw;go_simp⟩) FH ?_
      simp only[Act.put,zL,zM,zN]
      have PJ:=FH.2
      have NN:w2.frozen? ⟨b,1,none⟩=false:=by simp[World.frozen?,Dz.dq]
      have Sa:=hC.grow ei (u':=.slice a' (k+1) c') Dz ef
      have RJ:=(bh (j:=1) Dz.dq (.slice a' (k+1) c')).2
      have R7:=ho.kept RJ (.inr (dQ ho Dz.dq (by decide)))
      refine aF 13 (by kernel_rfl) rfl (fun K hK=>?_)
      go_simp
      refine hK _ _ ⟨fun h=>absurd rfl h,?_⟩
      have Ye:=al Sa
      have XV:=al R7
      clear hK K PJ NN FH ho hC Dz Sa R7 RJ ef ei
      refine aZ (by kernel_rfl) ?_
      go_wp2
      go_roundg (fs.length-(k+1))
      case measure=>have:=ab kq;have:=ab dZ;omega
      case rel=>exact ⟨k+1,_,by go_num,rfl,ab dZ,Ye,XV⟩
     ·obtain rfl:k=fs.length:=by omega
      have hO:=ab lO
      rw[List.take_length] at hO
      have XU:=al hO
      clear hO lO
      obtain ⟨c0,c1,c2,c3,c4,c5,c6⟩:=kE (ab uT).dq
      have sv:¬(fs.length:Int)<(fs.length:Int):=by omega
      have iJ:=al (show w0.heap.size≤wr.heap.size from Nat.le_trans (ab HB).size (ab uT).bW.size)
      have XT:=al ((ab HO).kept (show wo.grownBy wr none from ⟨(ab uT).bW.os,(ab uT).bW.tape,(ab uT).bW.output,(ab uT).bW.size,fun q hq _=>(ab uT).bW.block q hq⟩) (by cases u5.ownBlock with|none=>exact .inl rfl|some q=>exact .inr (by simp)))
      have vk:=al ((ab HB).trans ((ab uT).bW.mono (ab HB).size))
      obtain ⟨DO,DL,rfl⟩:=bq (ab HO)
      go_wp2_with (at_builtin;refine wpList_append_own_at _ rfl _ _ 23 rfl w0.heap.size 46 i0 (.agg #[.string ByteArray.empty,.slice none 0 0,.slice none 0 0,.slice none 0 0,.slice none 0 0,.slice none 0 0,.slice none 0 0]) 7 160 Tryz.underlying23 hi gj dR c7 rfl (by decide) _ _ _ rfl ((ab XT).alloc _) ⟨wr.heap.size,0,none⟩ 1 1 [.string nm,.slice A2 fs.length A1,.slice UL os.length Us,.slice UM (gK f ms).length Ut,.slice UN es.length Uu,.slice Ph rs.length Pd,.slice Pj gs.length Pe] rfl rfl (pO _ _ _) (by simp[Value.oneCell']) (by have:=ab bu;unfold maxLen;omega) (by have:=ab bu;have:=ab Hl;omega) (by rw[zJ];have:=ab iJ;omega) ?_;intro v' w2 ho ei _ ef;have XS:=al ho;have Yb:=al (Gz (ab HO) (ab Tb) (ab uT) (ab XU) (ab HS).1 (ab HB).size (ab Hr) ((zE _ _).alloc (zD _) _) ei ef);have JO:=al (((ab vk).alloc (ab vk).size _).grown ei (by rw[zJ];have:=ab iJ;omega) (fun q e=>((ab HO).lt q e).1));clear ho ei ef)
      go_roundg (l.length-(i+1))
      case measure=>have:=ab bz;have:=ab bu;omega
      case rel=>exact ⟨i+1,_,by go_num,rfl,ab bu,XS,Yb,JO⟩
  ·obtain rfl:i=l.length:=by omega
   have hE:=ab Tb
   rw[List.take_length] at hE
   have Qh:=al hE
   have lO:=al (show wo.ownsRow w0.heap.size 46 7 u5 (gK (f+1) l).length iN by rw[show (gK (f+1) l).length=l.length from List.length_map _];exact ab HO)
   clear hE HO
   go_wp2
   go_ret
   exact ⟨_,_,rfl,ab lO,ab Qh,ab HB⟩
theorem ox:∀f,f≤200→Lx f
 |0,_=>BQ
 |f+1,h=>vz (by omega) (ox f (by omega))
end Go.Proofs.YtichhjfjcinjgaaGreatDoor
