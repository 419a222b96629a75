import Derived.Test.YtghioefalckgoaaGreatDoorM41
set_option maxHeartbeats 8000000
set_option maxRecDepth 100000
namespace Go.Proofs.YtghioefalckgoaaGreatDoor
open Go.RowKit
attribute [local go_sem ↓] Go.wp_at_zero Go.wp_at_succ
theorem Cy:Oj 0:=by
 intro W v l cs hv _ _ _ w0 hw
 obtain ⟨a,c,rfl,hn,-⟩:=hv
 have HB:=ak (zE w0.heap.size w0)
 clear hw
 go_enter Tryz.func22,Tryz.ntmps22
 go_wp2
 go_loopg [5,6,7,8] 1 (fun gk v5 v6 _ _ wr=>v5=.slice none 0 0∧v6=.int .i64 0∧gk=1∧Hid (wr=w0))
 case atStart=>exact ⟨rfl,rfl,rfl,rfl⟩
 case round =>
  obtain ⟨rfl,rfl,bd,HW⟩:=hrel
  clear bd
  by_cases h0:(0:Int)<(l.length:Int)
  ·go_wp2
   go_ret
   have:=ab HW
   subst this
   first|exact ⟨_,[],rfl,⟨rfl,.inl ⟨rfl,rfl⟩⟩,.nil,ab HB⟩|exact ⟨_,rfl,[],⟨rfl,.inl ⟨rfl,rfl⟩⟩,.nil,ab HB⟩
  ·go_wp2
   go_ret
   have:=ab HW
   subst this
   first|exact ⟨_,[],rfl,⟨rfl,.inl ⟨rfl,rfl⟩⟩,.nil,ab HB⟩|exact ⟨_,rfl,[],⟨rfl,.inl ⟨rfl,rfl⟩⟩,.nil,ab HB⟩
theorem wO {f:Nat} (hf:f<200) (ih:Oj f):Oj (f+1):=by
 intro W v l cs hv hm hl hz w0 hw
 obtain ⟨a,c,rfl,hn,h2⟩:=hv
 obtain ⟨i0,hi,fX,gp,fJ⟩:=info_parts QC
 obtain ⟨j0,hj,jz0,jz1,jz2⟩:=info_parts QD
 obtain ⟨dz,GO⟩:∃z,(200-((f+1:Nat):Int))=z:=⟨_,rfl⟩
 rw[GO]
 have FB:0≤dz:=by omega
 have hd1:dz<200:=by omega
 have Hdz:=ak (show dz+1=200-(f:Int) by omega)
 have H2:=ak h2
 have HW:=ak hw
 have Hl:=ak hl
 have Hms:=ak hm
 have Hz:=ak hz
 have WT:=ak ih
 clear h2 hw hl hm hz ih GO hf
 go_enter Tryz.func22,Tryz.ntmps22
 go_wp2
 go_loopg [5,6,7,8] l.length (fun gk v5 v6 _ _ wr=>∃(i:Nat) (fI:List Value),v6=.int .i64 (i:Int)∧gk=l.length-i∧i≤l.length∧Hid (wr.ownsRow w0.heap.size 57 7 v5 i fI)∧Hid (pr (Rest w0.heap.size v5) wr fI ((l.take i).map (ri f)))∧Hid (Below w0.heap.size w0 wr))
 case atStart=>exact ⟨0,[],rfl,rfl,by omega,⟨rfl,.inl ⟨rfl,rfl⟩⟩,.nil,zE _ _⟩
 case round =>
  obtain ⟨i,fI,rfl,bd,fY,HO,Xk,HB⟩:=hrel
  have bH:=ak bd
  clear bd
  obtain ⟨wo,lM⟩:∃x,x=wr:=⟨_,rfl⟩
  subst lM
  by_cases aU:i<l.length
  ·obtain ⟨g,o,rfl,hg,hc⟩:=ab H2 (by omega)
   have hr:=List.getElem?_eq_getElem aU
   have bQ:=List.getElem_mem aU
   obtain ⟨m,ma⟩:∃m,l[i]=m:=⟨_,rfl⟩
   rw[ma] at hr bQ
   obtain ⟨vf,vo,vm,ve,vr,vg,nm,fs,os,ms,es,rs,gs,cm,ce,gD,hV⟩:=(ab Hms).at i m hr
   obtain rfl:=hV.is
   have CH:=ab Hz _ bQ
   obtain ⟨s1,s2,s3,s4,s5,s6,s7⟩:=CH.s
   have dh:=ak (show Below W.heap.size W wo from (ab HW).trans ((ab HB).mono (ab HW).size))
   have dE:Hid (∀w',Below W.heap.size W w'→w'.cell? ⟨g,o+i*7,none⟩=some (.string nm)∧w'.cell? ⟨g,o+i*7+1,none⟩=some vf∧w'.cell? ⟨g,o+i*7+2,none⟩=some vo∧w'.cell? ⟨g,o+i*7+3,none⟩=some vm∧w'.cell? ⟨g,o+i*7+4,none⟩=some ve∧w'.cell? ⟨g,o+i*7+5,none⟩=some vr∧w'.cell? ⟨g,o+i*7+6,none⟩=some vg):=by
    intro w' hb
    have key:∀(j:Nat) (x:Value),[Value.string nm,vf,vo,vm,ve,vr,vg][j]?=some x→w'.cell? ⟨g,o+(i*7+j),none⟩=some x:=fun j x hx=>(hb.cell (p:=⟨g,o+(i*7+j),none⟩) hg).trans (hc _ _ (by
     rw[←gD,List.getElem?_take,List.getElem?_drop] at hx
     split at hx
     ·exact hx
     ·cases hx))
    exact ⟨key 0 _ rfl,key 1 _ rfl,key 2 _ rfl,key 3 _ rfl,key 4 _ rfl,key 5 _ rfl,key 6 _ rfl⟩
   have Oq:=ak (fun w' hb=>mx hV.ho s2 w' hb)
   have Lg:=ak (fun w' hb=>ab WT W vm ms cm hV.hm hV.eI s3 CH.2 w' hb)
   rw[←ab Hdz] at Lg
   have Xl:=ak (fun w' hb=>xR hV.he hV.ep s4 s5 w' hb)
   have lF:=ak (fun w' hb=>uM hV.hr s6 w' hb)
   have eY:=ak (fun w' hb=>mx hV.hg s7 w' hb)
   obtain ⟨af,cf,rfl,hnf,QV⟩:=hV.hf
   obtain ⟨ao,co,rfl,-,-⟩:=hV.ho
   obtain ⟨am,cq,rfl,-,-⟩:=hV.hm
   obtain ⟨ae,cn,rfl,-,-⟩:=hV.he
   obtain ⟨ar,cr,rfl,-,-⟩:=hV.hr
   obtain ⟨ag,cg,rfl,-,-⟩:=hV.hg
   have HV3:=ak QV
   have Fo:(0:Int)≤(i:Int):=zH _
   have i1:(i:Int)<(l.length:Int):=by omega
   have bn:=ak aU
   have Hr:=ak hr
   have HS:=ak (show Sy fs os ms es rs gs from ⟨s1,s2,s3,s4,s5,s6,s7⟩)
   clear hc bQ ma gD QV aU hr hV CH s1 s2 s3 s4 s5 s6 s7
   go_upto_region 5 with fail
   go_cut [7] (fun v7 wx=>∃(b:Nat) (uo um ue ur ug:Value) (Yd Ye:List Value),v7=.pointer (some ⟨b,0,none⟩)∧((∃a c,uo=.slice a os.length c)∧(∃a c,um=.slice a (fp f ms).length c)∧(∃a c,ue=.slice a es.length c)∧(∃a c,ur=.slice a rs.length c)∧(∃a c,ug=.slice a gs.length c))∧Hid (pG wo wx b (.slice none 0 0) uo um ue ur ug Yd Ye nm os (fp f ms) es rs gs))
   case first =>
    refine wp_region_any (by kernel_rfl) (aV (z:=99) (T:=fun w'=>Below W.heap.size W w') _ _ _ _ ?_)
    try (change ba _ _ _ _ _ _ _ _ _ (World.drew _))
    have bf:Below W.heap.size W wo.drew:=below_drewN (ab dh) 1
    have bC:Below wo.heap.size wo wo.drew:=below_drewN (zE wo.heap.size wo) 1
    obtain ⟨wd,lP⟩:∃x,wo.drew=x:=⟨_,rfl⟩
    rw[lP] at bf bC ⊢
    have hT:=bf
    refine aw 0 (.slice (some ⟨g,o,none⟩) l.length c) 19 rfl rfl (Or.inl ⟨by rfl,fun w' hw=>by obtain ⟨x0,x1,x2,x3,x4,x5,x6⟩:=ab dE w' hw;go_simp⟩) hT ?_
    simp only[Act.put,zL,zM,zN]
    refine aw 1 (.int .i64 (i:Int)) 20 rfl rfl (Or.inl ⟨by rfl,fun w' hw=>by obtain ⟨x0,x1,x2,x3,x4,x5,x6⟩:=ab dE w' hw;go_simp⟩) hT ?_
    simp only[Act.put,zL,zM,zN]
    refine aw 2 (.pointer (some ⟨g,o+i*7,none⟩)) 21 rfl rfl (Or.inl ⟨by rfl,fun w' hw=>by obtain ⟨x0,x1,x2,x3,x4,x5,x6⟩:=ab dE w' hw;go_simp⟩) hT ?_
    simp only[Act.put,zL,zM,zN]
    refine aw 3 (.pointer (some ⟨g,o+i*7,none⟩)) 22 rfl rfl (Or.inl ⟨by rfl,fun w' hw=>by obtain ⟨x0,x1,x2,x3,x4,x5,x6⟩:=ab dE w' hw;go_simp⟩) hT ?_
    simp only[Act.put,zL,zM,zN]
    refine aw 4 (.string nm) 23 rfl rfl (Or.inl ⟨by rfl,fun w' hw=>by obtain ⟨x0,x1,x2,x3,x4,x5,x6⟩:=ab dE w' hw;go_simp⟩) hT ?_
    simp only[Act.put,zL,zM,zN]
    refine aw 5 (.slice (some ⟨g,o,none⟩) l.length c) 24 rfl rfl (Or.inl ⟨by rfl,fun w' hw=>by obtain ⟨x0,x1,x2,x3,x4,x5,x6⟩:=ab dE w' hw;go_simp⟩) hT ?_
    simp only[Act.put,zL,zM,zN]
    refine aw 6 (.int .i64 (i:Int)) 25 rfl rfl (Or.inl ⟨by rfl,fun w' hw=>by obtain ⟨x0,x1,x2,x3,x4,x5,x6⟩:=ab dE w' hw;go_simp⟩) hT ?_
    simp only[Act.put,zL,zM,zN]
    refine aw 7 (.pointer (some ⟨g,o+i*7,none⟩)) 26 rfl rfl (Or.inl ⟨by rfl,fun w' hw=>by obtain ⟨x0,x1,x2,x3,x4,x5,x6⟩:=ab dE w' hw;go_simp⟩) hT ?_
    simp only[Act.put,zL,zM,zN]
    refine aw 8 (.pointer (some ⟨g,o+i*7+2,none⟩)) 27 rfl rfl (Or.inl ⟨by rfl,fun w' hw=>by obtain ⟨x0,x1,x2,x3,x4,x5,x6⟩:=ab dE w' hw;go_simp⟩) hT ?_
    simp only[Act.put,zL,zM,zN]
    refine aw 9 (.slice ao os.length co) 28 rfl rfl (Or.inl ⟨by rfl,fun w' hw=>by obtain ⟨x0,x1,x2,x3,x4,x5,x6⟩:=ab dE w' hw;go_simp⟩) hT ?_
    simp only[Act.put,zL,zM,zN]
    refine aw 11 (.slice (some ⟨g,o,none⟩) l.length c) 30 rfl rfl (Or.inl ⟨by rfl,fun w' hw=>by obtain ⟨x0,x1,x2,x3,x4,x5,x6⟩:=ab dE w' hw;go_simp⟩) hT ?_
    simp only[Act.put,zL,zM,zN]
    refine aw 12 (.int .i64 (i:Int)) 31 rfl rfl (Or.inl ⟨by rfl,fun w' hw=>by obtain ⟨x0,x1,x2,x3,x4,x5,x6⟩:=ab dE w' hw;go_simp⟩) hT ?_
    simp only[Act.put,zL,zM,zN]
    refine aw 13 (.pointer (some ⟨g,o+i*7,none⟩)) 32 rfl rfl (Or.inl ⟨by rfl,fun w' hw=>by obtain ⟨x0,x1,x2,x3,x4,x5,x6⟩:=ab dE w' hw;go_simp⟩) hT ?_
    simp only[Act.put,zL,zM,zN]
    refine aw 14 (.pointer (some ⟨g,o+i*7+3,none⟩)) 33 rfl rfl (Or.inl ⟨by rfl,fun w' hw=>by obtain ⟨x0,x1,x2,x3,x4,x5,x6⟩:=ab dE w' hw;go_simp⟩) hT ?_
    simp only[Act.put,zL,zM,zN]
    refine aw 15 (.slice am ms.length cq) 34 rfl rfl (Or.inl ⟨by rfl,fun w' hw=>by obtain ⟨x0,x1,x2,x3,x4,x5,x6⟩:=ab dE w' hw;go_simp⟩) hT ?_
    simp only[Act.put,zL,zM,zN]
    refine aw 16 (.int .i64 dz) 35 rfl rfl (Or.inl ⟨by rfl,fun w' hw=>by obtain ⟨x0,x1,x2,x3,x4,x5,x6⟩:=ab dE w' hw;go_simp⟩) hT ?_
    simp only[Act.put,zL,zM,zN]
    refine aw 17 (.int .i64 (dz+1)) 36 rfl rfl (Or.inl ⟨by rfl,fun w' hw=>by obtain ⟨x0,x1,x2,x3,x4,x5,x6⟩:=ab dE w' hw;go_simp;try exact IntWalk.i64_in _ (by omega)⟩) hT ?_
    simp only[Act.put,zL,zM,zN]
    refine aw 19 (.slice (some ⟨g,o,none⟩) l.length c) 38 rfl rfl (Or.inl ⟨by rfl,fun w' hw=>by obtain ⟨x0,x1,x2,x3,x4,x5,x6⟩:=ab dE w' hw;go_simp⟩) hT ?_
    simp only[Act.put,zL,zM,zN]
    refine aw 20 (.int .i64 (i:Int)) 39 rfl rfl (Or.inl ⟨by rfl,fun w' hw=>by obtain ⟨x0,x1,x2,x3,x4,x5,x6⟩:=ab dE w' hw;go_simp⟩) hT ?_
    simp only[Act.put,zL,zM,zN]
    refine aw 21 (.pointer (some ⟨g,o+i*7,none⟩)) 40 rfl rfl (Or.inl ⟨by rfl,fun w' hw=>by obtain ⟨x0,x1,x2,x3,x4,x5,x6⟩:=ab dE w' hw;go_simp⟩) hT ?_
    simp only[Act.put,zL,zM,zN]
    refine aw 22 (.pointer (some ⟨g,o+i*7+4,none⟩)) 41 rfl rfl (Or.inl ⟨by rfl,fun w' hw=>by obtain ⟨x0,x1,x2,x3,x4,x5,x6⟩:=ab dE w' hw;go_simp⟩) hT ?_
    simp only[Act.put,zL,zM,zN]
    refine aw 23 (.slice ae es.length cn) 42 rfl rfl (Or.inl ⟨by rfl,fun w' hw=>by obtain ⟨x0,x1,x2,x3,x4,x5,x6⟩:=ab dE w' hw;go_simp⟩) hT ?_
    simp only[Act.put,zL,zM,zN]
    refine aw 25 (.slice (some ⟨g,o,none⟩) l.length c) 44 rfl rfl (Or.inl ⟨by rfl,fun w' hw=>by obtain ⟨x0,x1,x2,x3,x4,x5,x6⟩:=ab dE w' hw;go_simp⟩) hT ?_
    simp only[Act.put,zL,zM,zN]
    refine aw 26 (.int .i64 (i:Int)) 45 rfl rfl (Or.inl ⟨by rfl,fun w' hw=>by obtain ⟨x0,x1,x2,x3,x4,x5,x6⟩:=ab dE w' hw;go_simp⟩) hT ?_
    simp only[Act.put,zL,zM,zN]
    refine aw 27 (.pointer (some ⟨g,o+i*7,none⟩)) 46 rfl rfl (Or.inl ⟨by rfl,fun w' hw=>by obtain ⟨x0,x1,x2,x3,x4,x5,x6⟩:=ab dE w' hw;go_simp⟩) hT ?_
    simp only[Act.put,zL,zM,zN]
    refine aw 28 (.pointer (some ⟨g,o+i*7+5,none⟩)) 47 rfl rfl (Or.inl ⟨by rfl,fun w' hw=>by obtain ⟨x0,x1,x2,x3,x4,x5,x6⟩:=ab dE w' hw;go_simp⟩) hT ?_
    simp only[Act.put,zL,zM,zN]
    refine aw 29 (.slice ar rs.length cr) 48 rfl rfl (Or.inl ⟨by rfl,fun w' hw=>by obtain ⟨x0,x1,x2,x3,x4,x5,x6⟩:=ab dE w' hw;go_simp⟩) hT ?_
    simp only[Act.put,zL,zM,zN]
    refine aw 31 (.slice (some ⟨g,o,none⟩) l.length c) 50 rfl rfl (Or.inl ⟨by rfl,fun w' hw=>by obtain ⟨x0,x1,x2,x3,x4,x5,x6⟩:=ab dE w' hw;go_simp⟩) hT ?_
    simp only[Act.put,zL,zM,zN]
    refine aw 32 (.int .i64 (i:Int)) 51 rfl rfl (Or.inl ⟨by rfl,fun w' hw=>by obtain ⟨x0,x1,x2,x3,x4,x5,x6⟩:=ab dE w' hw;go_simp⟩) hT ?_
    simp only[Act.put,zL,zM,zN]
    refine aw 33 (.pointer (some ⟨g,o+i*7,none⟩)) 52 rfl rfl (Or.inl ⟨by rfl,fun w' hw=>by obtain ⟨x0,x1,x2,x3,x4,x5,x6⟩:=ab dE w' hw;go_simp⟩) hT ?_
    simp only[Act.put,zL,zM,zN]
    refine aw 34 (.pointer (some ⟨g,o+i*7+6,none⟩)) 53 rfl rfl (Or.inl ⟨by rfl,fun w' hw=>by obtain ⟨x0,x1,x2,x3,x4,x5,x6⟩:=ab dE w' hw;go_simp⟩) hT ?_
    simp only[Act.put,zL,zM,zN]
    refine aw 35 (.slice ag gs.length cg) 54 rfl rfl (Or.inl ⟨by rfl,fun w' hw=>by obtain ⟨x0,x1,x2,x3,x4,x5,x6⟩:=ab dE w' hw;go_simp⟩) hT ?_
    simp only[Act.put,zL,zM,zN]
    clear hT
    refine eC 10 38 (by kernel_rfl) rfl rfl (fun K hK=>?_) (fun K hK=>?_)
    ·refine aM 29 rfl rfl 21 (fun vs=>by kernel_rfl) #[.tmp 28] #[22] rfl #[.slice ao os.length co] (by first|rfl|simp[Act.eval]) (ab Oq wd bf) ?_
     rintro e' zR ⟨u1,rfl,cT,aT⟩
     obtain ⟨Ie,Ic,rfl⟩:=aN cT
     have cT:=(bP cT (by have:=(ab HS).2.1;omega)).mono (Uw bC.size)
     have bC:=bC.trans (aT.mono bC.size)
     have bf:=bf.trans (aT.mono bf.size)
     refine ⟨_,rfl,hK _ _ ⟨fun _=>bf,?_⟩⟩
     clear hK K aT
     simp only[Act.put,zL,zM,zN]
     refine eC 18 38 (by kernel_rfl) rfl rfl (fun K hK=>?_) (fun K hK=>?_)
     ·refine aM 37 rfl rfl 22 (fun vs=>by kernel_rfl) #[.tmp 34,.tmp 36] #[23,3] rfl #[.slice am ms.length cq,.int .i64 (dz+1)] (by first|rfl|simp[Act.eval]) (ab Lg zR bf) ?_
      rintro e' BK ⟨u2,cs2,rfl,fg,ff,aT⟩
      have cT:=cT.mono (aC aT)
      obtain ⟨L8,L7,rfl⟩:=aN fg
      have fg:=(bP fg (by have:=(ab HS).2.2.1;have:=pd (f:=f) (l:=ms);omega)).mono (Uw bC.size)
      have ff:=ff.mono (sr0 bC.size)
      have bC:=bC.trans (aT.mono bC.size)
      have bf:=bf.trans (aT.mono bf.size)
      refine ⟨_,rfl,hK _ _ ⟨fun _=>bf,?_⟩⟩
      clear hK K aT
      simp only[Act.put,zL,zM,zN]
      refine eC 24 38 (by kernel_rfl) rfl rfl (fun K hK=>?_) (fun K hK=>?_)
      ·refine aM 43 rfl rfl 23 (fun vs=>by kernel_rfl) #[.tmp 42] #[24] rfl #[.slice ae es.length cn] (by first|rfl|simp[Act.eval]) (ab Xl BK bf) ?_
       rintro e' BZ ⟨u3,cs3,rfl,lI,mG,aT⟩
       have cT:=cT.mono (aC aT)
       have fg:=fg.mono (aC aT)
       have ff:=ff.mono (aC aT)
       obtain ⟨S',S7,rfl⟩:=aN lI
       have lI:=(bP lI (by have:=(ab HS).2.2.2.1;omega)).mono (Uw bC.size)
       have mG:=mG.mono (sr0 bC.size)
       have bC:=bC.trans (aT.mono bC.size)
       have bf:=bf.trans (aT.mono bf.size)
       refine ⟨_,rfl,hK _ _ ⟨fun _=>bf,?_⟩⟩
       clear hK K aT
       simp only[Act.put,zL,zM,zN]
       refine eC 30 38 (by kernel_rfl) rfl rfl (fun K hK=>?_) (fun K hK=>?_)
       ·refine aM 49 rfl rfl 44 (fun vs=>by kernel_rfl) #[.tmp 48] #[55] rfl #[.slice ar rs.length cr] (by first|rfl|simp[Act.eval]) (ab lF BZ bf) ?_
        rintro e' Gx ⟨u4,rfl,A',aT⟩
        have cT:=cT.mono (aC aT)
        have fg:=fg.mono (aC aT)
        have ff:=ff.mono (aC aT)
        have lI:=lI.mono (aC aT)
        have mG:=mG.mono (aC aT)
        obtain ⟨ua4,uc4,rfl⟩:=aN A'
        have A':=(bP A' (by have:=(ab HS).2.2.2.2.2.1;omega)).mono (Uw bC.size)
        have bC:=bC.trans (aT.mono bC.size)
        have bf:=bf.trans (aT.mono bf.size)
        refine ⟨_,rfl,hK _ _ ⟨fun _=>bf,?_⟩⟩
        clear hK K aT
        simp only[Act.put,zL,zM,zN]
        refine eC 36 38 (by kernel_rfl) rfl rfl (fun K hK=>?_) (fun K hK=>?_)
        ·refine aM 55 rfl rfl 21 (fun vs=>by kernel_rfl) #[.tmp 54] #[22] rfl #[.slice ag gs.length cg] (by first|rfl|simp[Act.eval]) (ab eY Gx bf) ?_
         rintro e' OE ⟨u5,rfl,D5,aT⟩
         have cT:=cT.mono (aC aT)
         have fg:=fg.mono (aC aT)
         have ff:=ff.mono (aC aT)
         have lI:=lI.mono (aC aT)
         have mG:=mG.mono (aC aT)
         have A':=A'.mono (aC aT)
         obtain ⟨Zu,Y',rfl⟩:=aN D5
         have D5:=(bP D5 (by have:=(ab HS).2.2.2.2.2.2;omega)).mono (Uw bC.size)
         have bC:=bC.trans (aT.mono bC.size)
         have bf:=bf.trans (aT.mono bf.size)
         refine ⟨_,rfl,hK _ _ ⟨fun _=>bf,?_⟩⟩
         clear hK K aT
         simp only[Act.put,zL,zM,zN]
         have hT:=bf
         refine aw 37 (.agg #[.string nm,.slice none 0 0,.slice Ie (os.length) Ic,.slice L8 ((fp f ms).length) L7,.slice S' (es.length) S7,.slice ua4 (rs.length) uc4,.slice Zu (gs.length) Y']) 56 rfl rfl (Or.inl ⟨by rfl,fun w' hw=>by go_simp⟩) hT ?_
         simp only[Act.put,zL,zM,zN]
         clear hT
         refine aB 38 (by kernel_rfl) rfl (fun K hK=>?_)
         obtain ⟨OD,br⟩:∃x,OE.alloc (.cells #[.string ⟨#[]⟩,.slice none 0 0,.slice none 0 0,.slice none 0 0,.slice none 0 0,.slice none 0 0,.slice none 0 0] 57)=x:=⟨_,rfl⟩
         have aT:Below OE.heap.size OE OD:=by rw[←br];exact (zE _ _).alloc (zD _) _
         have bA:OD.heap[OE.heap.size]?=some (.cells #[.string ⟨#[]⟩,.slice none 0 0,.slice none 0 0,.slice none 0 0,.slice none 0 0,.slice none 0 0,.slice none 0 0] 57 (0,0)):=by rw[←br];exact aE _ _
         have cK:wo.heap.size≤OE.heap.size:=bC.size
         go_simp
         have cT:=cT.mono (vW aT)
         have fg:=fg.mono (vW aT)
         have ff:=ff.mono (vW aT)
         have lI:=lI.mono (vW aT)
         have mG:=mG.mono (vW aT)
         have A':=A'.mono (vW aT)
         have D5:=D5.mono (vW aT)
         have bC:=bC.trans (aT.mono bC.size)
         have bf:=bf.trans (aT.mono bf.size)
         obtain ⟨bk,dJ⟩:∃b,OE.heap.size=b:=⟨_,rfl⟩
         rw[dJ] at bA cK cT fg ff lI mG A' D5
         rw[dJ]
         refine hK _ _ ⟨fun _=>bf,?_⟩
         clear hK K br aT dJ
         refine aB 39 (by kernel_rfl) rfl (fun K hK=>?_)
         obtain ⟨c0,c1,c2,c3,c4,c5,c6⟩:=kO bA
         have z:∀j,OD.frozen? ⟨bk,j,none⟩=false:=fun j=>by simp[World.frozen?,bA]
         have z0:=z 0
         have z1:=z 1
         have z2:=z 2
         have z3:=z 3
         have z4:=z 4
         have z5:=z 5
         have z6:=z 6
         have hC:=pG.new (nm:=nm) bC cK bA cT fg ff lI mG A' D5
         go_simp
         refine hK _ _ ⟨fun _=>(ab dh).trans (hC.bh.mono (ab dh).size),?_⟩
         clear hK K
         refine aQ (by kernel_rfl) ?_
         have HC:=ak hC
         clear hC bC bf cK bA z z0 z1 z2 z3 z4 z5 z6 c0 c1 c2 c3 c4 c5 c6 cT fg ff lI mG A' D5
         go_wp2_with fail
         go_meet
         exact ⟨bk,_,_,_,_,_,_,_,rfl,⟨⟨_,_,rfl⟩,⟨_,_,rfl⟩,⟨_,_,rfl⟩,⟨_,_,rfl⟩,⟨_,_,rfl⟩⟩,HC⟩
        ·obtain ⟨PV,br⟩:∃x,Gx.alloc (.cells #[.string ⟨#[]⟩,.slice none 0 0,.slice none 0 0,.slice none 0 0,.slice none 0 0,.slice none 0 0,.slice none 0 0] 57)=x:=⟨_,rfl⟩
         have aT:Below Gx.heap.size Gx PV:=by rw[←br];exact (zE _ _).alloc (zD _) _
         have bA:PV.heap[Gx.heap.size]?=some (.cells #[.string ⟨#[]⟩,.slice none 0 0,.slice none 0 0,.slice none 0 0,.slice none 0 0,.slice none 0 0,.slice none 0 0] 57 (0,0)):=by rw[←br];exact aE _ _
         have cK:wo.heap.size≤Gx.heap.size:=bC.size
         go_simp
         have cT:=cT.mono (vW aT)
         have fg:=fg.mono (vW aT)
         have ff:=ff.mono (vW aT)
         have lI:=lI.mono (vW aT)
         have mG:=mG.mono (vW aT)
         have A':=A'.mono (vW aT)
         have bC:=bC.trans (aT.mono bC.size)
         have bf:=bf.trans (aT.mono bf.size)
         obtain ⟨bk,dJ⟩:∃b,Gx.heap.size=b:=⟨_,rfl⟩
         rw[dJ] at bA cK cT fg ff lI mG A'
         rw[dJ]
         refine hK _ _ ⟨fun _=>bf,?_⟩
         clear hK K br aT dJ
         refine aB 36 (by kernel_rfl) rfl (fun K hK=>?_)
         refine aM 55 rfl rfl 21 (fun vs=>by kernel_rfl) #[.tmp 54] #[22] rfl #[.slice ag gs.length cg] (by first|rfl|simp[Act.eval]) (ab eY PV bf) ?_
         rintro e' YP ⟨u8,rfl,JH,aT⟩
         have cT:=cT.mono (aC aT)
         have fg:=fg.mono (aC aT)
         have ff:=ff.mono (aC aT)
         have lI:=lI.mono (aC aT)
         have mG:=mG.mono (aC aT)
         have A':=A'.mono (aC aT)
         obtain ⟨Zt,Y9,rfl⟩:=aN JH
         have fa:bk<PV.heap.size:=(zA bA).1
         have JH:=(bP JH (by have:=(ab HS).2.2.2.2.2.2;omega)).mono (wK bC.size fa)
         have bC:=bC.trans (aT.mono bC.size)
         have bf:=bf.trans (aT.mono bf.size)
         have bA:=(aT.block _ (zA bA).1).trans bA
         refine ⟨_,rfl,hK _ _ ⟨fun _=>bf,?_⟩⟩
         clear hK K aT fa
         simp only[Act.put,zL,zM,zN]
         have hT:=bf
         refine aw 37 (.agg #[.string nm,.slice none 0 0,.slice Ie (os.length) Ic,.slice L8 ((fp f ms).length) L7,.slice S' (es.length) S7,.slice ua4 (rs.length) uc4,.slice Zt (gs.length) Y9]) 56 rfl rfl (Or.inl ⟨by rfl,fun w' hw=>by go_simp⟩) hT ?_
         simp only[Act.put,zL,zM,zN]
         clear hT
         refine aB 39 (by kernel_rfl) rfl (fun K hK=>?_)
         obtain ⟨c0,c1,c2,c3,c4,c5,c6⟩:=kO bA
         have z:∀j,YP.frozen? ⟨bk,j,none⟩=false:=fun j=>by simp[World.frozen?,bA]
         have z0:=z 0
         have z1:=z 1
         have z2:=z 2
         have z3:=z 3
         have z4:=z 4
         have z5:=z 5
         have z6:=z 6
         have hC:=pG.new (nm:=nm) bC cK bA cT fg ff lI mG A' JH
         go_simp
         refine hK _ _ ⟨fun _=>(ab dh).trans (hC.bh.mono (ab dh).size),?_⟩
         clear hK K
         refine aQ (by kernel_rfl) ?_
         have HC:=ak hC
         clear hC bC bf cK bA z z0 z1 z2 z3 z4 z5 z6 c0 c1 c2 c3 c4 c5 c6 cT fg ff lI mG A' JH
         go_wp2_with fail
         go_meet
         exact ⟨bk,_,_,_,_,_,_,_,rfl,⟨⟨_,_,rfl⟩,⟨_,_,rfl⟩,⟨_,_,rfl⟩,⟨_,_,rfl⟩,⟨_,_,rfl⟩⟩,HC⟩
       ·obtain ⟨XB,br⟩:∃x,BZ.alloc (.cells #[.string ⟨#[]⟩,.slice none 0 0,.slice none 0 0,.slice none 0 0,.slice none 0 0,.slice none 0 0,.slice none 0 0] 57)=x:=⟨_,rfl⟩
        have aT:Below BZ.heap.size BZ XB:=by rw[←br];exact (zE _ _).alloc (zD _) _
        have bA:XB.heap[BZ.heap.size]?=some (.cells #[.string ⟨#[]⟩,.slice none 0 0,.slice none 0 0,.slice none 0 0,.slice none 0 0,.slice none 0 0,.slice none 0 0] 57 (0,0)):=by rw[←br];exact aE _ _
        have cK:wo.heap.size≤BZ.heap.size:=bC.size
        go_simp
        have cT:=cT.mono (vW aT)
        have fg:=fg.mono (vW aT)
        have ff:=ff.mono (vW aT)
        have lI:=lI.mono (vW aT)
        have mG:=mG.mono (vW aT)
        have bC:=bC.trans (aT.mono bC.size)
        have bf:=bf.trans (aT.mono bf.size)
        obtain ⟨bk,dJ⟩:∃b,BZ.heap.size=b:=⟨_,rfl⟩
        rw[dJ] at bA cK cT fg ff lI mG
        rw[dJ]
        refine hK _ _ ⟨fun _=>bf,?_⟩
        clear hK K br aT dJ
        refine aB 30 (by kernel_rfl) rfl (fun K hK=>?_)
        refine aM 49 rfl rfl 44 (fun vs=>by kernel_rfl) #[.tmp 48] #[55] rfl #[.slice ar rs.length cr] (by first|rfl|simp[Act.eval]) (ab lF XB bf) ?_
        rintro e' Uk ⟨u10,rfl,CP,aT⟩
        have cT:=cT.mono (aC aT)
        have fg:=fg.mono (aC aT)
        have ff:=ff.mono (aC aT)
        have lI:=lI.mono (aC aT)
        have mG:=mG.mono (aC aT)
        obtain ⟨ZI,Zn,rfl⟩:=aN CP
        have fa:bk<XB.heap.size:=(zA bA).1
        have CP:=(bP CP (by have:=(ab HS).2.2.2.2.2.1;omega)).mono (wK bC.size fa)
        have bC:=bC.trans (aT.mono bC.size)
        have bf:=bf.trans (aT.mono bf.size)
        have bA:=(aT.block _ (zA bA).1).trans bA
        refine ⟨_,rfl,hK _ _ ⟨fun _=>bf,?_⟩⟩
        clear hK K aT fa
        simp only[Act.put,zL,zM,zN]
        refine aB 36 (by kernel_rfl) rfl (fun K hK=>?_)
        refine aM 55 rfl rfl 21 (fun vs=>by kernel_rfl) #[.tmp 54] #[22] rfl #[.slice ag gs.length cg] (by first|rfl|simp[Act.eval]) (ab eY Uk bf) ?_
        rintro e' YT ⟨u11,rfl,JN,aT⟩
        have cT:=cT.mono (aC aT)
        have fg:=fg.mono (aC aT)
        have ff:=ff.mono (aC aT)
        have lI:=lI.mono (aC aT)
        have mG:=mG.mono (aC aT)
        have CP:=CP.mono (aC aT)
        obtain ⟨ZH,Zm,rfl⟩:=aN JN
        have fa:bk<Uk.heap.size:=(zA bA).1
        have JN:=(bP JN (by have:=(ab HS).2.2.2.2.2.2;omega)).mono (wK bC.size fa)
        have bC:=bC.trans (aT.mono bC.size)
        have bf:=bf.trans (aT.mono bf.size)
        have bA:=(aT.block _ (zA bA).1).trans bA
        refine ⟨_,rfl,hK _ _ ⟨fun _=>bf,?_⟩⟩
        clear hK K aT fa
        simp only[Act.put,zL,zM,zN]
        have hT:=bf
        refine aw 37 (.agg #[.string nm,.slice none 0 0,.slice Ie (os.length) Ic,.slice L8 ((fp f ms).length) L7,.slice S' (es.length) S7,.slice ZI (rs.length) Zn,.slice ZH (gs.length) Zm]) 56 rfl rfl (Or.inl ⟨by rfl,fun w' hw=>by go_simp⟩) hT ?_
        simp only[Act.put,zL,zM,zN]
        clear hT
        refine aB 39 (by kernel_rfl) rfl (fun K hK=>?_)
        obtain ⟨c0,c1,c2,c3,c4,c5,c6⟩:=kO bA
        have z:∀j,YT.frozen? ⟨bk,j,none⟩=false:=fun j=>by simp[World.frozen?,bA]
        have z0:=z 0
        have z1:=z 1
        have z2:=z 2
        have z3:=z 3
        have z4:=z 4
        have z5:=z 5
        have z6:=z 6
        have hC:=pG.new (nm:=nm) bC cK bA cT fg ff lI mG CP JN
        go_simp
        refine hK _ _ ⟨fun _=>(ab dh).trans (hC.bh.mono (ab dh).size),?_⟩
        clear hK K
        refine aQ (by kernel_rfl) ?_
        have HC:=ak hC
        clear hC bC bf cK bA z z0 z1 z2 z3 z4 z5 z6 c0 c1 c2 c3 c4 c5 c6 cT fg ff lI mG CP JN
        go_wp2_with fail
        go_meet
        exact ⟨bk,_,_,_,_,_,_,_,rfl,⟨⟨_,_,rfl⟩,⟨_,_,rfl⟩,⟨_,_,rfl⟩,⟨_,_,rfl⟩,⟨_,_,rfl⟩⟩,HC⟩
      ·obtain ⟨L5,br⟩:∃x,BK.alloc (.cells #[.string ⟨#[]⟩,.slice none 0 0,.slice none 0 0,.slice none 0 0,.slice none 0 0,.slice none 0 0,.slice none 0 0] 57)=x:=⟨_,rfl⟩
       have aT:Below BK.heap.size BK L5:=by rw[←br];exact (zE _ _).alloc (zD _) _
       have bA:L5.heap[BK.heap.size]?=some (.cells #[.string ⟨#[]⟩,.slice none 0 0,.slice none 0 0,.slice none 0 0,.slice none 0 0,.slice none 0 0,.slice none 0 0] 57 (0,0)):=by rw[←br];exact aE _ _
       have cK:wo.heap.size≤BK.heap.size:=bC.size
       go_simp
       have cT:=cT.mono (vW aT)
       have fg:=fg.mono (vW aT)
       have ff:=ff.mono (vW aT)
       have bC:=bC.trans (aT.mono bC.size)
       have bf:=bf.trans (aT.mono bf.size)
       obtain ⟨bk,dJ⟩:∃b,BK.heap.size=b:=⟨_,rfl⟩
       rw[dJ] at bA cK cT fg ff
       rw[dJ]
       refine hK _ _ ⟨fun _=>bf,?_⟩
       clear hK K br aT dJ
       refine aB 24 (by kernel_rfl) rfl (fun K hK=>?_)
       refine aM 43 rfl rfl 23 (fun vs=>by kernel_rfl) #[.tmp 42] #[24] rfl #[.slice ae es.length cn] (by first|rfl|simp[Act.eval]) (ab Xl L5 bf) ?_
       rintro e' Uj ⟨u13,abE,rfl,yR,A6,aT⟩
       have cT:=cT.mono (aC aT)
       have fg:=fg.mono (aC aT)
       have ff:=ff.mono (aC aT)
       obtain ⟨ZG,Zl,rfl⟩:=aN yR
       have fa:bk<L5.heap.size:=(zA bA).1
       have yR:=(bP yR (by have:=(ab HS).2.2.2.1;omega)).mono (wK bC.size fa)
       have A6:=A6.mono (Ux bC.size fa)
       have bC:=bC.trans (aT.mono bC.size)
       have bf:=bf.trans (aT.mono bf.size)
       have bA:=(aT.block _ (zA bA).1).trans bA
       refine ⟨_,rfl,hK _ _ ⟨fun _=>bf,?_⟩⟩
       clear hK K aT fa
       simp only[Act.put,zL,zM,zN]
       refine aB 30 (by kernel_rfl) rfl (fun K hK=>?_)
       refine aM 49 rfl rfl 44 (fun vs=>by kernel_rfl) #[.tmp 48] #[55] rfl #[.slice ar rs.length cr] (by first|rfl|simp[Act.eval]) (ab lF Uj bf) ?_
       rintro e' Ui ⟨u14,rfl,CO,aT⟩
       have cT:=cT.mono (aC aT)
       have fg:=fg.mono (aC aT)
       have ff:=ff.mono (aC aT)
       have yR:=yR.mono (aC aT)
       have A6:=A6.mono (aC aT)
       obtain ⟨ZF,Zk,rfl⟩:=aN CO
       have fa:bk<Uj.heap.size:=(zA bA).1
       have CO:=(bP CO (by have:=(ab HS).2.2.2.2.2.1;omega)).mono (wK bC.size fa)
       have bC:=bC.trans (aT.mono bC.size)
       have bf:=bf.trans (aT.mono bf.size)
       have bA:=(aT.block _ (zA bA).1).trans bA
       refine ⟨_,rfl,hK _ _ ⟨fun _=>bf,?_⟩⟩
       clear hK K aT fa
       simp only[Act.put,zL,zM,zN]
       refine aB 36 (by kernel_rfl) rfl (fun K hK=>?_)
       refine aM 55 rfl rfl 21 (fun vs=>by kernel_rfl) #[.tmp 54] #[22] rfl #[.slice ag gs.length cg] (by first|rfl|simp[Act.eval]) (ab eY Ui bf) ?_
       rintro e' YS ⟨u15,rfl,JK,aT⟩
       have cT:=cT.mono (aC aT)
       have fg:=fg.mono (aC aT)
       have ff:=ff.mono (aC aT)
       have yR:=yR.mono (aC aT)
       have A6:=A6.mono (aC aT)
       have CO:=CO.mono (aC aT)
       obtain ⟨ZE,Zj,rfl⟩:=aN JK
       have fa:bk<Ui.heap.size:=(zA bA).1
       have JK:=(bP JK (by have:=(ab HS).2.2.2.2.2.2;omega)).mono (wK bC.size fa)
       have bC:=bC.trans (aT.mono bC.size)
       have bf:=bf.trans (aT.mono bf.size)
       have bA:=(aT.block _ (zA bA).1).trans bA
       refine ⟨_,rfl,hK _ _ ⟨fun _=>bf,?_⟩⟩
       clear hK K aT fa
       simp only[Act.put,zL,zM,zN]
       have hT:=bf
       refine aw 37 (.agg #[.string nm,.slice none 0 0,.slice Ie (os.length) Ic,.slice L8 ((fp f ms).length) L7,.slice ZG (es.length) Zl,.slice ZF (rs.length) Zk,.slice ZE (gs.length) Zj]) 56 rfl rfl (Or.inl ⟨by rfl,fun w' hw=>by go_simp⟩) hT ?_
       simp only[Act.put,zL,zM,zN]
       clear hT
       refine aB 39 (by kernel_rfl) rfl (fun K hK=>?_)
       obtain ⟨c0,c1,c2,c3,c4,c5,c6⟩:=kO bA
       have z:∀j,YS.frozen? ⟨bk,j,none⟩=false:=fun j=>by simp[World.frozen?,bA]
       have z0:=z 0
       have z1:=z 1
       have z2:=z 2
       have z3:=z 3
       have z4:=z 4
       have z5:=z 5
       have z6:=z 6
       have hC:=pG.new (nm:=nm) bC cK bA cT fg ff yR A6 CO JK
       go_simp
       refine hK _ _ ⟨fun _=>(ab dh).trans (hC.bh.mono (ab dh).size),?_⟩
       clear hK K
       refine aQ (by kernel_rfl) ?_
       have HC:=ak hC
       clear hC bC bf cK bA z z0 z1 z2 z3 z4 z5 z6 c0 c1 c2 c3 c4 c5 c6 cT fg ff yR A6 CO JK
       go_wp2_with fail
       go_meet
       exact ⟨bk,_,_,_,_,_,_,_,rfl,⟨⟨_,_,rfl⟩,⟨_,_,rfl⟩,⟨_,_,rfl⟩,⟨_,_,rfl⟩,⟨_,_,rfl⟩⟩,HC⟩
     ·obtain ⟨L4,br⟩:∃x,zR.alloc (.cells #[.string ⟨#[]⟩,.slice none 0 0,.slice none 0 0,.slice none 0 0,.slice none 0 0,.slice none 0 0,.slice none 0 0] 57)=x:=⟨_,rfl⟩
      have aT:Below zR.heap.size zR L4:=by rw[←br];exact (zE _ _).alloc (zD _) _
      have bA:L4.heap[zR.heap.size]?=some (.cells #[.string ⟨#[]⟩,.slice none 0 0,.slice none 0 0,.slice none 0 0,.slice none 0 0,.slice none 0 0,.slice none 0 0] 57 (0,0)):=by rw[←br];exact aE _ _
      have cK:wo.heap.size≤zR.heap.size:=bC.size
      go_simp
      have cT:=cT.mono (vW aT)
      have bC:=bC.trans (aT.mono bC.size)
      have bf:=bf.trans (aT.mono bf.size)
      obtain ⟨bk,dJ⟩:∃b,zR.heap.size=b:=⟨_,rfl⟩
      rw[dJ] at bA cK cT
      rw[dJ]
      refine hK _ _ ⟨fun _=>bf,?_⟩
      clear hK K br aT dJ
      refine aB 18 (by kernel_rfl) rfl (fun K hK=>?_)
      refine aM 37 rfl rfl 22 (fun vs=>by kernel_rfl) #[.tmp 34,.tmp 36] #[23,3] rfl #[.slice am ms.length cq,.int .i64 (dz+1)] (by first|rfl|simp[Act.eval]) (ab Lg L4 bf) ?_
      rintro e' Uh ⟨u17,abD,rfl,vt,wU,aT⟩
      have cT:=cT.mono (aC aT)
      obtain ⟨ZD,Zi,rfl⟩:=aN vt
      have fa:bk<L4.heap.size:=(zA bA).1
      have vt:=(bP vt (by have:=(ab HS).2.2.1;have:=pd (f:=f) (l:=ms);omega)).mono (wK bC.size fa)
      have wU:=wU.mono (Ux bC.size fa)
      have bC:=bC.trans (aT.mono bC.size)
      have bf:=bf.trans (aT.mono bf.size)
      have bA:=(aT.block _ (zA bA).1).trans bA
      refine ⟨_,rfl,hK _ _ ⟨fun _=>bf,?_⟩⟩
      clear hK K aT fa
      simp only[Act.put,zL,zM,zN]
      refine aB 24 (by kernel_rfl) rfl (fun K hK=>?_)
      refine aM 43 rfl rfl 23 (fun vs=>by kernel_rfl) #[.tmp 42] #[24] rfl #[.slice ae es.length cn] (by first|rfl|simp[Act.eval]) (ab Xl Uh bf) ?_
      rintro e' Ug ⟨u18,abC,rfl,yQ,A5,aT⟩
      have cT:=cT.mono (aC aT)
      have vt:=vt.mono (aC aT)
      have wU:=wU.mono (aC aT)
      obtain ⟨ZC,Zh,rfl⟩:=aN yQ
      have fa:bk<Uh.heap.size:=(zA bA).1
      have yQ:=(bP yQ (by have:=(ab HS).2.2.2.1;omega)).mono (wK bC.size fa)
      have A5:=A5.mono (Ux bC.size fa)
      have bC:=bC.trans (aT.mono bC.size)
      have bf:=bf.trans (aT.mono bf.size)
      have bA:=(aT.block _ (zA bA).1).trans bA
      refine ⟨_,rfl,hK _ _ ⟨fun _=>bf,?_⟩⟩
      clear hK K aT fa
      simp only[Act.put,zL,zM,zN]
      refine aB 30 (by kernel_rfl) rfl (fun K hK=>?_)
      refine aM 49 rfl rfl 44 (fun vs=>by kernel_rfl) #[.tmp 48] #[55] rfl #[.slice ar rs.length cr] (by first|rfl|simp[Act.eval]) (ab lF Ug bf) ?_
      rintro e' Uf ⟨u19,rfl,CN,aT⟩
      have cT:=cT.mono (aC aT)
      have vt:=vt.mono (aC aT)
      have wU:=wU.mono (aC aT)
      have yQ:=yQ.mono (aC aT)
      have A5:=A5.mono (aC aT)
      obtain ⟨ZB,Zg,rfl⟩:=aN CN
      have fa:bk<Ug.heap.size:=(zA bA).1
      have CN:=(bP CN (by have:=(ab HS).2.2.2.2.2.1;omega)).mono (wK bC.size fa)
      have bC:=bC.trans (aT.mono bC.size)
      have bf:=bf.trans (aT.mono bf.size)
      have bA:=(aT.block _ (zA bA).1).trans bA
      refine ⟨_,rfl,hK _ _ ⟨fun _=>bf,?_⟩⟩
      clear hK K aT fa
      simp only[Act.put,zL,zM,zN]
      refine aB 36 (by kernel_rfl) rfl (fun K hK=>?_)
      refine aM 55 rfl rfl 21 (fun vs=>by kernel_rfl) #[.tmp 54] #[22] rfl #[.slice ag gs.length cg] (by first|rfl|simp[Act.eval]) (ab eY Uf bf) ?_
      rintro e' YR ⟨u20,rfl,JJ,aT⟩
      have cT:=cT.mono (aC aT)
      have vt:=vt.mono (aC aT)
      have wU:=wU.mono (aC aT)
      have yQ:=yQ.mono (aC aT)
      have A5:=A5.mono (aC aT)
      have CN:=CN.mono (aC aT)
      obtain ⟨ZA,Zf,rfl⟩:=aN JJ
      have fa:bk<Uf.heap.size:=(zA bA).1
      have JJ:=(bP JJ (by have:=(ab HS).2.2.2.2.2.2;omega)).mono (wK bC.size fa)
      have bC:=bC.trans (aT.mono bC.size)
      have bf:=bf.trans (aT.mono bf.size)
      have bA:=(aT.block _ (zA bA).1).trans bA
      refine ⟨_,rfl,hK _ _ ⟨fun _=>bf,?_⟩⟩
      clear hK K aT fa
      simp only[Act.put,zL,zM,zN]
      have hT:=bf
      refine aw 37 (.agg #[.string nm,.slice none 0 0,.slice Ie (os.length) Ic,.slice ZD ((fp f ms).length) Zi,.slice ZC (es.length) Zh,.slice ZB (rs.length) Zg,.slice ZA (gs.length) Zf]) 56 rfl rfl (Or.inl ⟨by rfl,fun w' hw=>by go_simp⟩) hT ?_
      simp only[Act.put,zL,zM,zN]
      clear hT
      refine aB 39 (by kernel_rfl) rfl (fun K hK=>?_)
      obtain ⟨c0,c1,c2,c3,c4,c5,c6⟩:=kO bA
      have z:∀j,YR.frozen? ⟨bk,j,none⟩=false:=fun j=>by simp[World.frozen?,bA]
      have z0:=z 0
      have z1:=z 1
      have z2:=z 2
      have z3:=z 3
      have z4:=z 4
      have z5:=z 5
      have z6:=z 6
      have hC:=pG.new (nm:=nm) bC cK bA cT vt wU yQ A5 CN JJ
      go_simp
      refine hK _ _ ⟨fun _=>(ab dh).trans (hC.bh.mono (ab dh).size),?_⟩
      clear hK K
      refine aQ (by kernel_rfl) ?_
      have HC:=ak hC
      clear hC bC bf cK bA z z0 z1 z2 z3 z4 z5 z6 c0 c1 c2 c3 c4 c5 c6 cT vt wU yQ A5 CN JJ
      go_wp2_with fail
      go_meet
      exact ⟨bk,_,_,_,_,_,_,_,rfl,⟨⟨_,_,rfl⟩,⟨_,_,rfl⟩,⟨_,_,rfl⟩,⟨_,_,rfl⟩,⟨_,_,rfl⟩⟩,HC⟩
    ·obtain ⟨L3,br⟩:∃x,wd.alloc (.cells #[.string ⟨#[]⟩,.slice none 0 0,.slice none 0 0,.slice none 0 0,.slice none 0 0,.slice none 0 0,.slice none 0 0] 57)=x:=⟨_,rfl⟩
     have aT:Below wd.heap.size wd L3:=by rw[←br];exact (zE _ _).alloc (zD _) _
     have bA:L3.heap[wd.heap.size]?=some (.cells #[.string ⟨#[]⟩,.slice none 0 0,.slice none 0 0,.slice none 0 0,.slice none 0 0,.slice none 0 0,.slice none 0 0] 57 (0,0)):=by rw[←br];exact aE _ _
     have cK:wo.heap.size≤wd.heap.size:=bC.size
     go_simp
     have bC:=bC.trans (aT.mono bC.size)
     have bf:=bf.trans (aT.mono bf.size)
     obtain ⟨bk,dJ⟩:∃b,wd.heap.size=b:=⟨_,rfl⟩
     rw[dJ] at bA cK
     rw[dJ]
     refine hK _ _ ⟨fun _=>bf,?_⟩
     clear hK K br aT dJ
     refine aB 10 (by kernel_rfl) rfl (fun K hK=>?_)
     refine aM 29 rfl rfl 21 (fun vs=>by kernel_rfl) #[.tmp 28] #[22] rfl #[.slice ao os.length co] (by first|rfl|simp[Act.eval]) (ab Oq L3 bf) ?_
     rintro e' Ue ⟨u22,rfl,p7,aT⟩
     obtain ⟨Zz,Ze,rfl⟩:=aN p7
     have fa:bk<L3.heap.size:=(zA bA).1
     have p7:=(bP p7 (by have:=(ab HS).2.1;omega)).mono (wK bC.size fa)
     have bC:=bC.trans (aT.mono bC.size)
     have bf:=bf.trans (aT.mono bf.size)
     have bA:=(aT.block _ (zA bA).1).trans bA
     refine ⟨_,rfl,hK _ _ ⟨fun _=>bf,?_⟩⟩
     clear hK K aT fa
     simp only[Act.put,zL,zM,zN]
     refine aB 18 (by kernel_rfl) rfl (fun K hK=>?_)
     refine aM 37 rfl rfl 22 (fun vs=>by kernel_rfl) #[.tmp 34,.tmp 36] #[23,3] rfl #[.slice am ms.length cq,.int .i64 (dz+1)] (by first|rfl|simp[Act.eval]) (ab Lg Ue bf) ?_
     rintro e' Ud ⟨u23,abB,rfl,vp,wT,aT⟩
     have p7:=p7.mono (aC aT)
     obtain ⟨Zy,Zd,rfl⟩:=aN vp
     have fa:bk<Ue.heap.size:=(zA bA).1
     have vp:=(bP vp (by have:=(ab HS).2.2.1;have:=pd (f:=f) (l:=ms);omega)).mono (wK bC.size fa)
     have wT:=wT.mono (Ux bC.size fa)
     have bC:=bC.trans (aT.mono bC.size)
     have bf:=bf.trans (aT.mono bf.size)
     have bA:=(aT.block _ (zA bA).1).trans bA
     refine ⟨_,rfl,hK _ _ ⟨fun _=>bf,?_⟩⟩
     clear hK K aT fa
     simp only[Act.put,zL,zM,zN]
     refine aB 24 (by kernel_rfl) rfl (fun K hK=>?_)
     refine aM 43 rfl rfl 23 (fun vs=>by kernel_rfl) #[.tmp 42] #[24] rfl #[.slice ae es.length cn] (by first|rfl|simp[Act.eval]) (ab Xl Ud bf) ?_
     rintro e' Uc ⟨u24,abA,rfl,yP,A4,aT⟩
     have p7:=p7.mono (aC aT)
     have vp:=vp.mono (aC aT)
     have wT:=wT.mono (aC aT)
     obtain ⟨Zx,Zc,rfl⟩:=aN yP
     have fa:bk<Ud.heap.size:=(zA bA).1
     have yP:=(bP yP (by have:=(ab HS).2.2.2.1;omega)).mono (wK bC.size fa)
     have A4:=A4.mono (Ux bC.size fa)
     have bC:=bC.trans (aT.mono bC.size)
     have bf:=bf.trans (aT.mono bf.size)
     have bA:=(aT.block _ (zA bA).1).trans bA
     refine ⟨_,rfl,hK _ _ ⟨fun _=>bf,?_⟩⟩
     clear hK K aT fa
     simp only[Act.put,zL,zM,zN]
     refine aB 30 (by kernel_rfl) rfl (fun K hK=>?_)
     refine aM 49 rfl rfl 44 (fun vs=>by kernel_rfl) #[.tmp 48] #[55] rfl #[.slice ar rs.length cr] (by first|rfl|simp[Act.eval]) (ab lF Uc bf) ?_
     rintro e' Ub ⟨u25,rfl,CM,aT⟩
     have p7:=p7.mono (aC aT)
     have vp:=vp.mono (aC aT)
     have wT:=wT.mono (aC aT)
     have yP:=yP.mono (aC aT)
     have A4:=A4.mono (aC aT)
     obtain ⟨Zw,Zb,rfl⟩:=aN CM
     have fa:bk<Uc.heap.size:=(zA bA).1
     have CM:=(bP CM (by have:=(ab HS).2.2.2.2.2.1;omega)).mono (wK bC.size fa)
     have bC:=bC.trans (aT.mono bC.size)
     have bf:=bf.trans (aT.mono bf.size)
     have bA:=(aT.block _ (zA bA).1).trans bA
     refine ⟨_,rfl,hK _ _ ⟨fun _=>bf,?_⟩⟩
     clear hK K aT fa
     simp only[Act.put,zL,zM,zN]
     refine aB 36 (by kernel_rfl) rfl (fun K hK=>?_)
     refine aM 55 rfl rfl 21 (fun vs=>by kernel_rfl) #[.tmp 54] #[22] rfl #[.slice ag gs.length cg] (by first|rfl|simp[Act.eval]) (ab eY Ub bf) ?_
     rintro e' YQ ⟨u26,rfl,JI,aT⟩
     have p7:=p7.mono (aC aT)
     have vp:=vp.mono (aC aT)
     have wT:=wT.mono (aC aT)
     have yP:=yP.mono (aC aT)
     have A4:=A4.mono (aC aT)
     have CM:=CM.mono (aC aT)
     obtain ⟨Zv,Za,rfl⟩:=aN JI
     have fa:bk<Ub.heap.size:=(zA bA).1
     have JI:=(bP JI (by have:=(ab HS).2.2.2.2.2.2;omega)).mono (wK bC.size fa)
     have bC:=bC.trans (aT.mono bC.size)
     have bf:=bf.trans (aT.mono bf.size)
     have bA:=(aT.block _ (zA bA).1).trans bA
     refine ⟨_,rfl,hK _ _ ⟨fun _=>bf,?_⟩⟩
     clear hK K aT fa
     simp only[Act.put,zL,zM,zN]
     have hT:=bf
     refine aw 37 (.agg #[.string nm,.slice none 0 0,.slice Zz (os.length) Ze,.slice Zy ((fp f ms).length) Zd,.slice Zx (es.length) Zc,.slice Zw (rs.length) Zb,.slice Zv (gs.length) Za]) 56 rfl rfl (Or.inl ⟨by rfl,fun w' hw=>by go_simp⟩) hT ?_
     simp only[Act.put,zL,zM,zN]
     clear hT
     refine aB 39 (by kernel_rfl) rfl (fun K hK=>?_)
     obtain ⟨c0,c1,c2,c3,c4,c5,c6⟩:=kO bA
     have z:∀j,YQ.frozen? ⟨bk,j,none⟩=false:=fun j=>by simp[World.frozen?,bA]
     have z0:=z 0
     have z1:=z 1
     have z2:=z 2
     have z3:=z 3
     have z4:=z 4
     have z5:=z 5
     have z6:=z 6
     have hC:=pG.new (nm:=nm) bC cK bA p7 vp wT yP A4 CM JI
     go_simp
     refine hK _ _ ⟨fun _=>(ab dh).trans (hC.bh.mono (ab dh).size),?_⟩
     clear hK K
     refine aQ (by kernel_rfl) ?_
     have HC:=ak hC
     clear hC bC bf cK bA z z0 z1 z2 z3 z4 z5 z6 c0 c1 c2 c3 c4 c5 c6 p7 vp wT yP A4 CM JI
     go_wp2_with fail
     go_meet
     exact ⟨bk,_,_,_,_,_,_,_,rfl,⟨⟨_,_,rfl⟩,⟨_,_,rfl⟩,⟨_,_,rfl⟩,⟨_,_,rfl⟩,⟨_,_,rfl⟩⟩,HC⟩
   case rest =>
    obtain ⟨b,uo,um,ue,ur,ug,Yd,Ye,rfl,⟨⟨Zo,Y4,rfl⟩,⟨Zq,Y7,rfl⟩,⟨Zr,Y8,rfl⟩,⟨S8,S5,rfl⟩,⟨S9,S6,rfl⟩⟩,HC⟩:=hcut
    have HN:Hid (wc.ownsRow wo.heap.size 53 6 (.slice none 0 0) 0 []):=⟨rfl,.inl ⟨rfl,rfl⟩⟩
    obtain ⟨x0,x1,x2,x3,x4,x5,x6⟩:=ab dE wc ((ab dh).trans ((ab HC).bh.mono (ab dh).size))
    clear Oq Lg Xl lF eY
    go_wp2_with fail
    clear x0 x1 x2 x3 x4 x5 x6
    go_loopg [8] fs.length (fun gk v8 wi=>∃(k:Nat) (uf:Value),v8=.int .i64 (k:Int)∧gk=fs.length-k∧k≤fs.length∧Hid (pG wo wi b (uf) (.slice Zo os.length Y4) (.slice Zq (fp f ms).length Y7) (.slice Zr es.length Y8) (.slice S8 rs.length S5) (.slice S9 gs.length S6) Yd Ye nm os (fp f ms) es rs gs)∧Hid (wi.ownsRow wo.heap.size 53 6 uf k (cC (fs.take k))))
    case atStart=>exact ⟨0,_,rfl,rfl,by omega,HC,HN⟩
    case round =>
     obtain ⟨k,uf,rfl,jC,ra,nT,jj⟩:=hrel
     have jR:=ak jC
     clear jC HC HN
     obtain ⟨BM,BL,rfl⟩:=aN (ab jj)
     have HBi:=ak (show Below W.heap.size W wr from (ab dh).trans ((ab nT).bh.mono (ab dh).size))
     obtain ⟨x0,x1,x2,x3,x4,x5,x6⟩:=ab dE wr (ab HBi)
     by_cases dC:k<fs.length
     ·obtain ⟨gv,ov,rfl,Nn,p8⟩:=ab HV3 (by omega)
      have mH:=List.getElem?_eq_getElem dC
      obtain ⟨y,UU⟩:∃y,fs[k]=y:=⟨_,rfl⟩
      rw[UU] at mH
      have xc:Hid (∀w',Below W.heap.size W w'→w'.cell? ⟨gv,ov+k*6,none⟩=some (.int .i64 y.aZ)∧w'.cell? ⟨gv,ov+k*6+1,none⟩=some (.string y.key)∧w'.cell? ⟨gv,ov+k*6+2,none⟩=some (.string y.ty)∧w'.cell? ⟨gv,ov+k*6+3,none⟩=some (.string y.name)∧w'.cell? ⟨gv,ov+k*6+4,none⟩=some (.int .i64 y.num)∧w'.cell? ⟨gv,ov+k*6+5,none⟩=some (.int .i64 y.aH)):=by
       intro w' hb
       have key:∀(j:Nat) (x:Value),j<6→y.cs[j]?=some x→w'.cell? ⟨gv,ov+(k*6+j),none⟩=some x:=fun j x hj hx=>(hb.cell (p:=⟨gv,ov+(k*6+j),none⟩) Nn).trans (p8 _ _ (by unfold cC;rw[lC Fd.cs 6 (fun _=>rfl) fs k j y mH hj];exact hx))
       exact ⟨key 0 _ (by decide) rfl,key 1 _ (by decide) rfl,key 2 _ (by decide) rfl,key 3 _ (by decide) rfl,key 4 _ (by decide) rfl,key 5 _ (by decide) rfl⟩
      have W6:=ak (Mg mH)
      have k0':(0:Int)≤(k:Int):=zH _
      have uY:(k:Int)<(fs.length:Int):=by omega
      have cP:=ak dC
      clear p8 mH UU dC
      go_upto_region 9 with fail
      refine wp_region_any (by kernel_rfl) (aV (z:=13) (T:=(fun w':World=>Below W.heap.size W w'∧w'.cell? ⟨b,1,none⟩=some (.slice BM k BL))) _ _ _ _ ?_)
      try (change ba _ _ _ _ _ _ _ _ _ (World.drew _))
      have hC:=(ab nT).below (below_drewN (zE wr.heap.size wr) 1)
      have hO:=cM (ab jj) (below_drewN (zE wr.heap.size wr) 1)
      change pG wo wr.drew b (.slice BM k BL) (.slice Zo os.length Y4) (.slice Zq (fp f ms).length Y7) (.slice Zr es.length Y8) (.slice S8 rs.length S5) (.slice S9 gs.length S6) Yd Ye nm os (fp f ms) es rs gs at hC
      change World.ownsRow wr.drew _ _ _ _ _ _ at hO
      obtain ⟨wd,lP⟩:∃x,wr.drew=x:=⟨_,rfl⟩
      rw[lP] at hC hO ⊢
      have hT:(fun w':World=>Below W.heap.size W w'∧w'.cell? ⟨b,1,none⟩=some (.slice BM k BL)) wd:=⟨(ab dh).trans (hC.bh.mono (ab dh).size),cell_of_row _ _ _ _ _ _ hC.cH⟩
      clear x0 x1 x2 x3 x4 x5 x6
      refine aw 0 (.pointer (some ⟨b,1,none⟩)) 67 rfl rfl (Or.inl ⟨by rfl,fun w' hw=>by obtain ⟨eV,e8⟩:=hw;obtain ⟨x0,x1,x2,x3,x4,x5,x6⟩:=ab dE w' eV;obtain ⟨y0,y1,y2,y3,y4,y5⟩:=ab xc w' eV;go_simp⟩) hT ?_
      simp only[Act.put,zL,zM,zN]
      refine aw 1 (.slice BM k BL) 68 rfl rfl (Or.inl ⟨by rfl,fun w' hw=>by obtain ⟨eV,e8⟩:=hw;obtain ⟨x0,x1,x2,x3,x4,x5,x6⟩:=ab dE w' eV;obtain ⟨y0,y1,y2,y3,y4,y5⟩:=ab xc w' eV;go_simp⟩) hT ?_
      simp only[Act.put,zL,zM,zN]
      refine aw 2 (.slice (some ⟨g,o,none⟩) l.length c) 69 rfl rfl (Or.inl ⟨by rfl,fun w' hw=>by obtain ⟨eV,e8⟩:=hw;obtain ⟨x0,x1,x2,x3,x4,x5,x6⟩:=ab dE w' eV;obtain ⟨y0,y1,y2,y3,y4,y5⟩:=ab xc w' eV;go_simp⟩) hT ?_
      simp only[Act.put,zL,zM,zN]
      refine aw 3 (.int .i64 (i:Int)) 70 rfl rfl (Or.inl ⟨by rfl,fun w' hw=>by obtain ⟨eV,e8⟩:=hw;obtain ⟨x0,x1,x2,x3,x4,x5,x6⟩:=ab dE w' eV;obtain ⟨y0,y1,y2,y3,y4,y5⟩:=ab xc w' eV;go_simp⟩) hT ?_
      simp only[Act.put,zL,zM,zN]
      refine aw 4 (.pointer (some ⟨g,o+i*7,none⟩)) 71 rfl rfl (Or.inl ⟨by rfl,fun w' hw=>by obtain ⟨eV,e8⟩:=hw;obtain ⟨x0,x1,x2,x3,x4,x5,x6⟩:=ab dE w' eV;obtain ⟨y0,y1,y2,y3,y4,y5⟩:=ab xc w' eV;go_simp⟩) hT ?_
      simp only[Act.put,zL,zM,zN]
      refine aw 5 (.pointer (some ⟨g,o+i*7+1,none⟩)) 72 rfl rfl (Or.inl ⟨by rfl,fun w' hw=>by obtain ⟨eV,e8⟩:=hw;obtain ⟨x0,x1,x2,x3,x4,x5,x6⟩:=ab dE w' eV;obtain ⟨y0,y1,y2,y3,y4,y5⟩:=ab xc w' eV;go_simp⟩) hT ?_
      simp only[Act.put,zL,zM,zN]
      refine aw 6 (.slice (some ⟨gv,ov,none⟩) fs.length cf) 73 rfl rfl (Or.inl ⟨by rfl,fun w' hw=>by obtain ⟨eV,e8⟩:=hw;obtain ⟨x0,x1,x2,x3,x4,x5,x6⟩:=ab dE w' eV;obtain ⟨y0,y1,y2,y3,y4,y5⟩:=ab xc w' eV;go_simp⟩) hT ?_
      simp only[Act.put,zL,zM,zN]
      refine aw 7 (.int .i64 (k:Int)) 74 rfl rfl (Or.inl ⟨by rfl,fun w' hw=>by obtain ⟨eV,e8⟩:=hw;obtain ⟨x0,x1,x2,x3,x4,x5,x6⟩:=ab dE w' eV;obtain ⟨y0,y1,y2,y3,y4,y5⟩:=ab xc w' eV;go_simp⟩) hT ?_
      simp only[Act.put,zL,zM,zN]
      refine aw 8 (.pointer (some ⟨gv,ov+k*6,none⟩)) 75 rfl rfl (Or.inl ⟨by rfl,fun w' hw=>by obtain ⟨eV,e8⟩:=hw;obtain ⟨x0,x1,x2,x3,x4,x5,x6⟩:=ab dE w' eV;obtain ⟨y0,y1,y2,y3,y4,y5⟩:=ab xc w' eV;go_simp⟩) hT ?_
      simp only[Act.put,zL,zM,zN]
      refine aw 9 (.agg #[.int .i64 y.aZ,.string y.key,.string y.ty,.string y.name,.int .i64 y.num,.int .i64 y.aH]) 76 rfl rfl (Or.inl ⟨by rfl,fun w' hw=>by obtain ⟨eV,e8⟩:=hw;obtain ⟨x0,x1,x2,x3,x4,x5,x6⟩:=ab dE w' eV;obtain ⟨y0,y1,y2,y3,y4,y5⟩:=ab xc w' eV;go_simp⟩) hT ?_
      simp only[Act.put,zL,zM,zN]
      obtain ⟨wy,QT⟩:∃x,wd.alloc (.cells #[.int .i64 y.aZ,.string y.key,.string y.ty,.string y.name,.int .i64 y.num,.int .i64 y.aH] 53)=x:=⟨_,rfl⟩
      have aT:Below wd.heap.size wd wy:=by rw[←QT];exact (zE _ _).alloc (zD _) _
      have hC:=hC.below aT
      have hO:=cM hO aT
      have hT:(fun w':World=>Below W.heap.size W w'∧w'.cell? ⟨b,1,none⟩=some (.slice BM k BL)) wy:=⟨(ab dh).trans (hC.bh.mono (ab dh).size),cell_of_row _ _ _ _ _ _ hC.cH⟩
      have Vg:∀j u,y.cs[j]?=some u→wy.cell? ((⟨wd.heap.size,0,none⟩:Addr).add j)=some u:=by rw[←QT];exact cD _ _ _
      refine aB 10 (by kernel_rfl) rfl (fun K hK=>?_)
      go_simp
      refine hK _ _ ⟨fun _=>hT,?_⟩
      clear hK K QT aT lP
      refine aB 11 (by kernel_rfl) rfl (fun K hK=>?_)
      refine oq 78 rfl rfl (.tmp 68) (.tmp 77) 54 rfl wo.heap.size 53 j0 (.agg #[.int .i64 0,.string ByteArray.empty,.string ByteArray.empty,.string ByteArray.empty,.int .i64 0,.int .i64 0]) 6 72 Tryz.underlying54 hj jz0 jz1 jz2 rfl (by decide) (.slice BM k BL) k _ (by first|rfl|simp[Act.eval]) hO ⟨wd.heap.size,0,none⟩ 1 1 y.cs (by first|rfl|simp[Act.eval]) rfl Vg (by simp[Fd.cs,Value.oneCell']) (by have:=ab cP;have:=(ab HS).1;unfold maxLen;omega) (by have:=ab cP;have:=(ab HS).1;omega) hC.bh.size ?_
      intro v' w2 ho cE cI
      have Ea:=hC.ku cE (fun j e=>(hO.lt j e).1) (eS hO hC.cH (by decide))
      obtain ⟨a',c',rfl⟩:=aN ho
      have D':(fun w':World=>Below W.heap.size W w'∧w'.cell? ⟨b,1,none⟩=some (.slice BM k BL)) w2:=⟨(ab dh).trans (Ea.bh.mono (ab dh).size),cell_of_row _ _ _ _ _ _ Ea.cH⟩
      rw[←ab W6] at ho
      refine hK _ _ ⟨fun _=>D',?_⟩
      clear hK K hO hT Vg
      simp only[Act.put,zL,zM,zN]
      refine aw 12 (.pointer (some ⟨b,1,none⟩)) 79 rfl rfl (Or.inl ⟨by rfl,fun w' hw=>by obtain ⟨eV,e8⟩:=hw;go_simp⟩) D' ?_
      simp only[Act.put,zL,zM,zN]
      have Rj:=D'.2
      have fK:w2.frozen? ⟨b,1,none⟩=false:=by simp[World.frozen?,Ea.cH]
      have VW:=hC.grow cE (u':=.slice a' (k+1) c') Ea cI
      have Pa:=(aI (j:=1) Ea.cH (.slice a' (k+1) c')).2
      have VS:=ho.kept Pa (.inr (eS ho Ea.cH (by decide)))
      refine aB 13 (by kernel_rfl) rfl (fun K hK=>?_)
      go_simp
      refine hK _ _ ⟨fun h=>absurd rfl h,?_⟩
      have HC3:=ak VW
      have HO3:=ak VS
      clear hK K Rj fK D' ho hC Ea VW VS Pa cI cE
      refine aQ (by kernel_rfl) ?_
      go_wp2
      go_roundg (fs.length-(k+1))
      case measure=>have:=ab jR;have:=ab cP;omega
      case rel=>exact ⟨k+1,_,by go_num,rfl,ab cP,HC3,HO3⟩
     ·obtain rfl:k=fs.length:=by omega
      have hO:=ab jj
      rw[List.take_length] at hO
      have HO4:=ak hO
      clear hO jj
      obtain ⟨c0,c1,c2,c3,c4,c5,c6⟩:=kO (ab nT).cH
      have uY:¬(fs.length:Int)<(fs.length:Int):=by omega
      have eZ:=ak (show w0.heap.size≤wr.heap.size from Nat.le_trans (ab HB).size (ab nT).bh.size)
      have HO5:=ak ((ab HO).kept (show wo.grownBy wr none from ⟨(ab nT).bh.os,(ab nT).bh.tape,(ab nT).bh.output,(ab nT).bh.size,fun q hq _=>(ab nT).bh.block q hq⟩) (by cases u5.ownBlock with|none=>exact .inl rfl|some q=>exact .inr (by simp)))
      have LU:=ak ((ab HB).trans ((ab nT).bh.mono (ab HB).size))
      obtain ⟨ao2,co2,rfl⟩:=aN (ab HO)
      go_wp2_with (at_builtin;refine wpList_append_own_at _ rfl _ _ 23 rfl w0.heap.size 57 i0 (.agg #[.string ByteArray.empty,.slice none 0 0,.slice none 0 0,.slice none 0 0,.slice none 0 0,.slice none 0 0,.slice none 0 0]) 7 160 Tryz.underlying23 hi fX gp fJ rfl (by decide) _ _ _ rfl ((ab HO5).alloc _) ⟨wr.heap.size,0,none⟩ 1 1 [.string nm,.slice BM fs.length BL,.slice Zo os.length Y4,.slice Zq (fp f ms).length Y7,.slice Zr es.length Y8,.slice S8 rs.length S5,.slice S9 gs.length S6] rfl rfl (cD _ _ _) (by simp[Value.oneCell']) (by have:=ab bn;unfold maxLen;omega) (by have:=ab bn;have:=ab Hl;omega) (by rw[zJ];have:=ab eZ;omega) ?_;intro v' w2 ho cE _ cI;have HO6:=ak ho;have HE6:=ak (IX (ab HO) (ab Xk) (ab nT) (ab HO4) (ab HS).1 (ab HB).size (ab Hr) ((zE _ _).alloc (zD _) _) cE cI);have T2:=ak (((ab LU).alloc (ab LU).size _).grown cE (by rw[zJ];have:=ab eZ;omega) (fun q e=>((ab HO).lt q e).1));clear ho cE cI)
      go_roundg (l.length-(i+1))
      case measure=>have:=ab bH;have:=ab bn;omega
      case rel=>exact ⟨i+1,_,by go_num,rfl,ab bn,HO6,HE6,T2⟩
  ·obtain rfl:i=l.length:=by omega
   have hE:=ab Xk
   rw[List.take_length] at hE
   have T1:=ak hE
   have jj:=ak (show wo.ownsRow w0.heap.size 57 7 u5 (fp (f+1) l).length fI by rw[show (fp (f+1) l).length=l.length from List.length_map _];exact ab HO)
   clear hE HO
   go_wp2
   go_ret
   exact ⟨_,_,rfl,ab jj,ab T1,ab HB⟩
theorem oN:∀f,f≤200→Oj f
 |0,_=>Cy
 |f+1,h=>wO (by omega) (oN f (by omega))
end Go.Proofs.YtghioefalckgoaaGreatDoor
