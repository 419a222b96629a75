import Derived.Test.YtichhjfjcinjgaaGreatDoorYBd
set_option maxHeartbeats 8000000
set_option maxRecDepth 100000
namespace Go.Proofs.YtichhjfjcinjgaaGreatDoor
open Go.RowKit
attribute [local go_sem ↓] Go.wp_at_zero Go.wp_at_succ
theorem BL:Lo 0:=by
 intro W v l cs hv _ _ _ w0 hw
 obtain ⟨a,c,rfl,hn,-⟩:=hv
 have HB:=al (zE w0.heap.size w0)
 clear hw
 go_enter Tryz.func17,Tryz.ntmps17
 go_wp2
 go_loopg [5,6,7,8] 1 (fun gk v5 v6 _ _ wr=>v5=.slice none 0 0∧v6=.int .i64 0∧gk=1∧Hid (wr=w0))
 case atStart=>exact ⟨rfl,rfl,rfl,rfl⟩
 case round =>
  obtain ⟨rfl,rfl,aU,HW⟩:=hrel
  clear aU
  by_cases h0:(0:Int)<(l.length:Int)
  ·go_wp2
   go_ret
   have:=ab HW
   subst this
   first|exact ⟨_,[],rfl,⟨rfl,.inl ⟨rfl,rfl⟩⟩,.nil,ab HB⟩|exact ⟨_,rfl,[],⟨rfl,.inl ⟨rfl,rfl⟩⟩,.nil,ab HB⟩
  ·go_wp2
   go_ret
   have:=ab HW
   subst this
   first|exact ⟨_,[],rfl,⟨rfl,.inl ⟨rfl,rfl⟩⟩,.nil,ab HB⟩|exact ⟨_,rfl,[],⟨rfl,.inl ⟨rfl,rfl⟩⟩,.nil,ab HB⟩
theorem vp {f:Nat} (hf:f<200) (ih:Lo f):Lo (f+1):=by
 intro W v l cs hv hm hl hz w0 hw
 obtain ⟨a,c,rfl,hn,h2⟩:=hv
 obtain ⟨i0,hi,gf,fX,dY⟩:=info_parts M'
 obtain ⟨j0,hj,Vh,Vg,Vf⟩:=info_parts Na
 obtain ⟨dz,RD⟩:∃z,(200-((f+1:Nat):Int))=z:=⟨_,rfl⟩
 rw[RD]
 have G7:0≤dz:=by omega
 have hd1:dz<200:=by omega
 have Xw:=al (show dz+1=200-(f:Int) by omega)
 have H2:=al h2
 have HW:=al hw
 have Hl:=al hl
 have Xn:=al hm
 have Hz:=al hz
 have Fa:=al ih
 clear h2 hw hl hm hz ih RD hf
 go_enter Tryz.func17,Tryz.ntmps17
 go_wp2
 go_loopg [5,6,7,8] l.length (fun gk v5 v6 _ _ wr=>∃(i:Nat) (iH:List Value),v6=.int .i64 (i:Int)∧gk=l.length-i∧i≤l.length∧Hid (wr.ownsRow w0.heap.size 46 7 v5 i iH)∧Hid (pa (Rest w0.heap.size v5) wr iH ((l.take i).map (lK f)))∧Hid (Below w0.heap.size w0 wr))
 case atStart=>exact ⟨0,[],rfl,rfl,by omega,⟨rfl,.inl ⟨rfl,rfl⟩⟩,.nil,zE _ _⟩
 case round =>
  obtain ⟨i,iH,rfl,aU,eO,HO,S1,HB⟩:=hrel
  have bz:=al aU
  clear aU
  obtain ⟨wo,iv⟩:∃x,x=wr:=⟨_,rfl⟩
  subst iv
  by_cases aM:i<l.length
  ·obtain ⟨g,o,rfl,hg,hc⟩:=ab H2 (by omega)
   have hr:=List.getElem?_eq_getElem aM
   have cG:=List.getElem_mem aM
   obtain ⟨m,yv⟩:∃m,l[i]=m:=⟨_,rfl⟩
   rw[yv] at hr cG
   obtain ⟨vf,vo,vm,ve,vr,vg,nm,fs,os,ms,es,rs,gs,cm,ce,dQ,hV⟩:=(ab Xn).at i m hr
   obtain rfl:=hV.is
   have Vk:=ab Hz _ cG
   obtain ⟨s1,s2,s3,s4,s5,s6,s7⟩:=Vk.s
   have gN:=al (show Below W.heap.size W wo from (ab HW).trans ((ab HB).mono (ab HW).size))
   have dy:Hid (∀w',Below W.heap.size W w'→w'.cell? ⟨g,o+i*7,none⟩=some (.string nm)∧w'.cell? ⟨g,o+i*7+1,none⟩=some vf∧w'.cell? ⟨g,o+i*7+2,none⟩=some vo∧w'.cell? ⟨g,o+i*7+3,none⟩=some vm∧w'.cell? ⟨g,o+i*7+4,none⟩=some ve∧w'.cell? ⟨g,o+i*7+5,none⟩=some vr∧w'.cell? ⟨g,o+i*7+6,none⟩=some vg):=by
    intro w' hb
    have key:∀(j:Nat) (x:Value),[Value.string nm,vf,vo,vm,ve,vr,vg][j]?=some x→w'.cell? ⟨g,o+(i*7+j),none⟩=some x:=fun j x hx=>(hb.cell (p:=⟨g,o+(i*7+j),none⟩) hg).trans (hc _ _ (by
     rw[←dQ,List.getElem?_take,List.getElem?_drop] at hx
     split at hx
     ·exact hx
     ·cases hx))
    exact ⟨key 0 _ rfl,key 1 _ rfl,key 2 _ rfl,key 3 _ rfl,key 4 _ rfl,key 5 _ rfl,key 6 _ rfl⟩
   have FA:=al (fun w' hb=>mr hV.ho s2 w' hb)
   have I9:=al (fun w' hb=>ab Fa W vm ms cm hV.hm hV.ej s3 Vk.2 w' hb)
   rw[←ab Xw] at I9
   have Mt:=al (fun w' hb=>wN hV.he hV.fl s4 s5 w' hb)
   have sb:=al (fun w' hb=>tD hV.hr s6 w' hb)
   have pc:=al (fun w' hb=>mr hV.hg s7 w' hb)
   obtain ⟨af,cf,rfl,Ph,fk⟩:=hV.hf
   obtain ⟨ao,co,rfl,-,-⟩:=hV.ho
   obtain ⟨am,dh,rfl,-,-⟩:=hV.hm
   obtain ⟨ae,dc,rfl,-,-⟩:=hV.he
   obtain ⟨ar,cr,rfl,-,-⟩:=hV.hr
   obtain ⟨ag,cg,rfl,-,-⟩:=hV.hg
   have XA:=al fk
   have LM:(0:Int)≤(i:Int):=zH _
   have i1:(i:Int)<(l.length:Int):=by omega
   have bu:=al aM
   have Hr:=al hr
   have HS:=al (show PR fs os ms es rs gs from ⟨s1,s2,s3,s4,s5,s6,s7⟩)
   clear hc cG yv dQ fk aM hr hV Vk s1 s2 s3 s4 s5 s6 s7
   go_upto_region 5 with fail
   go_cut [7] (fun v7 wx=>∃(b:Nat) (uo um ue ur ug:Value) (TC TD:List Value),v7=.pointer (some ⟨b,0,none⟩)∧((∃a c,uo=.slice a os.length c)∧(∃a c,um=.slice a (gI f ms).length c)∧(∃a c,ue=.slice a es.length c)∧(∃a c,ur=.slice a rs.length c)∧(∃a c,ug=.slice a gs.length c))∧Hid (pf wo wx b (.slice none 0 0) uo um ue ur ug TC TD nm os (gI f ms) es rs gs))
   case first =>
    refine wp_region_any (by kernel_rfl) (bK (z:=99) (T:=fun w'=>Below W.heap.size W w') _ _ _ _ ?_)
    try (change bZ _ _ _ _ _ _ _ _ _ (World.drew _))
    have aS:Below W.heap.size W wo.drew:=below_drewN (ab gN) 1
    have bT:Below wo.heap.size wo wo.drew:=below_drewN (zE wo.heap.size wo) 1
    obtain ⟨wd,mW⟩:∃x,wo.drew=x:=⟨_,rfl⟩
    rw[mW] at aS bT ⊢
    have hT:=aS
    refine aw 0 (.slice (some ⟨g,o,none⟩) l.length c) 19 rfl rfl (Or.inl ⟨by rfl,fun w' hw=>by obtain ⟨x0,x1,x2,x3,x4,x5,x6⟩:=ab dy w' hw;go_simp⟩) hT ?_
    simp only[Act.put,zL,zM,zN]
    refine aw 1 (.int .i64 (i:Int)) 20 rfl rfl (Or.inl ⟨by rfl,fun w' hw=>by obtain ⟨x0,x1,x2,x3,x4,x5,x6⟩:=ab dy w' hw;go_simp⟩) hT ?_
    simp only[Act.put,zL,zM,zN]
    refine aw 2 (.pointer (some ⟨g,o+i*7,none⟩)) 21 rfl rfl (Or.inl ⟨by rfl,fun w' hw=>by obtain ⟨x0,x1,x2,x3,x4,x5,x6⟩:=ab dy w' hw;go_simp⟩) hT ?_
    simp only[Act.put,zL,zM,zN]
    refine aw 3 (.pointer (some ⟨g,o+i*7,none⟩)) 22 rfl rfl (Or.inl ⟨by rfl,fun w' hw=>by obtain ⟨x0,x1,x2,x3,x4,x5,x6⟩:=ab dy w' hw;go_simp⟩) hT ?_
    simp only[Act.put,zL,zM,zN]
    refine aw 4 (.string nm) 23 rfl rfl (Or.inl ⟨by rfl,fun w' hw=>by obtain ⟨x0,x1,x2,x3,x4,x5,x6⟩:=ab dy w' hw;go_simp⟩) hT ?_
    simp only[Act.put,zL,zM,zN]
    refine aw 5 (.slice (some ⟨g,o,none⟩) l.length c) 24 rfl rfl (Or.inl ⟨by rfl,fun w' hw=>by obtain ⟨x0,x1,x2,x3,x4,x5,x6⟩:=ab dy w' hw;go_simp⟩) hT ?_
    simp only[Act.put,zL,zM,zN]
    refine aw 6 (.int .i64 (i:Int)) 25 rfl rfl (Or.inl ⟨by rfl,fun w' hw=>by obtain ⟨x0,x1,x2,x3,x4,x5,x6⟩:=ab dy w' hw;go_simp⟩) hT ?_
    simp only[Act.put,zL,zM,zN]
    refine aw 7 (.pointer (some ⟨g,o+i*7,none⟩)) 26 rfl rfl (Or.inl ⟨by rfl,fun w' hw=>by obtain ⟨x0,x1,x2,x3,x4,x5,x6⟩:=ab dy w' hw;go_simp⟩) hT ?_
    simp only[Act.put,zL,zM,zN]
    refine aw 8 (.pointer (some ⟨g,o+i*7+2,none⟩)) 27 rfl rfl (Or.inl ⟨by rfl,fun w' hw=>by obtain ⟨x0,x1,x2,x3,x4,x5,x6⟩:=ab dy w' hw;go_simp⟩) hT ?_
    simp only[Act.put,zL,zM,zN]
    refine aw 9 (.slice ao os.length co) 28 rfl rfl (Or.inl ⟨by rfl,fun w' hw=>by obtain ⟨x0,x1,x2,x3,x4,x5,x6⟩:=ab dy w' hw;go_simp⟩) hT ?_
    simp only[Act.put,zL,zM,zN]
    refine aw 11 (.slice (some ⟨g,o,none⟩) l.length c) 30 rfl rfl (Or.inl ⟨by rfl,fun w' hw=>by obtain ⟨x0,x1,x2,x3,x4,x5,x6⟩:=ab dy w' hw;go_simp⟩) hT ?_
    simp only[Act.put,zL,zM,zN]
    refine aw 12 (.int .i64 (i:Int)) 31 rfl rfl (Or.inl ⟨by rfl,fun w' hw=>by obtain ⟨x0,x1,x2,x3,x4,x5,x6⟩:=ab dy w' hw;go_simp⟩) hT ?_
    simp only[Act.put,zL,zM,zN]
    refine aw 13 (.pointer (some ⟨g,o+i*7,none⟩)) 32 rfl rfl (Or.inl ⟨by rfl,fun w' hw=>by obtain ⟨x0,x1,x2,x3,x4,x5,x6⟩:=ab dy w' hw;go_simp⟩) hT ?_
    simp only[Act.put,zL,zM,zN]
    refine aw 14 (.pointer (some ⟨g,o+i*7+3,none⟩)) 33 rfl rfl (Or.inl ⟨by rfl,fun w' hw=>by obtain ⟨x0,x1,x2,x3,x4,x5,x6⟩:=ab dy w' hw;go_simp⟩) hT ?_
    simp only[Act.put,zL,zM,zN]
    refine aw 15 (.slice am ms.length dh) 34 rfl rfl (Or.inl ⟨by rfl,fun w' hw=>by obtain ⟨x0,x1,x2,x3,x4,x5,x6⟩:=ab dy w' hw;go_simp⟩) hT ?_
    simp only[Act.put,zL,zM,zN]
    refine aw 16 (.int .i64 dz) 35 rfl rfl (Or.inl ⟨by rfl,fun w' hw=>by obtain ⟨x0,x1,x2,x3,x4,x5,x6⟩:=ab dy w' hw;go_simp⟩) hT ?_
    simp only[Act.put,zL,zM,zN]
    refine aw 17 (.int .i64 (dz+1)) 36 rfl rfl (Or.inl ⟨by rfl,fun w' hw=>by obtain ⟨x0,x1,x2,x3,x4,x5,x6⟩:=ab dy w' hw;go_simp;try exact IntWalk.i64_in _ (by omega)⟩) hT ?_
    simp only[Act.put,zL,zM,zN]
    refine aw 19 (.slice (some ⟨g,o,none⟩) l.length c) 38 rfl rfl (Or.inl ⟨by rfl,fun w' hw=>by obtain ⟨x0,x1,x2,x3,x4,x5,x6⟩:=ab dy w' hw;go_simp⟩) hT ?_
    simp only[Act.put,zL,zM,zN]
    refine aw 20 (.int .i64 (i:Int)) 39 rfl rfl (Or.inl ⟨by rfl,fun w' hw=>by obtain ⟨x0,x1,x2,x3,x4,x5,x6⟩:=ab dy w' hw;go_simp⟩) hT ?_
    simp only[Act.put,zL,zM,zN]
    refine aw 21 (.pointer (some ⟨g,o+i*7,none⟩)) 40 rfl rfl (Or.inl ⟨by rfl,fun w' hw=>by obtain ⟨x0,x1,x2,x3,x4,x5,x6⟩:=ab dy w' hw;go_simp⟩) hT ?_
    simp only[Act.put,zL,zM,zN]
    refine aw 22 (.pointer (some ⟨g,o+i*7+4,none⟩)) 41 rfl rfl (Or.inl ⟨by rfl,fun w' hw=>by obtain ⟨x0,x1,x2,x3,x4,x5,x6⟩:=ab dy w' hw;go_simp⟩) hT ?_
    simp only[Act.put,zL,zM,zN]
    refine aw 23 (.slice ae es.length dc) 42 rfl rfl (Or.inl ⟨by rfl,fun w' hw=>by obtain ⟨x0,x1,x2,x3,x4,x5,x6⟩:=ab dy w' hw;go_simp⟩) hT ?_
    simp only[Act.put,zL,zM,zN]
    refine aw 25 (.slice (some ⟨g,o,none⟩) l.length c) 44 rfl rfl (Or.inl ⟨by rfl,fun w' hw=>by obtain ⟨x0,x1,x2,x3,x4,x5,x6⟩:=ab dy w' hw;go_simp⟩) hT ?_
    simp only[Act.put,zL,zM,zN]
    refine aw 26 (.int .i64 (i:Int)) 45 rfl rfl (Or.inl ⟨by rfl,fun w' hw=>by obtain ⟨x0,x1,x2,x3,x4,x5,x6⟩:=ab dy w' hw;go_simp⟩) hT ?_
    simp only[Act.put,zL,zM,zN]
    refine aw 27 (.pointer (some ⟨g,o+i*7,none⟩)) 46 rfl rfl (Or.inl ⟨by rfl,fun w' hw=>by obtain ⟨x0,x1,x2,x3,x4,x5,x6⟩:=ab dy w' hw;go_simp⟩) hT ?_
    simp only[Act.put,zL,zM,zN]
    refine aw 28 (.pointer (some ⟨g,o+i*7+5,none⟩)) 47 rfl rfl (Or.inl ⟨by rfl,fun w' hw=>by obtain ⟨x0,x1,x2,x3,x4,x5,x6⟩:=ab dy w' hw;go_simp⟩) hT ?_
    simp only[Act.put,zL,zM,zN]
    refine aw 29 (.slice ar rs.length cr) 48 rfl rfl (Or.inl ⟨by rfl,fun w' hw=>by obtain ⟨x0,x1,x2,x3,x4,x5,x6⟩:=ab dy w' hw;go_simp⟩) hT ?_
    simp only[Act.put,zL,zM,zN]
    refine aw 31 (.slice (some ⟨g,o,none⟩) l.length c) 50 rfl rfl (Or.inl ⟨by rfl,fun w' hw=>by obtain ⟨x0,x1,x2,x3,x4,x5,x6⟩:=ab dy w' hw;go_simp⟩) hT ?_
    simp only[Act.put,zL,zM,zN]
    refine aw 32 (.int .i64 (i:Int)) 51 rfl rfl (Or.inl ⟨by rfl,fun w' hw=>by obtain ⟨x0,x1,x2,x3,x4,x5,x6⟩:=ab dy w' hw;go_simp⟩) hT ?_
    simp only[Act.put,zL,zM,zN]
    refine aw 33 (.pointer (some ⟨g,o+i*7,none⟩)) 52 rfl rfl (Or.inl ⟨by rfl,fun w' hw=>by obtain ⟨x0,x1,x2,x3,x4,x5,x6⟩:=ab dy w' hw;go_simp⟩) hT ?_
    simp only[Act.put,zL,zM,zN]
    refine aw 34 (.pointer (some ⟨g,o+i*7+6,none⟩)) 53 rfl rfl (Or.inl ⟨by rfl,fun w' hw=>by obtain ⟨x0,x1,x2,x3,x4,x5,x6⟩:=ab dy w' hw;go_simp⟩) hT ?_
    simp only[Act.put,zL,zM,zN]
    refine aw 35 (.slice ag gs.length cg) 54 rfl rfl (Or.inl ⟨by rfl,fun w' hw=>by obtain ⟨x0,x1,x2,x3,x4,x5,x6⟩:=ab dy w' hw;go_simp⟩) hT ?_
    simp only[Act.put,zL,zM,zN]
    clear hT
    refine ew 10 38 (by kernel_rfl) rfl rfl (fun K hK=>?_) (fun K hK=>?_)
    ·refine aO 29 rfl rfl 16 (fun vs=>by kernel_rfl) #[.tmp 28] #[22] rfl #[.slice ao os.length co] (by first|rfl|simp[Act.eval]) (ab FA wd aS) ?_
     rintro e' yq ⟨u1,rfl,dM,aR⟩
     obtain ⟨FM,FL,rfl⟩:=bq dM
     have dM:=(cy dM (by have:=(ab HS).2.1;omega)).mono (Qw bT.size)
     have bT:=bT.trans (aR.mono bT.size)
     have aS:=aS.trans (aR.mono aS.size)
     refine ⟨_,rfl,hK _ _ ⟨fun _=>aS,?_⟩⟩
     clear hK K aR
     simp only[Act.put,zL,zM,zN]
     refine ew 18 38 (by kernel_rfl) rfl rfl (fun K hK=>?_) (fun K hK=>?_)
     ·refine aO 37 rfl rfl 17 (fun vs=>by kernel_rfl) #[.tmp 34,.tmp 36] #[23,3] rfl #[.slice am ms.length dh,.int .i64 (dz+1)] (by first|rfl|simp[Act.eval]) (ab I9 yq aS) ?_
      rintro e' AQ ⟨u2,ZT,rfl,gC,gj,aR⟩
      have dM:=dM.mono (aC aR)
      obtain ⟨JK,JJ,rfl⟩:=bq gC
      have gC:=(cy gC (by have:=(ab HS).2.2.1;have:=oS (f:=f) (l:=ms);omega)).mono (Qw bT.size)
      have gj:=gj.mono (Ys bT.size)
      have bT:=bT.trans (aR.mono bT.size)
      have aS:=aS.trans (aR.mono aS.size)
      refine ⟨_,rfl,hK _ _ ⟨fun _=>aS,?_⟩⟩
      clear hK K aR
      simp only[Act.put,zL,zM,zN]
      refine ew 24 38 (by kernel_rfl) rfl rfl (fun K hK=>?_) (fun K hK=>?_)
      ·refine aO 43 rfl rfl 18 (fun vs=>by kernel_rfl) #[.tmp 42] #[24] rfl #[.slice ae es.length dc] (by first|rfl|simp[Act.eval]) (ab Mt AQ aS) ?_
       rintro e' A' ⟨u3,cs3,rfl,lA,mX,aR⟩
       have dM:=dM.mono (aC aR)
       have gC:=gC.mono (aC aR)
       have gj:=gj.mono (aC aR)
       obtain ⟨O7,O4,rfl⟩:=bq lA
       have lA:=(cy lA (by have:=(ab HS).2.2.2.1;omega)).mono (Qw bT.size)
       have mX:=mX.mono (Ys bT.size)
       have bT:=bT.trans (aR.mono bT.size)
       have aS:=aS.trans (aR.mono aS.size)
       refine ⟨_,rfl,hK _ _ ⟨fun _=>aS,?_⟩⟩
       clear hK K aR
       simp only[Act.put,zL,zM,zN]
       refine ew 30 38 (by kernel_rfl) rfl rfl (fun K hK=>?_) (fun K hK=>?_)
       ·refine aO 49 rfl rfl 33 (fun vs=>by kernel_rfl) #[.tmp 48] #[44] rfl #[.slice ar rs.length cr] (by first|rfl|simp[Act.eval]) (ab sb A' aS) ?_
        rintro e' Fm ⟨u4,rfl,oE,aR⟩
        have dM:=dM.mono (aC aR)
        have gC:=gC.mono (aC aR)
        have gj:=gj.mono (aC aR)
        have lA:=lA.mono (aC aR)
        have mX:=mX.mono (aC aR)
        obtain ⟨Yq,Yp,rfl⟩:=bq oE
        have oE:=(cy oE (by have:=(ab HS).2.2.2.2.2.1;omega)).mono (Qw bT.size)
        have bT:=bT.trans (aR.mono bT.size)
        have aS:=aS.trans (aR.mono aS.size)
        refine ⟨_,rfl,hK _ _ ⟨fun _=>aS,?_⟩⟩
        clear hK K aR
        simp only[Act.put,zL,zM,zN]
        refine ew 36 38 (by kernel_rfl) rfl rfl (fun K hK=>?_) (fun K hK=>?_)
        ·refine aO 55 rfl rfl 16 (fun vs=>by kernel_rfl) #[.tmp 54] #[22] rfl #[.slice ag gs.length cg] (by first|rfl|simp[Act.eval]) (ab pc Fm aS) ?_
         rintro e' LC ⟨u5,rfl,Di,aR⟩
         have dM:=dM.mono (aC aR)
         have gC:=gC.mono (aC aR)
         have gj:=gj.mono (aC aR)
         have lA:=lA.mono (aC aR)
         have mX:=mX.mono (aC aR)
         have oE:=oE.mono (aC aR)
         obtain ⟨UI,Uo,rfl⟩:=bq Di
         have Di:=(cy Di (by have:=(ab HS).2.2.2.2.2.2;omega)).mono (Qw bT.size)
         have bT:=bT.trans (aR.mono bT.size)
         have aS:=aS.trans (aR.mono aS.size)
         refine ⟨_,rfl,hK _ _ ⟨fun _=>aS,?_⟩⟩
         clear hK K aR
         simp only[Act.put,zL,zM,zN]
         have hT:=aS
         refine aw 37 (.agg #[.string nm,.slice none 0 0,.slice FM (os.length) FL,.slice JK ((gI f ms).length) JJ,.slice O7 (es.length) O4,.slice Yq (rs.length) Yp,.slice UI (gs.length) Uo]) 56 rfl rfl (Or.inl ⟨by rfl,fun w' hw=>by go_simp⟩) hT ?_
         simp only[Act.put,zL,zM,zN]
         clear hT
         refine aF 38 (by kernel_rfl) rfl (fun K hK=>?_)
         obtain ⟨Lz,bM⟩:∃x,LC.alloc (.cells #[.string ⟨#[]⟩,.slice none 0 0,.slice none 0 0,.slice none 0 0,.slice none 0 0,.slice none 0 0,.slice none 0 0] 46)=x:=⟨_,rfl⟩
         have aR:Below LC.heap.size LC Lz:=by rw[←bM];exact (zE _ _).alloc (zD _) _
         have bP:Lz.heap[LC.heap.size]?=some (.cells #[.string ⟨#[]⟩,.slice none 0 0,.slice none 0 0,.slice none 0 0,.slice none 0 0,.slice none 0 0,.slice none 0 0] 46 (0,0)):=by rw[←bM];exact aK _ _
         have dB:wo.heap.size≤LC.heap.size:=bT.size
         go_simp
         have dM:=dM.mono (uR aR)
         have gC:=gC.mono (uR aR)
         have gj:=gj.mono (uR aR)
         have lA:=lA.mono (uR aR)
         have mX:=mX.mono (uR aR)
         have oE:=oE.mono (uR aR)
         have Di:=Di.mono (uR aR)
         have bT:=bT.trans (aR.mono bT.size)
         have aS:=aS.trans (aR.mono aS.size)
         obtain ⟨bk,et⟩:∃b,LC.heap.size=b:=⟨_,rfl⟩
         rw[et] at bP dB dM gC gj lA mX oE Di
         rw[et]
         refine hK _ _ ⟨fun _=>aS,?_⟩
         clear hK K bM aR et
         refine aF 39 (by kernel_rfl) rfl (fun K hK=>?_)
         obtain ⟨c0,c1,c2,c3,c4,c5,c6⟩:=kD bP
         have z:∀j,Lz.frozen? ⟨bk,j,none⟩=false:=fun j=>by simp[World.frozen?,bP]
         have z0:=z 0
         have z1:=z 1
         have z2:=z 2
         have z3:=z 3
         have z4:=z 4
         have z5:=z 5
         have z6:=z 6
         have hC:=pf.new (nm:=nm) bT dB bP dM gC gj lA mX oE Di
         go_simp
         refine hK _ _ ⟨fun _=>(ab gN).trans (hC.bV.mono (ab gN).size),?_⟩
         clear hK K
         refine aZ (by kernel_rfl) ?_
         have HC:=al hC
         clear hC bT aS dB bP z z0 z1 z2 z3 z4 z5 z6 c0 c1 c2 c3 c4 c5 c6 dM gC gj lA mX oE Di
         go_wp2_with fail
         go_meet
         exact ⟨bk,_,_,_,_,_,_,_,rfl,⟨⟨_,_,rfl⟩,⟨_,_,rfl⟩,⟨_,_,rfl⟩,⟨_,_,rfl⟩,⟨_,_,rfl⟩⟩,HC⟩
        ·obtain ⟨Mw,bM⟩:∃x,Fm.alloc (.cells #[.string ⟨#[]⟩,.slice none 0 0,.slice none 0 0,.slice none 0 0,.slice none 0 0,.slice none 0 0,.slice none 0 0] 46)=x:=⟨_,rfl⟩
         have aR:Below Fm.heap.size Fm Mw:=by rw[←bM];exact (zE _ _).alloc (zD _) _
         have bP:Mw.heap[Fm.heap.size]?=some (.cells #[.string ⟨#[]⟩,.slice none 0 0,.slice none 0 0,.slice none 0 0,.slice none 0 0,.slice none 0 0,.slice none 0 0] 46 (0,0)):=by rw[←bM];exact aK _ _
         have dB:wo.heap.size≤Fm.heap.size:=bT.size
         go_simp
         have dM:=dM.mono (uR aR)
         have gC:=gC.mono (uR aR)
         have gj:=gj.mono (uR aR)
         have lA:=lA.mono (uR aR)
         have mX:=mX.mono (uR aR)
         have oE:=oE.mono (uR aR)
         have bT:=bT.trans (aR.mono bT.size)
         have aS:=aS.trans (aR.mono aS.size)
         obtain ⟨bk,et⟩:∃b,Fm.heap.size=b:=⟨_,rfl⟩
         rw[et] at bP dB dM gC gj lA mX oE
         rw[et]
         refine hK _ _ ⟨fun _=>aS,?_⟩
         clear hK K bM aR et
         refine aF 36 (by kernel_rfl) rfl (fun K hK=>?_)
         refine aO 55 rfl rfl 16 (fun vs=>by kernel_rfl) #[.tmp 54] #[22] rfl #[.slice ag gs.length cg] (by first|rfl|simp[Act.eval]) (ab pc Mw aS) ?_
         rintro e' Ub ⟨u8,rfl,GV,aR⟩
         have dM:=dM.mono (aC aR)
         have gC:=gC.mono (aC aR)
         have gj:=gj.mono (aC aR)
         have lA:=lA.mono (aC aR)
         have mX:=mX.mono (aC aR)
         have oE:=oE.mono (aC aR)
         obtain ⟨UH,Un,rfl⟩:=bq GV
         have fC:bk<Mw.heap.size:=(zA bP).1
         have GV:=(cy GV (by have:=(ab HS).2.2.2.2.2.2;omega)).mono (vh bT.size fC)
         have bT:=bT.trans (aR.mono bT.size)
         have aS:=aS.trans (aR.mono aS.size)
         have bP:=(aR.block _ (zA bP).1).trans bP
         refine ⟨_,rfl,hK _ _ ⟨fun _=>aS,?_⟩⟩
         clear hK K aR fC
         simp only[Act.put,zL,zM,zN]
         have hT:=aS
         refine aw 37 (.agg #[.string nm,.slice none 0 0,.slice FM (os.length) FL,.slice JK ((gI f ms).length) JJ,.slice O7 (es.length) O4,.slice Yq (rs.length) Yp,.slice UH (gs.length) Un]) 56 rfl rfl (Or.inl ⟨by rfl,fun w' hw=>by go_simp⟩) hT ?_
         simp only[Act.put,zL,zM,zN]
         clear hT
         refine aF 39 (by kernel_rfl) rfl (fun K hK=>?_)
         obtain ⟨c0,c1,c2,c3,c4,c5,c6⟩:=kD bP
         have z:∀j,Ub.frozen? ⟨bk,j,none⟩=false:=fun j=>by simp[World.frozen?,bP]
         have z0:=z 0
         have z1:=z 1
         have z2:=z 2
         have z3:=z 3
         have z4:=z 4
         have z5:=z 5
         have z6:=z 6
         have hC:=pf.new (nm:=nm) bT dB bP dM gC gj lA mX oE GV
         go_simp
         refine hK _ _ ⟨fun _=>(ab gN).trans (hC.bV.mono (ab gN).size),?_⟩
         clear hK K
         refine aZ (by kernel_rfl) ?_
         have HC:=al hC
         clear hC bT aS dB bP z z0 z1 z2 z3 z4 z5 z6 c0 c1 c2 c3 c4 c5 c6 dM gC gj lA mX oE GV
         go_wp2_with fail
         go_meet
         exact ⟨bk,_,_,_,_,_,_,_,rfl,⟨⟨_,_,rfl⟩,⟨_,_,rfl⟩,⟨_,_,rfl⟩,⟨_,_,rfl⟩,⟨_,_,rfl⟩⟩,HC⟩
       ·obtain ⟨S5,bM⟩:∃x,A'.alloc (.cells #[.string ⟨#[]⟩,.slice none 0 0,.slice none 0 0,.slice none 0 0,.slice none 0 0,.slice none 0 0,.slice none 0 0] 46)=x:=⟨_,rfl⟩
        have aR:Below A'.heap.size A' S5:=by rw[←bM];exact (zE _ _).alloc (zD _) _
        have bP:S5.heap[A'.heap.size]?=some (.cells #[.string ⟨#[]⟩,.slice none 0 0,.slice none 0 0,.slice none 0 0,.slice none 0 0,.slice none 0 0,.slice none 0 0] 46 (0,0)):=by rw[←bM];exact aK _ _
        have dB:wo.heap.size≤A'.heap.size:=bT.size
        go_simp
        have dM:=dM.mono (uR aR)
        have gC:=gC.mono (uR aR)
        have gj:=gj.mono (uR aR)
        have lA:=lA.mono (uR aR)
        have mX:=mX.mono (uR aR)
        have bT:=bT.trans (aR.mono bT.size)
        have aS:=aS.trans (aR.mono aS.size)
        obtain ⟨bk,et⟩:∃b,A'.heap.size=b:=⟨_,rfl⟩
        rw[et] at bP dB dM gC gj lA mX
        rw[et]
        refine hK _ _ ⟨fun _=>aS,?_⟩
        clear hK K bM aR et
        refine aF 30 (by kernel_rfl) rfl (fun K hK=>?_)
        refine aO 49 rfl rfl 33 (fun vs=>by kernel_rfl) #[.tmp 48] #[44] rfl #[.slice ar rs.length cr] (by first|rfl|simp[Act.eval]) (ab sb S5 aS) ?_
        rintro e' Qn ⟨u10,rfl,B6,aR⟩
        have dM:=dM.mono (aC aR)
        have gC:=gC.mono (aC aR)
        have gj:=gj.mono (aC aR)
        have lA:=lA.mono (aC aR)
        have mX:=mX.mono (aC aR)
        obtain ⟨UY,UD,rfl⟩:=bq B6
        have fC:bk<S5.heap.size:=(zA bP).1
        have B6:=(cy B6 (by have:=(ab HS).2.2.2.2.2.1;omega)).mono (vh bT.size fC)
        have bT:=bT.trans (aR.mono bT.size)
        have aS:=aS.trans (aR.mono aS.size)
        have bP:=(aR.block _ (zA bP).1).trans bP
        refine ⟨_,rfl,hK _ _ ⟨fun _=>aS,?_⟩⟩
        clear hK K aR fC
        simp only[Act.put,zL,zM,zN]
        refine aF 36 (by kernel_rfl) rfl (fun K hK=>?_)
        refine aO 55 rfl rfl 16 (fun vs=>by kernel_rfl) #[.tmp 54] #[22] rfl #[.slice ag gs.length cg] (by first|rfl|simp[Act.eval]) (ab pc Qn aS) ?_
        rintro e' Uf ⟨u11,rfl,GZ,aR⟩
        have dM:=dM.mono (aC aR)
        have gC:=gC.mono (aC aR)
        have gj:=gj.mono (aC aR)
        have lA:=lA.mono (aC aR)
        have mX:=mX.mono (aC aR)
        have B6:=B6.mono (aC aR)
        obtain ⟨UX,UC,rfl⟩:=bq GZ
        have fC:bk<Qn.heap.size:=(zA bP).1
        have GZ:=(cy GZ (by have:=(ab HS).2.2.2.2.2.2;omega)).mono (vh bT.size fC)
        have bT:=bT.trans (aR.mono bT.size)
        have aS:=aS.trans (aR.mono aS.size)
        have bP:=(aR.block _ (zA bP).1).trans bP
        refine ⟨_,rfl,hK _ _ ⟨fun _=>aS,?_⟩⟩
        clear hK K aR fC
        simp only[Act.put,zL,zM,zN]
        have hT:=aS
        refine aw 37 (.agg #[.string nm,.slice none 0 0,.slice FM (os.length) FL,.slice JK ((gI f ms).length) JJ,.slice O7 (es.length) O4,.slice UY (rs.length) UD,.slice UX (gs.length) UC]) 56 rfl rfl (Or.inl ⟨by rfl,fun w' hw=>by go_simp⟩) hT ?_
        simp only[Act.put,zL,zM,zN]
        clear hT
        refine aF 39 (by kernel_rfl) rfl (fun K hK=>?_)
        obtain ⟨c0,c1,c2,c3,c4,c5,c6⟩:=kD bP
        have z:∀j,Uf.frozen? ⟨bk,j,none⟩=false:=fun j=>by simp[World.frozen?,bP]
        have z0:=z 0
        have z1:=z 1
        have z2:=z 2
        have z3:=z 3
        have z4:=z 4
        have z5:=z 5
        have z6:=z 6
        have hC:=pf.new (nm:=nm) bT dB bP dM gC gj lA mX B6 GZ
        go_simp
        refine hK _ _ ⟨fun _=>(ab gN).trans (hC.bV.mono (ab gN).size),?_⟩
        clear hK K
        refine aZ (by kernel_rfl) ?_
        have HC:=al hC
        clear hC bT aS dB bP z z0 z1 z2 z3 z4 z5 z6 c0 c1 c2 c3 c4 c5 c6 dM gC gj lA mX B6 GZ
        go_wp2_with fail
        go_meet
        exact ⟨bk,_,_,_,_,_,_,_,rfl,⟨⟨_,_,rfl⟩,⟨_,_,rfl⟩,⟨_,_,rfl⟩,⟨_,_,rfl⟩,⟨_,_,rfl⟩⟩,HC⟩
      ·obtain ⟨JI,bM⟩:∃x,AQ.alloc (.cells #[.string ⟨#[]⟩,.slice none 0 0,.slice none 0 0,.slice none 0 0,.slice none 0 0,.slice none 0 0,.slice none 0 0] 46)=x:=⟨_,rfl⟩
       have aR:Below AQ.heap.size AQ JI:=by rw[←bM];exact (zE _ _).alloc (zD _) _
       have bP:JI.heap[AQ.heap.size]?=some (.cells #[.string ⟨#[]⟩,.slice none 0 0,.slice none 0 0,.slice none 0 0,.slice none 0 0,.slice none 0 0,.slice none 0 0] 46 (0,0)):=by rw[←bM];exact aK _ _
       have dB:wo.heap.size≤AQ.heap.size:=bT.size
       go_simp
       have dM:=dM.mono (uR aR)
       have gC:=gC.mono (uR aR)
       have gj:=gj.mono (uR aR)
       have bT:=bT.trans (aR.mono bT.size)
       have aS:=aS.trans (aR.mono aS.size)
       obtain ⟨bk,et⟩:∃b,AQ.heap.size=b:=⟨_,rfl⟩
       rw[et] at bP dB dM gC gj
       rw[et]
       refine hK _ _ ⟨fun _=>aS,?_⟩
       clear hK K bM aR et
       refine aF 24 (by kernel_rfl) rfl (fun K hK=>?_)
       refine aO 43 rfl rfl 18 (fun vs=>by kernel_rfl) #[.tmp 42] #[24] rfl #[.slice ae es.length dc] (by first|rfl|simp[Act.eval]) (ab Mt JI aS) ?_
       rintro e' Qm ⟨u13,aay,rfl,xO,Ae,aR⟩
       have dM:=dM.mono (aC aR)
       have gC:=gC.mono (aC aR)
       have gj:=gj.mono (aC aR)
       obtain ⟨UW,UB,rfl⟩:=bq xO
       have fC:bk<JI.heap.size:=(zA bP).1
       have xO:=(cy xO (by have:=(ab HS).2.2.2.1;omega)).mono (vh bT.size fC)
       have Ae:=Ae.mono (Qx bT.size fC)
       have bT:=bT.trans (aR.mono bT.size)
       have aS:=aS.trans (aR.mono aS.size)
       have bP:=(aR.block _ (zA bP).1).trans bP
       refine ⟨_,rfl,hK _ _ ⟨fun _=>aS,?_⟩⟩
       clear hK K aR fC
       simp only[Act.put,zL,zM,zN]
       refine aF 30 (by kernel_rfl) rfl (fun K hK=>?_)
       refine aO 49 rfl rfl 33 (fun vs=>by kernel_rfl) #[.tmp 48] #[44] rfl #[.slice ar rs.length cr] (by first|rfl|simp[Act.eval]) (ab sb Qm aS) ?_
       rintro e' Ql ⟨u14,rfl,B5,aR⟩
       have dM:=dM.mono (aC aR)
       have gC:=gC.mono (aC aR)
       have gj:=gj.mono (aC aR)
       have xO:=xO.mono (aC aR)
       have Ae:=Ae.mono (aC aR)
       obtain ⟨UU,UA,rfl⟩:=bq B5
       have fC:bk<Qm.heap.size:=(zA bP).1
       have B5:=(cy B5 (by have:=(ab HS).2.2.2.2.2.1;omega)).mono (vh bT.size fC)
       have bT:=bT.trans (aR.mono bT.size)
       have aS:=aS.trans (aR.mono aS.size)
       have bP:=(aR.block _ (zA bP).1).trans bP
       refine ⟨_,rfl,hK _ _ ⟨fun _=>aS,?_⟩⟩
       clear hK K aR fC
       simp only[Act.put,zL,zM,zN]
       refine aF 36 (by kernel_rfl) rfl (fun K hK=>?_)
       refine aO 55 rfl rfl 16 (fun vs=>by kernel_rfl) #[.tmp 54] #[22] rfl #[.slice ag gs.length cg] (by first|rfl|simp[Act.eval]) (ab pc Ql aS) ?_
       rintro e' Ue ⟨u15,rfl,GY,aR⟩
       have dM:=dM.mono (aC aR)
       have gC:=gC.mono (aC aR)
       have gj:=gj.mono (aC aR)
       have xO:=xO.mono (aC aR)
       have Ae:=Ae.mono (aC aR)
       have B5:=B5.mono (aC aR)
       obtain ⟨UT,Uz,rfl⟩:=bq GY
       have fC:bk<Ql.heap.size:=(zA bP).1
       have GY:=(cy GY (by have:=(ab HS).2.2.2.2.2.2;omega)).mono (vh bT.size fC)
       have bT:=bT.trans (aR.mono bT.size)
       have aS:=aS.trans (aR.mono aS.size)
       have bP:=(aR.block _ (zA bP).1).trans bP
       refine ⟨_,rfl,hK _ _ ⟨fun _=>aS,?_⟩⟩
       clear hK K aR fC
       simp only[Act.put,zL,zM,zN]
       have hT:=aS
       refine aw 37 (.agg #[.string nm,.slice none 0 0,.slice FM (os.length) FL,.slice JK ((gI f ms).length) JJ,.slice UW (es.length) UB,.slice UU (rs.length) UA,.slice UT (gs.length) Uz]) 56 rfl rfl (Or.inl ⟨by rfl,fun w' hw=>by go_simp⟩) hT ?_
       simp only[Act.put,zL,zM,zN]
       clear hT
       refine aF 39 (by kernel_rfl) rfl (fun K hK=>?_)
       obtain ⟨c0,c1,c2,c3,c4,c5,c6⟩:=kD bP
       have z:∀j,Ue.frozen? ⟨bk,j,none⟩=false:=fun j=>by simp[World.frozen?,bP]
       have z0:=z 0
       have z1:=z 1
       have z2:=z 2
       have z3:=z 3
       have z4:=z 4
       have z5:=z 5
       have z6:=z 6
       have hC:=pf.new (nm:=nm) bT dB bP dM gC gj xO Ae B5 GY
       go_simp
       refine hK _ _ ⟨fun _=>(ab gN).trans (hC.bV.mono (ab gN).size),?_⟩
       clear hK K
       refine aZ (by kernel_rfl) ?_
       have HC:=al hC
       clear hC bT aS dB bP z z0 z1 z2 z3 z4 z5 z6 c0 c1 c2 c3 c4 c5 c6 dM gC gj xO Ae B5 GY
       go_wp2_with fail
       go_meet
       exact ⟨bk,_,_,_,_,_,_,_,rfl,⟨⟨_,_,rfl⟩,⟨_,_,rfl⟩,⟨_,_,rfl⟩,⟨_,_,rfl⟩,⟨_,_,rfl⟩⟩,HC⟩
     ·obtain ⟨JH,bM⟩:∃x,yq.alloc (.cells #[.string ⟨#[]⟩,.slice none 0 0,.slice none 0 0,.slice none 0 0,.slice none 0 0,.slice none 0 0,.slice none 0 0] 46)=x:=⟨_,rfl⟩
      have aR:Below yq.heap.size yq JH:=by rw[←bM];exact (zE _ _).alloc (zD _) _
      have bP:JH.heap[yq.heap.size]?=some (.cells #[.string ⟨#[]⟩,.slice none 0 0,.slice none 0 0,.slice none 0 0,.slice none 0 0,.slice none 0 0,.slice none 0 0] 46 (0,0)):=by rw[←bM];exact aK _ _
      have dB:wo.heap.size≤yq.heap.size:=bT.size
      go_simp
      have dM:=dM.mono (uR aR)
      have bT:=bT.trans (aR.mono bT.size)
      have aS:=aS.trans (aR.mono aS.size)
      obtain ⟨bk,et⟩:∃b,yq.heap.size=b:=⟨_,rfl⟩
      rw[et] at bP dB dM
      rw[et]
      refine hK _ _ ⟨fun _=>aS,?_⟩
      clear hK K bM aR et
      refine aF 18 (by kernel_rfl) rfl (fun K hK=>?_)
      refine aO 37 rfl rfl 17 (fun vs=>by kernel_rfl) #[.tmp 34,.tmp 36] #[23,3] rfl #[.slice am ms.length dh,.int .i64 (dz+1)] (by first|rfl|simp[Act.eval]) (ab I9 JH aS) ?_
      rintro e' Qk ⟨u17,aax,rfl,tW,vz,aR⟩
      have dM:=dM.mono (aC aR)
      obtain ⟨US,Uy,rfl⟩:=bq tW
      have fC:bk<JH.heap.size:=(zA bP).1
      have tW:=(cy tW (by have:=(ab HS).2.2.1;have:=oS (f:=f) (l:=ms);omega)).mono (vh bT.size fC)
      have vz:=vz.mono (Qx bT.size fC)
      have bT:=bT.trans (aR.mono bT.size)
      have aS:=aS.trans (aR.mono aS.size)
      have bP:=(aR.block _ (zA bP).1).trans bP
      refine ⟨_,rfl,hK _ _ ⟨fun _=>aS,?_⟩⟩
      clear hK K aR fC
      simp only[Act.put,zL,zM,zN]
      refine aF 24 (by kernel_rfl) rfl (fun K hK=>?_)
      refine aO 43 rfl rfl 18 (fun vs=>by kernel_rfl) #[.tmp 42] #[24] rfl #[.slice ae es.length dc] (by first|rfl|simp[Act.eval]) (ab Mt Qk aS) ?_
      rintro e' Qj ⟨u18,aaw,rfl,xN,Ad,aR⟩
      have dM:=dM.mono (aC aR)
      have tW:=tW.mono (aC aR)
      have vz:=vz.mono (aC aR)
      obtain ⟨UR,Ux,rfl⟩:=bq xN
      have fC:bk<Qk.heap.size:=(zA bP).1
      have xN:=(cy xN (by have:=(ab HS).2.2.2.1;omega)).mono (vh bT.size fC)
      have Ad:=Ad.mono (Qx bT.size fC)
      have bT:=bT.trans (aR.mono bT.size)
      have aS:=aS.trans (aR.mono aS.size)
      have bP:=(aR.block _ (zA bP).1).trans bP
      refine ⟨_,rfl,hK _ _ ⟨fun _=>aS,?_⟩⟩
      clear hK K aR fC
      simp only[Act.put,zL,zM,zN]
      refine aF 30 (by kernel_rfl) rfl (fun K hK=>?_)
      refine aO 49 rfl rfl 33 (fun vs=>by kernel_rfl) #[.tmp 48] #[44] rfl #[.slice ar rs.length cr] (by first|rfl|simp[Act.eval]) (ab sb Qj aS) ?_
      rintro e' Qi ⟨u19,rfl,B4,aR⟩
      have dM:=dM.mono (aC aR)
      have tW:=tW.mono (aC aR)
      have vz:=vz.mono (aC aR)
      have xN:=xN.mono (aC aR)
      have Ad:=Ad.mono (aC aR)
      obtain ⟨UP,Uw,rfl⟩:=bq B4
      have fC:bk<Qj.heap.size:=(zA bP).1
      have B4:=(cy B4 (by have:=(ab HS).2.2.2.2.2.1;omega)).mono (vh bT.size fC)
      have bT:=bT.trans (aR.mono bT.size)
      have aS:=aS.trans (aR.mono aS.size)
      have bP:=(aR.block _ (zA bP).1).trans bP
      refine ⟨_,rfl,hK _ _ ⟨fun _=>aS,?_⟩⟩
      clear hK K aR fC
      simp only[Act.put,zL,zM,zN]
      refine aF 36 (by kernel_rfl) rfl (fun K hK=>?_)
      refine aO 55 rfl rfl 16 (fun vs=>by kernel_rfl) #[.tmp 54] #[22] rfl #[.slice ag gs.length cg] (by first|rfl|simp[Act.eval]) (ab pc Qi aS) ?_
      rintro e' Ud ⟨u20,rfl,GX,aR⟩
      have dM:=dM.mono (aC aR)
      have tW:=tW.mono (aC aR)
      have vz:=vz.mono (aC aR)
      have xN:=xN.mono (aC aR)
      have Ad:=Ad.mono (aC aR)
      have B4:=B4.mono (aC aR)
      obtain ⟨UO,Uv,rfl⟩:=bq GX
      have fC:bk<Qi.heap.size:=(zA bP).1
      have GX:=(cy GX (by have:=(ab HS).2.2.2.2.2.2;omega)).mono (vh bT.size fC)
      have bT:=bT.trans (aR.mono bT.size)
      have aS:=aS.trans (aR.mono aS.size)
      have bP:=(aR.block _ (zA bP).1).trans bP
      refine ⟨_,rfl,hK _ _ ⟨fun _=>aS,?_⟩⟩
      clear hK K aR fC
      simp only[Act.put,zL,zM,zN]
      have hT:=aS
      refine aw 37 (.agg #[.string nm,.slice none 0 0,.slice FM (os.length) FL,.slice US ((gI f ms).length) Uy,.slice UR (es.length) Ux,.slice UP (rs.length) Uw,.slice UO (gs.length) Uv]) 56 rfl rfl (Or.inl ⟨by rfl,fun w' hw=>by go_simp⟩) hT ?_
      simp only[Act.put,zL,zM,zN]
      clear hT
      refine aF 39 (by kernel_rfl) rfl (fun K hK=>?_)
      obtain ⟨c0,c1,c2,c3,c4,c5,c6⟩:=kD bP
      have z:∀j,Ud.frozen? ⟨bk,j,none⟩=false:=fun j=>by simp[World.frozen?,bP]
      have z0:=z 0
      have z1:=z 1
      have z2:=z 2
      have z3:=z 3
      have z4:=z 4
      have z5:=z 5
      have z6:=z 6
      have hC:=pf.new (nm:=nm) bT dB bP dM tW vz xN Ad B4 GX
      go_simp
      refine hK _ _ ⟨fun _=>(ab gN).trans (hC.bV.mono (ab gN).size),?_⟩
      clear hK K
      refine aZ (by kernel_rfl) ?_
      have HC:=al hC
      clear hC bT aS dB bP z z0 z1 z2 z3 z4 z5 z6 c0 c1 c2 c3 c4 c5 c6 dM tW vz xN Ad B4 GX
      go_wp2_with fail
      go_meet
      exact ⟨bk,_,_,_,_,_,_,_,rfl,⟨⟨_,_,rfl⟩,⟨_,_,rfl⟩,⟨_,_,rfl⟩,⟨_,_,rfl⟩,⟨_,_,rfl⟩⟩,HC⟩
    ·obtain ⟨JG,bM⟩:∃x,wd.alloc (.cells #[.string ⟨#[]⟩,.slice none 0 0,.slice none 0 0,.slice none 0 0,.slice none 0 0,.slice none 0 0,.slice none 0 0] 46)=x:=⟨_,rfl⟩
     have aR:Below wd.heap.size wd JG:=by rw[←bM];exact (zE _ _).alloc (zD _) _
     have bP:JG.heap[wd.heap.size]?=some (.cells #[.string ⟨#[]⟩,.slice none 0 0,.slice none 0 0,.slice none 0 0,.slice none 0 0,.slice none 0 0,.slice none 0 0] 46 (0,0)):=by rw[←bM];exact aK _ _
     have dB:wo.heap.size≤wd.heap.size:=bT.size
     go_simp
     have bT:=bT.trans (aR.mono bT.size)
     have aS:=aS.trans (aR.mono aS.size)
     obtain ⟨bk,et⟩:∃b,wd.heap.size=b:=⟨_,rfl⟩
     rw[et] at bP dB
     rw[et]
     refine hK _ _ ⟨fun _=>aS,?_⟩
     clear hK K bM aR et
     refine aF 10 (by kernel_rfl) rfl (fun K hK=>?_)
     refine aO 29 rfl rfl 16 (fun vs=>by kernel_rfl) #[.tmp 28] #[22] rfl #[.slice ao os.length co] (by first|rfl|simp[Act.eval]) (ab FA JG aS) ?_
     rintro e' Qh ⟨u22,rfl,pE,aR⟩
     obtain ⟨UN,Uu,rfl⟩:=bq pE
     have fC:bk<JG.heap.size:=(zA bP).1
     have pE:=(cy pE (by have:=(ab HS).2.1;omega)).mono (vh bT.size fC)
     have bT:=bT.trans (aR.mono bT.size)
     have aS:=aS.trans (aR.mono aS.size)
     have bP:=(aR.block _ (zA bP).1).trans bP
     refine ⟨_,rfl,hK _ _ ⟨fun _=>aS,?_⟩⟩
     clear hK K aR fC
     simp only[Act.put,zL,zM,zN]
     refine aF 18 (by kernel_rfl) rfl (fun K hK=>?_)
     refine aO 37 rfl rfl 17 (fun vs=>by kernel_rfl) #[.tmp 34,.tmp 36] #[23,3] rfl #[.slice am ms.length dh,.int .i64 (dz+1)] (by first|rfl|simp[Act.eval]) (ab I9 Qh aS) ?_
     rintro e' Qg ⟨u23,aav,rfl,tV,vy,aR⟩
     have pE:=pE.mono (aC aR)
     obtain ⟨UM,Ut,rfl⟩:=bq tV
     have fC:bk<Qh.heap.size:=(zA bP).1
     have tV:=(cy tV (by have:=(ab HS).2.2.1;have:=oS (f:=f) (l:=ms);omega)).mono (vh bT.size fC)
     have vy:=vy.mono (Qx bT.size fC)
     have bT:=bT.trans (aR.mono bT.size)
     have aS:=aS.trans (aR.mono aS.size)
     have bP:=(aR.block _ (zA bP).1).trans bP
     refine ⟨_,rfl,hK _ _ ⟨fun _=>aS,?_⟩⟩
     clear hK K aR fC
     simp only[Act.put,zL,zM,zN]
     refine aF 24 (by kernel_rfl) rfl (fun K hK=>?_)
     refine aO 43 rfl rfl 18 (fun vs=>by kernel_rfl) #[.tmp 42] #[24] rfl #[.slice ae es.length dc] (by first|rfl|simp[Act.eval]) (ab Mt Qg aS) ?_
     rintro e' Qf ⟨u24,aau,rfl,xM,Ac,aR⟩
     have pE:=pE.mono (aC aR)
     have tV:=tV.mono (aC aR)
     have vy:=vy.mono (aC aR)
     obtain ⟨UL,Us,rfl⟩:=bq xM
     have fC:bk<Qg.heap.size:=(zA bP).1
     have xM:=(cy xM (by have:=(ab HS).2.2.2.1;omega)).mono (vh bT.size fC)
     have Ac:=Ac.mono (Qx bT.size fC)
     have bT:=bT.trans (aR.mono bT.size)
     have aS:=aS.trans (aR.mono aS.size)
     have bP:=(aR.block _ (zA bP).1).trans bP
     refine ⟨_,rfl,hK _ _ ⟨fun _=>aS,?_⟩⟩
     clear hK K aR fC
     simp only[Act.put,zL,zM,zN]
     refine aF 30 (by kernel_rfl) rfl (fun K hK=>?_)
     refine aO 49 rfl rfl 33 (fun vs=>by kernel_rfl) #[.tmp 48] #[44] rfl #[.slice ar rs.length cr] (by first|rfl|simp[Act.eval]) (ab sb Qf aS) ?_
     rintro e' Qe ⟨u25,rfl,B3,aR⟩
     have pE:=pE.mono (aC aR)
     have tV:=tV.mono (aC aR)
     have vy:=vy.mono (aC aR)
     have xM:=xM.mono (aC aR)
     have Ac:=Ac.mono (aC aR)
     obtain ⟨UK,Ur,rfl⟩:=bq B3
     have fC:bk<Qf.heap.size:=(zA bP).1
     have B3:=(cy B3 (by have:=(ab HS).2.2.2.2.2.1;omega)).mono (vh bT.size fC)
     have bT:=bT.trans (aR.mono bT.size)
     have aS:=aS.trans (aR.mono aS.size)
     have bP:=(aR.block _ (zA bP).1).trans bP
     refine ⟨_,rfl,hK _ _ ⟨fun _=>aS,?_⟩⟩
     clear hK K aR fC
     simp only[Act.put,zL,zM,zN]
     refine aF 36 (by kernel_rfl) rfl (fun K hK=>?_)
     refine aO 55 rfl rfl 16 (fun vs=>by kernel_rfl) #[.tmp 54] #[22] rfl #[.slice ag gs.length cg] (by first|rfl|simp[Act.eval]) (ab pc Qe aS) ?_
     rintro e' Uc ⟨u26,rfl,GW,aR⟩
     have pE:=pE.mono (aC aR)
     have tV:=tV.mono (aC aR)
     have vy:=vy.mono (aC aR)
     have xM:=xM.mono (aC aR)
     have Ac:=Ac.mono (aC aR)
     have B3:=B3.mono (aC aR)
     obtain ⟨UJ,Uq,rfl⟩:=bq GW
     have fC:bk<Qe.heap.size:=(zA bP).1
     have GW:=(cy GW (by have:=(ab HS).2.2.2.2.2.2;omega)).mono (vh bT.size fC)
     have bT:=bT.trans (aR.mono bT.size)
     have aS:=aS.trans (aR.mono aS.size)
     have bP:=(aR.block _ (zA bP).1).trans bP
     refine ⟨_,rfl,hK _ _ ⟨fun _=>aS,?_⟩⟩
     clear hK K aR fC
     simp only[Act.put,zL,zM,zN]
     have hT:=aS
     refine aw 37 (.agg #[.string nm,.slice none 0 0,.slice UN (os.length) Uu,.slice UM ((gI f ms).length) Ut,.slice UL (es.length) Us,.slice UK (rs.length) Ur,.slice UJ (gs.length) Uq]) 56 rfl rfl (Or.inl ⟨by rfl,fun w' hw=>by go_simp⟩) hT ?_
     simp only[Act.put,zL,zM,zN]
     clear hT
     refine aF 39 (by kernel_rfl) rfl (fun K hK=>?_)
     obtain ⟨c0,c1,c2,c3,c4,c5,c6⟩:=kD bP
     have z:∀j,Uc.frozen? ⟨bk,j,none⟩=false:=fun j=>by simp[World.frozen?,bP]
     have z0:=z 0
     have z1:=z 1
     have z2:=z 2
     have z3:=z 3
     have z4:=z 4
     have z5:=z 5
     have z6:=z 6
     have hC:=pf.new (nm:=nm) bT dB bP pE tV vy xM Ac B3 GW
     go_simp
     refine hK _ _ ⟨fun _=>(ab gN).trans (hC.bV.mono (ab gN).size),?_⟩
     clear hK K
     refine aZ (by kernel_rfl) ?_
     have HC:=al hC
     clear hC bT aS dB bP z z0 z1 z2 z3 z4 z5 z6 c0 c1 c2 c3 c4 c5 c6 pE tV vy xM Ac B3 GW
     go_wp2_with fail
     go_meet
     exact ⟨bk,_,_,_,_,_,_,_,rfl,⟨⟨_,_,rfl⟩,⟨_,_,rfl⟩,⟨_,_,rfl⟩,⟨_,_,rfl⟩,⟨_,_,rfl⟩⟩,HC⟩
   case rest =>
    obtain ⟨b,uo,um,ue,ur,ug,TC,TD,rfl,⟨⟨UE,Uk,rfl⟩,⟨UF,Ul,rfl⟩,⟨UG,Um,rfl⟩,⟨O5,O0,rfl⟩,⟨O6,O3,rfl⟩⟩,HC⟩:=hcut
    have HN:Hid (wc.ownsRow wo.heap.size 42 6 (.slice none 0 0) 0 []):=⟨rfl,.inl ⟨rfl,rfl⟩⟩
    obtain ⟨x0,x1,x2,x3,x4,x5,x6⟩:=ab dy wc ((ab gN).trans ((ab HC).bV.mono (ab gN).size))
    clear FA I9 Mt sb pc
    go_wp2_with fail
    clear x0 x1 x2 x3 x4 x5 x6
    go_loopg [8] fs.length (fun gk v8 wi=>∃(k:Nat) (uf:Value),v8=.int .i64 (k:Int)∧gk=fs.length-k∧k≤fs.length∧Hid (pf wo wi b (uf) (.slice UE os.length Uk) (.slice UF (gI f ms).length Ul) (.slice UG es.length Um) (.slice O5 rs.length O0) (.slice O6 gs.length O3) TC TD nm os (gI f ms) es rs gs)∧Hid (wi.ownsRow wo.heap.size 42 6 uf k (fp (fs.take k))))
    case atStart=>exact ⟨0,_,rfl,rfl,by omega,HC,HN⟩
    case round =>
     obtain ⟨k,uf,rfl,gD,lG,uQ,lM⟩:=hrel
     have ki:=al gD
     clear gD HC HN
     obtain ⟨AU,AT,rfl⟩:=bq (ab lM)
     have Ya:=al (show Below W.heap.size W wr from (ab gN).trans ((ab uQ).bV.mono (ab gN).size))
     obtain ⟨x0,x1,x2,x3,x4,x5,x6⟩:=ab dy wr (ab Ya)
     by_cases fM:k<fs.length
     ·obtain ⟨gv,ov,rfl,KJ,lH⟩:=ab XA (by omega)
      have oA:=List.getElem?_eq_getElem fM
      obtain ⟨y,QQ⟩:∃y,fs[k]=y:=⟨_,rfl⟩
      rw[QQ] at oA
      have vG:Hid (∀w',Below W.heap.size W w'→w'.cell? ⟨gv,ov+k*6,none⟩=some (.int .i64 y.aP)∧w'.cell? ⟨gv,ov+k*6+1,none⟩=some (.string y.key)∧w'.cell? ⟨gv,ov+k*6+2,none⟩=some (.string y.ty)∧w'.cell? ⟨gv,ov+k*6+3,none⟩=some (.string y.name)∧w'.cell? ⟨gv,ov+k*6+4,none⟩=some (.int .i64 y.num)∧w'.cell? ⟨gv,ov+k*6+5,none⟩=some (.int .i64 y.aE)):=by
       intro w' hb
       have key:∀(j:Nat) (x:Value),j<6→y.cs[j]?=some x→w'.cell? ⟨gv,ov+(k*6+j),none⟩=some x:=fun j x hj hx=>(hb.cell (p:=⟨gv,ov+(k*6+j),none⟩) KJ).trans (lH _ _ (by unfold fp;rw[ld Fd.cs 6 (fun _=>rfl) fs k j y oA hj];exact hx))
       exact ⟨key 0 _ (by decide) rfl,key 1 _ (by decide) rfl,key 2 _ (by decide) rfl,key 3 _ (by decide) rfl,key 4 _ (by decide) rfl,key 5 _ (by decide) rfl⟩
      have s9:=al (JT oA)
      have YF:(0:Int)≤(k:Int):=zH _
      have ss:(k:Int)<(fs.length:Int):=by omega
      have dV:=al fM
      clear lH oA QQ fM
      go_upto_region 9 with fail
      refine wp_region_any (by kernel_rfl) (bK (z:=13) (T:=(fun w':World=>Below W.heap.size W w'∧w'.cell? ⟨b,1,none⟩=some (.slice AU k AT))) _ _ _ _ ?_)
      try (change bZ _ _ _ _ _ _ _ _ _ (World.drew _))
      have hC:=(ab uQ).below (below_drewN (zE wr.heap.size wr) 1)
      have hO:=dH (ab lM) (below_drewN (zE wr.heap.size wr) 1)
      change pf wo wr.drew b (.slice AU k AT) (.slice UE os.length Uk) (.slice UF (gI f ms).length Ul) (.slice UG es.length Um) (.slice O5 rs.length O0) (.slice O6 gs.length O3) TC TD nm os (gI f ms) es rs gs at hC
      change World.ownsRow wr.drew _ _ _ _ _ _ at hO
      obtain ⟨wd,mW⟩:∃x,wr.drew=x:=⟨_,rfl⟩
      rw[mW] at hC hO ⊢
      have hT:(fun w':World=>Below W.heap.size W w'∧w'.cell? ⟨b,1,none⟩=some (.slice AU k AT)) wd:=⟨(ab gN).trans (hC.bV.mono (ab gN).size),cell_of_row _ _ _ _ _ _ hC.dj⟩
      clear x0 x1 x2 x3 x4 x5 x6
      refine aw 0 (.pointer (some ⟨b,1,none⟩)) 67 rfl rfl (Or.inl ⟨by rfl,fun w' hw=>by obtain ⟨fG,vx⟩:=hw;obtain ⟨x0,x1,x2,x3,x4,x5,x6⟩:=ab dy w' fG;obtain ⟨y0,y1,y2,y3,y4,y5⟩:=ab vG w' fG;go_simp⟩) hT ?_
      simp only[Act.put,zL,zM,zN]
      refine aw 1 (.slice AU k AT) 68 rfl rfl (Or.inl ⟨by rfl,fun w' hw=>by obtain ⟨fG,vx⟩:=hw;obtain ⟨x0,x1,x2,x3,x4,x5,x6⟩:=ab dy w' fG;obtain ⟨y0,y1,y2,y3,y4,y5⟩:=ab vG w' fG;go_simp⟩) hT ?_
      simp only[Act.put,zL,zM,zN]
      refine aw 2 (.slice (some ⟨g,o,none⟩) l.length c) 69 rfl rfl (Or.inl ⟨by rfl,fun w' hw=>by obtain ⟨fG,vx⟩:=hw;obtain ⟨x0,x1,x2,x3,x4,x5,x6⟩:=ab dy w' fG;obtain ⟨y0,y1,y2,y3,y4,y5⟩:=ab vG w' fG;go_simp⟩) hT ?_
      simp only[Act.put,zL,zM,zN]
      refine aw 3 (.int .i64 (i:Int)) 70 rfl rfl (Or.inl ⟨by rfl,fun w' hw=>by obtain ⟨fG,vx⟩:=hw;obtain ⟨x0,x1,x2,x3,x4,x5,x6⟩:=ab dy w' fG;obtain ⟨y0,y1,y2,y3,y4,y5⟩:=ab vG w' fG;go_simp⟩) hT ?_
      simp only[Act.put,zL,zM,zN]
      refine aw 4 (.pointer (some ⟨g,o+i*7,none⟩)) 71 rfl rfl (Or.inl ⟨by rfl,fun w' hw=>by obtain ⟨fG,vx⟩:=hw;obtain ⟨x0,x1,x2,x3,x4,x5,x6⟩:=ab dy w' fG;obtain ⟨y0,y1,y2,y3,y4,y5⟩:=ab vG w' fG;go_simp⟩) hT ?_
      simp only[Act.put,zL,zM,zN]
      refine aw 5 (.pointer (some ⟨g,o+i*7+1,none⟩)) 72 rfl rfl (Or.inl ⟨by rfl,fun w' hw=>by obtain ⟨fG,vx⟩:=hw;obtain ⟨x0,x1,x2,x3,x4,x5,x6⟩:=ab dy w' fG;obtain ⟨y0,y1,y2,y3,y4,y5⟩:=ab vG w' fG;go_simp⟩) hT ?_
      simp only[Act.put,zL,zM,zN]
      refine aw 6 (.slice (some ⟨gv,ov,none⟩) fs.length cf) 73 rfl rfl (Or.inl ⟨by rfl,fun w' hw=>by obtain ⟨fG,vx⟩:=hw;obtain ⟨x0,x1,x2,x3,x4,x5,x6⟩:=ab dy w' fG;obtain ⟨y0,y1,y2,y3,y4,y5⟩:=ab vG w' fG;go_simp⟩) hT ?_
      simp only[Act.put,zL,zM,zN]
      refine aw 7 (.int .i64 (k:Int)) 74 rfl rfl (Or.inl ⟨by rfl,fun w' hw=>by obtain ⟨fG,vx⟩:=hw;obtain ⟨x0,x1,x2,x3,x4,x5,x6⟩:=ab dy w' fG;obtain ⟨y0,y1,y2,y3,y4,y5⟩:=ab vG w' fG;go_simp⟩) hT ?_
      simp only[Act.put,zL,zM,zN]
      refine aw 8 (.pointer (some ⟨gv,ov+k*6,none⟩)) 75 rfl rfl (Or.inl ⟨by rfl,fun w' hw=>by obtain ⟨fG,vx⟩:=hw;obtain ⟨x0,x1,x2,x3,x4,x5,x6⟩:=ab dy w' fG;obtain ⟨y0,y1,y2,y3,y4,y5⟩:=ab vG w' fG;go_simp⟩) hT ?_
      simp only[Act.put,zL,zM,zN]
      refine aw 9 (.agg #[.int .i64 y.aP,.string y.key,.string y.ty,.string y.name,.int .i64 y.num,.int .i64 y.aE]) 76 rfl rfl (Or.inl ⟨by rfl,fun w' hw=>by obtain ⟨fG,vx⟩:=hw;obtain ⟨x0,x1,x2,x3,x4,x5,x6⟩:=ab dy w' fG;obtain ⟨y0,y1,y2,y3,y4,y5⟩:=ab vG w' fG;go_simp⟩) hT ?_
      simp only[Act.put,zL,zM,zN]
      obtain ⟨wy,Jo⟩:∃x,wd.alloc (.cells #[.int .i64 y.aP,.string y.key,.string y.ty,.string y.name,.int .i64 y.num,.int .i64 y.aE] 42)=x:=⟨_,rfl⟩
      have aR:Below wd.heap.size wd wy:=by rw[←Jo];exact (zE _ _).alloc (zD _) _
      have hC:=hC.below aR
      have hO:=dH hO aR
      have hT:(fun w':World=>Below W.heap.size W w'∧w'.cell? ⟨b,1,none⟩=some (.slice AU k AT)) wy:=⟨(ab gN).trans (hC.bV.mono (ab gN).size),cell_of_row _ _ _ _ _ _ hC.dj⟩
      have KE:∀j u,y.cs[j]?=some u→wy.cell? ((⟨wd.heap.size,0,none⟩:Addr).add j)=some u:=by rw[←Jo];exact pL _ _ _
      refine aF 10 (by kernel_rfl) rfl (fun K hK=>?_)
      go_simp
      refine hK _ _ ⟨fun _=>hT,?_⟩
      clear hK K Jo aR mW
      refine aF 11 (by kernel_rfl) rfl (fun K hK=>?_)
      refine kW 78 rfl rfl (.tmp 68) (.tmp 77) 43 rfl wo.heap.size 42 j0 (.agg #[.int .i64 0,.string ByteArray.empty,.string ByteArray.empty,.string ByteArray.empty,.int .i64 0,.int .i64 0]) 6 72 Tryz.underlying43 hj Vh Vg Vf rfl (by decide) (.slice AU k AT) k _ (by first|rfl|simp[Act.eval]) hO ⟨wd.heap.size,0,none⟩ 1 1 y.cs (by first|rfl|simp[Act.eval]) rfl KE (by simp[Fd.cs,Value.oneCell']) (by have:=ab dV;have:=(ab HS).1;unfold maxLen;omega) (by have:=ab dV;have:=(ab HS).1;omega) hC.bV.size ?_
      intro v' w2 ho ed dZ
      have Dp:=hC.BR ed (fun j e=>(hO.lt j e).1) (dN hO hC.dj (by decide))
      obtain ⟨a',c',rfl⟩:=bq ho
      have Fx:(fun w':World=>Below W.heap.size W w'∧w'.cell? ⟨b,1,none⟩=some (.slice AU k AT)) w2:=⟨(ab gN).trans (Dp.bV.mono (ab gN).size),cell_of_row _ _ _ _ _ _ Dp.dj⟩
      rw[←ab s9] at ho
      refine hK _ _ ⟨fun _=>Fx,?_⟩
      clear hK K hO hT KE
      simp only[Act.put,zL,zM,zN]
      refine aw 12 (.pointer (some ⟨b,1,none⟩)) 79 rfl rfl (Or.inl ⟨by rfl,fun w' hw=>by obtain ⟨fG,vx⟩:=hw;go_simp⟩) Fx ?_
      simp only[Act.put,zL,zM,zN]
      have Px:=Fx.2
      have NB:w2.frozen? ⟨b,1,none⟩=false:=by simp[World.frozen?,Dp.dj]
      have RU:=hC.grow ed (u':=.slice a' (k+1) c') Dp dZ
      have Rw:=(bh (j:=1) Dp.dj (.slice a' (k+1) c')).2
      have RR:=ho.kept Rw (.inr (dN ho Dp.dj (by decide)))
      refine aF 13 (by kernel_rfl) rfl (fun K hK=>?_)
      go_simp
      refine hK _ _ ⟨fun h=>absurd rfl h,?_⟩
      have X':=al RU
      have XR:=al RR
      clear hK K Px NB Fx ho hC Dp RU RR Rw dZ ed
      refine aZ (by kernel_rfl) ?_
      go_wp2
      go_roundg (fs.length-(k+1))
      case measure=>have:=ab ki;have:=ab dV;omega
      case rel=>exact ⟨k+1,_,by go_num,rfl,ab dV,X',XR⟩
     ·obtain rfl:k=fs.length:=by omega
      have hO:=ab lM
      rw[List.take_length] at hO
      have XQ:=al hO
      clear hO lM
      obtain ⟨c0,c1,c2,c3,c4,c5,c6⟩:=kD (ab uQ).dj
      have ss:¬(fs.length:Int)<(fs.length:Int):=by omega
      have iD:=al (show w0.heap.size≤wr.heap.size from Nat.le_trans (ab HB).size (ab uQ).bV.size)
      have XP:=al ((ab HO).kept (show wo.grownBy wr none from ⟨(ab uQ).bV.os,(ab uQ).bV.tape,(ab uQ).bV.output,(ab uQ).bV.size,fun q hq _=>(ab uQ).bV.block q hq⟩) (by cases u5.ownBlock with|none=>exact .inl rfl|some q=>exact .inr (by simp)))
      have u6:=al ((ab HB).trans ((ab uQ).bV.mono (ab HB).size))
      obtain ⟨DE,DB,rfl⟩:=bq (ab HO)
      go_wp2_with (at_builtin;refine wpList_append_own_at _ rfl _ _ 23 rfl w0.heap.size 46 i0 (.agg #[.string ByteArray.empty,.slice none 0 0,.slice none 0 0,.slice none 0 0,.slice none 0 0,.slice none 0 0,.slice none 0 0]) 7 160 Tryz.underlying23 hi gf fX dY rfl (by decide) _ _ _ rfl ((ab XP).alloc _) ⟨wr.heap.size,0,none⟩ 1 1 [.string nm,.slice AU fs.length AT,.slice UE os.length Uk,.slice UF (gI f ms).length Ul,.slice UG es.length Um,.slice O5 rs.length O0,.slice O6 gs.length O3] rfl rfl (pL _ _ _) (by simp[Value.oneCell']) (by have:=ab bu;unfold maxLen;omega) (by have:=ab bu;have:=ab Hl;omega) (by rw[zJ];have:=ab iD;omega) ?_;intro v' w2 ho ed _ dZ;have XO:=al ho;have X7:=al (Gm (ab HO) (ab S1) (ab uQ) (ab XQ) (ab HS).1 (ab HB).size (ab Hr) ((zE _ _).alloc (zD _) _) ed dZ);have JD:=al (((ab u6).alloc (ab u6).size _).grown ed (by rw[zJ];have:=ab iD;omega) (fun q e=>((ab HO).lt q e).1));clear ho ed dZ)
      go_roundg (l.length-(i+1))
      case measure=>have:=ab bz;have:=ab bu;omega
      case rel=>exact ⟨i+1,_,by go_num,rfl,ab bu,XO,X7,JD⟩
  ·obtain rfl:i=l.length:=by omega
   have hE:=ab S1
   rw[List.take_length] at hE
   have P7:=al hE
   have lM:=al (show wo.ownsRow w0.heap.size 46 7 u5 (gI (f+1) l).length iH by rw[show (gI (f+1) l).length=l.length from List.length_map _];exact ab HO)
   clear hE HO
   go_wp2
   go_ret
   exact ⟨_,_,rfl,ab lM,ab P7,ab HB⟩
theorem oq:∀f,f≤200→Lo f
 |0,_=>BL
 |f+1,h=>vp (by omega) (oq f (by omega))
end Go.Proofs.YtichhjfjcinjgaaGreatDoor
