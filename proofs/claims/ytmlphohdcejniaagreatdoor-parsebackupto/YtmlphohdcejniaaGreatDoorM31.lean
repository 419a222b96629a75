import Derived.Test.YtmlphohdcejniaaGreatDoorPbZ
set_option maxHeartbeats 4000000
set_option maxRecDepth 100000
namespace Go.Proofs.YtmlphohdcejniaaGreatDoor
open Go.RowKit
attribute [local go_sem ↓] Go.wp_at_zero Go.wp_at_succ
def NF (a:Fl) (x:Value) (P:Nat→Prop) (w:World):Prop:=∃vi vm ve cm ce,x=.agg #[.string a.fW,vi,vm,ve]∧eQ P w 9 1 vi a.cy.length (bS a.cy)∧eQ P w 64 7 vm a.ms.length cm∧di P w cm a.ms∧eQ P w 68 4 ve a.es.length ce∧eC P w ce a.es
def kb (st:fU Fl):Nat→fU Fl
 |0,_,_=>.error (0,0)
 |n+1,x,s=>if s.here.kind=5 then .ok (x,s) else match st x s with
  |.error e=>.error e
  |.ok (x',s')=>kb st n x' s'
noncomputable def gY (s:aI):Except (Int×Int) (Fl×aI):=kb (cj Ey QO) (s.ts.length+1) ⟨⟨#[]⟩,[],[],[]⟩ s
noncomputable def iP (s:aI):Except (Int×Int) (Fl×aI):=match cw 1 ⟨#[115,121,110,116,97,120]⟩ s with
 |.error e=>.error e
 |.ok (false,s1)=>.error (cK s1)
 |.ok (true,s1)=>match aW ⟨#[61]⟩ s1 with
  |.error e=>.error e
  |.ok (_,s2)=>match bO fk s2 with
   |.error e=>.error e
   |.ok (_,s3)=>match aW ⟨#[59]⟩ s3 with
    |.error e=>.error e
    |.ok (_,s4)=>gY s4
noncomputable def Pn:Code:=match Tryz.f50.body with
 |some (.seq _ (.seq _ (.seq _ (.seq _ (.seq _ t)))))=>t
 |_=>.skip
noncomputable def L7 (t:Code):Code:=match Tryz.f50.body with
 |some (.seq a (.seq b (.seq c (.seq d (.seq e _)))))=>.seq a (.seq b (.seq c (.seq d (.seq e t))))
 |_=>.skip
theorem L6:Tryz.f50.body=some (L7 Pn):=rfl
theorem oq:(Tryz.prog.info? 26).map (·.size)=some 4:=by kernel_rfl
def FlJ (lo b g p2 pv:Nat) (N:(Nat→Prop)→World→Prop) (V W:World) (R0:Except (Int×Int) (Fl×aI)) (n:Nat) (a:Act) (w:World):Prop:=∃(u:Nat→Value) (x:Fl) (s:aI),a=⟨#[.pointer (some ⟨b,0,none⟩),u 1,.pointer (some ⟨p2,0,none⟩),.pointer (some ⟨g,0,none⟩),.map (some (pv+2)),u 5,u 6,u 7,u 8,u 9,u 10,u 11,u 12,u 13,u 14,u 15,u 16,u 17,u 18,u 19,u 20,u 21,u 22,u 23,u 24,u 25,u 26,u 27],[]⟩∧ze lo b g N V W x s w∧s.ts.length<n∧kb (cj Ey QO) n x s=R0
theorem L8 {lo b p2:Nat}{V W0 w:World}{s:aI} (hv:Env V w b) (h:Rd lo w b s) (hs:Sm s) (hn:s.ts.length≤16384) (tX:W0.grownBy w (some b)) (xq:w.heap[p2]?=some (.cells #[.string ⟨#[]⟩,.slice none 0 0,.slice none 0 0,.slice none 0 0] 26 (0,0))) (dr:lo≤W0.heap.size∧W0.heap.size≤p2) {u:Nat→Value}{R:Ending→World→Prop} (hR:∀e w,CR lo b NF W0 (gY s) e w→R e w) :
  Pn.wp Tryz.prog (bodyPost Tryz.prog Tryz.f50 R) ⟨#[.pointer (some ⟨b,0,none⟩),u 1,.pointer (some ⟨p2,0,none⟩),u 3,u 4,u 5,u 6,u 7,u 8,u 9,u 10,u 11,u 12,u 13,u 14,u 15,u 16,u 17,u 18,u 19,u 20,u 21,u 22,u 23,u 24,u 25,u 26,u 27],[]⟩ w:=by
 have yD:=(zA xq).1
 have eA:=h.low
 have eR:=(zE w.heap.size w).alloc (zD _) (.cells #[.string ⟨#[]⟩,.slice none 0 0,.slice none 0 0,.slice none 0 0] 26)
 have h4:=h.up eR
 have aZ:Ap lo b w.heap.size 26 ⟨#[]⟩ (Np ⟨⟨#[]⟩,[],[],[]⟩ (.slice none 0 0) (.slice none 0 0) (.slice none 0 0) [] []) (E' w.heap.size (aP p2 #[.string ⟨#[]⟩,.slice none 0 0,.slice none 0 0,.slice none 0 0] 26) ⟨⟨#[]⟩,[],[],[]⟩ [] []) V w s (w.alloc (.cells #[.string ⟨#[]⟩,.slice none 0 0,.slice none 0 0,.slice none 0 0] 26)):=by
  have rj:∀(i:Nat) (sl:Slot),(Np ⟨⟨#[]⟩,[],[],[]⟩ (.slice none 0 0) (.slice none 0 0) (.slice none 0 0) [] [])[i]?=some sl→sl.v=.slice none 0 0∧sl.n=0∧sl.xs=[]:=fun i sl hi=>by
   match i,hi with
   |0,hi=>obtain rfl:=zC hi;exact ⟨rfl,rfl,rfl⟩
   |1,hi=>obtain rfl:=zC hi;exact ⟨rfl,rfl,rfl⟩
   |2,hi=>obtain rfl:=zC hi;exact ⟨rfl,rfl,rfl⟩
   |k+3,hi=>cases hi
  have LB:∀k,k≠b→k≠w.heap.size→Fz (Np ⟨⟨#[]⟩,[],[],[]⟩ (.slice none 0 0) (.slice none 0 0) (.slice none 0 0) [] []) w.heap.size b k:=fun k q1 q2=>⟨q1,q2,fun i sl hi e=>by
   rw[(rj i sl hi).1] at e
   cases e⟩
  refine ⟨⟨aC _ _,fun i sl hi=>?_,fun i j a c eo ha hc k hk=>?_⟩,⟨⟨(eR.block _ yD).trans xq,LB _ (by omega) (by omega)⟩,.nil,.nil⟩,h4,by omega,⟨eR.os,eR.tape,eR.output,eR.size,fun k hk _=>eR.block k hk⟩,hv.step (aA b eR)⟩
  ·obtain ⟨q1,q2,q3⟩:=rj i sl hi
   exact ⟨by rw[q2,q3];simp,.inl ⟨q1,q2⟩⟩
  ·rw[(rj i a ha).1] at hk
   cases hk
 have hI:ze lo b w.heap.size (aP p2 #[.string ⟨#[]⟩,.slice none 0 0,.slice none 0 0,.slice none 0 0] 26) V w ⟨⟨#[]⟩,[],[],[]⟩ s (w.alloc (.cells #[.string ⟨#[]⟩,.slice none 0 0,.slice none 0 0,.slice none 0 0] 26)):=⟨⟨_,_,_,_,_,aZ⟩,⟨by simp only[List.length_nil];omega,by simp only[List.length_nil];omega,by simp only[List.length_nil];omega⟩,hs,hn⟩
 have HI:=aj hI
 have HR:=aj hR
 have QY:=aj tX
 have Na:=aj dr
 have ZP:=aj yD
 have HT:=aj (JS (w.alloc (.cells #[.string ⟨#[]⟩,.slice none 0 0,.slice none 0 0,.slice none 0 0] 26)) b w.heap.size)
 obtain ⟨g,hg⟩:∃g,w.heap.size=g:=⟨_,rfl⟩
 have Hg:=aj hg
 rw[hg] at HI HT ZP
 clear hv h hs hn tX xq dr yD eA eR h4 aZ hI hR
 obtain ⟨Q,hQ⟩:∃Q,bodyPost Tryz.prog Tryz.f50 R=Q:=⟨_,rfl⟩
 rw[hQ]
 unfold Pn
 dsimp only[Tryz.f50]
 subst hg
 go_wp2_with fail
 refine (aa HT).mono ?_
 rintro e w1 ⟨rfl,bC,cn⟩
 obtain ⟨pv,hpv⟩:∃pv,(w.alloc (.cells #[.string ⟨#[]⟩,.slice none 0 0,.slice none 0 0,.slice none 0 0] 26)).heap.size=pv:=⟨_,rfl⟩
 rw[hpv] at cn ⊢
 have LP:aK (aP p2 #[.string ⟨#[]⟩,.slice none 0 0,.slice none 0 0,.slice none 0 0] 26):=bp _ _ _
 have IF:aK (fun P w'=>aP p2 #[.string ⟨#[]⟩,.slice none 0 0,.slice none 0 0,.slice none 0 0] 26 P w'∧(aP pv #[.pointer (some ⟨b,0,none⟩)] 107 P w'∧aP (pv+1) #[.pointer (some ⟨w.heap.size,0,none⟩)] 135 P w'∧gL (pv+2) (nL pv b) P w')):=LP.and ((bp _ _ _).and ((bp _ _ _).and (fC _ _)))
 have S1:ze lo b w.heap.size (fun P w'=>aP p2 #[.string ⟨#[]⟩,.slice none 0 0,.slice none 0 0,.slice none 0 0] 26 P w'∧(aP pv #[.pointer (some ⟨b,0,none⟩)] 107 P w'∧aP (pv+1) #[.pointer (some ⟨w.heap.size,0,none⟩)] 135 P w'∧gL (pv+2) (nL pv b) P w')) V w ⟨⟨#[]⟩,[],[],[]⟩ s w1:=by
  obtain ⟨⟨vi,vm,ve,cm,ce,aZ⟩,hl⟩:=aa HI
  refine ⟨⟨vi,vm,ve,cm,ce,?_⟩,hl⟩
  have:=aZ.join (E'.st LP _ _ _) ((bp pv #[.pointer (some ⟨b,0,none⟩)] 107).and ((bp (pv+1) #[.pointer (some ⟨w.heap.size,0,none⟩)] 135).and (fC (pv+2) (nL pv b)))) (aZ.rd.up bC) (aA b bC) (by rw[hpv];exact cn)
  exact this.imp (fun h=>⟨⟨h.1.1,h.2⟩,h.1.2⟩)
 have rQ:=Tg (lo:=lo) (b:=b) (g:=w.heap.size) (pv:=pv) (V:=V) (W:=w) IF (fun P w h=>h.2.1) (fun P w h=>h.2.2.1) (fun P w h=>h.2.2.2)
 obtain ⟨N,SZ⟩:∃N:(Nat→Prop)→World→Prop,(fun P w'=>aP p2 #[.string ⟨#[]⟩,.slice none 0 0,.slice none 0 0,.slice none 0 0] 26 P w'∧(aP pv #[.pointer (some ⟨b,0,none⟩)] 107 P w'∧aP (pv+1) #[.pointer (some ⟨w.heap.size,0,none⟩)] 135 P w'∧gL (pv+2) (nL pv b) P w'))=N:=⟨_,rfl⟩
 have HCp:Hid (∀P w',N P w'→aP p2 #[.string ⟨#[]⟩,.slice none 0 0,.slice none 0 0,.slice none 0 0] 26 P w'):=fun P w' h=>by rw[←SZ] at h;exact h.1
 rw[SZ] at S1 rQ IF
 have pV:=aj S1
 have TY:=aj rQ
 have qS:=aj IF
 clear bC cn LP IF S1 rQ HT HI SZ hpv Hg
 obtain ⟨g,hgq⟩:∃g,w.heap.size=g:=⟨_,rfl⟩
 have Hgq:=aj hgq
 rw[hgq] at pV TY ZP ⊢
 clear hgq
 go_wp2
 refine fV (FlJ lo b g p2 pv N V w (gY s)) ?_ (s.ts.length+1) _ _ ⟨fun i=>[undef,u 1,undef,undef,undef,u 5,u 6,u 7,u 8,u 9,u 10,u 11,u 12,u 13,u 14,u 15,u 16,u 17,u 18,u 19,u 20,u 21,u 22,u 23,u 24,u 25,u 26,u 27].getD i undef |> fun v=>if i=16 then .pointer (some ⟨b,0,none⟩) else if i=17 then .map (some (pv+2)) else v,_,s,rfl,aa pV,by omega,rfl⟩
 obtain ⟨R0,A2⟩:∃R0,gY s=R0:=⟨_,rfl⟩
 rw[A2] at HR ⊢
 clear pV A2
 rintro n _ wr ⟨u,x,sc,rfl,hi,hn,hRn⟩
 obtain ⟨n,rfl⟩:∃k,n=k+1:=⟨n-1,by omega⟩
 have HI:=aj hi
 have HRn:=aj hRn
 have Hn:=aj hn
 have HH:=aj (eV hi.rd)
 obtain ⟨t,ht⟩:∃t,sc.here=t:=⟨_,rfl⟩
 have Ht:=aj ht
 rw[ht] at HH
 obtain ⟨kd,sp,tx⟩:=t
 unfold Tk.val at HH
 simp only at HH
 have hf:∀w,(Instr.field 44 (.agg #[.int .i64 kd,.int .i64 sp,.string tx]) 0).run Tryz.prog w=.ok (.int .i64 kd) w:=fun w=>(ns w ⟨kd,sp,tx⟩).1
 clear hi hRn hn ht
 go_wp2_with fail
 refine (aa HH).mono ?_
 rintro e w2 ⟨rfl,bH⟩
 have nJ:=aj ((aa TY).up (aa HI) bH)
 clear bH HI HH
 by_cases hk:kd=5
 ·subst hk
  obtain ⟨⟨vi,vm,ve,cm,ce,aZ⟩,_⟩:=aa nJ
  obtain ⟨ia,ic,q1⟩:=bK (aZ.bx.own 0 _ rfl)
  obtain ⟨ma,mc,q2⟩:=bK (aZ.bx.own 1 _ rfl)
  obtain ⟨ea,ec,q3⟩:=bK (aZ.bx.own 2 _ rfl)
  simp only at q1 q2 q3
  subst q1 q2 q3
  have dr:=aa Na
  have yD:=aa ZP
  obtain ⟨⟨d0,d1,d2,d3⟩,_⟩:=gz aZ.bx.dt
  have xq:=(aa HCp _ _ aZ.nx.1).1
  obtain ⟨⟨y0,y1,y2,y3⟩,yf⟩:=gz xq
  have f0:=yf 0
  have f1:=yf 1
  have f2:=yf 2
  have f3:=yf 3
  obtain ⟨r1,r2⟩:=fE xq (.string x.fW) (.slice ia x.cy.length ic) (.slice ma x.ms.length mc) (.slice ea x.es.length ec)
  have cC:∀(i:Nat) (sl:Slot),(Np x (.slice ia x.cy.length ic) (.slice ma x.ms.length mc) (.slice ea x.es.length ec) cm ce)[i]?=some sl→eQ (fun k=>W0.heap.size≤k) (fP w2 p2 (.string x.fW) (.slice ia x.cy.length ic) (.slice ma x.ms.length mc) (.slice ea x.es.length ec)) sl.t sl.sz sl.v sl.n sl.xs:=fun i sl hi=>by
   have h1:=aZ.bx.own i sl hi
   refine ⟨jy (World.ownsRow.kept h1 r2 ?_) (Nat.zero_le _),fun k hk=>?_⟩
   ·right
    intro e
    have:=(h1.lt p2 e).1
    omega
   ·have:=(h1.lt k hk).1
    omega
  have wb:iV (fun k=>Fz (Np x (.slice ia x.cy.length ic) (.slice ma x.ms.length mc) (.slice ea x.es.length ec) cm ce) g b k∧g≤k) (fun k=>W0.heap.size≤k) w2 (fP w2 p2 (.string x.fW) (.slice ia x.cy.length ic) (.slice ma x.ms.length mc) (.slice ea x.es.length ec)):=fun k hk hl=>⟨by omega,r2.block k hl (by simp;omega)⟩
  have HE:Hid (R (.returned (.agg #[.string x.fW,.slice ia x.cy.length ic,.slice ma x.ms.length mc,.slice ea x.es.length ec])) (fP w2 p2 (.string x.fW) (.slice ia x.cy.length ic) (.slice ma x.ms.length mc) (.slice ea x.es.length ec))):=by
   refine aa HR _ _ ?_
   rw[←aa HRn]
   unfold kb
   rw[if_pos (by rw[aa Ht])]
   exact ⟨_,rfl,⟨_,_,_,cm,ce,rfl,cC 0 _ rfl,cC 1 _ rfl,cS _ _ _ _ _ _ wb aZ.nx.2.1,cC 2 _ rfl,cH _ _ _ _ _ _ wb aZ.nx.2.2⟩,gf aZ.rd r2 (by omega),cW (iM (aa QY) aZ.sv (by have:=(aa Hgq);omega)) r2 (by omega)⟩
  have R1:=aj r1
  unfold fP at HE R1
  clear aZ yf r1 r2 cC wb xq dr yD nJ
  go_wp2
  rw[←hQ]
  exact bodyPost_ret (results_cell_row rfl _ _ p2 26 #[.string x.fW,.slice ia x.cy.length ic,.slice ma x.ms.length mc,.slice ea x.es.length ec] (0,0) _ rfl (aa R1) Tryz.underlying26 rfl oq) rfl (aa HE)
 ·have gO:(kd != 5)=true:=by simp[hk]
  have HE:Hid (∀z,cj Ey QO x sc=z→R0=match z with|.error e=>.error e|.ok (x',s')=>kb (cj Ey QO) n x' s'):=fun z hz=>by
   rw[←aa HRn]
   conv=>lhs;unfold kb
   rw[if_neg (by rw[aa Ht];exact hk),hz]
  have xX:=aj (nN (aa TY) (aa nJ))
  clear hk
  go_wp2_with fail
  refine (aa xX).mono ?_
  intro e w4 kL
  rcases kL.split with ⟨y,hr,rfl,he⟩|⟨x',s',hr,rfl,O0⟩
  ·show Q (Exit.panic _) _ _
   rw[←hQ]
   refine ⟨rfl,aa HR _ _ ?_⟩
   rw[aa HE _ hr]
   exact ⟨rfl,iM (aa QY) he (by have:=aa Na;have:=aa ZP;omega)⟩
  ·have cc:=tN Tj Tl (aa nJ).rd.grown hr
   have NX:=aj (aa HE _ hr)
   have Ng:=aj O0
   clear hr O0 kL xX HE HRn
   go_wp2
   exact ⟨n,rfl,fun i=>[undef,u 1,undef,undef,undef,u 5,u 6,u 7,u 8,u 9,u 10,u 11,u 12,u 13,u 14,u 15,u 16,u 17,.pointer (some ⟨b,0,none⟩),.agg #[.int .i64 kd,.int .i64 sp,.string tx],.int .i64 kd,.bool true,.pointer (some ⟨b,0,none⟩),.map (some (pv+2)),.pointer (some ⟨b,0,none⟩),.func (.func 75) #[.pointer (some ⟨b,0,none⟩)] #[],.tuple #[],u 27].getD i undef,x',s',rfl,aa Ng,by have:=aa Hn;omega,(aa NX).symm⟩
theorem Mc {lo b:Nat}{V W:World}{s:aI} (hv:Env V W b) (h:Rd lo W b s) (hs:Sm s) (hn:s.ts.length≤16384):Calls Tryz.prog 50 #[.pointer (some ⟨b,0,none⟩)] W (CR lo b NF W (iP s)):=by
 have eA:=h.low
 have bH:Below W.heap.size W (W.alloc (.cells #[.string ⟨#[]⟩,.slice none 0 0,.slice none 0 0,.slice none 0 0] 26)):=(zE _ _).alloc (zD _) _
 have fF:(W.alloc (.cells #[.string ⟨#[]⟩,.slice none 0 0,.slice none 0 0,.slice none 0 0] 26)).heap[W.heap.size]?=some (.cells #[.string ⟨#[]⟩,.slice none 0 0,.slice none 0 0,.slice none 0 0] 26 (0,0)):=aC _ _
 have HC:=aj (lI (h.up bH) ⟨#[115,121,110,116,97,120]⟩)
 have bo:∀w,(W.alloc (.cells #[.string ⟨#[]⟩,.slice none 0 0,.slice none 0 0,.slice none 0 0] 26)).grownBy w (some b)→w.heap[W.heap.size]?=some (.cells #[.string ⟨#[]⟩,.slice none 0 0,.slice none 0 0,.slice none 0 0] 26 (0,0)):=fun w hg=>(hg.block W.heap.size (by simp only[zJ];omega) (by simp;omega)).trans fF
 have Qe:=aj bo
 have xV:=aj (aA b bH)
 have HV:=aj hv
 have HS:=aj hs
 have Hn:=aj hn
 have E1:=aj eA
 clear fF bo bH h hv hs hn eA
 refine calls_of_wp Tryz.func50 L6 ?_
 obtain ⟨tl,nU⟩:∃t,Pn=t:=⟨_,rfl⟩
 rw[nU]
 obtain ⟨Q,hQ⟩:∃Q,bodyPost Tryz.prog Tryz.f50 (CR lo b NF W (iP s))=Q:=⟨_,rfl⟩
 rw[hQ]
 unfold L7
 dsimp only[Tryz.f50]
 simp only[List.size_toArray,List.length_cons,List.length_nil,Nat.reduceAdd,Nat.reduceSub,Array.replicate_succ,Array.replicate_zero,List.push_toArray,List.append_toArray,List.nil_append,List.cons_append]
 go_wp2_with fail
 refine (aa HC).mono ?_
 intro e w1 hw
 rcases hw.split with ⟨y,hr,rfl,hg⟩|⟨f,s1,hr,rfl,h1,hg⟩
 ·show Q (Exit.panic _) _ _
  rw[←hQ]
  refine ⟨rfl,?_⟩
  unfold iP
  rw[hr]
  exact ⟨rfl,(aa xV).trans hg⟩
 ·cases f with
  |false =>
   have HW:=aj (ig h1)
   have HF:Hid (iP s=.error (cK s1)):=by show _=_;unfold iP;rw[hr]
   have Hg:=aj hg
   clear hw hr hg h1 HC
   go_wp2_with fail
   refine (aa HW).mono ?_
   rintro e w2 ⟨rfl,hb⟩
   show Q (Exit.panic _) _ _
   rw[←hQ]
   refine ⟨rfl,?_⟩
   rw[aa HF]
   exact ⟨rfl,((aa xV).trans (aa Hg)).trans (aA b hb)⟩
  |true =>
   have HF:Hid (iP s=match aW ⟨#[61]⟩ s1 with|.error e=>.error e|.ok (_,s2)=>match bO fk s2 with|.error e=>.error e|.ok (_,s3)=>match aW ⟨#[59]⟩ s3 with|.error e=>.error e|.ok (_,s4)=>gY s4):=by
    show _=_
    unfold iP
    rw[hr]
   have HN1:=aj (cQ h1 ⟨#[61]⟩)
   have pU:=aj hg
   have Hs1:=aj (dK hr)
   clear hw hr hg h1 HC
   go_wp2_with fail
   refine (aa HN1).mono ?_
   intro e w2 hw
   rcases hw.split with ⟨y,hr,rfl,hg⟩|⟨uu2,s2,hr,rfl,h2,hg⟩
   ·show Q (Exit.panic _) _ _
    rw[←hQ]
    refine ⟨rfl,?_⟩
    rw[aa HF,hr]
    exact ⟨rfl,((aa xV).trans (aa pU)).trans hg⟩
   ·have xj:Hid (iP s=match bO fk s2 with|.error e=>.error e|.ok (_,s3)=>match aW ⟨#[59]⟩ s3 with|.error e=>.error e|.ok (_,s4)=>gY s4):=by show _=_;rw[aa HF,hr]
    have pT:=aj ((aa pU).trans hg)
    have Hs2:=aj ((aa Hs1).trans (bN hr))
    have HM:=aj (ox ((aa HV).step ((aa xV).trans ((aa pU).trans hg))) h2)
    clear hw hr hg h2 HN1 HF pU Hs1
    go_wp2_with fail
    refine (aa HM).mono ?_
    intro e w3 hw
    rcases hw.split with ⟨y,hr,rfl,hg⟩|⟨yy3,s3,hr,rfl,h3,hg⟩
    ·show Q (Exit.panic _) _ _
     rw[←hQ]
     refine ⟨rfl,?_⟩
     rw[aa xj,hr]
     exact ⟨rfl,((aa xV).trans (aa pT)).trans hg⟩
    ·have NW:Hid (iP s=match aW ⟨#[59]⟩ s3 with|.error e=>.error e|.ok (_,s4)=>gY s4):=by show _=_;rw[aa xj,hr]
     have oN:=aj ((aa pT).trans hg)
     have Hs3:=aj ((aa Hs2).trans (lY hr).1.iY)
     have U7:=aj (cQ h3 ⟨#[59]⟩)
     clear hw hr hg h3 HM xj pT Hs2
     go_wp2_with fail
     refine (aa U7).mono ?_
     intro e w4 hw
     rcases hw.split with ⟨y,hr,rfl,hg⟩|⟨uu4,s4,hr,rfl,h4,hg⟩
     ·show Q (Exit.panic _) _ _
      rw[←hQ]
      refine ⟨rfl,?_⟩
      rw[aa NW,hr]
      exact ⟨rfl,((aa xV).trans (aa oN)).trans hg⟩
     ·have Yu:Hid (iP s=gY s4):=by show _=_;rw[aa NW,hr]
      have qF:=(aa oN).trans hg
      have Q0:=aj qF
      have Hs4:=aj ((aa Hs3).trans (bN hr))
      have XT:=aj (aa Qe _ qF)
      have H4:=aj h4
      clear hw hr hg h4 qF U7 NW oN Hs3
      go_wp2
      rw[←nU,←hQ]
      refine L8 (p2:=W.heap.size) (u:=fun i=>[undef,undef,undef,undef,undef,.pointer (some ⟨b,0,none⟩),.bool true,.bool false,undef,undef,.pointer (some ⟨b,0,none⟩),AZ uu2,.pointer (some ⟨b,0,none⟩),.string yy3,.pointer (some ⟨b,0,none⟩),AZ uu4].getD i undef) ((aa HV).step ((aa xV).trans (aa Q0))) (aa H4) ((aa Hs4).sm (aa HS)) (by have:=(aa Hs4).len;have:=aa Hn;omega) ((aa xV).trans (aa Q0)) (aa XT) ⟨(aa E1).2,zD _⟩ ?_
      intro e w5 jD
      rw[aa Yu]
      exact jD
theorem Ip (W:World) (kd sp:Int) (tx:ByteArray):Calls Tryz.prog 73 #[.agg #[.int .i64 kd,.int .i64 sp,.string tx]] W fun e w=>e=.returned (.bool (kd==5))∧Below W.heap.size W w:=by
 have dN:=aj ((zE W.heap.size W).alloc (zD _) (.cells #[.int .i64 kd,.int .i64 sp,.string tx] 44))
 go_enter Tryz.func73,Tryz.ntmps73
 go_wp2
 go_ret
 exact ⟨rfl,aa dN⟩
def kG (ts:List Tk):Nat→Nat→Option Nat
 |0,_=>none
 |n+1,k=>match ts[k]? with
  |none=>none
  |some t=>if (t.kind==5)=true then some k else kG ts n (k+1)
def Iu:Option Nat→Value
 |some k=>.int .i64 (k:Int)
 |none=>.int .i64 (-1)
def IxJ (W:World) (ts:List Tk) (v:Value) (R0:Option Nat) (n:Nat) (a:Act) (w:World):Prop:=∃(u:Nat→Value) (k:Nat),a=⟨#[v,.func (.func 73) #[] #[],u 2,u 3,u 4,u 5,u 6,.int .i64 (ts.length:Int),.int .i64 (k:Int),u 9,u 10,u 11,u 12,u 13,u 14,u 15,u 16,u 17,u 18],[]⟩∧Below W.heap.size W w∧k+n=ts.length+1∧kG ts n k=R0
def IxP (W:World) (R0:Option Nat) (e:Ending) (w:World):Prop:=e=.returned (Iu R0)∧Below W.heap.size W w
theorem D5 {W:World}{v:Value}{ts:List Tk} (h:fK W W.heap.size W.heap.size v ts) (hn:ts.length≤16384):Calls Tryz.prog 72 #[v,.func (.func 73) #[] #[]] W (IxP W (kG ts (ts.length+1) 0)):=by
 obtain ⟨a,c,rfl,hc,hm,h3⟩:=h
 have H3:=aj h3
 have HB:=aj (zE W.heap.size W)
 obtain ⟨R0,A2⟩:∃R0,kG ts (ts.length+1) 0=R0:=⟨_,rfl⟩
 rw[A2]
 have C7:=aj A2
 clear h3 A2
 go_enter Tryz.func72,Tryz.ntmps72
 go_wp2
 refine fV (IxJ W ts (.slice a ts.length c) R0) ?_ (ts.length+1) _ _ ⟨fun i=>[undef,undef,undef,undef,.int .i64 0,undef,.slice a ts.length c].getD i undef,0,rfl,aa HB,by omega,aa C7⟩
 obtain ⟨Q,hQ⟩:∃Q,bodyPost Tryz.prog Tryz.f72 (IxP W R0)=Q:=⟨_,rfl⟩
 rw[hQ]
 clear C7 HB
 rintro n _ wr ⟨u,k,rfl,hb,hk,hR⟩
 have Hb:=aj hb
 have HR:=aj hR
 by_cases cc:k<ts.length
 ·obtain ⟨g,off,rfl,hg,eo,hx⟩:=aa H3 (by omega)
  obtain ⟨⟨kd,sp,tx⟩,ht⟩:∃t,ts[k]?=some t:=⟨_,List.getElem?_eq_getElem cc⟩
  obtain ⟨x1,x2,x3⟩:=hx k _ ht
  simp only at x1 x2 x3
  have y1:wr.cell? ⟨g,off+k*3,none⟩=some (.int .i64 kd):=(hb.cell (p:=⟨g,off+k*3,none⟩) hg).trans x1
  have y2:wr.cell? ⟨g,off+k*3+1,none⟩=some (.int .i64 sp):=(hb.cell (p:=⟨g,off+k*3+1,none⟩) hg).trans x2
  have y3:wr.cell? ⟨g,off+k*3+2,none⟩=some (.string tx):=(hb.cell (p:=⟨g,off+k*3+2,none⟩) hg).trans x3
  obtain ⟨n,rfl⟩:∃m,n=m+1:=⟨n-1,by omega⟩
  have HEq:Hid (R0=if (kd==5)=true then some k else kG ts n (k+1)):=by
   show _=_
   rw[←aa HR]
   conv=>lhs;unfold kG
   rw[ht]
  have Hk:=aj hk
  obtain ⟨L,hL⟩:∃L,ts.length=L:=⟨_,rfl⟩
  have HL:=aj hL
  rw[hL] at cc hn hc ⊢
  have n0:(0:Int)≤(k:Int):=zH _
  have n1:(k:Int)<(L:Int):=by omega
  have hd:decide ((k:Int)<(L:Int))=true:=by simp;omega
  have HC:=aj (Ip wr kd sp tx)
  clear hx ht x1 x2 x3 hb hR hk hL H3 hg eo HR
  go_wp2_with fail
  refine (aa HC).mono ?_
  rintro e w2 ⟨rfl,bH⟩
  have y9:=aj ((aa Hb).trans (bH.mono (aa Hb).size))
  clear bH HC Hb y1 y2 y3
  cases h5:(kd==5) with
  |true =>
   have HE:Hid (Iu R0=.int .i64 (k:Int)):=by show _=_;rw[aa HEq,if_pos h5];rfl
   clear h5
   go_wp2
   rw[←hQ]
   go_ret
   exact ⟨(congrArg Ending.returned (aa HE)).symm,aa y9⟩
  |false =>
   have HE:Hid (kG ts n (k+1)=R0):=by show _=_;rw[aa HEq,if_neg (by rw[h5];simp)]
   have gO:k+1≤20000:=by omega
   clear h5
   go_wp2
   refine ⟨n,rfl,fun i=>[undef,undef,u 2,u 3,u 4,.int .i64 (k:Int),u 6,undef,undef,.bool true,.int .i64 (k:Int),.func (.func 73) #[] #[],.slice (some ⟨g,off,none⟩) L c,.int .i64 (k:Int),.pointer (some ⟨g,off+k*3,none⟩),.agg #[.int .i64 kd,.int .i64 sp,.string tx],.bool false,u 17,.int .i64 ((k:Int)+1)].getD i undef,k+1,?_,aa y9,by have:=aa Hk;omega,aa HE⟩
   rw[aa HL]
   rfl
 ·have hd:decide (k<ts.length)=false:=by simp;omega
  have HE:Hid (Iu R0=.int .i64 (-1)):=by
   show _=_
   rw[←hR]
   cases n with
   |zero=>rfl
   |succ n =>
    unfold kG
    rw[List.getElem?_eq_none (by omega)]
    rfl
  obtain ⟨L,hL⟩:∃L,ts.length=L:=⟨_,rfl⟩
  rw[hL] at cc hn hc hd ⊢
  clear hb hR hk hL H3 HR cc
  go_wp2
  try rw[←hQ]
  go_ret
  exact ⟨(congrArg Ending.returned (aa HE)).symm,aa Hb⟩
theorem CC (ts:List Tk):∀(n j k:Nat),kG ts n j=some k→∃t,ts[k]?=some t∧t.kind=5
 |0,_,_,h=>by cases h
 |n+1,j,k,h=>by
  unfold kG at h
  cases ht:ts[j]? with
  |none=>rw[ht] at h;cases h
  |some t =>
   rw[ht] at h
   simp only at h
   split at h
   ·rename_i hk
    obtain rfl:=zC h
    exact ⟨t,ht,eq_of_beq hk⟩
   ·exact CC ts n (j+1) k h
def fi (ts:List Tk):aI:=match kG ts (ts.length+1) 0 with
 |some k=>⟨ts.take k,ts.getD k Oe,false,0,0⟩
 |none=>match ts.getLast? with
  |some t=>⟨ts,⟨5,wrap64 (t.spot+(t.text.size:Int)),⟨#[]⟩⟩,false,0,0⟩
  |none=>⟨ts,⟨5,0,⟨#[]⟩⟩,false,0,0⟩
def NrP (W:World) (ts:List Tk) (e:Ending) (w:World):Prop:=∃b,e=.returned (.pointer (some ⟨b,0,none⟩))∧W.heap.size≤b∧Below W.heap.size W w∧Rd w.heap.size w b (fi ts)
theorem fK.take {W:World}{lo b k c:Nat}{a:Option Addr}{ts:List Tk} (h:fK W lo b (.slice a ts.length c) ts) (hk:k≤ts.length):fK W lo b (.slice a k c) (ts.take k):=by
 obtain ⟨a0,c0,e,h1,h2,h3⟩:=h
 simp only[Value.slice.injEq] at e
 obtain ⟨rfl,_,rfl⟩:=e
 have hl:(ts.take k).length=k:=by rw[List.length_take];omega
 refine ⟨a,c,by rw[hl],by omega,h2,fun hp=>?_⟩
 obtain ⟨g,off,e,h4,h5,h6⟩:=h3 (by omega)
 refine ⟨g,off,e,h4,h5,fun i t ht=>h6 i t ?_⟩
 rw[List.getElem?_take] at ht
 split at ht
 ·exact ht
 ·cases ht
theorem fK.new {W w:World}{lo b lo' b':Nat}{v:Value}{ts:List Tk} (h:fK W lo b v ts) (hb:Below lo W w) (hl:lo≤lo') (hb':lo≤b'):fK w lo' b' v ts:=by
 obtain ⟨a,c,rfl,h1,h2,h3⟩:=h
 refine ⟨a,c,rfl,h1,h2,fun hp=>?_⟩
 obtain ⟨g,off,rfl,h4,h5,h6⟩:=h3 hp
 have e:∀j,w.cell? ⟨g,j,none⟩=W.cell? ⟨g,j,none⟩:=fun j=>hb.cell (p:=⟨g,j,none⟩) h4
 refine ⟨g,off,rfl,by omega,by omega,fun i t ht=>?_⟩
 rw[e,e,e]
 exact h6 i t ht
theorem zR {W w:World}{v:Value}{ts ts':List Tk}{en:Tk} (h:fK W W.heap.size W.heap.size v ts') (hb:Below W.heap.size W w) (hk:en.kind=5) (hs:fi ts=⟨ts',en,false,0,0⟩):NrP W ts (.returned (.pointer (some ⟨w.heap.size,0,none⟩))) (w.alloc (.cells #[v,.int .i64 en.kind,.int .i64 en.spot,.string en.text,.bool false,.int .i64 0,.int .i64 0] 129)):=by
 have bH:=hb.alloc hb.size (.cells #[v,.int .i64 en.kind,.int .i64 en.spot,.string en.text,.bool false,.int .i64 0,.int .i64 0] 129)
 have bR:=zJ w (.cells #[v,.int .i64 en.kind,.int .i64 en.spot,.string en.text,.bool false,.int .i64 0,.int .i64 0] 129)
 refine ⟨w.heap.size,rfl,hb.size,bH,?_⟩
 rw[hs]
 exact ⟨v,aC _ _,h.new bH (by have:=hb.size;omega) hb.size,⟨by omega,zD _⟩,by simp only;omega,by simp only;omega,hk⟩
theorem xB {W:World}{v:Value}{ts:List Tk} (h:fK W W.heap.size W.heap.size v ts) (hn:ts.length≤16384):Calls Tryz.prog 49 #[v] W (NrP W ts):=by
 have HC:=aj (D5 h hn)
 have HH:=aj h
 obtain ⟨a,c,rfl,hc,hm,h3⟩:=h
 cases ib:kG ts (ts.length+1) 0 with
 |some k =>
  rw[ib] at HC
  obtain ⟨⟨kd,sp,tx⟩,ht,h5⟩:=CC ts _ _ _ ib
  have cc:k<ts.length:=(zB ht).1
  obtain ⟨g,off,rfl,hg,eo,hx⟩:=h3 (by omega)
  obtain ⟨x1,x2,x3⟩:=hx k _ ht
  simp only at x1 x2 x3 h5
  subst h5
  have HS:Hid (fi ts=⟨ts.take k,⟨5,sp,tx⟩,false,0,0⟩):=by
   show _=_
   unfold fi
   rw[ib]
   simp only
   rw[List.getD_eq_getElem?_getD,ht]
   rfl
  have HT:=aj ((aa HH).take (k:=k) (by omega))
  have Hx:=aj (show W.cell? ⟨g,off+k*3,none⟩=_∧W.cell? ⟨g,off+k*3+1,none⟩=_∧W.cell? ⟨g,off+k*3+2,none⟩=_ from ⟨x1,x2,x3⟩)
  have Hg:=aj hg
  have n0:(0:Int)≤(k:Int):=zH _
  obtain ⟨L,hL⟩:∃L,ts.length=L:=⟨_,rfl⟩
  rw[hL] at cc hc hn HC ⊢
  have n1:(k:Int)<(L:Int):=by omega
  have n2:(k:Int)≤(c:Int):=by omega
  have n3:k≤c:=by omega
  clear ib ht hx x1 x2 x3 h3 hg hL HH
  go_enter Tryz.func49,Tryz.ntmps49
  go_wp2_with fail
  refine (aa HC).mono ?_
  rintro e w1 ⟨rfl,bC⟩
  unfold Iu
  obtain ⟨x1,x2,x3⟩:=aa Hx
  have y1:=(bC.cell (p:=⟨g,off+k*3,none⟩) (aa Hg)).trans x1
  have y2:=(bC.cell (p:=⟨g,off+k*3+1,none⟩) (aa Hg)).trans x2
  have y3:=(bC.cell (p:=⟨g,off+k*3+2,none⟩) (aa Hg)).trans x3
  have jU:=aj bC
  clear x1 x2 x3 bC HC Hx
  go_wp2
  go_region
  all_goals (try go_wp2)
  all_goals go_ret
  all_goals exact zR (aa HT) (below_drewN (aa jU) _) rfl (aa HS)
 |none =>
  rw[ib] at HC
  cases rk:ts.getLast? with
  |none =>
   have aaC:ts=[]:=by
    rw[List.getLast?_eq_none_iff] at rk
    exact rk
   subst aaC
   have HS:Hid (fi []=⟨[],⟨5,0,⟨#[]⟩⟩,false,0,0⟩):=rfl
   simp only[List.length_nil] at HC HH ⊢
   clear ib rk h3 hn hc hm
   go_enter Tryz.func49,Tryz.ntmps49
   go_wp2_with fail
   refine (aa HC).mono ?_
   rintro e w1 ⟨rfl,bC⟩
   unfold Iu
   have HB:=aj (bC.alloc bC.size (.cells #[.int .i64 5,.int .i64 0,.string ⟨#[]⟩] 44))
   clear bC HC
   go_wp2
   go_ret
   have:=zR (ts:=[]) (aa HH) (aa HB) (en:=⟨5,0,⟨#[]⟩⟩) rfl (aa HS)
   rw[zJ] at this
   exact this
  |some t =>
   obtain ⟨kd,sp,tx⟩:=t
   obtain ⟨k,hk⟩:∃k,ts.length=k+1:=by
    cases ts with
    |nil=>cases rk
    |cons t r=>exact ⟨r.length,rfl⟩
   have ht:ts[k]?=some ⟨kd,sp,tx⟩:=by
    rw[List.getLast?_eq_getElem?] at rk
    rw[←rk,hk]
    rfl
   obtain ⟨g,off,rfl,hg,eo,hx⟩:=h3 (by omega)
   obtain ⟨x1,x2,x3⟩:=hx k _ ht
   simp only at x1 x2 x3
   have HS:Hid (fi ts=⟨ts,⟨5,wrap64 (sp+(tx.size:Int)),⟨#[]⟩⟩,false,0,0⟩):=by
    show _=_
    unfold fi
    rw[ib,rk]
   have Hx:=aj (show W.cell? ⟨g,off+k*3,none⟩=_∧W.cell? ⟨g,off+k*3+1,none⟩=_∧W.cell? ⟨g,off+k*3+2,none⟩=_ from ⟨x1,x2,x3⟩)
   have Hg:=aj hg
   obtain ⟨L,hL⟩:∃L,ts.length=L:=⟨_,rfl⟩
   have HL:=aj hL
   rw[hL] at hk hc hn HC ⊢
   have n0:(0:Int)≤(k:Int):=zH _
   have n1:(k:Int)<(L:Int):=by omega
   have n2:(L:Int)-1=(k:Int):=by omega
   have n3:0<L:=by omega
   clear ib rk ht hx x1 x2 x3 h3 hg hL hk
   go_enter Tryz.func49,Tryz.ntmps49
   go_wp2_with fail
   refine (aa HC).mono ?_
   rintro e w1 ⟨rfl,bC⟩
   unfold Iu
   obtain ⟨x1,x2,x3⟩:=aa Hx
   have y1:=(bC.cell (p:=⟨g,off+k*3,none⟩) (aa Hg)).trans x1
   have y2:=(bC.cell (p:=⟨g,off+k*3+1,none⟩) (aa Hg)).trans x2
   have y3:=(bC.cell (p:=⟨g,off+k*3+2,none⟩) (aa Hg)).trans x3
   have IB:g<w1.heap.size:=Nat.lt_of_lt_of_le (aa Hg) bC.size
   have O7:=bC
   clear x1 x2 x3 bC HC Hx
   have HB:=aj ((O7.alloc O7.size (.cells #[.int .i64 5,.int .i64 (wrap64 (sp+(tx.size:Int))),.string ⟨#[]⟩] 44)).alloc (by rw[zJ];have:=O7.size;omega) (.cells #[.int .i64 kd,.int .i64 sp,.string tx] 44))
   clear O7
   go_wp2
   go_ret
   have gK:=zR (ts:=ts) (aa HH) (aa HB) (en:=⟨5,wrap64 (sp+(tx.size:Int)),⟨#[]⟩⟩) rfl (aa HS)
   simp only[zJ] at gK
   rw[aa HL] at gK
   exact gK
end Go.Proofs.YtmlphohdcejniaaGreatDoor
