import Derived.Test.YtjophoclfccmcaaGreatDoorPbZ
set_option maxHeartbeats 4000000
set_option maxRecDepth 100000
namespace Go.Proofs.YtjophoclfccmcaaGreatDoor
open Go.RowKit
attribute [local go_sem ↓] Go.wp_at_zero Go.wp_at_succ
def NF (a:Fl) (x:Value) (P:Nat→Prop) (w:World):Prop:=∃vi vm ve cm ce,x=.agg #[.string a.kH,vi,vm,ve]∧jd P w 9 1 vi a.fU.length (dV a.fU)∧jd P w 49 7 vm a.ms.length cm∧eU P w cm a.ms∧jd P w 71 4 ve a.es.length ce∧fH P w ce a.es
def lT (st:kF Fl):Nat→kF Fl
 |0,_,_=>.error (0,0)
 |n+1,x,s=>if s.here.kind=5 then .ok (x,s) else match st x s with
  |.error e=>.error e
  |.ok (x',s')=>lT st n x' s'
noncomputable def iV (s:ax):Except (Int×Int) (Fl×ax):=lT (bV pJ I3) (s.ts.length+1) ⟨⟨#[]⟩,[],[],[]⟩ s
noncomputable def iB (s:ax):Except (Int×Int) (Fl×ax):=match bX 1 ⟨#[115,121,110,116,97,120]⟩ s with
 |.error e=>.error e
 |.ok (false,s1)=>.error (bS s1)
 |.ok (true,s1)=>match au ⟨#[61]⟩ s1 with
  |.error e=>.error e
  |.ok (_,s2)=>match bE dG s2 with
   |.error e=>.error e
   |.ok (_,s3)=>match au ⟨#[59]⟩ s3 with
    |.error e=>.error e
    |.ok (_,s4)=>iV s4
noncomputable def Sf:Code:=match Tryz.f33.body with
 |some (.seq _ (.seq _ (.seq _ (.seq _ (.seq _ t)))))=>t
 |_=>.skip
noncomputable def OA (t:Code):Code:=match Tryz.f33.body with
 |some (.seq a (.seq b (.seq c (.seq d (.seq e _)))))=>.seq a (.seq b (.seq c (.seq d (.seq e t))))
 |_=>.skip
theorem Oy:Tryz.f33.body=some (OA Sf):=rfl
theorem yd:(Tryz.prog.info? 27).map (·.size)=some 4:=by kernel_rfl
def FlJ (lo b g p2 pv:Nat) (N:(Nat→Prop)→World→Prop) (V W:World) (R0:Except (Int×Int) (Fl×ax)) (n:Nat) (a:Act) (w:World):Prop:=∃(u:Nat→Value) (x:Fl) (s:ax),a=⟨#[.pointer (some ⟨b,0,none⟩),u 1,.pointer (some ⟨p2,0,none⟩),.pointer (some ⟨g,0,none⟩),.map (some (pv+2)),u 5,u 6,u 7,u 8,u 9,u 10,u 11,u 12,u 13,u 14,u 15,u 16,u 17,u 18,u 19,u 20,u 21,u 22,u 23,u 24,u 25,u 26,u 27],[]⟩∧Bl lo b g N V W x s w∧s.ts.length<n∧lT (bV pJ I3) n x s=R0
theorem OC {lo b p2:Nat}{V W0 w:World}{s:ax} (hv:Env V w b) (h:Rd lo w b s) (hs:Sm s) (hn:s.ts.length≤16384) (IK:W0.grownBy w (some b)) (xv:w.heap[p2]?=some (.cells #[.string ⟨#[]⟩,.slice none 0 0,.slice none 0 0,.slice none 0 0] 27 (0,0))) (jh:lo≤W0.heap.size∧W0.heap.size≤p2) {u:Nat→Value}{R:Ending→World→Prop} (hR:∀e w,CR lo b NF W0 (iV s) e w→R e w) :
  Sf.wp Tryz.prog (bodyPost Tryz.prog Tryz.f33 R) ⟨#[.pointer (some ⟨b,0,none⟩),u 1,.pointer (some ⟨p2,0,none⟩),u 3,u 4,u 5,u 6,u 7,u 8,u 9,u 10,u 11,u 12,u 13,u 14,u 15,u 16,u 17,u 18,u 19,u 20,u 21,u 22,u 23,u 24,u 25,u 26,u 27],[]⟩ w:=by
 have ue:=(zA xv).1
 have cC:=h.low
 have fC:=(zE w.heap.size w).alloc (zD _) (.cells #[.string ⟨#[]⟩,.slice none 0 0,.slice none 0 0,.slice none 0 0] 27)
 have h4:=h.up fC
 have bd:Ap lo b w.heap.size 27 ⟨#[]⟩ (PQ ⟨⟨#[]⟩,[],[],[]⟩ (.slice none 0 0) (.slice none 0 0) (.slice none 0 0) [] []) (G5 w.heap.size (aX p2 #[.string ⟨#[]⟩,.slice none 0 0,.slice none 0 0,.slice none 0 0] 27) ⟨⟨#[]⟩,[],[],[]⟩ [] []) V w s (w.alloc (.cells #[.string ⟨#[]⟩,.slice none 0 0,.slice none 0 0,.slice none 0 0] 27)):=by
  have pH:∀(i:Nat) (sl:Slot),(PQ ⟨⟨#[]⟩,[],[],[]⟩ (.slice none 0 0) (.slice none 0 0) (.slice none 0 0) [] [])[i]?=some sl→sl.v=.slice none 0 0∧sl.n=0∧sl.xs=[]:=fun i sl hi=>by
   match i,hi with
   |0,hi=>obtain rfl:=zC hi;exact ⟨rfl,rfl,rfl⟩
   |1,hi=>obtain rfl:=zC hi;exact ⟨rfl,rfl,rfl⟩
   |2,hi=>obtain rfl:=zC hi;exact ⟨rfl,rfl,rfl⟩
   |k+3,hi=>cases hi
  have Xm:∀k,k≠b→k≠w.heap.size→Fz (PQ ⟨⟨#[]⟩,[],[],[]⟩ (.slice none 0 0) (.slice none 0 0) (.slice none 0 0) [] []) w.heap.size b k:=fun k q1 q2=>⟨q1,q2,fun i sl hi e=>by
   rw[(pH i sl hi).1] at e
   cases e⟩
  refine ⟨⟨aF _ _,fun i sl hi=>?_,fun i j a c eb ha hc k hk=>?_⟩,⟨⟨(fC.block _ ue).trans xv,Xm _ (by omega) (by omega)⟩,.nil,.nil⟩,h4,by omega,⟨fC.os,fC.tape,fC.output,fC.size,fun k hk _=>fC.block k hk⟩,hv.step (aD b fC)⟩
  ·obtain ⟨q1,q2,q3⟩:=pH i sl hi
   exact ⟨by rw[q2,q3];simp,.inl ⟨q1,q2⟩⟩
  ·rw[(pH i a ha).1] at hk
   cases hk
 have hI:Bl lo b w.heap.size (aX p2 #[.string ⟨#[]⟩,.slice none 0 0,.slice none 0 0,.slice none 0 0] 27) V w ⟨⟨#[]⟩,[],[],[]⟩ s (w.alloc (.cells #[.string ⟨#[]⟩,.slice none 0 0,.slice none 0 0,.slice none 0 0] 27)):=⟨⟨_,_,_,_,_,bd⟩,⟨by simp only[List.length_nil];omega,by simp only[List.length_nil];omega,by simp only[List.length_nil];omega⟩,hs,hn⟩
 have HI:=ab hI
 have HR:=ab hR
 have TV:=ab IK
 have PG:=ab jh
 have Hl2:=ab ue
 have HT:=ab (L1 (w.alloc (.cells #[.string ⟨#[]⟩,.slice none 0 0,.slice none 0 0,.slice none 0 0] 27)) b w.heap.size)
 obtain ⟨g,hg⟩:∃g,w.heap.size=g:=⟨_,rfl⟩
 have Hg:=ab hg
 rw[hg] at HI HT Hl2
 clear hv h hs hn IK xv jh ue cC fC h4 bd hI hR
 obtain ⟨Q,hQ⟩:∃Q,bodyPost Tryz.prog Tryz.f33 R=Q:=⟨_,rfl⟩
 rw[hQ]
 unfold Sf
 dsimp only[Tryz.f33]
 subst hg
 go_wp2_with fail
 refine (aa HT).mono ?_
 rintro e w1 ⟨rfl,bK,fk⟩
 obtain ⟨pv,hpv⟩:∃pv,(w.alloc (.cells #[.string ⟨#[]⟩,.slice none 0 0,.slice none 0 0,.slice none 0 0] 27)).heap.size=pv:=⟨_,rfl⟩
 rw[hpv] at fk ⊢
 have Ol:aP (aX p2 #[.string ⟨#[]⟩,.slice none 0 0,.slice none 0 0,.slice none 0 0] 27):=bz _ _ _
 have KK:aP (fun P w'=>aX p2 #[.string ⟨#[]⟩,.slice none 0 0,.slice none 0 0,.slice none 0 0] 27 P w'∧(aX pv #[.pointer (some ⟨b,0,none⟩)] 74 P w'∧aX (pv+1) #[.pointer (some ⟨w.heap.size,0,none⟩)] 108 P w'∧iH (pv+2) (px pv b) P w')):=Ol.and ((bz _ _ _).and ((bz _ _ _).and (fX _ _)))
 have hI1:Bl lo b w.heap.size (fun P w'=>aX p2 #[.string ⟨#[]⟩,.slice none 0 0,.slice none 0 0,.slice none 0 0] 27 P w'∧(aX pv #[.pointer (some ⟨b,0,none⟩)] 74 P w'∧aX (pv+1) #[.pointer (some ⟨w.heap.size,0,none⟩)] 108 P w'∧iH (pv+2) (px pv b) P w')) V w ⟨⟨#[]⟩,[],[],[]⟩ s w1:=by
  obtain ⟨⟨vi,vm,ve,cm,ce,bd⟩,hl⟩:=aa HI
  refine ⟨⟨vi,vm,ve,cm,ce,?_⟩,hl⟩
  have:=bd.join (G5.st Ol _ _ _) ((bz pv #[.pointer (some ⟨b,0,none⟩)] 74).and ((bz (pv+1) #[.pointer (some ⟨w.heap.size,0,none⟩)] 108).and (fX (pv+2) (px pv b)))) (bd.rd.up bK) (aD b bK) (by rw[hpv];exact fk)
  exact this.imp (fun h=>⟨⟨h.1.1,h.2⟩,h.1.2⟩)
 have ub:=VM (lo:=lo) (b:=b) (g:=w.heap.size) (pv:=pv) (V:=V) (W:=w) KK (fun P w h=>h.2.1) (fun P w h=>h.2.2.1) (fun P w h=>h.2.2.2)
 obtain ⟨N,hNq⟩:∃N:(Nat→Prop)→World→Prop,(fun P w'=>aX p2 #[.string ⟨#[]⟩,.slice none 0 0,.slice none 0 0,.slice none 0 0] 27 P w'∧(aX pv #[.pointer (some ⟨b,0,none⟩)] 74 P w'∧aX (pv+1) #[.pointer (some ⟨w.heap.size,0,none⟩)] 108 P w'∧iH (pv+2) (px pv b) P w'))=N:=⟨_,rfl⟩
 have HCp:Hid (∀P w',N P w'→aX p2 #[.string ⟨#[]⟩,.slice none 0 0,.slice none 0 0,.slice none 0 0] 27 P w'):=fun P w' h=>by rw[←hNq] at h;exact h.1
 rw[hNq] at hI1 ub KK
 have Js:=ab hI1
 have Wr:=ab ub
 have CQ:=ab KK
 clear bK fk Ol KK hI1 ub HT HI hNq hpv Hg
 obtain ⟨g,hgq⟩:∃g,w.heap.size=g:=⟨_,rfl⟩
 have Hgq:=ab hgq
 rw[hgq] at Js Wr Hl2 ⊢
 clear hgq
 go_wp2
 refine gO (FlJ lo b g p2 pv N V w (iV s)) ?_ (s.ts.length+1) _ _ ⟨fun i=>[undef,u 1,undef,undef,undef,u 5,u 6,u 7,u 8,u 9,u 10,u 11,u 12,u 13,u 14,u 15,u 16,u 17,u 18,u 19,u 20,u 21,u 22,u 23,u 24,u 25,u 26,u 27].getD i undef |> fun v=>if i=16 then .pointer (some ⟨b,0,none⟩) else if i=17 then .map (some (pv+2)) else v,_,s,rfl,aa Js,by omega,rfl⟩
 obtain ⟨R0,CM⟩:∃R0,iV s=R0:=⟨_,rfl⟩
 rw[CM] at HR ⊢
 clear Js CM
 rintro n _ wr ⟨u,x,sc,rfl,hi,hn,hRn⟩
 obtain ⟨n,rfl⟩:∃k,n=k+1:=⟨n-1,by omega⟩
 have HI:=ab hi
 have HRn:=ab hRn
 have Hn:=ab hn
 have HH:=ab (fF hi.rd)
 obtain ⟨t,ht⟩:∃t,sc.here=t:=⟨_,rfl⟩
 have Ht:=ab ht
 rw[ht] at HH
 obtain ⟨kd,sp,tx⟩:=t
 unfold Tk.val at HH
 simp only at HH
 have hf:∀w,(Instr.field 38 (.agg #[.int .i64 kd,.int .i64 sp,.string tx]) 0).run Tryz.prog w=.ok (.int .i64 kd) w:=fun w=>(mG w ⟨kd,sp,tx⟩).1
 clear hi hRn hn ht
 go_wp2_with fail
 refine (aa HH).mono ?_
 rintro e w2 ⟨rfl,bo⟩
 have LN:=ab ((aa Wr).up (aa HI) bo)
 clear bo HI HH
 by_cases hk:kd=5
 ·subst hk
  obtain ⟨⟨vi,vm,ve,cm,ce,bd⟩,_⟩:=aa LN
  obtain ⟨ia,ic,q1⟩:=bZ (bd.bx.own 0 _ rfl)
  obtain ⟨ma,mc,q2⟩:=bZ (bd.bx.own 1 _ rfl)
  obtain ⟨ea,ec,q3⟩:=bZ (bd.bx.own 2 _ rfl)
  simp only at q1 q2 q3
  subst q1 q2 q3
  have jh:=aa PG
  have ue:=aa Hl2
  obtain ⟨⟨d0,d1,d2,d3⟩,_⟩:=ck bd.bx.lz
  have xv:=(aa HCp _ _ bd.nx.1).1
  obtain ⟨⟨y0,y1,y2,y3⟩,yf⟩:=ck xv
  have f0:=yf 0
  have f1:=yf 1
  have f2:=yf 2
  have f3:=yf 3
  obtain ⟨r1,r2⟩:=mS xv (.string x.kH) (.slice ia x.fU.length ic) (.slice ma x.ms.length mc) (.slice ea x.es.length ec)
  have cW:∀(i:Nat) (sl:Slot),(PQ x (.slice ia x.fU.length ic) (.slice ma x.ms.length mc) (.slice ea x.es.length ec) cm ce)[i]?=some sl→jd (fun k=>W0.heap.size≤k) (fT w2 p2 (.string x.kH) (.slice ia x.fU.length ic) (.slice ma x.ms.length mc) (.slice ea x.es.length ec)) sl.t sl.sz sl.v sl.n sl.xs:=fun i sl hi=>by
   have h1:=bd.bx.own i sl hi
   refine ⟨kq (World.ownsRow.kept h1 r2 ?_) (Nat.zero_le _),fun k hk=>?_⟩
   ·right
    intro e
    have:=(h1.lt p2 e).1
    omega
   ·have:=(h1.lt k hk).1
    omega
  have yO:wW (fun k=>Fz (PQ x (.slice ia x.fU.length ic) (.slice ma x.ms.length mc) (.slice ea x.es.length ec) cm ce) g b k∧g≤k) (fun k=>W0.heap.size≤k) w2 (fT w2 p2 (.string x.kH) (.slice ia x.fU.length ic) (.slice ma x.ms.length mc) (.slice ea x.es.length ec)):=fun k hk hl=>⟨by omega,r2.block k hl (by simp;omega)⟩
  have HE:Hid (R (.returned (.agg #[.string x.kH,.slice ia x.fU.length ic,.slice ma x.ms.length mc,.slice ea x.es.length ec])) (fT w2 p2 (.string x.kH) (.slice ia x.fU.length ic) (.slice ma x.ms.length mc) (.slice ea x.es.length ec))):=by
   refine aa HR _ _ ?_
   rw[←aa HRn]
   unfold lT
   rw[if_pos (by rw[aa Ht])]
   exact ⟨_,rfl,⟨_,_,_,cm,ce,rfl,cW 0 _ rfl,cW 1 _ rfl,fb _ _ _ _ _ _ yO bd.nx.2.1,cW 2 _ rfl,eP _ _ _ _ _ _ yO bd.nx.2.2⟩,hZ bd.rd r2 (by omega),dO (jR (aa TV) bd.sv (by have:=(aa Hgq);omega)) r2 (by omega)⟩
  have R1:=ab r1
  unfold fT at HE R1
  clear bd yf r1 r2 cW yO xv jh ue LN
  go_wp2
  rw[←hQ]
  exact bodyPost_ret (results_cell_row rfl _ _ p2 27 #[.string x.kH,.slice ia x.fU.length ic,.slice ma x.ms.length mc,.slice ea x.es.length ec] (0,0) _ rfl (aa R1) Tryz.underlying27 rfl yd) rfl (aa HE)
 ·have LC:(kd != 5)=true:=by simp[hk]
  have HE:Hid (∀z,bV pJ I3 x sc=z→R0=match z with|.error e=>.error e|.ok (x',s')=>lT (bV pJ I3) n x' s'):=fun z hz=>by
   rw[←aa HRn]
   conv=>lhs;unfold lT
   rw[if_neg (by rw[aa Ht];exact hk),hz]
  have SZ:=ab (py (aa Wr) (aa LN))
  clear hk
  go_wp2_with fail
  refine (aa SZ).mono ?_
  intro e w4 ig
  rcases ig.split with ⟨y,hr,rfl,he⟩|⟨x',s',hr,rfl,RN⟩
  ·show Q (Exit.panic _) _ _
   rw[←hQ]
   refine ⟨rfl,aa HR _ _ ?_⟩
   rw[aa HE _ hr]
   exact ⟨rfl,jR (aa TV) he (by have:=aa PG;have:=aa Hl2;omega)⟩
  ·have dr:=wZ OB VT (aa LN).rd.grown hr
   have lM:=ab (aa HE _ hr)
   have HI4:=ab RN
   clear hr RN ig SZ HE HRn
   go_wp2
   exact ⟨n,rfl,fun i=>[undef,u 1,undef,undef,undef,u 5,u 6,u 7,u 8,u 9,u 10,u 11,u 12,u 13,u 14,u 15,u 16,u 17,.pointer (some ⟨b,0,none⟩),.agg #[.int .i64 kd,.int .i64 sp,.string tx],.int .i64 kd,.bool true,.pointer (some ⟨b,0,none⟩),.map (some (pv+2)),.pointer (some ⟨b,0,none⟩),.func (.func 58) #[.pointer (some ⟨b,0,none⟩)] #[],.tuple #[],u 27].getD i undef,x',s',rfl,aa HI4,by have:=aa Hn;omega,(aa lM).symm⟩
theorem OF {lo b:Nat}{V W:World}{s:ax} (hv:Env V W b) (h:Rd lo W b s) (hs:Sm s) (hn:s.ts.length≤16384):Calls Tryz.prog 33 #[.pointer (some ⟨b,0,none⟩)] W (CR lo b NF W (iB s)):=by
 have cC:=h.low
 have bo:Below W.heap.size W (W.alloc (.cells #[.string ⟨#[]⟩,.slice none 0 0,.slice none 0 0,.slice none 0 0] 27)):=(zE _ _).alloc (zD _) _
 have ew:(W.alloc (.cells #[.string ⟨#[]⟩,.slice none 0 0,.slice none 0 0,.slice none 0 0] 27)).heap[W.heap.size]?=some (.cells #[.string ⟨#[]⟩,.slice none 0 0,.slice none 0 0,.slice none 0 0] 27 (0,0)):=aF _ _
 have HC:=ab (mQ (h.up bo) ⟨#[115,121,110,116,97,120]⟩)
 have qF:∀w,(W.alloc (.cells #[.string ⟨#[]⟩,.slice none 0 0,.slice none 0 0,.slice none 0 0] 27)).grownBy w (some b)→w.heap[W.heap.size]?=some (.cells #[.string ⟨#[]⟩,.slice none 0 0,.slice none 0 0,.slice none 0 0] 27 (0,0)):=fun w hg=>(hg.block W.heap.size (by simp only[zJ];omega) (by simp;omega)).trans ew
 have S0:=ab qF
 have CI:=ab (aD b bo)
 have HV:=ab hv
 have HS:=ab hs
 have Hn:=ab hn
 have G0:=ab cC
 clear ew qF bo h hv hs hn cC
 refine calls_of_wp Tryz.func33 Oy ?_
 obtain ⟨tl,pG⟩:∃t,Sf=t:=⟨_,rfl⟩
 rw[pG]
 obtain ⟨Q,hQ⟩:∃Q,bodyPost Tryz.prog Tryz.f33 (CR lo b NF W (iB s))=Q:=⟨_,rfl⟩
 rw[hQ]
 unfold OA
 dsimp only[Tryz.f33]
 simp only[List.size_toArray,List.length_cons,List.length_nil,Nat.reduceAdd,Nat.reduceSub,Array.replicate_succ,Array.replicate_zero,List.push_toArray,List.append_toArray,List.nil_append,List.cons_append]
 go_wp2_with fail
 refine (aa HC).mono ?_
 intro e w1 hw
 rcases hw.split with ⟨y,hr,rfl,hg⟩|⟨f,s1,hr,rfl,h1,hg⟩
 ·show Q (Exit.panic _) _ _
  rw[←hQ]
  refine ⟨rfl,?_⟩
  unfold iB
  rw[hr]
  exact ⟨rfl,(aa CI).trans hg⟩
 ·cases f with
  |false =>
   have HW:=ab (jl h1)
   have HF:Hid (iB s=.error (bS s1)):=by show _=_;unfold iB;rw[hr]
   have Hg:=ab hg
   clear hw hr hg h1 HC
   go_wp2_with fail
   refine (aa HW).mono ?_
   rintro e w2 ⟨rfl,hb⟩
   show Q (Exit.panic _) _ _
   rw[←hQ]
   refine ⟨rfl,?_⟩
   rw[aa HF]
   exact ⟨rfl,((aa CI).trans (aa Hg)).trans (aD b hb)⟩
  |true =>
   have HF:Hid (iB s=match au ⟨#[61]⟩ s1 with|.error e=>.error e|.ok (_,s2)=>match bE dG s2 with|.error e=>.error e|.ok (_,s3)=>match au ⟨#[59]⟩ s3 with|.error e=>.error e|.ok (_,s4)=>iV s4):=by
    show _=_
    unfold iB
    rw[hr]
   have HN1:=ab (dx h1 ⟨#[61]⟩)
   have rQ:=ab hg
   have Hs1:=ab (dU hr)
   clear hw hr hg h1 HC
   go_wp2_with fail
   refine (aa HN1).mono ?_
   intro e w2 hw
   rcases hw.split with ⟨y,hr,rfl,hg⟩|⟨uu2,s2,hr,rfl,h2,hg⟩
   ·show Q (Exit.panic _) _ _
    rw[←hQ]
    refine ⟨rfl,?_⟩
    rw[aa HF,hr]
    exact ⟨rfl,((aa CI).trans (aa rQ)).trans hg⟩
   ·have nz:Hid (iB s=match bE dG s2 with|.error e=>.error e|.ok (_,s3)=>match au ⟨#[59]⟩ s3 with|.error e=>.error e|.ok (_,s4)=>iV s4):=by show _=_;rw[aa HF,hr]
    have rP:=ab ((aa rQ).trans hg)
    have Hs2:=ab ((aa Hs1).trans (bB hr))
    have HM:=ab (pY ((aa HV).step ((aa CI).trans ((aa rQ).trans hg))) h2)
    clear hw hr hg h2 HN1 HF rQ Hs1
    go_wp2_with fail
    refine (aa HM).mono ?_
    intro e w3 hw
    rcases hw.split with ⟨y,hr,rfl,hg⟩|⟨yy3,s3,hr,rfl,h3,hg⟩
    ·show Q (Exit.panic _) _ _
     rw[←hQ]
     refine ⟨rfl,?_⟩
     rw[aa nz,hr]
     exact ⟨rfl,((aa CI).trans (aa rP)).trans hg⟩
    ·have HF3:Hid (iB s=match au ⟨#[59]⟩ s3 with|.error e=>.error e|.ok (_,s4)=>iV s4):=by show _=_;rw[aa nz,hr]
     have qI:=ab ((aa rP).trans hg)
     have Hs3:=ab ((aa Hs2).trans (jt hr).1.gu)
     have EW:=ab (dx h3 ⟨#[59]⟩)
     clear hw hr hg h3 HM nz rP Hs2
     go_wp2_with fail
     refine (aa EW).mono ?_
     intro e w4 hw
     rcases hw.split with ⟨y,hr,rfl,hg⟩|⟨uu4,s4,hr,rfl,h4,hg⟩
     ·show Q (Exit.panic _) _ _
      rw[←hQ]
      refine ⟨rfl,?_⟩
      rw[aa HF3,hr]
      exact ⟨rfl,((aa CI).trans (aa qI)).trans hg⟩
     ·have HF4:Hid (iB s=iV s4):=by show _=_;rw[aa HF3,hr]
      have kZ:=(aa qI).trans hg
      have TX:=ab kZ
      have Hs4:=ab ((aa Hs3).trans (bB hr))
      have Hp2:=ab (aa S0 _ kZ)
      have H4:=ab h4
      clear hw hr hg h4 kZ EW HF3 qI Hs3
      go_wp2
      rw[←pG,←hQ]
      refine OC (p2:=W.heap.size) (u:=fun i=>[undef,undef,undef,undef,undef,.pointer (some ⟨b,0,none⟩),.bool true,.bool false,undef,undef,.pointer (some ⟨b,0,none⟩),tV uu2,.pointer (some ⟨b,0,none⟩),.string yy3,.pointer (some ⟨b,0,none⟩),tV uu4].getD i undef) ((aa HV).step ((aa CI).trans (aa TX))) (aa H4) ((aa Hs4).sm (aa HS)) (by have:=(aa Hs4).len;have:=aa Hn;omega) ((aa CI).trans (aa TX)) (aa Hp2) ⟨(aa G0).2,zD _⟩ ?_
      intro e w5 ky
      rw[aa HF4]
      exact ky
theorem Kp (W:World) (kd sp:Int) (tx:ByteArray):Calls Tryz.prog 56 #[.agg #[.int .i64 kd,.int .i64 sp,.string tx]] W fun e w=>e=.returned (.bool (kd==5))∧Below W.heap.size W w:=by
 have eC:=ab ((zE W.heap.size W).alloc (zD _) (.cells #[.int .i64 kd,.int .i64 sp,.string tx] 38))
 go_enter Tryz.func56,Tryz.ntmps56
 go_wp2
 go_ret
 exact ⟨rfl,aa eC⟩
def gD (ts:List Tk):Nat→Nat→Option Nat
 |0,_=>none
 |n+1,k=>match ts[k]? with
  |none=>none
  |some t=>if (t.kind==5)=true then some k else gD ts n (k+1)
def Ks:Option Nat→Value
 |some k=>.int .i64 (k:Int)
 |none=>.int .i64 (-1)
def IxJ (W:World) (ts:List Tk) (v:Value) (R0:Option Nat) (n:Nat) (a:Act) (w:World):Prop:=∃(u:Nat→Value) (k:Nat),a=⟨#[v,.func (.func 56) #[] #[],u 2,u 3,u 4,u 5,u 6,.int .i64 (ts.length:Int),.int .i64 (k:Int),u 9,u 10,u 11,u 12,u 13,u 14,u 15,u 16,u 17,u 18],[]⟩∧Below W.heap.size W w∧k+n=ts.length+1∧gD ts n k=R0
def IxP (W:World) (R0:Option Nat) (e:Ending) (w:World):Prop:=e=.returned (Ks R0)∧Below W.heap.size W w
theorem F3 {W:World}{v:Value}{ts:List Tk} (h:fj W W.heap.size W.heap.size v ts) (hn:ts.length≤16384):Calls Tryz.prog 55 #[v,.func (.func 56) #[] #[]] W (IxP W (gD ts (ts.length+1) 0)):=by
 obtain ⟨a,c,rfl,hc,hm,h3⟩:=h
 have H3:=ab h3
 have HB:=ab (zE W.heap.size W)
 obtain ⟨R0,CM⟩:∃R0,gD ts (ts.length+1) 0=R0:=⟨_,rfl⟩
 rw[CM]
 have zy:=ab CM
 clear h3 CM
 go_enter Tryz.func55,Tryz.ntmps55
 go_wp2
 refine gO (IxJ W ts (.slice a ts.length c) R0) ?_ (ts.length+1) _ _ ⟨fun i=>[undef,undef,undef,undef,.int .i64 0,undef,.slice a ts.length c].getD i undef,0,rfl,aa HB,by omega,aa zy⟩
 obtain ⟨Q,hQ⟩:∃Q,bodyPost Tryz.prog Tryz.f55 (IxP W R0)=Q:=⟨_,rfl⟩
 rw[hQ]
 clear zy HB
 rintro n _ wr ⟨u,k,rfl,hb,hk,hR⟩
 have Hb:=ab hb
 have HR:=ab hR
 by_cases dr:k<ts.length
 ·obtain ⟨g,off,rfl,hg,eb,hx⟩:=aa H3 (by omega)
  obtain ⟨⟨kd,sp,tx⟩,ht⟩:∃t,ts[k]?=some t:=⟨_,List.getElem?_eq_getElem dr⟩
  obtain ⟨x1,x2,x3⟩:=hx k _ ht
  simp only at x1 x2 x3
  have y1:wr.cell? ⟨g,off+k*3,none⟩=some (.int .i64 kd):=(hb.cell (p:=⟨g,off+k*3,none⟩) hg).trans x1
  have y2:wr.cell? ⟨g,off+k*3+1,none⟩=some (.int .i64 sp):=(hb.cell (p:=⟨g,off+k*3+1,none⟩) hg).trans x2
  have y3:wr.cell? ⟨g,off+k*3+2,none⟩=some (.string tx):=(hb.cell (p:=⟨g,off+k*3+2,none⟩) hg).trans x3
  obtain ⟨n,rfl⟩:∃m,n=m+1:=⟨n-1,by omega⟩
  have HEq:Hid (R0=if (kd==5)=true then some k else gD ts n (k+1)):=by
   show _=_
   rw[←aa HR]
   conv=>lhs;unfold gD
   rw[ht]
  have Hk:=ab hk
  obtain ⟨L,hL⟩:∃L,ts.length=L:=⟨_,rfl⟩
  have HL:=ab hL
  rw[hL] at dr hn hc ⊢
  have n0:(0:Int)≤(k:Int):=zH _
  have n1:(k:Int)<(L:Int):=by omega
  have hd:decide ((k:Int)<(L:Int))=true:=by simp;omega
  have HC:=ab (Kp wr kd sp tx)
  clear hx ht x1 x2 x3 hb hR hk hL H3 hg eb HR
  go_wp2_with fail
  refine (aa HC).mono ?_
  rintro e w2 ⟨rfl,bo⟩
  have qA:=ab ((aa Hb).trans (bo.mono (aa Hb).size))
  clear bo HC Hb y1 y2 y3
  cases h5:(kd==5) with
  |true =>
   have HE:Hid (Ks R0=.int .i64 (k:Int)):=by show _=_;rw[aa HEq,if_pos h5];rfl
   clear h5
   go_wp2
   rw[←hQ]
   go_ret
   exact ⟨(congrArg Ending.returned (aa HE)).symm,aa qA⟩
  |false =>
   have HE:Hid (gD ts n (k+1)=R0):=by show _=_;rw[aa HEq,if_neg (by rw[h5];simp)]
   have LC:k+1≤20000:=by omega
   clear h5
   go_wp2
   refine ⟨n,rfl,fun i=>[undef,undef,u 2,u 3,u 4,.int .i64 (k:Int),u 6,undef,undef,.bool true,.int .i64 (k:Int),.func (.func 56) #[] #[],.slice (some ⟨g,off,none⟩) L c,.int .i64 (k:Int),.pointer (some ⟨g,off+k*3,none⟩),.agg #[.int .i64 kd,.int .i64 sp,.string tx],.bool false,u 17,.int .i64 ((k:Int)+1)].getD i undef,k+1,?_,aa qA,by have:=aa Hk;omega,aa HE⟩
   rw[aa HL]
   rfl
 ·have hd:decide (k<ts.length)=false:=by simp;omega
  have HE:Hid (Ks R0=.int .i64 (-1)):=by
   show _=_
   rw[←hR]
   cases n with
   |zero=>rfl
   |succ n =>
    unfold gD
    rw[List.getElem?_eq_none (by omega)]
    rfl
  obtain ⟨L,hL⟩:∃L,ts.length=L:=⟨_,rfl⟩
  rw[hL] at dr hn hc hd ⊢
  clear hb hR hk hL H3 HR dr
  go_wp2
  try rw[←hQ]
  go_ret
  exact ⟨(congrArg Ending.returned (aa HE)).symm,aa Hb⟩
theorem Em (ts:List Tk):∀(n j k:Nat),gD ts n j=some k→∃t,ts[k]?=some t∧t.kind=5
 |0,_,_,h=>by cases h
 |n+1,j,k,h=>by
  unfold gD at h
  cases ht:ts[j]? with
  |none=>rw[ht] at h;cases h
  |some t =>
   rw[ht] at h
   simp only at h
   split at h
   ·rename_i hk
    obtain rfl:=zC h
    exact ⟨t,ht,eq_of_beq hk⟩
   ·exact Em ts n (j+1) k h
def cJ (ts:List Tk):ax:=match gD ts (ts.length+1) 0 with
 |some k=>⟨ts.take k,ts.getD k L8,false,0,0⟩
 |none=>match ts.getLast? with
  |some t=>⟨ts,⟨5,wrap64 (t.spot+(t.text.size:Int)),⟨#[]⟩⟩,false,0,0⟩
  |none=>⟨ts,⟨5,0,⟨#[]⟩⟩,false,0,0⟩
def NrP (W:World) (ts:List Tk) (e:Ending) (w:World):Prop:=∃b,e=.returned (.pointer (some ⟨b,0,none⟩))∧W.heap.size≤b∧Below W.heap.size W w∧Rd w.heap.size w b (cJ ts)
theorem fj.take {W:World}{lo b k c:Nat}{a:Option Addr}{ts:List Tk} (h:fj W lo b (.slice a ts.length c) ts) (hk:k≤ts.length):fj W lo b (.slice a k c) (ts.take k):=by
 obtain ⟨a0,c0,e,h1,h2,h3⟩:=h
 simp only[Value.slice.injEq] at e
 obtain ⟨rfl,_,rfl⟩:=e
 have hl:(ts.take k).length=k:=by rw[List.length_take];omega
 refine ⟨a,c,by rw[hl],by omega,h2,fun hp=>?_⟩
 obtain ⟨g,off,e,h4,h5,h6⟩:=h3 (by omega)
 refine ⟨g,off,e,h4,h5,fun i t ht=>h6 i t ?_⟩
 rw[List.getElem?_take] at ht
 split at ht
 ·exact ht
 ·cases ht
theorem fj.new {W w:World}{lo b lo' b':Nat}{v:Value}{ts:List Tk} (h:fj W lo b v ts) (hb:Below lo W w) (hl:lo≤lo') (hb':lo≤b'):fj w lo' b' v ts:=by
 obtain ⟨a,c,rfl,h1,h2,h3⟩:=h
 refine ⟨a,c,rfl,h1,h2,fun hp=>?_⟩
 obtain ⟨g,off,rfl,h4,h5,h6⟩:=h3 hp
 have e:∀j,w.cell? ⟨g,j,none⟩=W.cell? ⟨g,j,none⟩:=fun j=>hb.cell (p:=⟨g,j,none⟩) h4
 refine ⟨g,off,rfl,by omega,by omega,fun i t ht=>?_⟩
 rw[e,e,e]
 exact h6 i t ht
theorem BK {W w:World}{v:Value}{ts ts':List Tk}{en:Tk} (h:fj W W.heap.size W.heap.size v ts') (hb:Below W.heap.size W w) (hk:en.kind=5) (hs:cJ ts=⟨ts',en,false,0,0⟩):NrP W ts (.returned (.pointer (some ⟨w.heap.size,0,none⟩))) (w.alloc (.cells #[v,.int .i64 en.kind,.int .i64 en.spot,.string en.text,.bool false,.int .i64 0,.int .i64 0] 102)):=by
 have bo:=hb.alloc hb.size (.cells #[v,.int .i64 en.kind,.int .i64 en.spot,.string en.text,.bool false,.int .i64 0,.int .i64 0] 102)
 have cl:=zJ w (.cells #[v,.int .i64 en.kind,.int .i64 en.spot,.string en.text,.bool false,.int .i64 0,.int .i64 0] 102)
 refine ⟨w.heap.size,rfl,hb.size,bo,?_⟩
 rw[hs]
 exact ⟨v,aF _ _,h.new bo (by have:=hb.size;omega) hb.size,⟨by omega,zD _⟩,by simp only;omega,by simp only;omega,hk⟩
theorem Aa {W:World}{v:Value}{ts:List Tk} (h:fj W W.heap.size W.heap.size v ts) (hn:ts.length≤16384):Calls Tryz.prog 32 #[v] W (NrP W ts):=by
 have HC:=ab (F3 h hn)
 have HH:=ab h
 obtain ⟨a,c,rfl,hc,hm,h3⟩:=h
 cases bF:gD ts (ts.length+1) 0 with
 |some k =>
  rw[bF] at HC
  obtain ⟨⟨kd,sp,tx⟩,ht,h5⟩:=Em ts _ _ _ bF
  have dr:k<ts.length:=(zB ht).1
  obtain ⟨g,off,rfl,hg,eb,hx⟩:=h3 (by omega)
  obtain ⟨x1,x2,x3⟩:=hx k _ ht
  simp only at x1 x2 x3 h5
  subst h5
  have HS:Hid (cJ ts=⟨ts.take k,⟨5,sp,tx⟩,false,0,0⟩):=by
   show _=_
   unfold cJ
   rw[bF]
   simp only
   rw[List.getD_eq_getElem?_getD,ht]
   rfl
  have HT:=ab ((aa HH).take (k:=k) (by omega))
  have Hx:=ab (show W.cell? ⟨g,off+k*3,none⟩=_∧W.cell? ⟨g,off+k*3+1,none⟩=_∧W.cell? ⟨g,off+k*3+2,none⟩=_ from ⟨x1,x2,x3⟩)
  have Hg:=ab hg
  have n0:(0:Int)≤(k:Int):=zH _
  obtain ⟨L,hL⟩:∃L,ts.length=L:=⟨_,rfl⟩
  rw[hL] at dr hc hn HC ⊢
  have n1:(k:Int)<(L:Int):=by omega
  have n2:(k:Int)≤(c:Int):=by omega
  have n3:k≤c:=by omega
  clear bF ht hx x1 x2 x3 h3 hg hL HH
  go_enter Tryz.func32,Tryz.ntmps32
  go_wp2_with fail
  refine (aa HC).mono ?_
  rintro e w1 ⟨rfl,bK⟩
  unfold Ks
  obtain ⟨x1,x2,x3⟩:=aa Hx
  have y1:=(bK.cell (p:=⟨g,off+k*3,none⟩) (aa Hg)).trans x1
  have y2:=(bK.cell (p:=⟨g,off+k*3+1,none⟩) (aa Hg)).trans x2
  have y3:=(bK.cell (p:=⟨g,off+k*3+2,none⟩) (aa Hg)).trans x3
  have kl:=ab bK
  clear x1 x2 x3 bK HC Hx
  go_wp2
  go_region
  all_goals (try go_wp2)
  all_goals go_ret
  all_goals exact BK (aa HT) (below_drewN (aa kl) _) rfl (aa HS)
 |none =>
  rw[bF] at HC
  cases tG:ts.getLast? with
  |none =>
   have abq:ts=[]:=by
    rw[List.getLast?_eq_none_iff] at tG
    exact tG
   subst abq
   have HS:Hid (cJ []=⟨[],⟨5,0,⟨#[]⟩⟩,false,0,0⟩):=rfl
   simp only[List.length_nil] at HC HH ⊢
   clear bF tG h3 hn hc hm
   go_enter Tryz.func32,Tryz.ntmps32
   go_wp2_with fail
   refine (aa HC).mono ?_
   rintro e w1 ⟨rfl,bK⟩
   unfold Ks
   have HB:=ab (bK.alloc bK.size (.cells #[.int .i64 5,.int .i64 0,.string ⟨#[]⟩] 38))
   clear bK HC
   go_wp2
   go_ret
   have:=BK (ts:=[]) (aa HH) (aa HB) (en:=⟨5,0,⟨#[]⟩⟩) rfl (aa HS)
   rw[zJ] at this
   exact this
  |some t =>
   obtain ⟨kd,sp,tx⟩:=t
   obtain ⟨k,hk⟩:∃k,ts.length=k+1:=by
    cases ts with
    |nil=>cases tG
    |cons t r=>exact ⟨r.length,rfl⟩
   have ht:ts[k]?=some ⟨kd,sp,tx⟩:=by
    rw[List.getLast?_eq_getElem?] at tG
    rw[←tG,hk]
    rfl
   obtain ⟨g,off,rfl,hg,eb,hx⟩:=h3 (by omega)
   obtain ⟨x1,x2,x3⟩:=hx k _ ht
   simp only at x1 x2 x3
   have HS:Hid (cJ ts=⟨ts,⟨5,wrap64 (sp+(tx.size:Int)),⟨#[]⟩⟩,false,0,0⟩):=by
    show _=_
    unfold cJ
    rw[bF,tG]
   have Hx:=ab (show W.cell? ⟨g,off+k*3,none⟩=_∧W.cell? ⟨g,off+k*3+1,none⟩=_∧W.cell? ⟨g,off+k*3+2,none⟩=_ from ⟨x1,x2,x3⟩)
   have Hg:=ab hg
   obtain ⟨L,hL⟩:∃L,ts.length=L:=⟨_,rfl⟩
   have HL:=ab hL
   rw[hL] at hk hc hn HC ⊢
   have n0:(0:Int)≤(k:Int):=zH _
   have n1:(k:Int)<(L:Int):=by omega
   have n2:(L:Int)-1=(k:Int):=by omega
   have n3:0<L:=by omega
   clear bF tG ht hx x1 x2 x3 h3 hg hL hk
   go_enter Tryz.func32,Tryz.ntmps32
   go_wp2_with fail
   refine (aa HC).mono ?_
   rintro e w1 ⟨rfl,bK⟩
   unfold Ks
   obtain ⟨x1,x2,x3⟩:=aa Hx
   have y1:=(bK.cell (p:=⟨g,off+k*3,none⟩) (aa Hg)).trans x1
   have y2:=(bK.cell (p:=⟨g,off+k*3+1,none⟩) (aa Hg)).trans x2
   have y3:=(bK.cell (p:=⟨g,off+k*3+2,none⟩) (aa Hg)).trans x3
   have IJ:g<w1.heap.size:=Nat.lt_of_lt_of_le (aa Hg) bK.size
   have RW:=bK
   clear x1 x2 x3 bK HC Hx
   have HB:=ab ((RW.alloc RW.size (.cells #[.int .i64 5,.int .i64 (wrap64 (sp+(tx.size:Int))),.string ⟨#[]⟩] 38)).alloc (by rw[zJ];have:=RW.size;omega) (.cells #[.int .i64 kd,.int .i64 sp,.string tx] 38))
   clear RW
   go_wp2
   go_ret
   have nd:=BK (ts:=ts) (aa HH) (aa HB) (en:=⟨5,wrap64 (sp+(tx.size:Int)),⟨#[]⟩⟩) rfl (aa HS)
   simp only[zJ] at nd
   rw[aa HL] at nd
   exact nd
end Go.Proofs.YtjophoclfccmcaaGreatDoor
