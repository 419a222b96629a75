import Derived.Test.YtmlphohdcejniaaGreatDoorPbZ
set_option maxHeartbeats 4000000
set_option maxRecDepth 100000
namespace Go.Proofs.YtmlphohdcejniaaGreatDoor
open Go.RowKit
attribute [local go_sem ↓] Go.wp_at_zero Go.wp_at_succ
def NF (a:Fl) (x:Value) (P:Nat→Prop) (w:World):Prop:=∃vi vm ve cm ce,x=.agg #[.string a.eI,vi,vm,ve]∧fm P w 9 1 vi a.bM.length (bW a.bM)∧fm P w 64 7 vm a.ms.length cm∧cU P w cm a.ms∧fm P w 68 4 ve a.es.length ce∧eS P w ce a.es
def gT (st:fQ Fl):Nat→fQ Fl
 |0,_,_=>.error (0,0)
 |n+1,x,s=>if s.here.kind=5 then .ok (x,s) else match st x s with
  |.error e=>.error e
  |.ok (x',s')=>gT st n x' s'
noncomputable def gL (s:aD):Except (Int×Int) (Fl×aD):=gT (bT Az J9) (s.ts.length+1) ⟨⟨#[]⟩,[],[],[]⟩ s
noncomputable def hZ (s:aD):Except (Int×Int) (Fl×aD):=match cx 1 ⟨#[115,121,110,116,97,120]⟩ s with
 |.error e=>.error e
 |.ok (false,s1)=>.error (cH s1)
 |.ok (true,s1)=>match aV ⟨#[61]⟩ s1 with
  |.error e=>.error e
  |.ok (_,s2)=>match bO fJ s2 with
   |.error e=>.error e
   |.ok (_,s3)=>match aV ⟨#[59]⟩ s3 with
    |.error e=>.error e
    |.ok (_,s4)=>gL s4
noncomputable def Rm:Code:=match Tryz.f50.body with
 |some (.seq _ (.seq _ (.seq _ (.seq _ (.seq _ t)))))=>t
 |_=>.skip
noncomputable def NT (t:Code):Code:=match Tryz.f50.body with
 |some (.seq a (.seq b (.seq c (.seq d (.seq e _)))))=>.seq a (.seq b (.seq c (.seq d (.seq e t))))
 |_=>.skip
theorem NS:Tryz.f50.body=some (NT Rm):=rfl
theorem py:(Tryz.prog.info? 26).map (·.size)=some 4:=by kernel_rfl
def FlJ (lo b g p2 pv:Nat) (N:(Nat→Prop)→World→Prop) (V W:World) (R0:Except (Int×Int) (Fl×aD)) (n:Nat) (a:Act) (w:World):Prop:=∃(u:Nat→Value) (x:Fl) (s:aD),a=⟨#[.pointer (some ⟨b,0,none⟩),u 1,.pointer (some ⟨p2,0,none⟩),.pointer (some ⟨g,0,none⟩),.map (some (pv+2)),u 5,u 6,u 7,u 8,u 9,u 10,u 11,u 12,u 13,u 14,u 15,u 16,u 17,u 18,u 19,u 20,u 21,u 22,u 23,u 24,u 25,u 26,u 27],[]⟩∧A0 lo b g N V W x s w∧s.ts.length<n∧gT (bT Az J9) n x s=R0
theorem NU {lo b p2:Nat}{V W0 w:World}{s:aD} (hv:Env V w b) (h:Rd lo w b s) (hs:Sm s) (hn:s.ts.length≤16384) (vH:W0.grownBy w (some b)) (yK:w.heap[p2]?=some (.cells #[.string ⟨#[]⟩,.slice none 0 0,.slice none 0 0,.slice none 0 0] 26 (0,0))) (dI:lo≤W0.heap.size∧W0.heap.size≤p2) {u:Nat→Value}{R:Ending→World→Prop} (hR:∀e w,CR lo b NF W0 (gL s) e w→R e w) :
  Rm.wp Tryz.prog (bodyPost Tryz.prog Tryz.f50 R) ⟨#[.pointer (some ⟨b,0,none⟩),u 1,.pointer (some ⟨p2,0,none⟩),u 3,u 4,u 5,u 6,u 7,u 8,u 9,u 10,u 11,u 12,u 13,u 14,u 15,u 16,u 17,u 18,u 19,u 20,u 21,u 22,u 23,u 24,u 25,u 26,u 27],[]⟩ w:=by
 have yL:=(zA yK).1
 have eQ:=h.low
 have eV:=(zE w.heap.size w).alloc (zD _) (.cells #[.string ⟨#[]⟩,.slice none 0 0,.slice none 0 0,.slice none 0 0] 26)
 have h4:=h.up eV
 have aZ:Ap lo b w.heap.size 26 ⟨#[]⟩ (Pe ⟨⟨#[]⟩,[],[],[]⟩ (.slice none 0 0) (.slice none 0 0) (.slice none 0 0) [] []) (GI w.heap.size (aP p2 #[.string ⟨#[]⟩,.slice none 0 0,.slice none 0 0,.slice none 0 0] 26) ⟨⟨#[]⟩,[],[],[]⟩ [] []) V w s (w.alloc (.cells #[.string ⟨#[]⟩,.slice none 0 0,.slice none 0 0,.slice none 0 0] 26)):=by
  have rb:∀(i:Nat) (sl:Slot),(Pe ⟨⟨#[]⟩,[],[],[]⟩ (.slice none 0 0) (.slice none 0 0) (.slice none 0 0) [] [])[i]?=some sl→sl.v=.slice none 0 0∧sl.n=0∧sl.xs=[]:=fun i sl hi=>by
   match i,hi with
   |0,hi=>obtain rfl:=zC hi;exact ⟨rfl,rfl,rfl⟩
   |1,hi=>obtain rfl:=zC hi;exact ⟨rfl,rfl,rfl⟩
   |2,hi=>obtain rfl:=zC hi;exact ⟨rfl,rfl,rfl⟩
   |k+3,hi=>cases hi
  have Nk:∀k,k≠b→k≠w.heap.size→Fz (Pe ⟨⟨#[]⟩,[],[],[]⟩ (.slice none 0 0) (.slice none 0 0) (.slice none 0 0) [] []) w.heap.size b k:=fun k q1 q2=>⟨q1,q2,fun i sl hi e=>by
   rw[(rb i sl hi).1] at e
   cases e⟩
  refine ⟨⟨aC _ _,fun i sl hi=>?_,fun i j a c eo ha hc k hk=>?_⟩,⟨⟨(eV.block _ yL).trans yK,Nk _ (by omega) (by omega)⟩,.nil,.nil⟩,h4,by omega,⟨eV.os,eV.tape,eV.output,eV.size,fun k hk _=>eV.block k hk⟩,hv.step (aA b eV)⟩
  ·obtain ⟨q1,q2,q3⟩:=rb i sl hi
   exact ⟨by rw[q2,q3];simp,.inl ⟨q1,q2⟩⟩
  ·rw[(rb i a ha).1] at hk
   cases hk
 have hI:A0 lo b w.heap.size (aP p2 #[.string ⟨#[]⟩,.slice none 0 0,.slice none 0 0,.slice none 0 0] 26) V w ⟨⟨#[]⟩,[],[],[]⟩ s (w.alloc (.cells #[.string ⟨#[]⟩,.slice none 0 0,.slice none 0 0,.slice none 0 0] 26)):=⟨⟨_,_,_,_,_,aZ⟩,⟨by simp only[List.length_nil];omega,by simp only[List.length_nil];omega,by simp only[List.length_nil];omega⟩,hs,hn⟩
 have HI:=aj hI
 have HR:=aj hR
 have S':=aj vH
 have O0:=aj dI
 have Hl2:=aj yL
 have HT:=aj (Lj (w.alloc (.cells #[.string ⟨#[]⟩,.slice none 0 0,.slice none 0 0,.slice none 0 0] 26)) b w.heap.size)
 obtain ⟨g,hg⟩:∃g,w.heap.size=g:=⟨_,rfl⟩
 have Hg:=aj hg
 rw[hg] at HI HT Hl2
 clear hv h hs hn vH yK dI yL eQ eV h4 aZ hI hR
 obtain ⟨Q,hQ⟩:∃Q,bodyPost Tryz.prog Tryz.f50 R=Q:=⟨_,rfl⟩
 rw[hQ]
 unfold Rm
 dsimp only[Tryz.f50]
 subst hg
 go_wp2_with fail
 refine (aa HT).mono ?_
 rintro e w1 ⟨rfl,bF,cB⟩
 obtain ⟨pv,hpv⟩:∃pv,(w.alloc (.cells #[.string ⟨#[]⟩,.slice none 0 0,.slice none 0 0,.slice none 0 0] 26)).heap.size=pv:=⟨_,rfl⟩
 rw[hpv] at cB ⊢
 have Nz:aK (aP p2 #[.string ⟨#[]⟩,.slice none 0 0,.slice none 0 0,.slice none 0 0] 26):=bp _ _ _
 have J5:aK (fun P w'=>aP p2 #[.string ⟨#[]⟩,.slice none 0 0,.slice none 0 0,.slice none 0 0] 26 P w'∧(aP pv #[.pointer (some ⟨b,0,none⟩)] 107 P w'∧aP (pv+1) #[.pointer (some ⟨w.heap.size,0,none⟩)] 135 P w'∧ij (pv+2) (oQ pv b) P w')):=Nz.and ((bp _ _ _).and ((bp _ _ _).and (fT _ _)))
 have U2:A0 lo b w.heap.size (fun P w'=>aP p2 #[.string ⟨#[]⟩,.slice none 0 0,.slice none 0 0,.slice none 0 0] 26 P w'∧(aP pv #[.pointer (some ⟨b,0,none⟩)] 107 P w'∧aP (pv+1) #[.pointer (some ⟨w.heap.size,0,none⟩)] 135 P w'∧ij (pv+2) (oQ pv b) P w')) V w ⟨⟨#[]⟩,[],[],[]⟩ s w1:=by
  obtain ⟨⟨vi,vm,ve,cm,ce,aZ⟩,hl⟩:=aa HI
  refine ⟨⟨vi,vm,ve,cm,ce,?_⟩,hl⟩
  have:=aZ.join (GI.st Nz _ _ _) ((bp pv #[.pointer (some ⟨b,0,none⟩)] 107).and ((bp (pv+1) #[.pointer (some ⟨w.heap.size,0,none⟩)] 135).and (fT (pv+2) (oQ pv b)))) (aZ.rd.up bF) (aA b bF) (by rw[hpv];exact cB)
  exact this.imp (fun h=>⟨⟨h.1.1,h.2⟩,h.1.2⟩)
 have tq:=Vg (lo:=lo) (b:=b) (g:=w.heap.size) (pv:=pv) (V:=V) (W:=w) J5 (fun P w h=>h.2.1) (fun P w h=>h.2.2.1) (fun P w h=>h.2.2.2)
 obtain ⟨N,U0⟩:∃N:(Nat→Prop)→World→Prop,(fun P w'=>aP p2 #[.string ⟨#[]⟩,.slice none 0 0,.slice none 0 0,.slice none 0 0] 26 P w'∧(aP pv #[.pointer (some ⟨b,0,none⟩)] 107 P w'∧aP (pv+1) #[.pointer (some ⟨w.heap.size,0,none⟩)] 135 P w'∧ij (pv+2) (oQ pv b) P w'))=N:=⟨_,rfl⟩
 have HCp:Hid (∀P w',N P w'→aP p2 #[.string ⟨#[]⟩,.slice none 0 0,.slice none 0 0,.slice none 0 0] 26 P w'):=fun P w' h=>by rw[←U0] at h;exact h.1
 rw[U0] at U2 tq J5
 have qU:=aj U2
 have V0:=aj tq
 have sy:=aj J5
 clear bF cB Nz J5 U2 tq HT HI U0 hpv Hg
 obtain ⟨g,hgq⟩:∃g,w.heap.size=g:=⟨_,rfl⟩
 have Hgq:=aj hgq
 rw[hgq] at qU V0 Hl2 ⊢
 clear hgq
 go_wp2
 refine gG (FlJ lo b g p2 pv N V w (gL s)) ?_ (s.ts.length+1) _ _ ⟨fun i=>[undef,u 1,undef,undef,undef,u 5,u 6,u 7,u 8,u 9,u 10,u 11,u 12,u 13,u 14,u 15,u 16,u 17,u 18,u 19,u 20,u 21,u 22,u 23,u 24,u 25,u 26,u 27].getD i undef |> fun v=>if i=16 then .pointer (some ⟨b,0,none⟩) else if i=17 then .map (some (pv+2)) else v,_,s,rfl,aa qU,by omega,rfl⟩
 obtain ⟨R0,CA⟩:∃R0,gL s=R0:=⟨_,rfl⟩
 rw[CA] at HR ⊢
 clear qU CA
 rintro n _ wr ⟨u,x,sc,rfl,hi,hn,hRn⟩
 obtain ⟨n,rfl⟩:∃k,n=k+1:=⟨n-1,by omega⟩
 have HI:=aj hi
 have HRn:=aj hRn
 have Hn:=aj hn
 have HH:=aj (fu hi.rd)
 obtain ⟨t,ht⟩:∃t,sc.here=t:=⟨_,rfl⟩
 have Ht:=aj ht
 rw[ht] at HH
 obtain ⟨kd,sp,tx⟩:=t
 unfold Tk.val at HH
 simp only at HH
 have hf:∀w,(Instr.field 44 (.agg #[.int .i64 kd,.int .i64 sp,.string tx]) 0).run Tryz.prog w=.ok (.int .i64 kd) w:=fun w=>(ou w ⟨kd,sp,tx⟩).1
 clear hi hRn hn ht
 go_wp2_with fail
 refine (aa HH).mono ?_
 rintro e w2 ⟨rfl,bJ⟩
 have oO:=aj ((aa V0).up (aa HI) bJ)
 clear bJ HI HH
 by_cases hk:kd=5
 ·subst hk
  obtain ⟨⟨vi,vm,ve,cm,ce,aZ⟩,_⟩:=aa oO
  obtain ⟨ia,ic,q1⟩:=bN (aZ.bx.own 0 _ rfl)
  obtain ⟨ma,mc,q2⟩:=bN (aZ.bx.own 1 _ rfl)
  obtain ⟨ea,ec,q3⟩:=bN (aZ.bx.own 2 _ rfl)
  simp only at q1 q2 q3
  subst q1 q2 q3
  have dI:=aa O0
  have yL:=aa Hl2
  obtain ⟨⟨d0,d1,d2,d3⟩,_⟩:=gV aZ.bx.dJ
  have yK:=(aa HCp _ _ aZ.nx.1).1
  obtain ⟨⟨y0,y1,y2,y3⟩,yf⟩:=gV yK
  have f0:=yf 0
  have f1:=yf 1
  have f2:=yf 2
  have f3:=yf 3
  obtain ⟨r1,r2⟩:=fW yK (.string x.eI) (.slice ia x.bM.length ic) (.slice ma x.ms.length mc) (.slice ea x.es.length ec)
  have cP:∀(i:Nat) (sl:Slot),(Pe x (.slice ia x.bM.length ic) (.slice ma x.ms.length mc) (.slice ea x.es.length ec) cm ce)[i]?=some sl→fm (fun k=>W0.heap.size≤k) (gp w2 p2 (.string x.eI) (.slice ia x.bM.length ic) (.slice ma x.ms.length mc) (.slice ea x.es.length ec)) sl.t sl.sz sl.v sl.n sl.xs:=fun i sl hi=>by
   have h1:=aZ.bx.own i sl hi
   refine ⟨jZ (World.ownsRow.kept h1 r2 ?_) (Nat.zero_le _),fun k hk=>?_⟩
   ·right
    intro e
    have:=(h1.lt p2 e).1
    omega
   ·have:=(h1.lt k hk).1
    omega
  have xO:jx (fun k=>Fz (Pe x (.slice ia x.bM.length ic) (.slice ma x.ms.length mc) (.slice ea x.es.length ec) cm ce) g b k∧g≤k) (fun k=>W0.heap.size≤k) w2 (gp w2 p2 (.string x.eI) (.slice ia x.bM.length ic) (.slice ma x.ms.length mc) (.slice ea x.es.length ec)):=fun k hk hl=>⟨by omega,r2.block k hl (by simp;omega)⟩
  have HE:Hid (R (.returned (.agg #[.string x.eI,.slice ia x.bM.length ic,.slice ma x.ms.length mc,.slice ea x.es.length ec])) (gp w2 p2 (.string x.eI) (.slice ia x.bM.length ic) (.slice ma x.ms.length mc) (.slice ea x.es.length ec))):=by
   refine aa HR _ _ ?_
   rw[←aa HRn]
   unfold gT
   rw[if_pos (by rw[aa Ht])]
   exact ⟨_,rfl,⟨_,_,_,cm,ce,rfl,cP 0 _ rfl,cP 1 _ rfl,df _ _ _ _ _ _ xO aZ.nx.2.1,cP 2 _ rfl,cT _ _ _ _ _ _ xO aZ.nx.2.2⟩,gP aZ.rd r2 (by omega),dp (js (aa S') aZ.sv (by have:=(aa Hgq);omega)) r2 (by omega)⟩
  have R1:=aj r1
  unfold gp at HE R1
  clear aZ yf r1 r2 cP xO yK dI yL oO
  go_wp2
  rw[←hQ]
  exact bodyPost_ret (results_cell_row rfl _ _ p2 26 #[.string x.eI,.slice ia x.bM.length ic,.slice ma x.ms.length mc,.slice ea x.es.length ec] (0,0) _ rfl (aa R1) Tryz.underlying26 rfl py) rfl (aa HE)
 ·have iq:(kd != 5)=true:=by simp[hk]
  have HE:Hid (∀z,bT Az J9 x sc=z→R0=match z with|.error e=>.error e|.ok (x',s')=>gT (bT Az J9) n x' s'):=fun z hz=>by
   rw[←aa HRn]
   conv=>lhs;unfold gT
   rw[if_neg (by rw[aa Ht];exact hk),hz]
  have zu:=aj (oR (aa V0) (aa oO))
  clear hk
  go_wp2_with fail
  refine (aa zu).mono ?_
  intro e w4 lG
  rcases lG.split with ⟨y,hr,rfl,he⟩|⟨x',s',hr,rfl,QU⟩
  ·show Q (Exit.panic _) _ _
   rw[←hQ]
   refine ⟨rfl,aa HR _ _ ?_⟩
   rw[aa HE _ hr]
   exact ⟨rfl,js (aa S') he (by have:=aa O0;have:=aa Hl2;omega)⟩
  ·have cw:=vt Vj Vk (aa oO).rd.grown hr
   have PJ:=aj (aa HE _ hr)
   have O7:=aj QU
   clear hr QU lG zu HE HRn
   go_wp2
   exact ⟨n,rfl,fun i=>[undef,u 1,undef,undef,undef,u 5,u 6,u 7,u 8,u 9,u 10,u 11,u 12,u 13,u 14,u 15,u 16,u 17,.pointer (some ⟨b,0,none⟩),.agg #[.int .i64 kd,.int .i64 sp,.string tx],.int .i64 kd,.bool true,.pointer (some ⟨b,0,none⟩),.map (some (pv+2)),.pointer (some ⟨b,0,none⟩),.func (.func 75) #[.pointer (some ⟨b,0,none⟩)] #[],.tuple #[],u 27].getD i undef,x',s',rfl,aa O7,by have:=aa Hn;omega,(aa PJ).symm⟩
theorem NZ {lo b:Nat}{V W:World}{s:aD} (hv:Env V W b) (h:Rd lo W b s) (hs:Sm s) (hn:s.ts.length≤16384):Calls Tryz.prog 50 #[.pointer (some ⟨b,0,none⟩)] W (CR lo b NF W (hZ s)):=by
 have eQ:=h.low
 have bJ:Below W.heap.size W (W.alloc (.cells #[.string ⟨#[]⟩,.slice none 0 0,.slice none 0 0,.slice none 0 0] 26)):=(zE _ _).alloc (zD _) _
 have fO:(W.alloc (.cells #[.string ⟨#[]⟩,.slice none 0 0,.slice none 0 0,.slice none 0 0] 26)).heap[W.heap.size]?=some (.cells #[.string ⟨#[]⟩,.slice none 0 0,.slice none 0 0,.slice none 0 0] 26 (0,0)):=aC _ _
 have HC:=aj (mC (h.up bJ) ⟨#[115,121,110,116,97,120]⟩)
 have bo:∀w,(W.alloc (.cells #[.string ⟨#[]⟩,.slice none 0 0,.slice none 0 0,.slice none 0 0] 26)).grownBy w (some b)→w.heap[W.heap.size]?=some (.cells #[.string ⟨#[]⟩,.slice none 0 0,.slice none 0 0,.slice none 0 0] 26 (0,0)):=fun w hg=>(hg.block W.heap.size (by simp only[zJ];omega) (by simp;omega)).trans fO
 have Sl:=aj bo
 have zs:=aj (aA b bJ)
 have HV:=aj hv
 have HS:=aj hs
 have Hn:=aj hn
 have Gy:=aj eQ
 clear fO bo bJ h hv hs hn eQ
 refine calls_of_wp Tryz.func50 NS ?_
 obtain ⟨tl,oX⟩:∃t,Rm=t:=⟨_,rfl⟩
 rw[oX]
 obtain ⟨Q,hQ⟩:∃Q,bodyPost Tryz.prog Tryz.f50 (CR lo b NF W (hZ s))=Q:=⟨_,rfl⟩
 rw[hQ]
 unfold NT
 dsimp only[Tryz.f50]
 simp only[List.size_toArray,List.length_cons,List.length_nil,Nat.reduceAdd,Nat.reduceSub,Array.replicate_succ,Array.replicate_zero,List.push_toArray,List.append_toArray,List.nil_append,List.cons_append]
 go_wp2_with fail
 refine (aa HC).mono ?_
 intro e w1 hw
 rcases hw.split with ⟨y,hr,rfl,hg⟩|⟨f,s1,hr,rfl,h1,hg⟩
 ·show Q (Exit.panic _) _ _
  rw[←hQ]
  refine ⟨rfl,?_⟩
  unfold hZ
  rw[hr]
  exact ⟨rfl,(aa zs).trans hg⟩
 ·cases f with
  |false =>
   have HW:=aj (iM h1)
   have HF:Hid (hZ s=.error (cH s1)):=by show _=_;unfold hZ;rw[hr]
   have Hg:=aj hg
   clear hw hr hg h1 HC
   go_wp2_with fail
   refine (aa HW).mono ?_
   rintro e w2 ⟨rfl,hb⟩
   show Q (Exit.panic _) _ _
   rw[←hQ]
   refine ⟨rfl,?_⟩
   rw[aa HF]
   exact ⟨rfl,((aa zs).trans (aa Hg)).trans (aA b hb)⟩
  |true =>
   have HF:Hid (hZ s=match aV ⟨#[61]⟩ s1 with|.error e=>.error e|.ok (_,s2)=>match bO fJ s2 with|.error e=>.error e|.ok (_,s3)=>match aV ⟨#[59]⟩ s3 with|.error e=>.error e|.ok (_,s4)=>gL s4):=by
    show _=_
    unfold hZ
    rw[hr]
   have HN1:=aj (de h1 ⟨#[61]⟩)
   have qT:=aj hg
   have Hs1:=aj (dV hr)
   clear hw hr hg h1 HC
   go_wp2_with fail
   refine (aa HN1).mono ?_
   intro e w2 hw
   rcases hw.split with ⟨y,hr,rfl,hg⟩|⟨uu2,s2,hr,rfl,h2,hg⟩
   ·show Q (Exit.panic _) _ _
    rw[←hQ]
    refine ⟨rfl,?_⟩
    rw[aa HF,hr]
    exact ⟨rfl,((aa zs).trans (aa qT)).trans hg⟩
   ·have yE:Hid (hZ s=match bO fJ s2 with|.error e=>.error e|.ok (_,s3)=>match aV ⟨#[59]⟩ s3 with|.error e=>.error e|.ok (_,s4)=>gL s4):=by show _=_;rw[aa HF,hr]
    have qS:=aj ((aa qT).trans hg)
    have Hs2:=aj ((aa Hs1).trans (bR hr))
    have HM:=aj (pD ((aa HV).step ((aa zs).trans ((aa qT).trans hg))) h2)
    clear hw hr hg h2 HN1 HF qT Hs1
    go_wp2_with fail
    refine (aa HM).mono ?_
    intro e w3 hw
    rcases hw.split with ⟨y,hr,rfl,hg⟩|⟨yy3,s3,hr,rfl,h3,hg⟩
    ·show Q (Exit.panic _) _ _
     rw[←hQ]
     refine ⟨rfl,?_⟩
     rw[aa yE,hr]
     exact ⟨rfl,((aa zs).trans (aa qS)).trans hg⟩
    ·have PI:Hid (hZ s=match aV ⟨#[59]⟩ s3 with|.error e=>.error e|.ok (_,s4)=>gL s4):=by show _=_;rw[aa yE,hr]
     have pU:=aj ((aa qS).trans hg)
     have Hs3:=aj ((aa Hs2).trans (mS hr).1.jA)
     have HN4:=aj (de h3 ⟨#[59]⟩)
     clear hw hr hg h3 HM yE qS Hs2
     go_wp2_with fail
     refine (aa HN4).mono ?_
     intro e w4 hw
     rcases hw.split with ⟨y,hr,rfl,hg⟩|⟨uu4,s4,hr,rfl,h4,hg⟩
     ·show Q (Exit.panic _) _ _
      rw[←hQ]
      refine ⟨rfl,?_⟩
      rw[aa PI,hr]
      exact ⟨rfl,((aa zs).trans (aa pU)).trans hg⟩
     ·have HF4:Hid (hZ s=gL s4):=by show _=_;rw[aa PI,hr]
      have rY:=(aa pU).trans hg
      have Tb:=aj rY
      have Hs4:=aj ((aa Hs3).trans (bR hr))
      have ZT:=aj (aa Sl _ rY)
      have H4:=aj h4
      clear hw hr hg h4 rY HN4 PI pU Hs3
      go_wp2
      rw[←oX,←hQ]
      refine NU (p2:=W.heap.size) (u:=fun i=>[undef,undef,undef,undef,undef,.pointer (some ⟨b,0,none⟩),.bool true,.bool false,undef,undef,.pointer (some ⟨b,0,none⟩),Cw uu2,.pointer (some ⟨b,0,none⟩),.string yy3,.pointer (some ⟨b,0,none⟩),Cw uu4].getD i undef) ((aa HV).step ((aa zs).trans (aa Tb))) (aa H4) ((aa Hs4).sm (aa HS)) (by have:=(aa Hs4).len;have:=aa Hn;omega) ((aa zs).trans (aa Tb)) (aa ZT) ⟨(aa Gy).2,zD _⟩ ?_
      intro e w5 j7
      rw[aa HF4]
      exact j7
theorem JR (W:World) (kd sp:Int) (tx:ByteArray):Calls Tryz.prog 73 #[.agg #[.int .i64 kd,.int .i64 sp,.string tx]] W fun e w=>e=.returned (.bool (kd==5))∧Below W.heap.size W w:=by
 have dZ:=aj ((zE W.heap.size W).alloc (zD _) (.cells #[.int .i64 kd,.int .i64 sp,.string tx] 44))
 go_enter Tryz.func73,Tryz.ntmps73
 go_wp2
 go_ret
 exact ⟨rfl,aa dZ⟩
def lA (ts:List Tk):Nat→Nat→Option Nat
 |0,_=>none
 |n+1,k=>match ts[k]? with
  |none=>none
  |some t=>if (t.kind==5)=true then some k else lA ts n (k+1)
def JV:Option Nat→Value
 |some k=>.int .i64 (k:Int)
 |none=>.int .i64 (-1)
def IxJ (W:World) (ts:List Tk) (v:Value) (R0:Option Nat) (n:Nat) (a:Act) (w:World):Prop:=∃(u:Nat→Value) (k:Nat),a=⟨#[v,.func (.func 73) #[] #[],u 2,u 3,u 4,u 5,u 6,.int .i64 (ts.length:Int),.int .i64 (k:Int),u 9,u 10,u 11,u 12,u 13,u 14,u 15,u 16,u 17,u 18],[]⟩∧Below W.heap.size W w∧k+n=ts.length+1∧lA ts n k=R0
def IxP (W:World) (R0:Option Nat) (e:Ending) (w:World):Prop:=e=.returned (JV R0)∧Below W.heap.size W w
theorem FG {W:World}{v:Value}{ts:List Tk} (h:gd W W.heap.size W.heap.size v ts) (hn:ts.length≤16384):Calls Tryz.prog 72 #[v,.func (.func 73) #[] #[]] W (IxP W (lA ts (ts.length+1) 0)):=by
 obtain ⟨a,c,rfl,hc,hm,h3⟩:=h
 have H3:=aj h3
 have HB:=aj (zE W.heap.size W)
 obtain ⟨R0,CA⟩:∃R0,lA ts (ts.length+1) 0=R0:=⟨_,rfl⟩
 rw[CA]
 have EF:=aj CA
 clear h3 CA
 go_enter Tryz.func72,Tryz.ntmps72
 go_wp2
 refine gG (IxJ W ts (.slice a ts.length c) R0) ?_ (ts.length+1) _ _ ⟨fun i=>[undef,undef,undef,undef,.int .i64 0,undef,.slice a ts.length c].getD i undef,0,rfl,aa HB,by omega,aa EF⟩
 obtain ⟨Q,hQ⟩:∃Q,bodyPost Tryz.prog Tryz.f72 (IxP W R0)=Q:=⟨_,rfl⟩
 rw[hQ]
 clear EF HB
 rintro n _ wr ⟨u,k,rfl,hb,hk,hR⟩
 have Hb:=aj hb
 have HR:=aj hR
 by_cases cw:k<ts.length
 ·obtain ⟨g,off,rfl,hg,eo,hx⟩:=aa H3 (by omega)
  obtain ⟨⟨kd,sp,tx⟩,ht⟩:∃t,ts[k]?=some t:=⟨_,List.getElem?_eq_getElem cw⟩
  obtain ⟨x1,x2,x3⟩:=hx k _ ht
  simp only at x1 x2 x3
  have y1:wr.cell? ⟨g,off+k*3,none⟩=some (.int .i64 kd):=(hb.cell (p:=⟨g,off+k*3,none⟩) hg).trans x1
  have y2:wr.cell? ⟨g,off+k*3+1,none⟩=some (.int .i64 sp):=(hb.cell (p:=⟨g,off+k*3+1,none⟩) hg).trans x2
  have y3:wr.cell? ⟨g,off+k*3+2,none⟩=some (.string tx):=(hb.cell (p:=⟨g,off+k*3+2,none⟩) hg).trans x3
  obtain ⟨n,rfl⟩:∃m,n=m+1:=⟨n-1,by omega⟩
  have HEq:Hid (R0=if (kd==5)=true then some k else lA ts n (k+1)):=by
   show _=_
   rw[←aa HR]
   conv=>lhs;unfold lA
   rw[ht]
  have Hk:=aj hk
  obtain ⟨L,hL⟩:∃L,ts.length=L:=⟨_,rfl⟩
  have HL:=aj hL
  rw[hL] at cw hn hc ⊢
  have n0:(0:Int)≤(k:Int):=zH _
  have n1:(k:Int)<(L:Int):=by omega
  have hd:decide ((k:Int)<(L:Int))=true:=by simp;omega
  have HC:=aj (JR wr kd sp tx)
  clear hx ht x1 x2 x3 hb hR hk hL H3 hg eo HR
  go_wp2_with fail
  refine (aa HC).mono ?_
  rintro e w2 ⟨rfl,bJ⟩
  have AW:=aj ((aa Hb).trans (bJ.mono (aa Hb).size))
  clear bJ HC Hb y1 y2 y3
  cases h5:(kd==5) with
  |true =>
   have HE:Hid (JV R0=.int .i64 (k:Int)):=by show _=_;rw[aa HEq,if_pos h5];rfl
   clear h5
   go_wp2
   rw[←hQ]
   go_ret
   exact ⟨(congrArg Ending.returned (aa HE)).symm,aa AW⟩
  |false =>
   have HE:Hid (lA ts n (k+1)=R0):=by show _=_;rw[aa HEq,if_neg (by rw[h5];simp)]
   have iq:k+1≤20000:=by omega
   clear h5
   go_wp2
   refine ⟨n,rfl,fun i=>[undef,undef,u 2,u 3,u 4,.int .i64 (k:Int),u 6,undef,undef,.bool true,.int .i64 (k:Int),.func (.func 73) #[] #[],.slice (some ⟨g,off,none⟩) L c,.int .i64 (k:Int),.pointer (some ⟨g,off+k*3,none⟩),.agg #[.int .i64 kd,.int .i64 sp,.string tx],.bool false,u 17,.int .i64 ((k:Int)+1)].getD i undef,k+1,?_,aa AW,by have:=aa Hk;omega,aa HE⟩
   rw[aa HL]
   rfl
 ·have hd:decide (k<ts.length)=false:=by simp;omega
  have HE:Hid (JV R0=.int .i64 (-1)):=by
   show _=_
   rw[←hR]
   cases n with
   |zero=>rfl
   |succ n =>
    unfold lA
    rw[List.getElem?_eq_none (by omega)]
    rfl
  obtain ⟨L,hL⟩:∃L,ts.length=L:=⟨_,rfl⟩
  rw[hL] at cw hn hc hd ⊢
  clear hb hR hk hL H3 HR cw
  go_wp2
  try rw[←hQ]
  go_ret
  exact ⟨(congrArg Ending.returned (aa HE)).symm,aa Hb⟩
theorem Ed (ts:List Tk):∀(n j k:Nat),lA ts n j=some k→∃t,ts[k]?=some t∧t.kind=5
 |0,_,_,h=>by cases h
 |n+1,j,k,h=>by
  unfold lA at h
  cases ht:ts[j]? with
  |none=>rw[ht] at h;cases h
  |some t =>
   rw[ht] at h
   simp only at h
   split at h
   ·rename_i hk
    obtain rfl:=zC h
    exact ⟨t,ht,eq_of_beq hk⟩
   ·exact Ed ts n (j+1) k h
def fF (ts:List Tk):aD:=match lA ts (ts.length+1) 0 with
 |some k=>⟨ts.take k,ts.getD k P1,false,0,0⟩
 |none=>match ts.getLast? with
  |some t=>⟨ts,⟨5,wrap64 (t.spot+(t.text.size:Int)),⟨#[]⟩⟩,false,0,0⟩
  |none=>⟨ts,⟨5,0,⟨#[]⟩⟩,false,0,0⟩
def NrP (W:World) (ts:List Tk) (e:Ending) (w:World):Prop:=∃b,e=.returned (.pointer (some ⟨b,0,none⟩))∧W.heap.size≤b∧Below W.heap.size W w∧Rd w.heap.size w b (fF ts)
theorem gd.take {W:World}{lo b k c:Nat}{a:Option Addr}{ts:List Tk} (h:gd W lo b (.slice a ts.length c) ts) (hk:k≤ts.length):gd W lo b (.slice a k c) (ts.take k):=by
 obtain ⟨a0,c0,e,h1,h2,h3⟩:=h
 simp only[Value.slice.injEq] at e
 obtain ⟨rfl,_,rfl⟩:=e
 have hl:(ts.take k).length=k:=by rw[List.length_take];omega
 refine ⟨a,c,by rw[hl],by omega,h2,fun hp=>?_⟩
 obtain ⟨g,off,e,h4,h5,h6⟩:=h3 (by omega)
 refine ⟨g,off,e,h4,h5,fun i t ht=>h6 i t ?_⟩
 rw[List.getElem?_take] at ht
 split at ht
 ·exact ht
 ·cases ht
theorem gd.new {W w:World}{lo b lo' b':Nat}{v:Value}{ts:List Tk} (h:gd W lo b v ts) (hb:Below lo W w) (hl:lo≤lo') (hb':lo≤b'):gd w lo' b' v ts:=by
 obtain ⟨a,c,rfl,h1,h2,h3⟩:=h
 refine ⟨a,c,rfl,h1,h2,fun hp=>?_⟩
 obtain ⟨g,off,rfl,h4,h5,h6⟩:=h3 hp
 have e:∀j,w.cell? ⟨g,j,none⟩=W.cell? ⟨g,j,none⟩:=fun j=>hb.cell (p:=⟨g,j,none⟩) h4
 refine ⟨g,off,rfl,by omega,by omega,fun i t ht=>?_⟩
 rw[e,e,e]
 exact h6 i t ht
theorem Bm {W w:World}{v:Value}{ts ts':List Tk}{en:Tk} (h:gd W W.heap.size W.heap.size v ts') (hb:Below W.heap.size W w) (hk:en.kind=5) (hs:fF ts=⟨ts',en,false,0,0⟩):NrP W ts (.returned (.pointer (some ⟨w.heap.size,0,none⟩))) (w.alloc (.cells #[v,.int .i64 en.kind,.int .i64 en.spot,.string en.text,.bool false,.int .i64 0,.int .i64 0] 129)):=by
 have bJ:=hb.alloc hb.size (.cells #[v,.int .i64 en.kind,.int .i64 en.spot,.string en.text,.bool false,.int .i64 0,.int .i64 0] 129)
 have bU:=zJ w (.cells #[v,.int .i64 en.kind,.int .i64 en.spot,.string en.text,.bool false,.int .i64 0,.int .i64 0] 129)
 refine ⟨w.heap.size,rfl,hb.size,bJ,?_⟩
 rw[hs]
 exact ⟨v,aC _ _,h.new bJ (by have:=hb.size;omega) hb.size,⟨by omega,zD _⟩,by simp only;omega,by simp only;omega,hk⟩
theorem yW {W:World}{v:Value}{ts:List Tk} (h:gd W W.heap.size W.heap.size v ts) (hn:ts.length≤16384):Calls Tryz.prog 49 #[v] W (NrP W ts):=by
 have HC:=aj (FG h hn)
 have HH:=aj h
 obtain ⟨a,c,rfl,hc,hm,h3⟩:=h
 cases gw:lA ts (ts.length+1) 0 with
 |some k =>
  rw[gw] at HC
  obtain ⟨⟨kd,sp,tx⟩,ht,h5⟩:=Ed ts _ _ _ gw
  have cw:k<ts.length:=(zB ht).1
  obtain ⟨g,off,rfl,hg,eo,hx⟩:=h3 (by omega)
  obtain ⟨x1,x2,x3⟩:=hx k _ ht
  simp only at x1 x2 x3 h5
  subst h5
  have HS:Hid (fF ts=⟨ts.take k,⟨5,sp,tx⟩,false,0,0⟩):=by
   show _=_
   unfold fF
   rw[gw]
   simp only
   rw[List.getD_eq_getElem?_getD,ht]
   rfl
  have HT:=aj ((aa HH).take (k:=k) (by omega))
  have Hx:=aj (show W.cell? ⟨g,off+k*3,none⟩=_∧W.cell? ⟨g,off+k*3+1,none⟩=_∧W.cell? ⟨g,off+k*3+2,none⟩=_ from ⟨x1,x2,x3⟩)
  have Hg:=aj hg
  have n0:(0:Int)≤(k:Int):=zH _
  obtain ⟨L,hL⟩:∃L,ts.length=L:=⟨_,rfl⟩
  rw[hL] at cw hc hn HC ⊢
  have n1:(k:Int)<(L:Int):=by omega
  have n2:(k:Int)≤(c:Int):=by omega
  have n3:k≤c:=by omega
  clear gw ht hx x1 x2 x3 h3 hg hL HH
  go_enter Tryz.func49,Tryz.ntmps49
  go_wp2_with fail
  refine (aa HC).mono ?_
  rintro e w1 ⟨rfl,bF⟩
  unfold JV
  obtain ⟨x1,x2,x3⟩:=aa Hx
  have y1:=(bF.cell (p:=⟨g,off+k*3,none⟩) (aa Hg)).trans x1
  have y2:=(bF.cell (p:=⟨g,off+k*3+1,none⟩) (aa Hg)).trans x2
  have y3:=(bF.cell (p:=⟨g,off+k*3+2,none⟩) (aa Hg)).trans x3
  have kv:=aj bF
  clear x1 x2 x3 bF HC Hx
  go_wp2
  go_region
  all_goals (try go_wp2)
  all_goals go_ret
  all_goals exact Bm (aa HT) (below_drewN (aa kv) _) rfl (aa HS)
 |none =>
  rw[gw] at HC
  cases oY:ts.getLast? with
  |none =>
   have aaZ:ts=[]:=by
    rw[List.getLast?_eq_none_iff] at oY
    exact oY
   subst aaZ
   have HS:Hid (fF []=⟨[],⟨5,0,⟨#[]⟩⟩,false,0,0⟩):=rfl
   simp only[List.length_nil] at HC HH ⊢
   clear gw oY h3 hn hc hm
   go_enter Tryz.func49,Tryz.ntmps49
   go_wp2_with fail
   refine (aa HC).mono ?_
   rintro e w1 ⟨rfl,bF⟩
   unfold JV
   have HB:=aj (bF.alloc bF.size (.cells #[.int .i64 5,.int .i64 0,.string ⟨#[]⟩] 44))
   clear bF HC
   go_wp2
   go_ret
   have:=Bm (ts:=[]) (aa HH) (aa HB) (en:=⟨5,0,⟨#[]⟩⟩) rfl (aa HS)
   rw[zJ] at this
   exact this
  |some t =>
   obtain ⟨kd,sp,tx⟩:=t
   obtain ⟨k,hk⟩:∃k,ts.length=k+1:=by
    cases ts with
    |nil=>cases oY
    |cons t r=>exact ⟨r.length,rfl⟩
   have ht:ts[k]?=some ⟨kd,sp,tx⟩:=by
    rw[List.getLast?_eq_getElem?] at oY
    rw[←oY,hk]
    rfl
   obtain ⟨g,off,rfl,hg,eo,hx⟩:=h3 (by omega)
   obtain ⟨x1,x2,x3⟩:=hx k _ ht
   simp only at x1 x2 x3
   have HS:Hid (fF ts=⟨ts,⟨5,wrap64 (sp+(tx.size:Int)),⟨#[]⟩⟩,false,0,0⟩):=by
    show _=_
    unfold fF
    rw[gw,oY]
   have Hx:=aj (show W.cell? ⟨g,off+k*3,none⟩=_∧W.cell? ⟨g,off+k*3+1,none⟩=_∧W.cell? ⟨g,off+k*3+2,none⟩=_ from ⟨x1,x2,x3⟩)
   have Hg:=aj hg
   obtain ⟨L,hL⟩:∃L,ts.length=L:=⟨_,rfl⟩
   have HL:=aj hL
   rw[hL] at hk hc hn HC ⊢
   have n0:(0:Int)≤(k:Int):=zH _
   have n1:(k:Int)<(L:Int):=by omega
   have n2:(L:Int)-1=(k:Int):=by omega
   have n3:0<L:=by omega
   clear gw oY ht hx x1 x2 x3 h3 hg hL hk
   go_enter Tryz.func49,Tryz.ntmps49
   go_wp2_with fail
   refine (aa HC).mono ?_
   rintro e w1 ⟨rfl,bF⟩
   unfold JV
   obtain ⟨x1,x2,x3⟩:=aa Hx
   have y1:=(bF.cell (p:=⟨g,off+k*3,none⟩) (aa Hg)).trans x1
   have y2:=(bF.cell (p:=⟨g,off+k*3+1,none⟩) (aa Hg)).trans x2
   have y3:=(bF.cell (p:=⟨g,off+k*3+2,none⟩) (aa Hg)).trans x3
   have J2:g<w1.heap.size:=Nat.lt_of_lt_of_le (aa Hg) bF.size
   have Q0:=bF
   clear x1 x2 x3 bF HC Hx
   have HB:=aj ((Q0.alloc Q0.size (.cells #[.int .i64 5,.int .i64 (wrap64 (sp+(tx.size:Int))),.string ⟨#[]⟩] 44)).alloc (by rw[zJ];have:=Q0.size;omega) (.cells #[.int .i64 kd,.int .i64 sp,.string tx] 44))
   clear Q0
   go_wp2
   go_ret
   have jn:=Bm (ts:=ts) (aa HH) (aa HB) (en:=⟨5,wrap64 (sp+(tx.size:Int)),⟨#[]⟩⟩) rfl (aa HS)
   simp only[zJ] at jn
   rw[aa HL] at jn
   exact jn
end Go.Proofs.YtmlphohdcejniaaGreatDoor
