import Derived.Test.YtjophoclfccmcaaGreatDoorM43
set_option maxHeartbeats 4000000
set_option maxRecDepth 100000
namespace Go.Proofs.YtjophoclfccmcaaGreatDoor
open Go.RowKit
attribute [local go_sem ↓] Go.wp_at_zero Go.wp_at_succ
theorem Pq (w:World) (vs:Array Value):(callFunc 71 vs).run Tryz.prog w=.ok (.enter 71 vs) w:=by
 have hn:¬Tryz.f71.name = "runtime.NumGoroutine" := by decide +kernel
 have hb:Tryz.f71.body.isSome=true:=by kernel_rfl
 obtain ⟨c,hc⟩:=zG hb
 simp[callFunc,Tryz.func71,hn,hc]
theorem Pp (w:World) (vs:Array Value):(callFunc 131 vs).run Tryz.prog w=.ok (.enter 131 vs) w:=by
 have hn:¬Tryz.f131.name = "runtime.NumGoroutine" := by decide +kernel
 have hb:Tryz.f131.body.isSome=true:=by kernel_rfl
 obtain ⟨c,hc⟩:=zG hb
 simp[callFunc,Tryz.func131,hn,hc]
theorem A8 (w:World) (vs:Array Value):(callFunc 37 vs).run Tryz.prog w=.ok (.enter 37 vs) w:=by
 have hn:¬Tryz.f37.name = "runtime.NumGoroutine" := by decide +kernel
 have hb:Tryz.f37.body.isSome=true:=by kernel_rfl
 obtain ⟨c,hc⟩:=zG hb
 simp[callFunc,Tryz.func37,hn,hc]
theorem dN {P:Program}{w:World}{ops:Array Oper}{o:Oper}{a:Act}{K:Act→World→Prop}{Q:Exit→Act→World→Prop}{E:Prop} (sb:o.guard=none) (s x:Operand) (t:TypeId)
  (ho:o.op=.call { callee:=.builtin .append,args:=#[s,x],argTypes:=#[t,t] })
  (base:Nat) (e:TypeId) (i:TypeInfo) (z:Value) (size bytes:Nat) (ht:P.underlying t=some (.slice e)) (hi:P.info? e=some i) (hz:i.zero=some z)
  (N8:i.size=size) (BY:i.bytes=bytes) (hzs:z.cells.size=size) (ck:0<size)
  (v:Value) (n:Nat) (xs:List Value) (hs:a.eval s=v) (oq:w.ownsRow base e size v n xs)
  (ad:Addr) (m c:Nat) (news:List Value) (hx:a.eval x=.slice (some ad) m c) (hl:news.length=m*size) (Oh:∀j u,news[j]?=some u→w.cell? (ad.add j)=some u) (h1:∀u ∈ news,u.oneCell'=true)
  (h63:n+m≤maxLen) (yM:(n+m)*bytes≤140737488355328) (cJ:base≤w.heap.size)
  (h:∀v' w',w'.ownsRow base e size v' (n+m) (xs++news)→w.grownBy w' v.ownBlock→(v'.ownBlock=v.ownBlock∨v'.ownBlock=some w.heap.size)→K (a.put o.dst v') w') :
  if Region.wanted o (yielded ops a.tmps)=true then Oper.wp P o a w K Q else E:=by
 have hw:Region.wanted o (yielded ops a.tmps)=true:=by simp[Region.wanted,sb]
 rw[if_pos hw]
 obtain ⟨v',w',hr,h2,h3,h4,h5⟩:=run_append_own_at (P:=P) w base t o.type e i z size bytes ht hi hz N8 BY hzs ck v n xs oq ad m c news hl Oh h1 h63 yM cJ
 unfold Oper.wp execOp
 simp only[ho,resolve,invoke,builtin,Sem.run_bind,Sem.run_pure,Result.andThen_ok,List.map_toArray,List.map_cons,List.map_nil,hs,hx,hr]
 exact h v' w' h2 h3 h5
theorem nH.less {W w:World}{lo b l mi ri ti:Nat}{jX:List Slot}{L L':List Nat}{x:Mp}{v:MV}{R:PX} (h:nH W lo b l mi ri ti jX L x v R w) (hl:∀k ∈ L',k ∈ L):nH W lo b l mi ri ti jX L' x v R w:=⟨h.F,h.z,h.m,h.r,h.t,h.s.less hl,h.og⟩
theorem Ra {s0 s4:ay}{pt:Int} (hg:Gd s0) (h:aT (al (aT (al (aT (al (aT (al (.ok s0) (aP pt))) (cl EP))) aR)) (au ⟨#[123]⟩))=.ok s4):s4.ts.length<s0.ts.length:=by
 simp only[fe,jD,seq_assoc] at h
 simp only[al] at h
 cases h1:aP pt s0 with
 |error y=>rw[h1] at h;cases h
 |ok p1 =>
  have e1:p1.2.ts=s0.ts∧p1.2.en=s0.en:=by unfold aP at h1;split at h1;cases h1;cases h1;exact ⟨rfl,rfl⟩
  rw[h1,aL] at h
  cases h2:cl EP p1.2 with
  |error y=>rw[h2] at h;cases h
  |ok p2 =>
   have e2:p2.2.ts=p1.2.ts.tail∧p2.2.en=p1.2.en:=by unfold cl at h2;split at h2;cases h2;exact ⟨rfl,rfl⟩;cases h2
   rw[h2,aL] at h
   cases h3:aR p2.2 with
   |error y=>rw[h3] at h;cases h
   |ok p3 =>
    obtain ⟨a3,s3⟩:=p3
    have e3:=dP (gm h3) (kT h3 (by rw[e2.2,e1.2];exact hg.en))
    rw[h3,aL] at h
    dsimp only at h
    cases h4:au ⟨#[123]⟩ s3 with
    |error y=>rw[h4] at h;cases h
    |ok p4 =>
     obtain ⟨a4,s5⟩:=p4
     have e4:=(bw h4).len
     rw[h4] at h
     obtain rfl:s5=s4:=by simpa[aT] using h
     have e5:p2.2.ts.length≤s0.ts.length:=by rw[e2.1,e1.1,List.length_tail];omega
     omega
theorem NR:(Tryz.prog.info? 45).map (fun i=>(i.zero,i.size,i.bytes))=some (some (.agg #[.int .i64 0,.string ⟨#[]⟩,.string ⟨#[]⟩,.string ⟨#[]⟩,.int .i64 0,.int .i64 0]),6,72):=by kernel_rfl
theorem Fe {P:Program}{md:Region.Mode}{ops:Array Oper}{Q:Exit→Act→World→Prop}{T:World→Prop}{z:Nat} (i j:Nat) {oi oj:Oper}{n:Nat}{d:Array Bool}{a:Act}{w:World} (hr:Region.ready md ops d=[i,j]) (hi:ops[i]?=some oi) (hj:ops[j]?=some oj)
  (h1:∀K:Act→World→Prop,(∀a' w',((i≠z→T w')∧dI P md ops Q T z n (d.setIfInBounds i true) a' w')→K a' w')→if Region.wanted oi (yielded ops a.tmps)=true then Oper.wp P oi a w K Q else K (a.put oi.dst undef) w)
  (h2:∀K:Act→World→Prop,(∀a' w',((j≠z→T w')∧dI P md ops Q T z n (d.setIfInBounds j true) a' w')→K a' w')→if Region.wanted oj (yielded ops a.tmps)=true then Oper.wp P oj a w K Q else K (a.put oj.dst undef) w):dI P md ops Q T z (n+1) d a w:=by
 refine ⟨fun h0=>(by rw[h0] at hr;cases hr),fun k hk=>?_⟩
 rw[hr] at hk
 rcases (by simpa using hk:k=i∨k=j) with rfl|rfl
 ·exact wpOp_step hi h1
 ·exact wpOp_step hj h2
theorem U7 {c L:Nat}{R:PX}{q:Bool}{x:ByteArray} (h:pU c L R):pU c L (aT (al (UF q R) (au x))):=by
 refine ⟨h.1,fun s' e=>?_⟩
 unfold UF at e
 split at e
 ·match R,h,e with
  |.error y,_,e=>cases e
  |.ok s,h,e =>
   rw[show al (.ok s) (au x)=au x s from rfl] at e
   cases h4:au x s with
   |error y=>rw[h4] at e;cases e
   |ok p =>
    obtain ⟨a4,s5⟩:=p
    rw[h4] at e
    obtain rfl:s5=s':=by simpa[aT] using e
    exact Nat.le_trans (Nat.add_le_add_left (Nat.mul_le_mul_left 50000 (bw h4).len) L) (h.2 s rfl)
 ·match R,e with
  |.error y,e=>cases e
  |.ok s,e=>cases e
theorem MU {s:ay}{R5:PX}{o:Int} (hg:Gd s) (hs:∀s',R5=.ok s'→s'=s):∀s',aT (al R5 (cq o))=.ok s'→s'.ts.length<s.ts.length:=by
 intro s' e
 match R5,hs,e with
 |.error y,_,e=>cases e
 |.ok s1,fJ,e =>
  obtain rfl:=fJ s1 rfl
  rw[show al (.ok s1) (cq o)=cq o s1 from rfl] at e
  cases hr:cq o s1 with
  |error y=>rw[hr] at e;cases e
  |ok p =>
   rw[hr] at e
   cases e
   obtain ⟨h1,h2⟩:=jN (x:=p.1) hr
   exact dP h1 (h2 hg.en)
theorem ib {w:World}{g:Nat}{o:Obj} (h:w.heap[g]?=some o):g<w.heap.size:=(zA h).1
def MbQ (lo b l:Nat) (L:List Nat) (W:World) (ss:List Slot) (r:Except (Int×Int) (Mp×ay)) (e:Ending) (w:World):Prop:=Fm b ss W w∧Zr lo w b (aT r)∧∃(x':Mp) (v':MV),e=.returned (.agg (v'.arr x'))∧nL l L w x' v'∧OG W ss (v'.ss x')∧pU 1000000000 (bH x') (aT r)∧∀a s,r=.ok (a,s)→a=x'
theorem LS {W:World}{lo b l:Nat}{L:List Nat}{R:PX}{x:Mp}{v:MV} (h:Zr lo W b R) (hl:lo≤l∧l≤W.heap.size) (hM:nL l L W x v) (hB:pU 1000000000 (bH x) R) (hR:∃s0,R=.ok s0) (hk:∀s,R=.ok s→aJ s.here 1 EP=true):Calls Tryz.prog 109 #[.pointer (some ⟨b,0,none⟩),.agg (v.arr x)] W (MbQ lo b l L W (v.ss x) (al R (fH x))):=by
 obtain ⟨i0,hi,zy,zx,jK⟩:=info_parts ry
 obtain ⟨j0,hj,Tq,Tp,To⟩:=info_parts NR
 have cB:=h.low
 obtain ⟨s0,rfl⟩:=hR
 have l9:Hid (lq (.ok s0)):=h.2
 have HK:=ab hk
 have HB:=ab hB
 obtain ⟨nm,fs,os,ms,es,rs,gs⟩:=x
 obtain ⟨⟨fa,fc⟩,⟨oa,oc⟩,⟨ma,mc⟩,⟨ea,ec⟩,⟨ra,rc⟩,⟨ga,gc⟩,cm,ce⟩:=v
 obtain ⟨jX,Ku⟩:∃jX,jX=MV.ss ⟨(fa,fc),(oa,oc),(ma,mc),(ea,ec),(ra,rc),(ga,gc),cm,ce⟩ ⟨nm,fs,os,ms,es,rs,gs⟩:=⟨_,rfl⟩
 obtain ⟨F0,sP⟩:∃F0,F0=al (.ok s0) (fH ⟨nm,fs,os,ms,es,rs,gs⟩):=⟨_,rfl⟩
 have E5:=ab sP
 have P8:Hid (OG W jX (MV.ss ⟨(fa,fc),(oa,oc),(ma,mc),(ea,ec),(ra,rc),(ga,gc),cm,ce⟩ ⟨nm,fs,os,ms,es,rs,gs⟩)):=fun i sl k hi hk=>.inr ⟨i,sl,by rw[Ku];exact hi,hk⟩
 have bQ:=(zE W.heap.size W).alloc (zD _) (.cells #[.string nm,.slice fa fs.length fc,.slice oa os.length oc,.slice ma ms.length mc,.slice ea es.length ec,.slice ra rs.length rc,.slice ga gs.length gc] 49)
 have Z8:=hM.box (.cells #[.string nm,.slice fa fs.length fc,.slice oa os.length oc,.slice ma ms.length mc,.slice ea es.length ec,.slice ra rs.length rc,.slice ga gs.length gc] 49)
 have Oy:=Z8.box (.cells E7 49)
 rw[zJ] at Oy
 have xL:=ab Oy
 have br:=bQ.alloc bQ.size (.cells E7 49)
 have jm:=ab br
 have HZ:=ab (h.up br)
 have WT:Hid (((W.alloc (.cells #[.string nm,.slice fa fs.length fc,.slice oa os.length oc,.slice ma ms.length mc,.slice ea es.length ec,.slice ra rs.length rc,.slice ga gs.length gc] 49)).alloc (.cells E7 49)).heap[W.heap.size]?=some (.cells #[.string nm,.slice fa fs.length fc,.slice oa os.length oc,.slice ma ms.length mc,.slice ea es.length ec,.slice ra rs.length rc,.slice ga gs.length gc] 49 (0,0))):=bL (aH _ _) _
 have Kv:=aH (W.alloc (.cells #[.string nm,.slice fa fs.length fc,.slice oa os.length oc,.slice ma ms.length mc,.slice ea es.length ec,.slice ra rs.length rc,.slice ga gs.length gc] 49)) (.cells E7 49)
 rw[zJ] at Kv
 have aV:=ab Kv
 clear h hk hB hM Z8 Oy bQ br Kv sP
 unfold MV.arr
 simp only
 rw[←Ku,←aa E5]
 unfold E7 at xL jm HZ WT aV
 go_enter Tryz.func109,Tryz.ntmps109
 go_wp2_with fail
 refine (gf (aa HZ)).mono ?_
 rintro e w1 ⟨⟨kt,pt,tt⟩,rfl,hb,hp⟩
 have pB:=ab hp
 have DQ:=hb.size
 simp only[zJ] at DQ
 have Qq:=aO hb (some b)
 have XM:nH W lo b l W.heap.size (W.heap.size+1) w1.heap.size jX (w1.heap.size::(W.heap.size+1)::W.heap.size::L) ⟨nm,fs,os,ms,es,rs,gs⟩ ⟨(fa,fc),(oa,oc),(ma,mc),(ea,ec),(ra,rc),(ga,gc),cm,ce⟩ (.ok s0) (w1.alloc (.cells #[.int .i64 kt,.int .i64 pt,.string tt] 38)) :=
  ⟨((Fm.refl b jX W).below (aa jm)).below (hb.alloc hb.size _),(aa HZ).up (hb.alloc hb.size _),bL (ax Qq (aa WT) (by omega)) _,bL (ax Qq (aa aV) (by omega)) _,⟨kt,pt,tt,aH _ _⟩,((aa xL).kept Qq (.inl (by omega))).box _,aa P8⟩
 have E3:Hid ((w1.alloc (.cells #[.int .i64 kt,.int .i64 pt,.string tt] 38)).heap[w1.heap.size]?=some (.cells #[.int .i64 kt,.int .i64 pt,.string tt] 38 (0,0))):=aH _ _
 have HL:Hid (Ta W lo b l W.heap.size (W.heap.size+1) w1.heap.size (w1.heap.size::(W.heap.size+1)::W.heap.size::L)):=⟨⟨cB.1,hl.1,hl.2⟩,zD _,by omega,by omega,⟨by omega,by omega,by omega⟩,⟨by simp,by simp,by simp⟩⟩
 have HX:=ab XM
 obtain ⟨ti,IA⟩:∃t,t=w1.heap.size:=⟨_,rfl⟩
 have aby:W.heap.size+2≤ti:=by omega
 rw[←IA] at HX E3 HL
 clear hb hp Qq XM xL jm HZ WT aV P8 DQ
 obtain ⟨⟨c0,c1,c2⟩,ZR⟩:=dE (aa E3)
 clear ZR
 unfold Tk.val
 rw[IA] at c0 c1 c2
 go_wp2_with fail
 refine (eu (aa HX).z ⟨kt,pt,tt⟩).mono ?_
 rintro e w2 ⟨hg,hz,v0,rfl,mD,-⟩
 obtain rfl:=mD
 have tg:=ab ((aa HX).kept (aa HL) hg hz)
 clear hg hz HX c0 c1 c2 E3
 rw[←IA]
 clear IA
 go_wp2_with fail
 refine (oQ (aa tg).z EP).mono ?_
 rintro e w3 ⟨hg,hz,v0,rfl,mD,-⟩
 obtain rfl:=mD
 have SX:=ab ((aa tg).kept (aa HL) hg hz)
 clear hg hz tg
 obtain ⟨R2,LH⟩:∃R2,R2=aT (al (aT (al (.ok s0) (aP pt))) (cl EP)):=⟨_,rfl⟩
 rw[←LH] at SX
 have zR:=ab LH
 clear LH
 go_upto_region 4 with fail
 go_cut [] (fun wx=>∃(n1:ByteArray) (oa':Option Addr) (oc':Nat),Hid (nH W lo b l W.heap.size (W.heap.size+1) ti jX (ti::(W.heap.size+1)::W.heap.size::L) ⟨nm,fs,os++[n1],ms,es,rs,gs⟩ ⟨(fa,fc),(oa',oc'),(ma,mc),(ea,ec),(ra,rc),(ga,gc),cm,ce⟩ (aT (al R2 aR)) wx)∧Hid (∀a s,al R2 aR=.ok (a,s)→Value.string n1=.string a))
 case first =>
  have hT:w3.drew.heap[W.heap.size]?=some (.cells #[.string nm,.slice fa fs.length fc,.slice oa os.length oc,.slice ma ms.length mc,.slice ea es.length ec,.slice ra rs.length rc,.slice ga gs.length gc] 49 (0,0)):=(aa SX).m
  refine wp_region_any (by kernel_rfl) (dr (z:=7) (T:=fun w=>w.heap[W.heap.size]?=some (.cells #[.string nm,.slice fa fs.length fc,.slice oa os.length oc,.slice ma ms.length mc,.slice ea es.length ec,.slice ra rs.length rc,.slice ga gs.length gc] 49 (0,0))) _ _ _ _ ?_)
  try (change dI _ _ _ _ _ _ _ _ _ (World.drew _))
  refine aB 0 (.pointer (some ⟨W.heap.size,2,none⟩)) 15 rfl rfl (Or.inl ⟨by rfl,fun w _=>by go_simp⟩) hT ?_
  simp only[Act.put,zL,zM,zN]
  refine aB 1 (.slice oa os.length oc) 16 rfl rfl (Or.inl ⟨by rfl,fun w hw=>by have c:=(cK hw).1.2.2.1;go_simp⟩) hT ?_
  simp only[Act.put,zL,zM,zN]
  refine aB 2 (.pointer (some ⟨b,0,none⟩)) 17 rfl rfl (Or.inl ⟨by rfl,fun w hw=>by go_simp⟩) hT ?_
  simp only[Act.put,zL,zM,zN]
  refine aN 3 (by kernel_rfl) rfl (fun K hK=>?_)
  refine eB 18 rfl rfl 71 (Pq _) #[.tmp 17] #[55] rfl #[.pointer (some ⟨b,0,none⟩)] (by first|rfl|simp[Act.eval]) (lB (show Zr lo w3.drew b R2 from (aa SX).z.drew)) ?_
  rintro o6 w6 ⟨hg,hz,v6,rfl,⟨n1,rfl,iK⟩,hv⟩
  have cN:w3.grownBy w6 (some b):=⟨hg.os,hg.tape,hg.output,hg.size,hg.block⟩
  have jl:=ab ((aa SX).kept (aa HL) cN hz)
  have js:w6.heap[W.heap.size]?=some (.cells #[.string nm,.slice fa fs.length fc,.slice oa os.length oc,.slice ma ms.length mc,.slice ea es.length ec,.slice ra rs.length rc,.slice ga gs.length gc] 49 (0,0)):=(aa jl).m
  refine ⟨_,rfl,hK _ _ ⟨fun _=>js,?_⟩⟩
  have HV:=ab hv
  clear hK K hg hz hv cN iK
  simp only[Act.put,zL,zM,zN]
  refine aN 4 (by kernel_rfl) rfl (fun K hK=>?_)
  go_simp
  refine hK _ _ ⟨fun _=>bL js _,?_⟩
  clear hK K
  refine aN 5 (by kernel_rfl) rfl (fun K hK=>?_)
  have Ad:W.heap.size≤w6.heap.size:=(aa jl).F.size
  have kN:=ab ((aa jl).s.alloc (.cells #[.string n1] 9))
  refine dN rfl (.tmp 16) (.tmp 19) 22 rfl l 9 i0 (.string ⟨#[]⟩) 1 16 Tryz.underlying22 hi zy zx jK rfl (by decide) (.slice oa os.length oc) os.length (dR os) (by first|rfl|simp[Act.eval]) ((aa kN).sl.own 1 _ rfl) ⟨w6.heap.size,0,none⟩ 1 1 [.string n1] (by first|rfl|simp[Act.eval]) rfl (df _ _ _) (by simp[Value.oneCell']) (by have:=(aa HB).1;unfold bH at this;simp only at this;unfold maxLen;omega) (by have:=(aa HB).1;unfold bH at this;simp only at this;omega) (by rw[zJ];omega) ?_
  intro v7 w7 dx cc jd
  obtain ⟨a7,c7,rfl⟩:=bY dx
  have fK:w7.heap[W.heap.size]?=some (.cells #[.string nm,.slice fa fs.length fc,.slice oa os.length oc,.slice ma ms.length mc,.slice ea es.length ec,.slice ra rs.length rc,.slice ga gs.length gc] 49 (0,0)):=(aa kN).sl.lA (i:=1) rfl (by simp) (bL js _) cc
  have ky:=aC (j:=2) fK (.slice a7 (os.length+1) c7)
  have HN7:Hid (nH W lo b l W.heap.size (W.heap.size+1) ti jX (ti::(W.heap.size+1)::W.heap.size::L) ⟨nm,fs,os++[n1],ms,es,rs,gs⟩ ⟨(fa,fc),(a7,c7),(ma,mc),(ea,ec),(ra,rc),(ga,gc),cm,ce⟩ (aT (al R2 aR)) (w7.setCell ⟨W.heap.size,2,none⟩ (.slice a7 (os.length+1) c7))):=by
   refine (((aa jl).box (.cells #[.string n1] 9)).app (x':=⟨nm,fs,os++[n1],ms,es,rs,gs⟩) (v':=⟨(fa,fc),(a7,c7),(ma,mc),(ea,ec),(ra,rc),(ga,gc),cm,ce⟩) (aa HL).box (i:=1) rfl dx cc jd ?_ rfl rfl rfl rfl ?_ ky.2).less (L':=(ti::(W.heap.size+1)::W.heap.size::L)) (fun k hk=>zF _ hk)
   ·simp only[MV.ss,td,zK,mu]
    rfl
   ·simp only[MV.arr,zK]
    exact ky.1
  have TY:=(cK fK).1.2.2.1
  have fm2:=(cK fK).2 2
  refine hK _ _ ⟨fun _=>fK,?_⟩
  clear hK K dx cc jd ky js kN
  simp only[Act.put,zL]
  refine aN 6 (by kernel_rfl) rfl (fun K hK=>?_)
  go_simp
  refine hK _ _ ⟨fun _=>fK,?_⟩
  clear hK K
  refine aN 7 (by kernel_rfl) rfl (fun K hK=>?_)
  go_simp
  refine hK _ _ ⟨fun q=>absurd rfl q,?_⟩
  clear hK K
  refine cP (by kernel_rfl) ?_
  go_wp2
  go_meet
  exact ⟨n1,a7,c7,HN7,HV⟩
 case rest =>
 obtain ⟨w8,fP⟩:∃x,x=wc:=⟨_,rfl⟩
 subst fP
 obtain ⟨n1,oa1,oc1,HX8,HV⟩:=hcut
 have HS:=ab (MR (x:=⟨nm,fs,os,ms,es,rs,gs⟩) (aa l9) (aa pB) (aa HK) (by rw[←aa zR];exact (aa HX8).z.2) (by rw[←aa zR];exact aa HV))
 go_wp2_with fail
 refine (eW (aa HX8).z ⟨#[123]⟩).mono ?_
 rintro e w9 ⟨hg,hz,v0,rfl,mD,-⟩
 obtain rfl:=mD
 have HX9:=ab ((aa HX8).kept (aa HL) hg hz)
 obtain ⟨R4,IJ⟩:∃R4,R4=aT (al (aT (al R2 aR)) (au ⟨#[123]⟩)):=⟨_,rfl⟩
 rw[←aa zR,←IJ,←aa E5] at HS
 rw[←IJ] at HX9
 have aaT:Hid (pU 1000000000 (bH ⟨nm,fs,os++[n1],ms,es,rs,gs⟩) R4):=(aa HB).next (by unfold bH;simp only[zK];show fs.length+(os.length+1)+ms.length+es.length+rs.length+gs.length≤_;omega) (fun s' e=>by
  rw[IJ,aa zR] at e
  exact Ra (aa l9) e)
 obtain ⟨k,hk⟩:∃k,k=fs.length:=⟨_,rfl⟩
 rw[show (⟨nm,fs,os,ms,es,rs,gs⟩:Mp).fs.length=fs.length from rfl,←hk] at HS
 have X9:Hid (∃(y:Mp) (u:MV),nH W lo b l W.heap.size (W.heap.size+1) ti jX (ti::(W.heap.size+1)::W.heap.size::L) y u R4 w9∧F0=al R4 (jh k y)∧(false=true↔¬y.fs.length=k)∧k≤y.fs.length∧pU 1000000000 (bH y) R4):=⟨_,_,aa HX9,aa HS,⟨fun q=>(by cases q),fun q=>absurd hk.symm q⟩,by rw[hk];exact zD _,aa aaT⟩
 clear hg hz HX8 SX HV l9 pB HK zR HX9 HS aaT hk IJ
 go_wp2
 go_loopg [6,7] (mR R4) (fun gk v6 _ wr=>∃(q:Bool) (Rk:PX),v6=.bool q∧gk=mR Rk∧Hid (∃(y:Mp) (u:MV),nH W lo b l W.heap.size (W.heap.size+1) ti jX (ti::(W.heap.size+1)::W.heap.size::L) y u Rk wr∧F0=al Rk (jh k y)∧(q=true↔¬y.fs.length=k)∧k≤y.fs.length∧pU 1000000000 (bH y) Rk))
 case atStart=>exact ⟨false,R4,rfl,rfl,X9⟩
 case round =>
  clear X9 HB
  obtain ⟨sm,Rk,rfl,eG,HXX⟩:=hrel
  have zu:=ab eG
  clear eG
  obtain ⟨y,u,oU,hf,hq,hle,Qn⟩:=aa HXX
  have HX:=ab oU
  have HF:=ab hf
  have HQ:=ab hq
  have Um:=ab hle
  have Ls:=ab Qn
  obtain ⟨er,SH,her⟩:=oU.z.err
  clear hf hq hle Qn HXX
  go_upto_region 7 with fail
  go_cut [33] from 24 to 59 (fun v33 wx=>v33=.bool (M3 Rk&&!(fU Rk 4 ⟨#[125]⟩))∧Hid (Below wr.heap.size wr wx))
  case first =>
   cases Rk with
   |error y =>
    replace her:(er==0)=false:=her
    go_wp2
    go_meet
    exact ⟨rfl,zE _ _⟩
   |ok s =>
    replace her:(er==0)=true:=her
    go_wp2_with fail
    refine (iw (aa HX).z 4 (by decide) ⟨#[125]⟩).mono ?_
    rintro e w0 ⟨rfl,hb⟩
    have HBB:=ab hb
    clear hb
    go_wp2
    go_meet
    exact ⟨rfl,HBB⟩
  case rest =>
  obtain ⟨w11,fP⟩:∃x,x=wc:=⟨_,rfl⟩
  subst fP
  obtain ⟨rfl,hb⟩:=hcut
  have Qy:=ab ((aa HX).kept (aa HL) (aO (aa hb) (some b)) ((aa HX).z.up (aa hb)))
  clear hb SH her oU HX
  obtain ⟨q,hq⟩:∃q,(M3 Rk&&!(fU Rk 4 ⟨#[125]⟩))=q:=⟨_,rfl⟩
  rw[hq]
  have jx:=ab hq
  clear hq
  cases q with
  |false =>
   have hq:∀s,Rk=.ok s→aJ s.here 4 ⟨#[125]⟩=true:=by
    intro s e
    have hq:=aa jx
    rw[e] at hq
    have:(true&&!(aJ s.here 4 ⟨#[125]⟩))=false:=hq
    cases hp:aJ s.here 4 ⟨#[125]⟩ with
    |true=>rfl
    |false=>rw[hp] at this;cases this
   obtain ⟨e1,e2⟩:=UR (aa Qy).z.2 hq (aa HQ) (aa HF)
   have sg:=ab e1
   have lN:=ab e2
   clear hq e1 e2 jx
   go_upto_if 61 with fail
   go_cut [] (fun wx=>Hid (World.grownBy w11 wx (some b)∧Zr lo wx b (UF sm Rk)))
   case first =>
    cases sm with
    |false =>
     go_wp2_with fail
     refine (kO (aa Qy).z).mono ?_
     rintro e w0 ⟨rfl,hg,hz⟩
     have HH:Hid (World.grownBy w11 w0 (some b)∧Zr lo w0 b (UF false Rk)):=⟨hg,hz⟩
     clear hg hz
     go_wp2
     go_meet
     exact HH
    |true =>
     go_wp2
     go_meet
     exact ⟨zI _ _,(aa Qy).z⟩
   case rest =>
   obtain ⟨JD,fP⟩:∃x,x=wc:=⟨_,rfl⟩
   subst fP
   obtain ⟨hg,hz⟩:=aa hcut
   have jb:=ab ((aa Qy).kept (aa HL) hg hz)
   clear hg hz hcut Qy
   go_wp2_with fail
   refine (eW (aa jb).z ⟨#[125]⟩).mono ?_
   rintro e w13 ⟨hg,hz,v0,rfl,mD,-⟩
   obtain rfl:=mD
   have eV:=ab ((aa jb).kept (aa HL) hg hz)
   clear hg hz jb
   obtain ⟨yn,yf,yo,ym,ye,yr,yg⟩:=y
   obtain ⟨⟨f1,f2⟩,⟨o1,o2⟩,⟨m1,m2⟩,⟨e1,e2⟩,⟨r1,r2⟩,⟨g1,g2⟩,QI,QJ⟩:=u
   have hm:w13.heap[W.heap.size]?=some (.cells #[.string yn,.slice f1 yf.length f2,.slice o1 yo.length o2,.slice m1 ym.length m2,.slice e1 ye.length e2,.slice r1 yr.length r2,.slice g1 yg.length g2] 49 (0,0)):=(aa eV).m
   have hr:w13.heap[W.heap.size+1]?=some (.cells #[.string ⟨#[]⟩,.slice none 0 0,.slice none 0 0,.slice none 0 0,.slice none 0 0,.slice none 0 0,.slice none 0 0] 49 (0,0)):=(aa eV).r
   obtain ⟨⟨TZ,XT,TY,XS,cm4,cm5,cm6⟩,R7⟩:=cK hm
   obtain ⟨⟨xC,xB,xA,cr3,cr4,cr5,cr6⟩,dp⟩:=cK hr
   have uu:=dp 0
   have ur:=dp 1
   have uq:=dp 2
   have fr3:=dp 3
   have fr4:=dp 4
   have fr5:=dp 5
   have fr6:=dp 6
   obtain ⟨t1,t2⟩:=dJ hr (.string yn) (.slice f1 yf.length f2) (.slice o1 yo.length o2) (.slice m1 ym.length m2) (.slice e1 ye.length e2) (.slice r1 yr.length r2) (.slice g1 yg.length g2)
   have T1:=ab t1
   have T2:=ab ((aa eV).F.gu t2 (by omega))
   have T3:=ab ((aa eV).z.gu t2 (by omega))
   have T4:=ab (((aa eV).s.kept t2 (.inr (by simp))).less (L':=L) (fun k hk=>zF _ (zF _ (zF _ hk))))
   have T5:=ab (aa eV).og
   clear t1 t2 hm hr R7 dp
   go_wp2
   refine bodyPost_ret (results_cell_row rfl _ _ (W.heap.size+1) 49 #[.string yn,.slice f1 yf.length f2,.slice o1 yo.length o2,.slice m1 ym.length m2,.slice e1 ye.length e2,.slice r1 yr.length r2,.slice g1 yg.length g2] (0,0) _ rfl (aa T1) Tryz.underlying49 rfl jY) rfl ?_
   refine ⟨aa T2,by rw[←aa sg];exact aa T3,_,_,rfl,aa T4,aa T5,?_,aa lN⟩
   rw[←aa sg]
   exact U7 (aa Ls)
  |true =>
   obtain ⟨s,rfl,Ty⟩:∃s,Rk=.ok s∧¬aJ s.here 4 ⟨#[125]⟩=true:=by
    have hq:=aa jx
    match Rk,hq with
    |.error y,hq=>cases hq
    |.ok s,hq =>
     refine ⟨s,rfl,?_⟩
     have:(true&&!(aJ s.here 4 ⟨#[125]⟩))=true:=hq
     intro h1
     rw[h1] at this
     cases this
   have zT:Hid (Gd s):=(aa Qy).z.2
   have Qz:Hid (F0=if aJ s.here 4 ⟨#[59]⟩=true then jh k y s.nx else al (aT (al (.ok s) (dj K8))) (tI k y)):=by
    rw[←MT (aa zT) Ty]
    exact aa HF
   clear Ty jx HF
   go_wp2_with fail
   refine (iw (aa Qy).z 4 (by decide) ⟨#[59]⟩).mono ?_
   rintro e JD ⟨rfl,hb⟩
   have jb:=ab ((aa Qy).kept (aa HL) (aO hb (some b)) ((aa Qy).z.up hb))
   clear hb Qy
   obtain ⟨q,hq⟩:∃q,fU (.ok s) 4 ⟨#[59]⟩=q:=⟨_,rfl⟩
   rw[hq]
   have GZ:=ab hq
   clear hq
   cases q with
   |true =>
    have nJ:aJ s.here 4 ⟨#[59]⟩=true:=aa GZ
    have dL:=eR (aa zT).en nJ (by decide)
    have LA:s.nx.ts.length=s.ts.length-1:=List.length_tail
    have pq:F0=al (kK (.ok s)) (jh k y):=by
     have h1:=aa Qz
     rw[if_pos nJ] at h1
     exact h1
    have rA:pU 1000000000 (bH y) (kK (.ok s)):=(aa Ls).next (by omega) (fun s' e=>by cases e;omega)
    obtain ⟨i,ci,fi,bD,ui⟩:=(aa jb).z.next (fun s' e=>by cases e;exact dL)
    obtain ⟨g1,z1⟩:=bD (wrap64 (i+1)) (fun s e=>eJ (ui s e))
    have lN:=ab ((aa jb).kept (aa HL) g1 z1)
    have HM:Hid (mR (kK (.ok s))<gk):=by have:=aa zu;show s.nx.ts.length+1<gk;rw[this];show _<s.ts.length+1;omega
    have HN:Hid (∃(y:Mp) (u:MV),nH W lo b l W.heap.size (W.heap.size+1) ti jX (ti::(W.heap.size+1)::W.heap.size::L) y u (kK (.ok s)) (JD.setCell ⟨b,1,none⟩ (.int .i64 (wrap64 (i+1))))∧F0=al (kK (.ok s)) (jh k y)∧(sm=true↔¬y.fs.length=k)∧k≤y.fs.length∧pU 1000000000 (bH y) (kK (.ok s))):=⟨y,u,aa lN,pq,aa HQ,aa Um,rA⟩
    clear g1 z1 bD ui pq rA nJ dL LA jb Qz GZ lN
    go_wp2
    go_roundg (mR (kK (.ok s)))
    case measure=>exact aa HM
    case rel=>exact ⟨sm,_,rfl,rfl,HN⟩
   |false =>
    have HRE:Hid (F0=al (aT (al (.ok s) (dj K8))) (tI k y)):=by
     have h1:=aa Qz
     rw[if_neg (by rw[show aJ s.here 4 ⟨#[59]⟩=false from aa GZ];decide)] at h1
     exact h1
    clear Qz GZ
    have HW:Hid (tc (JD.alloc (.cells #[.string ⟨#[111,112,116,105,111,110]⟩,.string ⟨#[103,114,111,117,112]⟩,.string ⟨#[111,112,116,105,111,110,97,108]⟩,.string ⟨#[114,101,112,101,97,116,101,100]⟩,.string ⟨#[114,101,113,117,105,114,101,100]⟩,.string ⟨#[111,110,101,111,102]⟩,.string ⟨#[109,101,115,115,97,103,101]⟩,.string ⟨#[101,110,117,109]⟩,.string ⟨#[114,101,115,101,114,118,101,100]⟩] 9)) (.slice (some ⟨JD.heap.size,0,none⟩) 9 9) 9 (dR K8)):=mY JD K8 9
    have qL:=(zE JD.heap.size JD).alloc (zD _) (.cells #[.string ⟨#[111,112,116,105,111,110]⟩,.string ⟨#[103,114,111,117,112]⟩,.string ⟨#[111,112,116,105,111,110,97,108]⟩,.string ⟨#[114,101,112,101,97,116,101,100]⟩,.string ⟨#[114,101,113,117,105,114,101,100]⟩,.string ⟨#[111,110,101,111,102]⟩,.string ⟨#[109,101,115,115,97,103,101]⟩,.string ⟨#[101,110,117,109]⟩,.string ⟨#[114,101,115,101,114,118,101,100]⟩] 9)
    have Jl:=ab ((aa jb).z.up qL)
    have Lt:=ab (aO qL (some b))
    clear qL
    go_wp2_with fail
    refine (gY (l:=K8) (aa Jl) (aa HW)).mono ?_
    rintro e Ff ⟨hg,hz,v0,rfl,mD,-⟩
    obtain rfl:=mD
    obtain ⟨R5,um⟩:∃R5,R5=aT (al (.ok s) (dj K8)):=⟨_,rfl⟩
    have jL:∀s',R5=.ok s'→s'=s:=by
     intro s' e
     rw[um,show al (.ok s) (dj K8)=dj K8 s from rfl] at e
     unfold dj at e
     split at e
     ·cases e
     ·cases e;rfl
    rw[←um] at hz
    have HRF:Hid (F0=al R5 (tI k y)):=by rw[um];exact aa HRE
    have CB:=ab jL
    have eV:=ab ((aa jb).kept (aa HL) ((aa Lt).trans hg) hz)
    clear hg hz jL um HRE HW Jl Lt jb
    obtain ⟨yn,yf,yo,ym,ye,yr,yg⟩:=y
    obtain ⟨⟨f1,f2⟩,⟨o1,o2⟩,⟨m1,m2⟩,⟨e1,e2⟩,⟨r1,r2⟩,⟨g1,g2⟩,QI,QJ⟩:=u
    go_upto_region 11 with fail
    go_cut [7] from 24 to 59 (fun v7 wx=>∃(xi:Nat) (t5:ByteArray),v7=.pointer (some ⟨xi,0,none⟩)∧Hid (nH W lo b l W.heap.size (W.heap.size+1) ti jX (xi::(ti::(W.heap.size+1)::W.heap.size::L)) ⟨yn,yf,yo,ym,ye,yr,yg⟩ ⟨(f1,f2),(o1,o2),(m1,m2),(e1,e2),(r1,r2),(g1,g2),QI,QJ⟩ (aT (al R5 (fun s=>ba true (ll true s)))) wx)∧Hid (wx.heap[xi]?=some (.cells #[.int .i64 1,.string ⟨#[]⟩,.string t5,.string ⟨#[]⟩,.int .i64 0,.int .i64 ((yo.length:Nat):Int)] 45 (0,0)))∧Hid (W.heap.size≤xi∧xi≠W.heap.size∧xi≠W.heap.size+1∧xi≠ti)∧Hid (∀a s,(al R5 (fun s=>ba true (ll true s)))=.ok (a,s)→Value.string t5=.string a))
    case first =>
     have hT:Ff.drew.heap[W.heap.size]?=some (.cells #[.string yn,.slice f1 yf.length f2,.slice o1 yo.length o2,.slice m1 ym.length m2,.slice e1 ye.length e2,.slice r1 yr.length r2,.slice g1 yg.length g2] 49 (0,0)):=(aa eV).m
     refine wp_region_any (by kernel_rfl) (dr (z:=7) (T:=fun w=>w.heap[W.heap.size]?=some (.cells #[.string yn,.slice f1 yf.length f2,.slice o1 yo.length o2,.slice m1 ym.length m2,.slice e1 ye.length e2,.slice r1 yr.length r2,.slice g1 yg.length g2] 49 (0,0))) _ _ _ _ ?_)
     try (change dI _ _ _ _ _ _ _ _ _ (World.drew _))
     refine aB 0 (.pointer (some ⟨W.heap.size,2,none⟩)) 46 rfl rfl (Or.inl ⟨by rfl,fun w hw=>by go_simp⟩) hT ?_
     simp only[Act.put,zL,zM,zN]
     refine aB 1 (.slice o1 yo.length o2) 47 rfl rfl (Or.inl ⟨by rfl,fun w hw=>by have c:=(cK hw).1.2.2.1;go_simp⟩) hT ?_
     simp only[Act.put,zL,zM,zN]
     refine aB 2 (.int .i64 ((yo.length:Nat):Int)) 48 rfl rfl (Or.inl ⟨by rfl,fun w hw=>by go_simp⟩) hT ?_
     simp only[Act.put,zL,zM,zN]
     refine aB 3 (.pointer (some ⟨b,0,none⟩)) 49 rfl rfl (Or.inl ⟨by rfl,fun w hw=>by go_simp⟩) hT ?_
     simp only[Act.put,zL,zM,zN]
     refine Fe 4 6 (by kernel_rfl) rfl rfl (fun K hK=>?_) (fun K hK=>?_)
     ·clear hT
      refine eB 50 rfl rfl 37 (A8 _) #[.tmp 49,.const (.bool true),.const (.bool true)] #[55,4,4] rfl #[.pointer (some ⟨b,0,none⟩),.bool true,.bool true] (by first|rfl|simp[Act.eval]) (me (show Zr lo Ff.drew b R5 from (aa eV).z.drew) true true) ?_
      rintro o6 w5 ⟨hg,hz,v6,rfl,⟨t5,rfl⟩,hv⟩
      have cN:Ff.grownBy w5 (some b):=⟨hg.os,hg.tape,hg.output,hg.size,hg.block⟩
      have jl:=ab ((aa eV).kept (aa HL) cN hz)
      have hT:w5.heap[W.heap.size]?=some (.cells #[.string yn,.slice f1 yf.length f2,.slice o1 yo.length o2,.slice m1 ym.length m2,.slice e1 ye.length e2,.slice r1 yr.length r2,.slice g1 yg.length g2] 49 (0,0)):=(aa jl).m
      refine ⟨_,rfl,hK _ _ ⟨fun _=>hT,?_⟩⟩
      have HV:=ab hv
      clear hK K hg hz hv cN
      simp only[Act.put,zL,zM,zN]
      refine aB 5 (.agg #[.int .i64 1,.string ⟨#[]⟩,.string t5,.string ⟨#[]⟩,.int .i64 0,.int .i64 ((yo.length:Nat):Int)]) 51 rfl rfl (Or.inl ⟨by rfl,fun w hw=>by go_simp⟩) hT ?_
      simp only[Act.put,zL,zM,zN]
      have hm5:=ib (aa jl).m
      have hr5:=ib (aa jl).r
      have ht5:ti<w5.heap.size:=by obtain ⟨_,_,_,h⟩:=(aa jl).t;exact ib h
      have hF5:=(aa jl).F.size
      have HX7:=ab ((aa jl).box (.cells #[.int .i64 0,.string ⟨#[]⟩,.string ⟨#[]⟩,.string ⟨#[]⟩,.int .i64 0,.int .i64 0] 45))
      have hq:=aH w5 (.cells #[.int .i64 0,.string ⟨#[]⟩,.string ⟨#[]⟩,.string ⟨#[]⟩,.int .i64 0,.int .i64 0] 45)
      refine aN 6 (by kernel_rfl) rfl (fun K hK=>?_)
      go_simp
      refine hK _ _ ⟨fun _=>bL hT _,?_⟩
      clear hK K
      have K1:=ab (aH w5 (.cells #[.int .i64 1,.string ⟨#[]⟩,.string t5,.string ⟨#[]⟩,.int .i64 0,.int .i64 ((yo.length:Nat):Int)] 45))
      have K2:=ab ((aa jl).box (.cells #[.int .i64 1,.string ⟨#[]⟩,.string t5,.string ⟨#[]⟩,.int .i64 0,.int .i64 ((yo.length:Nat):Int)] 45))
      clear HX7 hq
      refine aN 7 (by kernel_rfl) rfl (fun K hK=>?_)
      go_simp
      refine hK _ _ ⟨fun q=>absurd rfl q,?_⟩
      clear hK K
      refine cP (by kernel_rfl) ?_
      go_wp2
      go_meet
      exact ⟨w5.heap.size,t5,rfl,K2,K1,ab ⟨by omega,by omega,by omega,by omega⟩,HV⟩
     ·skip
      go_simp
      have oU:=(zE Ff.drew.heap.size Ff.drew).alloc (zD _) (.cells #[.int .i64 0,.string ⟨#[]⟩,.string ⟨#[]⟩,.string ⟨#[]⟩,.int .i64 0,.int .i64 0] 45)
      have hm5:=ib (aa eV).m
      have hr5:=ib (aa eV).r
      have ht5:ti<Ff.heap.size:=by obtain ⟨_,_,_,h⟩:=(aa eV).t;exact ib h
      have hF5:=(aa eV).F.size
      have Uh:Hid (nH W lo b l W.heap.size (W.heap.size+1) ti jX (Ff.heap.size::(ti::(W.heap.size+1)::W.heap.size::L)) ⟨yn,yf,yo,ym,ye,yr,yg⟩ ⟨(f1,f2),(o1,o2),(m1,m2),(e1,e2),(r1,r2),(g1,g2),QI,QJ⟩ R5 (Ff.drew.alloc (.cells #[.int .i64 0,.string ⟨#[]⟩,.string ⟨#[]⟩,.string ⟨#[]⟩,.int .i64 0,.int .i64 0] 45))):=((aa eV).kept (aa HL) (yW (zI Ff (some b))) (aa eV).z.drew).box (.cells #[.int .i64 0,.string ⟨#[]⟩,.string ⟨#[]⟩,.string ⟨#[]⟩,.int .i64 0,.int .i64 0] 45)
      have hq0:(Ff.drew.alloc (.cells #[.int .i64 0,.string ⟨#[]⟩,.string ⟨#[]⟩,.string ⟨#[]⟩,.int .i64 0,.int .i64 0] 45)).heap[Ff.heap.size]?=some (.cells #[.int .i64 0,.string ⟨#[]⟩,.string ⟨#[]⟩,.string ⟨#[]⟩,.int .i64 0,.int .i64 0] 45 (0,0)):=aH Ff.drew _
      refine hK _ _ ⟨fun _=>bL hT _,?_⟩
      clear hK K oU hT
      have hT:(Ff.drew.alloc (.cells #[.int .i64 0,.string ⟨#[]⟩,.string ⟨#[]⟩,.string ⟨#[]⟩,.int .i64 0,.int .i64 0] 45)).heap[W.heap.size]?=some (.cells #[.string yn,.slice f1 yf.length f2,.slice o1 yo.length o2,.slice m1 ym.length m2,.slice e1 ye.length e2,.slice r1 yr.length r2,.slice g1 yg.length g2] 49 (0,0)):=(aa Uh).m
      refine aN 4 (by kernel_rfl) rfl (fun K hK=>?_)
      refine eB 50 rfl rfl 37 (A8 _) #[.tmp 49,.const (.bool true),.const (.bool true)] #[55,4,4] rfl #[.pointer (some ⟨b,0,none⟩),.bool true,.bool true] (by first|rfl|simp[Act.eval]) (me (aa Uh).z true true) ?_
      rintro o6 w5 ⟨hg,hz,v6,rfl,⟨t5,rfl⟩,hv⟩
      have HX7:=ab ((aa Uh).kept (aa HL).box hg hz)
      have hq:=ax hg hq0 (by have:=(aa HL).lo;show Ff.heap.size≠b;omega)
      clear hT
      have hT:w5.heap[W.heap.size]?=some (.cells #[.string yn,.slice f1 yf.length f2,.slice o1 yo.length o2,.slice m1 ym.length m2,.slice e1 ye.length e2,.slice r1 yr.length r2,.slice g1 yg.length g2] 49 (0,0)):=(aa HX7).m
      refine ⟨_,rfl,hK _ _ ⟨fun _=>hT,?_⟩⟩
      have HV:=ab hv
      clear hK K hg hz hv hq0
      simp only[Act.put,zL,zM,zN]
      refine aB 5 (.agg #[.int .i64 1,.string ⟨#[]⟩,.string t5,.string ⟨#[]⟩,.int .i64 0,.int .i64 ((yo.length:Nat):Int)]) 51 rfl rfl (Or.inl ⟨by rfl,fun w hw=>by go_simp⟩) hT ?_
      simp only[Act.put,zL,zM,zN]
      obtain ⟨⟨Wm,Wl,Wk,Wj,cx4,cx5⟩,AT⟩:=bE hq
      have fx0:=AT 0
      have fx1:=AT 1
      have fx2:=AT 2
      have fx3:=AT 3
      have fx4:=AT 4
      have fx5:=AT 5
      clear AT
      obtain ⟨k1,k2⟩:=gZ hq (.int .i64 1) (.string ⟨#[]⟩) (.string t5) (.string ⟨#[]⟩) (.int .i64 0) (.int .i64 ((yo.length:Nat):Int))
      unfold mv at k1 k2
      have K1:=ab k1
      have K2:=ab ((aa HX7).gu (aa HL).box k2 (by omega) (by simp) (by omega))
      clear k1 k2
      refine aN 7 (by kernel_rfl) rfl (fun K hK=>?_)
      go_simp
      refine hK _ _ ⟨fun q=>absurd rfl q,?_⟩
      clear hK K
      refine cP (by kernel_rfl) ?_
      go_wp2
      go_meet
      exact ⟨Ff.heap.size,t5,rfl,K2,K1,ab ⟨by omega,by omega,by omega,by omega⟩,HV⟩
    case rest =>
    obtain ⟨w16,fP⟩:∃x,x=wc:=⟨_,rfl⟩
    subst fP
    obtain ⟨xi,t5,rfl,Uh,HXI,WX,Ui⟩:=hcut
    clear eV
    go_upto_region 12 with fail
    have hT:w16.drew.heap[W.heap.size]?=some (.cells #[.string yn,.slice f1 yf.length f2,.slice o1 yo.length o2,.slice m1 ym.length m2,.slice e1 ye.length e2,.slice r1 yr.length r2,.slice g1 yg.length g2] 49 (0,0))∧w16.drew.heap[xi]?=some (.cells #[.int .i64 1,.string ⟨#[]⟩,.string t5,.string ⟨#[]⟩,.int .i64 0,.int .i64 ((yo.length:Nat):Int)] 45 (0,0)):=⟨(aa Uh).m,aa HXI⟩
    refine wp_region_any (by kernel_rfl) (dr (z:=8) (T:=fun w=>w.heap[W.heap.size]?=some (.cells #[.string yn,.slice f1 yf.length f2,.slice o1 yo.length o2,.slice m1 ym.length m2,.slice e1 ye.length e2,.slice r1 yr.length r2,.slice g1 yg.length g2] 49 (0,0))∧w.heap[xi]?=some (.cells #[.int .i64 1,.string ⟨#[]⟩,.string t5,.string ⟨#[]⟩,.int .i64 0,.int .i64 ((yo.length:Nat):Int)] 45 (0,0))) _ _ _ _ ?_)
    try (change dI _ _ _ _ _ _ _ _ _ (World.drew _))
    refine aB 0 (.pointer (some ⟨W.heap.size,1,none⟩)) 52 rfl rfl (Or.inl ⟨by rfl,fun w hw=>by go_simp⟩) hT ?_
    simp only[Act.put,zL,zM,zN]
    refine aB 1 (.slice f1 yf.length f2) 53 rfl rfl (Or.inl ⟨by rfl,fun w hw=>by have c:=(cK hw.1).1.2.1;go_simp⟩) hT ?_
    simp only[Act.put,zL,zM,zN]
    refine aB 2 (.pointer (some ⟨b,0,none⟩)) 54 rfl rfl (Or.inl ⟨by rfl,fun w hw=>by go_simp⟩) hT ?_
    simp only[Act.put,zL,zM,zN]
    refine aB 3 (.agg #[.int .i64 1,.string ⟨#[]⟩,.string t5,.string ⟨#[]⟩,.int .i64 0,.int .i64 ((yo.length:Nat):Int)]) 55 rfl rfl (Or.inl ⟨by rfl,fun w hw=>by obtain ⟨⟨c0,c1,c2,c3,c4,c5⟩,-⟩:=bE hw.2;go_simp⟩) hT ?_
    simp only[Act.put,zL,zM,zN]
    refine aN 4 (by kernel_rfl) rfl (fun K hK=>?_)
    refine eB 56 rfl rfl 131 (Pp _) #[.tmp 54,.tmp 55] #[55,45] rfl #[.pointer (some ⟨b,0,none⟩),.agg #[.int .i64 1,.string ⟨#[]⟩,.string t5,.string ⟨#[]⟩,.int .i64 0,.int .i64 ((yo.length:Nat):Int)]] (by first|rfl|simp[Act.eval]) (Be (show Zr lo w16.drew b _ from (aa Uh).z.drew) ⟨1,⟨#[]⟩,t5,⟨#[]⟩,0,((yo.length:Nat):Int)⟩) ?_
    rintro o6 w17 ⟨hg,hz,v6,rfl,⟨⟨dc,dk,dt,dn,dm,dq⟩,rfl⟩,hv⟩
    rw[Q8 (aa Ui)] at hz hv
    have cN:w16.grownBy w17 (some b):=⟨hg.os,hg.tape,hg.output,hg.size,hg.block⟩
    have dV:=aa WX
    have ji:=(aa HL).lo
    have jl:=ab ((aa Uh).kept (aa HL).box cN hz)
    have js:w17.heap[W.heap.size]?=some (.cells #[.string yn,.slice f1 yf.length f2,.slice o1 yo.length o2,.slice m1 ym.length m2,.slice e1 ye.length e2,.slice r1 yr.length r2,.slice g1 yg.length g2] 49 (0,0)):=(aa jl).m
    have hX6:=ax cN (aa HXI) (by omega)
    have zz:∀a s,(al R5 (cq ((yo.length:Nat):Int)))=.ok (a,s)→a=(⟨dc,dk,dt,dn,dm,dq⟩:Fd):=fun a s e=>by
     have h1:=hv a s e
     obtain ⟨q1,q2,q3,q4,q5,q6⟩:=a
     simp only[Fd.val,Fd.arr,Value.agg.injEq,Array.mk.injEq,List.cons.injEq,Value.int.injEq,Value.string.injEq,true_and,and_true] at h1
     obtain ⟨rfl,rfl,rfl,rfl,rfl,rfl⟩:=h1
     rfl
    have pq:F0=al (aT (al R5 (cq ((yo.length:Nat):Int)))) (jh k ⟨yn,yf++[⟨dc,dk,dt,dn,dm,dq⟩],yo,ym,ye,yr,yg⟩):=by
     rw[aa HRF]
     exact UP (x:=⟨yn,yf,yo,ym,ye,yr,yg⟩) zz
    have ot:=MU (o:=((yo.length:Nat):Int)) (aa zT) (aa CB)
    have rA:pU 1000000000 (bH ⟨yn,yf++[⟨dc,dk,dt,dn,dm,dq⟩],yo,ym,ye,yr,yg⟩) (aT (al R5 (cq ((yo.length:Nat):Int)))):=(aa Ls).next (by unfold bH;simp only[zK];show yf.length+1+yo.length+ym.length+ye.length+yr.length+yg.length≤_;omega) ot
    have HM:Hid (mR (aT (al R5 (cq ((yo.length:Nat):Int))))<gk):=by
     have h1:=aa zu
     show _<gk
     rw[h1]
     cases hr:aT (al R5 (cq ((yo.length:Nat):Int))) with
     |error y=>show 0<s.ts.length+1;omega
     |ok s'=>have:=ot s' hr;show s'.ts.length+1<s.ts.length+1;omega
    have nB:=ab pq
    have HL2:=ab rA
    refine ⟨_,rfl,hK _ _ ⟨fun _=>⟨js,hX6⟩,?_⟩⟩
    clear hK K hg hz hv cN zz pq rA ot HRF CB Ui hT Uh HXI
    simp only[Act.put,zL,zM,zN,Fd.val,Fd.arr]
    refine aN 5 (by kernel_rfl) rfl (fun K hK=>?_)
    go_simp
    refine hK _ _ ⟨fun _=>⟨bL js _,bL hX6 _⟩,?_⟩
    clear hK K
    refine aN 6 (by kernel_rfl) rfl (fun K hK=>?_)
    have Ad:W.heap.size≤w17.heap.size:=(aa jl).F.size
    have kN:=ab ((aa jl).s.alloc (.cells #[.int .i64 dc,.string dk,.string dt,.string dn,.int .i64 dm,.int .i64 dq] 45))
    refine dN rfl (.tmp 53) (.tmp 57) 46 rfl l 45 j0 (.agg #[.int .i64 0,.string ⟨#[]⟩,.string ⟨#[]⟩,.string ⟨#[]⟩,.int .i64 0,.int .i64 0]) 6 72 Tryz.underlying46 hj Tq Tp To rfl (by decide) (.slice f1 yf.length f2) yf.length (mI yf) (by first|rfl|simp[Act.eval]) ((aa kN).sl.own 0 _ rfl) ⟨w17.heap.size,0,none⟩ 1 1 [.int .i64 dc,.string dk,.string dt,.string dn,.int .i64 dm,.int .i64 dq] (by first|rfl|simp[Act.eval]) rfl (df _ _ _) (by simp[Value.oneCell']) (by have:=(aa Ls).1;unfold bH at this;simp only at this;unfold maxLen;omega) (by have:=(aa Ls).1;unfold bH at this;simp only at this;omega) (by rw[zJ];omega) ?_
    intro v7 w7 dx cc jd
    obtain ⟨a7,c7,rfl⟩:=bY dx
    have fK:w7.heap[W.heap.size]?=some (.cells #[.string yn,.slice f1 yf.length f2,.slice o1 yo.length o2,.slice m1 ym.length m2,.slice e1 ye.length e2,.slice r1 yr.length r2,.slice g1 yg.length g2] 49 (0,0)):=(aa kN).sl.lA (i:=0) rfl (by simp) (bL js _) cc
    have hX7:w7.heap[xi]?=some (.cells #[.int .i64 1,.string ⟨#[]⟩,.string t5,.string ⟨#[]⟩,.int .i64 0,.int .i64 ((yo.length:Nat):Int)] 45 (0,0)):=(aa kN).sl.lA (i:=0) rfl (by simp) (bL hX6 _) cc
    have ky:=aC (j:=1) fK (.slice a7 (yf.length+1) c7)
    have hHN:nH W lo b l W.heap.size (W.heap.size+1) ti jX (ti::(W.heap.size+1)::W.heap.size::L) ⟨yn,yf++[⟨dc,dk,dt,dn,dm,dq⟩],yo,ym,ye,yr,yg⟩ ⟨(a7,c7),(o1,o2),(m1,m2),(e1,e2),(r1,r2),(g1,g2),QI,QJ⟩ (aT (al R5 (cq ((yo.length:Nat):Int)))) (w7.setCell ⟨W.heap.size,1,none⟩ (.slice a7 (yf.length+1) c7)):=by
     refine (((aa jl).box (.cells #[.int .i64 dc,.string dk,.string dt,.string dn,.int .i64 dm,.int .i64 dq] 45)).app (x':=⟨yn,yf++[⟨dc,dk,dt,dn,dm,dq⟩],yo,ym,ye,yr,yg⟩) (v':=⟨(a7,c7),(o1,o2),(m1,m2),(e1,e2),(r1,r2),(g1,g2),QI,QJ⟩) (aa HL).box.box (i:=0) rfl dx cc jd ?_ rfl rfl rfl rfl ?_ ky.2).less (L':=(ti::(W.heap.size+1)::W.heap.size::L)) (fun k hk=>zF _ (zF _ hk))
     ·simp only[MV.ss,td,zK,rH]
      rfl
     ·simp only[MV.arr,zK]
      exact ky.1
    have HN:Hid (∃(y:Mp) (u:MV),nH W lo b l W.heap.size (W.heap.size+1) ti jX (ti::(W.heap.size+1)::W.heap.size::L) y u (aT (al R5 (cq ((yo.length:Nat):Int)))) (w7.setCell ⟨W.heap.size,1,none⟩ (.slice a7 (yf.length+1) c7))∧F0=al (aT (al R5 (cq ((yo.length:Nat):Int)))) (jh k y)∧(true=true↔¬y.fs.length=k)∧k≤y.fs.length∧pU 1000000000 (bH y) (aT (al R5 (cq ((yo.length:Nat):Int))))):=⟨_,_,hHN,aa nB,⟨fun _=>by have h1:k≤yf.length:=aa Um;simp only[zK,List.length_cons,List.length_nil];omega,fun _=>rfl⟩,by have h1:k≤yf.length:=aa Um;simp only[zK,List.length_cons,List.length_nil];omega,aa HL2⟩
    have TY:=(cK fK).1.2.1
    have fm2:=(cK fK).2 1
    refine hK _ _ ⟨fun _=>⟨fK,hX7⟩,?_⟩
    clear hK K dx cc jd ky js kN hHN hX6
    simp only[Act.put,zL]
    refine aN 7 (by kernel_rfl) rfl (fun K hK=>?_)
    go_simp
    refine hK _ _ ⟨fun _=>⟨fK,hX7⟩,?_⟩
    clear hK K
    refine aN 8 (by kernel_rfl) rfl (fun K hK=>?_)
    go_simp
    refine hK _ _ ⟨fun q=>absurd rfl q,?_⟩
    clear hK K
    refine cP (by kernel_rfl) ?_
    go_wp2
    go_roundg (mR (aT (al R5 (cq ((yo.length:Nat):Int)))))
    case measure=>exact aa HM
    case rel=>exact ⟨true,_,rfl,rfl,by obtain ⟨y,u,h1,h2,h3,h4,h5⟩:=aa HN;exact ⟨y,u,h1,h2,⟨fun _=>h3.1 trivial,fun _=>rfl⟩,h4,h5⟩⟩
end Go.Proofs.YtjophoclfccmcaaGreatDoor
