import Derived.Test.YtjophoclfccmcaaGreatDoorM43
set_option maxHeartbeats 4000000
set_option maxRecDepth 100000
namespace Go.Proofs.YtjophoclfccmcaaGreatDoor
open Go.RowKit
attribute [local go_sem ↓] Go.wp_at_zero Go.wp_at_succ
theorem O9 (w:World) (vs:Array Value):(callFunc 71 vs).run Tryz.prog w=.ok (.enter 71 vs) w:=by
 have hn:¬Tryz.f71.name = "runtime.NumGoroutine" := by decide +kernel
 have hb:Tryz.f71.body.isSome=true:=by kernel_rfl
 obtain ⟨c,hc⟩:=zG hb
 simp[callFunc,Tryz.func71,hn,hc]
theorem O8 (w:World) (vs:Array Value):(callFunc 131 vs).run Tryz.prog w=.ok (.enter 131 vs) w:=by
 have hn:¬Tryz.f131.name = "runtime.NumGoroutine" := by decide +kernel
 have hb:Tryz.f131.body.isSome=true:=by kernel_rfl
 obtain ⟨c,hc⟩:=zG hb
 simp[callFunc,Tryz.func131,hn,hc]
theorem Bd (w:World) (vs:Array Value):(callFunc 37 vs).run Tryz.prog w=.ok (.enter 37 vs) w:=by
 have hn:¬Tryz.f37.name = "runtime.NumGoroutine" := by decide +kernel
 have hb:Tryz.f37.body.isSome=true:=by kernel_rfl
 obtain ⟨c,hc⟩:=zG hb
 simp[callFunc,Tryz.func37,hn,hc]
theorem dQ {P:Program}{w:World}{ops:Array Oper}{o:Oper}{a:Act}{K:Act→World→Prop}{Q:Exit→Act→World→Prop}{E:Prop} (rU:o.guard=none) (s x:Operand) (t:TypeId)
  (ho:o.op=.call { callee:=.builtin .append,args:=#[s,x],argTypes:=#[t,t] })
  (base:Nat) (e:TypeId) (i:TypeInfo) (z:Value) (size bytes:Nat) (ht:P.underlying t=some (.slice e)) (hi:P.info? e=some i) (hz:i.zero=some z)
  (NT:i.size=size) (B4:i.bytes=bytes) (hzs:z.cells.size=size) (cl:0<size)
  (v:Value) (n:Nat) (xs:List Value) (hs:a.eval s=v) (oh:w.ownsRow base e size v n xs)
  (ad:Addr) (m c:Nat) (news:List Value) (hx:a.eval x=.slice (some ad) m c) (hl:news.length=m*size) (N7:∀j u,news[j]?=some u→w.cell? (ad.add j)=some u) (h1:∀u ∈ news,u.oneCell'=true)
  (ZW:n+m≤maxLen) (yQ:(n+m)*bytes≤140737488355328) (cK:base≤w.heap.size)
  (h:∀v' w',w'.ownsRow base e size v' (n+m) (xs++news)→w.grownBy w' v.ownBlock→(v'.ownBlock=v.ownBlock∨v'.ownBlock=some w.heap.size)→K (a.put o.dst v') w') :
  if Region.wanted o (yielded ops a.tmps)=true then Oper.wp P o a w K Q else E:=by
 have hw:Region.wanted o (yielded ops a.tmps)=true:=by simp[Region.wanted,rU]
 rw[if_pos hw]
 obtain ⟨v',w',hr,h2,h3,h4,h5⟩:=run_append_own_at (P:=P) w base t o.type e i z size bytes ht hi hz NT B4 hzs cl v n xs oh ad m c news hl N7 h1 ZW yQ cK
 unfold Oper.wp execOp
 simp only[ho,resolve,invoke,builtin,Sem.run_bind,Sem.run_pure,Result.andThen_ok,List.map_toArray,List.map_cons,List.map_nil,hs,hx,hr]
 exact h v' w' h2 h3 h5
theorem nE.less {W w:World}{lo b l mi ri ti:Nat}{j3:List Slot}{L L':List Nat}{x:Mp}{v:MV}{R:PX} (h:nE W lo b l mi ri ti j3 L x v R w) (hl:∀k ∈ L',k ∈ L):nE W lo b l mi ri ti j3 L' x v R w:=⟨h.F,h.z,h.m,h.r,h.t,h.s.less hl,h.og⟩
theorem QT {s0 s4:ax}{pt:Int} (hg:Gd s0) (h:aT (al (aT (al (aT (al (aT (al (.ok s0) (aN pt))) (cn EZ))) aQ)) (au ⟨#[123]⟩))=.ok s4):s4.ts.length<s0.ts.length:=by
 simp only[fh,jE,seq_assoc] at h
 simp only[al] at h
 cases h1:aN pt s0 with
 |error y=>rw[h1] at h;cases h
 |ok p1 =>
  have e1:p1.2.ts=s0.ts∧p1.2.en=s0.en:=by unfold aN at h1;split at h1;cases h1;cases h1;exact ⟨rfl,rfl⟩
  rw[h1,aK] at h
  cases h2:cn EZ p1.2 with
  |error y=>rw[h2] at h;cases h
  |ok p2 =>
   have e2:p2.2.ts=p1.2.ts.tail∧p2.2.en=p1.2.en:=by unfold cn at h2;split at h2;cases h2;exact ⟨rfl,rfl⟩;cases h2
   rw[h2,aK] at h
   cases h3:aQ p2.2 with
   |error y=>rw[h3] at h;cases h
   |ok p3 =>
    obtain ⟨a3,s3⟩:=p3
    have e3:=dS (gz h3) (kS h3 (by rw[e2.2,e1.2];exact hg.en))
    rw[h3,aK] at h
    dsimp only at h
    cases h4:au ⟨#[123]⟩ s3 with
    |error y=>rw[h4] at h;cases h
    |ok p4 =>
     obtain ⟨a4,s5⟩:=p4
     have e4:=(bB h4).len
     rw[h4] at h
     obtain rfl:s5=s4:=by simpa[aT] using h
     have e5:p2.2.ts.length≤s0.ts.length:=by rw[e2.1,e1.1,List.length_tail];omega
     omega
theorem NH:(Tryz.prog.info? 45).map (fun i=>(i.zero,i.size,i.bytes))=some (some (.agg #[.int .i64 0,.string ⟨#[]⟩,.string ⟨#[]⟩,.string ⟨#[]⟩,.int .i64 0,.int .i64 0]),6,72):=by kernel_rfl
theorem Fo {P:Program}{md:Region.Mode}{ops:Array Oper}{Q:Exit→Act→World→Prop}{T:World→Prop}{z:Nat} (i j:Nat) {oi oj:Oper}{n:Nat}{d:Array Bool}{a:Act}{w:World} (hr:Region.ready md ops d=[i,j]) (hi:ops[i]?=some oi) (hj:ops[j]?=some oj)
  (h1:∀K:Act→World→Prop,(∀a' w',((i≠z→T w')∧dT P md ops Q T z n (d.setIfInBounds i true) a' w')→K a' w')→if Region.wanted oi (yielded ops a.tmps)=true then Oper.wp P oi a w K Q else K (a.put oi.dst undef) w)
  (h2:∀K:Act→World→Prop,(∀a' w',((j≠z→T w')∧dT P md ops Q T z n (d.setIfInBounds j true) a' w')→K a' w')→if Region.wanted oj (yielded ops a.tmps)=true then Oper.wp P oj a w K Q else K (a.put oj.dst undef) w):dT P md ops Q T z (n+1) d a w:=by
 refine ⟨fun h0=>(by rw[h0] at hr;cases hr),fun k hk=>?_⟩
 rw[hr] at hk
 rcases (by simpa using hk:k=i∨k=j) with rfl|rfl
 ·exact wpOp_step hi h1
 ·exact wpOp_step hj h2
theorem UW {c L:Nat}{R:PX}{q:Bool}{x:ByteArray} (h:pO c L R):pO c L (aT (al (Uu q R) (au x))):=by
 refine ⟨h.1,fun s' e=>?_⟩
 unfold Uu at e
 split at e
 ·match R,h,e with
  |.error y,_,e=>cases e
  |.ok s,h,e =>
   rw[show al (.ok s) (au x)=au x s from rfl] at e
   cases h4:au x s with
   |error y=>rw[h4] at e;cases e
   |ok p =>
    obtain ⟨a4,s5⟩:=p
    rw[h4] at e
    obtain rfl:s5=s':=by simpa[aT] using e
    exact Nat.le_trans (Nat.add_le_add_left (Nat.mul_le_mul_left 50000 (bB h4).len) L) (h.2 s rfl)
 ·match R,e with
  |.error y,e=>cases e
  |.ok s,e=>cases e
theorem MO {s:ax}{R5:PX}{o:Int} (hg:Gd s) (hs:∀s',R5=.ok s'→s'=s):∀s',aT (al R5 (cu o))=.ok s'→s'.ts.length<s.ts.length:=by
 intro s' e
 match R5,hs,e with
 |.error y,_,e=>cases e
 |.ok s1,fP,e =>
  obtain rfl:=fP s1 rfl
  rw[show al (.ok s1) (cu o)=cu o s1 from rfl] at e
  cases hr:cu o s1 with
  |error y=>rw[hr] at e;cases e
  |ok p =>
   rw[hr] at e
   cases e
   obtain ⟨h1,h2⟩:=jQ (x:=p.1) hr
   exact dS h1 (h2 hg.en)
theorem gJ {w:World}{g:Nat}{o:Obj} (h:w.heap[g]?=some o):g<w.heap.size:=(zA h).1
def MbQ (lo b l:Nat) (L:List Nat) (W:World) (ss:List Slot) (r:Except (Int×Int) (Mp×ax)) (e:Ending) (w:World):Prop:=Fm b ss W w∧Zr lo w b (aT r)∧∃(x':Mp) (v':MV),e=.returned (.agg (v'.arr x'))∧nI l L w x' v'∧OG W ss (v'.ss x')∧pO 1000000000 (bJ x') (aT r)∧∀a s,r=.ok (a,s)→a=x'
theorem LP {W:World}{lo b l:Nat}{L:List Nat}{R:PX}{x:Mp}{v:MV} (h:Zr lo W b R) (hl:lo≤l∧l≤W.heap.size) (hM:nI l L W x v) (hB:pO 1000000000 (bJ x) R) (hR:∃s0,R=.ok s0) (hk:∀s,R=.ok s→aH s.here 1 EZ=true):Calls Tryz.prog 109 #[.pointer (some ⟨b,0,none⟩),.agg (v.arr x)] W (MbQ lo b l L W (v.ss x) (al R (fM x))):=by
 obtain ⟨i0,hi,tZ,tY,jg⟩:=info_parts rk
 obtain ⟨j0,hj,Ti,Th,Tg⟩:=info_parts NH
 have cC:=h.low
 obtain ⟨s0,rfl⟩:=hR
 have lZ:Hid (lp (.ok s0)):=h.2
 have HK:=ab hk
 have HB:=ab hB
 obtain ⟨nm,fs,os,ms,es,rs,gs⟩:=x
 obtain ⟨⟨fa,fc⟩,⟨oa,oc⟩,⟨ma,mc⟩,⟨ea,ec⟩,⟨ra,rc⟩,⟨ga,gc⟩,cm,ce⟩:=v
 obtain ⟨j3,Kw⟩:∃j3,j3=MV.ss ⟨(fa,fc),(oa,oc),(ma,mc),(ea,ec),(ra,rc),(ga,gc),cm,ce⟩ ⟨nm,fs,os,ms,es,rs,gs⟩:=⟨_,rfl⟩
 obtain ⟨F0,sM⟩:∃F0,F0=al (.ok s0) (fM ⟨nm,fs,os,ms,es,rs,gs⟩):=⟨_,rfl⟩
 have Fe:=ab sM
 have PL:Hid (OG W j3 (MV.ss ⟨(fa,fc),(oa,oc),(ma,mc),(ea,ec),(ra,rc),(ga,gc),cm,ce⟩ ⟨nm,fs,os,ms,es,rs,gs⟩)):=fun i sl k hi hk=>.inr ⟨i,sl,by rw[Kw];exact hi,hk⟩
 have bK:=(zE W.heap.size W).alloc (zD _) (.cells #[.string nm,.slice fa fs.length fc,.slice oa os.length oc,.slice ma ms.length mc,.slice ea es.length ec,.slice ra rs.length rc,.slice ga gs.length gc] 49)
 have ZN:=hM.box (.cells #[.string nm,.slice fa fs.length fc,.slice oa os.length oc,.slice ma ms.length mc,.slice ea es.length ec,.slice ra rs.length rc,.slice ga gs.length gc] 49)
 have Om:=ZN.box (.cells E7 49)
 rw[zJ] at Om
 have xO:=ab Om
 have bo:=bK.alloc bK.size (.cells E7 49)
 have iJ:=ab bo
 have HZ:=ab (h.up bo)
 have Wv:Hid (((W.alloc (.cells #[.string nm,.slice fa fs.length fc,.slice oa os.length oc,.slice ma ms.length mc,.slice ea es.length ec,.slice ra rs.length rc,.slice ga gs.length gc] 49)).alloc (.cells E7 49)).heap[W.heap.size]?=some (.cells #[.string nm,.slice fa fs.length fc,.slice oa os.length oc,.slice ma ms.length mc,.slice ea es.length ec,.slice ra rs.length rc,.slice ga gs.length gc] 49 (0,0))):=bL (aF _ _) _
 have Kx:=aF (W.alloc (.cells #[.string nm,.slice fa fs.length fc,.slice oa os.length oc,.slice ma ms.length mc,.slice ea es.length ec,.slice ra rs.length rc,.slice ga gs.length gc] 49)) (.cells E7 49)
 rw[zJ] at Kx
 have aW:=ab Kx
 clear h hk hB hM ZN Om bK bo Kx sM
 unfold MV.arr
 simp only
 rw[←Kw,←aa Fe]
 unfold E7 at xO iJ HZ Wv aW
 go_enter Tryz.func109,Tryz.ntmps109
 go_wp2_with fail
 refine (gm (aa HZ)).mono ?_
 rintro e w1 ⟨⟨kt,pt,tt⟩,rfl,hb,hp⟩
 have po:=ab hp
 have uc:=hb.size
 simp only[zJ] at uc
 have P7:=aM hb (some b)
 have Xu:nE W lo b l W.heap.size (W.heap.size+1) w1.heap.size j3 (w1.heap.size::(W.heap.size+1)::W.heap.size::L) ⟨nm,fs,os,ms,es,rs,gs⟩ ⟨(fa,fc),(oa,oc),(ma,mc),(ea,ec),(ra,rc),(ga,gc),cm,ce⟩ (.ok s0) (w1.alloc (.cells #[.int .i64 kt,.int .i64 pt,.string tt] 38)) :=
  ⟨((Fm.refl b j3 W).below (aa iJ)).below (hb.alloc hb.size _),(aa HZ).up (hb.alloc hb.size _),bL (aw P7 (aa Wv) (by omega)) _,bL (aw P7 (aa aW) (by omega)) _,⟨kt,pt,tt,aF _ _⟩,((aa xO).kept P7 (.inl (by omega))).box _,aa PL⟩
 have LL:Hid ((w1.alloc (.cells #[.int .i64 kt,.int .i64 pt,.string tt] 38)).heap[w1.heap.size]?=some (.cells #[.int .i64 kt,.int .i64 pt,.string tt] 38 (0,0))):=aF _ _
 have HL:Hid (S4 W lo b l W.heap.size (W.heap.size+1) w1.heap.size (w1.heap.size::(W.heap.size+1)::W.heap.size::L)):=⟨⟨cC.1,hl.1,hl.2⟩,zD _,by omega,by omega,⟨by omega,by omega,by omega⟩,⟨by simp,by simp,by simp⟩⟩
 have HX:=ab Xu
 obtain ⟨ti,IC⟩:∃t,t=w1.heap.size:=⟨_,rfl⟩
 have abi:W.heap.size+2≤ti:=by omega
 rw[←IC] at HX LL HL
 clear hb hp P7 Xu xO iJ HZ Wv aW PL uc
 obtain ⟨⟨c0,c1,c2⟩,Zz⟩:=dF (aa LL)
 clear Zz
 unfold Tk.val
 rw[IC] at c0 c1 c2
 go_wp2_with fail
 refine (eB (aa HX).z ⟨kt,pt,tt⟩).mono ?_
 rintro e w2 ⟨hg,hz,v0,rfl,mA,-⟩
 obtain rfl:=mA
 have tc:=ab ((aa HX).kept (aa HL) hg hz)
 clear hg hz HX c0 c1 c2 LL
 rw[←IC]
 clear IC
 go_wp2_with fail
 refine (oL (aa tc).z EZ).mono ?_
 rintro e w3 ⟨hg,hz,v0,rfl,mA,-⟩
 obtain rfl:=mA
 have SQ:=ab ((aa tc).kept (aa HL) hg hz)
 clear hg hz tc
 obtain ⟨R2,LF⟩:∃R2,R2=aT (al (aT (al (.ok s0) (aN pt))) (cn EZ)):=⟨_,rfl⟩
 rw[←LF] at SQ
 have qB:=ab LF
 clear LF
 go_upto_region 4 with fail
 go_cut [] (fun wx=>∃(n1:ByteArray) (oa':Option Addr) (oc':Nat),Hid (nE W lo b l W.heap.size (W.heap.size+1) ti j3 (ti::(W.heap.size+1)::W.heap.size::L) ⟨nm,fs,os++[n1],ms,es,rs,gs⟩ ⟨(fa,fc),(oa',oc'),(ma,mc),(ea,ec),(ra,rc),(ga,gc),cm,ce⟩ (aT (al R2 aQ)) wx)∧Hid (∀a s,al R2 aQ=.ok (a,s)→Value.string n1=.string a))
 case first =>
  have hT:w3.drew.heap[W.heap.size]?=some (.cells #[.string nm,.slice fa fs.length fc,.slice oa os.length oc,.slice ma ms.length mc,.slice ea es.length ec,.slice ra rs.length rc,.slice ga gs.length gc] 49 (0,0)):=(aa SQ).m
  refine wp_region_any (by kernel_rfl) (dL (z:=7) (T:=fun w=>w.heap[W.heap.size]?=some (.cells #[.string nm,.slice fa fs.length fc,.slice oa os.length oc,.slice ma ms.length mc,.slice ea es.length ec,.slice ra rs.length rc,.slice ga gs.length gc] 49 (0,0))) _ _ _ _ ?_)
  try (change dT _ _ _ _ _ _ _ _ _ (World.drew _))
  refine wpAnyZ_tk 0 (.pointer (some ⟨W.heap.size,2,none⟩)) 15 rfl rfl (Or.inl ⟨by rfl,fun w _=>by go_simp⟩) hT ?_
  simp only[Act.put,zL,zM,zN]
  refine wpAnyZ_tk 1 (.slice oa os.length oc) 16 rfl rfl (Or.inl ⟨by rfl,fun w hw=>by have c:=(cL hw).1.2.2.1;go_simp⟩) hT ?_
  simp only[Act.put,zL,zM,zN]
  refine wpAnyZ_tk 2 (.pointer (some ⟨b,0,none⟩)) 17 rfl rfl (Or.inl ⟨by rfl,fun w hw=>by go_simp⟩) hT ?_
  simp only[Act.put,zL,zM,zN]
  refine aO 3 (by kernel_rfl) rfl (fun K hK=>?_)
  refine eJ 18 rfl rfl 71 (O9 _) #[.tmp 17] #[55] rfl #[.pointer (some ⟨b,0,none⟩)] (by first|rfl|simp[Act.eval]) (lA (show Zr lo w3.drew b R2 from (aa SQ).z.drew)) ?_
  rintro o6 w6 ⟨hg,hz,v6,rfl,⟨n1,rfl,iI⟩,hv⟩
  have cO:w3.grownBy w6 (some b):=⟨hg.os,hg.tape,hg.output,hg.size,hg.block⟩
  have jk:=ab ((aa SQ).kept (aa HL) cO hz)
  have jr:w6.heap[W.heap.size]?=some (.cells #[.string nm,.slice fa fs.length fc,.slice oa os.length oc,.slice ma ms.length mc,.slice ea es.length ec,.slice ra rs.length rc,.slice ga gs.length gc] 49 (0,0)):=(aa jk).m
  refine ⟨_,rfl,hK _ _ ⟨fun _=>jr,?_⟩⟩
  have HV:=ab hv
  clear hK K hg hz hv cO iI
  simp only[Act.put,zL,zM,zN]
  refine aO 4 (by kernel_rfl) rfl (fun K hK=>?_)
  go_simp
  refine hK _ _ ⟨fun _=>bL jr _,?_⟩
  clear hK K
  refine aO 5 (by kernel_rfl) rfl (fun K hK=>?_)
  have Ae:W.heap.size≤w6.heap.size:=(aa jk).F.size
  have kL:=ab ((aa jk).s.alloc (.cells #[.string n1] 9))
  refine dQ rfl (.tmp 16) (.tmp 19) 22 rfl l 9 i0 (.string ⟨#[]⟩) 1 16 Tryz.underlying22 hi tZ tY jg rfl (by decide) (.slice oa os.length oc) os.length (dV os) (by first|rfl|simp[Act.eval]) ((aa kL).sl.own 1 _ rfl) ⟨w6.heap.size,0,none⟩ 1 1 [.string n1] (by first|rfl|simp[Act.eval]) rfl (cN _ _ _) (by simp[Value.oneCell']) (by have:=(aa HB).1;unfold bJ at this;simp only at this;unfold maxLen;omega) (by have:=(aa HB).1;unfold bJ at this;simp only at this;omega) (by rw[zJ];omega) ?_
  intro v7 w7 dz cc jc
  obtain ⟨a7,c7,rfl⟩:=bY dz
  have fQ:w7.heap[W.heap.size]?=some (.cells #[.string nm,.slice fa fs.length fc,.slice oa os.length oc,.slice ma ms.length mc,.slice ea es.length ec,.slice ra rs.length rc,.slice ga gs.length gc] 49 (0,0)):=(aa kL).sl.lz (i:=1) rfl (by simp) (bL jr _) cc
  have ks:=aC (j:=2) fQ (.slice a7 (os.length+1) c7)
  have HN7:Hid (nE W lo b l W.heap.size (W.heap.size+1) ti j3 (ti::(W.heap.size+1)::W.heap.size::L) ⟨nm,fs,os++[n1],ms,es,rs,gs⟩ ⟨(fa,fc),(a7,c7),(ma,mc),(ea,ec),(ra,rc),(ga,gc),cm,ce⟩ (aT (al R2 aQ)) (w7.setCell ⟨W.heap.size,2,none⟩ (.slice a7 (os.length+1) c7))):=by
   refine (((aa jk).box (.cells #[.string n1] 9)).app (x':=⟨nm,fs,os++[n1],ms,es,rs,gs⟩) (v':=⟨(fa,fc),(a7,c7),(ma,mc),(ea,ec),(ra,rc),(ga,gc),cm,ce⟩) (aa HL).box (i:=1) rfl dz cc jc ?_ rfl rfl rfl rfl ?_ ks.2).less (L':=(ti::(W.heap.size+1)::W.heap.size::L)) (fun k hk=>zF _ hk)
   ·simp only[MV.ss,sY,zK,mj]
    rfl
   ·simp only[MV.arr,zK]
    exact ks.1
  have TM:=(cL fQ).1.2.2.1
  have fm2:=(cL fQ).2 2
  refine hK _ _ ⟨fun _=>fQ,?_⟩
  clear hK K dz cc jc ks jr kL
  simp only[Act.put,zL]
  refine aO 6 (by kernel_rfl) rfl (fun K hK=>?_)
  go_simp
  refine hK _ _ ⟨fun _=>fQ,?_⟩
  clear hK K
  refine aO 7 (by kernel_rfl) rfl (fun K hK=>?_)
  go_simp
  refine hK _ _ ⟨fun q=>absurd rfl q,?_⟩
  clear hK K
  refine df (by kernel_rfl) ?_
  go_wp2
  go_meet
  exact ⟨n1,a7,c7,HN7,HV⟩
 case rest =>
 obtain ⟨w8,fV⟩:∃x,x=wc:=⟨_,rfl⟩
 subst fV
 obtain ⟨n1,oa1,oc1,HX8,HV⟩:=hcut
 have HS:=ab (ML (x:=⟨nm,fs,os,ms,es,rs,gs⟩) (aa lZ) (aa po) (aa HK) (by rw[←aa qB];exact (aa HX8).z.2) (by rw[←aa qB];exact aa HV))
 go_wp2_with fail
 refine (eZ (aa HX8).z ⟨#[123]⟩).mono ?_
 rintro e w9 ⟨hg,hz,v0,rfl,mA,-⟩
 obtain rfl:=mA
 have HX9:=ab ((aa HX8).kept (aa HL) hg hz)
 obtain ⟨R4,IN⟩:∃R4,R4=aT (al (aT (al R2 aQ)) (au ⟨#[123]⟩)):=⟨_,rfl⟩
 rw[←aa qB,←IN,←aa Fe] at HS
 rw[←IN] at HX9
 have aaH:Hid (pO 1000000000 (bJ ⟨nm,fs,os++[n1],ms,es,rs,gs⟩) R4):=(aa HB).next (by unfold bJ;simp only[zK];show fs.length+(os.length+1)+ms.length+es.length+rs.length+gs.length≤_;omega) (fun s' e=>by
  rw[IN,aa qB] at e
  exact QT (aa lZ) e)
 obtain ⟨k,hk⟩:∃k,k=fs.length:=⟨_,rfl⟩
 rw[show (⟨nm,fs,os,ms,es,rs,gs⟩:Mp).fs.length=fs.length from rfl,←hk] at HS
 have XQ:Hid (∃(y:Mp) (u:MV),nE W lo b l W.heap.size (W.heap.size+1) ti j3 (ti::(W.heap.size+1)::W.heap.size::L) y u R4 w9∧F0=al R4 (jf k y)∧(false=true↔¬y.fs.length=k)∧k≤y.fs.length∧pO 1000000000 (bJ y) R4):=⟨_,_,aa HX9,aa HS,⟨fun q=>(by cases q),fun q=>absurd hk.symm q⟩,by rw[hk];exact zD _,aa aaH⟩
 clear hg hz HX8 SQ HV lZ po HK qB HX9 HS aaH hk IN
 go_wp2
 go_loopg [6,7] (mR R4) (fun gk v6 _ wr=>∃(q:Bool) (Rk:PX),v6=.bool q∧gk=mR Rk∧Hid (∃(y:Mp) (u:MV),nE W lo b l W.heap.size (W.heap.size+1) ti j3 (ti::(W.heap.size+1)::W.heap.size::L) y u Rk wr∧F0=al Rk (jf k y)∧(q=true↔¬y.fs.length=k)∧k≤y.fs.length∧pO 1000000000 (bJ y) Rk))
 case atStart=>exact ⟨false,R4,rfl,rfl,XQ⟩
 case round =>
  clear XQ HB
  obtain ⟨sm,Rk,rfl,dY,HXX⟩:=hrel
  have zz:=ab dY
  clear dY
  obtain ⟨y,u,lq,hf,hq,hle,P5⟩:=aa HXX
  have HX:=ab lq
  have HF:=ab hf
  have HQ:=ab hq
  have Ub:=ab hle
  have Ls:=ab P5
  obtain ⟨er,Sz,her⟩:=lq.z.err
  clear hf hq hle P5 HXX
  go_upto_region 7 with fail
  go_cut [33] from 24 to 59 (fun v33 wx=>v33=.bool (MW Rk&&!(gd Rk 4 ⟨#[125]⟩))∧Hid (Below wr.heap.size wr wx))
  case first =>
   cases Rk with
   |error y =>
    replace her:(er==0)=false:=her
    go_wp2
    go_meet
    exact ⟨rfl,zE _ _⟩
   |ok s =>
    replace her:(er==0)=true:=her
    go_wp2_with fail
    refine (iw (aa HX).z 4 (by decide) ⟨#[125]⟩).mono ?_
    rintro e w0 ⟨rfl,hb⟩
    have HBB:=ab hb
    clear hb
    go_wp2
    go_meet
    exact ⟨rfl,HBB⟩
  case rest =>
  obtain ⟨w11,fV⟩:∃x,x=wc:=⟨_,rfl⟩
  subst fV
  obtain ⟨rfl,hb⟩:=hcut
  have Qh:=ab ((aa HX).kept (aa HL) (aM (aa hb) (some b)) ((aa HX).z.up (aa hb)))
  clear hb Sz her lq HX
  obtain ⟨q,hq⟩:∃q,(MW Rk&&!(gd Rk 4 ⟨#[125]⟩))=q:=⟨_,rfl⟩
  rw[hq]
  have jw:=ab hq
  clear hq
  cases q with
  |false =>
   have hq:∀s,Rk=.ok s→aH s.here 4 ⟨#[125]⟩=true:=by
    intro s e
    have hq:=aa jw
    rw[e] at hq
    have:(true&&!(aH s.here 4 ⟨#[125]⟩))=false:=hq
    cases hp:aH s.here 4 ⟨#[125]⟩ with
    |true=>rfl
    |false=>rw[hp] at this;cases this
   obtain ⟨e1,e2⟩:=UF (aa Qh).z.2 hq (aa HQ) (aa HF)
   have rY:=ab e1
   have lM:=ab e2
   clear hq e1 e2 jw
   go_upto_if 61 with fail
   go_cut [] (fun wx=>Hid (World.grownBy w11 wx (some b)∧Zr lo wx b (Uu sm Rk)))
   case first =>
    cases sm with
    |false =>
     go_wp2_with fail
     refine (kM (aa Qh).z).mono ?_
     rintro e w0 ⟨rfl,hg,hz⟩
     have HH:Hid (World.grownBy w11 w0 (some b)∧Zr lo w0 b (Uu false Rk)):=⟨hg,hz⟩
     clear hg hz
     go_wp2
     go_meet
     exact HH
    |true =>
     go_wp2
     go_meet
     exact ⟨zI _ _,(aa Qh).z⟩
   case rest =>
   obtain ⟨JH,fV⟩:∃x,x=wc:=⟨_,rfl⟩
   subst fV
   obtain ⟨hg,hz⟩:=aa hcut
   have ja:=ab ((aa Qh).kept (aa HL) hg hz)
   clear hg hz hcut Qh
   go_wp2_with fail
   refine (eZ (aa ja).z ⟨#[125]⟩).mono ?_
   rintro e w13 ⟨hg,hz,v0,rfl,mA,-⟩
   obtain rfl:=mA
   have eW:=ab ((aa ja).kept (aa HL) hg hz)
   clear hg hz ja
   obtain ⟨yn,yf,yo,ym,ye,yr,yg⟩:=y
   obtain ⟨⟨f1,f2⟩,⟨o1,o2⟩,⟨m1,m2⟩,⟨e1,e2⟩,⟨r1,r2⟩,⟨g1,g2⟩,Qs,Qt⟩:=u
   have hm:w13.heap[W.heap.size]?=some (.cells #[.string yn,.slice f1 yf.length f2,.slice o1 yo.length o2,.slice m1 ym.length m2,.slice e1 ye.length e2,.slice r1 yr.length r2,.slice g1 yg.length g2] 49 (0,0)):=(aa eW).m
   have hr:w13.heap[W.heap.size+1]?=some (.cells #[.string ⟨#[]⟩,.slice none 0 0,.slice none 0 0,.slice none 0 0,.slice none 0 0,.slice none 0 0,.slice none 0 0] 49 (0,0)):=(aa eW).r
   obtain ⟨⟨TN,XF,TM,XE,cm4,cm5,cm6⟩,RQ⟩:=cL hm
   obtain ⟨⟨xE,xD,xC,cr3,cr4,cr5,cr6⟩,du⟩:=cL hr
   have um:=du 0
   have uk:=du 1
   have uj:=du 2
   have fr3:=du 3
   have fr4:=du 4
   have fr5:=du 5
   have fr6:=du 6
   obtain ⟨t1,t2⟩:=dM hr (.string yn) (.slice f1 yf.length f2) (.slice o1 yo.length o2) (.slice m1 ym.length m2) (.slice e1 ye.length e2) (.slice r1 yr.length r2) (.slice g1 yg.length g2)
   have T1:=ab t1
   have T2:=ab ((aa eW).F.gA t2 (by omega))
   have T3:=ab ((aa eW).z.gA t2 (by omega))
   have T4:=ab (((aa eW).s.kept t2 (.inr (by simp))).less (L':=L) (fun k hk=>zF _ (zF _ (zF _ hk))))
   have T5:=ab (aa eW).og
   clear t1 t2 hm hr RQ du
   go_wp2
   refine bodyPost_ret (results_cell_row rfl _ _ (W.heap.size+1) 49 #[.string yn,.slice f1 yf.length f2,.slice o1 yo.length o2,.slice m1 ym.length m2,.slice e1 ye.length e2,.slice r1 yr.length r2,.slice g1 yg.length g2] (0,0) _ rfl (aa T1) Tryz.underlying49 rfl j4) rfl ?_
   refine ⟨aa T2,by rw[←aa rY];exact aa T3,_,_,rfl,aa T4,aa T5,?_,aa lM⟩
   rw[←aa rY]
   exact UW (aa Ls)
  |true =>
   obtain ⟨s,rfl,Tp⟩:∃s,Rk=.ok s∧¬aH s.here 4 ⟨#[125]⟩=true:=by
    have hq:=aa jw
    match Rk,hq with
    |.error y,hq=>cases hq
    |.ok s,hq =>
     refine ⟨s,rfl,?_⟩
     have:(true&&!(aH s.here 4 ⟨#[125]⟩))=true:=hq
     intro h1
     rw[h1] at this
     cases this
   have zV:Hid (Gd s):=(aa Qh).z.2
   have Qi:Hid (F0=if aH s.here 4 ⟨#[59]⟩=true then jf k y s.nx else al (aT (al (.ok s) (dp K9))) (tC k y)):=by
    rw[←MN (aa zV) Tp]
    exact aa HF
   clear Tp jw HF
   go_wp2_with fail
   refine (iw (aa Qh).z 4 (by decide) ⟨#[59]⟩).mono ?_
   rintro e JH ⟨rfl,hb⟩
   have ja:=ab ((aa Qh).kept (aa HL) (aM hb (some b)) ((aa Qh).z.up hb))
   clear hb Qh
   obtain ⟨q,hq⟩:∃q,gd (.ok s) 4 ⟨#[59]⟩=q:=⟨_,rfl⟩
   rw[hq]
   have G1:=ab hq
   clear hq
   cases q with
   |true =>
    have nG:aH s.here 4 ⟨#[59]⟩=true:=aa G1
    have dN:=eT (aa zV).en nG (by decide)
    have IE:s.nx.ts.length=s.ts.length-1:=List.length_tail
    have o8:F0=al (kI (.ok s)) (jf k y):=by
     have h1:=aa Qi
     rw[if_pos nG] at h1
     exact h1
    have ue:pO 1000000000 (bJ y) (kI (.ok s)):=(aa Ls).next (by omega) (fun s' e=>by cases e;omega)
    obtain ⟨i,ci,fi,bF,AX⟩:=(aa ja).z.next (fun s' e=>by cases e;exact dN)
    obtain ⟨g1,z1⟩:=bF (wrap64 (i+1)) (fun s e=>eN (AX s e))
    have lM:=ab ((aa ja).kept (aa HL) g1 z1)
    have HM:Hid (mR (kI (.ok s))<gk):=by have:=aa zz;show s.nx.ts.length+1<gk;rw[this];show _<s.ts.length+1;omega
    have HN:Hid (∃(y:Mp) (u:MV),nE W lo b l W.heap.size (W.heap.size+1) ti j3 (ti::(W.heap.size+1)::W.heap.size::L) y u (kI (.ok s)) (JH.setCell ⟨b,1,none⟩ (.int .i64 (wrap64 (i+1))))∧F0=al (kI (.ok s)) (jf k y)∧(sm=true↔¬y.fs.length=k)∧k≤y.fs.length∧pO 1000000000 (bJ y) (kI (.ok s))):=⟨y,u,aa lM,o8,aa HQ,aa Ub,ue⟩
    clear g1 z1 bF AX o8 ue nG dN IE ja Qi G1 lM
    go_wp2
    go_roundg (mR (kI (.ok s)))
    case measure=>exact aa HM
    case rel=>exact ⟨sm,_,rfl,rfl,HN⟩
   |false =>
    have HRE:Hid (F0=al (aT (al (.ok s) (dp K9))) (tC k y)):=by
     have h1:=aa Qi
     rw[if_neg (by rw[show aH s.here 4 ⟨#[59]⟩=false from aa G1];decide)] at h1
     exact h1
    clear Qi G1
    have HW:Hid (sX (JH.alloc (.cells #[.string ⟨#[111,112,116,105,111,110]⟩,.string ⟨#[103,114,111,117,112]⟩,.string ⟨#[111,112,116,105,111,110,97,108]⟩,.string ⟨#[114,101,112,101,97,116,101,100]⟩,.string ⟨#[114,101,113,117,105,114,101,100]⟩,.string ⟨#[111,110,101,111,102]⟩,.string ⟨#[109,101,115,115,97,103,101]⟩,.string ⟨#[101,110,117,109]⟩,.string ⟨#[114,101,115,101,114,118,101,100]⟩] 9)) (.slice (some ⟨JH.heap.size,0,none⟩) 9 9) 9 (dV K9)):=mV JH K9 9
    have pd:=(zE JH.heap.size JH).alloc (zD _) (.cells #[.string ⟨#[111,112,116,105,111,110]⟩,.string ⟨#[103,114,111,117,112]⟩,.string ⟨#[111,112,116,105,111,110,97,108]⟩,.string ⟨#[114,101,112,101,97,116,101,100]⟩,.string ⟨#[114,101,113,117,105,114,101,100]⟩,.string ⟨#[111,110,101,111,102]⟩,.string ⟨#[109,101,115,115,97,103,101]⟩,.string ⟨#[101,110,117,109]⟩,.string ⟨#[114,101,115,101,114,118,101,100]⟩] 9)
    have Jo:=ab ((aa ja).z.up pd)
    have Lt:=ab (aM pd (some b))
    clear pd
    go_wp2_with fail
    refine (hJ (l:=K9) (aa Jo) (aa HW)).mono ?_
    rintro e Fp ⟨hg,hz,v0,rfl,mA,-⟩
    obtain rfl:=mA
    obtain ⟨R5,uh⟩:∃R5,R5=aT (al (.ok s) (dp K9)):=⟨_,rfl⟩
    have jM:∀s',R5=.ok s'→s'=s:=by
     intro s' e
     rw[uh,show al (.ok s) (dp K9)=dp K9 s from rfl] at e
     unfold dp at e
     split at e
     ·cases e
     ·cases e;rfl
    rw[←uh] at hz
    have HRF:Hid (F0=al R5 (tC k y)):=by rw[uh];exact aa HRE
    have CG:=ab jM
    have eW:=ab ((aa ja).kept (aa HL) ((aa Lt).trans hg) hz)
    clear hg hz jM uh HRE HW Jo Lt ja
    obtain ⟨yn,yf,yo,ym,ye,yr,yg⟩:=y
    obtain ⟨⟨f1,f2⟩,⟨o1,o2⟩,⟨m1,m2⟩,⟨e1,e2⟩,⟨r1,r2⟩,⟨g1,g2⟩,Qs,Qt⟩:=u
    go_upto_region 11 with fail
    go_cut [7] from 24 to 59 (fun v7 wx=>∃(xi:Nat) (t5:ByteArray),v7=.pointer (some ⟨xi,0,none⟩)∧Hid (nE W lo b l W.heap.size (W.heap.size+1) ti j3 (xi::(ti::(W.heap.size+1)::W.heap.size::L)) ⟨yn,yf,yo,ym,ye,yr,yg⟩ ⟨(f1,f2),(o1,o2),(m1,m2),(e1,e2),(r1,r2),(g1,g2),Qs,Qt⟩ (aT (al R5 (fun s=>ba true (lk true s)))) wx)∧Hid (wx.heap[xi]?=some (.cells #[.int .i64 1,.string ⟨#[]⟩,.string t5,.string ⟨#[]⟩,.int .i64 0,.int .i64 ((yo.length:Nat):Int)] 45 (0,0)))∧Hid (W.heap.size≤xi∧xi≠W.heap.size∧xi≠W.heap.size+1∧xi≠ti)∧Hid (∀a s,(al R5 (fun s=>ba true (lk true s)))=.ok (a,s)→Value.string t5=.string a))
    case first =>
     have hT:Fp.drew.heap[W.heap.size]?=some (.cells #[.string yn,.slice f1 yf.length f2,.slice o1 yo.length o2,.slice m1 ym.length m2,.slice e1 ye.length e2,.slice r1 yr.length r2,.slice g1 yg.length g2] 49 (0,0)):=(aa eW).m
     refine wp_region_any (by kernel_rfl) (dL (z:=7) (T:=fun w=>w.heap[W.heap.size]?=some (.cells #[.string yn,.slice f1 yf.length f2,.slice o1 yo.length o2,.slice m1 ym.length m2,.slice e1 ye.length e2,.slice r1 yr.length r2,.slice g1 yg.length g2] 49 (0,0))) _ _ _ _ ?_)
     try (change dT _ _ _ _ _ _ _ _ _ (World.drew _))
     refine wpAnyZ_tk 0 (.pointer (some ⟨W.heap.size,2,none⟩)) 46 rfl rfl (Or.inl ⟨by rfl,fun w hw=>by go_simp⟩) hT ?_
     simp only[Act.put,zL,zM,zN]
     refine wpAnyZ_tk 1 (.slice o1 yo.length o2) 47 rfl rfl (Or.inl ⟨by rfl,fun w hw=>by have c:=(cL hw).1.2.2.1;go_simp⟩) hT ?_
     simp only[Act.put,zL,zM,zN]
     refine wpAnyZ_tk 2 (.int .i64 ((yo.length:Nat):Int)) 48 rfl rfl (Or.inl ⟨by rfl,fun w hw=>by go_simp⟩) hT ?_
     simp only[Act.put,zL,zM,zN]
     refine wpAnyZ_tk 3 (.pointer (some ⟨b,0,none⟩)) 49 rfl rfl (Or.inl ⟨by rfl,fun w hw=>by go_simp⟩) hT ?_
     simp only[Act.put,zL,zM,zN]
     refine Fo 4 6 (by kernel_rfl) rfl rfl (fun K hK=>?_) (fun K hK=>?_)
     ·clear hT
      refine eJ 50 rfl rfl 37 (Bd _) #[.tmp 49,.const (.bool true),.const (.bool true)] #[55,4,4] rfl #[.pointer (some ⟨b,0,none⟩),.bool true,.bool true] (by first|rfl|simp[Act.eval]) (l7 (show Zr lo Fp.drew b R5 from (aa eW).z.drew) true true) ?_
      rintro o6 w5 ⟨hg,hz,v6,rfl,⟨t5,rfl⟩,hv⟩
      have cO:Fp.grownBy w5 (some b):=⟨hg.os,hg.tape,hg.output,hg.size,hg.block⟩
      have jk:=ab ((aa eW).kept (aa HL) cO hz)
      have hT:w5.heap[W.heap.size]?=some (.cells #[.string yn,.slice f1 yf.length f2,.slice o1 yo.length o2,.slice m1 ym.length m2,.slice e1 ye.length e2,.slice r1 yr.length r2,.slice g1 yg.length g2] 49 (0,0)):=(aa jk).m
      refine ⟨_,rfl,hK _ _ ⟨fun _=>hT,?_⟩⟩
      have HV:=ab hv
      clear hK K hg hz hv cO
      simp only[Act.put,zL,zM,zN]
      refine wpAnyZ_tk 5 (.agg #[.int .i64 1,.string ⟨#[]⟩,.string t5,.string ⟨#[]⟩,.int .i64 0,.int .i64 ((yo.length:Nat):Int)]) 51 rfl rfl (Or.inl ⟨by rfl,fun w hw=>by go_simp⟩) hT ?_
      simp only[Act.put,zL,zM,zN]
      have hm5:=gJ (aa jk).m
      have hr5:=gJ (aa jk).r
      have ht5:ti<w5.heap.size:=by obtain ⟨_,_,_,h⟩:=(aa jk).t;exact gJ h
      have hF5:=(aa jk).F.size
      have HX7:=ab ((aa jk).box (.cells #[.int .i64 0,.string ⟨#[]⟩,.string ⟨#[]⟩,.string ⟨#[]⟩,.int .i64 0,.int .i64 0] 45))
      have hq:=aF w5 (.cells #[.int .i64 0,.string ⟨#[]⟩,.string ⟨#[]⟩,.string ⟨#[]⟩,.int .i64 0,.int .i64 0] 45)
      refine aO 6 (by kernel_rfl) rfl (fun K hK=>?_)
      go_simp
      refine hK _ _ ⟨fun _=>bL hT _,?_⟩
      clear hK K
      have K1:=ab (aF w5 (.cells #[.int .i64 1,.string ⟨#[]⟩,.string t5,.string ⟨#[]⟩,.int .i64 0,.int .i64 ((yo.length:Nat):Int)] 45))
      have K2:=ab ((aa jk).box (.cells #[.int .i64 1,.string ⟨#[]⟩,.string t5,.string ⟨#[]⟩,.int .i64 0,.int .i64 ((yo.length:Nat):Int)] 45))
      clear HX7 hq
      refine aO 7 (by kernel_rfl) rfl (fun K hK=>?_)
      go_simp
      refine hK _ _ ⟨fun q=>absurd rfl q,?_⟩
      clear hK K
      refine df (by kernel_rfl) ?_
      go_wp2
      go_meet
      exact ⟨w5.heap.size,t5,rfl,K2,K1,ab ⟨by omega,by omega,by omega,by omega⟩,HV⟩
     ·skip
      go_simp
      have lq:=(zE Fp.drew.heap.size Fp.drew).alloc (zD _) (.cells #[.int .i64 0,.string ⟨#[]⟩,.string ⟨#[]⟩,.string ⟨#[]⟩,.int .i64 0,.int .i64 0] 45)
      have hm5:=gJ (aa eW).m
      have hr5:=gJ (aa eW).r
      have ht5:ti<Fp.heap.size:=by obtain ⟨_,_,_,h⟩:=(aa eW).t;exact gJ h
      have hF5:=(aa eW).F.size
      have TZ:Hid (nE W lo b l W.heap.size (W.heap.size+1) ti j3 (Fp.heap.size::(ti::(W.heap.size+1)::W.heap.size::L)) ⟨yn,yf,yo,ym,ye,yr,yg⟩ ⟨(f1,f2),(o1,o2),(m1,m2),(e1,e2),(r1,r2),(g1,g2),Qs,Qt⟩ R5 (Fp.drew.alloc (.cells #[.int .i64 0,.string ⟨#[]⟩,.string ⟨#[]⟩,.string ⟨#[]⟩,.int .i64 0,.int .i64 0] 45))):=((aa eW).kept (aa HL) (yZ (zI Fp (some b))) (aa eW).z.drew).box (.cells #[.int .i64 0,.string ⟨#[]⟩,.string ⟨#[]⟩,.string ⟨#[]⟩,.int .i64 0,.int .i64 0] 45)
      have hq0:(Fp.drew.alloc (.cells #[.int .i64 0,.string ⟨#[]⟩,.string ⟨#[]⟩,.string ⟨#[]⟩,.int .i64 0,.int .i64 0] 45)).heap[Fp.heap.size]?=some (.cells #[.int .i64 0,.string ⟨#[]⟩,.string ⟨#[]⟩,.string ⟨#[]⟩,.int .i64 0,.int .i64 0] 45 (0,0)):=aF Fp.drew _
      refine hK _ _ ⟨fun _=>bL hT _,?_⟩
      clear hK K lq hT
      have hT:(Fp.drew.alloc (.cells #[.int .i64 0,.string ⟨#[]⟩,.string ⟨#[]⟩,.string ⟨#[]⟩,.int .i64 0,.int .i64 0] 45)).heap[W.heap.size]?=some (.cells #[.string yn,.slice f1 yf.length f2,.slice o1 yo.length o2,.slice m1 ym.length m2,.slice e1 ye.length e2,.slice r1 yr.length r2,.slice g1 yg.length g2] 49 (0,0)):=(aa TZ).m
      refine aO 4 (by kernel_rfl) rfl (fun K hK=>?_)
      refine eJ 50 rfl rfl 37 (Bd _) #[.tmp 49,.const (.bool true),.const (.bool true)] #[55,4,4] rfl #[.pointer (some ⟨b,0,none⟩),.bool true,.bool true] (by first|rfl|simp[Act.eval]) (l7 (aa TZ).z true true) ?_
      rintro o6 w5 ⟨hg,hz,v6,rfl,⟨t5,rfl⟩,hv⟩
      have HX7:=ab ((aa TZ).kept (aa HL).box hg hz)
      have hq:=aw hg hq0 (by have:=(aa HL).lo;show Fp.heap.size≠b;omega)
      clear hT
      have hT:w5.heap[W.heap.size]?=some (.cells #[.string yn,.slice f1 yf.length f2,.slice o1 yo.length o2,.slice m1 ym.length m2,.slice e1 ye.length e2,.slice r1 yr.length r2,.slice g1 yg.length g2] 49 (0,0)):=(aa HX7).m
      refine ⟨_,rfl,hK _ _ ⟨fun _=>hT,?_⟩⟩
      have HV:=ab hv
      clear hK K hg hz hv hq0
      simp only[Act.put,zL,zM,zN]
      refine wpAnyZ_tk 5 (.agg #[.int .i64 1,.string ⟨#[]⟩,.string t5,.string ⟨#[]⟩,.int .i64 0,.int .i64 ((yo.length:Nat):Int)]) 51 rfl rfl (Or.inl ⟨by rfl,fun w hw=>by go_simp⟩) hT ?_
      simp only[Act.put,zL,zM,zN]
      obtain ⟨⟨V5,V4,V3,V2,cx4,cx5⟩,AY⟩:=bG hq
      have fx0:=AY 0
      have fx1:=AY 1
      have fx2:=AY 2
      have fx3:=AY 3
      have fx4:=AY 4
      have fx5:=AY 5
      clear AY
      obtain ⟨k1,k2⟩:=hU hq (.int .i64 1) (.string ⟨#[]⟩) (.string t5) (.string ⟨#[]⟩) (.int .i64 0) (.int .i64 ((yo.length:Nat):Int))
      unfold mo at k1 k2
      have K1:=ab k1
      have K2:=ab ((aa HX7).gA (aa HL).box k2 (by omega) (by simp) (by omega))
      clear k1 k2
      refine aO 7 (by kernel_rfl) rfl (fun K hK=>?_)
      go_simp
      refine hK _ _ ⟨fun q=>absurd rfl q,?_⟩
      clear hK K
      refine df (by kernel_rfl) ?_
      go_wp2
      go_meet
      exact ⟨Fp.heap.size,t5,rfl,K2,K1,ab ⟨by omega,by omega,by omega,by omega⟩,HV⟩
    case rest =>
    obtain ⟨w16,fV⟩:∃x,x=wc:=⟨_,rfl⟩
    subst fV
    obtain ⟨xi,t5,rfl,TZ,HXI,Wz,T0⟩:=hcut
    clear eW
    go_upto_region 12 with fail
    have hT:w16.drew.heap[W.heap.size]?=some (.cells #[.string yn,.slice f1 yf.length f2,.slice o1 yo.length o2,.slice m1 ym.length m2,.slice e1 ye.length e2,.slice r1 yr.length r2,.slice g1 yg.length g2] 49 (0,0))∧w16.drew.heap[xi]?=some (.cells #[.int .i64 1,.string ⟨#[]⟩,.string t5,.string ⟨#[]⟩,.int .i64 0,.int .i64 ((yo.length:Nat):Int)] 45 (0,0)):=⟨(aa TZ).m,aa HXI⟩
    refine wp_region_any (by kernel_rfl) (dL (z:=8) (T:=fun w=>w.heap[W.heap.size]?=some (.cells #[.string yn,.slice f1 yf.length f2,.slice o1 yo.length o2,.slice m1 ym.length m2,.slice e1 ye.length e2,.slice r1 yr.length r2,.slice g1 yg.length g2] 49 (0,0))∧w.heap[xi]?=some (.cells #[.int .i64 1,.string ⟨#[]⟩,.string t5,.string ⟨#[]⟩,.int .i64 0,.int .i64 ((yo.length:Nat):Int)] 45 (0,0))) _ _ _ _ ?_)
    try (change dT _ _ _ _ _ _ _ _ _ (World.drew _))
    refine wpAnyZ_tk 0 (.pointer (some ⟨W.heap.size,1,none⟩)) 52 rfl rfl (Or.inl ⟨by rfl,fun w hw=>by go_simp⟩) hT ?_
    simp only[Act.put,zL,zM,zN]
    refine wpAnyZ_tk 1 (.slice f1 yf.length f2) 53 rfl rfl (Or.inl ⟨by rfl,fun w hw=>by have c:=(cL hw.1).1.2.1;go_simp⟩) hT ?_
    simp only[Act.put,zL,zM,zN]
    refine wpAnyZ_tk 2 (.pointer (some ⟨b,0,none⟩)) 54 rfl rfl (Or.inl ⟨by rfl,fun w hw=>by go_simp⟩) hT ?_
    simp only[Act.put,zL,zM,zN]
    refine wpAnyZ_tk 3 (.agg #[.int .i64 1,.string ⟨#[]⟩,.string t5,.string ⟨#[]⟩,.int .i64 0,.int .i64 ((yo.length:Nat):Int)]) 55 rfl rfl (Or.inl ⟨by rfl,fun w hw=>by obtain ⟨⟨c0,c1,c2,c3,c4,c5⟩,-⟩:=bG hw.2;go_simp⟩) hT ?_
    simp only[Act.put,zL,zM,zN]
    refine aO 4 (by kernel_rfl) rfl (fun K hK=>?_)
    refine eJ 56 rfl rfl 131 (O8 _) #[.tmp 54,.tmp 55] #[55,45] rfl #[.pointer (some ⟨b,0,none⟩),.agg #[.int .i64 1,.string ⟨#[]⟩,.string t5,.string ⟨#[]⟩,.int .i64 0,.int .i64 ((yo.length:Nat):Int)]] (by first|rfl|simp[Act.eval]) (Bo (show Zr lo w16.drew b _ from (aa TZ).z.drew) ⟨1,⟨#[]⟩,t5,⟨#[]⟩,0,((yo.length:Nat):Int)⟩) ?_
    rintro o6 w17 ⟨hg,hz,v6,rfl,⟨⟨dc,dk,dt,dn,dm,dq⟩,rfl⟩,hv⟩
    rw[QQ (aa T0)] at hz hv
    have cO:w16.grownBy w17 (some b):=⟨hg.os,hg.tape,hg.output,hg.size,hg.block⟩
    have eb:=aa Wz
    have jh:=(aa HL).lo
    have jk:=ab ((aa TZ).kept (aa HL).box cO hz)
    have jr:w17.heap[W.heap.size]?=some (.cells #[.string yn,.slice f1 yf.length f2,.slice o1 yo.length o2,.slice m1 ym.length m2,.slice e1 ye.length e2,.slice r1 yr.length r2,.slice g1 yg.length g2] 49 (0,0)):=(aa jk).m
    have hX6:=aw cO (aa HXI) (by omega)
    have zS:∀a s,(al R5 (cu ((yo.length:Nat):Int)))=.ok (a,s)→a=(⟨dc,dk,dt,dn,dm,dq⟩:Fd):=fun a s e=>by
     have h1:=hv a s e
     obtain ⟨q1,q2,q3,q4,q5,q6⟩:=a
     simp only[Fd.val,Fd.arr,Value.agg.injEq,Array.mk.injEq,List.cons.injEq,Value.int.injEq,Value.string.injEq,true_and,and_true] at h1
     obtain ⟨rfl,rfl,rfl,rfl,rfl,rfl⟩:=h1
     rfl
    have o8:F0=al (aT (al R5 (cu ((yo.length:Nat):Int)))) (jf k ⟨yn,yf++[⟨dc,dk,dt,dn,dm,dq⟩],yo,ym,ye,yr,yg⟩):=by
     rw[aa HRF]
     exact UD (x:=⟨yn,yf,yo,ym,ye,yr,yg⟩) zS
    have om:=MO (o:=((yo.length:Nat):Int)) (aa zV) (aa CG)
    have ue:pO 1000000000 (bJ ⟨yn,yf++[⟨dc,dk,dt,dn,dm,dq⟩],yo,ym,ye,yr,yg⟩) (aT (al R5 (cu ((yo.length:Nat):Int)))):=(aa Ls).next (by unfold bJ;simp only[zK];show yf.length+1+yo.length+ym.length+ye.length+yr.length+yg.length≤_;omega) om
    have HM:Hid (mR (aT (al R5 (cu ((yo.length:Nat):Int))))<gk):=by
     have h1:=aa zz
     show _<gk
     rw[h1]
     cases hr:aT (al R5 (cu ((yo.length:Nat):Int))) with
     |error y=>show 0<s.ts.length+1;omega
     |ok s'=>have:=om s' hr;show s'.ts.length+1<s.ts.length+1;omega
    have nz:=ab o8
    have HL2:=ab ue
    refine ⟨_,rfl,hK _ _ ⟨fun _=>⟨jr,hX6⟩,?_⟩⟩
    clear hK K hg hz hv cO zS o8 ue om HRF CG T0 hT TZ HXI
    simp only[Act.put,zL,zM,zN,Fd.val,Fd.arr]
    refine aO 5 (by kernel_rfl) rfl (fun K hK=>?_)
    go_simp
    refine hK _ _ ⟨fun _=>⟨bL jr _,bL hX6 _⟩,?_⟩
    clear hK K
    refine aO 6 (by kernel_rfl) rfl (fun K hK=>?_)
    have Ae:W.heap.size≤w17.heap.size:=(aa jk).F.size
    have kL:=ab ((aa jk).s.alloc (.cells #[.int .i64 dc,.string dk,.string dt,.string dn,.int .i64 dm,.int .i64 dq] 45))
    refine dQ rfl (.tmp 53) (.tmp 57) 46 rfl l 45 j0 (.agg #[.int .i64 0,.string ⟨#[]⟩,.string ⟨#[]⟩,.string ⟨#[]⟩,.int .i64 0,.int .i64 0]) 6 72 Tryz.underlying46 hj Ti Th Tg rfl (by decide) (.slice f1 yf.length f2) yf.length (mF yf) (by first|rfl|simp[Act.eval]) ((aa kL).sl.own 0 _ rfl) ⟨w17.heap.size,0,none⟩ 1 1 [.int .i64 dc,.string dk,.string dt,.string dn,.int .i64 dm,.int .i64 dq] (by first|rfl|simp[Act.eval]) rfl (cN _ _ _) (by simp[Value.oneCell']) (by have:=(aa Ls).1;unfold bJ at this;simp only at this;unfold maxLen;omega) (by have:=(aa Ls).1;unfold bJ at this;simp only at this;omega) (by rw[zJ];omega) ?_
    intro v7 w7 dz cc jc
    obtain ⟨a7,c7,rfl⟩:=bY dz
    have fQ:w7.heap[W.heap.size]?=some (.cells #[.string yn,.slice f1 yf.length f2,.slice o1 yo.length o2,.slice m1 ym.length m2,.slice e1 ye.length e2,.slice r1 yr.length r2,.slice g1 yg.length g2] 49 (0,0)):=(aa kL).sl.lz (i:=0) rfl (by simp) (bL jr _) cc
    have hX7:w7.heap[xi]?=some (.cells #[.int .i64 1,.string ⟨#[]⟩,.string t5,.string ⟨#[]⟩,.int .i64 0,.int .i64 ((yo.length:Nat):Int)] 45 (0,0)):=(aa kL).sl.lz (i:=0) rfl (by simp) (bL hX6 _) cc
    have ks:=aC (j:=1) fQ (.slice a7 (yf.length+1) c7)
    have hHN:nE W lo b l W.heap.size (W.heap.size+1) ti j3 (ti::(W.heap.size+1)::W.heap.size::L) ⟨yn,yf++[⟨dc,dk,dt,dn,dm,dq⟩],yo,ym,ye,yr,yg⟩ ⟨(a7,c7),(o1,o2),(m1,m2),(e1,e2),(r1,r2),(g1,g2),Qs,Qt⟩ (aT (al R5 (cu ((yo.length:Nat):Int)))) (w7.setCell ⟨W.heap.size,1,none⟩ (.slice a7 (yf.length+1) c7)):=by
     refine (((aa jk).box (.cells #[.int .i64 dc,.string dk,.string dt,.string dn,.int .i64 dm,.int .i64 dq] 45)).app (x':=⟨yn,yf++[⟨dc,dk,dt,dn,dm,dq⟩],yo,ym,ye,yr,yg⟩) (v':=⟨(a7,c7),(o1,o2),(m1,m2),(e1,e2),(r1,r2),(g1,g2),Qs,Qt⟩) (aa HL).box.box (i:=0) rfl dz cc jc ?_ rfl rfl rfl rfl ?_ ks.2).less (L':=(ti::(W.heap.size+1)::W.heap.size::L)) (fun k hk=>zF _ (zF _ hk))
     ·simp only[MV.ss,sY,zK,rz]
      rfl
     ·simp only[MV.arr,zK]
      exact ks.1
    have HN:Hid (∃(y:Mp) (u:MV),nE W lo b l W.heap.size (W.heap.size+1) ti j3 (ti::(W.heap.size+1)::W.heap.size::L) y u (aT (al R5 (cu ((yo.length:Nat):Int)))) (w7.setCell ⟨W.heap.size,1,none⟩ (.slice a7 (yf.length+1) c7))∧F0=al (aT (al R5 (cu ((yo.length:Nat):Int)))) (jf k y)∧(true=true↔¬y.fs.length=k)∧k≤y.fs.length∧pO 1000000000 (bJ y) (aT (al R5 (cu ((yo.length:Nat):Int))))):=⟨_,_,hHN,aa nz,⟨fun _=>by have h1:k≤yf.length:=aa Ub;simp only[zK,List.length_cons,List.length_nil];omega,fun _=>rfl⟩,by have h1:k≤yf.length:=aa Ub;simp only[zK,List.length_cons,List.length_nil];omega,aa HL2⟩
    have TM:=(cL fQ).1.2.1
    have fm2:=(cL fQ).2 1
    refine hK _ _ ⟨fun _=>⟨fQ,hX7⟩,?_⟩
    clear hK K dz cc jc ks jr kL hHN hX6
    simp only[Act.put,zL]
    refine aO 7 (by kernel_rfl) rfl (fun K hK=>?_)
    go_simp
    refine hK _ _ ⟨fun _=>⟨fQ,hX7⟩,?_⟩
    clear hK K
    refine aO 8 (by kernel_rfl) rfl (fun K hK=>?_)
    go_simp
    refine hK _ _ ⟨fun q=>absurd rfl q,?_⟩
    clear hK K
    refine df (by kernel_rfl) ?_
    go_wp2
    go_roundg (mR (aT (al R5 (cu ((yo.length:Nat):Int)))))
    case measure=>exact aa HM
    case rel=>exact ⟨true,_,rfl,rfl,by obtain ⟨y,u,h1,h2,h3,h4,h5⟩:=aa HN;exact ⟨y,u,h1,h2,⟨fun _=>h3.1 trivial,fun _=>rfl⟩,h4,h5⟩⟩
end Go.Proofs.YtjophoclfccmcaaGreatDoor
