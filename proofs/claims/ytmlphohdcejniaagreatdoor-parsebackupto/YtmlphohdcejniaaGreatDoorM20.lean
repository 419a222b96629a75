import Derived.Test.YtmlphohdcejniaaGreatDoorPbG
set_option maxHeartbeats 4000000
set_option maxRecDepth 100000
namespace Go.Proofs.YtmlphohdcejniaaGreatDoor
open Go.RowKit
attribute [local go_sem ↓] Go.wp_at_zero Go.wp_at_succ
theorem CP.plain {α:Type}{lo b g i:Nat}{T t:TypeId}{sz:Nat}{nm:ByteArray}{ss:List Slot}{N:(Nat→Prop)→World→Prop}{V W w:World}{r:Except (Int×Int) (α×aI)}{ret:α→Value}{C:List α→List Value}{acc:List α}{v:Value}{e:Ending} (hC:∀acc a,C acc++(ret a).cells.toList=C (acc++[a])) (h:CP lo b g T nm ss N V W i ⟨t,sz,v,acc.length,C acc⟩ r (fun a x _ _=>x=ret a) e w) :
  (∃y,r=.error y∧e=oD y.1 y.2∧Sv g b W w)∨∃a s' y,r=.ok (a,s')∧e=.returned (.tuple #[])∧Ap lo b g T nm (ss.set i ⟨t,sz,y,(acc++[a]).length,C (acc++[a])⟩) N V W s' w:=by
 unfold CP at h
 cases r with
 |error y=>exact .inl ⟨y,rfl,h⟩
 |ok y =>
  obtain ⟨he,x,y',aZ⟩:=h
  obtain rfl:=aZ.nx.2
  refine .inr ⟨y.1,y.2,y',rfl,he,?_⟩
  rw[←hC,zK,List.length_singleton]
  exact aZ.imp (fun h=>h.1)
theorem Ow (acc:List (Int×Int)) (a:Int×Int):kz acc++(Ov a).cells.toList=kz (acc++[a]):=by rw[Fw];rfl
theorem uU (acc:List ByteArray) (a:ByteArray):bS acc++(Value.string a).cells.toList=bS (acc++[a]):=by rw[uV];rfl
theorem L4 (acc:List Fd) (a:Fd):gX acc++a.val.cells.toList=gX (acc++[a]):=by rw[L5];simp[gX,Fd.val,Value.cells]
theorem Pv (acc:List (ByteArray×Int)) (a:ByteArray×Int):wH acc++(NP a).cells.toList=wH (acc++[a]):=by rw[F8];rfl
def gT {α:Type} (one:aI→Except (Int×Int) (α×aI)):Nat→List α→aI→Except (Int×Int) (List α×aI)
 |0,_,_=>.error (0,0)
 |n+1,acc,s=>match cw 4 ⟨#[44]⟩ s with
  |.error e=>.error e
  |.ok (false,s1)=>.ok (acc,s1)
  |.ok (true,s1)=>match one s1 with
   |.error e=>.error e
   |.ok (a,s2)=>gT one n (acc++[a]) s2
def iJ {α:Type} (one:aI→Except (Int×Int) (α×aI)) (acc:List α) (s:aI):Except (Int×Int) (List α×aI):=match one s with
 |.error e=>.error e
 |.ok (a,s1)=>match gT one (s1.ts.length+1) (acc++[a]) s1 with
  |.error e=>.error e
  |.ok (l,s2)=>match aW ⟨#[59]⟩ s2 with
   |.error e=>.error e
   |.ok (_,s3)=>.ok (l,s3)
noncomputable def ki (bl bh:Int) (bm:Bool) (rs:List (Int×Int)) (gs:List ByteArray) (s:aI):Except (Int×Int) ((List (Int×Int)×List ByteArray)×aI):=match bE s with
 |.error e=>.error e
 |.ok (_,s1)=>if s1.here.kind=3 then (match iJ mj gs s1 with
   |.error e=>.error e
   |.ok (l,s2)=>.ok ((rs,l),s2)) else match iJ (kK bl bh bm) rs s1 with
   |.error e=>.error e
   |.ok (l,s2)=>.ok ((l,gs),s2)
def Gt (s s1:aI):Prop:=∃k,s1.ts=s.ts.drop (k+1)∧s1.op=s.op∧s1.en=s.en
theorem Gt.iY {s s1:aI} (h:Gt s s1):kP s s1:=by
 obtain ⟨k,h⟩:=h
 exact ⟨k+1,h⟩
theorem Gt.lt {s s1:aI} (h:Gt s s1) (hp:0<s.ts.length):s1.ts.length<s.ts.length:=by
 obtain ⟨k,h,_⟩:=h
 rw[h,List.length_drop]
 omega
theorem Gt.tail {s s1:aI} (h:s1.ts=s.ts.tail) (ho:s1.op=s.op∧s1.en=s.en):Gt s s1:=⟨0,by rw[h,List.drop_one],ho⟩
theorem Gt.dL {a b c:aI} (h:Gt a b) (k:kP b c):Gt a c:=by
 obtain ⟨m,h⟩:=h
 obtain ⟨n,k⟩:=k
 exact ⟨m+n,by rw[k.1,h.1,List.drop_drop];congr 1;omega,k.2.1.trans h.2.1,k.2.2.trans h.2.2⟩
theorem kP.gt {a b c:aI} (h:kP a b) (k:Gt b c):Gt a c:=by
 obtain ⟨m,h⟩:=h
 obtain ⟨n,k⟩:=k
 exact ⟨m+n,by rw[k.1,h.1,List.drop_drop];congr 1,k.2.1.trans h.2.1,k.2.2.trans h.2.2⟩
theorem de {s s1:aI}{u:Unit} (h:bE s=.ok (u,s1)):Gt s s1:=.tail (nj h) (lQ h)
theorem kD {s s1:aI}{x:ByteArray} (h:cq s=.ok (x,s1)):Gt s s1:=.tail (nk h).1 (zY h)
theorem lY {ff:ByteArray→Int}{s s1:aI}{x:ByteArray} (h:bO ff s=.ok (x,s1)):Gt s s1∧s.here.kind=3:=by
 unfold bO at h
 split at h
 ·rename_i hk
  split at h
  ·split at h
   ·cases hn:bE s with
    |error e=>rw[hn] at h;cases h
    |ok y =>
     rw[hn] at h
     simp only[Except.ok.injEq,Prod.mk.injEq] at h
     obtain ⟨_,rfl⟩:=h
     exact ⟨de (s:=s) (u:=y.1) (s1:=y.2) hn,hk⟩
   ·cases h
  ·cases h
 ·cases h
theorem qH {lo hi:Int}{mi:Bool}{s s1:aI}{n:Int} (h:fm lo hi mi s=.ok (n,s1)):Gt s s1:=by
 have key:∀m s0,mg lo hi m s0=.ok (n,s1)→Gt s0 s1:=by
  intro m s0 h
  unfold mg at h
  repeat' (split at h<;>try cases h)
  all_goals (try (rename_i hn;exact de hn))
 unfold fm at h
 split at h
 ·cases h
 ·rename_i m s0 hm
  have h1:=key _ _ h
  have h2:kP s s0:=by
   split at hm
   ·exact dK hm
   ·simp only[Except.ok.injEq,Prod.mk.injEq] at hm
    rw[hm.2]
    exact .refl _
  exact h2.gt h1
theorem Am {lo hi:Int}{mi:Bool}{s s1:aI}{p:Int×Int} (h:kK lo hi mi s=.ok (p,s1)):Gt s s1:=by
 unfold kK at h
 split at h
 ·cases h
 ·rename_i n s2 hn
  have h1:Gt s s2:=qH (s:=s.begun) hn
  split at h
  ·cases h
  ·rename_i s3 h3
   simp only[Except.ok.injEq,Prod.mk.injEq] at h
   obtain ⟨_,rfl⟩:=h
   exact h1.dL (dK h3)
  ·rename_i s3 h3
   split at h
   ·cases h
   ·rename_i s4 h4
    simp only[Except.ok.injEq,Prod.mk.injEq] at h
    obtain ⟨_,rfl⟩:=h
    exact (h1.dL (dK h3)).dL (dK h4)
   ·rename_i s4 h4
    split at h
    ·cases h
    ·rename_i m s5 h5
     simp only[Except.ok.injEq,Prod.mk.injEq] at h
     obtain ⟨_,rfl⟩:=h
     exact ((h1.dL (dK h3)).dL (dK h4)).dL (qH h5).iY
theorem tY {s s1:aI}{x:ByteArray} (h:mj s=.ok (x,s1)):Gt s s1:=(lY (s:=s.begun) h).1
theorem At {tm:Array Value} (h:tm.size=25):∃u:Nat→Value,tm=#[u 0,u 1,u 2,u 3,u 4,u 5,u 6,u 7,u 8,u 9,u 10,u 11,u 12,u 13,u 14,u 15,u 16,u 17,u 18,u 19,u 20,u 21,u 22,u 23,u 24]:=by
 refine ⟨fun i=>tm.getD i undef,?_⟩
 have e:tm=((List.range 25).map fun i=>tm.getD i undef).toArray:=by
  apply Array.ext
  ·simp[h]
  ·intro i h1 h2
   simp[Array.getD,h1]
 exact e.trans rfl
noncomputable def zu:Code:=match Tryz.f156.body with
 |some (.seq _ (.seq _ (.seq _ (.seq _ t))))=>t
 |_=>.skip
noncomputable def Ki (t:Code):Code:=match Tryz.f156.body with
 |some (.seq a (.seq b (.seq c (.seq d _))))=>.seq a (.seq b (.seq c (.seq d t)))
 |_=>.skip
theorem Kh:Tryz.f156.body=some (Ki zu):=rfl
section
variable {α : Type} {lo b g i : Nat} {T t : TypeId} {sz : Nat} {nm : ByteArray} {ss : List Slot} {N : (Nat → Prop) → World → Prop} {V W : World} {p4 : Nat} {cv : Value} {C : List α → List Value} {one : aI → Except (Int × Int) (α × aI)}
def Rs (lo b g:Nat) (T:TypeId) (nm:ByteArray) (ss:List Slot) (N:(Nat→Prop)→World→Prop) (V W:World) (i:Nat) (t:TypeId) (sz:Nat) (C:List α→List Value) (acc:List α) (s:aI) (w:World):Prop:=(∃v,Ap lo b g T nm (ss.set i ⟨t,sz,v,acc.length,C acc⟩) N V W s w)∧acc.length+s.ts.length≤20000∧Sm s
def xa (lo b g:Nat) (T:TypeId) (nm:ByteArray) (ss:List Slot) (N:(Nat→Prop)→World→Prop) (V W:World) (i:Nat) (t:TypeId) (sz:Nat) (C:List α→List Value) (one:aI→Except (Int×Int) (α×aI)) (acc:List α) (s:aI) (e:Ending) (w:World):Prop:=match one s with
 |.error y=>e=oD y.1 y.2∧Sv g b W w
 |.ok (a,s')=>e=.returned (.tuple #[])∧Rs lo b g T nm ss N V W i t sz C (acc++[a]) s' w
def RsJ (lo b g:Nat) (T:TypeId) (nm:ByteArray) (ss:List Slot) (N:(Nat→Prop)→World→Prop) (V W:World) (i:Nat) (t:TypeId) (sz:Nat) (C:List α→List Value) (one:aI→Except (Int×Int) (α×aI)) (p4:Nat) (cv:Value) (R0:Except (Int×Int) (List α×aI)) (n:Nat) (a:Act) (w:World):Prop:=∃(tm:Array Value) (acc:List α) (s:aI),a=⟨tm,[]⟩∧tm.size=25∧Gh tm [(4,.pointer (some ⟨p4,0,none⟩)),(8,cv)]∧Rs lo b g T nm ss N V W i t sz C acc s w∧s.ts.length<n∧(match gT one n acc s with|.error e=>.error e|.ok (l,s2)=>match aW ⟨#[59]⟩ s2 with|.error e=>.error e|.ok (_,s3)=>.ok (l,s3))=R0
theorem u9 (hN:aK N) (dw:∀P w,N P w→aP p4 #[.pointer (some ⟨b,0,none⟩)] 107 P w) (FR:∀s a s1,one s=.ok (a,s1)→Gt s s1∧(s.en.kind=5→0<s.ts.length)) (dY:∀acc s w,Rs lo b g T nm ss N V W i t sz C acc s w→l9 cv #[] w (xa lo b g T nm ss N V W i t sz C one acc s))
  {acc:List α} {s:aI} {w0:World} (h:Rs lo b g T nm ss N V W i t sz C acc s w0) {tm:Array Value} (bR:tm.size=25) (je:Gh tm [(4,.pointer (some ⟨p4,0,none⟩)),(8,cv)]) {R:Ending→World→Prop}
  (hR1:∀y w,iJ one acc s=.error y→Sv g b W w→R (oD y.1 y.2) w) (QL:∀l s' w,iJ one acc s=.ok (l,s')→Rs lo b g T nm ss N V W i t sz C l s' w→R (.returned (.tuple #[])) w):zu.wp Tryz.prog (bodyPost Tryz.prog Tryz.f156 R) ⟨tm,[]⟩ w0:=by
 have Jt:=aj hR1
 have Jg:=aj QL
 have HN:=aj hN
 have HCe:=aj dw
 have HGt:=aj FR
 have aa6:=aj dY
 obtain ⟨n1,fs,cp,rfl,Aj,gj⟩:=dY acc s w0 h
 have Gu:=aj gj
 obtain ⟨u,rfl⟩:=At bR
 obtain ⟨e4,e8,_⟩:=je
 replace e4:u 4=.pointer (some ⟨p4,0,none⟩):=zC e4
 replace e8:u 8=.func (.func n1) fs cp:=zC e8
 rw[e4,e8]
 have HA:=aj h
 clear e4 e8 bR hR1 QL hN dw FR dY h gj
 obtain ⟨Q,hQ⟩:∃Q,bodyPost Tryz.prog Tryz.f156 R=Q:=⟨_,rfl⟩
 rw[hQ]
 unfold zu
 dsimp only[Tryz.f156]
 go_wp2_with fail
 refine (show Calls Tryz.prog n1 (fs++cp) _ _ from by have:=aa Gu;simpa using this).mono ?_
 intro e w1 nE
 unfold xa at nE
 cases hr:one s with
 |error y =>
  rw[hr] at nE
  obtain ⟨rfl,hs⟩:=nE
  rw[←hQ]
  exact ⟨rfl,aa Jt y w1 (by unfold iJ;rw[hr]) hs⟩
 |ok y =>
  obtain ⟨a1,s1⟩:=y
  rw[hr] at nE
  obtain ⟨rfl,h1⟩:=nE
  have HF:Hid ((match gT one (s1.ts.length+1) (acc++[a1]) s1 with|.error e=>.error e|.ok (l,s2)=>match aW ⟨#[59]⟩ s2 with|.error e=>.error e|.ok (_,s3)=>.ok (l,s3))=iJ one acc s):=by
   show _=_
   unfold iJ
   rw[hr]
  have H1:=aj h1
  clear hr h1 Gu HA Aj
  go_wp2
  refine fV (RsJ lo b g T nm ss N V W i t sz C one p4 (.func (.func n1) fs cp) (iJ one acc s)) ?_ (s1.ts.length+1) _ _ ⟨_,acc++[a1],s1,rfl,rfl,⟨rfl,rfl,trivial⟩,aa H1,by omega,aa HF⟩
  obtain ⟨R0,A2⟩:∃R0,iJ one acc s=R0:=⟨_,rfl⟩
  rw[A2] at Jt Jg ⊢
  clear HF H1 A2
  rintro n _ wr ⟨tm,ac,sc,rfl,bR,je,hA,hn,A2⟩
  obtain ⟨n,rfl⟩:∃k,n=k+1:=⟨n-1,by omega⟩
  obtain ⟨u,rfl⟩:=At bR
  obtain ⟨e4,e8,_⟩:=je
  replace e4:u 4=.pointer (some ⟨p4,0,none⟩):=zC e4
  replace e8:u 8=.func (.func n1) fs cp:=zC e8
  rw[e4,e8]
  obtain ⟨⟨v,aZ⟩,hl,fT⟩:=hA
  have c4:wr.cell? ⟨p4,0,none⟩=some (.pointer (some ⟨b,0,none⟩)):=by rw[cell_of_row _ _ _ _ _ _ (aa HCe _ _ aZ.nx).1];rfl
  have ny:=aj (fO aZ.rd ⟨#[44]⟩)
  have lE:=aj aZ
  have C7:=aj A2
  have oO:=aj fT
  have Hl:=aj hl
  have Hn:=aj hn
  clear e4 e8 bR aZ fT hl A2 hn
  go_wp2_with fail
  refine (aa ny).mono ?_
  intro e w2 hw
  rcases hw.split with ⟨y,hr,rfl,hg⟩|⟨fl,s3,hr,rfl,h3,hg⟩
  ·show Q (Exit.panic _) _ _
   rw[←hQ]
   refine ⟨rfl,aa Jt y _ ?_ ?_⟩
   ·rw[←aa C7]
    unfold gT
    rw[hr]
   ·exact (aa lE).sv.trans (Sv.of hg (by have:=(aa lE).bx.lt;omega))
  ·have nG:=(aa lE).read (aa HN) h3 hg
   have c43:w2.cell? ⟨p4,0,none⟩=some (.pointer (some ⟨b,0,none⟩)):=by rw[cell_of_row _ _ _ _ _ _ (aa HCe _ _ nG.nx).1];rfl
   have nz:=aj nG
   have aa3:=aj (dK hr)
   rcases lH hr with ⟨rfl,rfl⟩|⟨rfl,NC,vX⟩
   ·have HEq:Hid ((match aW ⟨#[59]⟩ s3 with|.error e=>.error e|.ok (_,s4)=>.ok (ac,s4))=R0):=by
     show _=_
     rw[←aa C7]
     unfold gT
     rw[hr]
    have xX:=aj (cQ nG.rd ⟨#[59]⟩)
    clear hw hr h3 hg nG lE ny C7 c4
    go_wp2_with fail
    refine (aa xX).mono ?_
    intro e w3 hw
    rcases hw.split with ⟨y,hr,rfl,hg⟩|⟨_,s4,hr,rfl,h4,hg⟩
    ·rw[←hQ]
     refine ⟨rfl,aa Jt y _ ?_ ?_⟩
     ·rw[←aa HEq,hr]
     ·exact (aa nz).sv.trans (Sv.of hg (by have:=(aa nz).bx.lt;omega))
    ·have OR:=bN hr
     have HE:Hid (R (.returned (.tuple #[])) w3):=aa Jg ac s4 w3 (by rw[←aa HEq,hr]) ⟨⟨v,(aa nz).read (aa HN) h4 hg⟩,by have:=aa Hl;have:=OR.len;omega,OR.sm (aa oO)⟩
     clear hw hr h4 hg OR
     go_wp2
     rw[←hQ]
     go_end0
     exact aa HE
   ·have Sy:=mF NC (aa lE).rd.grown vX (by decide)
    have Wi:Rs lo b g T nm ss N V W i t sz C ac s3 w2:=⟨⟨v,nG⟩,by have:=aa Hl;omega,(aa aa3).sm (aa oO)⟩
    obtain ⟨n2,qc,cp2,e2,Aj,gj⟩:=aa aa6 ac s3 w2 Wi
    cases e2
    have Gu:=aj gj
    have HEq:Hid (∀z,one s3=z→(match (match z with|.error e=>Except.error e|.ok (a,s2)=>gT one n (ac++[a]) s2) with|.error e=>.error e|.ok (l,s2)=>match aW ⟨#[59]⟩ s2 with|.error e=>.error e|.ok (_,s3)=>.ok (l,s3))=R0):=fun z hz=>by
     rw[←aa C7]
     conv=>rhs;unfold gT
     rw[hr]
     simp only
     rw[hz]
    clear hw hr h3 hg nG lE ny C7 c4 gj Wi NC vX
    go_wp2_with fail
    refine (show Calls Tryz.prog n1 (fs++cp) _ _ from by have:=aa Gu;simpa using this).mono ?_
    intro e w3 ll
    unfold xa at ll
    cases hr:one s3 with
    |error y =>
     rw[hr] at ll
     obtain ⟨rfl,hs⟩:=ll
     show Q (Exit.panic _) _ _
     rw[←hQ]
     exact ⟨rfl,aa Jt y w3 (by rw[←aa HEq _ hr]) hs⟩
    |ok y =>
     obtain ⟨a4,s4⟩:=y
     rw[hr] at ll
     obtain ⟨rfl,h4⟩:=ll
     have H4:=aj h4
     have cc:s4.ts.length<n:=by
      have h5:=(aa HGt _ _ _ hr).1.iY.len
      have:=aa Hn
      omega
     have aa9:=aj (aa HEq _ hr)
     clear hr h4 Gu HEq Aj
     go_wp2
     exact ⟨n,rfl,_,ac++[a4],s4,rfl,rfl,⟨rfl,rfl,trivial⟩,aa H4,cc,aa aa9⟩
end
end Go.Proofs.YtmlphohdcejniaaGreatDoor
namespace Go.Proofs.YtmlphohdcejniaaGreatDoor
open Go.RowKit
theorem wP (w:World) (vs:Array Value):(callFunc 174 vs).run Tryz.prog w=.ok (.enter 174 vs) w:=by
 have hn:¬Tryz.f174.name = "runtime.NumGoroutine" := by decide +kernel
 have hb:Tryz.f174.body.isSome=true:=by kernel_rfl
 obtain ⟨c,hc⟩:=zG hb
 simp[callFunc,Tryz.func174,hn,hc]
theorem wO (w:World) (vs:Array Value):(callFunc 176 vs).run Tryz.prog w=.ok (.enter 176 vs) w:=by
 have hn:¬Tryz.f176.name = "runtime.NumGoroutine" := by decide +kernel
 have hb:Tryz.f176.body.isSome=true:=by kernel_rfl
 obtain ⟨c,hc⟩:=zG hb
 simp[callFunc,Tryz.func176,hn,hc]
theorem EN (w:World) (vs:Array Value):(callFunc 96 vs).run Tryz.prog w=.ok (.enter 96 vs) w:=by
 have hn:¬Tryz.f96.name = "runtime.NumGoroutine" := by decide +kernel
 have hb:Tryz.f96.body.isSome=true:=by kernel_rfl
 obtain ⟨c,hc⟩:=zG hb
 simp[callFunc,Tryz.func96,hn,hc]
theorem EM (w:World) (vs:Array Value):(callFunc 98 vs).run Tryz.prog w=.ok (.enter 98 vs) w:=by
 have hn:¬Tryz.f98.name = "runtime.NumGoroutine" := by decide +kernel
 have hb:Tryz.f98.body.isSome=true:=by kernel_rfl
 obtain ⟨c,hc⟩:=zG hb
 simp[callFunc,Tryz.func98,hn,hc]
theorem EL (w:World) (vs:Array Value):(callFunc 100 vs).run Tryz.prog w=.ok (.enter 100 vs) w:=by
 have hn:¬Tryz.f100.name = "runtime.NumGoroutine" := by decide +kernel
 have hb:Tryz.f100.body.isSome=true:=by kernel_rfl
 obtain ⟨c,hc⟩:=zG hb
 simp[callFunc,Tryz.func100,hn,hc]
theorem EK (w:World) (vs:Array Value):(callFunc 102 vs).run Tryz.prog w=.ok (.enter 102 vs) w:=by
 have hn:¬Tryz.f102.name = "runtime.NumGoroutine" := by decide +kernel
 have hb:Tryz.f102.body.isSome=true:=by kernel_rfl
 obtain ⟨c,hc⟩:=zG hb
 simp[callFunc,Tryz.func102,hn,hc]
theorem xS (w:World) (vs:Array Value):(callFunc 151 vs).run Tryz.prog w=.ok (.enter 151 vs) w:=by
 have hn:¬Tryz.f151.name = "runtime.NumGoroutine" := by decide +kernel
 have hb:Tryz.f151.body.isSome=true:=by kernel_rfl
 obtain ⟨c,hc⟩:=zG hb
 simp[callFunc,Tryz.func151,hn,hc]
theorem xR (w:World) (vs:Array Value):(callFunc 152 vs).run Tryz.prog w=.ok (.enter 152 vs) w:=by
 have hn:¬Tryz.f152.name = "runtime.NumGoroutine" := by decide +kernel
 have hb:Tryz.f152.body.isSome=true:=by kernel_rfl
 obtain ⟨c,hc⟩:=zG hb
 simp[callFunc,Tryz.func152,hn,hc]
theorem xQ (w:World) (vs:Array Value):(callFunc 153 vs).run Tryz.prog w=.ok (.enter 153 vs) w:=by
 have hn:¬Tryz.f153.name = "runtime.NumGoroutine" := by decide +kernel
 have hb:Tryz.f153.body.isSome=true:=by kernel_rfl
 obtain ⟨c,hc⟩:=zG hb
 simp[callFunc,Tryz.func153,hn,hc]
theorem xP (w:World) (vs:Array Value):(callFunc 155 vs).run Tryz.prog w=.ok (.enter 155 vs) w:=by
 have hn:¬Tryz.f155.name = "runtime.NumGoroutine" := by decide +kernel
 have hb:Tryz.f155.body.isSome=true:=by kernel_rfl
 obtain ⟨c,hc⟩:=zG hb
 simp[callFunc,Tryz.func155,hn,hc]
theorem xO (w:World) (vs:Array Value):(callFunc 157 vs).run Tryz.prog w=.ok (.enter 157 vs) w:=by
 have hn:¬Tryz.f157.name = "runtime.NumGoroutine" := by decide +kernel
 have hb:Tryz.f157.body.isSome=true:=by kernel_rfl
 obtain ⟨c,hc⟩:=zG hb
 simp[callFunc,Tryz.func157,hn,hc]
theorem xN (w:World) (vs:Array Value):(callFunc 159 vs).run Tryz.prog w=.ok (.enter 159 vs) w:=by
 have hn:¬Tryz.f159.name = "runtime.NumGoroutine" := by decide +kernel
 have hb:Tryz.f159.body.isSome=true:=by kernel_rfl
 obtain ⟨c,hc⟩:=zG hb
 simp[callFunc,Tryz.func159,hn,hc]
theorem xM (w:World) (vs:Array Value):(callFunc 160 vs).run Tryz.prog w=.ok (.enter 160 vs) w:=by
 have hn:¬Tryz.f160.name = "runtime.NumGoroutine" := by decide +kernel
 have hb:Tryz.f160.body.isSome=true:=by kernel_rfl
 obtain ⟨c,hc⟩:=zG hb
 simp[callFunc,Tryz.func160,hn,hc]
theorem EO (w:World) (vs:Array Value):(callFunc 104 vs).run Tryz.prog w=.ok (.enter 104 vs) w:=by
 have hn:¬Tryz.f104.name = "runtime.NumGoroutine" := by decide +kernel
 have hb:Tryz.f104.body.isSome=true:=by kernel_rfl
 obtain ⟨c,hc⟩:=zG hb
 simp[callFunc,Tryz.func104,hn,hc]
theorem IW (w:World) (vs:Array Value):(callFunc 75 vs).run Tryz.prog w=.ok (.enter 75 vs) w:=by
 have hn:¬Tryz.f75.name = "runtime.NumGoroutine" := by decide +kernel
 have hb:Tryz.f75.body.isSome=true:=by kernel_rfl
 obtain ⟨c,hc⟩:=zG hb
 simp[callFunc,Tryz.func75,hn,hc]
theorem xL (w:World) (vs:Array Value):(callFunc 125 vs).run Tryz.prog w=.ok (.enter 125 vs) w:=by
 have hn:¬Tryz.f125.name = "runtime.NumGoroutine" := by decide +kernel
 have hb:Tryz.f125.body.isSome=true:=by kernel_rfl
 obtain ⟨c,hc⟩:=zG hb
 simp[callFunc,Tryz.func125,hn,hc]
theorem EP (w:World) (vs:Array Value):(callFunc 128 vs).run Tryz.prog w=.ok (.enter 128 vs) w:=by
 have hn:¬Tryz.f128.name = "runtime.NumGoroutine" := by decide +kernel
 have hb:Tryz.f128.body.isSome=true:=by kernel_rfl
 obtain ⟨c,hc⟩:=zG hb
 simp[callFunc,Tryz.func128,hn,hc]
theorem CL (w:World) (vs:Array Value):(callFunc 173 vs).run Tryz.prog w=.ok (.enter 173 vs) w:=by
 have hn:¬Tryz.f173.name = "runtime.NumGoroutine" := by decide +kernel
 have hb:Tryz.f173.body.isSome=true:=by kernel_rfl
 obtain ⟨c,hc⟩:=zG hb
 simp[callFunc,Tryz.func173,hn,hc]
theorem AK (w:World) (vs:Array Value):(callFunc 163 vs).run Tryz.prog w=.ok (.enter 163 vs) w:=by
 have hn:¬Tryz.f163.name = "runtime.NumGoroutine" := by decide +kernel
 have hb:Tryz.f163.body.isSome=true:=by kernel_rfl
 obtain ⟨c,hc⟩:=zG hb
 simp[callFunc,Tryz.func163,hn,hc]
end Go.Proofs.YtmlphohdcejniaaGreatDoor
namespace Go.Proofs.YtmlphohdcejniaaGreatDoor
open Go.RowKit
attribute [local go_sem ↓] Go.wp_at_zero Go.wp_at_succ
theorem aK.aaX {a b c d:(Nat→Prop)→World→Prop} (h1:aK a) (h2:aK b) (h3:aK c) (h4:aK d):aK fun P w=>a P w∧b P w∧c P w∧d P w:=h1.and (h2.and (h3.and h4))
theorem FB {lo hi:Int}{mi:Bool}{s s1:aI}{p:Int×Int} (h:kK lo hi mi s=.ok (p,s1)) (he:s.en.kind=5):0<s.ts.length:=by
 apply bP he
 intro hk
 have hkb:s.begun.here.kind=5:=hk
 have key:∀m n s2,mg lo hi m s.begun≠.ok (n,s2):=by
  intro m n s2 ht
  unfold mg at ht
  rw[if_neg (by rw[hkb];decide)] at ht
  cases ht
 unfold kK at h
 split at h
 ·cases h
 ·rename_i n s2 hn
  unfold fm at hn
  split at hn
  ·cases hn
  ·rename_i m s0 hm
   split at hm
   ·unfold cw at hm
    rw[if_neg (by unfold dD;rw[hkb];simp)] at hm
    simp only[Except.ok.injEq,Prod.mk.injEq] at hm
    rw[←hm.2] at hn
    exact key _ _ _ hn
   ·simp only[Except.ok.injEq,Prod.mk.injEq] at hm
    rw[←hm.2] at hn
    exact key _ _ _ hn
theorem BI {s s1:aI}{x:ByteArray} (h:mj s=.ok (x,s1)) (he:s.en.kind=5):0<s.ts.length:=by
 apply bP he
 have h1:=(lY (s:=s.begun) h).2
 have h2:s.here.kind=3:=h1
 rw[h2]
 decide
theorem gS {α:Type}:∀(l:List α) (i:Nat) (x y:α),(l.set i x).set i y=l.set i y
 |[],_,_,_=>rfl
 |_::_,0,_,_=>rfl
 |a::r,i+1,x,y=>by simp
theorem fH {α:Type}{l:List α}{i:Nat}{z:α} (h:l[i]?=some z) (x:α):(l.set i x)[i]?=some x:=by
 have:=(zB h).1
 simp[this]
theorem Bm {α:Type}{one:aI→Except (Int×Int) (α×aI)} (ho:∀s a s1,one s=.ok (a,s1)→kP s s1):∀(n:Nat) (acc:List α) (s:aI) (l:List α) (s':aI),gT one n acc s=.ok (l,s')→kP s s'
 |0,_,_,_,_,h=>by cases h
 |n+1,acc,s,l,s',h=>by
  unfold gT at h
  split at h
  ·cases h
  ·rename_i s1 h1
   simp only[Except.ok.injEq,Prod.mk.injEq] at h
   obtain ⟨_,rfl⟩:=h
   exact dK h1
  ·rename_i s1 h1
   split at h
   ·cases h
   ·rename_i a s2 h2
    exact ((dK h1).trans (ho _ _ _ h2)).trans (Bm ho n _ _ _ _ h)
theorem oT {α:Type}{one:aI→Except (Int×Int) (α×aI)} (ho:∀s a s1,one s=.ok (a,s1)→kP s s1) {acc l:List α}{s s':aI} (h:iJ one acc s=.ok (l,s')):kP s s':=by
 unfold iJ at h
 split at h
 ·cases h
 ·rename_i a s1 h1
  split at h
  ·cases h
  ·rename_i l2 s2 h2
   split at h
   ·cases h
   ·rename_i u s3 h3
    simp only[Except.ok.injEq,Prod.mk.injEq] at h
    obtain ⟨_,rfl⟩:=h
    exact ((ho _ _ _ h1).trans (Bm ho _ _ _ _ _ h2)).trans (bN h3)
section
variable {lo b g iR iG : Nat} {T : TypeId} {nm : ByteArray} {ss : List Slot} {N : (Nat → Prop) → World → Prop} {V W w0 : World} {s : aI} {rs : List (Int × Int)} {gs : List ByteArray} {vr vg : Value} {bl bh : Int} {bm : Bool}
theorem Ky {p4 p5 p6:Nat} (hN:aK N) (cn:∀P w,N P w→∀c ∈ ([(p6,#[.pointer (some ⟨g,iR+1,none⟩)],197),(p4,#[.pointer (some ⟨b,0,none⟩)],107),(p5,#[.int .i64 bl,.int .i64 bh,.bool bm],196)]:List (Nat×Array Value×TypeId)),aP c.1 c.2.1 c.2.2 P w) {z:Slot} (hz:ss[iR]?=some z)
  (acc:List (Int×Int)) (s:aI) (w:World) (h:Rs lo b g T nm ss N V W iR 111 2 kz acc s w):l9 (.func (.func 174) #[] #[.pointer (some ⟨p6,0,none⟩),.pointer (some ⟨p4,0,none⟩),.pointer (some ⟨p5,0,none⟩)]) #[] w (xa lo b g T nm ss N V W iR 111 2 kz (kK bl bh bm) acc s):=by
 obtain ⟨⟨v,aZ⟩,hl,fT⟩:=h
 refine ⟨_,_,_,rfl,wP w,?_⟩
 have hc:=Kl (pm:=p6) (pr:=p4) (pb:=p5) (bt:=16) (r:=kK bl bh bm s) (N1:=fun a x _ _=>x=Ov a) aZ hN (fun _ _=>fun _ _ _ _ _ h=>h) (fH hz _) (II rfl rfl) (by simp only;omega) cn (fun w' kR=>(G2 bl bh bm kR.ev kR.rd).mono fun e w2 h2=>h2.cr)
 simp only[Array.append_empty,List.nil_append,List.append_toArray]
 refine hc.mono ?_
 intro e w' hw
 unfold xa
 rcases CP.plain Ow hw with ⟨y,hr,rfl,hs⟩|⟨a,s',y,hr,rfl,h2⟩
 ·rw[hr]
  exact ⟨rfl,hs⟩
 ·rw[hr]
  have h3:=Am hr
  have h4:=h3.lt (FB hr aZ.rd.grown)
  rw[gS] at h2
  exact ⟨rfl,⟨y,h2⟩,by rw[zK,List.length_singleton];omega,h3.iY.sm fT⟩
theorem Kz {p4 p7:Nat} (hN:aK N) (cn:∀P w,N P w→∀c ∈ ([(p7,#[.pointer (some ⟨g,iG+1,none⟩)],198),(p4,#[.pointer (some ⟨b,0,none⟩)],107)]:List (Nat×Array Value×TypeId)),aP c.1 c.2.1 c.2.2 P w) {z:Slot} (hz:ss[iG]?=some z)
  (acc:List ByteArray) (s:aI) (w:World) (h:Rs lo b g T nm ss N V W iG 9 1 bS acc s w):l9 (.func (.func 176) #[] #[.pointer (some ⟨p7,0,none⟩),.pointer (some ⟨p4,0,none⟩)]) #[] w (xa lo b g T nm ss N V W iG 9 1 bS mj acc s):=by
 obtain ⟨⟨v,aZ⟩,hl,fT⟩:=h
 refine ⟨_,_,_,rfl,wO w,?_⟩
 have hc:=Kk (pm:=p7) (pr:=p4) (bt:=16) (r:=mj s) (N1:=fun a x _ _=>x=Value.string a) aZ hN (fun _ _=>fun _ _ _ _ _ h=>h) (fH hz _) (Ax rfl rfl) (by simp only;omega) cn (fun w' kR=>(LV kR.ev kR.rd).mono fun e w2 h2=>h2.cr)
 simp only[Array.append_empty,List.nil_append,List.append_toArray]
 refine hc.mono ?_
 intro e w' hw
 unfold xa
 rcases CP.plain uU hw with ⟨y,hr,rfl,hs⟩|⟨a,s',y,hr,rfl,h2⟩
 ·rw[hr]
  exact ⟨rfl,hs⟩
 ·rw[hr]
  have h3:=tY hr
  have h4:=h3.lt (BI hr aZ.rd.grown)
  rw[gS] at h2
  exact ⟨rfl,⟨y,h2⟩,by rw[zK,List.length_singleton];omega,h3.iY.sm fT⟩
def AQ (lo b g:Nat) (T:TypeId) (nm:ByteArray) (ss:List Slot) (N:(Nat→Prop)→World→Prop) (V W:World) (iR iG:Nat) (r:Except (Int×Int) ((List (Int×Int)×List ByteArray)×aI)) (e:Ending) (w:World):Prop:=match r with
 |.error y=>e=oD y.1 y.2∧Sv g b W w
 |.ok (l,s')=>e=.returned (.tuple #[])∧(∃v1 v2,Ap lo b g T nm ((ss.set iR ⟨111,2,v1,l.1.length,kz l.1⟩).set iG ⟨9,1,v2,l.2.length,bS l.2⟩) N V W s' w)∧l.1.length+s'.ts.length≤20000∧l.2.length+s'.ts.length≤20000∧Sm s'
theorem pd (h:Ap lo b g T nm ss N V W s w0) (hN:aK N) (eo:iR≠iG) (hR:ss[iR]?=some ⟨111,2,vr,rs.length,kz rs⟩) (hG:ss[iG]?=some ⟨9,1,vg,gs.length,bS gs⟩) (hp:0<s.ts.length) (hs:Sm s) (UC:rs.length+s.ts.length≤20000) (UD:gs.length+s.ts.length≤20000) :
  Calls Tryz.prog 156 #[.pointer (some ⟨b,0,none⟩),.agg #[.int .i64 bl,.int .i64 bh,.bool bm],.pointer (some ⟨g,iR+1,none⟩),.pointer (some ⟨g,iG+1,none⟩)] w0 (AQ lo b g T nm ss N V W iR iG (ki bl bh bm rs gs s)):=by
 obtain ⟨p,Ux⟩:∃p,w0.heap.size=p:=⟨_,rfl⟩
 have Co:Below w0.heap.size w0 ((((w0.alloc (.cells #[.pointer (some ⟨b,0,none⟩)] 107)).alloc (.cells #[.int .i64 bl,.int .i64 bh,.bool bm] 196)).alloc (.cells #[.pointer (some ⟨g,iR+1,none⟩)] 197)).alloc (.cells #[.pointer (some ⟨g,iG+1,none⟩)] 198)) :=
  ((((zE _ _).alloc (zD _) _).alloc (by simp only[zJ];omega) _).alloc (by simp only[zJ];omega) _).alloc (by simp only[zJ];omega) _
 obtain ⟨w1,nE⟩:∃w1,((((w0.alloc (.cells #[.pointer (some ⟨b,0,none⟩)] 107)).alloc (.cells #[.int .i64 bl,.int .i64 bh,.bool bm] 196)).alloc (.cells #[.pointer (some ⟨g,iR+1,none⟩)] 197)).alloc (.cells #[.pointer (some ⟨g,iG+1,none⟩)] 198))=w1:=⟨_,rfl⟩
 have h4:w1.heap[p]?=some (.cells #[.pointer (some ⟨b,0,none⟩)] 107 (0,0)):=by
  rw[←nE,←Ux,Below.heap_alloc _ _ _ (by simp only[zJ];omega),Below.heap_alloc _ _ _ (by simp only[zJ];omega),Below.heap_alloc _ _ _ (by simp only[zJ];omega)]
  exact aC _ _
 have h5:w1.heap[p+1]?=some (.cells #[.int .i64 bl,.int .i64 bh,.bool bm] 196 (0,0)):=by
  rw[←nE,←Ux,Below.heap_alloc _ _ _ (by simp only[zJ];omega),Below.heap_alloc _ _ _ (by simp only[zJ];omega)]
  have:=aC (w0.alloc (.cells #[.pointer (some ⟨b,0,none⟩)] 107)) (.cells #[.int .i64 bl,.int .i64 bh,.bool bm] 196)
  simpa only[zJ] using this
 have h6:w1.heap[p+2]?=some (.cells #[.pointer (some ⟨g,iR+1,none⟩)] 197 (0,0)):=by
  rw[←nE,←Ux,Below.heap_alloc _ _ _ (by simp only[zJ];omega)]
  have:=aC ((w0.alloc (.cells #[.pointer (some ⟨b,0,none⟩)] 107)).alloc (.cells #[.int .i64 bl,.int .i64 bh,.bool bm] 196)) (.cells #[.pointer (some ⟨g,iR+1,none⟩)] 197)
  simpa only[zJ] using this
 have h7:w1.heap[p+3]?=some (.cells #[.pointer (some ⟨g,iG+1,none⟩)] 198 (0,0)):=by
  rw[←nE,←Ux]
  have:=aC (((w0.alloc (.cells #[.pointer (some ⟨b,0,none⟩)] 107)).alloc (.cells #[.int .i64 bl,.int .i64 bh,.bool bm] 196)).alloc (.cells #[.pointer (some ⟨g,iR+1,none⟩)] 197)) (.cells #[.pointer (some ⟨g,iG+1,none⟩)] 198)
  simpa only[zJ] using this
 rw[nE] at Co
 obtain ⟨N2,UN⟩:∃N2:(Nat→Prop)→World→Prop,N2=fun P w=>aP p #[.pointer (some ⟨b,0,none⟩)] 107 P w∧aP (p+1) #[.int .i64 bl,.int .i64 bh,.bool bm] 196 P w∧aP (p+2) #[.pointer (some ⟨g,iR+1,none⟩)] 197 P w∧aP (p+3) #[.pointer (some ⟨g,iG+1,none⟩)] 198 P w:=⟨_,rfl⟩
 have hS2:aK N2:=by rw[UN];exact aK.aaX (bp _ _ _) (bp _ _ _) (bp _ _ _) (bp _ _ _)
 have SW:Ap lo b g T nm ss (fun P w=>N P w∧N2 P w) V W s w1:=h.join hN hS2 (h.rd.up Co) (aA b Co) (by rw[UN];exact ⟨⟨h4,by omega⟩,⟨h5,by omega⟩,⟨h6,by omega⟩,⟨h7,by omega⟩⟩)
 have HS:=aj (hN.and hS2)
 have Hc4:Hid (∀P w,(N P w∧N2 P w)→aP p #[.pointer (some ⟨b,0,none⟩)] 107 P w):=fun P w hh=>by have:=hh.2;rw[UN] at this;exact this.1
 have HcR:Hid (∀P w,(N P w∧N2 P w)→∀c ∈ ([(p+2,#[.pointer (some ⟨g,iR+1,none⟩)],197),(p,#[.pointer (some ⟨b,0,none⟩)],107),(p+1,#[.int .i64 bl,.int .i64 bh,.bool bm],196)]:List (Nat×Array Value×TypeId)),aP c.1 c.2.1 c.2.2 P w):=fun P w hh c hc=>by
  have:=hh.2
  rw[UN] at this
  simp only[List.mem_cons,List.not_mem_nil,or_false] at hc
  rcases hc with rfl|rfl|rfl
  ·exact this.2.2.1
  ·exact this.1
  ·exact this.2.1
 have HcG:Hid (∀P w,(N P w∧N2 P w)→∀c ∈ ([(p+3,#[.pointer (some ⟨g,iG+1,none⟩)],198),(p,#[.pointer (some ⟨b,0,none⟩)],107)]:List (Nat×Array Value×TypeId)),aP c.1 c.2.1 c.2.2 P w):=fun P w hh c hc=>by
  have:=hh.2
  rw[UN] at this
  simp only[List.mem_cons,List.not_mem_nil,or_false] at hc
  rcases hc with rfl|rfl
  ·exact this.2.2.2
  ·exact this.1
 have Hp:=aj Ux
 have c4:w1.cell? ⟨p,0,none⟩=some (.pointer (some ⟨b,0,none⟩)):=by rw[cell_of_row _ _ _ _ _ _ h4];rfl
 have xp:=aj SW
 have Ud:=aj (cY SW.rd hp)
 have oO:=aj hs
 have Hlr:=aj UC
 have Hlg:=aj UD
 have HsR:=aj hR
 have HsG:=aj hG
 have TU:=aj eo
 clear h hN hR hG hs UC UD h4 h5 h6 h7 Co UN hS2 SW hp eo
 refine calls_of_wp Tryz.func156 Kh ?_
 obtain ⟨tl,nU⟩:∃t,zu=t:=⟨_,rfl⟩
 rw[nU]
 obtain ⟨Q,hQ⟩:∃Q,bodyPost Tryz.prog Tryz.f156 (AQ lo b g T nm ss N V W iR iG (ki bl bh bm rs gs s))=Q:=⟨_,rfl⟩
 rw[hQ]
 unfold Ki
 dsimp only[Tryz.f156]
 simp only[List.size_toArray,List.length_cons,List.length_nil,Nat.reduceAdd,Nat.reduceSub,Array.replicate_succ,Array.replicate_zero,List.push_toArray,List.append_toArray,List.nil_append,List.cons_append]
 subst nE
 subst Ux
 go_wp2_with fail
 refine (aa Ud).mono ?_
 intro e w2 hw
 rcases hw.split with ⟨y,hr,rfl,hg⟩|⟨_,s1,hr,rfl,h1,hg⟩
 ·show Q (Exit.panic _) _ _
  rw[←hQ]
  refine ⟨rfl,?_⟩
  unfold ki
  rw[hr]
  exact ⟨rfl,(aa xp).sv.trans (Sv.of hg (by have:=(aa xp).bx.lt;omega))⟩
 ·have gp:=(aa xp).read (aa HS) h1 hg
  have c42:w2.cell? ⟨w0.heap.size,0,none⟩=some (.pointer (some ⟨b,0,none⟩)):=by rw[cell_of_row _ _ _ _ _ _ (aa Hc4 _ _ gp.nx).1];rfl
  have lE:=aj gp
  have Hr:=aj hr
  have Yb:=aj ((de hr).iY.sm (aa oO))
  have ZO:=aj (de hr).iY.len
  have ny:=aj (eV gp.rd)
  obtain ⟨t,ht⟩:∃t,s1.here=t:=⟨_,rfl⟩
  have Ht:=aj ht
  rw[ht] at ny
  obtain ⟨kd,sp,tx⟩:=t
  unfold Tk.val at ny
  simp only at ny
  have hf:∀w,(Instr.field 44 (.agg #[.int .i64 kd,.int .i64 sp,.string tx]) 0).run Tryz.prog w=.ok (.int .i64 kd) w:=fun w=>(ns w ⟨kd,sp,tx⟩).1
  clear hw hr hg h1 gp xp Ud c4 ht
  go_wp2_with fail
  refine (aa ny).mono ?_
  rintro e w3 ⟨rfl,mC⟩
  have nz:=aj ((aa lE).up (aa HS) mC)
  clear mC lE ny c42
  by_cases hk:kd=3
  ·subst hk
   have HF:Hid (ki bl bh bm rs gs s=match iJ mj gs s1 with|.error e=>.error e|.ok (l,s2)=>.ok ((rs,l),s2)):=by
    show _=_
    unfold ki
    rw[aa Hr]
    simp only
    rw[if_pos (by rw[aa Ht])]
    all_goals (cases iJ mj gs s1<;>rfl)
   go_wp2
   rw[←nU,←hQ]
   refine u9 (aa HS) (aa Hc4) (fun s a s1 h=>⟨tY h,BI h⟩) (fun acc s w h=>Kz (aa HS) (aa HcG) (aa HsG) acc s w h) (acc:=gs) (s:=s1) ⟨⟨vg,by rw[mJ (aa HsG)];exact aa nz⟩,by have:=aa Hlg;have:=aa ZO;omega,aa Yb⟩ rfl ⟨rfl,rfl,trivial⟩ ?_ ?_
   ·intro y w hm hsv
    rw[aa HF,hm]
    exact ⟨rfl,hsv⟩
   ·rintro l s' w hm ⟨⟨v,aZ⟩,hl,fT⟩
    rw[aa HF,hm]
    have OR:=(oT (fun s a s1 h=>(tY h).iY) hm).len
    refine ⟨rfl,⟨vr,v,?_⟩,by have:=aa Hlr;have:=aa ZO;simp only;omega,hl,fT⟩
    rw[mJ (aa HsR)]
    exact aZ.imp (fun h=>h.1)
  ·have HF:Hid (ki bl bh bm rs gs s=match iJ (kK bl bh bm) rs s1 with|.error e=>.error e|.ok (l,s2)=>.ok ((l,gs),s2)):=by
    show _=_
    unfold ki
    rw[aa Hr]
    simp only
    rw[if_neg (by rw[aa Ht];exact hk)]
    all_goals (cases iJ (kK bl bh bm) rs s1<;>rfl)
   have gO:(kd==3)=false:=by simp[hk]
   clear hk
   go_wp2
   rw[←nU,←hQ]
   refine u9 (aa HS) (aa Hc4) (fun s a s1 h=>⟨Am h,FB h⟩) (fun acc s w h=>Ky (aa HS) (aa HcR) (aa HsR) acc s w h) (acc:=rs) (s:=s1) ⟨⟨vr,by rw[mJ (aa HsR)];exact aa nz⟩,by have:=aa Hlr;have:=aa ZO;omega,aa Yb⟩ rfl ⟨rfl,rfl,trivial⟩ ?_ ?_
   ·intro y w hm hsv
    rw[aa HF,hm]
    exact ⟨rfl,hsv⟩
   ·rintro l s' w hm ⟨⟨v,aZ⟩,hl,fT⟩
    rw[aa HF,hm]
    have OR:=(oT (fun s a s1 h=>(Am h).iY) hm).len
    refine ⟨rfl,⟨v,vg,?_⟩,hl,by have:=aa Hlg;have:=aa ZO;simp only;omega,fT⟩
    rw[mJ (by rw[List.getElem?_set_ne (aa TU)];exact aa HsG)]
    exact aZ.imp (fun h=>h.1)
end
end Go.Proofs.YtmlphohdcejniaaGreatDoor
