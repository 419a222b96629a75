import Derived.Test.YtjophoclfccmcaaGreatDoorPbG
set_option maxHeartbeats 4000000
set_option maxRecDepth 100000
namespace Go.Proofs.YtjophoclfccmcaaGreatDoor
open Go.RowKit
attribute [local go_sem ↓] Go.wp_at_zero Go.wp_at_succ
theorem CP.plain {α:Type}{lo b g i:Nat}{T t:TypeId}{sz:Nat}{nm:ByteArray}{ss:List Slot}{N:(Nat→Prop)→World→Prop}{V W w:World}{r:Except (Int×Int) (α×ay)}{ret:α→Value}{C:List α→List Value}{acc:List α}{v:Value}{e:Ending} (hC:∀acc a,C acc++(ret a).cells.toList=C (acc++[a])) (h:CP lo b g T nm ss N V W i ⟨t,sz,v,acc.length,C acc⟩ r (fun a x _ _=>x=ret a) e w) :
  (∃y,r=.error y∧e=qv y.1 y.2∧Sv g b W w)∨∃a s' y,r=.ok (a,s')∧e=.returned (.tuple #[])∧Ap lo b g T nm (ss.set i ⟨t,sz,y,(acc++[a]).length,C (acc++[a])⟩) N V W s' w:=by
 unfold CP at h
 cases r with
 |error y=>exact .inl ⟨y,rfl,h⟩
 |ok y =>
  obtain ⟨he,x,y',bd⟩:=h
  obtain rfl:=bd.nx.2
  refine .inr ⟨y.1,y.2,y',rfl,he,?_⟩
  rw[←hC,zK,List.length_singleton]
  exact bd.imp (fun h=>h.1)
theorem Q6 (acc:List (Int×Int)) (a:Int×Int):qG acc++(JX a).cells.toList=qG (acc++[a]):=by rw[xk];rfl
theorem xU (acc:List ByteArray) (a:ByteArray):dR acc++(Value.string a).cells.toList=dR (acc++[a]):=by rw[mu];rfl
theorem OI (acc:List Fd) (a:Fd):mI acc++a.val.cells.toList=mI (acc++[a]):=by rw[rH];simp[mI,Fd.val,Value.cells]
theorem Sx (acc:List (ByteArray×Int)) (a:ByteArray×Int):KX acc++(Qv a).cells.toList=KX (acc++[a]):=by rw[I1];rfl
def eC {α:Type} (one:ay→Except (Int×Int) (α×ay)):Nat→List α→ay→Except (Int×Int) (List α×ay)
 |0,_,_=>.error (0,0)
 |n+1,acc,s=>match bX 4 ⟨#[44]⟩ s with
  |.error e=>.error e
  |.ok (false,s1)=>.ok (acc,s1)
  |.ok (true,s1)=>match one s1 with
   |.error e=>.error e
   |.ok (a,s2)=>eC one n (acc++[a]) s2
def gw {α:Type} (one:ay→Except (Int×Int) (α×ay)) (acc:List α) (s:ay):Except (Int×Int) (List α×ay):=match one s with
 |.error e=>.error e
 |.ok (a,s1)=>match eC one (s1.ts.length+1) (acc++[a]) s1 with
  |.error e=>.error e
  |.ok (l,s2)=>match au ⟨#[59]⟩ s2 with
   |.error e=>.error e
   |.ok (_,s3)=>.ok (l,s3)
noncomputable def jZ (bl bh:Int) (bm:Bool) (rs:List (Int×Int)) (gs:List ByteArray) (s:ay):Except (Int×Int) ((List (Int×Int)×List ByteArray)×ay):=match bz s with
 |.error e=>.error e
 |.ok (_,s1)=>if s1.here.kind=3 then (match gw eY gs s1 with
   |.error e=>.error e
   |.ok (l,s2)=>.ok ((rs,l),s2)) else match gw (kR bl bh bm) rs s1 with
   |.error e=>.error e
   |.ok (l,s2)=>.ok ((l,gs),s2)
def Gt (s s1:ay):Prop:=∃k,s1.ts=s.ts.drop (k+1)∧s1.op=s.op∧s1.en=s.en
theorem Gt.gi {s s1:ay} (h:Gt s s1):jk s s1:=by
 obtain ⟨k,h⟩:=h
 exact ⟨k+1,h⟩
theorem Gt.lt {s s1:ay} (h:Gt s s1) (hp:0<s.ts.length):s1.ts.length<s.ts.length:=by
 obtain ⟨k,h,_⟩:=h
 rw[h,List.length_drop]
 omega
theorem Gt.tail {s s1:ay} (h:s1.ts=s.ts.tail) (ho:s1.op=s.op∧s1.en=s.en):Gt s s1:=⟨0,by rw[h,List.drop_one],ho⟩
theorem Gt.eA {a b c:ay} (h:Gt a b) (k:jk b c):Gt a c:=by
 obtain ⟨m,h⟩:=h
 obtain ⟨n,k⟩:=k
 exact ⟨m+n,by rw[k.1,h.1,List.drop_drop];congr 1;omega,k.2.1.trans h.2.1,k.2.2.trans h.2.2⟩
theorem jk.gt {a b c:ay} (h:jk a b) (k:Gt b c):Gt a c:=by
 obtain ⟨m,h⟩:=h
 obtain ⟨n,k⟩:=k
 exact ⟨m+n,by rw[k.1,h.1,List.drop_drop];congr 1,k.2.1.trans h.2.1,k.2.2.trans h.2.2⟩
theorem dW {s s1:ay}{u:Unit} (h:bz s=.ok (u,s1)):Gt s s1:=.tail (nf h) (nd h)
theorem gm {s s1:ay}{x:ByteArray} (h:aR s=.ok (x,s1)):Gt s s1:=.tail (jz h).1 (BI h)
theorem ju {ff:ByteArray→Int}{s s1:ay}{x:ByteArray} (h:bB ff s=.ok (x,s1)):Gt s s1∧s.here.kind=3:=by
 unfold bB at h
 split at h
 ·rename_i hk
  split at h
  ·split at h
   ·cases hn:bz s with
    |error e=>rw[hn] at h;cases h
    |ok y =>
     rw[hn] at h
     simp only[Except.ok.injEq,Prod.mk.injEq] at h
     obtain ⟨_,rfl⟩:=h
     exact ⟨dW (s:=s) (u:=y.1) (s1:=y.2) hn,hk⟩
   ·cases h
  ·cases h
 ·cases h
theorem sS {lo hi:Int}{mi:Bool}{s s1:ay}{n:Int} (h:cY lo hi mi s=.ok (n,s1)):Gt s s1:=by
 have key:∀m s0,iA lo hi m s0=.ok (n,s1)→Gt s0 s1:=by
  intro m s0 h
  unfold iA at h
  repeat' (split at h<;>try cases h)
  all_goals (try (rename_i hn;exact dW hn))
 unfold cY at h
 split at h
 ·cases h
 ·rename_i m s0 hm
  have h1:=key _ _ h
  have h2:jk s s0:=by
   split at hm
   ·exact dQ hm
   ·simp only[Except.ok.injEq,Prod.mk.injEq] at hm
    rw[hm.2]
    exact .refl _
  exact h2.gt h1
theorem sR {lo hi:Int}{mi:Bool}{s s1:ay}{p:Int×Int} (h:kR lo hi mi s=.ok (p,s1)):Gt s s1:=by
 unfold kR at h
 split at h
 ·cases h
 ·rename_i n s2 hn
  have h1:Gt s s2:=sS (s:=s.begun) hn
  split at h
  ·cases h
  ·rename_i s3 h3
   simp only[Except.ok.injEq,Prod.mk.injEq] at h
   obtain ⟨_,rfl⟩:=h
   exact h1.eA (dQ h3)
  ·rename_i s3 h3
   split at h
   ·cases h
   ·rename_i s4 h4
    simp only[Except.ok.injEq,Prod.mk.injEq] at h
    obtain ⟨_,rfl⟩:=h
    exact (h1.eA (dQ h3)).eA (dQ h4)
   ·rename_i s4 h4
    split at h
    ·cases h
    ·rename_i m s5 h5
     simp only[Except.ok.injEq,Prod.mk.injEq] at h
     obtain ⟨_,rfl⟩:=h
     exact ((h1.eA (dQ h3)).eA (dQ h4)).eA (sS h5).gi
theorem oV {s s1:ay}{x:ByteArray} (h:eY s=.ok (x,s1)):Gt s s1:=(ju (s:=s.begun) h).1
theorem B4 {tm:Array Value} (h:tm.size=25):∃u:Nat→Value,tm=#[u 0,u 1,u 2,u 3,u 4,u 5,u 6,u 7,u 8,u 9,u 10,u 11,u 12,u 13,u 14,u 15,u 16,u 17,u 18,u 19,u 20,u 21,u 22,u 23,u 24]:=by
 refine ⟨fun i=>tm.getD i undef,?_⟩
 have e:tm=((List.range 25).map fun i=>tm.getD i undef).toArray:=by
  apply Array.ext
  ·simp[h]
  ·intro i h1 h2
   simp[Array.getD,h1]
 exact e.trans rfl
noncomputable def Bp:Code:=match Tryz.f149.body with
 |some (.seq _ (.seq _ (.seq _ (.seq _ t))))=>t
 |_=>.skip
noncomputable def Mz (t:Code):Code:=match Tryz.f149.body with
 |some (.seq a (.seq b (.seq c (.seq d _))))=>.seq a (.seq b (.seq c (.seq d t)))
 |_=>.skip
theorem My:Tryz.f149.body=some (Mz Bp):=rfl
section
variable {α : Type} {lo b g i : Nat} {T t : TypeId} {sz : Nat} {nm : ByteArray} {ss : List Slot} {N : (Nat → Prop) → World → Prop} {V W : World} {p4 : Nat} {cv : Value} {C : List α → List Value} {one : ay → Except (Int × Int) (α × ay)}
def Rs (lo b g:Nat) (T:TypeId) (nm:ByteArray) (ss:List Slot) (N:(Nat→Prop)→World→Prop) (V W:World) (i:Nat) (t:TypeId) (sz:Nat) (C:List α→List Value) (acc:List α) (s:ay) (w:World):Prop:=(∃v,Ap lo b g T nm (ss.set i ⟨t,sz,v,acc.length,C acc⟩) N V W s w)∧acc.length+s.ts.length≤20000∧Sm s
def zn (lo b g:Nat) (T:TypeId) (nm:ByteArray) (ss:List Slot) (N:(Nat→Prop)→World→Prop) (V W:World) (i:Nat) (t:TypeId) (sz:Nat) (C:List α→List Value) (one:ay→Except (Int×Int) (α×ay)) (acc:List α) (s:ay) (e:Ending) (w:World):Prop:=match one s with
 |.error y=>e=qv y.1 y.2∧Sv g b W w
 |.ok (a,s')=>e=.returned (.tuple #[])∧Rs lo b g T nm ss N V W i t sz C (acc++[a]) s' w
def RsJ (lo b g:Nat) (T:TypeId) (nm:ByteArray) (ss:List Slot) (N:(Nat→Prop)→World→Prop) (V W:World) (i:Nat) (t:TypeId) (sz:Nat) (C:List α→List Value) (one:ay→Except (Int×Int) (α×ay)) (p4:Nat) (cv:Value) (R0:Except (Int×Int) (List α×ay)) (n:Nat) (a:Act) (w:World):Prop:=∃(tm:Array Value) (acc:List α) (s:ay),a=⟨tm,[]⟩∧tm.size=25∧Jc tm [(4,.pointer (some ⟨p4,0,none⟩)),(8,cv)]∧Rs lo b g T nm ss N V W i t sz C acc s w∧s.ts.length<n∧(match eC one n acc s with|.error e=>.error e|.ok (l,s2)=>match au ⟨#[59]⟩ s2 with|.error e=>.error e|.ok (_,s3)=>.ok (l,s3))=R0
theorem yb (hN:aQ N) (dD:∀P w,N P w→aW p4 #[.pointer (some ⟨b,0,none⟩)] 74 P w) (KC:∀s a s1,one s=.ok (a,s1)→Gt s s1∧(s.en.kind=5→0<s.ts.length)) (iW:∀acc s w,Rs lo b g T nm ss N V W i t sz C acc s w→nu cv #[] w (zn lo b g T nm ss N V W i t sz C one acc s))
  {acc:List α} {s:ay} {w0:World} (h:Rs lo b g T nm ss N V W i t sz C acc s w0) {tm:Array Value} (ck:tm.size=25) (j7:Jc tm [(4,.pointer (some ⟨p4,0,none⟩)),(8,cv)]) {R:Ending→World→Prop}
  (TM:∀y w,gw one acc s=.error y→Sv g b W w→R (qv y.1 y.2) w) (LH:∀l s' w,gw one acc s=.ok (l,s')→Rs lo b g T nm ss N V W i t sz C l s' w→R (.returned (.tuple #[])) w):Bp.wp Tryz.prog (bodyPost Tryz.prog Tryz.f149 R) ⟨tm,[]⟩ w0:=by
 have LO:=ab TM
 have zR:=ab LH
 have HN:=ab hN
 have HCe:=ab dD
 have HGt:=ab KC
 have acJ:=ab iW
 obtain ⟨n1,fs,cp,rfl,qJ,iL⟩:=iW acc s w0 h
 have Js:=ab iL
 obtain ⟨u,rfl⟩:=B4 ck
 obtain ⟨e4,e8,_⟩:=j7
 replace e4:u 4=.pointer (some ⟨p4,0,none⟩):=zC e4
 replace e8:u 8=.func (.func n1) fs cp:=zC e8
 rw[e4,e8]
 have HA:=ab h
 clear e4 e8 ck TM LH hN dD KC iW h iL
 obtain ⟨Q,hQ⟩:∃Q,bodyPost Tryz.prog Tryz.f149 R=Q:=⟨_,rfl⟩
 rw[hQ]
 unfold Bp
 dsimp only[Tryz.f149]
 go_wp2_with fail
 refine (show Calls Tryz.prog n1 (fs++cp) _ _ from by have:=aa Js;simpa using this).mono ?_
 intro e w1 eF
 unfold zn at eF
 cases hr:one s with
 |error y =>
  rw[hr] at eF
  obtain ⟨rfl,hs⟩:=eF
  rw[←hQ]
  exact ⟨rfl,aa LO y w1 (by unfold gw;rw[hr]) hs⟩
 |ok y =>
  obtain ⟨a1,s1⟩:=y
  rw[hr] at eF
  obtain ⟨rfl,h1⟩:=eF
  have HF:Hid ((match eC one (s1.ts.length+1) (acc++[a1]) s1 with|.error e=>.error e|.ok (l,s2)=>match au ⟨#[59]⟩ s2 with|.error e=>.error e|.ok (_,s3)=>.ok (l,s3))=gw one acc s):=by
   show _=_
   unfold gw
   rw[hr]
  have H1:=ab h1
  clear hr h1 Js HA qJ
  go_wp2
  refine gL (RsJ lo b g T nm ss N V W i t sz C one p4 (.func (.func n1) fs cp) (gw one acc s)) ?_ (s1.ts.length+1) _ _ ⟨_,acc++[a1],s1,rfl,rfl,⟨rfl,rfl,trivial⟩,aa H1,by omega,aa HF⟩
  obtain ⟨R0,CH⟩:∃R0,gw one acc s=R0:=⟨_,rfl⟩
  rw[CH] at LO zR ⊢
  clear HF H1 CH
  rintro n _ wr ⟨tm,ac,sc,rfl,ck,j7,hA,hn,CH⟩
  obtain ⟨n,rfl⟩:∃k,n=k+1:=⟨n-1,by omega⟩
  obtain ⟨u,rfl⟩:=B4 ck
  obtain ⟨e4,e8,_⟩:=j7
  replace e4:u 4=.pointer (some ⟨p4,0,none⟩):=zC e4
  replace e8:u 8=.func (.func n1) fs cp:=zC e8
  rw[e4,e8]
  obtain ⟨⟨v,bd⟩,hl,fJ⟩:=hA
  have c4:wr.cell? ⟨p4,0,none⟩=some (.pointer (some ⟨b,0,none⟩)):=by rw[cell_of_row _ _ _ _ _ _ (aa HCe _ _ bd.nx).1];rfl
  have E6:=ab (gh bd.rd ⟨#[44]⟩)
  have E8:=ab bd
  have EL:=ab CH
  have WQ:=ab fJ
  have Hl:=ab hl
  have Hn:=ab hn
  clear e4 e8 ck bd fJ hl CH hn
  go_wp2_with fail
  refine (aa E6).mono ?_
  intro e w2 hw
  rcases hw.split with ⟨y,hr,rfl,hg⟩|⟨fl,s3,hr,rfl,h3,hg⟩
  ·show Q (Exit.panic _) _ _
   rw[←hQ]
   refine ⟨rfl,aa LO y _ ?_ ?_⟩
   ·rw[←aa EL]
    unfold eC
    rw[hr]
   ·exact (aa E8).sv.trans (Sv.of hg (by have:=(aa E8).bx.lt;omega))
  ·have py:=(aa E8).read (aa HN) h3 hg
   have c43:w2.cell? ⟨p4,0,none⟩=some (.pointer (some ⟨b,0,none⟩)):=by rw[cell_of_row _ _ _ _ _ _ (aa HCe _ _ py.nx).1];rfl
   have Lu:=ab py
   have acE:=ab (dQ hr)
   rcases mT hr with ⟨rfl,rfl⟩|⟨rfl,Qi,EV⟩
   ·have HEq:Hid ((match au ⟨#[59]⟩ s3 with|.error e=>.error e|.ok (_,s4)=>.ok (ac,s4))=R0):=by
     show _=_
     rw[←aa EL]
     unfold eC
     rw[hr]
    have S6:=ab (dw py.rd ⟨#[59]⟩)
    clear hw hr h3 hg py E8 E6 EL c4
    go_wp2_with fail
    refine (aa S6).mono ?_
    intro e w3 hw
    rcases hw.split with ⟨y,hr,rfl,hg⟩|⟨_,s4,hr,rfl,h4,hg⟩
    ·rw[←hQ]
     refine ⟨rfl,aa LO y _ ?_ ?_⟩
     ·rw[←aa HEq,hr]
     ·exact (aa Lu).sv.trans (Sv.of hg (by have:=(aa Lu).bx.lt;omega))
    ·have RO:=bw hr
     have HE:Hid (R (.returned (.tuple #[])) w3):=aa zR ac s4 w3 (by rw[←aa HEq,hr]) ⟨⟨v,(aa Lu).read (aa HN) h4 hg⟩,by have:=aa Hl;have:=RO.len;omega,RO.sm (aa WQ)⟩
     clear hw hr h4 hg RO
     go_wp2
     rw[←hQ]
     go_end0
     exact aa HE
   ·have Qj:=nQ Qi (aa E8).rd.grown EV (by decide)
    have Zu:Rs lo b g T nm ss N V W i t sz C ac s3 w2:=⟨⟨v,py⟩,by have:=aa Hl;omega,(aa acE).sm (aa WQ)⟩
    obtain ⟨n2,fs2,cp2,e2,qJ,iL⟩:=aa acJ ac s3 w2 Zu
    cases e2
    have Js:=ab iL
    have HEq:Hid (∀z,one s3=z→(match (match z with|.error e=>Except.error e|.ok (a,s2)=>eC one n (ac++[a]) s2) with|.error e=>.error e|.ok (l,s2)=>match au ⟨#[59]⟩ s2 with|.error e=>.error e|.ok (_,s3)=>.ok (l,s3))=R0):=fun z hz=>by
     rw[←aa EL]
     conv=>rhs;unfold eC
     rw[hr]
     simp only
     rw[hz]
    clear hw hr h3 hg py E8 E6 EL c4 iL Zu Qi EV
    go_wp2_with fail
    refine (show Calls Tryz.prog n1 (fs++cp) _ _ from by have:=aa Js;simpa using this).mono ?_
    intro e w3 iU
    unfold zn at iU
    cases hr:one s3 with
    |error y =>
     rw[hr] at iU
     obtain ⟨rfl,hs⟩:=iU
     show Q (Exit.panic _) _ _
     rw[←hQ]
     exact ⟨rfl,aa LO y w3 (by rw[←aa HEq _ hr]) hs⟩
    |ok y =>
     obtain ⟨a4,s4⟩:=y
     rw[hr] at iU
     obtain ⟨rfl,h4⟩:=iU
     have H4:=ab h4
     have dB:s4.ts.length<n:=by
      have h5:=(aa HGt _ _ _ hr).1.gi.len
      have:=aa Hn
      omega
     have acO:=ab (aa HEq _ hr)
     clear hr h4 Js HEq qJ
     go_wp2
     exact ⟨n,rfl,_,ac++[a4],s4,rfl,rfl,⟨rfl,rfl,trivial⟩,aa H4,dB,aa acO⟩
end
end Go.Proofs.YtjophoclfccmcaaGreatDoor
namespace Go.Proofs.YtjophoclfccmcaaGreatDoor
open Go.RowKit
theorem zd (w:World) (vs:Array Value):(callFunc 171 vs).run Tryz.prog w=.ok (.enter 171 vs) w:=by
 have hn:¬Tryz.f171.name = "runtime.NumGoroutine" := by decide +kernel
 have hb:Tryz.f171.body.isSome=true:=by kernel_rfl
 obtain ⟨c,hc⟩:=zG hb
 simp[callFunc,Tryz.func171,hn,hc]
theorem zc (w:World) (vs:Array Value):(callFunc 173 vs).run Tryz.prog w=.ok (.enter 173 vs) w:=by
 have hn:¬Tryz.f173.name = "runtime.NumGoroutine" := by decide +kernel
 have hb:Tryz.f173.body.isSome=true:=by kernel_rfl
 obtain ⟨c,hc⟩:=zG hb
 simp[callFunc,Tryz.func173,hn,hc]
theorem GH (w:World) (vs:Array Value):(callFunc 98 vs).run Tryz.prog w=.ok (.enter 98 vs) w:=by
 have hn:¬Tryz.f98.name = "runtime.NumGoroutine" := by decide +kernel
 have hb:Tryz.f98.body.isSome=true:=by kernel_rfl
 obtain ⟨c,hc⟩:=zG hb
 simp[callFunc,Tryz.func98,hn,hc]
theorem GG (w:World) (vs:Array Value):(callFunc 100 vs).run Tryz.prog w=.ok (.enter 100 vs) w:=by
 have hn:¬Tryz.f100.name = "runtime.NumGoroutine" := by decide +kernel
 have hb:Tryz.f100.body.isSome=true:=by kernel_rfl
 obtain ⟨c,hc⟩:=zG hb
 simp[callFunc,Tryz.func100,hn,hc]
theorem GF (w:World) (vs:Array Value):(callFunc 102 vs).run Tryz.prog w=.ok (.enter 102 vs) w:=by
 have hn:¬Tryz.f102.name = "runtime.NumGoroutine" := by decide +kernel
 have hb:Tryz.f102.body.isSome=true:=by kernel_rfl
 obtain ⟨c,hc⟩:=zG hb
 simp[callFunc,Tryz.func102,hn,hc]
theorem GD (w:World) (vs:Array Value):(callFunc 104 vs).run Tryz.prog w=.ok (.enter 104 vs) w:=by
 have hn:¬Tryz.f104.name = "runtime.NumGoroutine" := by decide +kernel
 have hb:Tryz.f104.body.isSome=true:=by kernel_rfl
 obtain ⟨c,hc⟩:=zG hb
 simp[callFunc,Tryz.func104,hn,hc]
theorem Au (w:World) (vs:Array Value):(callFunc 144 vs).run Tryz.prog w=.ok (.enter 144 vs) w:=by
 have hn:¬Tryz.f144.name = "runtime.NumGoroutine" := by decide +kernel
 have hb:Tryz.f144.body.isSome=true:=by kernel_rfl
 obtain ⟨c,hc⟩:=zG hb
 simp[callFunc,Tryz.func144,hn,hc]
theorem At (w:World) (vs:Array Value):(callFunc 145 vs).run Tryz.prog w=.ok (.enter 145 vs) w:=by
 have hn:¬Tryz.f145.name = "runtime.NumGoroutine" := by decide +kernel
 have hb:Tryz.f145.body.isSome=true:=by kernel_rfl
 obtain ⟨c,hc⟩:=zG hb
 simp[callFunc,Tryz.func145,hn,hc]
theorem Ar (w:World) (vs:Array Value):(callFunc 146 vs).run Tryz.prog w=.ok (.enter 146 vs) w:=by
 have hn:¬Tryz.f146.name = "runtime.NumGoroutine" := by decide +kernel
 have hb:Tryz.f146.body.isSome=true:=by kernel_rfl
 obtain ⟨c,hc⟩:=zG hb
 simp[callFunc,Tryz.func146,hn,hc]
theorem Aq (w:World) (vs:Array Value):(callFunc 148 vs).run Tryz.prog w=.ok (.enter 148 vs) w:=by
 have hn:¬Tryz.f148.name = "runtime.NumGoroutine" := by decide +kernel
 have hb:Tryz.f148.body.isSome=true:=by kernel_rfl
 obtain ⟨c,hc⟩:=zG hb
 simp[callFunc,Tryz.func148,hn,hc]
theorem Ao (w:World) (vs:Array Value):(callFunc 150 vs).run Tryz.prog w=.ok (.enter 150 vs) w:=by
 have hn:¬Tryz.f150.name = "runtime.NumGoroutine" := by decide +kernel
 have hb:Tryz.f150.body.isSome=true:=by kernel_rfl
 obtain ⟨c,hc⟩:=zG hb
 simp[callFunc,Tryz.func150,hn,hc]
theorem Am (w:World) (vs:Array Value):(callFunc 152 vs).run Tryz.prog w=.ok (.enter 152 vs) w:=by
 have hn:¬Tryz.f152.name = "runtime.NumGoroutine" := by decide +kernel
 have hb:Tryz.f152.body.isSome=true:=by kernel_rfl
 obtain ⟨c,hc⟩:=zG hb
 simp[callFunc,Tryz.func152,hn,hc]
theorem Al (w:World) (vs:Array Value):(callFunc 153 vs).run Tryz.prog w=.ok (.enter 153 vs) w:=by
 have hn:¬Tryz.f153.name = "runtime.NumGoroutine" := by decide +kernel
 have hb:Tryz.f153.body.isSome=true:=by kernel_rfl
 obtain ⟨c,hc⟩:=zG hb
 simp[callFunc,Tryz.func153,hn,hc]
theorem GI (w:World) (vs:Array Value):(callFunc 106 vs).run Tryz.prog w=.ok (.enter 106 vs) w:=by
 have hn:¬Tryz.f106.name = "runtime.NumGoroutine" := by decide +kernel
 have hb:Tryz.f106.body.isSome=true:=by kernel_rfl
 obtain ⟨c,hc⟩:=zG hb
 simp[callFunc,Tryz.func106,hn,hc]
theorem La (w:World) (vs:Array Value):(callFunc 58 vs).run Tryz.prog w=.ok (.enter 58 vs) w:=by
 have hn:¬Tryz.f58.name = "runtime.NumGoroutine" := by decide +kernel
 have hb:Tryz.f58.body.isSome=true:=by kernel_rfl
 obtain ⟨c,hc⟩:=zG hb
 simp[callFunc,Tryz.func58,hn,hc]
theorem Ak (w:World) (vs:Array Value):(callFunc 126 vs).run Tryz.prog w=.ok (.enter 126 vs) w:=by
 have hn:¬Tryz.f126.name = "runtime.NumGoroutine" := by decide +kernel
 have hb:Tryz.f126.body.isSome=true:=by kernel_rfl
 obtain ⟨c,hc⟩:=zG hb
 simp[callFunc,Tryz.func126,hn,hc]
theorem GJ (w:World) (vs:Array Value):(callFunc 129 vs).run Tryz.prog w=.ok (.enter 129 vs) w:=by
 have hn:¬Tryz.f129.name = "runtime.NumGoroutine" := by decide +kernel
 have hb:Tryz.f129.body.isSome=true:=by kernel_rfl
 obtain ⟨c,hc⟩:=zG hb
 simp[callFunc,Tryz.func129,hn,hc]
theorem Em (w:World) (vs:Array Value):(callFunc 170 vs).run Tryz.prog w=.ok (.enter 170 vs) w:=by
 have hn:¬Tryz.f170.name = "runtime.NumGoroutine" := by decide +kernel
 have hb:Tryz.f170.body.isSome=true:=by kernel_rfl
 obtain ⟨c,hc⟩:=zG hb
 simp[callFunc,Tryz.func170,hn,hc]
theorem Cn (w:World) (vs:Array Value):(callFunc 156 vs).run Tryz.prog w=.ok (.enter 156 vs) w:=by
 have hn:¬Tryz.f156.name = "runtime.NumGoroutine" := by decide +kernel
 have hb:Tryz.f156.body.isSome=true:=by kernel_rfl
 obtain ⟨c,hc⟩:=zG hb
 simp[callFunc,Tryz.func156,hn,hc]
end Go.Proofs.YtjophoclfccmcaaGreatDoor
namespace Go.Proofs.YtjophoclfccmcaaGreatDoor
open Go.RowKit
attribute [local go_sem ↓] Go.wp_at_zero Go.wp_at_succ
theorem aQ.acx {a b c d:(Nat→Prop)→World→Prop} (h1:aQ a) (h2:aQ b) (h3:aQ c) (h4:aQ d):aQ fun P w=>a P w∧b P w∧c P w∧d P w:=h1.and (h2.and (h3.and h4))
theorem It {lo hi:Int}{mi:Bool}{s s1:ay}{p:Int×Int} (h:kR lo hi mi s=.ok (p,s1)) (he:s.en.kind=5):0<s.ts.length:=by
 apply bN he
 intro hk
 have hkb:s.begun.here.kind=5:=hk
 have key:∀m n s2,iA lo hi m s.begun≠.ok (n,s2):=by
  intro m n s2 ht
  unfold iA at ht
  rw[if_neg (by rw[hkb];decide)] at ht
  cases ht
 unfold kR at h
 split at h
 ·cases h
 ·rename_i n s2 hn
  unfold cY at hn
  split at hn
  ·cases hn
  ·rename_i m s0 hm
   split at hm
   ·unfold bX at hm
    rw[if_neg (by unfold aJ;rw[hkb];simp)] at hm
    simp only[Except.ok.injEq,Prod.mk.injEq] at hm
    rw[←hm.2] at hn
    exact key _ _ _ hn
   ·simp only[Except.ok.injEq,Prod.mk.injEq] at hm
    rw[←hm.2] at hn
    exact key _ _ _ hn
theorem Dr {s s1:ay}{x:ByteArray} (h:eY s=.ok (x,s1)) (he:s.en.kind=5):0<s.ts.length:=by
 apply bN he
 have h1:=(ju (s:=s.begun) h).2
 have h2:s.here.kind=3:=h1
 rw[h2]
 decide
theorem iQ {α:Type}:∀(l:List α) (i:Nat) (x y:α),(l.set i x).set i y=l.set i y
 |[],_,_,_=>rfl
 |_::_,0,_,_=>rfl
 |a::r,i+1,x,y=>by simp
theorem fW {α:Type}{l:List α}{i:Nat}{z:α} (h:l[i]?=some z) (x:α):(l.set i x)[i]?=some x:=by
 have:=(zB h).1
 simp[this]
theorem Db {α:Type}{one:ay→Except (Int×Int) (α×ay)} (ho:∀s a s1,one s=.ok (a,s1)→jk s s1):∀(n:Nat) (acc:List α) (s:ay) (l:List α) (s':ay),eC one n acc s=.ok (l,s')→jk s s'
 |0,_,_,_,_,h=>by cases h
 |n+1,acc,s,l,s',h=>by
  unfold eC at h
  split at h
  ·cases h
  ·rename_i s1 h1
   simp only[Except.ok.injEq,Prod.mk.injEq] at h
   obtain ⟨_,rfl⟩:=h
   exact dQ h1
  ·rename_i s1 h1
   split at h
   ·cases h
   ·rename_i a s2 h2
    exact ((dQ h1).trans (ho _ _ _ h2)).trans (Db ho n _ _ _ _ h)
theorem qR {α:Type}{one:ay→Except (Int×Int) (α×ay)} (ho:∀s a s1,one s=.ok (a,s1)→jk s s1) {acc l:List α}{s s':ay} (h:gw one acc s=.ok (l,s')):jk s s':=by
 unfold gw at h
 split at h
 ·cases h
 ·rename_i a s1 h1
  split at h
  ·cases h
  ·rename_i l2 s2 h2
   split at h
   ·cases h
   ·rename_i u s3 h3
    simp only[Except.ok.injEq,Prod.mk.injEq] at h
    obtain ⟨_,rfl⟩:=h
    exact ((ho _ _ _ h1).trans (Db ho _ _ _ _ _ h2)).trans (bw h3)
section
variable {lo b g iR iG : Nat} {T : TypeId} {nm : ByteArray} {ss : List Slot} {N : (Nat → Prop) → World → Prop} {V W w0 : World} {s : ay} {rs : List (Int × Int)} {gs : List ByteArray} {vr vg : Value} {bl bh : Int} {bm : Bool}
theorem MP {p4 p5 p6:Nat} (hN:aQ N) (eP:∀P w,N P w→∀c ∈ ([(p6,#[.pointer (some ⟨g,iR+1,none⟩)],176),(p4,#[.pointer (some ⟨b,0,none⟩)],74),(p5,#[.int .i64 bl,.int .i64 bh,.bool bm],175)]:List (Nat×Array Value×TypeId)),aW c.1 c.2.1 c.2.2 P w) {z:Slot} (hz:ss[iR]?=some z)
  (acc:List (Int×Int)) (s:ay) (w:World) (h:Rs lo b g T nm ss N V W iR 98 2 qG acc s w):nu (.func (.func 171) #[] #[.pointer (some ⟨p6,0,none⟩),.pointer (some ⟨p4,0,none⟩),.pointer (some ⟨p5,0,none⟩)]) #[] w (zn lo b g T nm ss N V W iR 98 2 qG (kR bl bh bm) acc s):=by
 obtain ⟨⟨v,bd⟩,hl,fJ⟩:=h
 refine ⟨_,_,_,rfl,zd w,?_⟩
 have hc:=MD (pm:=p6) (pr:=p4) (pb:=p5) (bt:=16) (r:=kR bl bh bm s) (N1:=fun a x _ _=>x=JX a) bd hN (fun _ _=>fun _ _ _ _ _ h=>h) (fW hz _) (KU rfl rfl) (by simp only;omega) eP (fun w' l7=>(JW bl bh bm l7.ev l7.rd).mono fun e w2 h2=>h2.cr)
 simp only[Array.append_empty,List.nil_append,List.append_toArray]
 refine hc.mono ?_
 intro e w' hw
 unfold zn
 rcases CP.plain Q6 hw with ⟨y,hr,rfl,hs⟩|⟨a,s',y,hr,rfl,h2⟩
 ·rw[hr]
  exact ⟨rfl,hs⟩
 ·rw[hr]
  have h3:=sR hr
  have h4:=h3.lt (It hr bd.rd.grown)
  rw[iQ] at h2
  exact ⟨rfl,⟨y,h2⟩,by rw[zK,List.length_singleton];omega,h3.gi.sm fJ⟩
theorem MQ {p4 p7:Nat} (hN:aQ N) (eP:∀P w,N P w→∀c ∈ ([(p7,#[.pointer (some ⟨g,iG+1,none⟩)],177),(p4,#[.pointer (some ⟨b,0,none⟩)],74)]:List (Nat×Array Value×TypeId)),aW c.1 c.2.1 c.2.2 P w) {z:Slot} (hz:ss[iG]?=some z)
  (acc:List ByteArray) (s:ay) (w:World) (h:Rs lo b g T nm ss N V W iG 9 1 dR acc s w):nu (.func (.func 173) #[] #[.pointer (some ⟨p7,0,none⟩),.pointer (some ⟨p4,0,none⟩)]) #[] w (zn lo b g T nm ss N V W iG 9 1 dR eY acc s):=by
 obtain ⟨⟨v,bd⟩,hl,fJ⟩:=h
 refine ⟨_,_,_,rfl,zc w,?_⟩
 have hc:=MC (pm:=p7) (pr:=p4) (bt:=16) (r:=eY s) (N1:=fun a x _ _=>x=Value.string a) bd hN (fun _ _=>fun _ _ _ _ _ h=>h) (fW hz _) (B8 rfl rfl) (by simp only;omega) eP (fun w' l7=>(OD l7.ev l7.rd).mono fun e w2 h2=>h2.cr)
 simp only[Array.append_empty,List.nil_append,List.append_toArray]
 refine hc.mono ?_
 intro e w' hw
 unfold zn
 rcases CP.plain xU hw with ⟨y,hr,rfl,hs⟩|⟨a,s',y,hr,rfl,h2⟩
 ·rw[hr]
  exact ⟨rfl,hs⟩
 ·rw[hr]
  have h3:=oV hr
  have h4:=h3.lt (Dr hr bd.rd.grown)
  rw[iQ] at h2
  exact ⟨rfl,⟨y,h2⟩,by rw[zK,List.length_singleton];omega,h3.gi.sm fJ⟩
def Cw (lo b g:Nat) (T:TypeId) (nm:ByteArray) (ss:List Slot) (N:(Nat→Prop)→World→Prop) (V W:World) (iR iG:Nat) (r:Except (Int×Int) ((List (Int×Int)×List ByteArray)×ay)) (e:Ending) (w:World):Prop:=match r with
 |.error y=>e=qv y.1 y.2∧Sv g b W w
 |.ok (l,s')=>e=.returned (.tuple #[])∧(∃v1 v2,Ap lo b g T nm ((ss.set iR ⟨98,2,v1,l.1.length,qG l.1⟩).set iG ⟨9,1,v2,l.2.length,dR l.2⟩) N V W s' w)∧l.1.length+s'.ts.length≤20000∧l.2.length+s'.ts.length≤20000∧Sm s'
theorem qX (h:Ap lo b g T nm ss N V W s w0) (hN:aQ N) (dV:iR≠iG) (hR:ss[iR]?=some ⟨98,2,vr,rs.length,qG rs⟩) (hG:ss[iG]?=some ⟨9,1,vg,gs.length,dR gs⟩) (hp:0<s.ts.length) (hs:Sm s) (Xy:rs.length+s.ts.length≤20000) (Xz:gs.length+s.ts.length≤20000) :
  Calls Tryz.prog 149 #[.pointer (some ⟨b,0,none⟩),.agg #[.int .i64 bl,.int .i64 bh,.bool bm],.pointer (some ⟨g,iR+1,none⟩),.pointer (some ⟨g,iG+1,none⟩)] w0 (Cw lo b g T nm ss N V W iR iG (jZ bl bh bm rs gs s)):=by
 obtain ⟨p,Xw⟩:∃p,w0.heap.size=p:=⟨_,rfl⟩
 have DZ:Below w0.heap.size w0 ((((w0.alloc (.cells #[.pointer (some ⟨b,0,none⟩)] 74)).alloc (.cells #[.int .i64 bl,.int .i64 bh,.bool bm] 175)).alloc (.cells #[.pointer (some ⟨g,iR+1,none⟩)] 176)).alloc (.cells #[.pointer (some ⟨g,iG+1,none⟩)] 177)) :=
  ((((zE _ _).alloc (zD _) _).alloc (by simp only[zJ];omega) _).alloc (by simp only[zJ];omega) _).alloc (by simp only[zJ];omega) _
 obtain ⟨w1,eF⟩:∃w1,((((w0.alloc (.cells #[.pointer (some ⟨b,0,none⟩)] 74)).alloc (.cells #[.int .i64 bl,.int .i64 bh,.bool bm] 175)).alloc (.cells #[.pointer (some ⟨g,iR+1,none⟩)] 176)).alloc (.cells #[.pointer (some ⟨g,iG+1,none⟩)] 177))=w1:=⟨_,rfl⟩
 have h4:w1.heap[p]?=some (.cells #[.pointer (some ⟨b,0,none⟩)] 74 (0,0)):=by
  rw[←eF,←Xw,Below.heap_alloc _ _ _ (by simp only[zJ];omega),Below.heap_alloc _ _ _ (by simp only[zJ];omega),Below.heap_alloc _ _ _ (by simp only[zJ];omega)]
  exact aH _ _
 have h5:w1.heap[p+1]?=some (.cells #[.int .i64 bl,.int .i64 bh,.bool bm] 175 (0,0)):=by
  rw[←eF,←Xw,Below.heap_alloc _ _ _ (by simp only[zJ];omega),Below.heap_alloc _ _ _ (by simp only[zJ];omega)]
  have:=aH (w0.alloc (.cells #[.pointer (some ⟨b,0,none⟩)] 74)) (.cells #[.int .i64 bl,.int .i64 bh,.bool bm] 175)
  simpa only[zJ] using this
 have h6:w1.heap[p+2]?=some (.cells #[.pointer (some ⟨g,iR+1,none⟩)] 176 (0,0)):=by
  rw[←eF,←Xw,Below.heap_alloc _ _ _ (by simp only[zJ];omega)]
  have:=aH ((w0.alloc (.cells #[.pointer (some ⟨b,0,none⟩)] 74)).alloc (.cells #[.int .i64 bl,.int .i64 bh,.bool bm] 175)) (.cells #[.pointer (some ⟨g,iR+1,none⟩)] 176)
  simpa only[zJ] using this
 have h7:w1.heap[p+3]?=some (.cells #[.pointer (some ⟨g,iG+1,none⟩)] 177 (0,0)):=by
  rw[←eF,←Xw]
  have:=aH (((w0.alloc (.cells #[.pointer (some ⟨b,0,none⟩)] 74)).alloc (.cells #[.int .i64 bl,.int .i64 bh,.bool bm] 175)).alloc (.cells #[.pointer (some ⟨g,iR+1,none⟩)] 176)) (.cells #[.pointer (some ⟨g,iG+1,none⟩)] 177)
  simpa only[zJ] using this
 rw[eF] at DZ
 obtain ⟨N2,XL⟩:∃N2:(Nat→Prop)→World→Prop,N2=fun P w=>aW p #[.pointer (some ⟨b,0,none⟩)] 74 P w∧aW (p+1) #[.int .i64 bl,.int .i64 bh,.bool bm] 175 P w∧aW (p+2) #[.pointer (some ⟨g,iR+1,none⟩)] 176 P w∧aW (p+3) #[.pointer (some ⟨g,iG+1,none⟩)] 177 P w:=⟨_,rfl⟩
 have hS2:aQ N2:=by rw[XL];exact aQ.acx (bp _ _ _) (bp _ _ _) (bp _ _ _) (bp _ _ _)
 have VR:Ap lo b g T nm ss (fun P w=>N P w∧N2 P w) V W s w1:=h.join hN hS2 (h.rd.up DZ) (aD b DZ) (by rw[XL];exact ⟨⟨h4,by omega⟩,⟨h5,by omega⟩,⟨h6,by omega⟩,⟨h7,by omega⟩⟩)
 have HS:=ab (hN.and hS2)
 have Hc4:Hid (∀P w,(N P w∧N2 P w)→aW p #[.pointer (some ⟨b,0,none⟩)] 74 P w):=fun P w hh=>by have:=hh.2;rw[XL] at this;exact this.1
 have HcR:Hid (∀P w,(N P w∧N2 P w)→∀c ∈ ([(p+2,#[.pointer (some ⟨g,iR+1,none⟩)],176),(p,#[.pointer (some ⟨b,0,none⟩)],74),(p+1,#[.int .i64 bl,.int .i64 bh,.bool bm],175)]:List (Nat×Array Value×TypeId)),aW c.1 c.2.1 c.2.2 P w):=fun P w hh c hc=>by
  have:=hh.2
  rw[XL] at this
  simp only[List.mem_cons,List.not_mem_nil,or_false] at hc
  rcases hc with rfl|rfl|rfl
  ·exact this.2.2.1
  ·exact this.1
  ·exact this.2.1
 have HcG:Hid (∀P w,(N P w∧N2 P w)→∀c ∈ ([(p+3,#[.pointer (some ⟨g,iG+1,none⟩)],177),(p,#[.pointer (some ⟨b,0,none⟩)],74)]:List (Nat×Array Value×TypeId)),aW c.1 c.2.1 c.2.2 P w):=fun P w hh c hc=>by
  have:=hh.2
  rw[XL] at this
  simp only[List.mem_cons,List.not_mem_nil,or_false] at hc
  rcases hc with rfl|rfl
  ·exact this.2.2.2
  ·exact this.1
 have Hp:=ab Xw
 have c4:w1.cell? ⟨p,0,none⟩=some (.pointer (some ⟨b,0,none⟩)):=by rw[cell_of_row _ _ _ _ _ _ h4];rfl
 have S8:=ab VR
 have Xe:=ab (dS VR.rd hp)
 have WQ:=ab hs
 have Hlr:=ab Xy
 have Hlg:=ab Xz
 have HsR:=ab hR
 have HsG:=ab hG
 have Uc:=ab dV
 clear h hN hR hG hs Xy Xz h4 h5 h6 h7 DZ XL hS2 VR hp dV
 refine calls_of_wp Tryz.func149 My ?_
 obtain ⟨tl,pL⟩:∃t,Bp=t:=⟨_,rfl⟩
 rw[pL]
 obtain ⟨Q,hQ⟩:∃Q,bodyPost Tryz.prog Tryz.f149 (Cw lo b g T nm ss N V W iR iG (jZ bl bh bm rs gs s))=Q:=⟨_,rfl⟩
 rw[hQ]
 unfold Mz
 dsimp only[Tryz.f149]
 simp only[List.size_toArray,List.length_cons,List.length_nil,Nat.reduceAdd,Nat.reduceSub,Array.replicate_succ,Array.replicate_zero,List.push_toArray,List.append_toArray,List.nil_append,List.cons_append]
 subst eF
 subst Xw
 go_wp2_with fail
 refine (aa Xe).mono ?_
 intro e w2 hw
 rcases hw.split with ⟨y,hr,rfl,hg⟩|⟨_,s1,hr,rfl,h1,hg⟩
 ·show Q (Exit.panic _) _ _
  rw[←hQ]
  refine ⟨rfl,?_⟩
  unfold jZ
  rw[hr]
  exact ⟨rfl,(aa S8).sv.trans (Sv.of hg (by have:=(aa S8).bx.lt;omega))⟩
 ·have ig:=(aa S8).read (aa HS) h1 hg
  have c42:w2.cell? ⟨w0.heap.size,0,none⟩=some (.pointer (some ⟨b,0,none⟩)):=by rw[cell_of_row _ _ _ _ _ _ (aa Hc4 _ _ ig.nx).1];rfl
  have E8:=ab ig
  have Hr:=ab hr
  have aaQ:=ab ((dW hr).gi.sm (aa WQ))
  have Hle:=ab (dW hr).gi.len
  have E6:=ab (fC ig.rd)
  obtain ⟨t,ht⟩:∃t,s1.here=t:=⟨_,rfl⟩
  have Ht:=ab ht
  rw[ht] at E6
  obtain ⟨kd,sp,tx⟩:=t
  unfold Tk.val at E6
  simp only at E6
  have hf:∀w,(Instr.field 38 (.agg #[.int .i64 kd,.int .i64 sp,.string tx]) 0).run Tryz.prog w=.ok (.int .i64 kd) w:=fun w=>(mJ w ⟨kd,sp,tx⟩).1
  clear hw hr hg h1 ig S8 Xe c4 ht
  go_wp2_with fail
  refine (aa E6).mono ?_
  rintro e w3 ⟨rfl,qM⟩
  have Lu:=ab ((aa E8).up (aa HS) qM)
  clear qM E8 E6 c42
  by_cases hk:kd=3
  ·subst hk
   have HF:Hid (jZ bl bh bm rs gs s=match gw eY gs s1 with|.error e=>.error e|.ok (l,s2)=>.ok ((rs,l),s2)):=by
    show _=_
    unfold jZ
    rw[aa Hr]
    simp only
    rw[if_pos (by rw[aa Ht])]
    all_goals (cases gw eY gs s1<;>rfl)
   go_wp2
   rw[←pL,←hQ]
   refine yb (aa HS) (aa Hc4) (fun s a s1 h=>⟨oV h,Dr h⟩) (fun acc s w h=>MQ (aa HS) (aa HcG) (aa HsG) acc s w h) (acc:=gs) (s:=s1) ⟨⟨vg,by rw[nS (aa HsG)];exact aa Lu⟩,by have:=aa Hlg;have:=aa Hle;omega,aa aaQ⟩ rfl ⟨rfl,rfl,trivial⟩ ?_ ?_
   ·intro y w hm Zj
    rw[aa HF,hm]
    exact ⟨rfl,Zj⟩
   ·rintro l s' w hm ⟨⟨v,bd⟩,hl,fJ⟩
    rw[aa HF,hm]
    have RO:=(qR (fun s a s1 h=>(oV h).gi) hm).len
    refine ⟨rfl,⟨vr,v,?_⟩,by have:=aa Hlr;have:=aa Hle;simp only;omega,hl,fJ⟩
    rw[nS (aa HsR)]
    exact bd.imp (fun h=>h.1)
  ·have HF:Hid (jZ bl bh bm rs gs s=match gw (kR bl bh bm) rs s1 with|.error e=>.error e|.ok (l,s2)=>.ok ((l,gs),s2)):=by
    show _=_
    unfold jZ
    rw[aa Hr]
    simp only
    rw[if_neg (by rw[aa Ht];exact hk)]
    all_goals (cases gw (kR bl bh bm) rs s1<;>rfl)
   have LD:(kd==3)=false:=by simp[hk]
   clear hk
   go_wp2
   rw[←pL,←hQ]
   refine yb (aa HS) (aa Hc4) (fun s a s1 h=>⟨sR h,It h⟩) (fun acc s w h=>MP (aa HS) (aa HcR) (aa HsR) acc s w h) (acc:=rs) (s:=s1) ⟨⟨vr,by rw[nS (aa HsR)];exact aa Lu⟩,by have:=aa Hlr;have:=aa Hle;omega,aa aaQ⟩ rfl ⟨rfl,rfl,trivial⟩ ?_ ?_
   ·intro y w hm Zj
    rw[aa HF,hm]
    exact ⟨rfl,Zj⟩
   ·rintro l s' w hm ⟨⟨v,bd⟩,hl,fJ⟩
    rw[aa HF,hm]
    have RO:=(qR (fun s a s1 h=>(sR h).gi) hm).len
    refine ⟨rfl,⟨v,vg,?_⟩,hl,by have:=aa Hlg;have:=aa Hle;simp only;omega,fJ⟩
    rw[nS (by rw[List.getElem?_set_ne (aa Uc)];exact aa HsG)]
    exact bd.imp (fun h=>h.1)
end
end Go.Proofs.YtjophoclfccmcaaGreatDoor
