import Derived.Test.YtmlphohdcejniaaGreatDoorPbG
set_option maxHeartbeats 4000000
set_option maxRecDepth 100000
namespace Go.Proofs.YtmlphohdcejniaaGreatDoor
open Go.RowKit
attribute [local go_sem ↓] Go.wp_at_zero Go.wp_at_succ
theorem CP.plain {α:Type}{lo b g i:Nat}{T t:TypeId}{sz:Nat}{nm:ByteArray}{ss:List Slot}{N:(Nat→Prop)→World→Prop}{V W w:World}{r:Except (Int×Int) (α×aD)}{ret:α→Value}{C:List α→List Value}{acc:List α}{v:Value}{e:Ending} (hC:∀acc a,C acc++(ret a).cells.toList=C (acc++[a])) (h:CP lo b g T nm ss N V W i ⟨t,sz,v,acc.length,C acc⟩ r (fun a x _ _=>x=ret a) e w) :
  (∃y,r=.error y∧e=pI y.1 y.2∧Sv g b W w)∨∃a s' y,r=.ok (a,s')∧e=.returned (.tuple #[])∧Ap lo b g T nm (ss.set i ⟨t,sz,y,(acc++[a]).length,C (acc++[a])⟩) N V W s' w:=by
 unfold CP at h
 cases r with
 |error y=>exact .inl ⟨y,rfl,h⟩
 |ok y =>
  obtain ⟨he,x,y',aZ⟩:=h
  obtain rfl:=aZ.nx.2
  refine .inr ⟨y.1,y.2,y',rfl,he,?_⟩
  rw[←hC,zK,List.length_singleton]
  exact aZ.imp (fun h=>h.1)
theorem Qk (acc:List (Int×Int)) (a:Int×Int):lj acc++(Qj a).cells.toList=lj (acc++[a]):=by rw[G2];rfl
theorem wN (acc:List ByteArray) (a:ByteArray):bW acc++(Value.string a).cells.toList=bW (acc++[a]):=by rw[wO];rfl
theorem NQ (acc:List Fd) (a:Fd):iF acc++a.val.cells.toList=iF (acc++[a]):=by rw[NR];simp[iF,Fd.val,Value.cells]
theorem Rx (acc:List (ByteArray×Int)) (a:ByteArray×Int):xZ acc++(Pz a).cells.toList=xZ (acc++[a]):=by rw[Iw];rfl
def fG {α:Type} (one:aD→Except (Int×Int) (α×aD)):Nat→List α→aD→Except (Int×Int) (List α×aD)
 |0,_,_=>.error (0,0)
 |n+1,acc,s=>match cx 4 ⟨#[44]⟩ s with
  |.error e=>.error e
  |.ok (false,s1)=>.ok (acc,s1)
  |.ok (true,s1)=>match one s1 with
   |.error e=>.error e
   |.ok (a,s2)=>fG one n (acc++[a]) s2
def gI {α:Type} (one:aD→Except (Int×Int) (α×aD)) (acc:List α) (s:aD):Except (Int×Int) (List α×aD):=match one s with
 |.error e=>.error e
 |.ok (a,s1)=>match fG one (s1.ts.length+1) (acc++[a]) s1 with
  |.error e=>.error e
  |.ok (l,s2)=>match aV ⟨#[59]⟩ s2 with
   |.error e=>.error e
   |.ok (_,s3)=>.ok (l,s3)
noncomputable def je (bl bh:Int) (bm:Bool) (rs:List (Int×Int)) (gs:List ByteArray) (s:aD):Except (Int×Int) ((List (Int×Int)×List ByteArray)×aD):=match bE s with
 |.error e=>.error e
 |.ok (_,s1)=>if s1.here.kind=3 then (match gI kM gs s1 with
   |.error e=>.error e
   |.ok (l,s2)=>.ok ((rs,l),s2)) else match gI (jd bl bh bm) rs s1 with
   |.error e=>.error e
   |.ok (l,s2)=>.ok ((l,gs),s2)
def Gt (s s1:aD):Prop:=∃k,s1.ts=s.ts.drop (k+1)∧s1.op=s.op∧s1.en=s.en
theorem Gt.jA {s s1:aD} (h:Gt s s1):lL s s1:=by
 obtain ⟨k,h⟩:=h
 exact ⟨k+1,h⟩
theorem Gt.lt {s s1:aD} (h:Gt s s1) (hp:0<s.ts.length):s1.ts.length<s.ts.length:=by
 obtain ⟨k,h,_⟩:=h
 rw[h,List.length_drop]
 omega
theorem Gt.tail {s s1:aD} (h:s1.ts=s.ts.tail) (ho:s1.op=s.op∧s1.en=s.en):Gt s s1:=⟨0,by rw[h,List.drop_one],ho⟩
theorem Gt.dW {a b c:aD} (h:Gt a b) (k:lL b c):Gt a c:=by
 obtain ⟨m,h⟩:=h
 obtain ⟨n,k⟩:=k
 exact ⟨m+n,by rw[k.1,h.1,List.drop_drop];congr 1;omega,k.2.1.trans h.2.1,k.2.2.trans h.2.2⟩
theorem lL.gt {a b c:aD} (h:lL a b) (k:Gt b c):Gt a c:=by
 obtain ⟨m,h⟩:=h
 obtain ⟨n,k⟩:=k
 exact ⟨m+n,by rw[k.1,h.1,List.drop_drop];congr 1,k.2.1.trans h.2.1,k.2.2.trans h.2.2⟩
theorem dx {s s1:aD}{u:Unit} (h:bE s=.ok (u,s1)):Gt s s1:=.tail (oe h) (mJ h)
theorem lu {s s1:aD}{x:ByteArray} (h:cy s=.ok (x,s1)):Gt s s1:=.tail (oh h).1 (Bv h)
theorem mS {ff:ByteArray→Int}{s s1:aD}{x:ByteArray} (h:bO ff s=.ok (x,s1)):Gt s s1∧s.here.kind=3:=by
 unfold bO at h
 split at h
 ·rename_i hk
  split at h
  ·split at h
   ·cases hn:bE s with
    |error e=>rw[hn] at h;cases h
    |ok y =>
     rw[hn] at h
     simp only[Except.ok.injEq,Prod.mk.injEq] at h
     obtain ⟨_,rfl⟩:=h
     exact ⟨dx (s:=s) (u:=y.1) (s1:=y.2) hn,hk⟩
   ·cases h
  ·cases h
 ·cases h
theorem sd {lo hi:Int}{mi:Bool}{s s1:aD}{n:Int} (h:eh lo hi mi s=.ok (n,s1)):Gt s s1:=by
 have key:∀m s0,lh lo hi m s0=.ok (n,s1)→Gt s0 s1:=by
  intro m s0 h
  unfold lh at h
  repeat' (split at h<;>try cases h)
  all_goals (try (rename_i hn;exact dx hn))
 unfold eh at h
 split at h
 ·cases h
 ·rename_i m s0 hm
  have h1:=key _ _ h
  have h2:lL s s0:=by
   split at hm
   ·exact dV hm
   ·simp only[Except.ok.injEq,Prod.mk.injEq] at hm
    rw[hm.2]
    exact .refl _
  exact h2.gt h1
theorem BR {lo hi:Int}{mi:Bool}{s s1:aD}{p:Int×Int} (h:jd lo hi mi s=.ok (p,s1)):Gt s s1:=by
 unfold jd at h
 split at h
 ·cases h
 ·rename_i n s2 hn
  have h1:Gt s s2:=sd (s:=s.begun) hn
  split at h
  ·cases h
  ·rename_i s3 h3
   simp only[Except.ok.injEq,Prod.mk.injEq] at h
   obtain ⟨_,rfl⟩:=h
   exact h1.dW (dV h3)
  ·rename_i s3 h3
   split at h
   ·cases h
   ·rename_i s4 h4
    simp only[Except.ok.injEq,Prod.mk.injEq] at h
    obtain ⟨_,rfl⟩:=h
    exact (h1.dW (dV h3)).dW (dV h4)
   ·rename_i s4 h4
    split at h
    ·cases h
    ·rename_i m s5 h5
     simp only[Except.ok.injEq,Prod.mk.injEq] at h
     obtain ⟨_,rfl⟩:=h
     exact ((h1.dW (dV h3)).dW (dV h4)).dW (sd h5).jA
theorem vI {s s1:aD}{x:ByteArray} (h:kM s=.ok (x,s1)):Gt s s1:=(mS (s:=s.begun) h).1
theorem BV {tm:Array Value} (h:tm.size=25):∃u:Nat→Value,tm=#[u 0,u 1,u 2,u 3,u 4,u 5,u 6,u 7,u 8,u 9,u 10,u 11,u 12,u 13,u 14,u 15,u 16,u 17,u 18,u 19,u 20,u 21,u 22,u 23,u 24]:=by
 refine ⟨fun i=>tm.getD i undef,?_⟩
 have e:tm=((List.range 25).map fun i=>tm.getD i undef).toArray:=by
  apply Array.ext
  ·simp[h]
  ·intro i h1 h2
   simp[Array.getD,h1]
 exact e.trans rfl
noncomputable def Be:Code:=match Tryz.f156.body with
 |some (.seq _ (.seq _ (.seq _ (.seq _ t))))=>t
 |_=>.skip
noncomputable def LP (t:Code):Code:=match Tryz.f156.body with
 |some (.seq a (.seq b (.seq c (.seq d _))))=>.seq a (.seq b (.seq c (.seq d t)))
 |_=>.skip
theorem LO:Tryz.f156.body=some (LP Be):=rfl
section
variable {α : Type} {lo b g i : Nat} {T t : TypeId} {sz : Nat} {nm : ByteArray} {ss : List Slot} {N : (Nat → Prop) → World → Prop} {V W : World} {p4 : Nat} {cv : Value} {C : List α → List Value} {one : aD → Except (Int × Int) (α × aD)}
def Rs (lo b g:Nat) (T:TypeId) (nm:ByteArray) (ss:List Slot) (N:(Nat→Prop)→World→Prop) (V W:World) (i:Nat) (t:TypeId) (sz:Nat) (C:List α→List Value) (acc:List α) (s:aD) (w:World):Prop:=(∃v,Ap lo b g T nm (ss.set i ⟨t,sz,v,acc.length,C acc⟩) N V W s w)∧acc.length+s.ts.length≤20000∧Sm s
def yz (lo b g:Nat) (T:TypeId) (nm:ByteArray) (ss:List Slot) (N:(Nat→Prop)→World→Prop) (V W:World) (i:Nat) (t:TypeId) (sz:Nat) (C:List α→List Value) (one:aD→Except (Int×Int) (α×aD)) (acc:List α) (s:aD) (e:Ending) (w:World):Prop:=match one s with
 |.error y=>e=pI y.1 y.2∧Sv g b W w
 |.ok (a,s')=>e=.returned (.tuple #[])∧Rs lo b g T nm ss N V W i t sz C (acc++[a]) s' w
def RsJ (lo b g:Nat) (T:TypeId) (nm:ByteArray) (ss:List Slot) (N:(Nat→Prop)→World→Prop) (V W:World) (i:Nat) (t:TypeId) (sz:Nat) (C:List α→List Value) (one:aD→Except (Int×Int) (α×aD)) (p4:Nat) (cv:Value) (R0:Except (Int×Int) (List α×aD)) (n:Nat) (a:Act) (w:World):Prop:=∃(tm:Array Value) (acc:List α) (s:aD),a=⟨tm,[]⟩∧tm.size=25∧IH tm [(4,.pointer (some ⟨p4,0,none⟩)),(8,cv)]∧Rs lo b g T nm ss N V W i t sz C acc s w∧s.ts.length<n∧(match fG one n acc s with|.error e=>.error e|.ok (l,s2)=>match aV ⟨#[59]⟩ s2 with|.error e=>.error e|.ok (_,s3)=>.ok (l,s3))=R0
theorem wW (hN:aK N) (dY:∀P w,N P w→aP p4 #[.pointer (some ⟨b,0,none⟩)] 107 P w) (Ig:∀s a s1,one s=.ok (a,s1)→Gt s s1∧(s.en.kind=5→0<s.ts.length)) (eH:∀acc s w,Rs lo b g T nm ss N V W i t sz C acc s w→mY cv #[] w (yz lo b g T nm ss N V W i t sz C one acc s))
  {acc:List α} {s:aD} {w0:World} (h:Rs lo b g T nm ss N V W i t sz C acc s w0) {tm:Array Value} (bU:tm.size=25) (jD:IH tm [(4,.pointer (some ⟨p4,0,none⟩)),(8,cv)]) {R:Ending→World→Prop}
  (hR1:∀y w,gI one acc s=.error y→Sv g b W w→R (pI y.1 y.2) w) (S0:∀l s' w,gI one acc s=.ok (l,s')→Rs lo b g T nm ss N V W i t sz C l s' w→R (.returned (.tuple #[])) w):Be.wp Tryz.prog (bodyPost Tryz.prog Tryz.f156 R) ⟨tm,[]⟩ w0:=by
 have KT:=aj hR1
 have KE:=aj S0
 have HN:=aj hN
 have HCe:=aj dY
 have HGt:=aj Ig
 have abw:=aj eH
 obtain ⟨n1,fs,cp,rfl,y9,gE⟩:=eH acc s w0 h
 have IU:=aj gE
 obtain ⟨u,rfl⟩:=BV bU
 obtain ⟨e4,e8,_⟩:=jD
 replace e4:u 4=.pointer (some ⟨p4,0,none⟩):=zC e4
 replace e8:u 8=.func (.func n1) fs cp:=zC e8
 rw[e4,e8]
 have HA:=aj h
 clear e4 e8 bU hR1 S0 hN dY Ig eH h gE
 obtain ⟨Q,hQ⟩:∃Q,bodyPost Tryz.prog Tryz.f156 R=Q:=⟨_,rfl⟩
 rw[hQ]
 unfold Be
 dsimp only[Tryz.f156]
 go_wp2_with fail
 refine (show Calls Tryz.prog n1 (fs++cp) _ _ from by have:=aa IU;simpa using this).mono ?_
 intro e w1 oI
 unfold yz at oI
 cases hr:one s with
 |error y =>
  rw[hr] at oI
  obtain ⟨rfl,hs⟩:=oI
  rw[←hQ]
  exact ⟨rfl,aa KT y w1 (by unfold gI;rw[hr]) hs⟩
 |ok y =>
  obtain ⟨a1,s1⟩:=y
  rw[hr] at oI
  obtain ⟨rfl,h1⟩:=oI
  have HF:Hid ((match fG one (s1.ts.length+1) (acc++[a1]) s1 with|.error e=>.error e|.ok (l,s2)=>match aV ⟨#[59]⟩ s2 with|.error e=>.error e|.ok (_,s3)=>.ok (l,s3))=gI one acc s):=by
   show _=_
   unfold gI
   rw[hr]
  have H1:=aj h1
  clear hr h1 IU HA y9
  go_wp2
  refine gG (RsJ lo b g T nm ss N V W i t sz C one p4 (.func (.func n1) fs cp) (gI one acc s)) ?_ (s1.ts.length+1) _ _ ⟨_,acc++[a1],s1,rfl,rfl,⟨rfl,rfl,trivial⟩,aa H1,by omega,aa HF⟩
  obtain ⟨R0,CA⟩:∃R0,gI one acc s=R0:=⟨_,rfl⟩
  rw[CA] at KT KE ⊢
  clear HF H1 CA
  rintro n _ wr ⟨tm,ac,sc,rfl,bU,jD,hA,hn,CA⟩
  obtain ⟨n,rfl⟩:∃k,n=k+1:=⟨n-1,by omega⟩
  obtain ⟨u,rfl⟩:=BV bU
  obtain ⟨e4,e8,_⟩:=jD
  replace e4:u 4=.pointer (some ⟨p4,0,none⟩):=zC e4
  replace e8:u 8=.func (.func n1) fs cp:=zC e8
  rw[e4,e8]
  obtain ⟨⟨v,aZ⟩,hl,gD⟩:=hA
  have c4:wr.cell? ⟨p4,0,none⟩=some (.pointer (some ⟨b,0,none⟩)):=by rw[cell_of_row _ _ _ _ _ _ (aa HCe _ _ aZ.nx).1];rfl
  have oB:=aj (gj aZ.rd ⟨#[44]⟩)
  have mz:=aj aZ
  have EF:=aj CA
  have pV:=aj gD
  have Hl:=aj hl
  have Hn:=aj hn
  clear e4 e8 bU aZ gD hl CA hn
  go_wp2_with fail
  refine (aa oB).mono ?_
  intro e w2 hw
  rcases hw.split with ⟨y,hr,rfl,hg⟩|⟨fl,s3,hr,rfl,h3,hg⟩
  ·show Q (Exit.panic _) _ _
   rw[←hQ]
   refine ⟨rfl,aa KT y _ ?_ ?_⟩
   ·rw[←aa EF]
    unfold fG
    rw[hr]
   ·exact (aa mz).sv.trans (Sv.of hg (by have:=(aa mz).bx.lt;omega))
  ·have oL:=(aa mz).read (aa HN) h3 hg
   have c43:w2.cell? ⟨p4,0,none⟩=some (.pointer (some ⟨b,0,none⟩)):=by rw[cell_of_row _ _ _ _ _ _ (aa HCe _ _ oL.nx).1];rfl
   have oC:=aj oL
   have abt:=aj (dV hr)
   rcases mB hr with ⟨rfl,rfl⟩|⟨rfl,Pp,xL⟩
   ·have HEq:Hid ((match aV ⟨#[59]⟩ s3 with|.error e=>.error e|.ok (_,s4)=>.ok (ac,s4))=R0):=by
     show _=_
     rw[←aa EF]
     unfold fG
     rw[hr]
    have zu:=aj (de oL.rd ⟨#[59]⟩)
    clear hw hr h3 hg oL mz oB EF c4
    go_wp2_with fail
    refine (aa zu).mono ?_
    intro e w3 hw
    rcases hw.split with ⟨y,hr,rfl,hg⟩|⟨_,s4,hr,rfl,h4,hg⟩
    ·rw[←hQ]
     refine ⟨rfl,aa KT y _ ?_ ?_⟩
     ·rw[←aa HEq,hr]
     ·exact (aa oC).sv.trans (Sv.of hg (by have:=(aa oC).bx.lt;omega))
    ·have QJ:=bR hr
     have HE:Hid (R (.returned (.tuple #[])) w3):=aa KE ac s4 w3 (by rw[←aa HEq,hr]) ⟨⟨v,(aa oC).read (aa HN) h4 hg⟩,by have:=aa Hl;have:=QJ.len;omega,QJ.sm (aa pV)⟩
     clear hw hr h4 hg QJ
     go_wp2
     rw[←hQ]
     go_end0
     exact aa HE
   ·have Ux:=nt Pp (aa mz).rd.grown xL (by decide)
    have Yo:Rs lo b g T nm ss N V W i t sz C ac s3 w2:=⟨⟨v,oL⟩,by have:=aa Hl;omega,(aa abt).sm (aa pV)⟩
    obtain ⟨n2,rj,cp2,e2,y9,gE⟩:=aa abw ac s3 w2 Yo
    cases e2
    have IU:=aj gE
    have HEq:Hid (∀z,one s3=z→(match (match z with|.error e=>Except.error e|.ok (a,s2)=>fG one n (ac++[a]) s2) with|.error e=>.error e|.ok (l,s2)=>match aV ⟨#[59]⟩ s2 with|.error e=>.error e|.ok (_,s3)=>.ok (l,s3))=R0):=fun z hz=>by
     rw[←aa EF]
     conv=>rhs;unfold fG
     rw[hr]
     simp only
     rw[hz]
    clear hw hr h3 hg oL mz oB EF c4 gE Yo Pp xL
    go_wp2_with fail
    refine (show Calls Tryz.prog n1 (fs++cp) _ _ from by have:=aa IU;simpa using this).mono ?_
    intro e w3 l8
    unfold yz at l8
    cases hr:one s3 with
    |error y =>
     rw[hr] at l8
     obtain ⟨rfl,hs⟩:=l8
     show Q (Exit.panic _) _ _
     rw[←hQ]
     exact ⟨rfl,aa KT y w3 (by rw[←aa HEq _ hr]) hs⟩
    |ok y =>
     obtain ⟨a4,s4⟩:=y
     rw[hr] at l8
     obtain ⟨rfl,h4⟩:=l8
     have H4:=aj h4
     have cw:s4.ts.length<n:=by
      have h5:=(aa HGt _ _ _ hr).1.jA.len
      have:=aa Hn
      omega
     have abA:=aj (aa HEq _ hr)
     clear hr h4 IU HEq y9
     go_wp2
     exact ⟨n,rfl,_,ac++[a4],s4,rfl,rfl,⟨rfl,rfl,trivial⟩,aa H4,cw,aa abA⟩
end
end Go.Proofs.YtmlphohdcejniaaGreatDoor
namespace Go.Proofs.YtmlphohdcejniaaGreatDoor
open Go.RowKit
theorem yl (w:World) (vs:Array Value):(callFunc 174 vs).run Tryz.prog w=.ok (.enter 174 vs) w:=by
 have hn:¬Tryz.f174.name = "runtime.NumGoroutine" := by decide +kernel
 have hb:Tryz.f174.body.isSome=true:=by kernel_rfl
 obtain ⟨c,hc⟩:=zG hb
 simp[callFunc,Tryz.func174,hn,hc]
theorem yk (w:World) (vs:Array Value):(callFunc 176 vs).run Tryz.prog w=.ok (.enter 176 vs) w:=by
 have hn:¬Tryz.f176.name = "runtime.NumGoroutine" := by decide +kernel
 have hb:Tryz.f176.body.isSome=true:=by kernel_rfl
 obtain ⟨c,hc⟩:=zG hb
 simp[callFunc,Tryz.func176,hn,hc]
theorem Gl (w:World) (vs:Array Value):(callFunc 96 vs).run Tryz.prog w=.ok (.enter 96 vs) w:=by
 have hn:¬Tryz.f96.name = "runtime.NumGoroutine" := by decide +kernel
 have hb:Tryz.f96.body.isSome=true:=by kernel_rfl
 obtain ⟨c,hc⟩:=zG hb
 simp[callFunc,Tryz.func96,hn,hc]
theorem Gk (w:World) (vs:Array Value):(callFunc 98 vs).run Tryz.prog w=.ok (.enter 98 vs) w:=by
 have hn:¬Tryz.f98.name = "runtime.NumGoroutine" := by decide +kernel
 have hb:Tryz.f98.body.isSome=true:=by kernel_rfl
 obtain ⟨c,hc⟩:=zG hb
 simp[callFunc,Tryz.func98,hn,hc]
theorem Gj (w:World) (vs:Array Value):(callFunc 100 vs).run Tryz.prog w=.ok (.enter 100 vs) w:=by
 have hn:¬Tryz.f100.name = "runtime.NumGoroutine" := by decide +kernel
 have hb:Tryz.f100.body.isSome=true:=by kernel_rfl
 obtain ⟨c,hc⟩:=zG hb
 simp[callFunc,Tryz.func100,hn,hc]
theorem Gi (w:World) (vs:Array Value):(callFunc 102 vs).run Tryz.prog w=.ok (.enter 102 vs) w:=by
 have hn:¬Tryz.f102.name = "runtime.NumGoroutine" := by decide +kernel
 have hb:Tryz.f102.body.isSome=true:=by kernel_rfl
 obtain ⟨c,hc⟩:=zG hb
 simp[callFunc,Tryz.func102,hn,hc]
theorem zp (w:World) (vs:Array Value):(callFunc 151 vs).run Tryz.prog w=.ok (.enter 151 vs) w:=by
 have hn:¬Tryz.f151.name = "runtime.NumGoroutine" := by decide +kernel
 have hb:Tryz.f151.body.isSome=true:=by kernel_rfl
 obtain ⟨c,hc⟩:=zG hb
 simp[callFunc,Tryz.func151,hn,hc]
theorem zo (w:World) (vs:Array Value):(callFunc 152 vs).run Tryz.prog w=.ok (.enter 152 vs) w:=by
 have hn:¬Tryz.f152.name = "runtime.NumGoroutine" := by decide +kernel
 have hb:Tryz.f152.body.isSome=true:=by kernel_rfl
 obtain ⟨c,hc⟩:=zG hb
 simp[callFunc,Tryz.func152,hn,hc]
theorem zn (w:World) (vs:Array Value):(callFunc 153 vs).run Tryz.prog w=.ok (.enter 153 vs) w:=by
 have hn:¬Tryz.f153.name = "runtime.NumGoroutine" := by decide +kernel
 have hb:Tryz.f153.body.isSome=true:=by kernel_rfl
 obtain ⟨c,hc⟩:=zG hb
 simp[callFunc,Tryz.func153,hn,hc]
theorem zm (w:World) (vs:Array Value):(callFunc 155 vs).run Tryz.prog w=.ok (.enter 155 vs) w:=by
 have hn:¬Tryz.f155.name = "runtime.NumGoroutine" := by decide +kernel
 have hb:Tryz.f155.body.isSome=true:=by kernel_rfl
 obtain ⟨c,hc⟩:=zG hb
 simp[callFunc,Tryz.func155,hn,hc]
theorem zl (w:World) (vs:Array Value):(callFunc 157 vs).run Tryz.prog w=.ok (.enter 157 vs) w:=by
 have hn:¬Tryz.f157.name = "runtime.NumGoroutine" := by decide +kernel
 have hb:Tryz.f157.body.isSome=true:=by kernel_rfl
 obtain ⟨c,hc⟩:=zG hb
 simp[callFunc,Tryz.func157,hn,hc]
theorem zk (w:World) (vs:Array Value):(callFunc 159 vs).run Tryz.prog w=.ok (.enter 159 vs) w:=by
 have hn:¬Tryz.f159.name = "runtime.NumGoroutine" := by decide +kernel
 have hb:Tryz.f159.body.isSome=true:=by kernel_rfl
 obtain ⟨c,hc⟩:=zG hb
 simp[callFunc,Tryz.func159,hn,hc]
theorem zj (w:World) (vs:Array Value):(callFunc 160 vs).run Tryz.prog w=.ok (.enter 160 vs) w:=by
 have hn:¬Tryz.f160.name = "runtime.NumGoroutine" := by decide +kernel
 have hb:Tryz.f160.body.isSome=true:=by kernel_rfl
 obtain ⟨c,hc⟩:=zG hb
 simp[callFunc,Tryz.func160,hn,hc]
theorem Gm (w:World) (vs:Array Value):(callFunc 104 vs).run Tryz.prog w=.ok (.enter 104 vs) w:=by
 have hn:¬Tryz.f104.name = "runtime.NumGoroutine" := by decide +kernel
 have hb:Tryz.f104.body.isSome=true:=by kernel_rfl
 obtain ⟨c,hc⟩:=zG hb
 simp[callFunc,Tryz.func104,hn,hc]
theorem Kl (w:World) (vs:Array Value):(callFunc 75 vs).run Tryz.prog w=.ok (.enter 75 vs) w:=by
 have hn:¬Tryz.f75.name = "runtime.NumGoroutine" := by decide +kernel
 have hb:Tryz.f75.body.isSome=true:=by kernel_rfl
 obtain ⟨c,hc⟩:=zG hb
 simp[callFunc,Tryz.func75,hn,hc]
theorem zi (w:World) (vs:Array Value):(callFunc 125 vs).run Tryz.prog w=.ok (.enter 125 vs) w:=by
 have hn:¬Tryz.f125.name = "runtime.NumGoroutine" := by decide +kernel
 have hb:Tryz.f125.body.isSome=true:=by kernel_rfl
 obtain ⟨c,hc⟩:=zG hb
 simp[callFunc,Tryz.func125,hn,hc]
theorem Gn (w:World) (vs:Array Value):(callFunc 128 vs).run Tryz.prog w=.ok (.enter 128 vs) w:=by
 have hn:¬Tryz.f128.name = "runtime.NumGoroutine" := by decide +kernel
 have hb:Tryz.f128.body.isSome=true:=by kernel_rfl
 obtain ⟨c,hc⟩:=zG hb
 simp[callFunc,Tryz.func128,hn,hc]
theorem Em (w:World) (vs:Array Value):(callFunc 173 vs).run Tryz.prog w=.ok (.enter 173 vs) w:=by
 have hn:¬Tryz.f173.name = "runtime.NumGoroutine" := by decide +kernel
 have hb:Tryz.f173.body.isSome=true:=by kernel_rfl
 obtain ⟨c,hc⟩:=zG hb
 simp[callFunc,Tryz.func173,hn,hc]
theorem Cd (w:World) (vs:Array Value):(callFunc 163 vs).run Tryz.prog w=.ok (.enter 163 vs) w:=by
 have hn:¬Tryz.f163.name = "runtime.NumGoroutine" := by decide +kernel
 have hb:Tryz.f163.body.isSome=true:=by kernel_rfl
 obtain ⟨c,hc⟩:=zG hb
 simp[callFunc,Tryz.func163,hn,hc]
end Go.Proofs.YtmlphohdcejniaaGreatDoor
namespace Go.Proofs.YtmlphohdcejniaaGreatDoor
open Go.RowKit
attribute [local go_sem ↓] Go.wp_at_zero Go.wp_at_succ
theorem aK.abm {a b c d:(Nat→Prop)→World→Prop} (h1:aK a) (h2:aK b) (h3:aK c) (h4:aK d):aK fun P w=>a P w∧b P w∧c P w∧d P w:=h1.and (h2.and (h3.and h4))
theorem G6 {lo hi:Int}{mi:Bool}{s s1:aD}{p:Int×Int} (h:jd lo hi mi s=.ok (p,s1)) (he:s.en.kind=5):0<s.ts.length:=by
 apply bS he
 intro hk
 have hkb:s.begun.here.kind=5:=hk
 have key:∀m n s2,lh lo hi m s.begun≠.ok (n,s2):=by
  intro m n s2 ht
  unfold lh at ht
  rw[if_neg (by rw[hkb];decide)] at ht
  cases ht
 unfold jd at h
 split at h
 ·cases h
 ·rename_i n s2 hn
  unfold eh at hn
  split at hn
  ·cases hn
  ·rename_i m s0 hm
   split at hm
   ·unfold cx at hm
    rw[if_neg (by unfold cZ;rw[hkb];simp)] at hm
    simp only[Except.ok.injEq,Prod.mk.injEq] at hm
    rw[←hm.2] at hn
    exact key _ _ _ hn
   ·simp only[Except.ok.injEq,Prod.mk.injEq] at hm
    rw[←hm.2] at hn
    exact key _ _ _ hn
theorem Df {s s1:aD}{x:ByteArray} (h:kM s=.ok (x,s1)) (he:s.en.kind=5):0<s.ts.length:=by
 apply bS he
 have h1:=(mS (s:=s.begun) h).2
 have h2:s.here.kind=3:=h1
 rw[h2]
 decide
theorem iA {α:Type}:∀(l:List α) (i:Nat) (x y:α),(l.set i x).set i y=l.set i y
 |[],_,_,_=>rfl
 |_::_,0,_,_=>rfl
 |a::r,i+1,x,y=>by simp
theorem fY {α:Type}{l:List α}{i:Nat}{z:α} (h:l[i]?=some z) (x:α):(l.set i x)[i]?=some x:=by
 have:=(zB h).1
 simp[this]
theorem CX {α:Type}{one:aD→Except (Int×Int) (α×aD)} (ho:∀s a s1,one s=.ok (a,s1)→lL s s1):∀(n:Nat) (acc:List α) (s:aD) (l:List α) (s':aD),fG one n acc s=.ok (l,s')→lL s s'
 |0,_,_,_,_,h=>by cases h
 |n+1,acc,s,l,s',h=>by
  unfold fG at h
  split at h
  ·cases h
  ·rename_i s1 h1
   simp only[Except.ok.injEq,Prod.mk.injEq] at h
   obtain ⟨_,rfl⟩:=h
   exact dV h1
  ·rename_i s1 h1
   split at h
   ·cases h
   ·rename_i a s2 h2
    exact ((dV h1).trans (ho _ _ _ h2)).trans (CX ho n _ _ _ _ h)
theorem qa {α:Type}{one:aD→Except (Int×Int) (α×aD)} (ho:∀s a s1,one s=.ok (a,s1)→lL s s1) {acc l:List α}{s s':aD} (h:gI one acc s=.ok (l,s')):lL s s':=by
 unfold gI at h
 split at h
 ·cases h
 ·rename_i a s1 h1
  split at h
  ·cases h
  ·rename_i l2 s2 h2
   split at h
   ·cases h
   ·rename_i u s3 h3
    simp only[Except.ok.injEq,Prod.mk.injEq] at h
    obtain ⟨_,rfl⟩:=h
    exact ((ho _ _ _ h1).trans (CX ho _ _ _ _ _ h2)).trans (bR h3)
section
variable {lo b g iR iG : Nat} {T : TypeId} {nm : ByteArray} {ss : List Slot} {N : (Nat → Prop) → World → Prop} {V W w0 : World} {s : aD} {rs : List (Int × Int)} {gs : List ByteArray} {vr vg : Value} {bl bh : Int} {bm : Bool}
theorem L9 {p4 p5 p6:Nat} (hN:aK N) (cB:∀P w,N P w→∀c ∈ ([(p6,#[.pointer (some ⟨g,iR+1,none⟩)],197),(p4,#[.pointer (some ⟨b,0,none⟩)],107),(p5,#[.int .i64 bl,.int .i64 bh,.bool bm],196)]:List (Nat×Array Value×TypeId)),aP c.1 c.2.1 c.2.2 P w) {z:Slot} (hz:ss[iR]?=some z)
  (acc:List (Int×Int)) (s:aD) (w:World) (h:Rs lo b g T nm ss N V W iR 111 2 lj acc s w):mY (.func (.func 174) #[] #[.pointer (some ⟨p6,0,none⟩),.pointer (some ⟨p4,0,none⟩),.pointer (some ⟨p5,0,none⟩)]) #[] w (yz lo b g T nm ss N V W iR 111 2 lj (jd bl bh bm) acc s):=by
 obtain ⟨⟨v,aZ⟩,hl,gD⟩:=h
 refine ⟨_,_,_,rfl,yl w,?_⟩
 have hc:=LS (pm:=p6) (pr:=p4) (pb:=p5) (bt:=16) (r:=jd bl bh bm s) (N1:=fun a x _ _=>x=Qj a) aZ hN (fun _ _=>fun _ _ _ _ _ h=>h) (fY hz _) (J' rfl rfl) (by simp only;omega) cB (fun w' ll=>(Jr bl bh bm ll.ev ll.rd).mono fun e w2 h2=>h2.cr)
 simp only[Array.append_empty,List.nil_append,List.append_toArray]
 refine hc.mono ?_
 intro e w' hw
 unfold yz
 rcases CP.plain Qk hw with ⟨y,hr,rfl,hs⟩|⟨a,s',y,hr,rfl,h2⟩
 ·rw[hr]
  exact ⟨rfl,hs⟩
 ·rw[hr]
  have h3:=BR hr
  have h4:=h3.lt (G6 hr aZ.rd.grown)
  rw[iA] at h2
  exact ⟨rfl,⟨y,h2⟩,by rw[zK,List.length_singleton];omega,h3.jA.sm gD⟩
theorem Ma {p4 p7:Nat} (hN:aK N) (cB:∀P w,N P w→∀c ∈ ([(p7,#[.pointer (some ⟨g,iG+1,none⟩)],198),(p4,#[.pointer (some ⟨b,0,none⟩)],107)]:List (Nat×Array Value×TypeId)),aP c.1 c.2.1 c.2.2 P w) {z:Slot} (hz:ss[iG]?=some z)
  (acc:List ByteArray) (s:aD) (w:World) (h:Rs lo b g T nm ss N V W iG 9 1 bW acc s w):mY (.func (.func 176) #[] #[.pointer (some ⟨p7,0,none⟩),.pointer (some ⟨p4,0,none⟩)]) #[] w (yz lo b g T nm ss N V W iG 9 1 bW kM acc s):=by
 obtain ⟨⟨v,aZ⟩,hl,gD⟩:=h
 refine ⟨_,_,_,rfl,yk w,?_⟩
 have hc:=LR (pm:=p7) (pr:=p4) (bt:=16) (r:=kM s) (N1:=fun a x _ _=>x=Value.string a) aZ hN (fun _ _=>fun _ _ _ _ _ h=>h) (fY hz _) (BZ rfl rfl) (by simp only;omega) cB (fun w' ll=>(NG ll.ev ll.rd).mono fun e w2 h2=>h2.cr)
 simp only[Array.append_empty,List.nil_append,List.append_toArray]
 refine hc.mono ?_
 intro e w' hw
 unfold yz
 rcases CP.plain wN hw with ⟨y,hr,rfl,hs⟩|⟨a,s',y,hr,rfl,h2⟩
 ·rw[hr]
  exact ⟨rfl,hs⟩
 ·rw[hr]
  have h3:=vI hr
  have h4:=h3.lt (Df hr aZ.rd.grown)
  rw[iA] at h2
  exact ⟨rfl,⟨y,h2⟩,by rw[zK,List.length_singleton];omega,h3.jA.sm gD⟩
def Cm (lo b g:Nat) (T:TypeId) (nm:ByteArray) (ss:List Slot) (N:(Nat→Prop)→World→Prop) (V W:World) (iR iG:Nat) (r:Except (Int×Int) ((List (Int×Int)×List ByteArray)×aD)) (e:Ending) (w:World):Prop:=match r with
 |.error y=>e=pI y.1 y.2∧Sv g b W w
 |.ok (l,s')=>e=.returned (.tuple #[])∧(∃v1 v2,Ap lo b g T nm ((ss.set iR ⟨111,2,v1,l.1.length,lj l.1⟩).set iG ⟨9,1,v2,l.2.length,bW l.2⟩) N V W s' w)∧l.1.length+s'.ts.length≤20000∧l.2.length+s'.ts.length≤20000∧Sm s'
theorem qj (h:Ap lo b g T nm ss N V W s w0) (hN:aK N) (eo:iR≠iG) (hR:ss[iR]?=some ⟨111,2,vr,rs.length,lj rs⟩) (hG:ss[iG]?=some ⟨9,1,vg,gs.length,bW gs⟩) (hp:0<s.ts.length) (hs:Sm s) (Wz:rs.length+s.ts.length≤20000) (WB:gs.length+s.ts.length≤20000) :
  Calls Tryz.prog 156 #[.pointer (some ⟨b,0,none⟩),.agg #[.int .i64 bl,.int .i64 bh,.bool bm],.pointer (some ⟨g,iR+1,none⟩),.pointer (some ⟨g,iG+1,none⟩)] w0 (Cm lo b g T nm ss N V W iR iG (je bl bh bm rs gs s)):=by
 obtain ⟨p,Wt⟩:∃p,w0.heap.size=p:=⟨_,rfl⟩
 have DX:Below w0.heap.size w0 ((((w0.alloc (.cells #[.pointer (some ⟨b,0,none⟩)] 107)).alloc (.cells #[.int .i64 bl,.int .i64 bh,.bool bm] 196)).alloc (.cells #[.pointer (some ⟨g,iR+1,none⟩)] 197)).alloc (.cells #[.pointer (some ⟨g,iG+1,none⟩)] 198)) :=
  ((((zE _ _).alloc (zD _) _).alloc (by simp only[zJ];omega) _).alloc (by simp only[zJ];omega) _).alloc (by simp only[zJ];omega) _
 obtain ⟨w1,oI⟩:∃w1,((((w0.alloc (.cells #[.pointer (some ⟨b,0,none⟩)] 107)).alloc (.cells #[.int .i64 bl,.int .i64 bh,.bool bm] 196)).alloc (.cells #[.pointer (some ⟨g,iR+1,none⟩)] 197)).alloc (.cells #[.pointer (some ⟨g,iG+1,none⟩)] 198))=w1:=⟨_,rfl⟩
 have h4:w1.heap[p]?=some (.cells #[.pointer (some ⟨b,0,none⟩)] 107 (0,0)):=by
  rw[←oI,←Wt,Below.heap_alloc _ _ _ (by simp only[zJ];omega),Below.heap_alloc _ _ _ (by simp only[zJ];omega),Below.heap_alloc _ _ _ (by simp only[zJ];omega)]
  exact aC _ _
 have h5:w1.heap[p+1]?=some (.cells #[.int .i64 bl,.int .i64 bh,.bool bm] 196 (0,0)):=by
  rw[←oI,←Wt,Below.heap_alloc _ _ _ (by simp only[zJ];omega),Below.heap_alloc _ _ _ (by simp only[zJ];omega)]
  have:=aC (w0.alloc (.cells #[.pointer (some ⟨b,0,none⟩)] 107)) (.cells #[.int .i64 bl,.int .i64 bh,.bool bm] 196)
  simpa only[zJ] using this
 have h6:w1.heap[p+2]?=some (.cells #[.pointer (some ⟨g,iR+1,none⟩)] 197 (0,0)):=by
  rw[←oI,←Wt,Below.heap_alloc _ _ _ (by simp only[zJ];omega)]
  have:=aC ((w0.alloc (.cells #[.pointer (some ⟨b,0,none⟩)] 107)).alloc (.cells #[.int .i64 bl,.int .i64 bh,.bool bm] 196)) (.cells #[.pointer (some ⟨g,iR+1,none⟩)] 197)
  simpa only[zJ] using this
 have h7:w1.heap[p+3]?=some (.cells #[.pointer (some ⟨g,iG+1,none⟩)] 198 (0,0)):=by
  rw[←oI,←Wt]
  have:=aC (((w0.alloc (.cells #[.pointer (some ⟨b,0,none⟩)] 107)).alloc (.cells #[.int .i64 bl,.int .i64 bh,.bool bm] 196)).alloc (.cells #[.pointer (some ⟨g,iR+1,none⟩)] 197)) (.cells #[.pointer (some ⟨g,iG+1,none⟩)] 198)
  simpa only[zJ] using this
 rw[oI] at DX
 obtain ⟨N2,WO⟩:∃N2:(Nat→Prop)→World→Prop,N2=fun P w=>aP p #[.pointer (some ⟨b,0,none⟩)] 107 P w∧aP (p+1) #[.int .i64 bl,.int .i64 bh,.bool bm] 196 P w∧aP (p+2) #[.pointer (some ⟨g,iR+1,none⟩)] 197 P w∧aP (p+3) #[.pointer (some ⟨g,iG+1,none⟩)] 198 P w:=⟨_,rfl⟩
 have hS2:aK N2:=by rw[WO];exact aK.abm (bp _ _ _) (bp _ _ _) (bp _ _ _) (bp _ _ _)
 have UX:Ap lo b g T nm ss (fun P w=>N P w∧N2 P w) V W s w1:=h.join hN hS2 (h.rd.up DX) (aA b DX) (by rw[WO];exact ⟨⟨h4,by omega⟩,⟨h5,by omega⟩,⟨h6,by omega⟩,⟨h7,by omega⟩⟩)
 have HS:=aj (hN.and hS2)
 have Hc4:Hid (∀P w,(N P w∧N2 P w)→aP p #[.pointer (some ⟨b,0,none⟩)] 107 P w):=fun P w hh=>by have:=hh.2;rw[WO] at this;exact this.1
 have HcR:Hid (∀P w,(N P w∧N2 P w)→∀c ∈ ([(p+2,#[.pointer (some ⟨g,iR+1,none⟩)],197),(p,#[.pointer (some ⟨b,0,none⟩)],107),(p+1,#[.int .i64 bl,.int .i64 bh,.bool bm],196)]:List (Nat×Array Value×TypeId)),aP c.1 c.2.1 c.2.2 P w):=fun P w hh c hc=>by
  have:=hh.2
  rw[WO] at this
  simp only[List.mem_cons,List.not_mem_nil,or_false] at hc
  rcases hc with rfl|rfl|rfl
  ·exact this.2.2.1
  ·exact this.1
  ·exact this.2.1
 have HcG:Hid (∀P w,(N P w∧N2 P w)→∀c ∈ ([(p+3,#[.pointer (some ⟨g,iG+1,none⟩)],198),(p,#[.pointer (some ⟨b,0,none⟩)],107)]:List (Nat×Array Value×TypeId)),aP c.1 c.2.1 c.2.2 P w):=fun P w hh c hc=>by
  have:=hh.2
  rw[WO] at this
  simp only[List.mem_cons,List.not_mem_nil,or_false] at hc
  rcases hc with rfl|rfl
  ·exact this.2.2.2
  ·exact this.1
 have Hp:=aj Wt
 have c4:w1.cell? ⟨p,0,none⟩=some (.pointer (some ⟨b,0,none⟩)):=by rw[cell_of_row _ _ _ _ _ _ h4];rfl
 have yI:=aj UX
 have Wg:=aj (dr UX.rd hp)
 have pV:=aj hs
 have Hlr:=aj Wz
 have Hlg:=aj WB
 have HsR:=aj hR
 have HsG:=aj hG
 have VV:=aj eo
 clear h hN hR hG hs Wz WB h4 h5 h6 h7 DX WO hS2 UX hp eo
 refine calls_of_wp Tryz.func156 LO ?_
 obtain ⟨tl,oX⟩:∃t,Be=t:=⟨_,rfl⟩
 rw[oX]
 obtain ⟨Q,hQ⟩:∃Q,bodyPost Tryz.prog Tryz.f156 (Cm lo b g T nm ss N V W iR iG (je bl bh bm rs gs s))=Q:=⟨_,rfl⟩
 rw[hQ]
 unfold LP
 dsimp only[Tryz.f156]
 simp only[List.size_toArray,List.length_cons,List.length_nil,Nat.reduceAdd,Nat.reduceSub,Array.replicate_succ,Array.replicate_zero,List.push_toArray,List.append_toArray,List.nil_append,List.cons_append]
 subst oI
 subst Wt
 go_wp2_with fail
 refine (aa Wg).mono ?_
 intro e w2 hw
 rcases hw.split with ⟨y,hr,rfl,hg⟩|⟨_,s1,hr,rfl,h1,hg⟩
 ·show Q (Exit.panic _) _ _
  rw[←hQ]
  refine ⟨rfl,?_⟩
  unfold je
  rw[hr]
  exact ⟨rfl,(aa yI).sv.trans (Sv.of hg (by have:=(aa yI).bx.lt;omega))⟩
 ·have gS:=(aa yI).read (aa HS) h1 hg
  have c42:w2.cell? ⟨w0.heap.size,0,none⟩=some (.pointer (some ⟨b,0,none⟩)):=by rw[cell_of_row _ _ _ _ _ _ (aa Hc4 _ _ gS.nx).1];rfl
  have mz:=aj gS
  have Hr:=aj hr
  have Z7:=aj ((dx hr).jA.sm (aa pV))
  have Hle:=aj (dx hr).jA.len
  have oB:=aj (fu gS.rd)
  obtain ⟨t,ht⟩:∃t,s1.here=t:=⟨_,rfl⟩
  have Ht:=aj ht
  rw[ht] at oB
  obtain ⟨kd,sp,tx⟩:=t
  unfold Tk.val at oB
  simp only at oB
  have hf:∀w,(Instr.field 44 (.agg #[.int .i64 kd,.int .i64 sp,.string tx]) 0).run Tryz.prog w=.ok (.int .i64 kd) w:=fun w=>(ou w ⟨kd,sp,tx⟩).1
  clear hw hr hg h1 gS yI Wg c4 ht
  go_wp2_with fail
  refine (aa oB).mono ?_
  rintro e w3 ⟨rfl,mQ⟩
  have oC:=aj ((aa mz).up (aa HS) mQ)
  clear mQ mz oB c42
  by_cases hk:kd=3
  ·subst hk
   have HF:Hid (je bl bh bm rs gs s=match gI kM gs s1 with|.error e=>.error e|.ok (l,s2)=>.ok ((rs,l),s2)):=by
    show _=_
    unfold je
    rw[aa Hr]
    simp only
    rw[if_pos (by rw[aa Ht])]
    all_goals (cases gI kM gs s1<;>rfl)
   go_wp2
   rw[←oX,←hQ]
   refine wW (aa HS) (aa Hc4) (fun s a s1 h=>⟨vI h,Df h⟩) (fun acc s w h=>Ma (aa HS) (aa HcG) (aa HsG) acc s w h) (acc:=gs) (s:=s1) ⟨⟨vg,by rw[nA (aa HsG)];exact aa oC⟩,by have:=aa Hlg;have:=aa Hle;omega,aa Z7⟩ rfl ⟨rfl,rfl,trivial⟩ ?_ ?_
   ·intro y w hm hsv
    rw[aa HF,hm]
    exact ⟨rfl,hsv⟩
   ·rintro l s' w hm ⟨⟨v,aZ⟩,hl,gD⟩
    rw[aa HF,hm]
    have QJ:=(qa (fun s a s1 h=>(vI h).jA) hm).len
    refine ⟨rfl,⟨vr,v,?_⟩,by have:=aa Hlr;have:=aa Hle;simp only;omega,hl,gD⟩
    rw[nA (aa HsR)]
    exact aZ.imp (fun h=>h.1)
  ·have HF:Hid (je bl bh bm rs gs s=match gI (jd bl bh bm) rs s1 with|.error e=>.error e|.ok (l,s2)=>.ok ((l,gs),s2)):=by
    show _=_
    unfold je
    rw[aa Hr]
    simp only
    rw[if_neg (by rw[aa Ht];exact hk)]
    all_goals (cases gI (jd bl bh bm) rs s1<;>rfl)
   have iq:(kd==3)=false:=by simp[hk]
   clear hk
   go_wp2
   rw[←oX,←hQ]
   refine wW (aa HS) (aa Hc4) (fun s a s1 h=>⟨BR h,G6 h⟩) (fun acc s w h=>L9 (aa HS) (aa HcR) (aa HsR) acc s w h) (acc:=rs) (s:=s1) ⟨⟨vr,by rw[nA (aa HsR)];exact aa oC⟩,by have:=aa Hlr;have:=aa Hle;omega,aa Z7⟩ rfl ⟨rfl,rfl,trivial⟩ ?_ ?_
   ·intro y w hm hsv
    rw[aa HF,hm]
    exact ⟨rfl,hsv⟩
   ·rintro l s' w hm ⟨⟨v,aZ⟩,hl,gD⟩
    rw[aa HF,hm]
    have QJ:=(qa (fun s a s1 h=>(BR h).jA) hm).len
    refine ⟨rfl,⟨v,vg,?_⟩,hl,by have:=aa Hlg;have:=aa Hle;simp only;omega,gD⟩
    rw[nA (by rw[List.getElem?_set_ne (aa VV)];exact aa HsG)]
    exact aZ.imp (fun h=>h.1)
end
end Go.Proofs.YtmlphohdcejniaaGreatDoor
