import Derived.Test.YtmlphohdcejniaaGreatDoorPbB
import Derived.MapKept
import Derived.Maps.Own
set_option maxHeartbeats 4000000
set_option maxRecDepth 100000
namespace Go.Proofs.YtmlphohdcejniaaGreatDoor
open Go.RowKit
attribute [local go_sem ↓] Go.wp_at_zero Go.wp_at_succ
def ij (mb:Nat) (sE:List (ByteArray×Value)) (P:Nat→Prop) (w:World):Prop:=(∃es clock,w.heap[mb]?=some (.map es clock)∧es.toList.map (fun e=>(e.key,e.val))=sE.map fun p=>(Value.string p.1,p.2))∧P mb
theorem fT (mb:Nat) (sE:List (ByteArray×Value)):aK (ij mb sE):=by
 intro P P' w w' hg h
 obtain ⟨⟨es,clock,h1,h2⟩,hp⟩:=h
 obtain ⟨h3,h4⟩:=hg mb hp (zA h1).1
 exact ⟨⟨es,clock,h4.trans h1,h2⟩,h3⟩
def jt (k:ByteArray):List (ByteArray×Value)→Option Value
 |[]=>none
 |(x,v)::r=>if (k==x)=true then some v else jt k r
theorem nP (k:ByteArray):∀(es:List MapEntry) (sE:List (ByteArray×Value)) (i:Nat),es.map (fun e=>(e.key,e.val))=sE.map (fun p=>(Value.string p.1,p.2)) →
  (jt k sE=none∧Instr.findNow .string (.string k) es i=some none)∨∃v j,jt k sE=some v∧Instr.findNow .string (.string k) es i=some (some (j,v))
 |[],[],i,_=>.inl ⟨rfl,rfl⟩
 |[],p::r,i,h=>by simp at h
 |e::es,[],i,h=>by simp at h
 |e::es,p::r,i,h=>by
  simp only[List.map_cons,List.cons.injEq,Prod.mk.injEq] at h
  obtain ⟨⟨h1,h2⟩,h3⟩:=h
  have ih:=nP k es r (i+1) h3
  unfold jt Instr.findNow
  rw[h1]
  simp only[Instr.sameNow]
  cases hk:(k==p.1) with
  |true=>exact .inr ⟨p.2,i,by simp,by rw[h2]⟩
  |false=>simpa using ih
theorem Tw:Tryz.prog.underlying 133=some (.map 9 1):=by kernel_rfl
theorem Xu:Tryz.prog.underlying 9=some .string:=by kernel_rfl
theorem Gg (w:World) (e:Bool) (k:ByteArray):(Instr.checkKey e 10000 9 (.string k)).run Tryz.prog w=.ok () w:=by
 rw[show (10000:Nat)=9999+1 from rfl]
 unfold Instr.checkKey
 simp[run_underlying Xu]
theorem NW (w:World) (k:ByteArray) (es:List MapEntry) {r:Option (Nat×Value)} (h:Instr.findNow .string (.string k) es 0=some r):(Instr.findKey 9 (.string k) es).run Tryz.prog w=.ok r w:=by
 unfold Instr.findKey
 simp[run_underlying Xu,h]
theorem Jp {w:World}{mb:Nat}{sE:List (ByteArray×Value)}{P:Nat→Prop} (h:ij mb sE P w) (k:ByteArray):(Instr.lookup 133 (.map (some mb)) (.string k) false).run Tryz.prog w=.ok ((jt k sE).getD .nilFunc) w:=by
 obtain ⟨⟨es,clock,h1,h2⟩,_⟩:=h
 unfold Instr.lookup
 rcases nP k es.toList sE 0 h2 with ⟨q1,q2⟩|⟨v,j,q1,q2⟩
 ·simp[run_underlying Tw,MapKept.run_getObj_map h1,Gg,NW w k _ q2,q1]
 ·simp[run_underlying Tw,MapKept.run_getObj_map h1,Gg,NW w k _ q2,q1]
theorem bQ {w:World}{mb:Nat}{sE:List (ByteArray×Value)}{P:Nat→Prop} (h:ij mb sE P w) (k:ByteArray) (v:Value) (hk:jt k sE=none):∃w',(Instr.mapUpdate 133 (.map (some mb)) (.string k) v).run Tryz.prog w=.ok () w'∧ij mb (sE++[(k,v)]) P w'∧w.grownBy w' (some mb):=by
 obtain ⟨⟨es,clock,h1,h2⟩,hp⟩:=h
 have cw:=(zA h1).1
 refine ⟨{ w with heap:=w.heap.setIfInBounds mb (.map (es.push { key:=.string k,val:=v,born:=clock }) (clock+1)) },?_,⟨⟨es.push { key:=.string k,val:=v,born:=clock },clock+1,?_,?_⟩,hp⟩,⟨rfl,rfl,rfl,?_,fun i hi eo=>?_⟩⟩
 ·unfold Instr.mapUpdate
  rcases nP k es.toList sE 0 h2 with ⟨q1,q2⟩|⟨v',j,q1,q2⟩
  ·simp[run_underlying Tw,MapKept.run_getObj_map h1,Gg,NW w k _ q2,MapKept.run_setObj_map _ h1]
  ·rw[hk] at q1;cases q1
 ·simp[cw]
 ·simp[h2]
 ·simp
 ·simp at eo
  simp[Ne.symm eo]
theorem pX (w:World):ij w.heap.size [] (fun k=>w.heap.size≤k) (w.alloc (.map #[] 0)):=⟨⟨#[],0,(MapKept.heap_alloc w _).1,rfl⟩,zD _⟩
def mY (v:Value) (args:Array Value) (w:World) (R:Ending→World→Prop):Prop:=∃f fs cp,v=.func (.func f) fs cp∧(∀vs,(callFunc f vs).run Tryz.prog w=.ok (.enter f vs) w)∧Calls Tryz.prog f (fs++args++cp) w R
theorem mY.mono {v:Value}{args:Array Value}{w:World}{R R':Ending→World→Prop} (h:mY v args w R) (hi:∀e w',R e w'→R' e w'):mY v args w R':=by
 obtain ⟨f,fs,cp,e,h1,h2⟩:=h
 exact ⟨f,fs,cp,e,h1,h2.mono hi⟩
end Go.Proofs.YtmlphohdcejniaaGreatDoor
namespace Go.Proofs.YtmlphohdcejniaaGreatDoor
open Go.RowKit
attribute [local go_sem ↓] Go.wp_at_zero Go.wp_at_succ
def IP {σ:Type} (I:σ→aD→World→Prop) (Er:World→Prop) (r:Except (Int×Int) (σ×aD)) (e:Ending) (w:World):Prop:=match r with
 |.error y=>e=pI y.1 y.2∧Er w
 |.ok (x,s)=>e=.returned (.tuple #[])∧I x s w
theorem IP.split {σ:Type}{I:σ→aD→World→Prop}{Er:World→Prop}{r:Except (Int×Int) (σ×aD)}{e:Ending}{w:World} (h:IP I Er r e w):(∃y,r=.error y∧e=pI y.1 y.2∧Er w)∨∃x s,r=.ok (x,s)∧e=.returned (.tuple #[])∧I x s w:=by
 unfold IP at h
 cases r with
 |error y=>exact .inl ⟨y,rfl,h⟩
 |ok y=>exact .inr ⟨y.1,y.2,rfl,h⟩
abbrev fQ (σ:Type):=σ→aD→Except (Int×Int) (σ×aD)
structure Ez {σ:Type} (I:σ→aD→World→Prop) (Er:World→Prop) (lo b mb:Nat) (sE:List (ByteArray×Value)) (ov:Value) (F:ByteArray→Option (fQ σ)) (O:fQ σ):Prop where
 rd:∀x s w,I x s w→Rd lo w b s
 step:∀x s w s' w',I x s w→Rd lo w' b s'→w.grownBy w' (some b)→lL s s'→I x s' w'
 er:∀x s w w',I x s w→w.grownBy w' (some b)→Er w'
 map:∀x s w,I x s w→∃P,ij mb sE P w
 look:∀k,(jt k sE=none∧F k=none)∨∃fn fs cp f,jt k sE=some (.func fn fs cp)∧F k=some f
 word:∀k v f,jt k sE=some v→F k=some f→∀x s w,I x s w→s.here.kind=1→s.here.text=k→mY v #[] w (IP I Er (f x s))
 other:∀x s w,I x s w→mY ov #[] w (IP I Er (O x s))
theorem Ez.up {σ:Type}{I:σ→aD→World→Prop}{Er:World→Prop}{lo b mb:Nat}{sE:List (ByteArray×Value)}{ov:Value}{F:ByteArray→Option (fQ σ)}{O:fQ σ} (h:Ez I Er lo b mb sE ov F O) {x:σ}{s:aD}{w w':World} (hi:I x s w) (hb:Below w.heap.size w w'):I x s w' :=
 h.step x s w s w' hi ((h.rd x s w hi).up hb) (aA b hb) (.refl _)
def bT {σ:Type} (F:ByteArray→Option (fQ σ)) (O:fQ σ):fQ σ:=fun x s=>match cx 4 ⟨#[59]⟩ s with
 |.error e=>.error e
 |.ok (true,s')=>.ok (x,s')
 |.ok (false,_)=>match F s.here.text with
  |some f=>if s.here.kind=1 then f x s else O x s
  |none=>O x s
theorem x7 {P:Program} (w:World) (d:Nat) (t:TypeId) (ps rs:Array TypeId) (vr:Bool) (g:Fn) (pa lb:Array Value) (h:P.underlying t=some (.func ps rs vr)):(Op.equalIn (d+1) t (.func g pa lb) .nilFunc).run P w=.ok false w:=by
 simp[Op.equalIn,run_underlying h]
theorem B4 {P:Program} (w:World) (t:TypeId) (ps rs:Array TypeId) (vr:Bool) (g:Fn) (pa lb:Array Value) (h:P.underlying t=some (.func ps rs vr)):(Op.equal t (.func g pa lb) .nilFunc).run P w=.ok false w:=x7 w 9999 t ps rs vr g pa lb h
theorem F8 (g:Fn) (pa lb:Array Value) (w:World):Sem.run Tryz.prog (binOp BinOp.neq 1 (.func g pa lb) .nilFunc) w=.ok (.bool true) w:=by
 simp only[binOp]
 simp[B4 w 1 _ _ _ g pa lb Tryz.underlying1]
theorem tu {P:Program} (w:World) (d:Nat) (t:TypeId) (ps rs:Array TypeId) (vr:Bool) (h:P.underlying t=some (.func ps rs vr)):(Op.equalIn (d+1) t .nilFunc .nilFunc).run P w=.ok true w:=by
 simp[Op.equalIn,run_underlying h]
theorem zg {P:Program} (w:World) (t:TypeId) (ps rs:Array TypeId) (vr:Bool) (h:P.underlying t=some (.func ps rs vr)):(Op.equal t .nilFunc .nilFunc).run P w=.ok true w:=tu w 9999 t ps rs vr h
theorem Dz (w:World):Sem.run Tryz.prog (binOp BinOp.neq 1 .nilFunc .nilFunc) w=.ok (.bool false) w:=by
 simp only[binOp]
 simp[zg w 1 _ _ _ Tryz.underlying1]
section
variable {σ : Type} {I : σ → aD → World → Prop} {Er : World → Prop} {lo b mb : Nat} {sE : List (ByteArray × Value)} {ov : Value} {F : ByteArray → Option (fQ σ)} {O : fQ σ}
theorem oR (h:Ez I Er lo b mb sE ov F O) {x:σ}{s:aD}{W:World} (hi:I x s W):Calls Tryz.prog 81 #[.pointer (some ⟨b,0,none⟩),.map (some mb),ov] W (IP I Er (bT F O x s)):=by
 have hd:=h.rd x s W hi
 have HC:=aj (gj hd ⟨#[59]⟩)
 have HI:=aj hi
 have HT:=aj h
 clear hd hi h
 go_enter Tryz.func81,Tryz.ntmps81
 go_wp2_with fail
 refine (aa HC).mono ?_
 intro e w1 hw
 rcases hw.split with ⟨y,hr,rfl,hg⟩|⟨f,s1,hr,rfl,h1,hg⟩
 ·refine ⟨rfl,?_⟩
  unfold bT
  rw[hr]
  exact ⟨rfl,(aa HT).er x s W _ (aa HI) hg⟩
 ·cases f with
  |true =>
   have HE:Hid (IP I Er (bT F O x s) (.returned (.tuple #[])) w1):=by
    unfold bT
    rw[hr]
    exact ⟨rfl,(aa HT).step x s W s1 w1 (aa HI) h1 hg (dV hr)⟩
   clear hw hr hg h1 HC
   go_wp2
   go_end0
   exact aa HE
  |false =>
   have QK:s1=s:=by
    rcases mB hr with ⟨_,e⟩|⟨e,_⟩
    ·exact e
    ·cases e
   subst QK
   have qU:=aj ((aa HT).step x s1 W s1 w1 (aa HI) h1 hg (.refl _))
   have HF:Hid (bT F O x s1=match F s1.here.text with|some f=>if s1.here.kind=1 then f x s1 else O x s1|none=>O x s1):=by
    show _=_
    conv=>lhs;unfold bT
    rw[hr]
   have H1:=aj h1
   clear hw hr hg h1 HC HI
   go_wp2_with fail
   refine (fu (aa H1)).mono ?_
   rintro e w2 ⟨rfl,bJ⟩
   have oO:=aj ((aa HT).up (aa qU) bJ)
   clear bJ H1 qU
   obtain ⟨t,ht⟩:∃t,s1.here=t:=⟨_,rfl⟩
   have Ht:=aj ht
   rw[ht] at HF ⊢
   obtain ⟨kd,sp,tx⟩:=t
   unfold Tk.val
   simp only at HF ⊢
   have hbA:=(zE w2.heap.size w2).alloc (zD _) (.cells #[.int .i64 kd,.int .i64 sp,.string tx] 44)
   have sB:=aj ((aa HT).up (aa oO) hbA)
   obtain ⟨Pm,hm⟩:=(aa HT).map x s1 _ (aa sB)
   have hlk:=Jp hm tx
   have Hnn:=Dz
   have Hfn:=F8
   clear ht hbA hm oO
   rcases (aa HT).look tx with ⟨q1,q2⟩|⟨fn,fs,cp,f,q1,q2⟩
   ·rw[q1] at hlk
    simp only[Option.getD_none] at hlk
    rw[q2] at HF
    simp only at HF
    clear q1 q2
    obtain ⟨n,os,oc,rfl,y9,gE⟩:=(aa HT).other x s1 _ (aa sB)
    have IU:=aj gE
    clear gE
    go_wp2_with fail
    refine (show Calls Tryz.prog n (os++oc) _ _ from by have:=aa IU;simpa using this).mono ?_
    intro e w4 lG
    have IQ:Hid (IP I Er (bT F O x s1) e w4):=by
     show IP I Er (bT F O x s1) e w4
     rw[aa HF]
     exact lG
    rcases lG.split with ⟨y,hr,rfl,he⟩|⟨x',s',hr,rfl,hi⟩
    ·exact ⟨rfl,aa IQ⟩
    ·clear hr hi lG IU
     go_wp2
     go_end0
     exact aa IQ
   ·rw[q1] at hlk
    simp only[Option.getD_some] at hlk
    rw[q2] at HF
    simp only at HF
    have Hq1:=aj q1
    have Hq2:=aj q2
    clear q1 q2
    by_cases hk:kd=1
    ·subst hk
     obtain ⟨n,fs',cp',e9,y9,gE⟩:=(aa HT).word tx _ f (aa Hq1) (aa Hq2) x s1 _ (aa sB) (by rw[aa Ht]) (by rw[aa Ht])
     cases e9
     have IU:=aj gE
     clear gE
     rw[if_pos rfl] at HF
     go_wp2_with fail
     refine (show Calls Tryz.prog n (fs++cp) _ _ from by have:=aa IU;simpa using this).mono ?_
     intro e w4 lG
     have IQ:Hid (IP I Er (bT F O x s1) e w4):=by
      show IP I Er (bT F O x s1) e w4
      rw[aa HF]
      exact lG
     rcases lG.split with ⟨y,hr,rfl,he⟩|⟨x',s',hr,rfl,hi⟩
     ·exact ⟨rfl,aa IQ⟩
     ·clear hr hi lG IU
      go_wp2
      go_end0
      exact aa IQ
    ·have iq:(kd==1)=false:=by simp[hk]
     obtain ⟨n,os,oc,rfl,y9,gE⟩:=(aa HT).other x s1 _ (aa sB)
     have IU:=aj gE
     clear gE
     rw[if_neg hk] at HF
     clear hk
     go_wp2_with fail
     refine (show Calls Tryz.prog n (os++oc) _ _ from by have:=aa IU;simpa using this).mono ?_
     intro e w4 lG
     have IQ:Hid (IP I Er (bT F O x s1) e w4):=by
      show IP I Er (bT F O x s1) e w4
      rw[aa HF]
      exact lG
     rcases lG.split with ⟨y,hr,rfl,he⟩|⟨x',s',hr,rfl,hi⟩
     ·exact ⟨rfl,aa IQ⟩
     ·clear hr hi lG IU
      go_wp2
      go_end0
      exact aa IQ
def eR {σ:Type} (st:fQ σ):Nat→fQ σ
 |0,_,_=>.error (0,0)
 |n+1,x,s=>if cZ s.here 4 ⟨#[125]⟩=true then .ok (x,s) else match st x s with
  |.error e=>.error e
  |.ok (x',s')=>eR st n x' s'
def ie {σ:Type} (st:fQ σ):fQ σ:=fun x s=>match aV ⟨#[123]⟩ s with
 |.error e=>.error e
 |.ok (_,s1)=>eR st (s1.ts.length+1) x s1
def BdJ (I:σ→aD→World→Prop) (b mb:Nat) (ov:Value) (st:fQ σ) (R0:Except (Int×Int) (σ×aD)) (n:Nat) (a:Act) (w:World):Prop:=∃(u:Nat→Value) (x:σ) (s:aD),a=⟨#[.pointer (some ⟨b,0,none⟩),.map (some mb),ov,u 3,u 4,u 5,u 6,u 7,u 8,u 9,u 10,u 11,u 12,u 13,u 14,u 15],[]⟩∧I x s w∧s.ts.length<n∧eR st n x s=R0
theorem yv (h:Ez I Er lo b mb sE ov F O) (QI:∀x s w x' s',I x s w→bT F O x s=.ok (x',s')→s'.ts.length<s.ts.length) {x:σ}{s:aD}{W:World} (hi:I x s W):Calls Tryz.prog 123 #[.pointer (some ⟨b,0,none⟩),.map (some mb),ov] W (IP I Er (ie (bT F O) x s)):=by
 have hd:=h.rd x s W hi
 have HC:=aj (de hd ⟨#[123]⟩)
 have HI:=aj hi
 have HT:=aj h
 have HS:=aj QI
 clear hd hi h QI
 go_enter Tryz.func123,Tryz.ntmps123
 go_wp2_with fail
 refine (aa HC).mono ?_
 intro e w1 hw
 rcases hw.split with ⟨y,hr,rfl,hg⟩|⟨f,s1,hr,rfl,h1,hg⟩
 ·refine ⟨rfl,?_⟩
  unfold ie
  rw[hr]
  exact ⟨rfl,(aa HT).er x s W _ (aa HI) hg⟩
 ·have qU:=aj ((aa HT).step x s W s1 w1 (aa HI) h1 hg (bR hr))
  have HF:Hid (eR (bT F O) (s1.ts.length+1) x s1=ie (bT F O) x s):=by
   show _=_
   unfold ie
   rw[hr]
  clear hw hr hg h1 HC HI
  go_wp2
  refine gG (BdJ I b mb ov (bT F O) (ie (bT F O) x s)) ?_ (s1.ts.length+1) _ _ ⟨fun i=>[undef,undef,undef,undef,undef,undef,.pointer (some ⟨b,0,none⟩),Cw f].getD i undef,x,s1,rfl,aa qU,by omega,aa HF⟩
  obtain ⟨R0,CA⟩:∃R0,ie (bT F O) x s=R0:=⟨_,rfl⟩
  rw[CA]
  obtain ⟨Q,hQ⟩:∃Q,bodyPost Tryz.prog Tryz.f123 (IP I Er R0)=Q:=⟨_,rfl⟩
  rw[hQ]
  clear HF qU CA
  rintro n _ wr ⟨u,xc,sc,rfl,hi,hn,hR⟩
  obtain ⟨n,rfl⟩:∃k,n=k+1:=⟨n-1,by omega⟩
  have HI:=aj hi
  have HR:=aj hR
  have hd:=(aa HT).rd xc sc wr hi
  have hI:Hid (∀w,Calls Tryz.prog 118 #[sc.here.val,.int .i64 4,.string ⟨#[125]⟩] w fun e w'=>e=.returned (.bool (cZ sc.here 4 ⟨#[125]⟩))∧Below w.heap.size w w'):=fun w=>rP w sc.here 4 _
  have HH:=aj (fu hd)
  have OX:Hid (∃p q r,sc.here.val=.agg #[p,q,r]):=⟨_,_,_,rfl⟩
  obtain ⟨p,q,r,EP⟩:=aa OX
  rw[EP] at hI HH
  clear hi hR hd OX EP
  go_wp2_with fail
  refine (aa HH).mono ?_
  rintro e w2 ⟨rfl,bJ⟩
  have oO:=aj ((aa HT).up (aa HI) bJ)
  clear bJ HI HH
  go_wp2_with fail
  refine (aa hI w2).mono ?_
  rintro e w3 ⟨rfl,mQ⟩
  have sB:=aj ((aa HT).up (aa oO) mQ)
  clear mQ oO hI
  cases hp:cZ sc.here 4 ⟨#[125]⟩ with
  |true =>
   have HE:Hid (IP I Er R0 (.returned (.tuple #[])) w3):=by
    show IP I Er R0 (.returned (.tuple #[])) w3
    rw[←aa HR]
    unfold eR
    rw[if_pos hp]
    exact ⟨rfl,aa sB⟩
   clear hp
   go_wp2
   rw[←hQ]
   go_end0
   exact aa HE
  |false =>
   have HE:Hid (∀z,bT F O xc sc=z→R0=match z with|.error e=>.error e|.ok (x',s')=>eR (bT F O) n x' s'):=fun z hz=>by
    rw[←aa HR]
    conv=>lhs;unfold eR
    rw[if_neg (by rw[hp];simp),hz]
   have zu:=aj (oR (aa HT) (aa sB))
   clear hp
   go_wp2_with fail
   refine (aa zu).mono ?_
   intro e w4 lG
   rcases lG.split with ⟨y,hr,rfl,he⟩|⟨x',s',hr,rfl,QU⟩
   ·show Q (Exit.panic _) _ _
    rw[←hQ]
    refine ⟨rfl,?_⟩
    rw[aa HE _ hr]
    exact ⟨rfl,he⟩
   ·have cw:=aa HS _ _ _ _ _ (aa sB) hr
    have PJ:=aj (aa HE _ hr)
    have O7:=aj QU
    clear hr QU lG zu HE HR
    go_wp2
    exact ⟨n,rfl,fun i=>[undef,undef,undef,u 3,u 4,u 5,u 6,u 7,.pointer (some ⟨b,0,none⟩),.agg #[p,q,r],.bool false,.bool true,.pointer (some ⟨b,0,none⟩),.map (some mb),ov,.tuple #[]].getD i undef,x',s',rfl,aa O7,by omega,(aa PJ).symm⟩
end
end Go.Proofs.YtmlphohdcejniaaGreatDoor
namespace Go.Proofs.YtmlphohdcejniaaGreatDoor
open Go.RowKit
attribute [local go_sem ↓] Go.wp_at_zero Go.wp_at_succ
def CR {α:Type} (lo b:Nat) (N1:α→Value→(Nat→Prop)→World→Prop) (w0:World) (r:Except (Int×Int) (α×aD)) (e:Ending) (w:World):Prop:=match r with
 |.error y=>e=pI y.1 y.2∧w0.grownBy w (some b)
 |.ok (a,s')=>∃x,e=.returned x∧N1 a x (fun k=>w0.heap.size≤k) w∧Rd lo w b s'∧w0.grownBy w (some b)
theorem PR.cr {α:Type}{lo b:Nat}{w0 w:World}{ret:α→Value}{r:Except (Int×Int) (α×aD)}{e:Ending} (h:PR lo b w0 ret r e w):CR lo b (fun a x _ _=>x=ret a) w0 r e w:=by
 unfold PR at h
 unfold CR
 cases r with
 |error y=>exact h
 |ok y=>exact ⟨_,h.1,rfl,h.2.1,h.2.2⟩
section
variable {α : Type} {lo b g : Nat} {T : TypeId} {nm : ByteArray} {ss : List Slot} {N : (Nat → Prop) → World → Prop} {V W : World} {s : aD} {i : Nat} {sl : Slot} {r : Except (Int × Int) (α × aD)} {N1 : α → Value → (Nat → Prop) → World → Prop}
def CP (lo b g:Nat) (T:TypeId) (nm:ByteArray) (ss:List Slot) (N:(Nat→Prop)→World→Prop) (V W:World) (i:Nat) (sl:Slot) (r:Except (Int×Int) (α×aD)) (N1:α→Value→(Nat→Prop)→World→Prop) (e:Ending) (w:World):Prop:=match r with
 |.error y=>e=pI y.1 y.2∧Sv g b W w
 |.ok (a,s')=>e=.returned (.tuple #[])∧∃x y,Ap lo b g T nm (ss.set i ⟨sl.t,sl.sz,y,sl.n+1,sl.xs++x.cells.toList⟩) (fun P w=>N P w∧N1 a x P w) V W s' w
def Ph (lo b g:Nat) (T:TypeId) (nm:ByteArray) (ss:List Slot) (N:(Nat→Prop)→World→Prop) (V W:World) (s:aD) (sl:Slot) (r:Except (Int×Int) (α×aD)) (N1:α→Value→(Nat→Prop)→World→Prop):Nat→Value→World→Prop
 |0,_,w=>Ap lo b g T nm ss N V W s w
 |1,x,w=>∃a s',r=.ok (a,s')∧N1 a x (Fz ss g b) w∧Ap lo b g T nm ss (fun P w=>N P w∧N1 a x P w) V W s' w
 |2,y,w=>∃a s' x gy,r=.ok (a,s')∧y=.slice (some ⟨gy,0,none⟩) 1 1∧w.heap[gy]?=some (.cells x.cells sl.t (0,0))∧N1 a x (Fz ss g b) w∧Ap lo b g T nm ss (fun P w=>N P w∧N1 a x P w) V W s' w
 |_+3,y,w=>∃a s' x w2,r=.ok (a,s')∧Ap lo b g T nm ss (fun P w=>N P w∧N1 a x P w) V W s' w2∧w2.grownBy w sl.v.ownBlock∧w.ownsRow (g+1) sl.t sl.sz y (sl.n+1) (sl.xs++x.cells.toList)∧(y.ownBlock=sl.v.ownBlock∨y.ownBlock=some w2.heap.size)
def Bs (g:Nat) (T:TypeId) (nm:ByteArray) (ss:List Slot) (cs:List (Nat×Array Value×TypeId)) (w:World):Prop:=w.heap[g]?=some (.cells (.string nm::ss.map Slot.v).toArray T (0,0))∧∀c ∈ cs,w.heap[c.1]?=some (.cells c.2.1 c.2.2 (0,0))
theorem Ph.base {cs:List (Nat×Array Value×TypeId)} (cB:∀P w,N P w→∀c ∈ cs,aP c.1 c.2.1 c.2.2 P w) (hi:ss[i]?=some sl):∀(ph:Nat) (x:Value) (w:World),Ph lo b g T nm ss N V W s sl r N1 ph x w→Bs g T nm ss cs w
 |0,x,w,h=>⟨h.bx.dJ,fun c hc=>(cB _ _ h.nx c hc).1⟩
 |1,x,w,⟨a,s',_,_,h⟩=>⟨h.bx.dJ,fun c hc=>(cB _ _ h.nx.1 c hc).1⟩
 |2,x,w,⟨a,s',_,_,_,_,_,_,h⟩=>⟨h.bx.dJ,fun c hc=>(cB _ _ h.nx.1 c hc).1⟩
 |_+3,x,w,⟨a,s',_,w2,_,h,hg,_,_⟩=>by
  refine ⟨(hg.block g h.bx.lt (fun e=>?_)).trans h.bx.dJ,fun c hc=>?_⟩
  ·have:=((h.bx.own i sl hi).lt g e.symm).1;omega
  ·obtain ⟨h1,h2⟩:=cB _ _ h.nx.1 c hc
   exact (hg.block c.1 (zA h1).1 (fun e=>h2.2.2 i sl hi e.symm)).trans h1
theorem Ph.call (hN:aK N) (iS:∀a x,aK (N1 a x)) {w w':World}{e:Ending} (h:Ph lo b g T nm ss N V W s sl r N1 0 undef w) (hc:CR lo b N1 w r e w'):(∃x,e=.returned x∧Ph lo b g T nm ss N V W s sl r N1 1 x w')∨∃y,r=.error y∧e=pI y.1 y.2∧Sv g b W w':=by
 have h0:Ap lo b g T nm ss N V W s w:=h
 unfold CR at hc
 cases hr:r with
 |error y =>
  rw[hr] at hc
  exact .inr ⟨y,rfl,hc.1,h0.sv.trans (Sv.of hc.2 (by have:=h0.bx.lt;omega))⟩
 |ok y =>
  rw[hr] at hc
  obtain ⟨x,rfl,h1,h2,h3⟩:=hc
  have h4:=h0.join hN (iS y.1 x) h2 h3 h1
  exact .inl ⟨x,rfl,y.1,y.2,rfl,h4.nx.2,h4⟩
theorem Ph.bs (hN:aK N) (iS:∀a x,aK (N1 a x)) {w:World}{x:Value} (h:Ph lo b g T nm ss N V W s sl r N1 1 x w):Ph lo b g T nm ss N V W s sl r N1 2 (.slice (some ⟨w.heap.size,0,none⟩) 1 1) (w.alloc (.cells x.cells sl.t)):=by
 obtain ⟨a,s',hr,_,h0⟩:=h
 have h1:=h0.up (hN.and (iS a x)) ((zE w.heap.size w).alloc (zD _) (.cells x.cells sl.t))
 exact ⟨a,s',x,w.heap.size,hr,rfl,aC _ _,h1.nx.2,h1⟩
theorem Ph.app {w w':World}{a:α}{s':aD}{x y:Value} (hr:r=.ok (a,s')) (h:Ap lo b g T nm ss (fun P w=>N P w∧N1 a x P w) V W s' w) (hg:w.grownBy w' sl.v.ownBlock) (ho:w'.ownsRow (g+1) sl.t sl.sz y (sl.n+1) (sl.xs++x.cells.toList)) (hl:y.ownBlock=sl.v.ownBlock∨y.ownBlock=some w.heap.size):Ph lo b g T nm ss N V W s sl r N1 3 y w':=⟨a,s',x,w,hr,h,hg,ho,hl⟩
theorem Ph.last (hN:aK N) (iS:∀a x,aK (N1 a x)) (hi:ss[i]?=some sl) {w:World}{y:Value} (h:Ph lo b g T nm ss N V W s sl r N1 3 y w):CP lo b g T nm ss N V W i sl r N1 (.returned (.tuple #[])) (w.setCell ⟨g,i+1,none⟩ y):=by
 obtain ⟨a,s',x,w2,hr,h1,h2,h3,h4⟩:=h
 unfold CP
 rw[hr]
 exact ⟨rfl,x,y,h1.app (hN.and (iS a x)) hi h2 h3 h4⟩
theorem Bs.cell {cs:List (Nat×Array Value×TypeId)}{w:World} (h:Bs g T nm ss cs w) {p j:Nat}{vs:Array Value}{v:Value}{t:TypeId} (hc:(p,vs,t) ∈ cs) (hj:vs[j]?=some v):w.cell? ⟨p,j,none⟩=some v:=by
 have:=h.2 _ hc
 rw[cell_of_row _ _ _ _ _ _ this]
 exact hj
theorem Bs.row {cs:List (Nat×Array Value×TypeId)}{w:World} (h:Bs g T nm ss cs w) (hi:ss[i]?=some sl):w.cell? ⟨g,i+1,none⟩=some sl.v:=by
 rw[cell_of_row _ _ _ _ _ _ h.1]
 simp[hi]
theorem Bs.frozen {cs:List (Nat×Array Value×TypeId)}{w:World} (h:Bs g T nm ss cs w) (j:Nat):w.frozen? ⟨g,j,none⟩=false:=by
 simp[World.frozen?,h.1]
end
section
variable {P : Program} {ops : Array Oper} {Q : Exit → Act → World → Prop}
theorem jQ {i:Nat}{o:Oper}{a:Act}{w w':World}{K:Act→World→Prop}{v:Value} (ho:ops[i]?=some o) (hg:o.guard=none) (t:TypeId) (len:Nat) (parts:Array (Nat×Operand)) (jS:o.op=.buildSlice t len parts) (vs:Array (Nat×Value)) (hv:(parts.map fun p=>(p.1,a.eval p.2))=vs) (hr:(Instr.buildSlice t len vs).run P w=.ok v w') (hK:K (a.put o.dst v) w'):wpOp P ops Q i K a w:=by
 refine nH ho hg (v:=v) (w':=w') ?_ hK
 simp only[execOp,jS,hv]
 exact GX hr
theorem bK {i:Nat}{o:Oper}{a:Act}{w w':World}{K:Act→World→Prop}{v vx:Value} (ho:ops[i]?=some o) (hg:o.guard=none) (t:TypeId) (x:Operand) (f:Nat) (jS:o.op=.fieldAddr t x f) (ex:a.eval x=vx) (hr:(Instr.fieldAt t vx f).run P w=.ok v w') (hK:K (a.put o.dst v) w'):wpOp P ops Q i K a w:=by
 refine nH ho hg (v:=v) (w':=w') ?_ hK
 simp only[execOp,jS,ex]
 exact GX hr
theorem aY {i:Nat}{o:Oper}{a:Act}{w:World}{K:Act→World→Prop}{ad:Addr} (ho:ops[i]?=some o) (hg:o.guard=none) (x:Operand) (jS:o.op=.nilCheck x) (ex:a.eval x=.pointer (some ad)) (hK:K (a.put o.dst (.pointer (some ad))) w):wpOp P ops Q i K a w:=by
 refine nH ho hg (v:=.pointer (some ad)) (w':=w) ?_ hK
 simp[execOp,jS,ex]
theorem Ft {i:Nat}{o:Oper}{a:Act}{w:World}{K:Act→World→Prop}{ad:Option Addr}{n c:Nat} (ho:ops[i]?=some o) (hg:o.guard=none) (x:Operand) (t e:TypeId) (jS:o.op=.call { callee:=.builtin .len,args:=#[x],argTypes:=#[t] }) (ht:P.underlying t=some (.slice e)) (ex:a.eval x=.slice ad n c) (hK:K (a.put o.dst (.int .i64 (n:Int))) w):wpOp P ops Q i K a w:=by
 refine nH ho hg (v:=.int .i64 (n:Int)) (w':=w) ?_ hK
 unfold execOp
 simp[jS,resolve,invoke,builtin,ex,Builtin.len_,run_underlying ht,goInt]
theorem dM {i:Nat}{o:Oper}{a:Act}{w w':World}{K:Act→World→Prop}{vx vy:Value} (ho:ops[i]?=some o) (hg:o.guard=none) (t:TypeId) (x y:Operand) (jS:o.op=.store t x y) (ex:a.eval x=vx) (ey:a.eval y=vy) (hr:(Instr.storeAt t vx vy).run P w=.ok () w') (hK:K (a.put o.dst undef) w'):wpOp P ops Q i K a w:=by
 refine Qo ho hg (w':=w') ?_ hK
 simp[execOp,jS,ex,ey,hr]
def EI (P:Program) (e:TypeId) (sz bt:Nat):Prop:=∃i z,P.info? e=some i∧i.zero=some z∧i.size=sz∧i.bytes=bt∧z.cells.size=sz
theorem AJ {e:TypeId}{z:Value}{sz bt:Nat} (h:(P.info? e).map (fun i=>(i.zero,i.size,i.bytes))=some (some z,sz,bt)) (hz:z.cells.size=sz):EI P e sz bt:=by
 obtain ⟨i,h1,h2,h3,h4⟩:=info_parts h
 exact ⟨i,z,h1,h2,h3,h4,hz⟩
theorem bX (w:World) {k:Nat}{o:Oper}{a:Act}{K:Act→World→Prop} (Aq:ops[k]?=some o) (Ih:o.guard=none) (s x:Operand) (t:TypeId)
  (ho:o.op=.call { callee:=.builtin .append,args:=#[s,x],argTypes:=#[t,t] })
  (base:Nat) (e:TypeId) (size bytes:Nat) (ht:P.underlying t=some (.slice e)) (hi:EI P e size bytes) (bU:0<size)
  (v:Value) (n:Nat) (xs:List Value) (hs:a.eval s=v) (l9:w.ownsRow base e size v n xs)
  (ad:Addr) (m c:Nat) (news:List Value) (hx:a.eval x=.slice (some ad) m c) (hl:news.length=m*size) (M':∀j u,news[j]?=some u→w.cell? (ad.add j)=some u) (h1:∀u ∈ news,u.oneCell'=true)
  (WR:n+m≤maxLen) (xP:(n+m)*bytes≤140737488355328) (cq:base≤w.heap.size)
  (h:∀v' w',w'.ownsRow base e size v' (n+m) (xs++news)→w.grownBy w' v.ownBlock→(v'.ownBlock=v.ownBlock∨v'.ownBlock=some w.heap.size)→K (a.put o.dst v') w') :
  wpOp P ops Q k K a w:=by
 obtain ⟨i,z,e1,e2,e3,e4,e5⟩:=hi
 obtain ⟨v',w',hr,h2,h3,_,h5⟩:=run_append_own_at (P:=P) w base t o.type e i z size bytes ht e1 e2 e3 e4 e5 bU v n xs l9 ad m c news hl M' h1 WR xP cq
 refine nH Aq Ih (v:=v') (w':=w') ?_ (h v' w' h2 h3 h5)
 unfold execOp
 simp only[ho,resolve,invoke,builtin,Sem.run_bind,Sem.run_pure,Result.andThen_ok,List.map_toArray,List.map_cons,List.map_nil,hs,hx,hr]
end
end Go.Proofs.YtmlphohdcejniaaGreatDoor
