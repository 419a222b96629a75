import Derived.Test.YtichhjfjcinjgaaGreatDoorM12
set_option maxHeartbeats 1000000
set_option maxRecDepth 100000
namespace Go.Proofs.YtichhjfjcinjgaaGreatDoor
open Go.RowKit
attribute [local go_sem ↓] Go.wp_at_zero Go.wp_at_succ
theorem qu {s:ByteArray}{k j:Nat} (h:k+j<s.size):cW (s.extract k s.size) j=cW s (k+j):=by
 unfold cW
 rw[jT h,wO,List.drop_drop]
theorem FV {s:ByteArray}{q k:Nat} (hk:k≤s.size):∀(m j:Nat),s.size-(k+j)≤m→ec (s.extract k s.size) q j=(ec s q (k+j)).map fun r=>(r.1,r.2-k):=by
 have hz:(s.extract k s.size).size=s.size-k:=by rw[ByteArray.size_extract];omega
 intro m
 induction m with
 |zero=>intro j hj;rw[lT (by omega),lT (by omega)];rfl
 |succ m ih =>
  intro j hj
  by_cases hl:k+j<s.size
  ·by_cases hq:aC s (k+j)=q
   ·rw[lS (by omega) ((jT hl).trans hq),lS hl hq]
    show some (([]:List Nat),j+1)=some ([],k+j+1-k)
    congr 2
    omega
   ·have jZ:¬aC (s.extract k s.size) j=q:=by rw[jT hl];exact hq
    cases hp:cW s (k+j) with
    |none=>rw[pr (by omega) jZ ((qu hl).trans hp),pr hl hq hp];rfl
    |some t =>
     obtain ⟨b,n⟩:=t
     obtain ⟨p1,p2,p3⟩:=iv hp hl
     rw[mu (by omega) jZ ((qu hl).trans hp),mu hl hq hp,ih (j+n) (by omega),Option.map_map,Option.map_map,show k+(j+n)=k+j+n by omega]
     rfl
  ·rw[lT (by omega),lT hl];rfl
theorem yY {W:World}{B b:Nat}{s:ByteArray}{k n:Nat}{v:Value}{xs:List Value} (hE:jW W) (I:eT W B b s k n v xs) (hp:bj s s.size k=(k,true)) (hq:aC s k=39∨aC s k=34) (ho:cq s k=match ec s (aC s k) (k+1) with|none=>(0,0,42)|some (_,e)=>(3,e,0)) :
  Calls Tryz.prog 144 #[.pointer (some ⟨b,0,none⟩)] W (ga B b s k n xs W):=by
 have hr:=kA I.sc (Nat.le_of_lt I.more)
 have HI:=al I
 have HE:=al hE
 have hs:=I.size
 have hk:=I.more
 have hz:(s.extract k s.size).size=s.size-k:=by rw[ByteArray.size_extract];omega
 have hL:vp (s.extract k s.size)=(ec s (aC s k) (k+1)).map fun r=>(r.1,r.2-k):=by
  have bG:aC (s.extract k s.size) 0=aC s k:=jT (by omega)
  rw[vT (by omega) (by rw[bG];exact hq),bG]
  exact FV (by omega) _ 1 (zD _)
 have HL:=al hL
 have Hp:=al hp
 have Ho:=al ho
 clear I hp ho hE hq hL
 go_enter Tryz.func144,Tryz.ntmps144
 go_wp2_with fail
 refine hr.mono ?_
 rintro e w1 ⟨rfl,n1,rfl⟩
 clear hr
 have aW:Below W.heap.size W (W.drewN n1):=below_drewN (zE _ _) n1
 have hu:=yO ((ab HE).up aW) (s.extract k s.size) (by omega)
 have yn:=al aW
 clear aW
 go_wp2_with fail
 refine hu.mono ?_
 rintro e w2 ⟨bd,⟨h1,rfl⟩|⟨l,m,v',h1,rfl,hv⟩⟩
 ·have nS:Below W.heap.size W w2:=(ab yn).trans bd
  have hn:ec s (aC s k) (k+1)=none:=Option.map_eq_none_iff.1 ((ab HL).symm.trans h1)
  have ht:=CY ((ab HI).up nS) (ab Hp) (c:=42) (by rw[ab Ho,hn]) (by decide) 0 0 42 rfl
  have Ht:=al ht
  have OQ:=al nS
  clear ht bd nS hn h1 hu
  go_wp2_with fail
  refine (ab Ht).mono ?_
  intro e w hq
  obtain ⟨c,rfl⟩:=hq.ret
  have Hq:=al (hq.from (ab OQ) (ab HI).hi)
  clear hq
  go_wp2
  go_ret
  exact ab Hq
 ·have nS:Below W.heap.size W w2:=(ab yn).trans bd
  obtain ⟨⟨l',e'⟩,h2,h3⟩:=Option.map_eq_some_iff.1 ((ab HL).symm.trans h1)
  obtain ⟨rfl,rfl⟩:=Prod.mk.inj h3
  obtain ⟨u1,u2,_⟩:=CR _ (k+1) l' e' (zD _) h2
  obtain ⟨m,hm⟩:∃m,e'=k+m:=⟨e'-k,by omega⟩
  have PB:(l',e').2-k=m:=by show e'-k=m;omega
  rw[PB]
  have ht:=CW ((ab HI).up nS) (ab Hp) (m:=m) (t:=3) (by rw[ab Ho,h2,hm]) 3 (m:Int) rfl rfl
  have Ht:=al ht
  have OQ:=al nS
  have m0:((m:Int)==0)=false:=beq_eq_false_iff_ne.2 (by omega)
  obtain ⟨va,vn,vc,rfl⟩:=hv.shape
  clear ht bd nS h1 h2 h3 hm PB u1 u2 hu hv
  go_wp2_with fail
  refine (ab Ht).mono ?_
  intro e w hq
  obtain ⟨c,rfl⟩:=hq.ret
  have Hq:=al (hq.from (ab OQ) (ab HI).hi)
  clear hq
  go_wp2
  go_ret
  exact ab Hq
theorem ED (W:World) (s sub:ByteArray) (m:Int) (hs:s.size<4294967281) (hm:W.cell? ⟨1,0,none⟩=some (.int .i64 m)) :
  Calls Tryz.prog 156 #[.string s,.string sub] W fun e w=>e=.returned (.int .i64 (Lib.index s.data.toList sub.data.toList))∧w=W:=Any.strings_Index Tryz.EB s sub m W hs hm
def ia (W:World):Prop:=1<W.heap.size∧∃m:Int,W.cell? ⟨1,0,none⟩=some (.int .i64 m)
theorem ia.up {W w:World} (h:ia W) {B:Nat} (hb:Below B W w) (hB:1<B):ia w:=by
 obtain ⟨h1,m,h2⟩:=h
 exact ⟨Nat.lt_of_lt_of_le h1 hb.size,m,(hb.cell (p:=⟨1,0,none⟩) hB).trans h2⟩
theorem N0 {W:World}{B b:Nat}{s:ByteArray}{k n:Nat}{v:Value}{xs:List Value} (I:eT W B b s k n v xs) {W1:World} (hb:Below W.heap.size W W1) (k':Nat) (z:Value) (hz:z=.int .i64 (k':Int)) (h1:k<k') (h2:k'≤s.size) (hp:bj s s.size k=bj s s.size k'):ga B b s k n xs W (.returned (.int .i64 0)) (W1.setCell ⟨b,1,none⟩ z):=by
 subst hz
 have J:=I.up hb
 refine ⟨(BX.of hb I.hi).set _ _,.inl ⟨rfl,k',[],v,J.sc.at _,?_,h1,h2,I.room,?_⟩⟩
 ·show World.ownsRow _ B 107 3 v n (xs++[])
  rw[List.append_nil]
  obtain ⟨h1,⟨rfl,h0⟩|⟨g,c,cur,rfl,h2,h3,h4⟩⟩:=J.row
  ·exact ⟨h1,.inl ⟨rfl,h0⟩⟩
  ·refine ⟨h1,.inr ⟨g,c,cur,rfl,h2,(heap_setCell_other _ ⟨b,1,none⟩ g _ ?_).trans h3,h4⟩⟩
   have:=I.lo
   show ¬g=b
   omega
 ·rw[lj]
  exact CU n hp
theorem vt {W:World}{B b:Nat}{s:ByteArray}{k n:Nat}{v:Value}{xs:List Value} (hM:ia W) (I:eT W B b s k n v xs) (hc:aC s k=47) (ho:(cq s k).2.2=40) :
  Calls Tryz.prog 147 #[.pointer (some ⟨b,0,none⟩)] W (ga B b s k n xs W):=by
 have hr:=kA I.sc (Nat.le_of_lt I.more)
 have HI:=al I
 have hs:=I.size
 have hk:=I.more
 have hz:(s.extract k s.size).size=s.size-k:=by rw[ByteArray.size_extract];omega
 have xU:=Df (s:=s) (k:=k) (by omega) 47 47
 have lK:=Df (s:=s) (k:=k) (by omega) 47 42
 have Jw:(47:UInt8).toNat=47:=rfl
 have LU:(42:UInt8).toNat=42:=rfl
 rw[Jw] at xU lK
 rw[LU] at lK
 have vd:=al xU
 have fC:=al lK
 have HM:=al hM
 have Ho:=al ho
 have Hc:=al hc
 clear I xU lK hM ho hc Jw LU
 go_enter Tryz.func147,Tryz.ntmps147
 go_wp2_with fail
 refine hr.mono ?_
 rintro e w1 ⟨rfl,n1,rfl⟩
 clear hr
 have aW:Below W.heap.size W (W.drewN n1):=below_drewN (zE _ _) n1
 have J:=(ab HI).up aW
 have yn:=al aW
 have HJ:=al J
 have c1:=J.sc.c1
 have f1:=ir 1 J.sc
 clear aW J
 go_wp2_with fail
 refine (fK _ _ _).mono ?_
 rintro e w2 ⟨rfl,hw⟩
 obtain rfl:W.drewN n1=w2:=hw.symm
 clear hw
 by_cases q1:yj (s.extract k s.size) ⟨#[47,47]⟩
 ·rw[El q1]
  obtain ⟨a1,a2,a3⟩:=(ab vd).1 q1
  have hi:=Nr (s:=s) (k:=k) (by omega)
  have aM:=sq hk a2
  have hle:=sr s k (by omega)
  have Je:=al (Er a1 a2 a3)
  clear a2 a3 q1
  obtain ⟨N,hN⟩:∃N,iw s k=N:=⟨_,rfl⟩
  rw[hN] at hi aM hle Je
  clear hN
  have Hi:=al hi
  clear hi
  go_wp2_with fail
  refine (fL _ _ _).mono ?_
  rintro e w3 ⟨rfl,hw⟩
  obtain rfl:W.drewN n1=w3:=hw.symm
  clear hw
  have ZX:(10:Int).toNat.toUInt8=(10:UInt8):=rfl
  rw[ZX,ab Hi]
  clear ZX Hi
  by_cases JC:N<s.size
  ·rw[if_pos JC]
   obtain ⟨d,rfl⟩:∃d,N=k+d:=⟨N-k,by omega⟩
   have hd:k+d-k=d:=by omega
   rw[hd]
   clear hd
   go_wp2
   go_ret
   exact N0 (ab HI) (ab yn) (k+d) _ (by go_num) aM hle (ab Je)
  ·rw[if_neg JC]
   obtain rfl:N=s.size:=by omega
   clear JC
   have ek:(k:Int)+((s.size-k:Nat):Int)=(s.size:Int):=by omega
   go_wp2
   go_ret
   exact N0 (ab HI) (ab yn) s.size _ (by first|go_num|(congr 1;omega)) aM hle (ab Je)
 ·rw[BF q1]
  go_wp2_with fail
  refine (fK _ _ _).mono ?_
  rintro e w3 ⟨rfl,hw⟩
  obtain rfl:W.drewN n1=w3:=hw.symm
  clear hw
  by_cases q2:yj (s.extract k s.size) ⟨#[47,42]⟩
  ·rw[El q2]
   obtain ⟨a1,a2,a3⟩:=(ab fC).1 q2
   have hi:=GS (s:=s) (k:=k+2) (by omega)
   have KT:=gV s (k+2)
   have Xm:=al (fun h=>Ep a1 a2 a3 h)
   have Xl:=al (fun h=>BH a1 a2 a3 h)
   clear a2 a3 q1 q2
   obtain ⟨N,hN⟩:∃N,dt s (k+2)=N:=⟨_,rfl⟩
   rw[hN] at hi KT Xm Xl
   clear hN
   have Hi:=al hi
   clear hi
   have cZ:(s.extract k s.size).extract 2 (s.size-k)=s.extract (k+2) s.size:=by
    apply ByteArray.ext
    apply Array.ext'
    rw[Lib.extract_data,Lib.extract_data,Lib.extract_data,List.drop_take,List.take_take,List.drop_drop]
    congr 1
    omega
   have z2:(2:Int)≤((s.size-k:Nat):Int):=by omega
   have c7:(s.extract (k+2) s.size).size=s.size-(k+2):=by rw[ByteArray.size_extract];omega
   obtain ⟨_,mm,yz⟩:=ab HM
   have Ry:(W.drewN n1).cell? ⟨1,0,none⟩=some (.int .i64 mm):=yz
   have Hmm:=al Ry
   clear yz Ry
   go_wp2_with fail
   refine (ED _ _ _ mm (by omega) (ab Hmm)).mono ?_
   rintro e w3 ⟨rfl,hw⟩
   obtain rfl:W.drewN n1=w3:=hw.symm
   clear hw
   have e4:(⟨#[42,47]⟩:ByteArray).data.toList=[42,47]:=rfl
   rw[e4,ab Hi]
   clear e4 Hi
   by_cases JC:N+2≤s.size
   ·rw[if_pos JC]
    obtain ⟨d,rfl⟩:∃d,N=k+2+d:=⟨N-(k+2),by omega⟩
    have hd:k+2+d-(k+2)=d:=by omega
    rw[hd]
    clear hd
    go_wp2
    go_ret
    exact N0 (ab HI) (ab yn) (k+2+d+2) _ (by first|go_num|(congr 1;omega)) (by omega) JC (ab Xm JC)
   ·rw[if_neg JC]
    have Hq:Hid (ga B b s k n xs W (.returned (.int .i64 43)) (W.drewN n1)):=⟨BX.of (ab yn) (ab HI).hi,.inr ⟨43,v,by decide,rfl,(ab HJ).sc,F4 (ab Xl JC)⟩⟩
    clear JC Xm Xl
    go_wp2
    go_ret
    exact ab Hq
  ·rw[BF q2]
   have hp:bj s s.size k=(k,true):=wg hk (by rw[ab Hc];decide) (mt (ab vd).2 q1) (mt (ab fC).2 q2)
   have ht:=CY (ab HJ) hp (ab Ho) (by decide) 0 0 40 rfl
   have Ht:=al ht
   clear ht hp q1 q2
   go_wp2_with fail
   refine (ab Ht).mono ?_
   intro e w hq
   obtain ⟨c,rfl⟩:=hq.ret
   have Hq:=al (hq.from (ab yn) (ab HI).hi)
   clear hq
   go_wp2
   go_ret
   exact ab Hq
def jV {α σ:Type} (q:α→σ→Option σ):List α→σ→Option σ
 |[],s=>some s
 |x::r,s=>match q x s with
  |some s'=>jV q r s'
  |none=>none
theorem Fe {α σ:Type} (l:List α) (q:α→σ→Option σ) (p:Nat→σ→Option σ) (hp:∀i x s,l[i]?=some x→p i s=q x s):∀(n i:Nat) (s:σ),n=l.length-i→cy p n i s=jV q (l.drop i) s:=by
 intro n
 induction n with
 |zero =>
  intro i s h
  rw[List.drop_eq_nil_of_le (by omega)]
  rfl
 |succ n ih =>
  intro i s h
  have hi:i<l.length:=by omega
  rw[List.drop_eq_getElem_cons hi]
  unfold cy jV
  rw[hp i _ s (List.getElem?_eq_getElem hi)]
  cases hb:q l[i] s with
  |some s'=>exact ih (i+1) s' (by omega)
  |none=>rfl
theorem yi {α σ:Type}{l:List α}{q:α→σ→Option σ}{p:Nat→σ→Option σ} (hp:∀i x s,l[i]?=some x→p i s=q x s) {n:Nat} (hn:n=l.length) (s:σ):cy p n 0 s=jV q l s:=by
 rw[Fe l q p hp n 0 s (by omega),List.drop_zero]
def yes (b:Bool) (_:Unit):Option Unit:=if b then some () else none
theorem wZ (b:Bool) (u:Unit):(yes b u).isSome=b:=by cases b<;>rfl
theorem AO {α:Type} (q:α→Bool):∀l:List α,(jV (fun x=>yes (q x)) l ()).isSome=l.all q
 |[]=>rfl
 |x::r=>by
  rw[List.all_cons]
  unfold jV yes
  cases q x with
  |true=>exact AO q r
  |false=>rfl
theorem mI {α:Type}{l:List α}{q:α→Bool}{p:Nat→Unit→Option Unit} (hp:∀i x,l[i]?=some x→p i ()=yes (q x) ()) {n:Nat} (hn:n=l.length):(cy p n 0 ()).isSome=l.all q:=by
 rw[yi (q:=fun x=>yes (q x)) (fun i x _ h=>hp i x h) hn,AO]
def TR (_:Unit) (_:World):Prop:=True
theorem Br:JE TR:=fun _ _ _ _ _=>trivial
def Mq (f:FuncId) (q:ByteArray→Bool):Prop:=∀(W:World) (s:ByteArray),Calls Tryz.prog f #[.string s] W fun e w=>e=.returned (.bool (q s))∧w=W
theorem Gj {W:World}{l:List ByteArray}{f:FuncId}{q:ByteArray→Bool} (h:Mq f q):eU false W.heap.size W none TR ⟨f,#[],#[]⟩ (fun i=>(bZ l).getD i undef) l.length (fun i=>yes (((l[i]?).map q).getD false)):=by
 intro i hi s w _ _
 have e1:(bZ l).getD i undef=.string l[i]:=by
  rw[List.getD_eq_getElem?_getD,dS (List.getElem?_eq_getElem hi)]
  rfl
 have e2:((l[i]?).map q).getD false=q l[i]:=by rw[List.getElem?_eq_getElem hi];rfl
 simp only[e1,e2,wZ,Bool.false_bne]
 show Calls Tryz.prog f #[.string l[i]] w _
 refine (h w l[i]).mono ?_
 rintro e w' ⟨rfl,rfl⟩
 exact ⟨rfl,fun _ _=>trivial,zI _ _⟩
theorem o4 {W:World}{v:Value}{l:List ByteArray}{f:FuncId}{q:ByteArray→Bool} (hv:Rl W v l.length (bZ l)) (dX:∀vs w,(callFunc f vs).run Tryz.prog w=.ok (.enter f vs) w) (h:Mq f q) (w0:World) (hw:Below W.heap.size W w0) :
  Calls Tryz.prog 36 #[v,.func (.func f) #[] #[]] w0 fun e w=>e=.returned (.bool (l.all q))∧Below w0.heap.size w0 w:=by
 have:=IZ hv (f:=⟨f,#[],#[]⟩) dX (Gj h) (fun _ e=>by cases e) (Gd l) w0 () hw trivial Br (fun _ e=>by cases e)
 refine this.mono ?_
 rintro e w ⟨rfl,_,hg⟩
 rw[mI (l:=l) (q:=q) (fun i x hx=>by simp[hx]) rfl]
 exact ⟨rfl,hg.os,hg.tape,hg.output,hg.size,fun k hk=>hg.block k hk (by simp)⟩
noncomputable def dx (s:ByteArray):Bool:=decide (s.size≤255)&&(pieces s).all bD
theorem tI (s:ByteArray):(pieces s).length=Lib.countB s uF+1:=Lib.splitB_all uF (by decide) 0 _ s rfl
theorem QZ:(Tryz.prog.info? 9).map (fun i=>(i.zero,i.size,i.bytes))=some (some (.string ByteArray.empty),1,16):=by kernel_rfl
theorem Ee {W:World} (hM:ia W) (s:ByteArray) (hs:s.size≤255):Calls Tryz.prog 63 #[.string s,.string uF] W fun e w=>∃c,e=.returned (.slice (some ⟨W.heap.size,0,none⟩) (pieces s).length c)∧w=W.alloc (.cells (bZ (pieces s)).toArray 9):=by
 obtain ⟨_,m,hm⟩:=hM
 refine (Any.strings_Split Tryz.BZ QZ s uF m W (by omega) hm (by decide)).mono ?_
 rintro e w ⟨rfl,rfl⟩
 rw[←tI]
 exact ⟨_,rfl,rfl⟩
theorem wj {W:World} (hM:ia W) (s:ByteArray):Calls Tryz.prog 34 #[.string s] W fun e w=>e=.returned (.bool (dx s))∧Below W.heap.size W w:=by
 by_cases hs:s.size≤255
 ·have e1:decide ((s.size:Int)≤255)=true:=decide_eq_true (by omega)
  have e2:dx s=(pieces s).all bD:=by unfold dx;rw[decide_eq_true hs,Bool.true_and]
  rw[e2]
  have HS:=al (Ee hM s hs)
  have hl:(pieces s).length≤140737488355328:=by
   rw[tI]
   have:=Lib.countB_le uF (by decide) s.size s (zD _)
   omega
  have HA:Hid (∀c,Calls Tryz.prog 36 #[.slice (some ⟨W.heap.size,0,none⟩) (pieces s).length c,.func (.func 64) #[] #[]] (W.alloc (.cells (bZ (pieces s)).toArray 9)) fun e w=>e=.returned (.bool ((pieces s).all bD))∧Below (W.alloc (.cells (bZ (pieces s)).toArray 9)).heap.size (W.alloc (.cells (bZ (pieces s)).toArray 9)) w):=by
   intro c
   refine o4 ⟨_,c,rfl,hl,fun _=>⟨W.heap.size,0,rfl,by rw[zJ];omega,fun j x hx=>?_⟩⟩ (fun vs w=>by kernel_rfl) ij _ (zE _ _)
   rw[Nat.zero_add,cell_of_row _ _ _ _ _ _ (aK W _)]
   simpa using hx
  have HB:=al (show Below W.heap.size W (W.alloc (.cells (bZ (pieces s)).toArray 9)) from (zE _ _).alloc (zD _) _)
  obtain ⟨V,hV⟩:∃V,W.alloc (.cells (bZ (pieces s)).toArray 9)=V:=⟨_,rfl⟩
  obtain ⟨b,hb⟩:∃b,(pieces s).all bD=b:=⟨_,rfl⟩
  obtain ⟨n,hn⟩:∃n,(pieces s).length=n:=⟨_,rfl⟩
  rw[hV] at HS HA HB
  rw[hb] at HA ⊢
  rw[hn] at HA HS
  clear hV hb hn hl e2 hM
  unfold uF at HS
  go_enter Tryz.func34,Tryz.ntmps34
  go_wp2_with fail
  refine (ab HS).mono ?_
  rintro e w ⟨c,rfl,rfl⟩
  clear HS
  go_wp2_with fail
  refine (ab HA c).mono ?_
  rintro e w1 ⟨rfl,aW⟩
  have cN:=al ((ab HB).trans (aW.mono (ab HB).size))
  clear HA HB aW
  go_wp2
  go_ret
  exact ⟨rfl,ab cN⟩
 ·have e1:decide ((s.size:Int)≤255)=false:=decide_eq_false (by omega)
  have e2:dx s=false:=by unfold dx;rw[decide_eq_false hs,Bool.false_and]
  rw[e2]
  clear hM
  go_enter Tryz.func34,Tryz.ntmps34
  go_wp2
  go_ret
  exact ⟨rfl,zE _ _⟩
end Go.Proofs.YtichhjfjcinjgaaGreatDoor
