import Derived.Test.YtichhjfjcinjgaaGreatDoorM12
set_option maxHeartbeats 1000000
set_option maxRecDepth 100000
namespace Go.Proofs.YtichhjfjcinjgaaGreatDoor
open Go.RowKit
attribute [local go_sem ↓] Go.wp_at_zero Go.wp_at_succ
theorem qO {s:ByteArray}{k j:Nat} (h:k+j<s.size):cY (s.extract k s.size) j=cY s (k+j):=by
 unfold cY
 rw[j' h,xt,List.drop_drop]
theorem Gq {s:ByteArray}{q k:Nat} (hk:k≤s.size):∀(m j:Nat),s.size-(k+j)≤m→ef (s.extract k s.size) q j=(ef s q (k+j)).map fun r=>(r.1,r.2-k):=by
 have hz:(s.extract k s.size).size=s.size-k:=by rw[ByteArray.size_extract];omega
 intro m
 induction m with
 |zero=>intro j hj;rw[mj (by omega),mj (by omega)];rfl
 |succ m ih =>
  intro j hj
  by_cases hl:k+j<s.size
  ·by_cases hq:aD s (k+j)=q
   ·rw[mh (by omega) ((j' hl).trans hq),mh hl hq]
    show some (([]:List Nat),j+1)=some ([],k+j+1-k)
    congr 2
    omega
   ·have gT:¬aD (s.extract k s.size) j=q:=by rw[j' hl];exact hq
    cases hp:cY s (k+j) with
    |none=>rw[pM (by omega) gT ((qO hl).trans hp),pM hl hq hp];rfl
    |some t =>
     obtain ⟨b,n⟩:=t
     obtain ⟨p1,p2,p3⟩:=iE hp hl
     rw[mK (by omega) gT ((qO hl).trans hp),mK hl hq hp,ih (j+n) (by omega),Option.map_map,Option.map_map,show k+(j+n)=k+j+n by omega]
     rfl
  ·rw[mj (by omega),mj hl];rfl
theorem zX {W:World}{B b:Nat}{s:ByteArray}{k n:Nat}{v:Value}{xs:List Value} (hE:jM W) (I:eW W B b s k n v xs) (hp:bj s s.size k=(k,true)) (hq:aD s k=39∨aD s k=34) (ho:cw s k=match ef s (aD s k) (k+1) with|none=>(0,0,42)|some (_,e)=>(3,e,0)) :
  Calls Tryz.prog 144 #[.pointer (some ⟨b,0,none⟩)] W (gz B b s k n xs W):=by
 have hr:=kQ I.sc (Nat.le_of_lt I.more)
 have HI:=al I
 have HE:=al hE
 have hs:=I.size
 have hk:=I.more
 have hz:(s.extract k s.size).size=s.size-k:=by rw[ByteArray.size_extract];omega
 have hL:vP (s.extract k s.size)=(ef s (aD s k) (k+1)).map fun r=>(r.1,r.2-k):=by
  have bG:aD (s.extract k s.size) 0=aD s k:=j' (by omega)
  rw[wJ (by omega) (by rw[bG];exact hq),bG]
  exact Gq (by omega) _ 1 (zD _)
 have HL:=al hL
 have Hp:=al hp
 have Ho:=al ho
 clear I hp ho hE hq hL
 go_enter Tryz.func144,Tryz.ntmps144
 go_wp2_with fail
 refine hr.mono ?_
 rintro e w1 ⟨rfl,n1,rfl⟩
 clear hr
 have aX:Below W.heap.size W (W.drewN n1):=below_drewN (zE _ _) n1
 have hu:=zz ((ab HE).up aX) (s.extract k s.size) (by omega)
 have yS:=al aX
 clear aX
 go_wp2_with fail
 refine hu.mono ?_
 rintro e w2 ⟨bd,⟨h1,rfl⟩|⟨l,m,v',h1,rfl,hv⟩⟩
 ·have kh:Below W.heap.size W w2:=(ab yS).trans bd
  have hn:ef s (aD s k) (k+1)=none:=Option.map_eq_none_iff.1 ((ab HL).symm.trans h1)
  have ht:=Dr ((ab HI).up kh) (ab Hp) (c:=42) (by rw[ab Ho,hn]) (by decide) 0 0 42 rfl
  have Ht:=al ht
  have Pf:=al kh
  clear ht bd kh hn h1 hu
  go_wp2_with fail
  refine (ab Ht).mono ?_
  intro e w hq
  obtain ⟨c,rfl⟩:=hq.ret
  have Hq:=al (hq.from (ab Pf) (ab HI).hi)
  clear hq
  go_wp2
  go_ret
  exact ab Hq
 ·have kh:Below W.heap.size W w2:=(ab yS).trans bd
  obtain ⟨⟨l',e'⟩,h2,h3⟩:=Option.map_eq_some_iff.1 ((ab HL).symm.trans h1)
  obtain ⟨rfl,rfl⟩:=Prod.mk.inj h3
  obtain ⟨u1,u2,_⟩:=Dk _ (k+1) l' e' (zD _) h2
  obtain ⟨m,hm⟩:∃m,e'=k+m:=⟨e'-k,by omega⟩
  have P3:(l',e').2-k=m:=by show e'-k=m;omega
  rw[P3]
  have ht:=Dq ((ab HI).up kh) (ab Hp) (m:=m) (t:=3) (by rw[ab Ho,h2,hm]) 3 (m:Int) rfl rfl
  have Ht:=al ht
  have Pf:=al kh
  have m0:((m:Int)==0)=false:=beq_eq_false_iff_ne.2 (by omega)
  obtain ⟨va,vn,vc,rfl⟩:=hv.shape
  clear ht bd kh h1 h2 h3 hm P3 u1 u2 hu hv
  go_wp2_with fail
  refine (ab Ht).mono ?_
  intro e w hq
  obtain ⟨c,rfl⟩:=hq.ret
  have Hq:=al (hq.from (ab Pf) (ab HI).hi)
  clear hq
  go_wp2
  go_ret
  exact ab Hq
theorem E7 (W:World) (s sub:ByteArray) (m:Int) (hs:s.size<4294967281) (hm:W.cell? ⟨1,0,none⟩=some (.int .i64 m)) :
  Calls Tryz.prog 156 #[.string s,.string sub] W fun e w=>e=.returned (.int .i64 (Lib.index s.data.toList sub.data.toList))∧w=W:=Any.strings_Index Tryz.E5 s sub m W hs hm
def gX (W:World):Prop:=1<W.heap.size∧∃m:Int,W.cell? ⟨1,0,none⟩=some (.int .i64 m)
theorem gX.up {W w:World} (h:gX W) {B:Nat} (hb:Below B W w) (hB:1<B):gX w:=by
 obtain ⟨h1,m,h2⟩:=h
 exact ⟨Nat.lt_of_lt_of_le h1 hb.size,m,(hb.cell (p:=⟨1,0,none⟩) hB).trans h2⟩
theorem Ow {W:World}{B b:Nat}{s:ByteArray}{k n:Nat}{v:Value}{xs:List Value} (I:eW W B b s k n v xs) {W1:World} (hb:Below W.heap.size W W1) (k':Nat) (z:Value) (hz:z=.int .i64 (k':Int)) (h1:k<k') (h2:k'≤s.size) (hp:bj s s.size k=bj s s.size k'):gz B b s k n xs W (.returned (.int .i64 0)) (W1.setCell ⟨b,1,none⟩ z):=by
 subst hz
 have J:=I.up hb
 refine ⟨(BX.of hb I.hi).set _ _,.inl ⟨rfl,k',[],v,J.sc.at _,?_,h1,h2,I.room,?_⟩⟩
 ·show World.ownsRow _ B 107 3 v n (xs++[])
  rw[List.append_nil]
  obtain ⟨h1,⟨rfl,h0⟩|⟨g,c,cur,rfl,h2,h3,h4⟩⟩:=J.row
  ·exact ⟨h1,.inl ⟨rfl,h0⟩⟩
  ·refine ⟨h1,.inr ⟨g,c,cur,rfl,h2,(heap_setCell_other _ ⟨b,1,none⟩ g _ ?_).trans h3,h4⟩⟩
   have:=I.lo
   show ¬g=b
   omega
 ·rw[lI]
  exact Dn n hp
theorem vQ {W:World}{B b:Nat}{s:ByteArray}{k n:Nat}{v:Value}{xs:List Value} (hM:gX W) (I:eW W B b s k n v xs) (hc:aD s k=47) (ho:(cw s k).2.2=40) :
  Calls Tryz.prog 147 #[.pointer (some ⟨b,0,none⟩)] W (gz B b s k n xs W):=by
 have hr:=kQ I.sc (Nat.le_of_lt I.more)
 have HI:=al I
 have hs:=I.size
 have hk:=I.more
 have hz:(s.extract k s.size).size=s.size-k:=by rw[ByteArray.size_extract];omega
 have yx:=DG (s:=s) (k:=k) (by omega) 47 47
 have l8:=DG (s:=s) (k:=k) (by omega) 47 42
 have J4:(47:UInt8).toNat=47:=rfl
 have Mo:(42:UInt8).toNat=42:=rfl
 rw[J4] at yx l8
 rw[Mo] at l8
 have vK:=al yx
 have fH:=al l8
 have HM:=al hM
 have Ho:=al ho
 have Hc:=al hc
 clear I yx l8 hM ho hc J4 Mo
 go_enter Tryz.func147,Tryz.ntmps147
 go_wp2_with fail
 refine hr.mono ?_
 rintro e w1 ⟨rfl,n1,rfl⟩
 clear hr
 have aX:Below W.heap.size W (W.drewN n1):=below_drewN (zE _ _) n1
 have J:=(ab HI).up aX
 have yS:=al aX
 have HJ:=al J
 have c1:=J.sc.c1
 have f1:=iC 1 J.sc
 clear aX J
 go_wp2_with fail
 refine (fP _ _ _).mono ?_
 rintro e w2 ⟨rfl,hw⟩
 obtain rfl:W.drewN n1=w2:=hw.symm
 clear hw
 by_cases q1:yP (s.extract k s.size) ⟨#[47,47]⟩
 ·rw[ES q1]
  obtain ⟨a1,a2,a3⟩:=(ab vK).1 q1
  have hi:=NQ (s:=s) (k:=k) (by omega)
  have aM:=sO hk a2
  have hle:=sP s k (by omega)
  have JO:=al (EW a1 a2 a3)
  clear a2 a3 q1
  obtain ⟨N,hN⟩:∃N,iF s k=N:=⟨_,rfl⟩
  rw[hN] at hi aM hle JO
  clear hN
  have Hi:=al hi
  clear hi
  go_wp2_with fail
  refine (fQ _ _ _).mono ?_
  rintro e w3 ⟨rfl,hw⟩
  obtain rfl:W.drewN n1=w3:=hw.symm
  clear hw
  have e10:(10:Int).toNat.toUInt8=(10:UInt8):=rfl
  rw[e10,ab Hi]
  clear e10 Hi
  by_cases Ka:N<s.size
  ·rw[if_pos Ka]
   obtain ⟨d,rfl⟩:∃d,N=k+d:=⟨N-k,by omega⟩
   have hd:k+d-k=d:=by omega
   rw[hd]
   clear hd
   go_wp2
   go_ret
   exact Ow (ab HI) (ab yS) (k+d) _ (by go_num) aM hle (ab JO)
  ·rw[if_neg Ka]
   obtain rfl:N=s.size:=by omega
   clear Ka
   have ek:(k:Int)+((s.size-k:Nat):Int)=(s.size:Int):=by omega
   go_wp2
   go_ret
   exact Ow (ab HI) (ab yS) s.size _ (by first|go_num|(congr 1;omega)) aM hle (ab JO)
 ·rw[B8 q1]
  go_wp2_with fail
  refine (fP _ _ _).mono ?_
  rintro e w3 ⟨rfl,hw⟩
  obtain rfl:W.drewN n1=w3:=hw.symm
  clear hw
  by_cases q2:yP (s.extract k s.size) ⟨#[47,42]⟩
  ·rw[ES q2]
   obtain ⟨a1,a2,a3⟩:=(ab fH).1 q2
   have hi:=Ij (s:=s) (k:=k+2) (by omega)
   have Lq:=hZ s (k+2)
   have XQ:=al (fun h=>EV a1 a2 a3 h)
   have XP:=al (fun h=>Ca a1 a2 a3 h)
   clear a2 a3 q1 q2
   obtain ⟨N,hN⟩:∃N,dv s (k+2)=N:=⟨_,rfl⟩
   rw[hN] at hi Lq XQ XP
   clear hN
   have Hi:=al hi
   clear hi
   have c8:(s.extract k s.size).extract 2 (s.size-k)=s.extract (k+2) s.size:=by
    apply ByteArray.ext
    apply Array.ext'
    rw[Lib.extract_data,Lib.extract_data,Lib.extract_data,List.drop_take,List.take_take,List.drop_drop]
    congr 1
    omega
   have z2:(2:Int)≤((s.size-k:Nat):Int):=by omega
   have da:(s.extract (k+2) s.size).size=s.size-(k+2):=by rw[ByteArray.size_extract];omega
   obtain ⟨_,mm,y'⟩:=ab HM
   have RY:(W.drewN n1).cell? ⟨1,0,none⟩=some (.int .i64 mm):=y'
   have Hmm:=al RY
   clear y' RY
   go_wp2_with fail
   refine (E7 _ _ _ mm (by omega) (ab Hmm)).mono ?_
   rintro e w3 ⟨rfl,hw⟩
   obtain rfl:W.drewN n1=w3:=hw.symm
   clear hw
   have e4:(⟨#[42,47]⟩:ByteArray).data.toList=[42,47]:=rfl
   rw[e4,ab Hi]
   clear e4 Hi
   by_cases Ka:N+2≤s.size
   ·rw[if_pos Ka]
    obtain ⟨d,rfl⟩:∃d,N=k+2+d:=⟨N-(k+2),by omega⟩
    have hd:k+2+d-(k+2)=d:=by omega
    rw[hd]
    clear hd
    go_wp2
    go_ret
    exact Ow (ab HI) (ab yS) (k+2+d+2) _ (by first|go_num|(congr 1;omega)) (by omega) Ka (ab XQ Ka)
   ·rw[if_neg Ka]
    have Hq:Hid (gz B b s k n xs W (.returned (.int .i64 43)) (W.drewN n1)):=⟨BX.of (ab yS) (ab HI).hi,.inr ⟨43,v,by decide,rfl,(ab HJ).sc,Gz (ab XP Ka)⟩⟩
    clear Ka XQ XP
    go_wp2
    go_ret
    exact ab Hq
  ·rw[B8 q2]
   have hp:bj s s.size k=(k,true):=wS hk (by rw[ab Hc];decide) (mt (ab vK).2 q1) (mt (ab fH).2 q2)
   have ht:=Dr (ab HJ) hp (ab Ho) (by decide) 0 0 40 rfl
   have Ht:=al ht
   clear ht hp q1 q2
   go_wp2_with fail
   refine (ab Ht).mono ?_
   intro e w hq
   obtain ⟨c,rfl⟩:=hq.ret
   have Hq:=al (hq.from (ab yS) (ab HI).hi)
   clear hq
   go_wp2
   go_ret
   exact ab Hq
def kc {α σ:Type} (q:α→σ→Option σ):List α→σ→Option σ
 |[],s=>some s
 |x::r,s=>match q x s with
  |some s'=>kc q r s'
  |none=>none
theorem FM {α σ:Type} (l:List α) (q:α→σ→Option σ) (p:Nat→σ→Option σ) (hp:∀i x s,l[i]?=some x→p i s=q x s):∀(n i:Nat) (s:σ),n=l.length-i→cA p n i s=kc q (l.drop i) s:=by
 intro n
 induction n with
 |zero =>
  intro i s h
  rw[List.drop_eq_nil_of_le (by omega)]
  rfl
 |succ n ih =>
  intro i s h
  have hi:i<l.length:=by omega
  rw[List.drop_eq_getElem_cons hi]
  unfold cA kc
  rw[hp i _ s (List.getElem?_eq_getElem hi)]
  cases hb:q l[i] s with
  |some s'=>exact ih (i+1) s' (by omega)
  |none=>rfl
theorem yO {α σ:Type}{l:List α}{q:α→σ→Option σ}{p:Nat→σ→Option σ} (hp:∀i x s,l[i]?=some x→p i s=q x s) {n:Nat} (hn:n=l.length) (s:σ):cA p n 0 s=kc q l s:=by
 rw[FM l q p hp n 0 s (by omega),List.drop_zero]
def yes (b:Bool) (_:Unit):Option Unit:=if b then some () else none
theorem xF (b:Bool) (u:Unit):(yes b u).isSome=b:=by cases b<;>rfl
theorem Bc {α:Type} (q:α→Bool):∀l:List α,(kc (fun x=>yes (q x)) l ()).isSome=l.all q
 |[]=>rfl
 |x::r=>by
  rw[List.all_cons]
  unfold kc yes
  cases q x with
  |true=>exact Bc q r
  |false=>rfl
theorem mY {α:Type}{l:List α}{q:α→Bool}{p:Nat→Unit→Option Unit} (hp:∀i x,l[i]?=some x→p i ()=yes (q x) ()) {n:Nat} (hn:n=l.length):(cA p n 0 ()).isSome=l.all q:=by
 rw[yO (q:=fun x=>yes (q x)) (fun i x _ h=>hp i x h) hn,Bc]
def Ug (_:Unit) (_:World):Prop:=True
theorem BS:Kc Ug:=fun _ _ _ _ _=>trivial
def MO (f:FuncId) (q:ByteArray→Bool):Prop:=∀(W:World) (s:ByteArray),Calls Tryz.prog f #[.string s] W fun e w=>e=.returned (.bool (q s))∧w=W
theorem GU {W:World}{l:List ByteArray}{f:FuncId}{q:ByteArray→Bool} (h:MO f q):eX false W.heap.size W none Ug ⟨f,#[],#[]⟩ (fun i=>(cc l).getD i undef) l.length (fun i=>yes (((l[i]?).map q).getD false)):=by
 intro i hi s w _ _
 have e1:(cc l).getD i undef=.string l[i]:=by
  rw[List.getD_eq_getElem?_getD,dT (List.getElem?_eq_getElem hi)]
  rfl
 have e2:((l[i]?).map q).getD false=q l[i]:=by rw[List.getElem?_eq_getElem hi];rfl
 simp only[e1,e2,xF,Bool.false_bne]
 show Calls Tryz.prog f #[.string l[i]] w _
 refine (h w l[i]).mono ?_
 rintro e w' ⟨rfl,rfl⟩
 exact ⟨rfl,fun _ _=>trivial,zI _ _⟩
theorem pz {W:World}{v:Value}{l:List ByteArray}{f:FuncId}{q:ByteArray→Bool} (hv:Rl W v l.length (cc l)) (dZ:∀vs w,(callFunc f vs).run Tryz.prog w=.ok (.enter f vs) w) (h:MO f q) (w0:World) (hw:Below W.heap.size W w0) :
  Calls Tryz.prog 36 #[v,.func (.func f) #[] #[]] w0 fun e w=>e=.returned (.bool (l.all q))∧Below w0.heap.size w0 w:=by
 have:=Ju hv (f:=⟨f,#[],#[]⟩) dZ (GU h) (fun _ e=>by cases e) (GN l) w0 () hw trivial BS (fun _ e=>by cases e)
 refine this.mono ?_
 rintro e w ⟨rfl,_,hg⟩
 rw[mY (l:=l) (q:=q) (fun i x hx=>by simp[hx]) rfl]
 exact ⟨rfl,hg.os,hg.tape,hg.output,hg.size,fun k hk=>hg.block k hk (by simp)⟩
noncomputable def dA (s:ByteArray):Bool:=decide (s.size≤255)&&(pieces s).all bD
theorem uy (s:ByteArray):(pieces s).length=Lib.countB s vj+1:=Lib.splitB_all vj (by decide) 0 _ s rfl
theorem Rr:(Tryz.prog.info? 9).map (fun i=>(i.zero,i.size,i.bytes))=some (some (.string ByteArray.empty),1,16):=by kernel_rfl
theorem EL {W:World} (hM:gX W) (s:ByteArray) (hs:s.size≤255):Calls Tryz.prog 63 #[.string s,.string vj] W fun e w=>∃c,e=.returned (.slice (some ⟨W.heap.size,0,none⟩) (pieces s).length c)∧w=W.alloc (.cells (cc (pieces s)).toArray 9):=by
 obtain ⟨_,m,hm⟩:=hM
 refine (Any.strings_Split Tryz.Co Rr s vj m W (by omega) hm (by decide)).mono ?_
 rintro e w ⟨rfl,rfl⟩
 rw[←uy]
 exact ⟨_,rfl,rfl⟩
theorem wV {W:World} (hM:gX W) (s:ByteArray):Calls Tryz.prog 34 #[.string s] W fun e w=>e=.returned (.bool (dA s))∧Below W.heap.size W w:=by
 by_cases hs:s.size≤255
 ·have e1:decide ((s.size:Int)≤255)=true:=decide_eq_true (by omega)
  have e2:dA s=(pieces s).all bD:=by unfold dA;rw[decide_eq_true hs,Bool.true_and]
  rw[e2]
  have HS:=al (EL hM s hs)
  have hl:(pieces s).length≤140737488355328:=by
   rw[uy]
   have:=Lib.countB_le vj (by decide) s.size s (zD _)
   omega
  have HA:Hid (∀c,Calls Tryz.prog 36 #[.slice (some ⟨W.heap.size,0,none⟩) (pieces s).length c,.func (.func 64) #[] #[]] (W.alloc (.cells (cc (pieces s)).toArray 9)) fun e w=>e=.returned (.bool ((pieces s).all bD))∧Below (W.alloc (.cells (cc (pieces s)).toArray 9)).heap.size (W.alloc (.cells (cc (pieces s)).toArray 9)) w):=by
   intro c
   refine pz ⟨_,c,rfl,hl,fun _=>⟨W.heap.size,0,rfl,by rw[zJ];omega,fun j x hx=>?_⟩⟩ (fun vs w=>by kernel_rfl) iz _ (zE _ _)
   rw[Nat.zero_add,cell_of_row _ _ _ _ _ _ (aJ W _)]
   simpa using hx
  have HB:=al (show Below W.heap.size W (W.alloc (.cells (cc (pieces s)).toArray 9)) from (zE _ _).alloc (zD _) _)
  obtain ⟨V,hV⟩:∃V,W.alloc (.cells (cc (pieces s)).toArray 9)=V:=⟨_,rfl⟩
  obtain ⟨b,hb⟩:∃b,(pieces s).all bD=b:=⟨_,rfl⟩
  obtain ⟨n,hn⟩:∃n,(pieces s).length=n:=⟨_,rfl⟩
  rw[hV] at HS HA HB
  rw[hb] at HA ⊢
  rw[hn] at HA HS
  clear hV hb hn hl e2 hM
  unfold vj at HS
  go_enter Tryz.func34,Tryz.ntmps34
  go_wp2_with fail
  refine (ab HS).mono ?_
  rintro e w ⟨c,rfl,rfl⟩
  clear HS
  go_wp2_with fail
  refine (ab HA c).mono ?_
  rintro e w1 ⟨rfl,aX⟩
  have cO:=al ((ab HB).trans (aX.mono (ab HB).size))
  clear HA HB aX
  go_wp2
  go_ret
  exact ⟨rfl,ab cO⟩
 ·have e1:decide ((s.size:Int)≤255)=false:=decide_eq_false (by omega)
  have e2:dA s=false:=by unfold dA;rw[decide_eq_false hs,Bool.false_and]
  rw[e2]
  clear hM
  go_enter Tryz.func34,Tryz.ntmps34
  go_wp2
  go_ret
  exact ⟨rfl,zE _ _⟩
end Go.Proofs.YtichhjfjcinjgaaGreatDoor
