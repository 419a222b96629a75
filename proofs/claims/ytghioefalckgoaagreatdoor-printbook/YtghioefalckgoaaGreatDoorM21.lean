import Derived.Test.YtghioefalckgoaaGreatDoorM20
set_option maxHeartbeats 1000000
set_option maxRecDepth 100000
namespace Go.Proofs.YtghioefalckgoaaGreatDoor
open Go.RowKit
attribute [local go_sem ↓] Go.wp_at_zero Go.wp_at_succ
theorem qD {s:ByteArray}{k j:Nat} (h:k+j<s.size):dv (s.extract k s.size) j=dv s (k+j):=by
 unfold dv
 rw[jI h,xQ,List.drop_drop]
theorem Ib {s:ByteArray}{q k:Nat} (hk:k≤s.size):∀(m j:Nat),s.size-(k+j)≤m→gy (s.extract k s.size) q j=(gy s q (k+j)).map fun r=>(r.1,r.2-k):=by
 have hz:(s.extract k s.size).size=s.size-k:=by rw[ByteArray.size_extract];omega
 intro m
 induction m with
 |zero=>intro j hj;rw[nx (by omega),nx (by omega)];rfl
 |succ m ih =>
  intro j hj
  by_cases hl:k+j<s.size
  ·by_cases hq:aF s (k+j)=q
   ·rw[od (by omega) ((jI hl).trans hq),od hl hq]
    show some (([]:List Nat),j+1)=some ([],k+j+1-k)
    congr 2
    omega
   ·have yN:¬aF (s.extract k s.size) j=q:=by rw[jI hl];exact hq
    cases hp:dv s (k+j) with
    |none=>rw[yf (by omega) yN ((qD hl).trans hp),yf hl hq hp];rfl
    |some t =>
     obtain ⟨b,n⟩:=t
     obtain ⟨p1,p2,p3⟩:=jW hp hl
     rw[tj (by omega) yN ((qD hl).trans hp),tj hl hq hp,ih (j+n) (by omega),Option.map_map,Option.map_map,show k+(j+n)=k+j+n by omega]
     rfl
  ·rw[nx (by omega),nx hl];rfl
theorem Ap {W:World}{B b:Nat}{s:ByteArray}{k n:Nat}{v:Value}{xs:List Value} (hE:ji W) (I:ej W B b s k n v xs) (hp:bo s s.size k=(k,true)) (hq:aF s k=39∨aF s k=34) (ho:fG s k=match gy s (aF s k) (k+1) with|none=>(0,0,42)|some (_,e)=>(3,e,0)) :
  Calls Tryz.prog 170 #[.pointer (some ⟨b,0,none⟩)] W (fF B b s k n xs W):=by
 have hr:=kK I.sc (Nat.le_of_lt I.more)
 have HI:=ak I
 have HE:=ak hE
 have hs:=I.size
 have hk:=I.more
 have hz:(s.extract k s.size).size=s.size-k:=by rw[ByteArray.size_extract];omega
 have hL:wI (s.extract k s.size)=(gy s (aF s k) (k+1)).map fun r=>(r.1,r.2-k):=by
  have bq:aF (s.extract k s.size) 0=aF s k:=jI (by omega)
  rw[xh (by omega) (by rw[bq];exact hq),bq]
  exact Ib (by omega) _ 1 (zD _)
 have HL:=ak hL
 have Hp:=ak hp
 have Ho:=ak ho
 clear I hp ho hE hq hL
 go_enter Tryz.func170,Tryz.ntmps170
 go_wp2_with fail
 refine hr.mono ?_
 rintro e w1 ⟨rfl,n1,rfl⟩
 clear hr
 have aY:Below W.heap.size W (W.drewN n1):=below_drewN (zE _ _) n1
 have hu:=Ac ((ab HE).up aY) (s.extract k s.size) (by omega)
 have xb:=ak aY
 clear aY
 go_wp2_with fail
 refine hu.mono ?_
 rintro e w2 ⟨b9,⟨h1,rfl⟩|⟨l,m,v',h1,rfl,hv⟩⟩
 ·have lv:Below W.heap.size W w2:=(ab xb).trans b9
  have hn:gy s (aF s k) (k+1)=none:=Option.map_eq_none_iff.1 ((ab HL).symm.trans h1)
  have ht:=DA ((ab HI).up lv) (ab Hp) (c:=42) (by rw[ab Ho,hn]) (by decide) 0 0 42 rfl
  have Ht:=ak ht
  have SK:=ak lv
  clear ht b9 lv hn h1 hu
  go_wp2_with fail
  refine (ab Ht).mono ?_
  intro e w hq
  obtain ⟨c,rfl⟩:=hq.ret
  have Hq:=ak (hq.from (ab SK) (ab HI).hi)
  clear hq
  go_wp2
  go_ret
  exact ab Hq
 ·have lv:Below W.heap.size W w2:=(ab xb).trans b9
  obtain ⟨⟨l',e'⟩,h2,h3⟩:=Option.map_eq_some_iff.1 ((ab HL).symm.trans h1)
  obtain ⟨rfl,rfl⟩:=Prod.mk.inj h3
  obtain ⟨u1,u2,_⟩:=OF _ (k+1) l' e' (zD _) h2
  obtain ⟨m,hm⟩:∃m,e'=k+m:=⟨e'-k,by omega⟩
  have O7:(l',e').2-k=m:=by show e'-k=m;omega
  rw[O7]
  have ht:=Dz ((ab HI).up lv) (ab Hp) (m:=m) (t:=3) (by rw[ab Ho,h2,hm]) 3 (m:Int) rfl rfl
  have Ht:=ak ht
  have SK:=ak lv
  have m0:((m:Int)==0)=false:=beq_eq_false_iff_ne.2 (by omega)
  obtain ⟨va,vn,vc,rfl⟩:=hv.shape
  clear ht b9 lv h1 h2 h3 hm O7 u1 u2 hu hv
  go_wp2_with fail
  refine (ab Ht).mono ?_
  intro e w hq
  obtain ⟨c,rfl⟩:=hq.ret
  have Hq:=ak (hq.from (ab SK) (ab HI).hi)
  clear hq
  go_wp2
  go_ret
  exact ab Hq
theorem Fk (W:World) (s sub:ByteArray) (m:Int) (hs:s.size<4294967281) (hm:W.cell? ⟨1,0,none⟩=some (.int .i64 m)) :
  Calls Tryz.prog 210 #[.string s,.string sub] W fun e w=>e=.returned (.int .i64 (Lib.index s.data.toList sub.data.toList))∧w=W:=Any.strings_Index Tryz.Fh s sub m W hs hm
def gj (W:World):Prop:=1<W.heap.size∧∃m:Int,W.cell? ⟨1,0,none⟩=some (.int .i64 m)
theorem gj.up {W w:World} (h:gj W) {B:Nat} (hb:Below B W w) (hB:1<B):gj w:=by
 obtain ⟨h1,m,h2⟩:=h
 exact ⟨Nat.lt_of_lt_of_le h1 hb.size,m,(hb.cell (p:=⟨1,0,none⟩) hB).trans h2⟩
theorem Rz {W:World}{B b:Nat}{s:ByteArray}{k n:Nat}{v:Value}{xs:List Value} (I:ej W B b s k n v xs) {W1:World} (hb:Below W.heap.size W W1) (k':Nat) (z:Value) (hz:z=.int .i64 (k':Int)) (h1:k<k') (h2:k'≤s.size) (hp:bo s s.size k=bo s s.size k'):fF B b s k n xs W (.returned (.int .i64 0)) (W1.setCell ⟨b,1,none⟩ z):=by
 subst hz
 have J:=I.up hb
 refine ⟨(BX.of hb I.hi).set _ _,.inl ⟨rfl,k',[],v,J.sc.at _,?_,h1,h2,I.room,?_⟩⟩
 ·show World.ownsRow _ B 154 3 v n (xs++[])
  rw[List.append_nil]
  obtain ⟨h1,⟨rfl,h0⟩|⟨g,c,cur,rfl,h2,h3,h4⟩⟩:=J.row
  ·exact ⟨h1,.inl ⟨rfl,h0⟩⟩
  ·refine ⟨h1,.inr ⟨g,c,cur,rfl,h2,(heap_setCell_other _ ⟨b,1,none⟩ g _ ?_).trans h3,h4⟩⟩
   have:=I.lo
   show ¬g=b
   omega
 ·rw[nP]
  exact Dx n hp
theorem wJ {W:World}{B b:Nat}{s:ByteArray}{k n:Nat}{v:Value}{xs:List Value} (hM:gj W) (I:ej W B b s k n v xs) (hc:aF s k=47) (ho:(fG s k).2.2=40) :
  Calls Tryz.prog 173 #[.pointer (some ⟨b,0,none⟩)] W (fF B b s k n xs W):=by
 have hr:=kK I.sc (Nat.le_of_lt I.more)
 have HI:=ak I
 have hs:=I.size
 have hk:=I.more
 have hz:(s.extract k s.size).size=s.size-k:=by rw[ByteArray.size_extract];omega
 have Nz:=DQ (s:=s) (k:=k) (by omega) 47 47
 have LD:=DQ (s:=s) (k:=k) (by omega) 47 42
 have XI:(47:UInt8).toNat=47:=rfl
 have n42:(42:UInt8).toNat=42:=rfl
 rw[XI] at Nz LD
 rw[n42] at LD
 have BD:=ak Nz
 have gH:=ak LD
 have HM:=ak hM
 have Ho:=ak ho
 have Hc:=ak hc
 clear I Nz LD hM ho hc XI n42
 go_enter Tryz.func173,Tryz.ntmps173
 go_wp2_with fail
 refine hr.mono ?_
 rintro e w1 ⟨rfl,n1,rfl⟩
 clear hr
 have aY:Below W.heap.size W (W.drewN n1):=below_drewN (zE _ _) n1
 have J:=(ab HI).up aY
 have xb:=ak aY
 have HJ:=ak J
 have c1:=J.sc.c1
 have f1:=gP 1 J.sc
 clear aY J
 go_wp2_with fail
 refine (fb _ _ _).mono ?_
 rintro e w2 ⟨rfl,hw⟩
 obtain rfl:W.drewN n1=w2:=hw.symm
 clear hw
 by_cases q1:zu (s.extract k s.size) ⟨#[47,47]⟩
 ·rw[E3 q1]
  obtain ⟨a1,a2,a3⟩:=(ab BD).1 q1
  have hi:=QG (s:=s) (k:=k) (by omega)
  have aU:=yB hk a2
  have hle:=yC s k (by omega)
  have Lc:=ak (E7 a1 a2 a3)
  clear a2 a3 q1
  obtain ⟨N,hN⟩:∃N,kq s k=N:=⟨_,rfl⟩
  rw[hN] at hi aU hle Lc
  clear hN
  have Hi:=ak hi
  clear hi
  go_wp2_with fail
  refine (fc _ _ _).mono ?_
  rintro e w3 ⟨rfl,hw⟩
  obtain rfl:W.drewN n1=w3:=hw.symm
  clear hw
  have e10:(10:Int).toNat.toUInt8=(10:UInt8):=rfl
  rw[e10,ab Hi]
  clear e10 Hi
  by_cases LF:N<s.size
  ·rw[if_pos LF]
   obtain ⟨d,rfl⟩:∃d,N=k+d:=⟨N-k,by omega⟩
   have hd:k+d-k=d:=by omega
   rw[hd]
   clear hd
   go_wp2
   go_ret
   exact Rz (ab HI) (ab xb) (k+d) _ (by go_num) aU hle (ab Lc)
  ·rw[if_neg LF]
   obtain rfl:N=s.size:=by omega
   clear LF
   have ek:(k:Int)+((s.size-k:Nat):Int)=(s.size:Int):=by omega
   go_wp2
   go_ret
   exact Rz (ab HI) (ab xb) s.size _ (by first|go_num|(congr 1;omega)) aU hle (ab Lc)
 ·rw[Cr q1]
  go_wp2_with fail
  refine (fb _ _ _).mono ?_
  rintro e w3 ⟨rfl,hw⟩
  obtain rfl:W.drewN n1=w3:=hw.symm
  clear hw
  by_cases q2:zu (s.extract k s.size) ⟨#[47,42]⟩
  ·rw[E3 q2]
   obtain ⟨a1,a2,a3⟩:=(ab gH).1 q2
   have hi:=Jv (s:=s) (k:=k+2) (by omega)
   have GN:=jk s (k+2)
   have Hp1:=ak (fun h=>E6 a1 a2 a3 h)
   have Hp2:=ak (fun h=>Cs a1 a2 a3 h)
   clear a2 a3 q1 q2
   obtain ⟨N,hN⟩:∃N,dc s (k+2)=N:=⟨_,rfl⟩
   rw[hN] at hi GN Hp1 Hp2
   clear hN
   have Hi:=ak hi
   clear hi
   have dr:(s.extract k s.size).extract 2 (s.size-k)=s.extract (k+2) s.size:=by
    apply ByteArray.ext
    apply Array.ext'
    rw[Lib.extract_data,Lib.extract_data,Lib.extract_data,List.drop_take,List.take_take,List.drop_drop]
    congr 1
    omega
   have z2:(2:Int)≤((s.size-k:Nat):Int):=by omega
   have fJ:(s.extract (k+2) s.size).size=s.size-(k+2):=by rw[ByteArray.size_extract];omega
   obtain ⟨_,mm,ma⟩:=ab HM
   have Vj:(W.drewN n1).cell? ⟨1,0,none⟩=some (.int .i64 mm):=ma
   have Yw:=ak Vj
   clear ma Vj
   go_wp2_with fail
   refine (Fk _ _ _ mm (by omega) (ab Yw)).mono ?_
   rintro e w3 ⟨rfl,hw⟩
   obtain rfl:W.drewN n1=w3:=hw.symm
   clear hw
   have e4:(⟨#[42,47]⟩:ByteArray).data.toList=[42,47]:=rfl
   rw[e4,ab Hi]
   clear e4 Hi
   by_cases LF:N+2≤s.size
   ·rw[if_pos LF]
    obtain ⟨d,rfl⟩:∃d,N=k+2+d:=⟨N-(k+2),by omega⟩
    have hd:k+2+d-(k+2)=d:=by omega
    rw[hd]
    clear hd
    go_wp2
    go_ret
    exact Rz (ab HI) (ab xb) (k+2+d+2) _ (by first|go_num|(congr 1;omega)) (by omega) LF (ab Hp1 LF)
   ·rw[if_neg LF]
    have Hq:Hid (fF B b s k n xs W (.returned (.int .i64 43)) (W.drewN n1)):=⟨BX.of (ab xb) (ab HI).hi,.inr ⟨43,v,by decide,rfl,(ab HJ).sc,Ij (ab Hp2 LF)⟩⟩
    clear LF Hp1 Hp2
    go_wp2
    go_ret
    exact ab Hq
  ·rw[Cr q2]
   have hp:bo s s.size k=(k,true):=xA hk (by rw[ab Hc];decide) (mt (ab BD).2 q1) (mt (ab gH).2 q2)
   have ht:=DA (ab HJ) hp (ab Ho) (by decide) 0 0 40 rfl
   have Ht:=ak ht
   clear ht hp q1 q2
   go_wp2_with fail
   refine (ab Ht).mono ?_
   intro e w hq
   obtain ⟨c,rfl⟩:=hq.ret
   have Hq:=ak (hq.from (ab xb) (ab HI).hi)
   clear hq
   go_wp2
   go_ret
   exact ab Hq
def gi {α σ:Type} (q:α→σ→Option σ):List α→σ→Option σ
 |[],s=>some s
 |x::r,s=>match q x s with
  |some s'=>gi q r s'
  |none=>none
theorem Gk {α σ:Type} (l:List α) (q:α→σ→Option σ) (p:Nat→σ→Option σ) (hp:∀i x s,l[i]?=some x→p i s=q x s):∀(n i:Nat) (s:σ),n=l.length-i→bO p n i s=gi q (l.drop i) s:=by
 intro n
 induction n with
 |zero =>
  intro i s h
  rw[List.drop_eq_nil_of_le (by omega)]
  rfl
 |succ n ih =>
  intro i s h
  have hi:i<l.length:=by omega
  rw[List.drop_eq_getElem_cons hi]
  unfold bO gi
  rw[hp i _ s (List.getElem?_eq_getElem hi)]
  cases hb:q l[i] s with
  |some s'=>exact ih (i+1) s' (by omega)
  |none=>rfl
theorem zt {α σ:Type}{l:List α}{q:α→σ→Option σ}{p:Nat→σ→Option σ} (hp:∀i x s,l[i]?=some x→p i s=q x s) {n:Nat} (hn:n=l.length) (s:σ):bO p n 0 s=gi q l s:=by
 rw[Gk l q p hp n 0 s (by omega),List.drop_zero]
def yes (b:Bool) (_:Unit):Option Unit:=if b then some () else none
theorem ya (b:Bool) (u:Unit):(yes b u).isSome=b:=by cases b<;>rfl
theorem Bx {α:Type} (q:α→Bool):∀l:List α,(gi (fun x=>yes (q x)) l ()).isSome=l.all q
 |[]=>rfl
 |x::r=>by
  rw[List.all_cons]
  unfold gi yes
  cases q x with
  |true=>exact Bx q r
  |false=>rfl
theorem mM {α:Type}{l:List α}{q:α→Bool}{p:Nat→Unit→Option Unit} (hp:∀i x,l[i]?=some x→p i ()=yes (q x) ()) {n:Nat} (hn:n=l.length):(bO p n 0 ()).isSome=l.all q:=by
 rw[zt (q:=fun x=>yes (q x)) (fun i x _ h=>hp i x h) hn,Bx]
def Yn (_:Unit) (_:World):Prop:=True
theorem Cf:LI Yn:=fun _ _ _ _ _=>trivial
def Px (f:FuncId) (q:ByteArray→Bool):Prop:=∀(W:World) (s:ByteArray),Calls Tryz.prog f #[.string s] W fun e w=>e=.returned (.bool (q s))∧w=W
theorem IH {W:World}{l:List ByteArray}{f:FuncId}{q:ByteArray→Bool} (h:Px f q):eo false W.heap.size W none Yn ⟨f,#[],#[]⟩ (fun i=>(bj l).getD i undef) l.length (fun i=>yes (((l[i]?).map q).getD false)):=by
 intro i hi s w _ _
 have e1:(bj l).getD i undef=.string l[i]:=by
  rw[List.getD_eq_getElem?_getD,gJ (List.getElem?_eq_getElem hi)]
  rfl
 have e2:((l[i]?).map q).getD false=q l[i]:=by rw[List.getElem?_eq_getElem hi];rfl
 simp only[e1,e2,ya,Bool.false_bne]
 show Calls Tryz.prog f #[.string l[i]] w _
 refine (h w l[i]).mono ?_
 rintro e w' ⟨rfl,rfl⟩
 exact ⟨rfl,fun _ _=>trivial,zI _ _⟩
theorem po {W:World}{v:Value}{l:List ByteArray}{f:FuncId}{q:ByteArray→Bool} (hv:Rl W v l.length (bj l)) (db:∀vs w,(callFunc f vs).run Tryz.prog w=.ok (.enter f vs) w) (h:Px f q) (w0:World) (hw:Below W.heap.size W w0) :
  Calls Tryz.prog 53 #[v,.func (.func f) #[] #[]] w0 fun e w=>e=.returned (.bool (l.all q))∧Below w0.heap.size w0 w:=by
 have:=KO hv (f:=⟨f,#[],#[]⟩) db (IH h) (fun _ e=>by cases e) (Ix l) w0 () hw trivial Cf (fun _ e=>by cases e)
 refine this.mono ?_
 rintro e w ⟨rfl,_,hg⟩
 rw[mM (l:=l) (q:=q) (fun i x hx=>by simp[hx]) rfl]
 exact ⟨rfl,hg.os,hg.tape,hg.output,hg.size,fun k hk=>hg.block k hk (by simp)⟩
noncomputable def fj (s:ByteArray):Bool:=decide (s.size≤255)&&(pieces s).all dG
theorem uP (s:ByteArray):(pieces s).length=Lib.countB s Bq+1:=Lib.splitB_all Bq (by decide) 0 _ s rfl
theorem UR:(Tryz.prog.info? 9).map (fun i=>(i.zero,i.size,i.bytes))=some (some (.string ByteArray.empty),1,16):=by kernel_rfl
theorem EY {W:World} (hM:gj W) (s:ByteArray) (hs:s.size≤255):Calls Tryz.prog 82 #[.string s,.string Bq] W fun e w=>∃c,e=.returned (.slice (some ⟨W.heap.size,0,none⟩) (pieces s).length c)∧w=W.alloc (.cells (bj (pieces s)).toArray 9):=by
 obtain ⟨_,m,hm⟩:=hM
 refine (Any.strings_Split Tryz.CB UR s Bq m W (by omega) hm (by decide)).mono ?_
 rintro e w ⟨rfl,rfl⟩
 rw[←uP]
 exact ⟨_,rfl,rfl⟩
theorem xB {W:World} (hM:gj W) (s:ByteArray):Calls Tryz.prog 51 #[.string s] W fun e w=>e=.returned (.bool (fj s))∧Below W.heap.size W w:=by
 by_cases hs:s.size≤255
 ·have e1:decide ((s.size:Int)≤255)=true:=decide_eq_true (by omega)
  have e2:fj s=(pieces s).all dG:=by unfold fj;rw[decide_eq_true hs,Bool.true_and]
  rw[e2]
  have HS:=ak (EY hM s hs)
  have hl:(pieces s).length≤140737488355328:=by
   rw[uP]
   have:=Lib.countB_le Bq (by decide) s.size s (zD _)
   omega
  have HA:Hid (∀c,Calls Tryz.prog 53 #[.slice (some ⟨W.heap.size,0,none⟩) (pieces s).length c,.func (.func 83) #[] #[]] (W.alloc (.cells (bj (pieces s)).toArray 9)) fun e w=>e=.returned (.bool ((pieces s).all dG))∧Below (W.alloc (.cells (bj (pieces s)).toArray 9)).heap.size (W.alloc (.cells (bj (pieces s)).toArray 9)) w):=by
   intro c
   refine po ⟨_,c,rfl,hl,fun _=>⟨W.heap.size,0,rfl,by rw[zJ];omega,fun j x hx=>?_⟩⟩ (fun vs w=>by kernel_rfl) gN _ (zE _ _)
   rw[Nat.zero_add,cell_of_row _ _ _ _ _ _ (aE W _)]
   simpa using hx
  have HB:=ak (show Below W.heap.size W (W.alloc (.cells (bj (pieces s)).toArray 9)) from (zE _ _).alloc (zD _) _)
  obtain ⟨V,hV⟩:∃V,W.alloc (.cells (bj (pieces s)).toArray 9)=V:=⟨_,rfl⟩
  obtain ⟨b,hb⟩:∃b,(pieces s).all dG=b:=⟨_,rfl⟩
  obtain ⟨n,hn⟩:∃n,(pieces s).length=n:=⟨_,rfl⟩
  rw[hV] at HS HA HB
  rw[hb] at HA ⊢
  rw[hn] at HA HS
  clear hV hb hn hl e2 hM
  unfold Bq at HS
  go_enter Tryz.func51,Tryz.ntmps51
  go_wp2_with fail
  refine (ab HS).mono ?_
  rintro e w ⟨c,rfl,rfl⟩
  clear HS
  go_wp2_with fail
  refine (ab HA c).mono ?_
  rintro e w1 ⟨rfl,aY⟩
  have ei:=ak ((ab HB).trans (aY.mono (ab HB).size))
  clear HA HB aY
  go_wp2
  go_ret
  exact ⟨rfl,ab ei⟩
 ·have e1:decide ((s.size:Int)≤255)=false:=decide_eq_false (by omega)
  have e2:fj s=false:=by unfold fj;rw[decide_eq_false hs,Bool.false_and]
  rw[e2]
  clear hM
  go_enter Tryz.func51,Tryz.ntmps51
  go_wp2
  go_ret
  exact ⟨rfl,zE _ _⟩
end Go.Proofs.YtghioefalckgoaaGreatDoor
