import Derived.Test.YtmlphohdcejniaaGreatDoorVN
import Derived.Test.YtmlphohdcejniaaGreatDoorVD
import Derived.Lib.LaidTab
import Derived.Lib.AppendIntMem
set_option maxHeartbeats 4000000
set_option maxRecDepth 100000
namespace Go.Proofs.YtmlphohdcejniaaGreatDoor
open Go.RowKit Go.Shelf
attribute [local go_sem ↓] Go.wp_at_zero Go.wp_at_succ
def Wr (b:Nat) (r:Option Nat) (vs:Value) (ps:List (Wd×List Nat)) (D:Nat) (W:World) (K:Nat) (P:List Wd→Nat→Prop) (e:Ending) (w:World):Prop :=
 e=.returned (.tuple #[])∧∃r' qZ c,P (qZ.map Prod.fst) c∧qZ.length≤K∧mV b r' vs (ps++qZ) (D+c) w∧KW b r W w r'
theorem jY {W:World}{b:Nat}{r:Option Nat}{vs:Value}{ps:List (Wd×List Nat)}{D:Nat} (h:mV b r vs ps D W) (ws:List Wd) (hw:∀w ∈ ws,KQ w) (hl:ws.length≤3) (hn:ps.length≤1099511627776) (cs:Array Value) (cB:cs=(bW (ws.map Prod.snd)).toArray) (n:Nat) (kK:n=ws.length) :
  Calls Tryz.prog 18 #[.pointer (some ⟨b,0,none⟩),.slice (some ⟨W.heap.size,0,none⟩) n n] (W.alloc (.cells cs 9)) (Wr b r vs ps D W 3 fun t c=>t=ws∧c=0):=by
 subst cB kK
 have hb:Below W.heap.size W (W.alloc (.cells (bW (ws.map Prod.snd)).toArray 9)):=(zE _ _).alloc (zD _) _
 refine (CI (h.up hb) ws hw (by omega) hn (aC _ _) ⟨by have:=h.lt;omega,fun e=>by have:=(h.row _ e).2;omega⟩).mono ?_
 rintro e w ⟨rfl,r',qZ,h1,h2,h3⟩
 refine ⟨rfl,r',qZ,0,⟨h1,rfl⟩,?_,h2,(KW.dX hb).trans h3⟩
 have:=congrArg List.length h1
 rw[List.length_map] at this
 omega
theorem fV (c:UInt8) (h:jl c.toNat):KQ (sg c):=.inr (.inr (.inr ⟨rfl,c,rfl,h⟩))
theorem IV {W:World}{b:Nat}{r:Option Nat}{vs:Value}{ps:List (Wd×List Nat)}{D:Nat} (h:mV b r vs ps D W) (hn:ps.length≤1099511627770) :
  Calls Tryz.prog 21 #[.pointer (some ⟨b,0,none⟩)] W (Wr b r vs ps D W 6 fun t c=>(t=[sg 59]∨t=[sg 59,sg 59])∧c=0):=by
 have HP:=aj (jY h [sg 59] (fun w hw=>by rw[List.mem_singleton.1 hw];exact fV 59 (by decide)) (by decide) (by omega) #[.string ⟨#[59]⟩] rfl 1 rfl)
 have Hn:=aj hn
 clear hn h
 go_enter Tryz.func21,Tryz.ntmps21
 go_wp2_with fail
 refine (aa HP).mono ?_
 rintro e w1 ⟨rfl,r1,p1,c1,⟨ht,rfl⟩,DS,UG,rU⟩
 have HI:=aj UG
 have HK:=aj rU
 have HT:=aj ht
 have Hl1:=aj DS
 obtain ⟨N,hN⟩:∃N,(ps++p1).length=N:=⟨_,rfl⟩
 have gJ:w1.cell? ⟨b,2,none⟩=some (.int .i64 (N:Int)):=by
  obtain ⟨v0,_,k0,_⟩:=UG.dJ
  rw[hN] at k0
  exact cell_of_row _ _ _ _ _ _ k0
 have HN:=aj hN
 obtain ⟨m,hm⟩:∃m,N % 5=m:=⟨_,rfl⟩
 have aa1:(N:Int).tmod 5=(m:Int):=by rw[←hm];rfl
 clear HP UG rU ht hN DS hm
 by_cases h1:m=1
 ·subst h1
  have GC:=aj (jY (aa HI) [sg 59] (fun w hw=>by rw[List.mem_singleton.1 hw];exact fV 59 (by decide)) (by decide) (by rw[zK];have:=aa Hn;have:=aa Hl1;omega) #[.string ⟨#[59]⟩] rfl 1 rfl)
  go_wp2_with fail
  refine (aa GC).mono ?_
  rintro e w2 ⟨rfl,r2,p2,c2,⟨xL,rfl⟩,yL,qz,iq⟩
  have oO:=aj qz
  have V7:=aj ((aa HK).trans iq)
  clear qz iq GC
  go_wp2
  go_end0
  refine ⟨rfl,r2,p1++p2,0,⟨.inr ?_,rfl⟩,by rw[zK];have:=aa Hl1;omega,?_,aa V7⟩
  ·rw[List.map_append,aa HT,xL]
   rfl
  ·rw[←List.append_assoc]
   exact aa oO
 ·have e1:((m:Int)==1)=false:=by simp;omega
  go_wp2
  go_end0
  exact ⟨rfl,r1,p1,0,⟨.inl (aa HT),rfl⟩,by have:=aa Hl1;omega,aa HI,aa HK⟩
def oN (W:World):Prop:=Lib.TabIs Tryz.prog W "internal/strconv.uint64pow10" .u64 Lib.pow10Tab
theorem oN.up {W w:World} (h:oN W) (hb:Below W.heap.size W w):oN w:=by
 unfold oN Lib.TabIs World.var? at h ⊢
 obtain ⟨g,hg,hm⟩:=Option.bind_eq_some_iff.1 h
 rw[hg]
 show (match w.heap[g]? with
  |some (.cells cs _ _)=>some cs
  |_=>none)=_
 have cw:g<W.heap.size:=by
  rcases Nat.lt_or_ge g W.heap.size with q|q
  ·exact q
  ·rw[Array.getElem?_eq_none q] at hm
   cases hm
 rw[hb.block g cw]
 exact hm
theorem l0 {W:World} (h:oN W) (u:Nat) (hu:u≤2147483648):Calls Tryz.prog 41 #[.int .i64 (u:Int)] W fun e w'=>e=.returned (.string (dec u))∧Below W.heap.size W w':=by
 refine (Any.strconv_Itoa Tryz.JP (u:Int) (by omega) (by omega) W h).mono ?_
 rintro e w' ⟨rfl,k,os,rfl⟩
 refine ⟨?_,Lib.below_grow _ W (zD _) k os⟩
 unfold dec Lib.itoa
 rw[if_neg (by omega),Int.toNat_natCast]
theorem su {u:Nat} (hu:u≤2147483648):KQ (2,dec u):=.inr (.inl ⟨rfl,u,hu,rfl⟩)
theorem CK {W:World}{b:Nat}{r:Option Nat}{vs:Value}{ps:List (Wd×List Nat)}{D:Nat} (h:mV b r vs ps D W) (hP:oN W) (hn:ps.length≤1099511627770) {n:Int} (h1:-2147483648≤n) (h2:n≤2147483647) :
  Calls Tryz.prog 43 #[.pointer (some ⟨b,0,none⟩),.int .i64 n] W (Wr b r vs ps D W 3 fun t c=>t=dO n∧c=0):=by
 have HI:=aj h
 have Hn:=aj hn
 by_cases Na:n<0
 ·obtain ⟨u,hu⟩:∃u:Nat,n.natAbs=u:=⟨_,rfl⟩
  have hnu:0-n=(u:Int):=by omega
  have HD:=aj (l0 hP u (by omega))
  have HU:=aj (show u≤2147483648 by omega)
  have hub:u≤2147483648:=by omega
  have u0:(0:Int)≤(u:Int):=zH _
  have e1:decide (n<0)=true:=by simp;omega
  have Ht:Hid (dO n=[sg 45,(2,dec u)]):=by
   show dO n=_
   unfold dO
   rw[if_pos Na,hu]
  clear h hP hn hu Na h1 h2
  go_enter Tryz.func43,Tryz.ntmps43
  go_wp2_with fail
  refine (aa HD).mono ?_
  rintro e w1 ⟨rfl,bF⟩
  have qU:=aj ((aa HI).up bF)
  have Xf:Hid (KW b r W w1 r):=.dX bF
  clear HD bF
  go_wp2_with fail
  refine (jY (aa qU) [sg 45,(2,dec u)] (fun w hw=>by
   rcases List.mem_cons.1 hw with rfl|hw
   ·exact fV 45 (by decide)
   ·rw[List.mem_singleton.1 hw];exact su (aa HU)) (by simp) (by have:=aa Hn;omega) #[.string ⟨#[45]⟩,.string (dec u)] rfl 2 rfl).mono ?_
  rintro e w2 ⟨rfl,r2,p2,c2,⟨xL,rfl⟩,yL,qz,iq⟩
  have oO:=aj qz
  have V7:=aj ((aa Xf).trans iq)
  clear qz iq
  go_wp2
  go_end0
  exact ⟨rfl,r2,p2,0,⟨xL.trans (aa Ht).symm,rfl⟩,yL,aa oO,aa V7⟩
 ·obtain ⟨u,rfl⟩:∃u:Nat,n=(u:Int):=⟨n.toNat,by omega⟩
  have HD:=aj (l0 hP u (by omega))
  have HU:=aj (show u≤2147483648 by omega)
  have Ht:Hid (dO (u:Int)=[(2,dec u)]):=by
   show dO (u:Int)=_
   unfold dO
   rw[if_neg Na]
   rfl
  have u0:(0:Int)≤(u:Int):=zH _
  clear h hP hn Na h1 h2
  go_enter Tryz.func43,Tryz.ntmps43
  go_wp2_with fail
  refine (aa HD).mono ?_
  rintro e w1 ⟨rfl,bF⟩
  have qU:=aj ((aa HI).up bF)
  have Xf:Hid (KW b r W w1 r):=.dX bF
  clear HD bF
  go_wp2_with fail
  refine (jY (aa qU) [(2,dec u)] (fun w hw=>by
   rw[List.mem_singleton.1 hw];exact su (aa HU)) (by simp) (by have:=aa Hn;omega) #[.string (dec u)] rfl 1 rfl).mono ?_
  rintro e w2 ⟨rfl,r2,p2,c2,⟨xL,rfl⟩,yL,qz,iq⟩
  have oO:=aj qz
  have V7:=aj ((aa Xf).trans iq)
  clear qz iq
  go_wp2
  go_end0
  exact ⟨rfl,r2,p2,0,⟨xL.trans (aa Ht).symm,rfl⟩,yL,aa oO,aa V7⟩
theorem Xx {c:UInt8} (h:isLet c.toNat∨bZ c.toNat):c≠46:=by
 intro e
 subst e
 unfold isLet bZ at h
 revert h
 decide
theorem Bn {x:ByteArray} (h:aR x):∀c ∈ x.data.toList,c≠46:=fun c hc=>Xx (nX h c.toNat (List.mem_map.2 ⟨c,hc,rfl⟩))
theorem JS {a b:List UInt8} (h:∀c ∈ a,c≠46):Lib.index (a++46::b) [46]=(a.length:Int):=by
 rw[Lib.index_one]
 have pS:(a++46::b)[a.length]?=some (46:UInt8):=by rw[List.getElem?_append_right (zD _),Nat.sub_self];rfl
 obtain ⟨z,hz⟩:∃z,Lib.indexByte (a++46::b) 46=z:=⟨_,rfl⟩
 have QW:=Lib.indexByte_ge (a++46::b) 46
 rw[hz] at QW ⊢
 by_cases h1:z=-1
 ·rw[h1] at hz
  exact absurd pS (Lib.indexByte_none hz _)
 ·obtain ⟨o,rfl⟩:∃o:Nat,z=(o:Int):=⟨z.toNat,by omega⟩
  obtain ⟨k1,k2⟩:=Lib.indexByte_some hz
  have h2:¬o<a.length:=fun q=>by
   rw[List.getElem?_append_left q] at k1
   exact h _ (List.mem_of_getElem? k1) rfl
  have h3:¬a.length<o:=fun q=>k2 _ q pS
  omega
theorem sG:∀(r:List ByteArray) (x:ByteArray),aR x→(∀y ∈ r,aR y)→Lib.splitK [46] 0 r.length (x.data.toList++eX r)=x.data.toList::r.map (·.data.toList)
 |[],x,hx,_=>by simp[Lib.splitK,eX]
 |y::r,x,hx,hr=>by
  have hi:=JS (b:=y.data.toList++eX r) (Bn hx)
  show Lib.splitK [46] 0 (r.length+1) (x.data.toList++(46::(y.data.toList++eX r)))=_
  rw[Lib.splitK,hi,if_neg (by simp)]
  have ih:=sG r y (hr y List.mem_cons_self) (fun z hz=>hr z (zF _ hz))
  rw[Int.toNat_natCast,Nat.add_zero,List.take_left',List.length_singleton,List.map_cons,←ih]
  ·congr 2
   rw[←List.drop_drop,List.drop_left']
   ·rfl
   ·rfl
  ·rfl
theorem sV:∀(r:List ByteArray) (x:ByteArray),aR x→(∀y ∈ r,aR y)→(x.data.toList++eX r).count 46=r.length
 |[],x,hx,_=>by
  rw[eX,List.append_nil]
  exact List.count_eq_zero.2 (fun h=>Bn hx _ h rfl)
 |y::r,x,hx,hr=>by
  rw[List.count_append,show (x.data.toList).count 46=0 from List.count_eq_zero.2 (fun h=>Bn hx _ h rfl)]
  show 0+(46::(y.data.toList++eX r)).count 46=r.length+1
  rw[List.count_cons_self,sV r y (hr y List.mem_cons_self) (fun z hz=>hr z (zF _ hz))]
  omega
theorem data_inj:∀(a b:List ByteArray),a.map (·.data.toList)=b.map (·.data.toList)→a=b
 |[],[],_=>rfl
 |[],_::_,h=>by cases h
 |_::_,[],h=>by cases h
 |x::a,y::b,h=>by
  rw[List.map_cons,List.map_cons] at h
  obtain ⟨h1,h2⟩:=List.cons.inj h
  rw[data_inj a b h2]
  obtain ⟨⟨x⟩⟩:=x
  obtain ⟨⟨y⟩⟩:=y
  simp only at h1
  rw[h1]
theorem Fq {x:ByteArray}{r:List ByteArray} (hx:aR x) (hr:∀y ∈ r,aR y):pieces (jB (x::r))=x::r:=by
 have hd:=Lib.splitB_data tv 0 (Lib.countB (jB (x::r)) tv) (jB (x::r))
 have hc:Lib.countB (jB (x::r)) tv=r.length:=by
  show Lib.count (x.data.toList++eX r) [46]=_
  rw[Lib.count_one,sV r x hx hr]
 unfold pieces
 rw[hc] at hd ⊢
 have h2:(Lib.splitB tv 0 r.length (jB (x::r))).map (·.data.toList)=(x::r).map (·.data.toList):=hd.trans (sG r x hx hr)
 exact data_inj _ _ h2
theorem p8 (x:ByteArray) (r:List ByteArray):(iu (x::r)).extract 1 (iu (x::r)).size=jB (x::r)∧(iu (x::r)).size=(jB (x::r)).size+1:=by
 have hs:(iu (x::r)).size=(jB (x::r)).size+1:=rfl
 refine ⟨?_,hs⟩
 apply qd
 rw[bc,hs]
 have e1:(aH (iu (x::r))).drop 1=aH (jB (x::r)):=rfl
 rw[e1,Nat.add_sub_cancel,←bk,List.take_length]
def B7 (s:ByteArray):Bool:=(s.extract 0 1).toList==[46]
theorem wU (W:World) (s:ByteArray) (hs:1≤s.size) (FN:s.size≤1048576):Calls Tryz.prog 56 #[.string s,.string ⟨#[46]⟩] W fun e w=>e=.returned (.bool (B7 s))∧w=W:=by
 have d1:decide ((1:Int)≤(s.size:Int))=true:=by simp;omega
 have d2:(1:Int)≤(s.size:Int):=by omega
 go_enter Tryz.func56,Tryz.ntmps56
 go_wp2
 go_ret
 exact ⟨rfl,rfl⟩
theorem FW (W:World) (s:ByteArray) (hs:1≤s.size) (FN:s.size≤1048576):Calls Tryz.prog 40 #[.string s,.string ⟨#[46]⟩] W fun e w=>e=.returned (.bool (B7 s))∧w=W:=by
 have HS:=aj (wU W s hs FN)
 clear hs FN
 go_enter Tryz.func40,Tryz.ntmps40
 go_wp2_with fail
 refine (aa HS).mono ?_
 rintro e w ⟨rfl,hw⟩
 obtain rfl:W=w:=hw.symm
 clear HS hw
 go_wp2
 go_ret
 exact ⟨rfl,rfl⟩
theorem pq (s:ByteArray):s.toList=s.data.toList:=by
 obtain ⟨⟨l⟩⟩:=s
 exact Go.ByteArray.toList_mk l
theorem AB (s:ByteArray):(s.extract 0 1).toList=s.data.toList.take 1:=by rw[pq,Lib.extract_from_zero]
theorem RF (x:ByteArray) (r:List ByteArray):B7 (iu (x::r))=true:=by
 unfold B7
 rw[AB]
 rfl
theorem Ok {x:ByteArray} (hx:aR x) (r:List ByteArray):B7 (jB (x::r))=false:=by
 unfold B7
 rw[AB]
 show ((x.data.toList++eX r).take 1==[46])=false
 have h1:=hx.2.1
 have h2:x.data.toList.length=x.size:=Array.length_toList
 cases hl:x.data.toList with
 |nil=>rw[hl,List.length_nil] at h2;omega
 |cons c l =>
  have:=Bn hx c (by rw[hl];exact List.mem_cons_self)
  show ([c]==[46])=false
  simpa using this
theorem Jv (l:List ByteArray) (x:ByteArray):nh (l++[x])=if l=[] then [(1,x)] else nh l++[sg 46,(1,x)]:=by
 have h:∀l:List ByteArray,bG (l++[x])=bG l++[sg 46,(1,x)]:=by
  intro l
  induction l with
  |nil=>rfl
  |cons y r ih=>show sg 46::(1,y)::bG (r++[x])=_;rw[ih];rfl
 cases l with
 |nil=>rfl
 |cons y r =>
  rw[if_neg (by simp)]
  show (1,y)::bG (r++[x])=_
  rw[h]
  rfl
theorem Jw {xs:List ByteArray} (h:∀x ∈ xs,aR x) (h4:xs.length≤4):(jB xs).size≤124:=by
 cases xs with
 |nil=>show 0≤124;omega
 |cons x r =>
  have:=CO h h4
  have:=(p8 x r).2
  omega
structure WE (V W:World) (b:Nat):Prop where
 m:gY V
 p:oN V
 g:1<V.heap.size
 below:Below V.heap.size V W
 lo:V.heap.size≤b
theorem WE.hm {V W:World}{b:Nat} (h:WE V W b):gY W:=h.m.up h.below h.g
theorem WE.hp {V W:World}{b:Nat} (h:WE V W b):oN W:=h.p.up h.below
theorem WE.up {V W w:World}{b:Nat} (h:WE V W b) (hb:Below W.heap.size W w):WE V w b:=⟨h.m,h.p,h.g,h.below.trans (hb.mono h.below.size),h.lo⟩
theorem WE.step {V W w:World}{b D:Nat}{r r':Option Nat}{vs:Value}{ps:List (Wd×List Nat)} (h:WE V W b) (hi:mV b r vs ps D W) (hk:KW b r W w r'):WE V w b :=
 ⟨h.m,h.p,h.g,h.below.trans ((hk.below (fun k e=>by have:=(hi.row k e).1;omega) (by have:=hi.lt;omega)).mono h.lo),h.lo⟩
def SD (dot:Bool) (xs:List ByteArray):List Wd:=if dot=true then bG xs else nh xs
theorem E2 {V W:World}{b:Nat}{r:Option Nat}{vs:Value}{ps:List (Wd×List Nat)}{D:Nat} (hV:WE V W b) (h:mV b r vs ps D W) (hn:ps.length≤1099511627600) {xs:List ByteArray} (hx:ik xs) (dot:Bool) (s:ByteArray) (hs:s=if dot=true then iu xs else jB xs) :
  Calls Tryz.prog 20 #[.pointer (some ⟨b,0,none⟩),.string s] W (Wr b r vs ps D W 30 fun t c=>t=SD dot xs∧c=0):=by
 obtain ⟨h0,h1,h2⟩:=hx
 have M8:pieces (jB xs)=xs:=by
  cases xs with
  |nil=>exact absurd rfl h0
  |cons x l=>exact Fq (h1 x List.mem_cons_self) (fun y hy=>h1 y (zF _ hy))
 have oG:=Jw h1 h2
 have JZ:(iu xs).extract 1 (iu xs).size=jB xs∧(iu xs).size=(jB xs).size+1∧B7 (iu xs)=true∧B7 (jB xs)=false∧1≤(jB xs).size∧bG xs=sg 46::nh xs:=by
  cases xs with
  |nil=>exact absurd rfl h0
  |cons x l =>
   refine ⟨(p8 x l).1,(p8 x l).2,RF x l,Ok (h1 x List.mem_cons_self) l,?_,rfl⟩
   have h3:=(h1 x List.mem_cons_self).2.1
   show 1≤(x.data.toList++eX l).length
   rw[zK]
   have h4:x.data.toList.length=x.size:=Array.length_toList
   omega
 obtain ⟨t1,t2,t3,t4,t5,t6⟩:=JZ
 obtain ⟨pk,Ie⟩:∃pk,jB xs=pk:=⟨_,rfl⟩
 obtain ⟨ty,JZ⟩:∃ty,iu xs=ty:=⟨_,rfl⟩
 rw[Ie] at M8 oG t1 t2 t4 t5 hs
 rw[JZ] at t1 t2 t3 hs
 have HX:=aj (And.intro h0 (And.intro h1 h2))
 have HPM:=aj (fun w (hm:gY w)=>z8 hm pk (by omega))
 rw[M8] at HPM
 have HV:=aj hV
 have HI:=aj h
 have Hn:=aj hn
 have EW:=aj oG
 have HD:=aj (FW W s (by rw[hs];split<;>omega) (by rw[hs];split<;>omega))
 have Hs:=aj hs
 have HT:=aj (And.intro t1 (And.intro t2 (And.intro t3 (And.intro t4 (And.intro t5 t6)))))
 clear h0 h1 h2 M8 oG t1 t2 t3 t4 t5 t6 Ie JZ hs hV h hn
 go_enter Tryz.func20,Tryz.ntmps20
 go_wp2_with fail
 refine (aa HD).mono ?_
 rintro e w1 ⟨rfl,oI⟩
 obtain rfl:W=w1:=oI.symm
 have UN:B7 s=dot:=by
  obtain ⟨t1,t2,t3,t4,t5,t6⟩:=aa HT
  rw[aa Hs]
  cases dot with
  |true=>exact t3
  |false=>exact t4
 rw[UN]
 clear HD oI UN
 go_upto_if 7 with fail
 go_cut [1] (fun v1 wx=>v1=.string pk∧Hid (∃r1 p1,p1.map Prod.fst=(if dot=true then [sg 46] else [])∧p1.length≤3∧mV b r1 vs (ps++p1) D wx∧KW b r W wx r1))
 case first =>
  obtain ⟨t1,t2,t3,t4,t5,t6⟩:=aa HT
  cases dot with
  |true =>
   obtain rfl:s=ty:=aa Hs
   have QK:(1:Int)≤(s.size:Int):=by omega
   have HP:=aj (jY (aa HI) [sg 46] (fun w hw=>by rw[List.mem_singleton.1 hw];exact fV 46 (by decide)) (by decide) (by have:=aa Hn;omega) #[.string ⟨#[46]⟩] rfl 1 rfl)
   clear t2 t4 t5 t6 Hs
   go_wp2_with fail
   refine (aa HP).mono ?_
   rintro e w2 ⟨rfl,r2,p2,c2,⟨xL,rfl⟩,yL,qz,iq⟩
   have HR:Hid (∃r1 p1,p1.map Prod.fst=[sg 46]∧p1.length≤3∧mV b r1 vs (ps++p1) D w2∧KW b r W w2 r1):=⟨r2,p2,xL,yL,qz,iq⟩
   clear xL yL qz iq HP
   go_wp2_with fail
   go_meet
   exact ⟨rfl,aa HR⟩
  |false =>
   obtain rfl:s=pk:=aa Hs
   clear t1 t2 t3 t5 t6 Hs
   go_wp2_with fail
   go_meet
   refine ⟨rfl,r,[],rfl,by decide,?_,KW.refl _ _ _⟩
   rw[List.append_nil]
   exact aa HI
 case rest =>
  obtain ⟨rfl,hcut⟩:=hcut
  obtain ⟨r1,p1,M8,DS,UG,rU⟩:=aa hcut
  have HV1:=aj ((aa HV).step (aa HI) rU)
  have qU:=aj UG
  have Xf:=aj rU
  have Se:=aj (And.intro M8 DS)
  clear hcut M8 DS UG rU HI HV
  go_wp2_with fail
  refine (aa HPM wc (aa HV1).hm).mono ?_
  rintro e w2 ⟨c,rfl,ez⟩
  have bJ:Below wc.heap.size wc w2:=by rw[ez];exact (zE _ _).alloc (zD _) _
  have iq:w2.heap[wc.heap.size]?=some (.cells (bW xs).toArray 9 (0,0)):=by rw[ez];exact aC _ _
  have oB:=aj iq
  have oO:=aj ((aa qU).up bJ)
  have V7:Hid (KW b r W w2 r1):=(aa Xf).trans (.dX bJ)
  have AX:=aj (And.intro (aa qU).lt (aa qU).row)
  obtain ⟨sb,hsb⟩:∃sb,wc.heap.size=sb:=⟨_,rfl⟩
  rw[hsb] at oB AX ⊢
  have sA:=aj (show sb<w2.heap.size by have:=(zA iq).1;omega)
  clear bJ iq ez hsb qU Xf HPM
  go_wp2
  go_loopg [5] xs.length (fun gk v5 wr=>∃(i:Nat) (r':Option Nat) (q:List (Wd×List Nat)),v5=.int .i64 (i:Int)∧gk=xs.length-i∧i≤xs.length∧Hid (q.map Prod.fst=nh (xs.take i)∧q.length≤6*i)∧Hid (mV b r' vs (ps++p1++q) D wr)∧Hid (KW b r1 w2 wr r'))
  case atStart=>exact ⟨0,r1,[],rfl,rfl,by omega,⟨rfl,by simp⟩,by show mV b r1 vs (ps++p1++[]) D w2;rw[List.append_nil];exact aa oO,KW.refl _ _ _⟩
  case round =>
   obtain ⟨i,r',q,rfl,fi,qz,HQ,sB,GF⟩:=hrel
   have gA:=aj fi
   clear fi
   have h4:xs.length≤4:=(aa HX).2.2
   by_cases cw:i<xs.length
   ·obtain ⟨x,hx⟩:∃x,xs[i]?=some x:=⟨_,List.getElem?_eq_getElem cw⟩
    have WX:=aj ((aa HX).2.1 x (List.mem_of_getElem? hx))
    have Hx:=aj hx
    have dN:=aj cw
    have HNn:=aj (show (ps++p1++q).length≤1099511627700 by
     rw[zK,zK]
     have:=aa Hn;have:=(aa Se).2;have:=(aa HQ).2;omega)
    have AZ:Hid (∀w' XL,KW b r1 w2 w' XL→w'.cell? ⟨sb,i,none⟩=some (.string x)):=fun w' XL hk=>by
     have FU:=hk.block sb (aa sA) (by have:=(aa AX).1;omega) (fun e=>by have:=((aa AX).2 sb e).2;omega)
     rw[cell_of_row _ _ _ _ _ _ (FU.trans (aa oB))]
     have:=jX xs i x hx
     simpa using this
    have i0:(0:Int)≤(i:Int):=zH _
    have i1:(i:Int)<(xs.length:Int):=by omega
    have yP:=aj (show nh (xs.take (i+1))=if xs.take i=[] then [(1,x)] else nh (xs.take i)++[sg 46,(1,x)] by rw[eD hx,Jv])
    clear hx cw
    by_cases YP:i=0
    ·subst YP
     have c0:=aa AZ wr r' (aa GF)
     have HP:=aj (jY (aa sB) [(1,x)] (fun w hw=>by rw[List.mem_singleton.1 hw];exact .inl ⟨rfl,aa WX⟩) (by simp) (by have:=aa HNn;omega) #[.string x] rfl 1 rfl)
     go_wp2_with fail
     refine (aa HP).mono ?_
     rintro e w3 ⟨rfl,r3,p3,c3,⟨Yi,rfl⟩,hl3,Nh,KN⟩
     have O7:=aj Nh
     have V6:=aj ((aa GF).trans KN)
     have O3:Hid ((q++p3).map Prod.fst=nh (xs.take (0+1))∧(q++p3).length≤6*(0+1)):=by
      refine ⟨?_,by rw[zK];have:=(aa HQ).2;omega⟩
      rw[List.map_append,(aa HQ).1,Yi,aa yP]
      rfl
     clear Nh KN Yi hl3 HP c0
     go_wp2
     go_roundg (xs.length-(0+1))
     case measure=>have:=aa gA;have:=aa dN;omega
     case rel=>exact ⟨1,r3,q++p3,by go_num,rfl,aa dN,aa O3,by rw[←List.append_assoc];exact aa O7,aa V6⟩
    ·have d0:0<i:=by omega
     have d1:decide (0<i)=true:=decide_eq_true d0
     have HNe:=aj (show ¬xs.take i=[] by
      intro e
      have:=congrArg List.length e
      rw[List.length_take,List.length_nil] at this
      have:=aa dN
      omega)
     clear YP
     have HP:=aj (jY (aa sB) [sg 46] (fun w hw=>by rw[List.mem_singleton.1 hw];exact fV 46 (by decide)) (by decide) (by have:=aa HNn;omega) #[.string ⟨#[46]⟩] rfl 1 rfl)
     go_wp2_with fail
     refine (aa HP).mono ?_
     rintro e w3 ⟨rfl,r3,p3,c3,⟨Yi,rfl⟩,hl3,Nh,KN⟩
     have O7:=aj Nh
     have V6:=aj ((aa GF).trans KN)
     have CC:=aj (And.intro Yi hl3)
     have c0:=aa AZ w3 r3 (aa V6)
     clear Nh KN Yi hl3 HP
     have GC:=aj (jY (aa O7) [(1,x)] (fun w hw=>by rw[List.mem_singleton.1 hw];exact .inl ⟨rfl,aa WX⟩) (by simp) (by rw[zK];have:=aa HNn;have:=(aa CC).2;omega) #[.string x] rfl 1 rfl)
     go_wp2_with fail
     refine (aa GC).mono ?_
     rintro e w4 ⟨rfl,r4,p4,c4,⟨SH,rfl⟩,hl4,hi4,YL⟩
     have HI5:=aj hi4
     have HK5:=aj ((aa V6).trans YL)
     have HQ5:Hid ((q++(p3++p4)).map Prod.fst=nh (xs.take (i+1))∧(q++(p3++p4)).length≤6*(i+1)):=by
      refine ⟨?_,by rw[zK,zK];have:=(aa HQ).2;have:=(aa CC).2;omega⟩
      rw[List.map_append,List.map_append,(aa HQ).1,(aa CC).1,SH,aa yP,if_neg (aa HNe)]
      rfl
     clear hi4 YL SH hl4 GC c0
     go_wp2
     go_roundg (xs.length-(i+1))
     case measure=>have:=aa gA;have:=aa dN;omega
     case rel=>exact ⟨i+1,r4,q++(p3++p4),by go_num,rfl,aa dN,aa HQ5,by rw[←List.append_assoc,←List.append_assoc];exact aa HI5,aa HK5⟩
   ·obtain rfl:i=xs.length:=by omega
    have jn:Hid (Wr b r vs ps D W 30 (fun t c=>t=SD dot xs∧c=0) (.returned (.tuple #[])) wr):=by
     refine ⟨rfl,r',p1++q,0,⟨?_,rfl⟩,?_,by rw[←List.append_assoc];exact aa sB,(aa V7).trans (aa GF)⟩
     ·obtain ⟨t1,t2,t3,t4,t5,t6⟩:=aa HT
      rw[List.map_append,(aa Se).1,(aa HQ).1,List.take_length]
      cases dot with
      |true=>show [sg 46]++nh xs=bG xs;rw[t6];rfl
      |false=>rfl
     ·rw[zK]
      have:=(aa Se).2;have:=(aa HQ).2;omega
    go_wp2
    go_end0
    exact aa jn
end Go.Proofs.YtmlphohdcejniaaGreatDoor
