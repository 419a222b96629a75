import Derived.Test.YtmlphohdcejniaaGreatDoorM38
set_option maxHeartbeats 4000000
set_option maxRecDepth 100000
namespace Go.Proofs.YtmlphohdcejniaaGreatDoor
open Go.RowKit Go.Shelf
attribute [local go_sem ↓] Go.wp_at_zero Go.wp_at_succ
theorem Vq {c:UInt8} (h:isLet c.toNat∨bX c.toNat):c≠46:=by
 intro e
 subst e
 unfold isLet bX at h
 revert h
 decide
theorem zS {x:ByteArray} (h:aU x):∀c ∈ x.data.toList,c≠46:=fun c hc=>Vq (nf h c.toNat (List.mem_map.2 ⟨c,hc,rfl⟩))
theorem Iq {a b:List UInt8} (h:∀c ∈ a,c≠46):Lib.index (a++46::b) [46]=(a.length:Int):=by
 rw[Lib.index_one]
 have oL:(a++46::b)[a.length]?=some (46:UInt8):=by rw[List.getElem?_append_right (zD _),Nat.sub_self];rfl
 obtain ⟨z,hz⟩:∃z,Lib.indexByte (a++46::b) 46=z:=⟨_,rfl⟩
 have O4:=Lib.indexByte_ge (a++46::b) 46
 rw[hz] at O4 ⊢
 by_cases h1:z=-1
 ·rw[h1] at hz
  exact absurd oL (Lib.indexByte_none hz _)
 ·obtain ⟨o,rfl⟩:∃o:Nat,z=(o:Int):=⟨z.toNat,by omega⟩
  obtain ⟨k1,k2⟩:=Lib.indexByte_some hz
  have h2:¬o<a.length:=fun q=>by
   rw[List.getElem?_append_left q] at k1
   exact h _ (List.mem_of_getElem? k1) rfl
  have h3:¬a.length<o:=fun q=>k2 _ q oL
  omega
theorem qZ:∀(r:List ByteArray) (x:ByteArray),aU x→(∀y ∈ r,aU y)→Lib.splitK [46] 0 r.length (x.data.toList++eG r)=x.data.toList::r.map (·.data.toList)
 |[],x,hx,_=>by simp[Lib.splitK,eG]
 |y::r,x,hx,hr=>by
  have hi:=Iq (b:=y.data.toList++eG r) (zS hx)
  show Lib.splitK [46] 0 (r.length+1) (x.data.toList++(46::(y.data.toList++eG r)))=_
  rw[Lib.splitK,hi,if_neg (by simp)]
  have ih:=qZ r y (hr y List.mem_cons_self) (fun z hz=>hr z (zF _ hz))
  rw[Int.toNat_natCast,Nat.add_zero,List.take_left',List.length_singleton,List.map_cons,←ih]
  ·congr 2
   rw[←List.drop_drop,List.drop_left']
   ·rfl
   ·rfl
  ·rfl
theorem rE:∀(r:List ByteArray) (x:ByteArray),aU x→(∀y ∈ r,aU y)→(x.data.toList++eG r).count 46=r.length
 |[],x,hx,_=>by
  rw[eG,List.append_nil]
  exact List.count_eq_zero.2 (fun h=>zS hx _ h rfl)
 |y::r,x,hx,hr=>by
  rw[List.count_append,show (x.data.toList).count 46=0 from List.count_eq_zero.2 (fun h=>zS hx _ h rfl)]
  show 0+(46::(y.data.toList++eG r)).count 46=r.length+1
  rw[List.count_cons_self,rE r y (hr y List.mem_cons_self) (fun z hz=>hr z (zF _ hz))]
  omega
theorem data_inj:∀(a b:List ByteArray),a.map (·.data.toList)=b.map (·.data.toList)→a=b
 |[],[],_=>rfl
 |[],_::_,h=>by cases h
 |_::_,[],h=>by cases h
 |x::a,y::b,h=>by
  rw[List.map_cons,List.map_cons] at h
  obtain ⟨h1,h2⟩:=List.cons.inj h
  rw[data_inj a b h2]
  obtain ⟨⟨x⟩⟩:=x
  obtain ⟨⟨y⟩⟩:=y
  simp only at h1
  rw[h1]
theorem DQ {x:ByteArray}{r:List ByteArray} (hx:aU x) (hr:∀y ∈ r,aU y):pieces (iZ (x::r))=x::r:=by
 have hd:=Lib.splitB_data rW 0 (Lib.countB (iZ (x::r)) rW) (iZ (x::r))
 have hc:Lib.countB (iZ (x::r)) rW=r.length:=by
  show Lib.count (x.data.toList++eG r) [46]=_
  rw[Lib.count_one,rE r x hx hr]
 unfold pieces
 rw[hc] at hd ⊢
 have h2:(Lib.splitB rW 0 r.length (iZ (x::r))).map (·.data.toList)=(x::r).map (·.data.toList):=hd.trans (qZ r x hx hr)
 exact data_inj _ _ h2
theorem oR (x:ByteArray) (r:List ByteArray):(gQ (x::r)).extract 1 (gQ (x::r)).size=iZ (x::r)∧(gQ (x::r)).size=(iZ (x::r)).size+1:=by
 have hs:(gQ (x::r)).size=(iZ (x::r)).size+1:=rfl
 refine ⟨?_,hs⟩
 apply oV
 rw[bc,hs]
 have e1:(aG (gQ (x::r))).drop 1=aG (iZ (x::r)):=rfl
 rw[e1,Nat.add_sub_cancel,←bd,List.take_length]
def AD (s:ByteArray):Bool:=(s.extract 0 1).toList==[46]
theorem uZ (W:World) (s:ByteArray) (hs:1≤s.size) (Ec:s.size≤1048576):Calls Tryz.prog 56 #[.string s,.string ⟨#[46]⟩] W fun e w=>e=.returned (.bool (AD s))∧w=W:=by
 have d1:decide ((1:Int)≤(s.size:Int))=true:=by simp;omega
 have d2:(1:Int)≤(s.size:Int):=by omega
 go_enter Tryz.func56,Tryz.ntmps56
 go_wp2
 go_ret
 exact ⟨rfl,rfl⟩
theorem Ek (W:World) (s:ByteArray) (hs:1≤s.size) (Ec:s.size≤1048576):Calls Tryz.prog 40 #[.string s,.string ⟨#[46]⟩] W fun e w=>e=.returned (.bool (AD s))∧w=W:=by
 have HS:=aj (uZ W s hs Ec)
 clear hs Ec
 go_enter Tryz.func40,Tryz.ntmps40
 go_wp2_with fail
 refine (aa HS).mono ?_
 rintro e w ⟨rfl,hw⟩
 obtain rfl:W=w:=hw.symm
 clear HS hw
 go_wp2
 go_ret
 exact ⟨rfl,rfl⟩
theorem oe (s:ByteArray):s.toList=s.data.toList:=by
 obtain ⟨⟨l⟩⟩:=s
 exact Go.ByteArray.toList_mk l
theorem yJ (s:ByteArray):(s.extract 0 1).toList=s.data.toList.take 1:=by rw[oe,Lib.extract_from_zero]
theorem PF (x:ByteArray) (r:List ByteArray):AD (gQ (x::r))=true:=by
 unfold AD
 rw[yJ]
 rfl
theorem Mv {x:ByteArray} (hx:aU x) (r:List ByteArray):AD (iZ (x::r))=false:=by
 unfold AD
 rw[yJ]
 show ((x.data.toList++eG r).take 1==[46])=false
 have h1:=hx.2.1
 have h2:x.data.toList.length=x.size:=Array.length_toList
 cases hl:x.data.toList with
 |nil=>rw[hl,List.length_nil] at h2;omega
 |cons c l =>
  have:=zS hx c (by rw[hl];exact List.mem_cons_self)
  show ([c]==[46])=false
  simpa using this
theorem G6 (l:List ByteArray) (x:ByteArray):mO (l++[x])=if l=[] then [(1,x)] else mO l++[sg 46,(1,x)]:=by
 have h:∀l:List ByteArray,bV (l++[x])=bV l++[sg 46,(1,x)]:=by
  intro l
  induction l with
  |nil=>rfl
  |cons y r ih=>show sg 46::(1,y)::bV (r++[x])=_;rw[ih];rfl
 cases l with
 |nil=>rfl
 |cons y r =>
  rw[if_neg (by simp)]
  show (1,y)::bV (r++[x])=_
  rw[h]
  rfl
theorem G7 {xs:List ByteArray} (h:∀x ∈ xs,aU x) (h4:xs.length≤4):(iZ xs).size≤124:=by
 cases xs with
 |nil=>show 0≤124;omega
 |cons x r =>
  have:=Bf h h4
  have:=(oR x r).2
  omega
structure WE (V W:World) (b:Nat):Prop where
 m:gD V
 p:nI V
 g:1<V.heap.size
 below:Below V.heap.size V W
 lo:V.heap.size≤b
theorem WE.hm {V W:World}{b:Nat} (h:WE V W b):gD W:=h.m.up h.below h.g
theorem WE.hp {V W:World}{b:Nat} (h:WE V W b):nI W:=h.p.up h.below
theorem WE.up {V W w:World}{b:Nat} (h:WE V W b) (hb:Below W.heap.size W w):WE V w b:=⟨h.m,h.p,h.g,h.below.trans (hb.mono h.below.size),h.lo⟩
theorem WE.step {V W w:World}{b D:Nat}{r r':Option Nat}{vs:Value}{ps:List (Wd×List Nat)} (h:WE V W b) (hi:l7 b r vs ps D W) (hk:KW b r W w r'):WE V w b :=
 ⟨h.m,h.p,h.g,h.below.trans ((hk.below (fun k e=>by have:=(hi.row k e).1;omega) (by have:=hi.lt;omega)).mono h.lo),h.lo⟩
def Qs (dot:Bool) (xs:List ByteArray):List Wd:=if dot=true then bV xs else mO xs
theorem Dx {V W:World}{b:Nat}{r:Option Nat}{vs:Value}{ps:List (Wd×List Nat)}{D:Nat} (hV:WE V W b) (h:l7 b r vs ps D W) (hn:ps.length≤1099511627600) {xs:List ByteArray} (hx:lC xs) (dot:Bool) (s:ByteArray) (hs:s=if dot=true then gQ xs else iZ xs) :
  Calls Tryz.prog 20 #[.pointer (some ⟨b,0,none⟩),.string s] W (Wr b r vs ps D W 30 fun t c=>t=Qs dot xs∧c=0):=by
 obtain ⟨h0,h1,h2⟩:=hx
 have Lq:pieces (iZ xs)=xs:=by
  cases xs with
  |nil=>exact absurd rfl h0
  |cons x l=>exact DQ (h1 x List.mem_cons_self) (fun y hy=>h1 y (zF _ hy))
 have nC:=G7 h1 h2
 have Ix:(gQ xs).extract 1 (gQ xs).size=iZ xs∧(gQ xs).size=(iZ xs).size+1∧AD (gQ xs)=true∧AD (iZ xs)=false∧1≤(iZ xs).size∧bV xs=sg 46::mO xs:=by
  cases xs with
  |nil=>exact absurd rfl h0
  |cons x l =>
   refine ⟨(oR x l).1,(oR x l).2,PF x l,Mv (h1 x List.mem_cons_self) l,?_,rfl⟩
   have h3:=(h1 x List.mem_cons_self).2.1
   show 1≤(x.data.toList++eG l).length
   rw[zK]
   have h4:x.data.toList.length=x.size:=Array.length_toList
   omega
 obtain ⟨t1,t2,t3,t4,t5,t6⟩:=Ix
 obtain ⟨pk,FQ⟩:∃pk,iZ xs=pk:=⟨_,rfl⟩
 obtain ⟨ty,Ix⟩:∃ty,gQ xs=ty:=⟨_,rfl⟩
 rw[FQ] at Lq nC t1 t2 t4 t5 hs
 rw[Ix] at t1 t2 t3 hs
 have HX:=aj (And.intro h0 (And.intro h1 h2))
 have HPM:=aj (fun w (hm:gD w)=>yo hm pk (by omega))
 rw[Lq] at HPM
 have HV:=aj hV
 have HI:=aj h
 have Hn:=aj hn
 have Dp:=aj nC
 have HD:=aj (Ek W s (by rw[hs];split<;>omega) (by rw[hs];split<;>omega))
 have Hs:=aj hs
 have HT:=aj (And.intro t1 (And.intro t2 (And.intro t3 (And.intro t4 (And.intro t5 t6)))))
 clear h0 h1 h2 Lq nC t1 t2 t3 t4 t5 t6 FQ Ix hs hV h hn
 go_enter Tryz.func20,Tryz.ntmps20
 go_wp2_with fail
 refine (aa HD).mono ?_
 rintro e w1 ⟨rfl,nE⟩
 obtain rfl:W=w1:=nE.symm
 have SO:AD s=dot:=by
  obtain ⟨t1,t2,t3,t4,t5,t6⟩:=aa HT
  rw[aa Hs]
  cases dot with
  |true=>exact t3
  |false=>exact t4
 rw[SO]
 clear HD nE SO
 go_upto_if 7 with fail
 go_cut [1] (fun v1 wx=>v1=.string pk∧Hid (∃r1 p1,p1.map Prod.fst=(if dot=true then [sg 46] else [])∧p1.length≤3∧l7 b r1 vs (ps++p1) D wx∧KW b r W wx r1))
 case first =>
  obtain ⟨t1,t2,t3,t4,t5,t6⟩:=aa HT
  cases dot with
  |true =>
   obtain rfl:s=ty:=aa Hs
   have Lm:(1:Int)≤(s.size:Int):=by omega
   have HP:=aj (jx (aa HI) [sg 46] (fun w hw=>by rw[List.mem_singleton.1 hw];exact fD 46 (by decide)) (by decide) (by have:=aa Hn;omega) #[.string ⟨#[46]⟩] rfl 1 rfl)
   clear t2 t4 t5 t6 Hs
   go_wp2_with fail
   refine (aa HP).mono ?_
   rintro e w2 ⟨rfl,r2,p2,c2,⟨vX,rfl⟩,yD,pC,gO⟩
   have HR:Hid (∃r1 p1,p1.map Prod.fst=[sg 46]∧p1.length≤3∧l7 b r1 vs (ps++p1) D w2∧KW b r W w2 r1):=⟨r2,p2,vX,yD,pC,gO⟩
   clear vX yD pC gO HP
   go_wp2_with fail
   go_meet
   exact ⟨rfl,aa HR⟩
  |false =>
   obtain rfl:s=pk:=aa Hs
   clear t1 t2 t3 t5 t6 Hs
   go_wp2_with fail
   go_meet
   refine ⟨rfl,r,[],rfl,by decide,?_,KW.refl _ _ _⟩
   rw[List.append_nil]
   exact aa HI
 case rest =>
  obtain ⟨rfl,hcut⟩:=hcut
  obtain ⟨r1,p1,Lq,Ee,SH,qC⟩:=aa hcut
  have HV1:=aj ((aa HV).step (aa HI) qC)
  have pV:=aj SH
  have U9:=aj qC
  have P7:=aj (And.intro Lq Ee)
  clear hcut Lq Ee SH qC HI HV
  go_wp2_with fail
  refine (aa HPM wc (aa HV1).hm).mono ?_
  rintro e w2 ⟨c,rfl,dT⟩
  have bH:Below wc.heap.size wc w2:=by rw[dT];exact (zE _ _).alloc (zD _) _
  have gO:w2.heap[wc.heap.size]?=some (.cells (bS xs).toArray 9 (0,0)):=by rw[dT];exact aC _ _
  have ny:=aj gO
  have nJ:=aj ((aa pV).up bH)
  have T1:Hid (KW b r W w2 r1):=(aa U9).trans (.dM bH)
  have za:=aj (And.intro (aa pV).lt (aa pV).row)
  obtain ⟨sb,hsb⟩:∃sb,wc.heap.size=sb:=⟨_,rfl⟩
  rw[hsb] at ny za ⊢
  have qT:=aj (show sb<w2.heap.size by have:=(zA gO).1;omega)
  clear bH gO dT hsb pV U9 HPM
  go_wp2
  go_loopg [5] xs.length (fun gk v5 wr=>∃(i:Nat) (r':Option Nat) (q:List (Wd×List Nat)),v5=.int .i64 (i:Int)∧gk=xs.length-i∧i≤xs.length∧Hid (q.map Prod.fst=mO (xs.take i)∧q.length≤6*i)∧Hid (l7 b r' vs (ps++p1++q) D wr)∧Hid (KW b r1 w2 wr r'))
  case atStart=>exact ⟨0,r1,[],rfl,rfl,by omega,⟨rfl,by simp⟩,by show l7 b r1 vs (ps++p1++[]) D w2;rw[List.append_nil];exact aa nJ,KW.refl _ _ _⟩
  case round =>
   obtain ⟨i,r',q,rfl,eN,pC,HQ,qU,E7⟩:=hrel
   have fQ:=aj eN
   clear eN
   have h4:xs.length≤4:=(aa HX).2.2
   by_cases cc:i<xs.length
   ·obtain ⟨x,hx⟩:∃x,xs[i]?=some x:=⟨_,List.getElem?_eq_getElem cc⟩
    have U0:=aj ((aa HX).2.1 x (List.mem_of_getElem? hx))
    have Hx:=aj hx
    have dA:=aj cc
    have HNn:=aj (show (ps++p1++q).length≤1099511627700 by
     rw[zK,zK]
     have:=aa Hn;have:=(aa P7).2;have:=(aa HQ).2;omega)
    have zc:Hid (∀w' VH,KW b r1 w2 w' VH→w'.cell? ⟨sb,i,none⟩=some (.string x)):=fun w' VH hk=>by
     have Ei:=hk.block sb (aa qT) (by have:=(aa za).1;omega) (fun e=>by have:=((aa za).2 sb e).2;omega)
     rw[cell_of_row _ _ _ _ _ _ (Ei.trans (aa ny))]
     have:=jw xs i x hx
     simpa using this
    have i0:(0:Int)≤(i:Int):=zH _
    have i1:(i:Int)<(xs.length:Int):=by omega
    have A5:=aj (show mO (xs.take (i+1))=if xs.take i=[] then [(1,x)] else mO (xs.take i)++[sg 46,(1,x)] by rw[dW hx,G6])
    clear hx cc
    by_cases WO:i=0
    ·subst WO
     have c0:=aa zc wr r' (aa E7)
     have HP:=aj (jx (aa qU) [(1,x)] (fun w hw=>by rw[List.mem_singleton.1 hw];exact .inl ⟨rfl,aa U0⟩) (by simp) (by have:=aa HNn;omega) #[.string x] rfl 1 rfl)
     go_wp2_with fail
     refine (aa HP).mono ?_
     rintro e w3 ⟨rfl,r3,p3,c3,⟨Wc,rfl⟩,Zi,Ly,ND⟩
     have Ng:=aj Ly
     have T0:=aj ((aa E7).trans ND)
     have Nb:Hid ((q++p3).map Prod.fst=mO (xs.take (0+1))∧(q++p3).length≤6*(0+1)):=by
      refine ⟨?_,by rw[zK];have:=(aa HQ).2;omega⟩
      rw[List.map_append,(aa HQ).1,Wc,aa A5]
      rfl
     clear Ly ND Wc Zi HP c0
     go_wp2
     go_roundg (xs.length-(0+1))
     case measure=>have:=aa fQ;have:=aa dA;omega
     case rel=>exact ⟨1,r3,q++p3,by go_num,rfl,aa dA,aa Nb,by rw[←List.append_assoc];exact aa Ng,aa T0⟩
    ·have d0:0<i:=by omega
     have d1:decide (0<i)=true:=decide_eq_true d0
     have Yk:=aj (show ¬xs.take i=[] by
      intro e
      have:=congrArg List.length e
      rw[List.length_take,List.length_nil] at this
      have:=aa dA
      omega)
     clear WO
     have HP:=aj (jx (aa qU) [sg 46] (fun w hw=>by rw[List.mem_singleton.1 hw];exact fD 46 (by decide)) (by decide) (by have:=aa HNn;omega) #[.string ⟨#[46]⟩] rfl 1 rfl)
     go_wp2_with fail
     refine (aa HP).mono ?_
     rintro e w3 ⟨rfl,r3,p3,c3,⟨Wc,rfl⟩,Zi,Ly,ND⟩
     have Ng:=aj Ly
     have T0:=aj ((aa E7).trans ND)
     have Jf:=aj (And.intro Wc Zi)
     have c0:=aa zc w3 r3 (aa T0)
     clear Ly ND Wc Zi HP
     have E5:=aj (jx (aa Ng) [(1,x)] (fun w hw=>by rw[List.mem_singleton.1 hw];exact .inl ⟨rfl,aa U0⟩) (by simp) (by rw[zK];have:=aa HNn;have:=(aa Jf).2;omega) #[.string x] rfl 1 rfl)
     go_wp2_with fail
     refine (aa E5).mono ?_
     rintro e w4 ⟨rfl,r4,p4,c4,⟨Qw,rfl⟩,hl4,Zn,WK⟩
     have Yp:=aj Zn
     have HK5:=aj ((aa T0).trans WK)
     have HQ5:Hid ((q++(p3++p4)).map Prod.fst=mO (xs.take (i+1))∧(q++(p3++p4)).length≤6*(i+1)):=by
      refine ⟨?_,by rw[zK,zK];have:=(aa HQ).2;have:=(aa Jf).2;omega⟩
      rw[List.map_append,List.map_append,(aa HQ).1,(aa Jf).1,Qw,aa A5,if_neg (aa Yk)]
      rfl
     clear Zn WK Qw hl4 E5 c0
     go_wp2
     go_roundg (xs.length-(i+1))
     case measure=>have:=aa fQ;have:=aa dA;omega
     case rel=>exact ⟨i+1,r4,q++(p3++p4),by go_num,rfl,aa dA,aa HQ5,by rw[←List.append_assoc,←List.append_assoc];exact aa Yp,aa HK5⟩
   ·obtain rfl:i=xs.length:=by omega
    have gK:Hid (Wr b r vs ps D W 30 (fun t c=>t=Qs dot xs∧c=0) (.returned (.tuple #[])) wr):=by
     refine ⟨rfl,r',p1++q,0,⟨?_,rfl⟩,?_,by rw[←List.append_assoc];exact aa qU,(aa T1).trans (aa E7)⟩
     ·obtain ⟨t1,t2,t3,t4,t5,t6⟩:=aa HT
      rw[List.map_append,(aa P7).1,(aa HQ).1,List.take_length]
      cases dot with
      |true=>show [sg 46]++mO xs=bV xs;rw[t6];rfl
      |false=>rfl
     ·rw[zK]
      have:=(aa P7).2;have:=(aa HQ).2;omega
    go_wp2
    go_end0
    exact aa gK
end Go.Proofs.YtmlphohdcejniaaGreatDoor
