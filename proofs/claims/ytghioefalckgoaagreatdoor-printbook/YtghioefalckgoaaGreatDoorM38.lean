import Derived.Test.YtghioefalckgoaaGreatDoorM37
set_option maxHeartbeats 8000000
set_option maxRecDepth 100000
namespace Go.Proofs.YtghioefalckgoaaGreatDoor
open Go.RowKit
attribute [local go_sem ↓] Go.wp_at_zero Go.wp_at_succ
def Qv (w:World):List Value→Int
 |[.slice (some a) _ _]=>match w.cell? ⟨a.block,4,none⟩ with
  |some (.int _ z)=>z
  |_=>0
 |_=>0
theorem Qu {w:World}{u:Value}{d:Fd}{r:List Fd} (h:Ow w 53 6 u (d::r).length (cC (d::r))):∃g c,u=.slice (some ⟨g,0,none⟩) (d::r).length c∧g<w.heap.size∧w.cell? ⟨g,4,none⟩=some (.int .i64 d.num)∧Qv w [u]=d.num:=by
 obtain ⟨⟨h1,⟨_,h0⟩|⟨g,cap,cur,rfl,h2,h3,h4,h5,h6,h7⟩⟩,-⟩:=h
 ·cases h0
 ·have hx:(cC (d::r))[4]?=some (.int .i64 d.num):=rfl
  have hc:w.cell? ⟨g,4,none⟩=some (.int .i64 d.num):=by
   rw[cell_of_row _ _ _ _ _ _ h3,←Array.getElem?_toList]
   rw[←h7,List.getElem?_take] at hx
   split at hx
   ·exact hx
   ·cases hx
  exact ⟨g,cap,rfl,(zA h3).1,hc,by show (match w.cell? ⟨g,4,none⟩ with|some (.int _ z)=>z|_=>0)=_;rw[hc]⟩
structure Zp (w:World) (Z:List (Value×List Fd)):Prop where
 own:∀z ∈ Z,Ow w 53 6 z.1 z.2.length (cC z.2)
 ne:∀z ∈ Z,z.2≠[]∧z.2.length≤4096
theorem oC:∀us:List Value,(us.map fun u=>[u]).flatten=us
 |[]=>rfl
 |a::r=>by rw[List.map_cons,List.flatten_cons,oC r];rfl
def pQ (z:Value×List Fd):List Value:=[z.1]
theorem DR (Z:List (Value×List Fd)):(Z.map pQ).flatten=Z.map (·.1):=by
 unfold pQ
 induction Z with
 |nil=>rfl
 |cons a r ih=>simp[ih]
theorem uH (l:List Fd):(pJ l).length=l.length:=bc _ _
theorem Bt {w2:World}{u:Value}{Z:List (Value×List Fd)} (hZ:Zp w2 Z) (hn:Z.length≤4096) {B:Nat} (ho:w2.ownsRow B 54 1 u Z.length (Z.map (·.1))) :
  Calls Tryz.prog 195 #[u,.func (.func 196) #[] #[]] w2 fun e w=>∃u' Z',e=.returned u'∧w.ownsRow w2.heap.size 54 1 u' Z'.length (Z'.map (·.1))∧Z'.map (·.2)=cR (fun a b=>GD (Ph a) (Ph b)) (Z.map (·.2))∧Zp w Z'∧Z'.length=Z.length∧Below w2.heap.size w2 w:=by
 have hk:∀z ∈ Z,∃g c d r,z.2=d::r∧z.1=.slice (some ⟨g,0,none⟩) z.2.length c∧g<w2.heap.size∧w2.cell? ⟨g,4,none⟩=some (.int .i64 d.num)∧Qv w2 (pQ z)=Ph z.2:=fun z hz=>by
  obtain ⟨v,G⟩:=z
  have h1:=hZ.own _ hz
  have h2:=(hZ.ne _ hz).1
  match G,h2,h1 with
  |d::r,_,h1 =>
   obtain ⟨g,c,k1,k2,k3,k4⟩:=Qu h1
   exact ⟨g,c,d,r,rfl,k1,k2,k3,k4⟩
 have hr:Rl w2 u Z.length (Z.map pQ).flatten:=by rw[DR];exact kj ho (by omega)
 refine (dK .FF (L:=Z.map pQ) (kv:=.I (Qv w2)) (Pe:=fun x=>∃z ∈ Z,x=pQ z) (f:=196) (fs:=#[]) (cp:=#[]) hr (List.length_map ..) (fun x hx=>by obtain ⟨s,_,rfl⟩:=List.mem_map.1 hx;rfl)
  (fun x hx=>by obtain ⟨s,hs,rfl⟩:=List.mem_map.1 hx;obtain ⟨g,c,d,r,_,h,_⟩:=hk s hs;simp[pQ,h,Value.oneCell']) (by show Z.length*24≤_;omega) rfl (fun x hx=>by obtain ⟨s,hs,rfl⟩:=hx;obtain ⟨g,c,d,r,_,h,_⟩:=hk s hs;exact ⟨rfl,by simp[pQ,h,Value.oneCell']⟩)
  (fun x hx=>by obtain ⟨s,hs,rfl⟩:=List.mem_map.1 hx;exact ⟨s,hs,rfl⟩) w2 (zE _ _)
  ⟨fun vs w=>by kernel_rfl,fun x w' hw' hx=>by
   obtain ⟨s,hs,rfl⟩:=hx
   obtain ⟨g,c,d,r,e,h,hg,hc,hv⟩:=hk s hs
   have hl:=(hZ.ne s hs).2
   have hp:0<s.2.length:=by rw[e];simp
   have hd:Ph s.2=d.num:=by rw[e];rfl
   show Calls _ _ (#[].push (fH [s.1])++#[]) _ _
   rw[h]
   refine (zq (o:=0) hp hl ((hw'.cell (p:=⟨g,4,none⟩) hg).trans hc)).mono ?_
   rintro e w ⟨rfl,hb⟩
   exact ⟨by show _=Ending.returned (.int .i64 (Qv w2 (pQ s)));rw[hv,hd],hb⟩⟩).mono ?_
 rintro e w ⟨u',rfl,h2,h3⟩
 obtain ⟨Z',X7⟩:∃Z',cR (fun a b=>GD (Ph a.2) (Ph b.2)) Z=Z':=⟨_,rfl⟩
 have e1:cR (KV.I (Qv w2)).lt (Z.map pQ)=Z'.map pQ:=by
  rw[jV,←X7]
  congr 1
  refine xp (fun a ha b hb=>?_)
  obtain ⟨_,_,_,_,_,_,_,_,ka⟩:=hk a ha
  obtain ⟨_,_,_,_,_,_,_,_,kb⟩:=hk b hb
  show decide (Qv w2 (pQ a)<Qv w2 (pQ b))=_
  rw[ka,kb]
  rfl
 have hm:∀z ∈ Z',z ∈ Z:=fun z hz=>by rw[←X7] at hz;exact (du _ _ _).1 hz
 have hl:Z'.length=Z.length:=by rw[←X7,bc]
 rw[e1,DR] at h2
 refine ⟨u',Z',rfl,by rw[hl];exact h2,?_,⟨fun z hz=>(hZ.own z (hm z hz)).kept (bB h3) (fun b _=>by simp),fun z hz=>hZ.ne z (hm z hz)⟩,hl,h3⟩
 rw[jV,X7]
theorem A1 {w1:World}{u:Value}{us:List Value}{gs:List (List Fd)}{lo:Nat} (hG:Gr lo w1 u gs us) (hn:gs.length≤4096) (hg:∀G ∈ gs,G≠[]∧G.length≤4096) :
  Calls Tryz.prog 191 #[u,.func (.func 192) #[] #[]] w1 fun e w=>∃u' Z,e=.returned u'∧w.ownsRow w1.heap.size 54 1 u' Z.length (Z.map (·.1))∧Z.map (·.2)=gs.map pJ∧Zp w Z∧Below w1.heap.size w1 w:=by
 have gR:(us.map fun u=>[u]).flatten=us:=oC us
 have hL:(us.map fun u=>[u]).length=gs.length:=by rw[List.length_map,hG.len]
 have hr:Rl w1 u gs.length (us.map fun u=>[u]).flatten:=by
  rw[gR]
  obtain ⟨B,_,h⟩:=hG.row
  exact kj h (by omega)
 have OX:∀i x,us[i]?=some x→∃K,gs[i]?=some K∧w1.ownsRow lo 53 6 x K.length (cC K):=fun i x hx=>by
  have hi:=(zB hx).1
  obtain ⟨K,hK⟩:∃K,gs[i]?=some K:=⟨_,List.getElem?_eq_getElem (by rw[hG.len] at hi;exact hi)⟩
  exact ⟨K,hK,hG.GS i _ x hK hx⟩
 refine (vJ .FF (L:=us.map fun u=>[u]) (f:=192) (fs:=#[]) (cp:=#[]) (G:=fun i y B w=>∃K v,gs[i]?=some K∧y=[v]∧Ow w 53 6 v K.length (cC (pJ K))∧B=gL v) hr hL (fun x hx=>by
   obtain ⟨v,hv,rfl⟩:=List.mem_map.1 hx
   obtain ⟨i,hi⟩:=List.mem_iff_getElem?.1 hv
   obtain ⟨K,_,h⟩:=OX i v hi
   exact ⟨v,rfl,fP h⟩) (by show gs.length*24≤_;omega)
  (fun i y B w w' ob ⟨K,v,h1,h2,h3,h4⟩ hg hb=>⟨K,v,h1,h2,h3.kept hg (fun b k=>hb b (by rw[h4];exact k)),h4⟩) (fun vs w=>by kernel_rfl) w1 (zE _ _) (fun i x hx w hw=>by
   rw[List.getElem?_map] at hx
   obtain ⟨v,hv,rfl⟩:=Option.map_eq_some_iff.1 hx
   obtain ⟨K,hK,h⟩:=OX i v hv
   have hKl:=(hg K (List.mem_of_getElem? hK)).2
   refine (CE (kj (oK h hw) (by omega)) hKl w (zE _ _)).mono ?_
   rintro e w' ⟨u',rfl,ho,hb⟩
   exact ⟨[u'],gL u',rfl,⟨⟨u',rfl,fP ho⟩,⟨K,u',hK,rfl,kM ho (by omega),rfl⟩,fU ho,hb⟩⟩)).mono ?_
 rintro e w ⟨u',T,rfl,hT⟩
 obtain ⟨Z,hZ⟩:∃Z,(T.map fun p:List Value×List Nat=>p.1.headD undef).zip (gs.map pJ)=Z:=⟨_,rfl⟩
 have l1:(T.map fun p:List Value×List Nat=>p.1.headD undef).length=(gs.map pJ).length:=by rw[List.length_map,List.length_map,hT.len]
 have z1:Z.map (·.1)=T.map fun p:List Value×List Nat=>p.1.headD undef:=by rw[←hZ,List.map_fst_zip (Nat.le_of_eq l1)]
 have z2:Z.map (·.2)=gs.map pJ:=by rw[←hZ,List.map_snd_zip (Nat.le_of_eq l1.symm)]
 have hz:∀z ∈ Z,∃(i:Nat) (p:List Value×List Nat) (K:List Fd),T[i]?=some p∧gs[i]?=some K∧z=(p.1.headD undef,pJ K):=fun z CH=>by
  rw[←hZ] at CH
  obtain ⟨i,hi⟩:=List.mem_iff_getElem?.1 CH
  obtain ⟨h1,h2⟩:=List.getElem?_zip_eq_some.1 hi
  rw[List.getElem?_map] at h1 h2
  obtain ⟨p,hp,e1⟩:=Option.map_eq_some_iff.1 h1
  obtain ⟨K,hK,e2⟩:=Option.map_eq_some_iff.1 h2
  exact ⟨i,p,K,hp,hK,by rw[e1,e2]⟩
 have aax:(T.map (·.1)).flatten=Z.map (·.1):=by
  rw[z1]
  have:∀p:List Value×List Nat,p ∈ T→p.1=[p.1.headD undef]:=fun p hp=>by
   obtain ⟨v,h,_⟩:=hT.ks p hp
   rw[h]
   rfl
  clear hz z1 z2 l1 hZ
  obtain ⟨T',rfl⟩:∃T',T'=T:=⟨_,rfl⟩
  clear hT
  induction T' with
  |nil=>rfl
  |cons a r ih =>
   have e:=this a (by simp)
   rw[List.map_cons,List.flatten_cons,ih (fun p hp=>this p (by simp[hp])),List.map_cons]
   conv=>lhs;rw[e]
   rfl
 have lz:Z.length=gs.length:=by have:=congrArg List.length z2;simpa using this
 have l8:=hT.row
 rw[aax] at l8
 refine ⟨u',Z,rfl,by rw[lz];exact l8,z2,⟨fun z CH=>?_,fun z CH=>?_⟩,hT.bh⟩
 ·obtain ⟨i,p,K,hp,hK,rfl⟩:=hz z CH
  obtain ⟨K',v,h1,h2,h3,_⟩:=hT.is i p hp
  rw[hK] at h1
  cases h1
  rw[h2]
  show Ow _ _ _ v (pJ K).length _
  rw[uH]
  exact h3
 ·obtain ⟨i,p,K,hp,hK,rfl⟩:=hz z CH
  have:=hg K (List.mem_of_getElem? hK)
  refine ⟨fun h=>?_,by rw[uH];exact this.2⟩
  have h2:=uH K
  have h3:pJ K=[]:=h
  rw[h3] at h2
  exact this.1 (List.length_eq_zero_iff.1 h2.symm)
theorem IT (os:List ByteArray) (s:List Fd×List ByteArray) (G:List Fd):(yu os s G).1.length≤s.1.length+G.length∧(yu os s G).2.length≤s.2.length+1:=by
 unfold yu
 split
 ·exact ⟨by simp,by simp⟩
 ·split
  ·exact ⟨by simp,by simp⟩
  ·exact ⟨by simp,by simp⟩
theorem uO (os:List ByteArray):∀(gs:List (List Fd)) (s:List Fd×List ByteArray),(∀G ∈ gs,G.length≤4096)→(gs.foldl (yu os) s).1.length≤s.1.length+4096*gs.length∧(gs.foldl (yu os) s).2.length≤s.2.length+gs.length
 |[],s,_=>⟨by simp,by simp⟩
 |G::r,s,h=>by
  have h1:=IT os s G
  have h2:=uO os r (yu os s G) (fun K hK=>h K (by simp[hK]))
  have h3:=h G (by simp)
  simp only[List.foldl_cons,List.length_cons]
  omega
structure zY (w0 wr:World) (v7 v8:Value) (A:List Fd) (N:List ByteArray):Prop where
 f:wr.ownsRow w0.heap.size 53 6 v7 A.length (cC A)
 n:wr.ownsRow w0.heap.size 9 1 v8 N.length (bj N)
 bh:Below w0.heap.size w0 wr
theorem zY.up {w0 wr w:World}{v7 v8:Value}{A:List Fd}{N:List ByteArray} (h:zY w0 wr v7 v8 A N) (hb:Below wr.heap.size wr w):zY w0 w v7 v8 A N:=⟨oK h.f hb,oK h.n hb,h.bh.trans (hb.mono h.bh.size)⟩
theorem zY.addN {w0 wr w w2:World}{v7 v8 v':Value}{A:List Fd}{N:List ByteArray}{s:ByteArray} (h:zY w0 wr v7 v8 A N) (hw:wr.grownBy w none) (ho:w2.ownsRow w0.heap.size 9 1 v' (N.length+1) (bj N++[.string s])) (hg:w.grownBy w2 v8.ownBlock):zY w0 w2 v7 v' A (N++[s]):=by
 have h1:=h.up (jK hw)
 refine ⟨h1.f.kept hg (mA h1.n h1.f (by decide)),?_,h1.bh.grown hg h1.bh.size (fun k e=>(h1.n.lt k e).1)⟩
 rw[zK,show bj (N++[s])=bj N++[.string s] by simp[bj]]
 exact ho
theorem zY.aaK {w0 wr w w2:World}{v7 v8 v':Value}{A:List Fd}{N:List ByteArray}{d:Fd} (h:zY w0 wr v7 v8 A N) (hw:wr.grownBy w none) (ho:w2.ownsRow w0.heap.size 53 6 v' (A.length+1) (cC A++d.cs)) (hg:w.grownBy w2 v7.ownBlock):zY w0 w2 v' v8 (A++[d]) N:=by
 have h1:=h.up (jK hw)
 refine ⟨?_,h1.n.kept hg (mA h1.f h1.n (by decide)),h1.bh.grown hg h1.bh.size (fun k e=>(h1.f.lt k e).1)⟩
 rw[zK,show cC (A++[d])=cC A++d.cs by simp[cC]]
 exact ho
def AZ (os:List ByteArray) (Z:List (Value×List Fd)) (i:Nat):List Fd×List ByteArray:=((Z.take i).map (·.2)).foldl (yu os) ([],[])
theorem Ox {os:List ByteArray}{Z:List (Value×List Fd)}{i:Nat}{z:Value×List Fd} (h:Z[i]?=some z):AZ os Z (i+1)=yu os (AZ os Z i) z.2:=by
 obtain ⟨hi,rfl⟩:=zB h
 unfold AZ
 rw[List.take_succ_eq_append_getElem hi,List.map_append,List.foldl_append]
 rfl
theorem S1 {os:List ByteArray}{Z:List (Value×List Fd)}{w:World} (h:Zp w Z) (i:Nat) (hi:i≤4096):(AZ os Z i).1.length≤16777216∧(AZ os Z i).2.length≤4096:=by
 have h1:=uO os ((Z.take i).map (·.2)) ([],[]) (fun G hG=>by
  obtain ⟨z,hz,rfl⟩:=List.mem_map.1 hG
  exact (h.ne z (List.mem_of_mem_take hz)).2)
 rw[List.length_map,List.length_take] at h1
 unfold AZ
 simp only[List.length_nil] at h1
 omega
theorem mC {w:World}{B t k n:Nat}{v:Value}{xs:List Value} (h:w.ownsRow B t k v n xs) (hn:0<n):∃g c,v=.slice (some ⟨g,0,none⟩) n c∧g<w.heap.size∧∀j x,xs[j]?=some x→w.cell? ⟨g,j,none⟩=some x:=by
 obtain ⟨h1,⟨_,h0⟩|⟨g,cap,cur,rfl,h2,h3,h4,h5,h6,h7⟩⟩:=h
 ·omega
 ·refine ⟨g,cap,rfl,(zA h3).1,fun j x hx=>?_⟩
  rw[cell_of_row _ _ _ _ _ _ h3,←Array.getElem?_toList]
  rw[←h7,List.getElem?_take] at hx
  split at hx
  ·exact hx
  ·cases hx
def PlQ (os:List ByteArray) (d0:Fd) (N N':List ByteArray) (pl:Int):Prop:=N'.length≤4097∧(d0.aH=0→pl=0∧N'=N)∧(d0.aH≠0→pl=((N.length+1:Nat):Int)∧N'=N++[os.getD (d0.aH.toNat-1) ⟨#[]⟩])
theorem Kw (d:Fd) (h1:nZ d.key) (h2:nZ d.ty) (h3:nZ d.name) (o:Int) (w0:World):Calls Tryz.prog 197 #[.agg #[.int .i64 d.aZ,.string d.key,.string d.ty,.string d.name,.int .i64 d.num,.int .i64 d.aH],.int .i64 o] w0 fun e w=>e=.returned (.agg #[.int .i64 d.aZ,.string d.key,.string d.ty,.string d.name,.int .i64 d.num,.int .i64 o])∧Below w0.heap.size w0 w:=De d h1 h2 h3 o w0
def SfQ (w0:World) (fs:List Fd) (os:List ByteArray) (e:Ending) (w:World):Prop:=∃u1 u2,e=.returned (.tuple #[u1,u2])∧zY w0 w u1 u2 (eF fs os).1 (eF fs os).2
theorem pM {W:World}{vf vo:Value}{fs:List Fd}{os:List ByteArray} (hf:Rl W vf fs.length (cC fs)) (ho:Rl W vo os.length (bj os)) (h1:fs.length≤4096) (h2:∀d ∈ fs,(nZ d.key∧nZ d.ty∧nZ d.name)∧(d.aH≠0→1≤d.aH∧d.aH≤os.length)) (h3:os.length≤4096) (h4:∀s ∈ os,nZ s) (w0:World) (hw:Below W.heap.size W w0) :
  Calls Tryz.prog 127 #[vf,vo] w0 (SfQ w0 fs os):=by
 have jN:=yW fs
 have nW:=o0 fs fs.length (zD _)
 rw[List.take_length] at nW
 have HB:=ak (vN hf h1 w0 hw)
 have HI:Hid (∀(w1:World) (u:Value) (us:List Value),Gr w0.heap.size w1 u (ck fs) us→Calls Tryz.prog 191 #[u,.func (.func 192) #[] #[]] w1 fun e w=>∃u' Z,e=.returned u'∧w.ownsRow w1.heap.size 54 1 u' Z.length (Z.map (·.1))∧Z.map (·.2)=(ck fs).map pJ∧Zp w Z∧Below w1.heap.size w1 w) :=
  fun w1 u us hG=>A1 hG (by omega) (fun G hG=>⟨(jN G hG).1,by have:=nW.2 G hG;omega⟩)
 have HF:Hid (∀(w2:World) (u:Value) (Z:List (Value×List Fd)) (B:Nat),w2.ownsRow B 54 1 u Z.length (Z.map (·.1))→Z.map (·.2)=(ck fs).map pJ→Zp w2 Z→Calls Tryz.prog 195 #[u,.func (.func 196) #[] #[]] w2 fun e w=>∃u' Z',e=.returned u'∧w.ownsRow w2.heap.size 54 1 u' Z'.length (Z'.map (·.1))∧Z'.map (·.2)=xu (ck fs)∧Zp w Z'∧Z'.length≤4096∧Below w2.heap.size w2 w):=by
  intro w2 u Z B ho he hZ
  have lz:Z.length=(ck fs).length:=by have:=congrArg List.length he;simpa using this
  refine (Bt hZ (by omega) ho).mono ?_
  rintro e w ⟨u',Z',rfl,k1,k2,k3,k4,k5⟩
  exact ⟨u',Z',rfl,k1,by rw[k2,he];rfl,k3,by omega,k5⟩
 have HM:Hid (∀G ∈ xu (ck fs),∀d ∈ G,(nZ d.key∧nZ d.ty∧nZ d.name)∧(d.aH≠0→1≤d.aH∧d.aH≤os.length)):=fun G hG d hd=>by
  obtain ⟨K,hK,rfl⟩:=List.mem_map.1 ((du _ _ _).1 hG)
  exact h2 d ((jN K hK).2 d ((du _ _ _).1 hd))
 have HW:=ak hw
 have H4:=ak h4
 have cK:=h3
 obtain ⟨ao,co,rfl,-,fg⟩:=ho
 have HO:=ak fg
 clear fg
 obtain ⟨af,cf,rfl,-,-⟩:=hf
 clear jN nW hw h1 h2 h3 h4
 go_enter Tryz.func127,Tryz.ntmps127
 go_wp2_with fail
 refine (ab HB).mono ?_
 rintro e w1 ⟨u1,us,rfl,hG,aY⟩
 have HK:=ak (ab HI w1 u1 us hG)
 obtain ⟨ag,ng,cg,rfl⟩:mq u1:=by obtain ⟨B,_,h⟩:=hG.row;exact fP h
 have ei:=ak aY
 clear hG aY HB HI
 go_wp2_with fail
 refine (ab HK).mono ?_
 rintro e w2 ⟨u2,Z,rfl,k1,k2,k3,b9⟩
 have jT:=ak (ab HF w2 u2 Z _ k1 k2 k3)
 obtain ⟨ah,nh,ch,rfl⟩:=fP k1
 have dF:=ak ((ab ei).trans (b9.mono (ab ei).size))
 clear k1 k2 k3 b9 HK HF ei
 go_wp2_with fail
 refine (ab jT).mono ?_
 rintro e w3 ⟨u3,Zs,rfl,k1,k2,k3,hlz,cY⟩
 have lG:=ak ((ab dF).trans (cY.mono (ab dF).size))
 have HR:=ak k1
 have HG:=ak k2
 have HZ:=ak k3
 obtain ⟨a3,c3,rfl⟩:=aN k1
 clear k1 k2 k3 cY jT dF
 obtain ⟨i0,hi,fX,gp,fJ⟩:=info_parts (SI.info .F)
 obtain ⟨j0,ki,kz0,kz1,kz2⟩:=info_parts (SI.info .S)
 go_wp2
 go_loopg [7,8,10,11,12,14,21] Zs.length (fun gk v7 v8 _ _ _ _ v21 wr=>∃i:Nat,v21=.int .i64 (i:Int)∧gk=Zs.length-i∧i≤Zs.length∧Hid (zY w3 wr v7 v8 (AZ os Zs i).1 (AZ os Zs i).2))
 case atStart=>exact ⟨0,rfl,rfl,Nat.zero_le _,⟨⟨rfl,.inl ⟨rfl,rfl⟩⟩,⟨rfl,.inl ⟨rfl,rfl⟩⟩,zE _ _⟩⟩
 case round =>
  obtain ⟨i,rfl,bd,aav,HA⟩:=hrel
  have bH:=ak bd
  clear bd
  by_cases aU:i<Zs.length
  ·obtain ⟨a7,c7,rfl⟩:=aN (ab HA).f
   obtain ⟨a8,c8,rfl⟩:=aN (ab HA).n
   obtain ⟨z,hz⟩:∃z,Zs[i]?=some z:=⟨_,List.getElem?_eq_getElem aU⟩
   have CH:=List.mem_of_getElem? hz
   have hsc:=Ox (os:=os) hz
   have aT:=S1 (os:=os) (ab HZ) i (by omega)
   obtain ⟨g3,Pq,e3,Pa,Tw⟩:=mC (ab HR) (by omega)
   injection e3 with e3 _ e4
   subst e3
   subst e4
   obtain ⟨zv,G⟩:=z
   have VU:=(ab HZ).ne _ CH
   have cU:=(ab HZ).own _ CH
   have bQ:=ab HM G (by rw[←ab HG];exact List.mem_map.2 ⟨_,CH,rfl⟩)
   obtain ⟨gz,cz,ez,hgz,hcz⟩:=mC cU.1 (by rcases G with _|⟨d,r⟩;exact absurd rfl VU.1;simp)
   simp only at ez hsc VU
   subst ez
   obtain ⟨d0,r0,kF⟩:∃d r,G=d::r:=by
    rcases G with _|⟨d,r⟩
    ·exact absurd rfl VU.1
    ·exact ⟨d,r,rfl⟩
   have x0:=((ab HA).bh.cell (p:=⟨g3,i,none⟩) Pa).trans (Tw i _ (by rw[List.getElem?_map,hz];rfl))
   have y5:=((ab HA).bh.cell (p:=⟨gz,5,none⟩) hgz).trans (hcz 5 (.int .i64 d0.aH) (by rw[kF];rfl))
   simp only at x0
   have Vx:0<G.length:=by rw[kF];simp
   have Vw:=VU.2
   obtain ⟨m,hm⟩:∃m,G.length=m:=⟨_,rfl⟩
   have Yw:=ak hm
   rw[hm] at Vx Vw x0
   obtain ⟨A,hA⟩:∃A,(AZ os Zs i).1=A:=⟨_,rfl⟩
   obtain ⟨N,hN⟩:∃N,(AZ os Zs i).2=N:=⟨_,rfl⟩
   rw[hA,hN] at HA aT ⊢
   have HAN:=ak (And.intro hA hN)
   have Hsc:=ak hsc
   have YB:=ak aT
   have WQ:=ak bQ
   have YH:=ak kF
   have TW:=ak hcz
   have TV:=ak hgz
   have bn:=ak aU
   have aa7:i≤4096:=by omega
   have ii0:(0:Int)≤(i:Int):=zH _
   have ii1:(i:Int)<(Zs.length:Int):=by omega
   have mm0:(0:Int)<(m:Int):=by omega
   clear hz CH hsc aT Tw VU cU bQ hcz kF hA hN Pa hgz aU hm
   go_upto_if 30 with fail
   go_cut [8,11] from 30 to 41 (fun v8 v11 wx=>∃(N':List ByteArray) (pl:Int),v11=.int .i64 pl∧Hid (PlQ os d0 N N' pl)∧Hid (zY w3 wx (.slice a7 A.length c7) v8 A N'))
   case first =>
    by_cases ho:d0.aH=0
    ·have hbz:(d0.aH != 0)=false:=by simp[ho]
     have HP:Hid (PlQ os d0 N N 0):=⟨by have:=(ab YB).2;omega,fun _=>⟨rfl,rfl⟩,fun h=>absurd ho h⟩
     clear ho
     go_wp2
     go_meet
     exact ⟨N,0,rfl,HP,HA⟩
    ·have XM:=(ab WQ d0 (by rw[ab YH];simp)).2 ho
     obtain ⟨k,hk⟩:∃k:Nat,d0.aH=((k+1:Nat):Int):=⟨(d0.aH-1).toNat,by omega⟩
     have Rb:k<os.length:=by omega
     obtain ⟨sn,QW⟩:∃s,os[k]?=some s:=⟨_,List.getElem?_eq_getElem Rb⟩
     obtain ⟨gn,on,rfl,Np,XX⟩:=ab HO (by omega)
     have z0:=(((ab HW).trans (((ab lG).trans ((ab HA).bh.mono (ab lG).size)).mono (ab HW).size)).cell (p:=⟨gn,on+k,none⟩) Np).trans (XX k _ (gJ QW))
     have wg:os.getD (d0.aH.toNat-1) ⟨#[]⟩=sn:=by
      rw[hk,List.getD_eq_getElem?_getD,show ((k+1:Nat):Int).toNat-1=k by omega,QW]
      rfl
     have hbz:(d0.aH != 0)=true:=by simp[ho]
     have hwz:IntKind.i64.wrap (d0.aH-1)=(k:Int):=by rw[IntKind.wrap_i64];omega
     have Yr:=ak (ab H4 sn (List.mem_of_getElem? QW))
     have HP:Hid (PlQ os d0 N (N++[sn]) ((N.length:Int)+1)):=⟨by have:=(ab YB).2;rw[zK];simp;omega,fun h=>absurd h ho,fun _=>⟨by push_cast;rfl,by rw[wg]⟩⟩
     have kk0:(0:Int)≤(k:Int):=zH _
     have kk1:(k:Int)<(os.length:Int):=by omega
     have kk2:k≤4096:=by omega
     have nn2:=(ab YB).2
     clear XM hk QW XX Np wg ho
     go_wp2_with fail
     refine (eh _ sn (ab Yr)).mono ?_
     rintro e w5 ⟨rfl,hb⟩
     have HX:=ak ((ab HA).up hb)
     clear hb
     go_wp2_with (at_builtin;refine wpList_append_own_at _ rfl _ _ 22 rfl w3.heap.size 9 j0 (SI.z .S) 1 (SI.by .S) Tryz.underlying22 ki kz0 kz1 kz2 rfl (by decide) _ _ _ rfl ((ab HX).n.alloc _) ⟨w5.heap.size,0,none⟩ 1 1 [.string sn] rfl rfl (cD w5 [.string sn] _) (by simp[Value.oneCell']) (by simp only[maxLen];omega) (by show (N.length+1)*16≤_;omega) (by rw[zJ];have:=(ab HX).bh.size;omega) ?_;intro v' w6 ho cE _ _;obtain ⟨av,cv,rfl⟩:=aN ho;have HN:=ak ((ab HX).addN (World.grownBy_alloc w5 _ none) ho cE);clear ho cE)
     go_meet
     exact ⟨N++[sn],_,rfl,HP,by show zY _ _ _ _ _ _;exact ab HN⟩
   case rest =>
    obtain ⟨N',pl,rfl,HP,SU⟩:=hcut
    obtain ⟨a9,c9,rfl⟩:=aN (ab SU).n
    clear HA x0 y5
    go_wp2
    go_loopg [7,14,44] m (fun gk v7 _ v44 wq=>∃j:Nat,v44=.int .i64 (j:Int)∧gk=m-j∧j≤m∧Hid (zY w3 wq v7 (.slice a9 N'.length c9) (A++(G.take j).map (pZ pl)) N'))
    case atStart=>exact ⟨0,rfl,rfl,Nat.zero_le _,by show zY _ _ _ _ _ _;simpa using ab SU⟩
    case round =>
     obtain ⟨j,rfl,bd,abq,HQ⟩:=hrel
     have jR:=ak bd
     clear bd
     by_cases XU:j<m
     ·obtain ⟨d,hd⟩:∃d,G[j]?=some d:=⟨_,List.getElem?_eq_getElem (by have:=ab Yw;omega)⟩
      have GO:=(ab WQ d (List.mem_of_getElem? hd)).1
      obtain ⟨Q,hQ⟩:∃Q,A++(G.take j).map (pZ pl)=Q:=⟨_,rfl⟩
      have nW:Q.length≤16781312:=by rw[←hQ,zK,List.length_map,List.length_take];have:=(ab YB).1;omega
      rw[hQ] at HQ
      have HQe:=ak hQ
      clear hQ
      obtain ⟨a7',c7',rfl⟩:=aN (ab HQ).f
      have y0:=((ab HQ).bh.cell (p:=⟨gz,j*6+0,none⟩) (ab TV)).trans (ab TW _ _ ((da hd (j:=0) (by decide)).trans rfl))
      have y1:=((ab HQ).bh.cell (p:=⟨gz,j*6+1,none⟩) (ab TV)).trans (ab TW _ _ ((da hd (j:=1) (by decide)).trans rfl))
      have y2:=((ab HQ).bh.cell (p:=⟨gz,j*6+2,none⟩) (ab TV)).trans (ab TW _ _ ((da hd (j:=2) (by decide)).trans rfl))
      have y3:=((ab HQ).bh.cell (p:=⟨gz,j*6+3,none⟩) (ab TV)).trans (ab TW _ _ ((da hd (j:=3) (by decide)).trans rfl))
      have y4:=((ab HQ).bh.cell (p:=⟨gz,j*6+4,none⟩) (ab TV)).trans (ab TW _ _ ((da hd (j:=4) (by decide)).trans rfl))
      have y5:=((ab HQ).bh.cell (p:=⟨gz,j*6+5,none⟩) (ab TV)).trans (ab TW _ _ ((da hd (j:=5) (by decide)).trans rfl))
      rw[Nat.add_zero] at y0
      have cy:=aE wr (.cells #[.int .i64 d.aZ,.string d.key,.string d.ty,.string d.name,.int .i64 d.num,.int .i64 d.aH] 53)
      have bq:Below wr.heap.size wr (wr.alloc (.cells #[.int .i64 d.aZ,.string d.key,.string d.ty,.string d.name,.int .i64 d.num,.int .i64 d.aH] 53)):=(zE _ _).alloc (zD _) _
      obtain ⟨V,hV⟩:∃V,wr.alloc (.cells #[.int .i64 d.aZ,.string d.key,.string d.ty,.string d.name,.int .i64 d.num,.int .i64 d.aH] 53)=V:=⟨_,rfl⟩
      rw[hV] at cy bq
      have b0:V.cell? ⟨wr.heap.size,0,none⟩=some (.int .i64 d.aZ):=cell_of_row _ _ _ _ _ _ cy
      have b1:V.cell? ⟨wr.heap.size,1,none⟩=some (.string d.key):=cell_of_row _ _ _ _ _ _ cy
      have b2:V.cell? ⟨wr.heap.size,2,none⟩=some (.string d.ty):=cell_of_row _ _ _ _ _ _ cy
      have b3:V.cell? ⟨wr.heap.size,3,none⟩=some (.string d.name):=cell_of_row _ _ _ _ _ _ cy
      have b4:V.cell? ⟨wr.heap.size,4,none⟩=some (.int .i64 d.num):=cell_of_row _ _ _ _ _ _ cy
      have b5:V.cell? ⟨wr.heap.size,5,none⟩=some (.int .i64 d.aH):=cell_of_row _ _ _ _ _ _ cy
      have HQV:=ak ((ab HQ).up bq)
      have HC:=ak (Kw d GO.1 GO.2.1 GO.2.2 pl V)
      have Hd:=ak hd
      have Hjl:=ak XU
      have jj0:(0:Int)≤(j:Int):=zH _
      have jj1:(j:Int)<(m:Int):=by omega
      have pw:=ak nW
      clear hd GO cy bq HQ nW XU
      go_wp2_with fail
      refine (ab HC).mono ?_
      rintro e w5 ⟨rfl,hb⟩
      have HX:=ak ((ab HQV).up hb)
      clear hb HC HQV
      go_wp2_with (at_builtin;refine wpList_append_own_at _ rfl _ _ 54 rfl w3.heap.size 53 i0 (SI.z .F) 6 (SI.by .F) Tryz.underlying54 hi fX gp fJ rfl (by decide) _ _ _ rfl ((ab HX).f.alloc _) ⟨w5.heap.size,0,none⟩ 1 1 (pZ pl d).cs rfl rfl (cD w5 _ _) (C9 _) (by have:=ab pw;simp only[maxLen];omega) (by have:=ab pw;show (_+1)*72≤_;omega) (by rw[zJ];have:=(ab HX).bh.size;omega) ?_;intro v' w6 ho cE _ _;have HN:=ak ((ab HX).aaK (World.grownBy_alloc w5 _ none) ho cE);clear ho cE)
      go_roundg (m-(j+1))
      case measure=>have:=ab jR;have:=ab Hjl;omega
      case rel =>
       refine ⟨j+1,by go_num,rfl,ab Hjl,?_⟩
       have e:A++(G.take (j+1)).map (pZ pl)=Q++[pZ pl d]:=by
        rw[dB (ab Hd),List.map_append,←ab HQe,List.append_assoc]
        rfl
       show zY _ _ _ _ _ _
       rw[e]
       exact ab HN
     ·obtain rfl:j=m:=by omega
      have hQ:=ab HQ
      rw[←ab Yw,List.take_length] at hQ
      have hN:AZ os Zs (i+1)=(A++G.map (pZ pl),N'):=by
       rw[ab Hsc,show AZ os Zs i=(A,N) from Prod.ext (ab HAN).1 (ab HAN).2,ab YH]
       show (if d0.aH=0 then (A++(d0::r0).map (pZ 0),N) else (A++(d0::r0).map (pZ ((N.length+1:Nat):Int)),N++[os.getD (d0.aH.toNat-1) ⟨#[]⟩]))=_
       obtain ⟨-,p1,p2⟩:=ab HP
       by_cases h:d0.aH=0
       ·rw[if_pos h,(p1 h).1,(p1 h).2]
       ·rw[if_neg h,(p2 h).1,(p2 h).2]
      have e1:(AZ os Zs (i+1)).1=A++G.map (pZ pl):=by rw[hN]
      have e2:(AZ os Zs (i+1)).2=N':=by rw[hN]
      have HN:=ak hQ
      have He:=ak (And.intro e1 e2)
      clear hQ hN e1 e2
      go_wp2
      go_roundg (Zs.length-(i+1))
      case measure=>have:=ab bH;have:=ab bn;omega
      case rel=>exact ⟨i+1,by go_num,rfl,ab bn,by show zY _ _ _ _ _ _;rw[(ab He).1,(ab He).2];exact ab HN⟩
  ·obtain rfl:i=Zs.length:=by omega
   have hA:=ab HA
   have e:AZ os Zs Zs.length=eF fs os:=by unfold AZ eF;rw[List.take_length,ab HG]
   rw[e] at hA
   have hb:=(ab lG).trans (hA.bh.mono (ab lG).size)
   have HE:=ak (show zY w0 wr _ _ (eF fs os).1 (eF fs os).2 from ⟨kk hA.f (ab lG).size,kk hA.n (ab lG).size,hb⟩)
   clear hA hb e
   go_wp2
   go_ret2
   exact ⟨_,_,rfl,ab HE⟩
end Go.Proofs.YtghioefalckgoaaGreatDoor
