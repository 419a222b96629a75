import Derived.Test.YtmlphohdcejniaaGreatDoorM35
set_option maxHeartbeats 2000000
set_option maxRecDepth 100000
namespace Go.Proofs.YtmlphohdcejniaaGreatDoor
open Go.RowKit
attribute [local go_sem ↓] Go.wp_at_zero Go.wp_at_succ
theorem Si:(Tryz.prog.info? 111).map (fun i=>(i.zero,i.size,i.bytes))=some (some (.agg #[.int .i64 0,.int .i64 0]),2,16):=by kernel_rfl
theorem Fv {l:List (Int×Int)}{i:Nat}{r:Int×Int} (h:l[i]?=some r):(kz l)[i*2+0]?=some (.int .i64 r.1)∧(kz l)[i*2+1]?=some (.int .i64 r.2):=by
 have:=vh l i r h
 exact ⟨by rw[Nat.add_zero];exact this.1,this.2⟩
theorem x8 {W:World}{v:Value}{l:List ByteArray} (hv:Rl W v l.length (bS l)) (hl:l.length≤1048576) (hz:∀x ∈ l,x.size≤1048576) (w0:World) (hw:Below W.heap.size W w0) :
  Calls Tryz.prog 38 #[v] w0 fun e w=>(∃u l',e=.returned u∧w.ownsRow w0.heap.size 9 1 u l.length (bS l')∧l'.length=l.length∧∀x ∈ l',aU x)∧Below w0.heap.size w0 w:=by
 obtain ⟨a,c,rfl,hn,h2⟩:=hv
 obtain ⟨i0,hi,nD,nC,oK⟩:=info_parts Lb
 have H2:=aj h2
 have HW:=aj hw
 have Hl:=aj hl
 have Hz:=aj hz
 clear h2 hw hl hz
 go_enter Tryz.func38,Tryz.ntmps38
 go_wp2
 go_loopg [3,4] l.length (fun gk v3 v4 wr=>∃(i:Nat) (acc:List ByteArray),v4=.int .i64 (i:Int)∧gk=l.length-i∧i≤l.length∧Hid (acc.length=i∧∀x ∈ acc,aU x)∧Hid (wr.ownsRow w0.heap.size 9 1 v3 i (bS acc))∧Hid (Below w0.heap.size w0 wr))
 case atStart=>exact ⟨0,[],rfl,rfl,by omega,⟨rfl,fun x hx=>by cases hx⟩,⟨rfl,.inl ⟨rfl,rfl⟩⟩,zE _ _⟩
 case round =>
  obtain ⟨i,acc,rfl,eN,pC,HA,HO,HB⟩:=hrel
  have fQ:=aj eN
  clear eN
  obtain ⟨ao,co,rfl⟩:=bj (aa HO)
  by_cases cc:i<l.length
  ·obtain ⟨g,o,rfl,hg,hc⟩:=aa H2 (by omega)
   obtain ⟨r,hr⟩:∃r,l[i]?=some r:=⟨_,List.getElem?_eq_getElem cc⟩
   have kp:=aj (show Below W.heap.size W wr from (aa HW).trans ((aa HB).mono (aa HW).size))
   have x0:=((aa kp).cell (p:=⟨g,o+i,none⟩) hg).trans (hc _ _ (jw _ _ _ hr))
   have HRs:=aj (aa Hz r (List.mem_of_getElem? hr))
   have i0':(0:Int)≤(i:Int):=zH _
   have i1:(i:Int)<(l.length:Int):=by omega
   have dA:=aj cc
   clear hc hr kp cc
   go_wp2_with fail
   refine (fM wr r (by have:=aa HRs;omega)).mono ?_
   rintro e w1 ⟨⟨y,hy,rfl⟩,bC⟩
   have HO1:=aj (ct (aa HO) bC)
   have mB:=aj ((aa HB).trans (bC.mono (aa HB).size))
   have qS:=aj (aa mB).size
   have HY:=aj hy
   clear bC hy x0
   go_wp2_with (at_builtin;refine wpList_append_own_at _ rfl _ _ 22 rfl w0.heap.size 9 i0 (.string ByteArray.empty) 1 16 Tryz.underlying22 hi nD nC oK rfl (by decide) _ _ _ rfl ((aa HO1).alloc _) ⟨w1.heap.size,0,none⟩ 1 1 [.string y] rfl rfl (jS _ _ _) (by simp[Value.oneCell']) (by have:=aa dA;unfold maxLen;omega) (by have:=aa dA;have:=aa Hl;omega) (by rw[zJ];have:=aa qS;omega) ?_;intro v' w2 ho dP _ _;have A6:=aj ho;have iU:=aj (((aa mB).alloc (aa mB).size _).grown dP (by rw[zJ];have:=aa qS;omega) (fun k e=>((aa HO1).lt k e).1));clear ho dP)
   go_roundg (l.length-(i+1))
   case measure=>have:=aa fQ;have:=aa dA;omega
   case rel =>
    refine ⟨i+1,acc++[y],by go_num,rfl,aa dA,⟨by rw[zK,(aa HA).1];rfl,fun z hz=>?_⟩,by rw[uV];exact A6,iU⟩
    rcases List.mem_append.1 hz with hz|hz
    ·exact (aa HA).2 z hz
    ·rw[List.mem_singleton.1 hz];exact aa HY
  ·obtain rfl:i=l.length:=by omega
   go_wp2
   go_ret
   exact ⟨⟨_,acc,rfl,aa HO,(aa HA).1,(aa HA).2⟩,aa HB⟩
def AP (lo hi:Int) (l:List (Int×Int)):Prop:=∀p ∈ l,lo≤p.1∧p.1≤p.2∧p.2≤hi
theorem Ot {w:World}{x y:Int} (b:Nat) (h:w.heap[b]?=some (.cells #[.int .i64 x,.int .i64 0] 111 (0,0))):(w.setCell ⟨b,1,none⟩ (.int .i64 y)).heap[b]?=some (.cells #[.int .i64 x,.int .i64 y] 111 (0,0))∧w.grownBy (w.setCell ⟨b,1,none⟩ (.int .i64 y)) (some b):=aJ (j:=1) h (.int .i64 y)
theorem BB {lo hi:Int} (dr:-2147483648≤lo) (hhi:hi≤2147483647) (hlh:lo≤hi) {W:World}{v:Value}{l:List (Int×Int)} (hv:Rl W v l.length (kz l)) (hl:l.length≤1048576) (hz:∀p ∈ l,kQ p.1∧kQ p.2) (w0:World) (hw:Below W.heap.size W w0) :
  Calls Tryz.prog 37 #[v,.int .i64 lo,.int .i64 hi] w0 fun e w=>(∃u l',e=.returned u∧w.ownsRow w0.heap.size 111 2 u l.length (kz l')∧l'.length=l.length∧AP lo hi l')∧Below w0.heap.size w0 w:=by
 obtain ⟨a,c,rfl,hn,h2⟩:=hv
 obtain ⟨i0,WO,nD,nC,oK⟩:=info_parts Si
 have H2:=aj h2
 have HW:=aj hw
 have Hl:=aj hl
 have Hz:=aj hz
 have Yn:=aj (And.intro dr (And.intro hhi hlh))
 clear h2 hw hl hz dr hhi hlh
 go_enter Tryz.func37,Tryz.ntmps37
 go_wp2
 go_loopg [7,8,9] l.length (fun gk v7 v8 _ wr=>∃(i:Nat) (acc:List (Int×Int)),v8=.int .i64 (i:Int)∧gk=l.length-i∧i≤l.length∧Hid (acc.length=i∧AP lo hi acc)∧Hid (wr.ownsRow w0.heap.size 111 2 v7 i (kz acc))∧Hid (Below w0.heap.size w0 wr))
 case atStart=>exact ⟨0,[],rfl,rfl,by omega,⟨rfl,fun x hx=>by cases hx⟩,⟨rfl,.inl ⟨rfl,rfl⟩⟩,zE _ _⟩
 case round =>
  obtain ⟨i,acc,rfl,eN,pC,HA,HO,HB⟩:=hrel
  have fQ:=aj eN
  clear eN
  obtain ⟨ao,co,rfl⟩:=bj (aa HO)
  by_cases cc:i<l.length
  ·obtain ⟨g,o,rfl,hg,hc⟩:=aa H2 (by omega)
   obtain ⟨r,hr⟩:∃r,l[i]?=some r:=⟨_,List.getElem?_eq_getElem cc⟩
   have kp:=aj (show Below W.heap.size W wr from (aa HW).trans ((aa HB).mono (aa HW).size))
   have iu:Hid (∀w',Below W.heap.size W w'→w'.cell? ⟨g,o+i*2,none⟩=some (.int .i64 r.1)∧w'.cell? ⟨g,o+i*2+1,none⟩=some (.int .i64 r.2)):=fun w' hb =>
    ⟨(hb.cell (p:=⟨g,o+(i*2+0),none⟩) hg).trans (hc _ _ (Fv hr).1),(hb.cell (p:=⟨g,o+(i*2+1),none⟩) hg).trans (hc _ _ (Fv hr).2)⟩
   obtain ⟨x0,x1⟩:=aa iu wr (aa kp)
   obtain ⟨z1,z2⟩:=aa Hz r (List.mem_of_getElem? hr)
   have HZ1:=aj z1
   have HZ2:=aj z2
   have i0':(0:Int)≤(i:Int):=zH _
   have i1:(i:Int)<(l.length:Int):=by omega
   have dA:=aj cc
   clear hc hr cc z1 z2
   go_wp2_with fail
   refine (dZ wr (aa HZ1) (aa Yn).1 (aa Yn).2.2 (aa Yn).2.1).mono ?_
   rintro e w1 ⟨⟨x,hx,rfl⟩,nE⟩
   obtain rfl:wr=w1:=nE.symm
   have HX:=aj hx
   clear hx x0 x1 nE
   go_upto_region 6 with fail
   have ba:Below wr.heap.size wr (wr.alloc (.cells #[.int .i64 x,.int .i64 0] 111)):=(zE _ _).alloc (zD _) _
   have bo:=aC wr (.cells #[.int .i64 x,.int .i64 0] 111)
   have bR:=zJ wr (.cells #[.int .i64 x,.int .i64 0] 111)
   obtain ⟨V,hV⟩:∃V,wr.alloc (.cells #[.int .i64 x,.int .i64 0] 111)=V:=⟨_,rfl⟩
   rw[hV] at ba bo bR ⊢
   clear hV
   have HBV:=aj (show Below W.heap.size W V from (aa kp).trans (ba.mono (aa kp).size))
   have HOV:=aj (ct (aa HO) ba)
   have Rc:=aj ((aa HB).trans (ba.mono (aa HB).size))
   obtain ⟨b,hb⟩:∃b,wr.heap.size=b:=⟨_,rfl⟩
   have Q6:=aj (aa HB).size
   have eo:∀k,(Value.slice ao i co).ownBlock=some k→k<wr.heap.size:=fun k e=>((aa HO).lt k e).2
   rw[hb] at bo bR Q6 eo ⊢
   have Yk:=aj (show (Value.slice ao i co).ownBlock≠some b from fun e=>by have:=eo b e;omega)
   clear eo
   have HK:=aj (And.intro bo bR)
   clear ba bo bR hb
   refine wp_region_any (by kernel_rfl) (ck (z:=99) (T:=fun w'=>Below W.heap.size W w'∧w'.cell? ⟨b,0,none⟩=some (.int .i64 x)) _ _ _ _ ?_)
   try (change cL _ _ _ _ _ _ _ _ _ (World.drew _))
   have aX:Below W.heap.size W V.drew:=below_drewN (aa HBV) 1
   have bo:V.drew.heap[b]?=some (.cells #[.int .i64 x,.int .i64 0] 111 (0,0)):=(aa HK).1
   have hO:V.drew.ownsRow w0.heap.size 111 2 (.slice ao i co) i (kz acc):=ct (aa HOV) (below_drewN (zE V.heap.size V) 1)
   have hB:Below w0.heap.size w0 V.drew:=below_drewN (aa Rc) 1
   obtain ⟨wd,jb⟩:∃x,V.drew=x:=⟨_,rfl⟩
   rw[jb] at aX bo hO hB ⊢
   have hT:(fun w':World=>Below W.heap.size W w'∧w'.cell? ⟨b,0,none⟩=some (.int .i64 x)) wd:=⟨aX,cell_of_row _ _ _ _ _ _ bo⟩
   refine aq 0 (.slice (some ⟨g,o,none⟩) l.length c) 25 rfl rfl (Or.inl ⟨by rfl,fun w' hw=>by obtain ⟨Jm,Ss⟩:=hw;obtain ⟨x0,x1⟩:=aa iu w' Jm;go_simp⟩) hT ?_
   simp only[Act.put,zL,zM,zN]
   refine aq 1 (.int .i64 (i:Int)) 26 rfl rfl (Or.inl ⟨by rfl,fun w' hw=>by obtain ⟨Jm,Ss⟩:=hw;obtain ⟨x0,x1⟩:=aa iu w' Jm;go_simp⟩) hT ?_
   simp only[Act.put,zL,zM,zN]
   refine aq 2 (.pointer (some ⟨g,o+i*2,none⟩)) 27 rfl rfl (Or.inl ⟨by rfl,fun w' hw=>by obtain ⟨Jm,Ss⟩:=hw;obtain ⟨x0,x1⟩:=aa iu w' Jm;go_simp⟩) hT ?_
   simp only[Act.put,zL,zM,zN]
   refine aq 3 (.pointer (some ⟨g,o+i*2+1,none⟩)) 28 rfl rfl (Or.inl ⟨by rfl,fun w' hw=>by obtain ⟨Jm,Ss⟩:=hw;obtain ⟨x0,x1⟩:=aa iu w' Jm;go_simp⟩) hT ?_
   simp only[Act.put,zL,zM,zN]
   refine aq 4 (.int .i64 r.2) 29 rfl rfl (Or.inl ⟨by rfl,fun w' hw=>by obtain ⟨Jm,Ss⟩:=hw;obtain ⟨x0,x1⟩:=aa iu w' Jm;go_simp⟩) hT ?_
   simp only[Act.put,zL,zM,zN]
   refine aq 5 (.pointer (some ⟨b,0,none⟩)) 30 rfl rfl (Or.inl ⟨by rfl,fun w' hw=>by obtain ⟨Jm,Ss⟩:=hw;go_simp⟩) hT ?_
   simp only[Act.put,zL,zM,zN]
   refine aq 6 (.int .i64 x) 31 rfl rfl (Or.inl ⟨by rfl,fun w' hw=>by obtain ⟨Jm,Ss⟩:=hw;go_simp⟩) hT ?_
   simp only[Act.put,zL,zM,zN]
   refine aq 7 (.int .i64 hi) 32 rfl rfl (Or.inl ⟨by rfl,fun w' hw=>by obtain ⟨Jm,Ss⟩:=hw;go_simp⟩) hT ?_
   simp only[Act.put,zL,zM,zN]
   refine ay 8 (by kernel_rfl) rfl (fun K hK=>?_)
   refine aN 33 rfl rfl 11 (fun vs=>by kernel_rfl) #[.tmp 29,.tmp 31,.tmp 32] #[3,3,3] rfl #[.int .i64 r.2,.int .i64 x,.int .i64 hi] (by first|rfl|simp[Act.eval]) (dZ wd (aa HZ2) (by have:=(aa HX).1;have:=(aa Yn).1;omega) (aa HX).2 (aa Yn).2.1) ?_
   rintro e' wc ⟨⟨y,hy,rfl⟩,vW⟩
   obtain rfl:wd=wc:=vW.symm
   refine ⟨_,rfl,hK _ _ ⟨fun _=>hT,?_⟩⟩
   clear hK K vW
   simp only[Act.put,zL,zM,zN]
   refine ay 9 (by kernel_rfl) rfl (fun K hK=>?_)
   go_simp
   refine hK _ _ ⟨fun _=>hT,?_⟩
   clear hK K
   refine ay 10 (by kernel_rfl) rfl (fun K hK=>?_)
   have SQ:wd.cell? ⟨b,1,none⟩=some (.int .i64 0):=cell_of_row _ _ _ _ _ _ bo
   have UI:wd.frozen? ⟨b,1,none⟩=false:=by simp[World.frozen?,bo]
   obtain ⟨jE,dP⟩:=Ot (y:=y) b bo
   go_simp
   have Xb:=aX.grown dP (by have:=(aa HK).2;have:=aX.size;have:=(aa HBV).size;have:=(aa HW).size;omega) (fun k e=>by obtain rfl:=zC e;have:=(aa HW).size;have:=aa Q6;omega)
   refine hK _ _ ⟨fun _=>⟨Xb,cell_of_row _ _ _ _ _ _ jE⟩,?_⟩
   clear hK K
   refine bn (by kernel_rfl) ?_
   have A6:=aj (hO.kept dP (.inr (aa Yk)))
   have iU:=aj (hB.grown dP hB.size (fun k e=>by obtain rfl:=zC e;exact aa Q6))
   obtain ⟨W2,El⟩:∃W2,wd.setCell ⟨b,1,none⟩ (.int .i64 y)=W2:=⟨_,rfl⟩
   rw[El] at A6 iU jE ⊢
   have HY:=aj hy
   have e0:W2.cell? ⟨b,0,none⟩=some (.int .i64 x):=cell_of_row _ _ _ _ _ _ jE
   have e1:W2.cell? ⟨b,1,none⟩=some (.int .i64 y):=cell_of_row _ _ _ _ _ _ jE
   have za:=aj (aa iU).size
   clear hT aX Xb bo jE hO hB SQ UI dP El jb hy
   go_wp2_with (at_builtin;refine wpList_append_own_at _ rfl _ _ 62 rfl w0.heap.size 111 i0 (.agg #[.int .i64 0,.int .i64 0]) 2 16 Tryz.underlying62 WO nD nC oK rfl (by decide) _ _ _ rfl ((aa A6).alloc _) ⟨W2.heap.size,0,none⟩ 1 1 [.int .i64 x,.int .i64 y] rfl rfl (yX _ _ _ _) (by simp[Value.oneCell']) (by have:=aa dA;unfold maxLen;omega) (by have:=aa dA;have:=aa Hl;omega) (by rw[zJ];have:=aa za;omega) ?_;intro v' w2 ho dP _ _;have U6:=aj ho;have Ji:=aj (((aa iU).alloc (aa iU).size _).grown dP (by rw[zJ];have:=aa za;omega) (fun k e=>((aa A6).lt k e).1));clear ho dP)
   go_roundg (l.length-(i+1))
   case measure=>have:=aa fQ;have:=aa dA;omega
   case rel =>
    refine ⟨i+1,acc++[(x,y)],by go_num,rfl,aa dA,⟨by rw[zK,(aa HA).1];rfl,fun z hz=>?_⟩,by rw[Fw];exact U6,Ji⟩
    rcases List.mem_append.1 hz with hz|hz
    ·exact (aa HA).2 z hz
    ·rw[List.mem_singleton.1 hz];exact ⟨(aa HX).1,(aa HY).1,(aa HY).2⟩
  ·obtain rfl:i=l.length:=by omega
   go_wp2
   go_ret
   exact ⟨⟨_,acc,rfl,aa HO,(aa HA).1,(aa HA).2⟩,aa HB⟩
end Go.Proofs.YtmlphohdcejniaaGreatDoor
namespace Go.Proofs.YtmlphohdcejniaaGreatDoor
open Go.RowKit
def zt:List (List Nat):=[[32],[10],[9,32],[47,42,32,125,32,42,47],[32,47,47,32,59,32,123,10],[32,32]]
theorem Ke {s:ByteArray}{p:Nat}{f R:List Nat} (hf:f ∈ zt) (h:(aG s).drop p=f++R):bz s s.size p=bz s s.size (p+f.length):=by
 simp only[zt,List.mem_cons,List.mem_nil_iff,or_false] at hf
 rcases hf with rfl|rfl|rfl|rfl|rfl|rfl
 ·exact pb h (by decide)
 ·exact pb h (by decide)
 ·exact (pb h (by decide)).trans (pb (cT (A:=[9]) h) (by decide))
 ·exact ps [32,125,32] R h (by simp[zT])
 ·exact (pb h (by decide)).trans ((pl [32,59,32,123] R (cT (A:=[32]) h) (by decide)).trans (pb (cT (A:=[32,47,47,32,59,32,123]) h) (by decide)))
 ·exact (pb h (by decide)).trans (pb (cT (A:=[32]) h) (by decide))
theorem Om:∀f ∈ zt,∀c ∈ f,c<128:=by decide
theorem On:∀f ∈ zt,f.length≤8:=by decide
theorem Kf:∀f ∈ zt,∃c r,f=c::r∧¬(isLet c∨bX c):=by
 intro f hf
 simp only[zt,List.mem_cons,List.mem_nil_iff,or_false] at hf
 rcases hf with rfl|rfl|rfl|rfl|rfl|rfl
 all_goals exact ⟨_,_,rfl,by unfold isLet bX;omega⟩
def Jq (w:Wd):Prop:=(w.1=1∧aU w.2)∨(w.1=2∧∃u,u≤2147483648∧w.2=dec u)∨(w.1=3∧∃q x,(q=39∨q=34)∧aU x∧w.2=lit q x)∨(w.1=4∧∃c:UInt8,w.2=⟨#[c]⟩∧iK c.toNat)
theorem IS (u:Nat):∀k,k<(dec u).size→bX (ax (dec u) k):=fun k hk=>Gf u _ (List.mem_of_getElem? (eJ (dec u) k hk))
theorem Ft {s:ByteArray} (h:∀k,k<s.size→isLet (ax s k)∨bX (ax s k)):dS s 0=s.size:=by
 have:=nt s s.size 0 (fun j hj=>⟨by omega,by rw[Nat.zero_add];exact h j hj⟩) (fun q=>by omega)
 rw[this]
 omega
theorem whole (s:ByteArray):s.extract 0 s.size=s:=by
 apply oV
 rw[bc,List.drop_zero,Nat.sub_zero,←bd,List.take_length]
theorem lr {w:Wd} (h:Jq w):∃k:Nat,w.1=(k:Int)∧k≠5∧zd w.2 ⟨k,0,w.2⟩ w.2.size∧(∀c ∈ aG w.2,c<128)∧w.2.size≤32:=by
 obtain ⟨k,x⟩:=w
 rcases h with ⟨h1,h2⟩|⟨h1,u,hu,h2⟩|⟨h1,q,y,hq,hy,h2⟩|⟨h1,c,h2,hc⟩
 ·simp only at h1 h2 ⊢
  obtain ⟨c1,c2⟩:=vE h2
  refine ⟨1,h1,by decide,⟨h2.2.1,?_,(whole x).symm,zD _,h2.2.1⟩,fun c hc=>?_,by have:=h2.2.2;omega⟩
  ·show dX x 0=(1,x.size,0)
   unfold dX
   rw[if_pos c2,Ft c1]
  ·have:=nf h2 c hc
   unfold isLet bX at this
   omega
 ·simp only at h1 h2 ⊢
  subst h2
  have hs:=CG hu
  have c1:=IS u
  refine ⟨2,h1,by decide,⟨hs.1,?_,(whole _).symm,zD _,hs.1⟩,fun c hc=>?_,by omega⟩
  ·show dX (dec u) 0=(2,(dec u).size,0)
   have h0:=c1 0 hs.1
   unfold dX
   rw[if_neg (by unfold isLet;unfold bX at h0;omega),if_pos h0,Ft (fun k hk=>.inr (c1 k hk)),whole,if_neg (by rw[My hu];exact Option.some_ne_none u)]
  ·have:=Gf u c hc
   omega
 ·simp only at h1 h2 ⊢
  subst h2
  have hs:=vM q y
  have h3:=hy.2
  have Jn:q.toNat=39∨q.toNat=34:=by rcases hq with rfl|rfl<;>decide
  refine ⟨3,h1,by decide,⟨by show 0<_;omega,?_,(whole _).symm,zD _,by show 0<_;omega⟩,FI hq hy,by omega⟩
  show dX (lit q y) 0=(3,(lit q y).size,0)
  unfold dX
  rw[B5,if_neg (by unfold isLet;omega),if_neg (by unfold bX;omega),if_pos Jn,K5 hq hy]
 ·simp only at h1 h2 ⊢
  subst h2
  have hb:ax ⟨#[c]⟩ 0=c.toNat:=rfl
  have hl:c.toNat<128∧¬isLet c.toNat∧¬bX c.toNat∧¬(c.toNat=39∨c.toNat=34):=by
   unfold iK at hc
   simp only[List.mem_cons,List.mem_nil_iff,or_false] at hc
   unfold isLet bX
   omega
  refine ⟨4,h1,by decide,⟨by show 0<1;decide,?_,(whole _).symm,zD _,by show 0<1;decide⟩,fun d hd=>?_,by show 1≤32;decide⟩
  ·show dX ⟨#[c]⟩ 0=(4,1,0)
   unfold dX
   rw[hb,if_neg hl.2.1,if_neg hl.2.2.1,if_neg hl.2.2.2,if_pos hc]
  ·have:d=c.toNat:=by simpa[aG] using hd
   omega
def jz:List (Wd×List Nat)→List Nat
 |[]=>[]
 |x::r=>aG x.1.2++(x.2++jz r)
def nY (ps:List (Wd×List Nat)):Prop:=∀x ∈ ps,Jq x.1∧x.2 ∈ zt
theorem BL:∀(a b:List (Wd×List Nat)),jz (a++b)=jz a++jz b
 |[],b=>rfl
 |w::a,b=>by
  show aG w.1.2++(w.2++jz (a++b))=aG w.1.2++(w.2++jz a)++jz b
  rw[BL a b]
  simp
theorem nY.app {a b:List (Wd×List Nat)} (h:nY a) (k:nY b):nY (a++b):=fun x hx=>(List.mem_append.1 hx).elim (h x) (k x)
theorem BK:∀(ps:List (Wd×List Nat)),nY ps→(jz ps).length≤40*ps.length
 |[],_=>Nat.zero_le _
 |w::r,h=>by
  obtain ⟨k,_,_,_,_,h2⟩:=lr (h w List.mem_cons_self).1
  have h3:=BK r (fun x hx=>h x (zF _ hx))
  have h4:=On _ (h w List.mem_cons_self).2
  show (aG w.1.2++(w.2++jz r)).length≤40*(r.length+1)
  rw[zK,zK,bd]
  omega
theorem vw:∀(ps:List (Wd×List Nat)),nY ps→∀c ∈ jz ps,c<128
 |[],_,c,hc=>by cases hc
 |w::r,h,c,hc=>by
  obtain ⟨k,_,_,_,h2,_⟩:=lr (h w List.mem_cons_self).1
  rcases List.mem_append.1 hc with hc|hc
  ·exact h2 c hc
  ·rcases List.mem_append.1 hc with hc|hc
   ·exact Om _ (h w List.mem_cons_self).2 c hc
   ·exact vw r (fun x hx=>h x (zF _ hx)) c hc
theorem Bh {B:ByteArray}:∀(ps:List (Wd×List Nat)) (p n:Nat),nY ps→(aG B).drop p=jz ps→p≤B.size→n≤16383 →
  (n+ps.length≤16383→∃ts,tk B p n=.inl ts∧(ts.map Tok.tk).map kt=ps.map Prod.fst++[(5,⟨#[]⟩)])∧(16383<n+ps.length→∃k,tk B p n=.inr (k,45))
 |[],p,n,_,h,hp,hn=>by
  have hl:p=B.size:=by
   have:=congrArg List.length h
   rw[List.length_drop,bd] at this
   simp only[jz,List.length_nil] at this
   omega
  subst hl
  refine ⟨fun _=>⟨_,J1 B n,rfl⟩,fun q=>?_⟩
  simp only[List.length_nil] at q
  omega
 |w::r,p,n,hw,h,hp,hn=>by
  obtain ⟨nE,dT⟩:=hw w List.mem_cons_self
  obtain ⟨k,h1,h5,g,_,_⟩:=lr nE
  obtain ⟨c,fr,hfc,SQ⟩:=Kf _ dT
  have h2:(aG B).drop p=aG w.1.2++(w.2++jz r):=h
  have h3:(aG B).drop p=aG w.1.2++c::(fr++jz r):=by rw[h2,hfc];rfl
  obtain ⟨o1,o2,o3,o4⟩:=H7 g h3 SQ
  simp only at o1 o4
  by_cases WR:n=16383
  ·subst WR
   refine ⟨fun q=>?_,fun _=>⟨p,zn o3 o2⟩⟩
   rw[List.length_cons] at q
   omega
  ·have h4:=cT h2
   rw[bd] at h4
   have h6:=cT h4
   have hle:p+w.1.2.size+w.2.length≤B.size:=by
    have:=congrArg List.length h2
    rw[List.length_drop,bd,zK,zK,bd] at this
    have h8:0<w.1.2.size:=g.lt
    omega
   obtain ⟨i1,i2⟩:=Bh r _ (n+1) (fun x hx=>hw x (zF _ hx)) h6 hle (by omega)
   have Qx:tk B p n=Gg ⟨k,p,w.1.2⟩ (tk B (p+w.1.2.size+w.2.length) (n+1)):=by
    rw[JZ o3 o2 (by omega) o1,o4,zm (n+1) (Ke dT h4)]
   rw[List.length_cons]
   refine ⟨fun q=>?_,fun q=>?_⟩
   ·obtain ⟨ts,e1,e2⟩:=i1 (by omega)
    refine ⟨⟨k,p,w.1.2⟩::ts,by rw[Qx,e1];rfl,?_⟩
    rw[List.map_cons,List.map_cons,e2]
    show ((k:Int),w.1.2)::_=w.1::_
    rw[←h1]
    rfl
   ·obtain ⟨j,e1⟩:=i2 (by omega)
    exact ⟨j,by rw[Qx,e1];rfl⟩
theorem rB {ws:List Wd} (hw:∀w ∈ ws,w.1≠5) {ts:List Tk} (h:ts.map kt=ws++[(5,⟨#[]⟩)]):∀(n j:Nat),j≤ws.length→ws.length<j+n→kG ts n j=some ws.length
 |0,j,h1,h2=>by omega
 |n+1,j,h1,h2=>by
  have hj:(ts.map kt)[j]?=(ws++[(5,⟨#[]⟩)])[j]?:=by rw[h]
  rw[List.getElem?_map] at hj
  unfold kG
  by_cases he:j=ws.length
  ·subst he
   rw[List.getElem?_append_right (zD _),Nat.sub_self] at hj
   cases ht:ts[ws.length]? with
   |none=>rw[ht] at hj;cases hj
   |some t =>
    rw[ht] at hj
    have:t.kind=5:=(Prod.mk.inj (zC hj)).1
    simp only
    rw[this]
    rfl
  ·have cc:j<ws.length:=by omega
   rw[List.getElem?_append_left cc,List.getElem?_eq_getElem cc] at hj
   cases ht:ts[j]? with
   |none=>rw[ht] at hj;cases hj
   |some t =>
    rw[ht] at hj
    have h3:t.kind=(ws[j]).1:=(congrArg Prod.fst (zC hj))
    have h4:=hw _ (List.getElem_mem cc)
    simp only
    rw[if_neg (by rw[h3];simpa using h4)]
    exact rB hw h n (j+1) (by omega) (by omega)
theorem Bv {ws:List Wd} (hw:∀w ∈ ws,w.1≠5) {ts:List Tk} (h:ts.map kt=ws++[(5,⟨#[]⟩)]):∃e,St (fi ts) ws false 0 0 e:=by
 have hl:ts.length=ws.length+1:=by
  have:=congrArg List.length h
  rw[List.length_map,zK] at this
  exact this
 unfold fi
 rw[rB hw h (ts.length+1) 0 (Nat.zero_le _) (by omega)]
 simp only
 refine ⟨_,?_,rfl,rfl,rfl,rfl,?_⟩
 ·show (ts.take ws.length).map kt=ws
  rw[List.map_take,h,List.take_left']
  rfl
 ·have hj:(ts.map kt)[ws.length]?=(ws++[(5,⟨#[]⟩)])[ws.length]?:=by rw[h]
  rw[List.getElem?_map,List.getElem?_append_right (zD _),Nat.sub_self] at hj
  rw[List.getD_eq_getElem?_getD]
  cases ht:ts[ws.length]? with
  |none=>rw[ht] at hj;cases hj
  |some t =>
   rw[ht] at hj
   exact (Prod.mk.inj (zC hj)).1
end Go.Proofs.YtmlphohdcejniaaGreatDoor
namespace Go.Proofs.YtmlphohdcejniaaGreatDoor
open Go.RowKit
attribute [local go_sem ↓] Go.wp_at_zero Go.wp_at_succ
theorem oW {w:World}{ops:Array Oper}{o:Oper}{a:Act}{K:Act→World→Prop}{Q:Exit→Act→World→Prop}{E:Prop} (x0:Tmp) (hx0:o.dst=some x0) (FU:o.guard=none) (s x:Operand)
  (ho:o.op=.call { callee:=.builtin .append,args:=#[s,x],argTypes:=#[54,9] }) (base:Nat)
  (v:Value) (k:List Nat) (hs:a.eval s=v) (ln:Bytes base w v k) (t:ByteArray) (hx:a.eval x=.string t) (hn:k.length+t.size≤140737488355328) (ca:base≤w.heap.size)
  (h:∀v' w',Bytes base w' v' (k++aG t)→w.grownBy w' v.ownBlock→(v'.ownBlock=v.ownBlock∨v'.ownBlock=some w.heap.size)→K (a.put (some x0) v') w'):if Region.wanted o (yielded ops a.tmps)=true then Oper.wp Tryz.prog o a w K Q else E:=by
 rw[←hx0] at h
 have hw:Region.wanted o (yielded ops a.tmps)=true:=by simp[Region.wanted,FU]
 rw[if_pos hw]
 obtain ⟨i0,hi,nD,nC,oK⟩:=info_parts np
 obtain ⟨v',w',hr,h2,h3,h4⟩:=xU (P:=Tryz.prog) w base 54 9 o.type 5 i0 Tryz.underlying54 Tryz.underlying9 hi nD nC oK v k.length (nb k) ln t (by unfold maxLen;omega) hn ca
 unfold Oper.wp execOp
 simp only[ho,resolve,invoke,builtin,Sem.run_bind,Sem.run_pure,Result.andThen_ok,List.map_toArray,List.map_cons,List.map_nil,hs,hx,hr]
 refine h v' w' ?_ h3 h4
 unfold Bytes
 rw[zK,bd,qt,←Bo]
 exact h2
structure KW (b:Nat) (r:Option Nat) (W w:World) (r':Option Nat):Prop where
 os:w.os=W.os
 tape:w.tape=W.tape
 output:w.output=W.output
 size:W.heap.size≤w.heap.size
 block:∀k,k<W.heap.size→k≠b→r≠some k→w.heap[k]?=W.heap[k]?
 row:r'=r∨∃k,r'=some k∧W.heap.size≤k
theorem KW.refl (b:Nat) (r:Option Nat) (W:World):KW b r W W r:=⟨rfl,rfl,rfl,zD _,fun _ _ _ _=>rfl,.inl rfl⟩
theorem KW.trans {b:Nat}{r r' VH:Option Nat}{U V W:World} (h:KW b r U V r') (k:KW b r' V W VH):KW b r U W VH:=by
 refine ⟨k.os.trans h.os,k.tape.trans h.tape,k.output.trans h.output,Nat.le_trans h.size k.size,fun q h1 h2 h3=>(k.block q (Nat.lt_of_lt_of_le h1 h.size) h2 ?_).trans (h.block q h1 h2 h3),?_⟩
 ·rcases h.row with e|⟨j,e,hj⟩
  ·rw[e];exact h3
  ·rw[e];intro q2;have:=zC q2;omega
 ·rcases k.row with e|⟨j,e,hj⟩
  ·rw[e];exact h.row
  ·exact .inr ⟨j,e,Nat.le_trans h.size hj⟩
theorem KW.below {b:Nat}{r r':Option Nat}{W w:World} (h:KW b r W w r') (hr:∀k,r=some k→b≤k) (hb:b≤W.heap.size):Below b W w:=⟨h.os,h.tape,h.output,h.size,fun k hk=>h.block k (by omega) (by omega) (fun e=>by have:=hr k e;omega)⟩
theorem KW.dM {b:Nat}{r:Option Nat}{W w:World} (h:Below W.heap.size W w):KW b r W w r:=⟨h.os,h.tape,h.output,h.size,fun k hk _ _=>h.block k hk,.inl rfl⟩
def EY (b:Nat) (w:World) (v:Value):Prop:=∃a n c,v=.slice a n c∧n≤1048576∧(0<n→∃g off,a=some ⟨g,off,none⟩∧g<b∧g<w.heap.size∧∀i,i<n→∃z,kQ z∧w.cell? ⟨g,off+i,none⟩=some (.int .i64 z))
theorem EY.up {b:Nat}{W w:World}{v:Value} (h:EY b W v) (hb:Below b W w):EY b w v:=by
 obtain ⟨a,n,c,rfl,h1,h2⟩:=h
 refine ⟨a,n,c,rfl,h1,fun hp=>?_⟩
 obtain ⟨g,off,rfl,h3,h4,h5⟩:=h2 hp
 refine ⟨g,off,rfl,h3,Nat.lt_of_lt_of_le h4 hb.size,fun i hi=>?_⟩
 obtain ⟨z,hz,hc⟩:=h5 i hi
 exact ⟨z,hz,(hb.cell (p:=⟨g,off+i,none⟩) h3).trans hc⟩
def Vg (v vs:Value) (n D:Nat):Array Value:=#[v,vs,.int .i64 (n:Int),.int .i64 (D:Int),.int .i64 (n:Int)]
structure l7 (b:Nat) (r:Option Nat) (vs:Value) (ps:List (Wd×List Nat)) (D:Nat) (w:World):Prop where
 dt:∃v,v.ownBlock=r∧w.heap[b]?=some (.cells (Vg v vs ps.length D) 56 (0,0))∧Bytes (b+1) w v (jz ps)
 sp:EY b w vs
 ok:nY ps
theorem l7.row {b:Nat}{r:Option Nat}{vs:Value}{ps:List (Wd×List Nat)}{D:Nat}{w:World} (h:l7 b r vs ps D w):∀k,r=some k→b<k∧k<w.heap.size:=fun k e=>by
 obtain ⟨v,hv,hk,ho⟩:=h.dt
 have:=ho.lt k (hv.trans e)
 omega
theorem l7.lt {b:Nat}{r:Option Nat}{vs:Value}{ps:List (Wd×List Nat)}{D:Nat}{w:World} (h:l7 b r vs ps D w):b<w.heap.size:=by
 obtain ⟨v,hv,hk,ho⟩:=h.dt
 exact (zA hk).1
theorem l7.up {b:Nat}{r:Option Nat}{vs:Value}{ps:List (Wd×List Nat)}{D:Nat}{W w:World} (h:l7 b r vs ps D W) (hb:Below W.heap.size W w):l7 b r vs ps D w:=by
 have hl:=h.lt
 obtain ⟨v,hv,hk,ho⟩:=h.dt
 exact ⟨⟨v,hv,(hb.block b hl).trans hk,ct ho hb⟩,h.sp.up (hb.mono (by omega)),h.ok⟩
end Go.Proofs.YtmlphohdcejniaaGreatDoor
