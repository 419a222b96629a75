import Derived.Test.YtmlphohdcejniaaGreatDoorM33
set_option maxHeartbeats 2000000
set_option maxRecDepth 100000
namespace Go.Proofs.YtmlphohdcejniaaGreatDoor
open Go.RowKit
attribute [local go_sem ↓] Go.wp_at_zero Go.wp_at_succ
theorem Uh:(Tryz.prog.info? 111).map (fun i=>(i.zero,i.size,i.bytes))=some (some (.agg #[.int .i64 0,.int .i64 0]),2,16):=by kernel_rfl
theorem G1 {l:List (Int×Int)}{i:Nat}{r:Int×Int} (h:l[i]?=some r):(lj l)[i*2+0]?=some (.int .i64 r.1)∧(lj l)[i*2+1]?=some (.int .i64 r.2):=by
 have:=wX l i r h
 exact ⟨by rw[Nat.add_zero];exact this.1,this.2⟩
theorem zy {W:World}{v:Value}{l:List ByteArray} (hv:Rl W v l.length (bW l)) (hl:l.length≤1048576) (hz:∀x ∈ l,x.size≤1048576) (w0:World) (hw:Below W.heap.size W w0) :
  Calls Tryz.prog 38 #[v] w0 fun e w=>(∃u l',e=.returned u∧w.ownsRow w0.heap.size 9 1 u l.length (bW l')∧l'.length=l.length∧∀x ∈ l',aR x)∧Below w0.heap.size w0 w:=by
 obtain ⟨a,c,rfl,hn,h2⟩:=hv
 obtain ⟨i0,hi,oH,oG,pQ⟩:=info_parts MV
 have H2:=aj h2
 have HW:=aj hw
 have Hl:=aj hl
 have Hz:=aj hz
 clear h2 hw hl hz
 go_enter Tryz.func38,Tryz.ntmps38
 go_wp2
 go_loopg [3,4] l.length (fun gk v3 v4 wr=>∃(i:Nat) (acc:List ByteArray),v4=.int .i64 (i:Int)∧gk=l.length-i∧i≤l.length∧Hid (acc.length=i∧∀x ∈ acc,aR x)∧Hid (wr.ownsRow w0.heap.size 9 1 v3 i (bW acc))∧Hid (Below w0.heap.size w0 wr))
 case atStart=>exact ⟨0,[],rfl,rfl,by omega,⟨rfl,fun x hx=>by cases hx⟩,⟨rfl,.inl ⟨rfl,rfl⟩⟩,zE _ _⟩
 case round =>
  obtain ⟨i,acc,rfl,fi,qz,HA,HO,HB⟩:=hrel
  have gA:=aj fi
  clear fi
  obtain ⟨ao,co,rfl⟩:=bn (aa HO)
  by_cases cw:i<l.length
  ·obtain ⟨g,o,rfl,hg,hc⟩:=aa H2 (by omega)
   obtain ⟨r,hr⟩:∃r,l[i]?=some r:=⟨_,List.getElem?_eq_getElem cw⟩
   have kZ:=aj (show Below W.heap.size W wr from (aa HW).trans ((aa HB).mono (aa HW).size))
   have x0:=((aa kZ).cell (p:=⟨g,o+i,none⟩) hg).trans (hc _ _ (jX _ _ _ hr))
   have HRs:=aj (aa Hz r (List.mem_of_getElem? hr))
   have i0':(0:Int)≤(i:Int):=zH _
   have i1:(i:Int)<(l.length:Int):=by omega
   have dN:=aj cw
   clear hc hr kZ cw
   go_wp2_with fail
   refine (gg wr r (by have:=aa HRs;omega)).mono ?_
   rintro e w1 ⟨⟨y,hy,rfl⟩,bF⟩
   have HO1:=aj (cz (aa HO) bF)
   have np:=aj ((aa HB).trans (bF.mono (aa HB).size))
   have sy:=aj (aa np).size
   have HY:=aj hy
   clear bF hy x0
   go_wp2_with (at_builtin;refine wpList_append_own_at _ rfl _ _ 22 rfl w0.heap.size 9 i0 (.string ByteArray.empty) 1 16 Tryz.underlying22 hi oH oG pQ rfl (by decide) _ _ _ rfl ((aa HO1).alloc _) ⟨w1.heap.size,0,none⟩ 1 1 [.string y] rfl rfl (kr _ _ _) (by simp[Value.oneCell']) (by have:=aa dN;unfold maxLen;omega) (by have:=aa dN;have:=aa Hl;omega) (by rw[zJ];have:=aa sy;omega) ?_;intro v' w2 ho ej _ _;have CD:=aj ho;have iL:=aj (((aa np).alloc (aa np).size _).grown ej (by rw[zJ];have:=aa sy;omega) (fun k e=>((aa HO1).lt k e).1));clear ho ej)
   go_roundg (l.length-(i+1))
   case measure=>have:=aa gA;have:=aa dN;omega
   case rel =>
    refine ⟨i+1,acc++[y],by go_num,rfl,aa dN,⟨by rw[zK,(aa HA).1];rfl,fun z hz=>?_⟩,by rw[wO];exact CD,iL⟩
    rcases List.mem_append.1 hz with hz|hz
    ·exact (aa HA).2 z hz
    ·rw[List.mem_singleton.1 hz];exact aa HY
  ·obtain rfl:i=l.length:=by omega
   go_wp2
   go_ret
   exact ⟨⟨_,acc,rfl,aa HO,(aa HA).1,(aa HA).2⟩,aa HB⟩
def Cl (lo hi:Int) (l:List (Int×Int)):Prop:=∀p ∈ l,lo≤p.1∧p.1≤p.2∧p.2≤hi
theorem Qf {w:World}{x y:Int} (b:Nat) (h:w.heap[b]?=some (.cells #[.int .i64 x,.int .i64 0] 111 (0,0))):(w.setCell ⟨b,1,none⟩ (.int .i64 y)).heap[b]?=some (.cells #[.int .i64 x,.int .i64 y] 111 (0,0))∧w.grownBy (w.setCell ⟨b,1,none⟩ (.int .i64 y)) (some b):=aJ (j:=1) h (.int .i64 y)
theorem C' {lo hi:Int} (dI:-2147483648≤lo) (hhi:hi≤2147483647) (hlh:lo≤hi) {W:World}{v:Value}{l:List (Int×Int)} (hv:Rl W v l.length (lj l)) (hl:l.length≤1048576) (hz:∀p ∈ l,kX p.1∧kX p.2) (w0:World) (hw:Below W.heap.size W w0) :
  Calls Tryz.prog 37 #[v,.int .i64 lo,.int .i64 hi] w0 fun e w=>(∃u l',e=.returned u∧w.ownsRow w0.heap.size 111 2 u l.length (lj l')∧l'.length=l.length∧Cl lo hi l')∧Below w0.heap.size w0 w:=by
 obtain ⟨a,c,rfl,hn,h2⟩:=hv
 obtain ⟨i0,YP,oH,oG,pQ⟩:=info_parts Uh
 have H2:=aj h2
 have HW:=aj hw
 have Hl:=aj hl
 have Hz:=aj hz
 have HLH:=aj (And.intro dI (And.intro hhi hlh))
 clear h2 hw hl hz dI hhi hlh
 go_enter Tryz.func37,Tryz.ntmps37
 go_wp2
 go_loopg [7,8,9] l.length (fun gk v7 v8 _ wr=>∃(i:Nat) (acc:List (Int×Int)),v8=.int .i64 (i:Int)∧gk=l.length-i∧i≤l.length∧Hid (acc.length=i∧Cl lo hi acc)∧Hid (wr.ownsRow w0.heap.size 111 2 v7 i (lj acc))∧Hid (Below w0.heap.size w0 wr))
 case atStart=>exact ⟨0,[],rfl,rfl,by omega,⟨rfl,fun x hx=>by cases hx⟩,⟨rfl,.inl ⟨rfl,rfl⟩⟩,zE _ _⟩
 case round =>
  obtain ⟨i,acc,rfl,fi,qz,HA,HO,HB⟩:=hrel
  have gA:=aj fi
  clear fi
  obtain ⟨ao,co,rfl⟩:=bn (aa HO)
  by_cases cw:i<l.length
  ·obtain ⟨g,o,rfl,hg,hc⟩:=aa H2 (by omega)
   obtain ⟨r,hr⟩:∃r,l[i]?=some r:=⟨_,List.getElem?_eq_getElem cw⟩
   have kZ:=aj (show Below W.heap.size W wr from (aa HW).trans ((aa HB).mono (aa HW).size))
   have iU:Hid (∀w',Below W.heap.size W w'→w'.cell? ⟨g,o+i*2,none⟩=some (.int .i64 r.1)∧w'.cell? ⟨g,o+i*2+1,none⟩=some (.int .i64 r.2)):=fun w' hb =>
    ⟨(hb.cell (p:=⟨g,o+(i*2+0),none⟩) hg).trans (hc _ _ (G1 hr).1),(hb.cell (p:=⟨g,o+(i*2+1),none⟩) hg).trans (hc _ _ (G1 hr).2)⟩
   obtain ⟨x0,x1⟩:=aa iU wr (aa kZ)
   obtain ⟨z1,z2⟩:=aa Hz r (List.mem_of_getElem? hr)
   have HZ1:=aj z1
   have HZ2:=aj z2
   have i0':(0:Int)≤(i:Int):=zH _
   have i1:(i:Int)<(l.length:Int):=by omega
   have dN:=aj cw
   clear hc hr cw z1 z2
   go_wp2_with fail
   refine (dU wr (aa HZ1) (aa HLH).1 (aa HLH).2.2 (aa HLH).2.1).mono ?_
   rintro e w1 ⟨⟨x,hx,rfl⟩,oI⟩
   obtain rfl:wr=w1:=oI.symm
   have HX:=aj hx
   clear hx x0 x1 oI
   go_upto_region 6 with fail
   have ba:Below wr.heap.size wr (wr.alloc (.cells #[.int .i64 x,.int .i64 0] 111)):=(zE _ _).alloc (zD _) _
   have bo:=aC wr (.cells #[.int .i64 x,.int .i64 0] 111)
   have bU:=zJ wr (.cells #[.int .i64 x,.int .i64 0] 111)
   obtain ⟨V,hV⟩:∃V,wr.alloc (.cells #[.int .i64 x,.int .i64 0] 111)=V:=⟨_,rfl⟩
   rw[hV] at ba bo bU ⊢
   clear hV
   have HBV:=aj (show Below W.heap.size W V from (aa kZ).trans (ba.mono (aa kZ).size))
   have HOV:=aj (cz (aa HO) ba)
   have Tn:=aj ((aa HB).trans (ba.mono (aa HB).size))
   obtain ⟨b,hb⟩:∃b,wr.heap.size=b:=⟨_,rfl⟩
   have Te:=aj (aa HB).size
   have eo:∀k,(Value.slice ao i co).ownBlock=some k→k<wr.heap.size:=fun k e=>((aa HO).lt k e).2
   rw[hb] at bo bU Te eo ⊢
   have HNe:=aj (show (Value.slice ao i co).ownBlock≠some b from fun e=>by have:=eo b e;omega)
   clear eo
   have HK:=aj (And.intro bo bU)
   clear ba bo bU hb
   refine wp_region_any (by kernel_rfl) (cj (z:=99) (T:=fun w'=>Below W.heap.size W w'∧w'.cell? ⟨b,0,none⟩=some (.int .i64 x)) _ _ _ _ ?_)
   try (change cW _ _ _ _ _ _ _ _ _ (World.drew _))
   have aX:Below W.heap.size W V.drew:=below_drewN (aa HBV) 1
   have bo:V.drew.heap[b]?=some (.cells #[.int .i64 x,.int .i64 0] 111 (0,0)):=(aa HK).1
   have hO:V.drew.ownsRow w0.heap.size 111 2 (.slice ao i co) i (lj acc):=cz (aa HOV) (below_drewN (zE V.heap.size V) 1)
   have hB:Below w0.heap.size w0 V.drew:=below_drewN (aa Tn) 1
   obtain ⟨wd,iZ⟩:∃x,V.drew=x:=⟨_,rfl⟩
   rw[iZ] at aX bo hO hB ⊢
   have hT:(fun w':World=>Below W.heap.size W w'∧w'.cell? ⟨b,0,none⟩=some (.int .i64 x)) wd:=⟨aX,cell_of_row _ _ _ _ _ _ bo⟩
   refine ak 0 (.slice (some ⟨g,o,none⟩) l.length c) 25 rfl rfl (Or.inl ⟨by rfl,fun w' hw=>by obtain ⟨KK,Ur⟩:=hw;obtain ⟨x0,x1⟩:=aa iU w' KK;go_simp⟩) hT ?_
   simp only[Act.put,zL,zM,zN]
   refine ak 1 (.int .i64 (i:Int)) 26 rfl rfl (Or.inl ⟨by rfl,fun w' hw=>by obtain ⟨KK,Ur⟩:=hw;obtain ⟨x0,x1⟩:=aa iU w' KK;go_simp⟩) hT ?_
   simp only[Act.put,zL,zM,zN]
   refine ak 2 (.pointer (some ⟨g,o+i*2,none⟩)) 27 rfl rfl (Or.inl ⟨by rfl,fun w' hw=>by obtain ⟨KK,Ur⟩:=hw;obtain ⟨x0,x1⟩:=aa iU w' KK;go_simp⟩) hT ?_
   simp only[Act.put,zL,zM,zN]
   refine ak 3 (.pointer (some ⟨g,o+i*2+1,none⟩)) 28 rfl rfl (Or.inl ⟨by rfl,fun w' hw=>by obtain ⟨KK,Ur⟩:=hw;obtain ⟨x0,x1⟩:=aa iU w' KK;go_simp⟩) hT ?_
   simp only[Act.put,zL,zM,zN]
   refine ak 4 (.int .i64 r.2) 29 rfl rfl (Or.inl ⟨by rfl,fun w' hw=>by obtain ⟨KK,Ur⟩:=hw;obtain ⟨x0,x1⟩:=aa iU w' KK;go_simp⟩) hT ?_
   simp only[Act.put,zL,zM,zN]
   refine ak 5 (.pointer (some ⟨b,0,none⟩)) 30 rfl rfl (Or.inl ⟨by rfl,fun w' hw=>by obtain ⟨KK,Ur⟩:=hw;go_simp⟩) hT ?_
   simp only[Act.put,zL,zM,zN]
   refine ak 6 (.int .i64 x) 31 rfl rfl (Or.inl ⟨by rfl,fun w' hw=>by obtain ⟨KK,Ur⟩:=hw;go_simp⟩) hT ?_
   simp only[Act.put,zL,zM,zN]
   refine ak 7 (.int .i64 hi) 32 rfl rfl (Or.inl ⟨by rfl,fun w' hw=>by obtain ⟨KK,Ur⟩:=hw;go_simp⟩) hT ?_
   simp only[Act.put,zL,zM,zN]
   refine ay 8 (by kernel_rfl) rfl (fun K hK=>?_)
   refine aN 33 rfl rfl 11 (fun vs=>by kernel_rfl) #[.tmp 29,.tmp 31,.tmp 32] #[3,3,3] rfl #[.int .i64 r.2,.int .i64 x,.int .i64 hi] (by first|rfl|simp[Act.eval]) (dU wd (aa HZ2) (by have:=(aa HX).1;have:=(aa HLH).1;omega) (aa HX).2 (aa HLH).2.1) ?_
   rintro e' wc ⟨⟨y,hy,rfl⟩,xK⟩
   obtain rfl:wd=wc:=xK.symm
   refine ⟨_,rfl,hK _ _ ⟨fun _=>hT,?_⟩⟩
   clear hK K xK
   simp only[Act.put,zL,zM,zN]
   refine ay 9 (by kernel_rfl) rfl (fun K hK=>?_)
   go_simp
   refine hK _ _ ⟨fun _=>hT,?_⟩
   clear hK K
   refine ay 10 (by kernel_rfl) rfl (fun K hK=>?_)
   have UR:wd.cell? ⟨b,1,none⟩=some (.int .i64 0):=cell_of_row _ _ _ _ _ _ bo
   have WH:wd.frozen? ⟨b,1,none⟩=false:=by simp[World.frozen?,bo]
   obtain ⟨j8,ej⟩:=Qf (y:=y) b bo
   go_simp
   have Y':=aX.grown ej (by have:=(aa HK).2;have:=aX.size;have:=(aa HBV).size;have:=(aa HW).size;omega) (fun k e=>by obtain rfl:=zC e;have:=(aa HW).size;have:=aa Te;omega)
   refine hK _ _ ⟨fun _=>⟨Y',cell_of_row _ _ _ _ _ _ j8⟩,?_⟩
   clear hK K
   refine bj (by kernel_rfl) ?_
   have CD:=aj (hO.kept ej (.inr (aa HNe)))
   have iL:=aj (hB.grown ej hB.size (fun k e=>by obtain rfl:=zC e;exact aa Te))
   obtain ⟨W2,ES⟩:∃W2,wd.setCell ⟨b,1,none⟩ (.int .i64 y)=W2:=⟨_,rfl⟩
   rw[ES] at CD iL j8 ⊢
   have HY:=aj hy
   have e0:W2.cell? ⟨b,0,none⟩=some (.int .i64 x):=cell_of_row _ _ _ _ _ _ j8
   have e1:W2.cell? ⟨b,1,none⟩=some (.int .i64 y):=cell_of_row _ _ _ _ _ _ j8
   have AX:=aj (aa iL).size
   clear hT aX Y' bo j8 hO hB UR WH ej ES iZ hy
   go_wp2_with (at_builtin;refine wpList_append_own_at _ rfl _ _ 62 rfl w0.heap.size 111 i0 (.agg #[.int .i64 0,.int .i64 0]) 2 16 Tryz.underlying62 YP oH oG pQ rfl (by decide) _ _ _ rfl ((aa CD).alloc _) ⟨W2.heap.size,0,none⟩ 1 1 [.int .i64 x,.int .i64 y] rfl rfl (AR _ _ _ _) (by simp[Value.oneCell']) (by have:=aa dN;unfold maxLen;omega) (by have:=aa dN;have:=aa Hl;omega) (by rw[zJ];have:=aa AX;omega) ?_;intro v' w2 ho ej _ _;have Xc:=aj ho;have E0:=aj (((aa iL).alloc (aa iL).size _).grown ej (by rw[zJ];have:=aa AX;omega) (fun k e=>((aa CD).lt k e).1));clear ho ej)
   go_roundg (l.length-(i+1))
   case measure=>have:=aa gA;have:=aa dN;omega
   case rel =>
    refine ⟨i+1,acc++[(x,y)],by go_num,rfl,aa dN,⟨by rw[zK,(aa HA).1];rfl,fun z hz=>?_⟩,by rw[G2];exact Xc,E0⟩
    rcases List.mem_append.1 hz with hz|hz
    ·exact (aa HA).2 z hz
    ·rw[List.mem_singleton.1 hz];exact ⟨(aa HX).1,(aa HY).1,(aa HY).2⟩
  ·obtain rfl:i=l.length:=by omega
   go_wp2
   go_ret
   exact ⟨⟨_,acc,rfl,aa HO,(aa HA).1,(aa HA).2⟩,aa HB⟩
end Go.Proofs.YtmlphohdcejniaaGreatDoor
namespace Go.Proofs.YtmlphohdcejniaaGreatDoor
open Go.RowKit
def Bd:List (List Nat):=[[32],[10],[9,32],[47,42,32,125,32,42,47],[32,47,47,32,59,32,123,10],[32,32]]
theorem LL {s:ByteArray}{p:Nat}{f R:List Nat} (hf:f ∈ Bd) (h:(aH s).drop p=f++R):bA s s.size p=bA s s.size (p+f.length):=by
 simp only[Bd,List.mem_cons,List.mem_nil_iff,or_false] at hf
 rcases hf with rfl|rfl|rfl|rfl|rfl|rfl
 ·exact pb h (by decide)
 ·exact pb h (by decide)
 ·exact (pb h (by decide)).trans (pb (di (A:=[9]) h) (by decide))
 ·exact ps [32,125,32] R h (by simp[Bo])
 ·exact (pb h (by decide)).trans ((pl [32,59,32,123] R (di (A:=[32]) h) (by decide)).trans (pb (di (A:=[32,47,47,32,59,32,123]) h) (by decide)))
 ·exact (pb h (by decide)).trans (pb (di (A:=[32]) h) (by decide))
theorem Qa:∀f ∈ Bd,∀c ∈ f,c<128:=by decide
theorem Qc:∀f ∈ Bd,f.length≤8:=by decide
theorem LM:∀f ∈ Bd,∃c r,f=c::r∧¬(isLet c∨bZ c):=by
 intro f hf
 simp only[Bd,List.mem_cons,List.mem_nil_iff,or_false] at hf
 rcases hf with rfl|rfl|rfl|rfl|rfl|rfl
 all_goals exact ⟨_,_,rfl,by unfold isLet bZ;omega⟩
def KQ (w:Wd):Prop:=(w.1=1∧aR w.2)∨(w.1=2∧∃u,u≤2147483648∧w.2=dec u)∨(w.1=3∧∃q x,(q=39∨q=34)∧aR x∧w.2=lit q x)∨(w.1=4∧∃c:UInt8,w.2=⟨#[c]⟩∧jl c.toNat)
theorem Kh (u:Nat):∀k,k<(dec u).size→bZ (ax (dec u) k):=fun k hk=>IE u _ (List.mem_of_getElem? (eY (dec u) k hk))
theorem GZ {s:ByteArray} (h:∀k,k<s.size→isLet (ax s k)∨bZ (ax s k)):ew s 0=s.size:=by
 have:=ow s s.size 0 (fun j hj=>⟨by omega,by rw[Nat.zero_add];exact h j hj⟩) (fun q=>by omega)
 rw[this]
 omega
theorem whole (s:ByteArray):s.extract 0 s.size=s:=by
 apply qd
 rw[bc,List.drop_zero,Nat.sub_zero,←bk,List.take_length]
theorem mh {w:Wd} (h:KQ w):∃k:Nat,w.1=(k:Int)∧k≠5∧tc w.2 ⟨k,0,w.2⟩ w.2.size∧(∀c ∈ aH w.2,c<128)∧w.2.size≤32:=by
 obtain ⟨k,x⟩:=w
 rcases h with ⟨h1,h2⟩|⟨h1,u,hu,h2⟩|⟨h1,q,y,hq,hy,h2⟩|⟨h1,c,h2,hc⟩
 ·simp only at h1 h2 ⊢
  obtain ⟨c1,c2⟩:=xl h2
  refine ⟨1,h1,by decide,⟨h2.2.1,?_,(whole x).symm,zD _,h2.2.1⟩,fun c hc=>?_,by have:=h2.2.2;omega⟩
  ·show cJ x 0=(1,x.size,0)
   unfold cJ
   rw[if_pos c2,GZ c1]
  ·have:=nX h2 c hc
   unfold isLet bZ at this
   omega
 ·simp only at h1 h2 ⊢
  subst h2
  have hs:=Eh hu
  have c1:=Kh u
  refine ⟨2,h1,by decide,⟨hs.1,?_,(whole _).symm,zD _,hs.1⟩,fun c hc=>?_,by omega⟩
  ·show cJ (dec u) 0=(2,(dec u).size,0)
   have h0:=c1 0 hs.1
   unfold cJ
   rw[if_neg (by unfold isLet;unfold bZ at h0;omega),if_pos h0,GZ (fun k hk=>.inr (c1 k hk)),whole,if_neg (by rw[Om hu];exact Option.some_ne_none u)]
  ·have:=IE u c hc
   omega
 ·simp only at h1 h2 ⊢
  subst h2
  have hs:=xw q y
  have h3:=hy.2
  have KL:q.toNat=39∨q.toNat=34:=by rcases hq with rfl|rfl<;>decide
  refine ⟨3,h1,by decide,⟨by show 0<_;omega,?_,(whole _).symm,zD _,by show 0<_;omega⟩,Hy hq hy,by omega⟩
  show cJ (lit q y) 0=(3,(lit q y).size,0)
  unfold cJ
  rw[DF,if_neg (by unfold isLet;omega),if_neg (by unfold bZ;omega),if_pos KL,MP hq hy]
 ·simp only at h1 h2 ⊢
  subst h2
  have hb:ax ⟨#[c]⟩ 0=c.toNat:=rfl
  have hl:c.toNat<128∧¬isLet c.toNat∧¬bZ c.toNat∧¬(c.toNat=39∨c.toNat=34):=by
   unfold jl at hc
   simp only[List.mem_cons,List.mem_nil_iff,or_false] at hc
   unfold isLet bZ
   omega
  refine ⟨4,h1,by decide,⟨by show 0<1;decide,?_,(whole _).symm,zD _,by show 0<1;decide⟩,fun d hd=>?_,by show 1≤32;decide⟩
  ·show cJ ⟨#[c]⟩ 0=(4,1,0)
   unfold cJ
   rw[hb,if_neg hl.2.1,if_neg hl.2.2.1,if_neg hl.2.2.2,if_pos hc]
  ·have:d=c.toNat:=by simpa[aH] using hd
   omega
def j5:List (Wd×List Nat)→List Nat
 |[]=>[]
 |x::r=>aH x.1.2++(x.2++j5 r)
def nU (ps:List (Wd×List Nat)):Prop:=∀x ∈ ps,KQ x.1∧x.2 ∈ Bd
theorem Dl:∀(a b:List (Wd×List Nat)),j5 (a++b)=j5 a++j5 b
 |[],b=>rfl
 |w::a,b=>by
  show aH w.1.2++(w.2++j5 (a++b))=aH w.1.2++(w.2++j5 a)++j5 b
  rw[Dl a b]
  simp
theorem nU.app {a b:List (Wd×List Nat)} (h:nU a) (k:nU b):nU (a++b):=fun x hx=>(List.mem_append.1 hx).elim (h x) (k x)
theorem Dk:∀(ps:List (Wd×List Nat)),nU ps→(j5 ps).length≤40*ps.length
 |[],_=>Nat.zero_le _
 |w::r,h=>by
  obtain ⟨k,_,_,_,_,h2⟩:=mh (h w List.mem_cons_self).1
  have h3:=Dk r (fun x hx=>h x (zF _ hx))
  have h4:=Qc _ (h w List.mem_cons_self).2
  show (aH w.1.2++(w.2++j5 r)).length≤40*(r.length+1)
  rw[zK,zK,bk]
  omega
theorem qn:∀(ps:List (Wd×List Nat)),nU ps→∀c ∈ j5 ps,c<128
 |[],_,c,hc=>by cases hc
 |w::r,h,c,hc=>by
  obtain ⟨k,_,_,_,h2,_⟩:=mh (h w List.mem_cons_self).1
  rcases List.mem_append.1 hc with hc|hc
  ·exact h2 c hc
  ·rcases List.mem_append.1 hc with hc|hc
   ·exact Qa _ (h w List.mem_cons_self).2 c hc
   ·exact qn r (fun x hx=>h x (zF _ hx)) c hc
theorem CS {B:ByteArray}:∀(ps:List (Wd×List Nat)) (p n:Nat),nU ps→(aH B).drop p=j5 ps→p≤B.size→n≤16383 →
  (n+ps.length≤16383→∃ts,tk B p n=.inl ts∧(ts.map Tok.tk).map kt=ps.map Prod.fst++[(5,⟨#[]⟩)])∧(16383<n+ps.length→∃k,tk B p n=.inr (k,45))
 |[],p,n,_,h,hp,hn=>by
  have hl:p=B.size:=by
   have:=congrArg List.length h
   rw[List.length_drop,bk] at this
   simp only[j5,List.length_nil] at this
   omega
  subst hl
  refine ⟨fun _=>⟨_,Lu B n,rfl⟩,fun q=>?_⟩
  simp only[List.length_nil] at q
  omega
 |w::r,p,n,hw,h,hp,hn=>by
  obtain ⟨oI,ez⟩:=hw w List.mem_cons_self
  obtain ⟨k,h1,h5,g,_,_⟩:=mh oI
  obtain ⟨c,fr,hfc,UR⟩:=LM _ ez
  have h2:(aH B).drop p=aH w.1.2++(w.2++j5 r):=h
  have h3:(aH B).drop p=aH w.1.2++c::(fr++j5 r):=by rw[h2,hfc];rfl
  obtain ⟨o1,o2,o3,o4⟩:=JC g h3 UR
  simp only at o1 o4
  by_cases YR:n=16383
  ·subst YR
   refine ⟨fun q=>?_,fun _=>⟨p,A9 o3 o2⟩⟩
   rw[List.length_cons] at q
   omega
  ·have h4:=di h2
   rw[bk] at h4
   have h6:=di h4
   have hle:p+w.1.2.size+w.2.length≤B.size:=by
    have:=congrArg List.length h2
    rw[List.length_drop,bk,zK,zK,bk] at this
    have h8:0<w.1.2.size:=g.lt
    omega
   obtain ⟨i1,i2⟩:=CS r _ (n+1) (fun x hx=>hw x (zF _ hx)) h6 hle (by omega)
   have SI:tk B p n=IF ⟨k,p,w.1.2⟩ (tk B (p+w.1.2.size+w.2.length) (n+1)):=by
    rw[Ls o3 o2 (by omega) o1,o4,A8 (n+1) (LL ez h4)]
   rw[List.length_cons]
   refine ⟨fun q=>?_,fun q=>?_⟩
   ·obtain ⟨ts,e1,e2⟩:=i1 (by omega)
    refine ⟨⟨k,p,w.1.2⟩::ts,by rw[SI,e1];rfl,?_⟩
    rw[List.map_cons,List.map_cons,e2]
    show ((k:Int),w.1.2)::_=w.1::_
    rw[←h1]
    rfl
   ·obtain ⟨j,e1⟩:=i2 (by omega)
    exact ⟨j,by rw[SI,e1];rfl⟩
end Go.Proofs.YtmlphohdcejniaaGreatDoor
namespace Go.Proofs.YtmlphohdcejniaaGreatDoor
open Go.RowKit
attribute [local go_sem ↓] Go.wp_at_zero Go.wp_at_succ
theorem qe {w:World}{ops:Array Oper}{o:Oper}{a:Act}{K:Act→World→Prop}{Q:Exit→Act→World→Prop}{E:Prop} (x0:Tmp) (X7:o.dst=some x0) (Ih:o.guard=none) (s x:Operand)
  (ho:o.op=.call { callee:=.builtin .append,args:=#[s,x],argTypes:=#[54,9] }) (base:Nat)
  (v:Value) (k:List Nat) (hs:a.eval s=v) (l9:Bytes base w v k) (t:ByteArray) (hx:a.eval x=.string t) (hn:k.length+t.size≤140737488355328) (cq:base≤w.heap.size)
  (h:∀v' w',Bytes base w' v' (k++aH t)→w.grownBy w' v.ownBlock→(v'.ownBlock=v.ownBlock∨v'.ownBlock=some w.heap.size)→K (a.put (some x0) v') w'):if Region.wanted o (yielded ops a.tmps)=true then Oper.wp Tryz.prog o a w K Q else E:=by
 rw[←X7] at h
 have hw:Region.wanted o (yielded ops a.tmps)=true:=by simp[Region.wanted,Ih]
 rw[if_pos hw]
 obtain ⟨i0,hi,oH,oG,pQ⟩:=info_parts oo
 obtain ⟨v',w',hr,h2,h3,h4⟩:=zq (P:=Tryz.prog) w base 54 9 o.type 5 i0 Tryz.underlying54 Tryz.underlying9 hi oH oG pQ v k.length (nb k) l9 t (by unfold maxLen;omega) hn cq
 unfold Oper.wp execOp
 simp only[ho,resolve,invoke,builtin,Sem.run_bind,Sem.run_pure,Result.andThen_ok,List.map_toArray,List.map_cons,List.map_nil,hs,hx,hr]
 refine h v' w' ?_ h3 h4
 unfold Bytes
 rw[zK,bk,rJ,←CZ]
 exact h2
structure KW (b:Nat) (r:Option Nat) (W w:World) (r':Option Nat):Prop where
 os:w.os=W.os
 tape:w.tape=W.tape
 output:w.output=W.output
 size:W.heap.size≤w.heap.size
 block:∀k,k<W.heap.size→k≠b→r≠some k→w.heap[k]?=W.heap[k]?
 row:r'=r∨∃k,r'=some k∧W.heap.size≤k
theorem KW.refl (b:Nat) (r:Option Nat) (W:World):KW b r W W r:=⟨rfl,rfl,rfl,zD _,fun _ _ _ _=>rfl,.inl rfl⟩
theorem KW.trans {b:Nat}{r r' XL:Option Nat}{U V W:World} (h:KW b r U V r') (k:KW b r' V W XL):KW b r U W XL:=by
 refine ⟨k.os.trans h.os,k.tape.trans h.tape,k.output.trans h.output,Nat.le_trans h.size k.size,fun q h1 h2 h3=>(k.block q (Nat.lt_of_lt_of_le h1 h.size) h2 ?_).trans (h.block q h1 h2 h3),?_⟩
 ·rcases h.row with e|⟨j,e,hj⟩
  ·rw[e];exact h3
  ·rw[e];intro q2;have:=zC q2;omega
 ·rcases k.row with e|⟨j,e,hj⟩
  ·rw[e];exact h.row
  ·exact .inr ⟨j,e,Nat.le_trans h.size hj⟩
theorem KW.below {b:Nat}{r r':Option Nat}{W w:World} (h:KW b r W w r') (hr:∀k,r=some k→b≤k) (hb:b≤W.heap.size):Below b W w:=⟨h.os,h.tape,h.output,h.size,fun k hk=>h.block k (by omega) (by omega) (fun e=>by have:=hr k e;omega)⟩
theorem KW.dX {b:Nat}{r:Option Nat}{W w:World} (h:Below W.heap.size W w):KW b r W w r:=⟨h.os,h.tape,h.output,h.size,fun k hk _ _=>h.block k hk,.inl rfl⟩
def KB (b:Nat) (w:World) (v:Value):Prop:=∃a n c,v=.slice a n c∧n≤1048576∧(0<n→∃g off,a=some ⟨g,off,none⟩∧g<b∧g<w.heap.size∧∀i,i<n→∃z,kX z∧w.cell? ⟨g,off+i,none⟩=some (.int .i64 z))
theorem KB.up {b:Nat}{W w:World}{v:Value} (h:KB b W v) (hb:Below b W w):KB b w v:=by
 obtain ⟨a,n,c,rfl,h1,h2⟩:=h
 refine ⟨a,n,c,rfl,h1,fun hp=>?_⟩
 obtain ⟨g,off,rfl,h3,h4,h5⟩:=h2 hp
 refine ⟨g,off,rfl,h3,Nat.lt_of_lt_of_le h4 hb.size,fun i hi=>?_⟩
 obtain ⟨z,hz,hc⟩:=h5 i hi
 exact ⟨z,hz,(hb.cell (p:=⟨g,off+i,none⟩) h3).trans hc⟩
def Xn (v vs:Value) (n D:Nat):Array Value:=#[v,vs,.int .i64 (n:Int),.int .i64 (D:Int),.int .i64 (n:Int)]
structure mV (b:Nat) (r:Option Nat) (vs:Value) (ps:List (Wd×List Nat)) (D:Nat) (w:World):Prop where
 dJ:∃v,v.ownBlock=r∧w.heap[b]?=some (.cells (Xn v vs ps.length D) 56 (0,0))∧Bytes (b+1) w v (j5 ps)
 sp:KB b w vs
 ok:nU ps
theorem mV.row {b:Nat}{r:Option Nat}{vs:Value}{ps:List (Wd×List Nat)}{D:Nat}{w:World} (h:mV b r vs ps D w):∀k,r=some k→b<k∧k<w.heap.size:=fun k e=>by
 obtain ⟨v,hv,hk,ho⟩:=h.dJ
 have:=ho.lt k (hv.trans e)
 omega
theorem mV.lt {b:Nat}{r:Option Nat}{vs:Value}{ps:List (Wd×List Nat)}{D:Nat}{w:World} (h:mV b r vs ps D w):b<w.heap.size:=by
 obtain ⟨v,hv,hk,ho⟩:=h.dJ
 exact (zA hk).1
theorem mV.up {b:Nat}{r:Option Nat}{vs:Value}{ps:List (Wd×List Nat)}{D:Nat}{W w:World} (h:mV b r vs ps D W) (hb:Below W.heap.size W w):mV b r vs ps D w:=by
 have hl:=h.lt
 obtain ⟨v,hv,hk,ho⟩:=h.dJ
 exact ⟨⟨v,hv,(hb.block b hl).trans hk,cz ho hb⟩,h.sp.up (hb.mono (by omega)),h.ok⟩
end Go.Proofs.YtmlphohdcejniaaGreatDoor
