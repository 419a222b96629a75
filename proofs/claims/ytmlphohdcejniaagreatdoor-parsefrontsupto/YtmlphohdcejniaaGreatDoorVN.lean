import Derived.Test.YtmlphohdcejniaaGreatDoorM34
set_option maxHeartbeats 2000000
set_option maxRecDepth 100000
namespace Go.Proofs.YtmlphohdcejniaaGreatDoor
open Go.RowKit
attribute [local go_sem ↓] Go.wp_at_zero Go.wp_at_succ
def Jn:Array Value:=#[.string ⟨#[32]⟩,.string ⟨#[10]⟩,.string ⟨#[9,32]⟩,.string ⟨#[47,42,32,125,32,42,47]⟩,.string ⟨#[32,47,47,32,59,32,123,10]⟩,.string ⟨#[32,32]⟩]
def ZZ (w:World) (q:Nat) (l:List ByteArray):Prop:=w.heap[q]?=some (.cells (bW l).toArray 9 (0,0))
structure ZL (b:Nat) (r:Option Nat) (vs:Value) (n D:Nat) (bs:List Nat) (w:World):Prop where
 dJ:∃v,v.ownBlock=r∧w.heap[b]?=some (.cells (Xn v vs n D) 56 (0,0))∧Bytes (b+1) w v bs
 sp:KB b w vs
theorem mV.mid {b:Nat}{r:Option Nat}{vs:Value}{ps:List (Wd×List Nat)}{D:Nat}{w:World} (h:mV b r vs ps D w):ZL b r vs ps.length D (j5 ps) w:=⟨h.dJ,h.sp⟩
theorem KZ {b n D:Nat}{r:Option Nat}{vs v v':Value}{L L':List Nat}{wd w2:World} (hv:v.ownBlock=r) (bo:wd.heap[b]?=some (.cells (Xn v vs n D) 56 (0,0))) (ho:Bytes (b+1) wd v L) (BK:KB b wd vs) (ep:Bytes (b+1) w2 v' L') (ej:wd.grownBy w2 v.ownBlock) (FV:v'.ownBlock=v.ownBlock∨v'.ownBlock=some wd.heap.size) :
  ZL b v'.ownBlock vs n D L' (w2.setCell ⟨b,0,none⟩ v')∧KW b r wd (w2.setCell ⟨b,0,none⟩ v') v'.ownBlock:=by
 have vG:v.ownBlock≠some b:=fun e=>by have:=(ho.lt b e).1;omega
 have cw:=(zA bo).1
 have j8:=(ej.block b cw (fun e=>vG e.symm)).trans bo
 obtain ⟨Nt,fB⟩:=aJ (j:=0) j8 v'
 have aaR:v'.ownBlock≠some b:=fun e=>by have:=(ep.lt b e).1;omega
 have hb:Below b wd (w2.setCell ⟨b,0,none⟩ v'):=by
  refine ⟨fB.os.trans ej.os,fB.tape.trans ej.tape,fB.output.trans ej.output,Nat.le_trans ej.size fB.size,fun k hk=>?_⟩
  rw[fB.block k (by have:=ej.size;omega) (by intro e;have:=zC e;omega),ej.block k (by omega) (fun e=>by have:=(ho.lt k e.symm).1;omega)]
 refine ⟨⟨⟨v',rfl,Nt,ep.kept fB (.inr aaR)⟩,BK.up hb⟩,⟨fB.os.trans ej.os,fB.tape.trans ej.tape,fB.output.trans ej.output,Nat.le_trans ej.size fB.size,fun k h1 h2 h3=>?_,?_⟩⟩
 ·rw[fB.block k (by have:=ej.size;omega) (by intro e;exact h2 (zC e)),ej.block k h1 (fun e=>h3 (by rw[←hv,←e]))]
 ·rcases FV with e|e
  ·exact .inl (by rw[e,hv])
  ·exact .inr ⟨_,e,zD _⟩
theorem E5 (W:World) {v lo hi d N:Int} (hv:kX v) (dI:0≤lo∧lo≤4294967295) (hd:hi-lo=d) (hN:d+1=N) (h0:0≤d) (hh:hi≤4294967295) :
  Calls Tryz.prog 11 #[.int .i64 v,.int .i64 lo,.int .i64 hi] W fun e w=>e=.returned (.int .i64 (lo+v % N))∧w=W:=by
 obtain ⟨Ut,SG⟩:=hv
 obtain ⟨b1,b2,b3⟩:=zU v N (by omega)
 obtain ⟨r,hr⟩:∃r,v.tmod N=r:=⟨_,rfl⟩
 rw[hr] at b1 b2 b3
 have c1:N≤4294967296:=by omega
 have c2:0<N:=by omega
 have c3:¬N=0:=by omega
 have c4:d≤4294967295:=by omega
 rcases b3 with ⟨b3,b4⟩|⟨b3,b4⟩
 ·have q1:decide (r<0)=false:=by simp;omega
  rw[b4]
  clear b4
  go_enter Tryz.func11,Tryz.ntmps11
  go_wp2
  go_ret
  exact ⟨rfl,rfl⟩
 ·have q1:decide (r<0)=true:=by simp;omega
  rw[b4]
  clear b4
  go_enter Tryz.func11,Tryz.ntmps11
  go_wp2
  go_ret
  exact ⟨rfl,rfl⟩
theorem E4 (W:World) {v:Int} (hv:kX v):Calls Tryz.prog 11 #[.int .i64 v,.int .i64 0,.int .i64 5] W fun e w=>e=.returned (.int .i64 (v % 6))∧w=W:=by
 have:=E5 W (v:=v) (lo:=0) (hi:=5) (d:=5) (N:=6) hv (by decide) (by decide) (by decide) (by decide) (by decide)
 rwa [Int.zero_add] at this
theorem PO {b N D:Nat}{r:Option Nat}{vs:Value}{L:List Nat}{w:World} (h:ZL b r vs N D L w):ZL b r vs (N+1) D L ((w.setCell ⟨b,2,none⟩ (.int .i64 ((N:Int)+1))).setCell ⟨b,4,none⟩ (.int .i64 ((N:Int)+1)))∧KW b r w ((w.setCell ⟨b,2,none⟩ (.int .i64 ((N:Int)+1))).setCell ⟨b,4,none⟩ (.int .i64 ((N:Int)+1))) r:=by
 obtain ⟨⟨v,hv,bo,ho⟩,BK⟩:=h
 obtain ⟨h1,g1⟩:=aJ (j:=2) bo (.int .i64 ((N:Int)+1))
 obtain ⟨h2,g2⟩:=aJ (j:=4) h1 (.int .i64 ((N:Int)+1))
 have hg:=g1.trans g2
 have vG:v.ownBlock≠some b:=fun e=>by have:=(ho.lt b e).1;omega
 have hb:Below b w ((w.setCell ⟨b,2,none⟩ (.int .i64 ((N:Int)+1))).setCell ⟨b,4,none⟩ (.int .i64 ((N:Int)+1))) :=
  ⟨hg.os,hg.tape,hg.output,hg.size,fun k hk=>hg.block k (by have:=(zA bo).1;omega) (by intro e;have:=zC e;omega)⟩
 refine ⟨⟨⟨v,hv,?_,ho.kept hg (.inr vG)⟩,BK.up hb⟩,⟨hg.os,hg.tape,hg.output,hg.size,fun k h1 h2 _=>hg.block k h1 (by intro e;exact h2 (zC e)),.inl rfl⟩⟩
 rw[h2]
 show some (Obj.cells #[v,vs,.int .i64 ((N:Int)+1),.int .i64 (D:Int),.int .i64 ((N:Int)+1)] 56 (0,0))=some (Obj.cells #[v,vs,.int .i64 ((N+1:Nat):Int),.int .i64 (D:Int),.int .i64 ((N+1:Nat):Int)] 56 (0,0))
 rw[Int.natCast_succ]
theorem TJ {k:Nat} (hk:k<6):∃f:ByteArray,Jn[k]?=some (.string f)∧aH f ∈ Bd∧f.size≤8:=by
 match k,hk with
 |0,_=>exact ⟨_,rfl,by decide,by decide⟩
 |1,_=>exact ⟨_,rfl,by decide,by decide⟩
 |2,_=>exact ⟨_,rfl,by decide,by decide⟩
 |3,_=>exact ⟨_,rfl,by decide,by decide⟩
 |4,_=>exact ⟨_,rfl,by decide,by decide⟩
 |5,_=>exact ⟨_,rfl,by decide,by decide⟩
theorem CI {W:World}{b q c:Nat}{r:Option Nat}{vs:Value}{ps:List (Wd×List Nat)}{D:Nat} (h:mV b r vs ps D W) (ws:List Wd) (hw:∀w ∈ ws,KQ w) (hl:ws.length≤4) (hn:ps.length≤1099511627776) (hq:ZZ W q (ws.map Prod.snd)) (hqb:q≠b∧r≠some q) :
  Calls Tryz.prog 18 #[.pointer (some ⟨b,0,none⟩),.slice (some ⟨q,0,none⟩) ws.length c] W fun e w=>e=.returned (.tuple #[])∧∃r' qZ,qZ.map Prod.fst=ws∧mV b r' vs (ps++qZ) D w∧KW b r W w r':=by
 obtain ⟨sa,sn,sc,rfl,hsn,Ym⟩:=h.sp
 have HSn:=aj hsn
 have Te:=aj Ym
 clear hsn Ym
 have dZ:Below W.heap.size W (W.alloc (.cells Jn 9)):=(zE _ _).alloc (zD _) _
 have lM:(W.alloc (.cells Jn 9)).heap[W.heap.size]?=some (.cells Jn 9 (0,0)):=aC _ _
 have bU:=zJ W (.cells Jn 9)
 unfold Jn at dZ lM bU
 obtain ⟨V,hV⟩:∃V,W.alloc (.cells #[.string ⟨#[32]⟩,.string ⟨#[10]⟩,.string ⟨#[9,32]⟩,.string ⟨#[47,42,32,125,32,42,47]⟩,.string ⟨#[32,47,47,32,59,32,123,10]⟩,.string ⟨#[32,32]⟩] 9)=V:=⟨_,rfl⟩
 rw[hV] at dZ lM bU
 have KL:q<W.heap.size:=(zA hq).1
 have HV:=aj (And.intro dZ (And.intro lM bU))
 have HI:=aj (h.up dZ)
 have HQ:=aj (show ZZ V q (ws.map Prod.snd) from (dZ.block q KL).trans hq)
 have HL:=aj (And.intro h.lt (And.intro KL hqb))
 have HR:=aj h.row
 have HW:=aj hw
 have Hl3:=aj hl
 have e0:=hV
 clear h hw hq KL hqb dZ lM bU hV hl
 go_enter Tryz.func18,Tryz.ntmps18
 go_wp2
 go_loopg [5,6] ws.length (fun gk v5 _ wr=>∃(i:Nat) (r':Option Nat) (qZ:List (Wd×List Nat)),v5=.int .i64 (i:Int)∧gk=ws.length-i∧i≤ws.length∧Hid (qZ.map Prod.fst=ws.take i)∧Hid (mV b r' (.slice sa sn sc) (ps++qZ) D wr)∧Hid (KW b r V wr r'))
 case atStart=>exact ⟨0,r,[],rfl,rfl,by omega,rfl,by show mV b r (.slice sa sn sc) (ps++[]) D V;rw[List.append_nil];exact aa HI,KW.refl _ _ _⟩
 case round =>
  obtain ⟨i,r',qZ,rfl,fi,qz,HT,oO,HK⟩:=hrel
  have gA:=aj fi
  clear fi
  by_cases cw:i<ws.length
  ·obtain ⟨x,hx⟩:∃x,ws[i]?=some x:=⟨_,List.getElem?_eq_getElem cw⟩
   have HWx:=aj (aa HW x (List.mem_of_getElem? hx))
   have Hx:=aj hx
   have dN:=aj cw
   have hrq:r'≠some q:=by
    rcases (aa HK).row with e|⟨k,e,hk⟩
    ·rw[e];exact (aa HL).2.2.2
    ·rw[e];intro e2;have:=zC e2;have:=(aa HL).2.1;have:=(aa HV).2.2;omega
   have BO:wr.cell? ⟨q,i,none⟩=some (.string x.2):=by
    have FU:wr.heap[q]?=V.heap[q]?:=(aa HK).block q (by have:=(aa HL).2.1;have:=(aa HV).2.2;omega) (aa HL).2.2.1 (by
     intro e;have:=aa HR q e;exact (aa HL).2.2.2 e)
    rw[cell_of_row _ _ _ _ _ _ (FU.trans (aa HQ))]
    have:=jX (ws.map Prod.snd) i x.2 (by rw[List.getElem?_map,hx];rfl)
    simpa using this
   have HQr:=aj hrq
   have HCq:=aj BO
   have hN:qZ.length≤4:=by
    have h1:=congrArg List.length (aa HT)
    rw[List.length_map,List.length_take] at h1
    have:=aa Hl3
    omega
   have HN:=aj hN
   have HM:=aj (aa oO).mid
   have HOl:=aj (show (j5 (ps++qZ)).length≤43980465111300 by
    have:=Dk _ (aa oO).ok
    rw[zK] at this
    omega)
   have Hxs:=aj (show x.2.size≤32 by
    obtain ⟨k,_,_,_,_,Zq⟩:=mh (aa HWx)
    exact Zq)
   obtain ⟨xk,xt⟩:=x
   simp only at HCq Hxs
   obtain ⟨N,U0⟩:∃N,(ps++qZ).length=N:=⟨_,rfl⟩
   have HNq:=aj U0
   rw[U0] at HM
   obtain ⟨L,hLq⟩:∃L,j5 (ps++qZ)=L:=⟨_,rfl⟩
   have HLq:=aj hLq
   rw[hLq] at HM HOl
   have i0:(0:Int)≤(i:Int):=zH _
   have i1:(i:Int)<(ws.length:Int):=by omega
   clear hx hrq BO hN U0 cw hLq
   obtain ⟨L2,hL2⟩:∃L2,L++aH xt=L2:=⟨_,rfl⟩
   have sA:=aj hL2
   clear hL2
   go_upto_region 4 with fail
   obtain ⟨v,hv,bo,ho⟩:=(aa HM).dJ
   have xQ:=(zA bo).1
   have BK:=(aa HM).sp
   refine wp_region_any (by kernel_rfl) (cj (z:=12) (T:=fun w'=>w'.cell? ⟨b,0,none⟩=some v∧w'.cell? ⟨q,i,none⟩=some (.string xt)) _ _ _ _ ?_)
   try (change cW _ _ _ _ _ _ _ _ _ (World.drew _))
   have jo:Below wr.heap.size wr wr.drew:=below_drewN (zE _ _) 1
   have bo:wr.drew.heap[b]?=_:=bo
   have ho:Bytes (b+1) wr.drew v _:=cz ho jo
   have BO:wr.drew.cell? ⟨q,i,none⟩=some (.string xt):=aa HCq
   obtain ⟨wd,iZ⟩:∃x,wr.drew=x:=⟨_,rfl⟩
   rw[iZ] at jo bo ho BO ⊢
   have hT:(fun w':World=>w'.cell? ⟨b,0,none⟩=some v∧w'.cell? ⟨q,i,none⟩=some (.string xt)) wd:=⟨cell_of_row _ _ _ _ _ _ bo,BO⟩
   refine ak 0 (.pointer (some ⟨b,0,none⟩)) 14 rfl rfl (Or.inl ⟨by rfl,fun w' hw=>by obtain ⟨t0,t1⟩:=hw;go_simp⟩) hT ?_
   simp only[Act.put,zL,zM,zN]
   refine ak 1 (.pointer (some ⟨b,0,none⟩)) 15 rfl rfl (Or.inl ⟨by rfl,fun w' hw=>by obtain ⟨t0,t1⟩:=hw;go_simp⟩) hT ?_
   simp only[Act.put,zL,zM,zN]
   refine ak 2 (.pointer (some ⟨b,0,none⟩)) 16 rfl rfl (Or.inl ⟨by rfl,fun w' hw=>by obtain ⟨t0,t1⟩:=hw;go_simp⟩) hT ?_
   simp only[Act.put,zL,zM,zN]
   refine ak 3 (.pointer (some ⟨b,0,none⟩)) 17 rfl rfl (Or.inl ⟨by rfl,fun w' hw=>by obtain ⟨t0,t1⟩:=hw;go_simp⟩) hT ?_
   simp only[Act.put,zL,zM,zN]
   refine ak 4 v 18 rfl rfl (Or.inl ⟨by rfl,fun w' hw=>by obtain ⟨t0,t1⟩:=hw;go_simp⟩) hT ?_
   simp only[Act.put,zL,zM,zN]
   refine ak 5 (.slice (some ⟨q,0,none⟩) ws.length c) 19 rfl rfl (Or.inl ⟨by rfl,fun w' hw=>by obtain ⟨t0,t1⟩:=hw;go_simp⟩) hT ?_
   simp only[Act.put,zL,zM,zN]
   refine ak 6 (.int .i64 (i:Int)) 20 rfl rfl (Or.inl ⟨by rfl,fun w' hw=>by obtain ⟨t0,t1⟩:=hw;go_simp⟩) hT ?_
   simp only[Act.put,zL,zM,zN]
   refine ak 7 (.pointer (some ⟨q,i,none⟩)) 21 rfl rfl (Or.inl ⟨by rfl,fun w' hw=>by obtain ⟨t0,t1⟩:=hw;go_simp⟩) hT ?_
   simp only[Act.put,zL,zM,zN]
   refine ak 8 (.string xt) 22 rfl rfl (Or.inl ⟨by rfl,fun w' hw=>by obtain ⟨t0,t1⟩:=hw;go_simp⟩) hT ?_
   simp only[Act.put,zL,zM,zN]
   refine ay 9 (by kernel_rfl) rfl (fun K hK=>?_)
   refine qe 23 rfl rfl (.tmp 18) (.tmp 22) rfl (b+1) v _ (by first|rfl|simp[Act.eval]) ho xt (by first|rfl|simp[Act.eval]) (by have:=aa HOl;have:=aa Hxs;omega) (by have:=(zA bo).1;omega) ?_
   intro v' w2 ep ej FV
   rw[aa sA] at ep
   obtain ⟨va,vc,rfl⟩:=bn ep
   have vG:v.ownBlock≠some b:=fun e=>by have:=(ho.lt b e).1;omega
   have Yb:v.ownBlock≠some q:=by rw[hv];exact aa HQr
   have j8:=(ej.block b (zA bo).1 (fun e=>vG e.symm)).trans bo
   have Np:w2.cell? ⟨q,i,none⟩=some (.string xt):=(World.cell?_of_block (ej.block _ (World.block_lt_of_cell? _ _ BO) (fun e=>Yb e.symm))).trans BO
   have jr:(fun w':World=>w'.cell? ⟨b,0,none⟩=some v∧w'.cell? ⟨q,i,none⟩=some (.string xt)) w2:=⟨cell_of_row _ _ _ _ _ _ j8,Np⟩
   refine hK _ _ ⟨fun _=>jr,?_⟩
   clear hK K hT
   simp only[Act.put,zL,zM,zN]
   refine ay 10 (by kernel_rfl) rfl (fun K hK=>?_)
   go_simp
   refine hK _ _ ⟨fun _=>jr,?_⟩
   clear hK K
   refine ay 11 (by kernel_rfl) rfl (fun K hK=>?_)
   go_simp
   refine hK _ _ ⟨fun _=>jr,?_⟩
   clear hK K
   refine ay 12 (by kernel_rfl) rfl (fun K hK=>?_)
   have WM:=jr.1
   have hf0:w2.frozen? ⟨b,0,none⟩=false:=by simp[World.frozen?,j8]
   obtain ⟨Nt,fB⟩:=aJ (j:=0) j8 (.slice va L2.length vc)
   have hA:=KZ hv bo ho (BK.up (jo.mono (by omega))) ep ej FV
   go_simp
   refine hK _ _ ⟨fun q=>absurd rfl q,?_⟩
   clear hK K
   refine bj (by kernel_rfl) ?_
   have HA:=aj (And.intro hA.1 (((aa HK).trans (.dX jo)).trans hA.2))
   clear hA jo bo ho BO iZ jr WM hf0 j8 Np Nt fB ej FV ep hv xQ BK vG Yb
   obtain ⟨r3,Yr⟩:∃r,(Value.slice va L2.length vc).ownBlock=r:=⟨_,rfl⟩
   rw[Yr] at HA
   obtain ⟨W3,Q9⟩:∃x,w2.setCell ⟨b,0,none⟩ (.slice va L2.length vc)=x:=⟨_,rfl⟩
   rw[Q9] at HA ⊢
   clear Yr Q9
   have Sj:=aj (aa HA).1
   have GF:=aj (aa HA).2
   clear HA HM HCq
   have c1:W3.cell? ⟨b,1,none⟩=some (.slice sa sn sc):=by
    obtain ⟨v0,_,k0,_⟩:=(aa Sj).dJ
    exact cell_of_row _ _ _ _ _ _ k0
   have c2:W3.cell? ⟨b,2,none⟩=some (.int .i64 (N:Int)):=by
    obtain ⟨v0,_,k0,_⟩:=(aa Sj).dJ
    exact cell_of_row _ _ _ _ _ _ k0
   have n0:(0:Int)≤(N:Int):=zH _
   have Z8:Hid (∀k,k<6→∃f:ByteArray,W3.cell? ⟨W.heap.size,k,none⟩=some (.string f)∧aH f ∈ Bd∧f.size≤8):=fun k hk=>by
    obtain ⟨f,h1,h2,h3⟩:=TJ hk
    have FU:W3.heap[W.heap.size]?=V.heap[W.heap.size]?:=(aa GF).block _ (by have:=(aa HV).2.2;omega) (by have:=(aa HL).1;omega) (fun e=>by have:=aa HR _ e;omega)
    exact ⟨f,by rw[cell_of_row _ _ _ _ _ _ (FU.trans (aa HV).2.1)];exact h1,h2,h3⟩
   have abv:Hid (r3≠some W.heap.size):=by
    rcases (aa GF).row with e|⟨k,e,hk⟩
    ·rw[e];intro e2;have:=aa HR _ e2;omega
    ·rw[e];intro e2;have:=zC e2;have:=(aa HV).2.2;omega
   clear HQr
   go_upto_if 31 with fail
   go_cut [6] (fun v6 wx=>∃k:Nat,v6=.int .i64 (k:Int)∧k<6∧∃m,wx=W3.drewN m)
   case first =>
    by_cases h0:0<sn
    ·have d0:decide (0<sn)=true:=decide_eq_true h0
     obtain ⟨g,off,rfl,UH,me,cB⟩:=aa Te h0
     obtain ⟨m,hm⟩:∃m,N % sn=m:=⟨_,rfl⟩
     have jT:m<sn:=by rw[←hm];exact Nat.mod_lt _ h0
     have aa1:(N:Int).tmod (sn:Int)=(m:Int):=by rw[←hm];rfl
     obtain ⟨z,hz,hcz⟩:=cB m jT
     have c3:W3.cell? ⟨g,off+m,none⟩=some (.int .i64 z):=by
      have FU:W3.heap[g]?=W.heap[g]?:=((aa GF).block g (by have:=(aa HV).2.2;omega) (by omega) (fun e=>by have:=aa HR _ e;omega)).trans ((aa HV).1.block g me)
      exact (World.cell?_of_block (a:=⟨g,off+m,none⟩) FU).trans hcz
     have HZ:=aj hz
     have m0:(0:Int)≤(m:Int):=zH _
     have m1:(m:Int)<(sn:Int):=by omega
     have s0:¬(sn:Int)=0:=by omega
     have Hk:Hid (∃k:Nat,z % 6=(k:Int)∧k<6):=⟨(z % 6).toNat,by omega,by omega⟩
     obtain ⟨k,rU,iq⟩:=aa Hk
     have Z2:=aj (fun w:World=>E4 w (aa HZ))
     rw[rU] at Z2
     clear hm jT hcz cB hz Hk rU h0
     go_wp2_with fail
     go_quiet (first|(go_at_call 11;exact Calls.quiet_of_same (aa Z2 _)))
     go_wp2_with fail
     go_meet
     exact ⟨k,rfl,iq,_,rfl⟩
    ·have aaW:sn=0:=by omega
     subst aaW
     clear h0
     go_wp2_with fail
     go_meet
     exact ⟨0,rfl,by omega,0,rfl⟩
   case rest =>
    obtain ⟨k,rfl,hk6,m,rfl⟩:=hcut
    have SX:Below W3.heap.size W3 (W3.drewN m):=below_drewN (zE _ _) m
    have Si:=aj (show ZL b r3 (.slice sa sn sc) N D L2 (W3.drewN m) by
     obtain ⟨⟨v0,k0,k1,k2⟩,k3⟩:=aa Sj
     exact ⟨⟨v0,k0,k1,cz k2 SX⟩,k3.up (SX.mono (by have:=(zA k1).1;omega))⟩)
    have V6:=aj ((aa GF).trans (.dX SX))
    obtain ⟨f,hf1,hf2,hf3⟩:=aa Z8 k hk6
    have Wf:Hid ((W3.drewN m).cell? ⟨W.heap.size,k,none⟩=some (.string f)):=hf1
    have HF:=aj hf2
    have Xg:=aj hf3
    obtain ⟨W4,hW4⟩:∃x,W3.drewN m=x:=⟨_,rfl⟩
    rw[hW4] at Si V6 Wf ⊢
    have abx:=aj (show L2.length+f.size≤140737488355328 by
     rw[←aa sA,zK,bk]
     have:=aa HOl;have:=aa Hxs;have:=aa Xg;omega)
    obtain ⟨L3,hL3⟩:∃L3,L2++aH f=L3:=⟨_,rfl⟩
    have HL3:=aj hL3
    have k0:(0:Int)≤(k:Int):=zH _
    have k6:(k:Int)<6:=by omega
    clear SX hW4 hL3 hf1 hf2 hf3 Sj Z8 c1 c2 hk6
    go_upto_region 8 with fail
    obtain ⟨v,hv,bo,ho⟩:=(aa Si).dJ
    have xQ:=(zA bo).1
    have BK:=(aa Si).sp
    refine wp_region_any (by kernel_rfl) (cj (z:=12) (T:=fun w'=>w'.cell? ⟨b,0,none⟩=some v∧w'.cell? ⟨W.heap.size,k,none⟩=some (.string f)) _ _ _ _ ?_)
    try (change cW _ _ _ _ _ _ _ _ _ (World.drew _))
    have jo:Below W4.heap.size W4 W4.drew:=below_drewN (zE _ _) 1
    have bo:W4.drew.heap[b]?=_:=bo
    have ho:Bytes (b+1) W4.drew v _:=cz ho jo
    have BO:W4.drew.cell? ⟨W.heap.size,k,none⟩=some (.string f):=aa Wf
    obtain ⟨wd,iZ⟩:∃x,W4.drew=x:=⟨_,rfl⟩
    rw[iZ] at jo bo ho BO ⊢
    have hT:(fun w':World=>w'.cell? ⟨b,0,none⟩=some v∧w'.cell? ⟨W.heap.size,k,none⟩=some (.string f)) wd:=⟨cell_of_row _ _ _ _ _ _ bo,BO⟩
    refine ak 0 (.pointer (some ⟨b,0,none⟩)) 52 rfl rfl (Or.inl ⟨by rfl,fun w' hw=>by obtain ⟨t0,t1⟩:=hw;go_simp⟩) hT ?_
    simp only[Act.put,zL,zM,zN]
    refine ak 1 (.pointer (some ⟨b,0,none⟩)) 53 rfl rfl (Or.inl ⟨by rfl,fun w' hw=>by obtain ⟨t0,t1⟩:=hw;go_simp⟩) hT ?_
    simp only[Act.put,zL,zM,zN]
    refine ak 2 (.pointer (some ⟨b,0,none⟩)) 54 rfl rfl (Or.inl ⟨by rfl,fun w' hw=>by obtain ⟨t0,t1⟩:=hw;go_simp⟩) hT ?_
    simp only[Act.put,zL,zM,zN]
    refine ak 3 (.pointer (some ⟨b,0,none⟩)) 55 rfl rfl (Or.inl ⟨by rfl,fun w' hw=>by obtain ⟨t0,t1⟩:=hw;go_simp⟩) hT ?_
    simp only[Act.put,zL,zM,zN]
    refine ak 4 v 56 rfl rfl (Or.inl ⟨by rfl,fun w' hw=>by obtain ⟨t0,t1⟩:=hw;go_simp⟩) hT ?_
    simp only[Act.put,zL,zM,zN]
    refine ak 5 (.slice (some ⟨W.heap.size,0,none⟩) 6 6) 57 rfl rfl (Or.inl ⟨by rfl,fun w' hw=>by obtain ⟨t0,t1⟩:=hw;go_simp⟩) hT ?_
    simp only[Act.put,zL,zM,zN]
    refine ak 6 (.int .i64 (k:Int)) 58 rfl rfl (Or.inl ⟨by rfl,fun w' hw=>by obtain ⟨t0,t1⟩:=hw;go_simp⟩) hT ?_
    simp only[Act.put,zL,zM,zN]
    refine ak 7 (.pointer (some ⟨W.heap.size,k,none⟩)) 59 rfl rfl (Or.inl ⟨by rfl,fun w' hw=>by obtain ⟨t0,t1⟩:=hw;go_simp⟩) hT ?_
    simp only[Act.put,zL,zM,zN]
    refine ak 8 (.string f) 60 rfl rfl (Or.inl ⟨by rfl,fun w' hw=>by obtain ⟨t0,t1⟩:=hw;go_simp⟩) hT ?_
    simp only[Act.put,zL,zM,zN]
    refine ay 9 (by kernel_rfl) rfl (fun K hK=>?_)
    refine qe 61 rfl rfl (.tmp 56) (.tmp 60) rfl (b+1) v _ (by first|rfl|simp[Act.eval]) ho f (by first|rfl|simp[Act.eval]) (aa abx) (by have:=(zA bo).1;omega) ?_
    intro v' w2 ep ej FV
    rw[aa HL3] at ep
    obtain ⟨va,vc,rfl⟩:=bn ep
    have vG:v.ownBlock≠some b:=fun e=>by have:=(ho.lt b e).1;omega
    have Yb:v.ownBlock≠some W.heap.size:=by rw[hv];exact aa abv
    have j8:=(ej.block b (zA bo).1 (fun e=>vG e.symm)).trans bo
    have Np:w2.cell? ⟨W.heap.size,k,none⟩=some (.string f):=(World.cell?_of_block (ej.block _ (World.block_lt_of_cell? _ _ BO) (fun e=>Yb e.symm))).trans BO
    have jr:(fun w':World=>w'.cell? ⟨b,0,none⟩=some v∧w'.cell? ⟨W.heap.size,k,none⟩=some (.string f)) w2:=⟨cell_of_row _ _ _ _ _ _ j8,Np⟩
    refine hK _ _ ⟨fun _=>jr,?_⟩
    clear hK K hT
    simp only[Act.put,zL,zM,zN]
    refine ay 10 (by kernel_rfl) rfl (fun K hK=>?_)
    go_simp
    refine hK _ _ ⟨fun _=>jr,?_⟩
    clear hK K
    refine ay 11 (by kernel_rfl) rfl (fun K hK=>?_)
    go_simp
    refine hK _ _ ⟨fun _=>jr,?_⟩
    clear hK K
    refine ay 12 (by kernel_rfl) rfl (fun K hK=>?_)
    have WM:=jr.1
    have hf0:w2.frozen? ⟨b,0,none⟩=false:=by simp[World.frozen?,j8]
    obtain ⟨Nt,fB⟩:=aJ (j:=0) j8 (.slice va L3.length vc)
    have hA:=KZ hv bo ho (BK.up (jo.mono (by omega))) ep ej FV
    go_simp
    refine hK _ _ ⟨fun q=>absurd rfl q,?_⟩
    clear hK K
    refine bj (by kernel_rfl) ?_
    have HA:=aj (And.intro hA.1 (((aa V6).trans (.dX jo)).trans hA.2))
    clear hA jo bo ho BO iZ jr WM hf0 j8 Np Nt fB ej FV ep hv xQ BK vG Yb
    obtain ⟨r5,hr5⟩:∃r,(Value.slice va L3.length vc).ownBlock=r:=⟨_,rfl⟩
    rw[hr5] at HA
    obtain ⟨W5,hW5⟩:∃x,w2.setCell ⟨b,0,none⟩ (.slice va L3.length vc)=x:=⟨_,rfl⟩
    rw[hW5] at HA ⊢
    clear hr5 hW5
    have O6:=aj (aa HA).1
    have HK5:=aj (aa HA).2
    clear HA Si Wf
    have hwn:=PO (aa O6)
    have c2:W5.cell? ⟨b,2,none⟩=some (.int .i64 (N:Int)):=by
     obtain ⟨v0,_,k0,_⟩:=(aa O6).dJ
     exact cell_of_row _ _ _ _ _ _ k0
    have c4:W5.cell? ⟨b,4,none⟩=some (.int .i64 (N:Int)):=by
     obtain ⟨v0,_,k0,_⟩:=(aa O6).dJ
     exact cell_of_row _ _ _ _ _ _ k0
    have z:∀j,W5.frozen? ⟨b,j,none⟩=false:=fun j=>by
     obtain ⟨v0,_,k0,_⟩:=(aa O6).dJ
     simp[World.frozen?,k0]
    have z2:=z 2
    have z4:=z 4
    have n0:(0:Int)≤(N:Int):=zH _
    have n1:(N:Int)≤1099511627790:=by have h9:=aa HNq;rw[zK] at h9;have:=aa HN;omega
    have HWN:=aj hwn
    have l8:ws.length≤4:=aa Hl3
    clear hwn z
    go_wp2
    go_roundg (ws.length-(i+1))
    case measure=>have:=aa gA;have:=aa dN;omega
    case rel =>
     refine ⟨i+1,r5,qZ++[((xk,xt),aH f)],by go_num,rfl,aa dN,?_,?_,(aa HK5).trans (aa HWN).2⟩
     ·rw[List.map_append,aa HT,eD (aa Hx)]
      rfl
     ·obtain ⟨h1,h2⟩:=(aa HWN).1
      have e1:(ps++(qZ++[((xk,xt),aH f)])).length=N+1:=by rw[←List.append_assoc,zK,aa HNq];rfl
      have e2:j5 (ps++(qZ++[((xk,xt),aH f)]))=L3:=by
       rw[←List.append_assoc,Dl,aa HLq,←aa HL3,←aa sA]
       show L++(aH xt++(aH f++[]))=_
       rw[List.append_nil,List.append_assoc]
      refine ⟨?_,h2,?_⟩
      ·rw[e1,e2]
       exact h1
      ·rw[←List.append_assoc]
       refine (aa oO).ok.app (fun y hy=>?_)
       rw[List.mem_singleton.1 hy]
       exact ⟨aa HWx,aa HF⟩
  ·obtain rfl:i=ws.length:=by omega
   have hT:=aa HT
   rw[List.take_length] at hT
   have zr:=aj hT
   clear hT
   go_wp2
   go_end0
   exact ⟨rfl,r',qZ,aa zr,aa oO,(KW.dX (aa HV).1).trans (aa HK)⟩
end Go.Proofs.YtmlphohdcejniaaGreatDoor
