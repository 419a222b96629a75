import Derived.Test.YtmlphohdcejniaaGreatDoorM36
set_option maxHeartbeats 2000000
set_option maxRecDepth 100000
namespace Go.Proofs.YtmlphohdcejniaaGreatDoor
open Go.RowKit
attribute [local go_sem ↓] Go.wp_at_zero Go.wp_at_succ
def GZ:Array Value:=#[.string ⟨#[32]⟩,.string ⟨#[10]⟩,.string ⟨#[9,32]⟩,.string ⟨#[47,42,32,125,32,42,47]⟩,.string ⟨#[32,47,47,32,59,32,123,10]⟩,.string ⟨#[32,32]⟩]
def XZ (w:World) (q:Nat) (l:List ByteArray):Prop:=w.heap[q]?=some (.cells (bS l).toArray 9 (0,0))
structure XM (b:Nat) (r:Option Nat) (vs:Value) (n D:Nat) (bs:List Nat) (w:World):Prop where
 dt:∃v,v.ownBlock=r∧w.heap[b]?=some (.cells (Vg v vs n D) 56 (0,0))∧Bytes (b+1) w v bs
 sp:EY b w vs
theorem l7.mid {b:Nat}{r:Option Nat}{vs:Value}{ps:List (Wd×List Nat)}{D:Nat}{w:World} (h:l7 b r vs ps D w):XM b r vs ps.length D (jz ps) w:=⟨h.dt,h.sp⟩
theorem Jy {b n D:Nat}{r:Option Nat}{vs v v':Value}{L L':List Nat}{wd w2:World} (hv:v.ownBlock=r) (bo:wd.heap[b]?=some (.cells (Vg v vs n D) 56 (0,0))) (ho:Bytes (b+1) wd v L) (Lk:EY b wd vs) (dQ:Bytes (b+1) w2 v' L') (dP:wd.grownBy w2 v.ownBlock) (Ej:v'.ownBlock=v.ownBlock∨v'.ownBlock=some wd.heap.size) :
  XM b v'.ownBlock vs n D L' (w2.setCell ⟨b,0,none⟩ v')∧KW b r wd (w2.setCell ⟨b,0,none⟩ v') v'.ownBlock:=by
 have tW:v.ownBlock≠some b:=fun e=>by have:=(ho.lt b e).1;omega
 have cc:=(zA bo).1
 have jE:=(dP.block b cc (fun e=>tW e.symm)).trans bo
 obtain ⟨LJ,eY⟩:=aJ (j:=0) jE v'
 have aav:v'.ownBlock≠some b:=fun e=>by have:=(dQ.lt b e).1;omega
 have hb:Below b wd (w2.setCell ⟨b,0,none⟩ v'):=by
  refine ⟨eY.os.trans dP.os,eY.tape.trans dP.tape,eY.output.trans dP.output,Nat.le_trans dP.size eY.size,fun k hk=>?_⟩
  rw[eY.block k (by have:=dP.size;omega) (by intro e;have:=zC e;omega),dP.block k (by omega) (fun e=>by have:=(ho.lt k e.symm).1;omega)]
 refine ⟨⟨⟨v',rfl,LJ,dQ.kept eY (.inr aav)⟩,Lk.up hb⟩,⟨eY.os.trans dP.os,eY.tape.trans dP.tape,eY.output.trans dP.output,Nat.le_trans dP.size eY.size,fun k h1 h2 h3=>?_,?_⟩⟩
 ·rw[eY.block k (by have:=dP.size;omega) (by intro e;exact h2 (zC e)),dP.block k h1 (fun e=>h3 (by rw[←hv,←e]))]
 ·rcases Ej with e|e
  ·exact .inl (by rw[e,hv])
  ·exact .inr ⟨_,e,zD _⟩
theorem DA (W:World) {v lo hi d N:Int} (hv:kQ v) (dr:0≤lo∧lo≤4294967295) (hd:hi-lo=d) (hN:d+1=N) (h0:0≤d) (hh:hi≤4294967295) :
  Calls Tryz.prog 11 #[.int .i64 v,.int .i64 lo,.int .i64 hi] W fun e w=>e=.returned (.int .i64 (lo+v % N))∧w=W:=by
 obtain ⟨Sw,Qu⟩:=hv
 obtain ⟨b1,b2,b3⟩:=ye v N (by omega)
 obtain ⟨r,hr⟩:∃r,v.tmod N=r:=⟨_,rfl⟩
 rw[hr] at b1 b2 b3
 have c1:N≤4294967296:=by omega
 have c2:0<N:=by omega
 have c3:¬N=0:=by omega
 have c4:d≤4294967295:=by omega
 rcases b3 with ⟨b3,b4⟩|⟨b3,b4⟩
 ·have q1:decide (r<0)=false:=by simp;omega
  rw[b4]
  clear b4
  go_enter Tryz.func11,Tryz.ntmps11
  go_wp2
  go_ret
  exact ⟨rfl,rfl⟩
 ·have q1:decide (r<0)=true:=by simp;omega
  rw[b4]
  clear b4
  go_enter Tryz.func11,Tryz.ntmps11
  go_wp2
  go_ret
  exact ⟨rfl,rfl⟩
theorem Dz (W:World) {v:Int} (hv:kQ v):Calls Tryz.prog 11 #[.int .i64 v,.int .i64 0,.int .i64 5] W fun e w=>e=.returned (.int .i64 (v % 6))∧w=W:=by
 have:=DA W (v:=v) (lo:=0) (hi:=5) (d:=5) (N:=6) hv (by decide) (by decide) (by decide) (by decide) (by decide)
 rwa [Int.zero_add] at this
theorem N3 {b N D:Nat}{r:Option Nat}{vs:Value}{L:List Nat}{w:World} (h:XM b r vs N D L w):XM b r vs (N+1) D L ((w.setCell ⟨b,2,none⟩ (.int .i64 ((N:Int)+1))).setCell ⟨b,4,none⟩ (.int .i64 ((N:Int)+1)))∧KW b r w ((w.setCell ⟨b,2,none⟩ (.int .i64 ((N:Int)+1))).setCell ⟨b,4,none⟩ (.int .i64 ((N:Int)+1))) r:=by
 obtain ⟨⟨v,hv,bo,ho⟩,Lk⟩:=h
 obtain ⟨h1,g1⟩:=aJ (j:=2) bo (.int .i64 ((N:Int)+1))
 obtain ⟨h2,g2⟩:=aJ (j:=4) h1 (.int .i64 ((N:Int)+1))
 have hg:=g1.trans g2
 have tW:v.ownBlock≠some b:=fun e=>by have:=(ho.lt b e).1;omega
 have hb:Below b w ((w.setCell ⟨b,2,none⟩ (.int .i64 ((N:Int)+1))).setCell ⟨b,4,none⟩ (.int .i64 ((N:Int)+1))) :=
  ⟨hg.os,hg.tape,hg.output,hg.size,fun k hk=>hg.block k (by have:=(zA bo).1;omega) (by intro e;have:=zC e;omega)⟩
 refine ⟨⟨⟨v,hv,?_,ho.kept hg (.inr tW)⟩,Lk.up hb⟩,⟨hg.os,hg.tape,hg.output,hg.size,fun k h1 h2 _=>hg.block k h1 (by intro e;exact h2 (zC e)),.inl rfl⟩⟩
 rw[h2]
 show some (Obj.cells #[v,vs,.int .i64 ((N:Int)+1),.int .i64 (D:Int),.int .i64 ((N:Int)+1)] 56 (0,0))=some (Obj.cells #[v,vs,.int .i64 ((N+1:Nat):Int),.int .i64 (D:Int),.int .i64 ((N+1:Nat):Int)] 56 (0,0))
 rw[Int.natCast_succ]
theorem RM {k:Nat} (hk:k<6):∃f:ByteArray,GZ[k]?=some (.string f)∧aG f ∈ zt∧f.size≤8:=by
 match k,hk with
 |0,_=>exact ⟨_,rfl,by decide,by decide⟩
 |1,_=>exact ⟨_,rfl,by decide,by decide⟩
 |2,_=>exact ⟨_,rfl,by decide,by decide⟩
 |3,_=>exact ⟨_,rfl,by decide,by decide⟩
 |4,_=>exact ⟨_,rfl,by decide,by decide⟩
 |5,_=>exact ⟨_,rfl,by decide,by decide⟩
theorem A' {W:World}{b q c:Nat}{r:Option Nat}{vs:Value}{ps:List (Wd×List Nat)}{D:Nat} (h:l7 b r vs ps D W) (ws:List Wd) (hw:∀w ∈ ws,Jq w) (hl:ws.length≤4) (hn:ps.length≤1099511627776) (hq:XZ W q (ws.map Prod.snd)) (Zb:q≠b∧r≠some q) :
  Calls Tryz.prog 18 #[.pointer (some ⟨b,0,none⟩),.slice (some ⟨q,0,none⟩) ws.length c] W fun e w=>e=.returned (.tuple #[])∧∃r' p8,p8.map Prod.fst=ws∧l7 b r' vs (ps++p8) D w∧KW b r W w r':=by
 obtain ⟨sa,sn,sc,rfl,hsn,Wh⟩:=h.sp
 have HSn:=aj hsn
 have Q6:=aj Wh
 clear hsn Wh
 have dN:Below W.heap.size W (W.alloc (.cells GZ 9)):=(zE _ _).alloc (zD _) _
 have mh:(W.alloc (.cells GZ 9)).heap[W.heap.size]?=some (.cells GZ 9 (0,0)):=aC _ _
 have bR:=zJ W (.cells GZ 9)
 unfold GZ at dN mh bR
 obtain ⟨V,hV⟩:∃V,W.alloc (.cells #[.string ⟨#[32]⟩,.string ⟨#[10]⟩,.string ⟨#[9,32]⟩,.string ⟨#[47,42,32,125,32,42,47]⟩,.string ⟨#[32,47,47,32,59,32,123,10]⟩,.string ⟨#[32,32]⟩] 9)=V:=⟨_,rfl⟩
 rw[hV] at dN mh bR
 have Jn:q<W.heap.size:=(zA hq).1
 have HV:=aj (And.intro dN (And.intro mh bR))
 have HI:=aj (h.up dN)
 have HQ:=aj (show XZ V q (ws.map Prod.snd) from (dN.block q Jn).trans hq)
 have HL:=aj (And.intro h.lt (And.intro Jn Zb))
 have HR:=aj h.row
 have HW:=aj hw
 have Hl3:=aj hl
 have e0:=hV
 clear h hw hq Jn Zb dN mh bR hV hl
 go_enter Tryz.func18,Tryz.ntmps18
 go_wp2
 go_loopg [5,6] ws.length (fun gk v5 _ wr=>∃(i:Nat) (r':Option Nat) (p8:List (Wd×List Nat)),v5=.int .i64 (i:Int)∧gk=ws.length-i∧i≤ws.length∧Hid (p8.map Prod.fst=ws.take i)∧Hid (l7 b r' (.slice sa sn sc) (ps++p8) D wr)∧Hid (KW b r V wr r'))
 case atStart=>exact ⟨0,r,[],rfl,rfl,by omega,rfl,by show l7 b r (.slice sa sn sc) (ps++[]) D V;rw[List.append_nil];exact aa HI,KW.refl _ _ _⟩
 case round =>
  obtain ⟨i,r',p8,rfl,eN,pC,HT,nJ,HK⟩:=hrel
  have fQ:=aj eN
  clear eN
  by_cases cc:i<ws.length
  ·obtain ⟨x,hx⟩:∃x,ws[i]?=some x:=⟨_,List.getElem?_eq_getElem cc⟩
   have HWx:=aj (aa HW x (List.mem_of_getElem? hx))
   have Hx:=aj hx
   have dA:=aj cc
   have hrq:r'≠some q:=by
    rcases (aa HK).row with e|⟨k,e,hk⟩
    ·rw[e];exact (aa HL).2.2.2
    ·rw[e];intro e2;have:=zC e2;have:=(aa HL).2.1;have:=(aa HV).2.2;omega
   have Ak:wr.cell? ⟨q,i,none⟩=some (.string x.2):=by
    have Ei:wr.heap[q]?=V.heap[q]?:=(aa HK).block q (by have:=(aa HL).2.1;have:=(aa HV).2.2;omega) (aa HL).2.2.1 (by
     intro e;have:=aa HR q e;exact (aa HL).2.2.2 e)
    rw[cell_of_row _ _ _ _ _ _ (Ei.trans (aa HQ))]
    have:=jw (ws.map Prod.snd) i x.2 (by rw[List.getElem?_map,hx];rfl)
    simpa using this
   have HQr:=aj hrq
   have HCq:=aj Ak
   have hN:p8.length≤4:=by
    have h1:=congrArg List.length (aa HT)
    rw[List.length_map,List.length_take] at h1
    have:=aa Hl3
    omega
   have HN:=aj hN
   have HM:=aj (aa nJ).mid
   have HOl:=aj (show (jz (ps++p8)).length≤43980465111300 by
    have:=BK _ (aa nJ).ok
    rw[zK] at this
    omega)
   have Hxs:=aj (show x.2.size≤32 by
    obtain ⟨k,_,_,_,_,Xr⟩:=lr (aa HWx)
    exact Xr)
   obtain ⟨xk,xt⟩:=x
   simp only at HCq Hxs
   obtain ⟨N,SZ⟩:∃N,(ps++p8).length=N:=⟨_,rfl⟩
   have HNq:=aj SZ
   rw[SZ] at HM
   obtain ⟨L,hLq⟩:∃L,jz (ps++p8)=L:=⟨_,rfl⟩
   have HLq:=aj hLq
   rw[hLq] at HM HOl
   have i0:(0:Int)≤(i:Int):=zH _
   have i1:(i:Int)<(ws.length:Int):=by omega
   clear hx hrq Ak hN SZ cc hLq
   obtain ⟨L2,hL2⟩:∃L2,L++aG xt=L2:=⟨_,rfl⟩
   have qT:=aj hL2
   clear hL2
   go_upto_region 4 with fail
   obtain ⟨v,hv,bo,ho⟩:=(aa HM).dt
   have wm:=(zA bo).1
   have Lk:=(aa HM).sp
   refine wp_region_any (by kernel_rfl) (ck (z:=12) (T:=fun w'=>w'.cell? ⟨b,0,none⟩=some v∧w'.cell? ⟨q,i,none⟩=some (.string xt)) _ _ _ _ ?_)
   try (change cL _ _ _ _ _ _ _ _ _ (World.drew _))
   have wg:Below wr.heap.size wr wr.drew:=below_drewN (zE _ _) 1
   have bo:wr.drew.heap[b]?=_:=bo
   have ho:Bytes (b+1) wr.drew v _:=ct ho wg
   have Ak:wr.drew.cell? ⟨q,i,none⟩=some (.string xt):=aa HCq
   obtain ⟨wd,jb⟩:∃x,wr.drew=x:=⟨_,rfl⟩
   rw[jb] at wg bo ho Ak ⊢
   have hT:(fun w':World=>w'.cell? ⟨b,0,none⟩=some v∧w'.cell? ⟨q,i,none⟩=some (.string xt)) wd:=⟨cell_of_row _ _ _ _ _ _ bo,Ak⟩
   refine aq 0 (.pointer (some ⟨b,0,none⟩)) 14 rfl rfl (Or.inl ⟨by rfl,fun w' hw=>by obtain ⟨t0,t1⟩:=hw;go_simp⟩) hT ?_
   simp only[Act.put,zL,zM,zN]
   refine aq 1 (.pointer (some ⟨b,0,none⟩)) 15 rfl rfl (Or.inl ⟨by rfl,fun w' hw=>by obtain ⟨t0,t1⟩:=hw;go_simp⟩) hT ?_
   simp only[Act.put,zL,zM,zN]
   refine aq 2 (.pointer (some ⟨b,0,none⟩)) 16 rfl rfl (Or.inl ⟨by rfl,fun w' hw=>by obtain ⟨t0,t1⟩:=hw;go_simp⟩) hT ?_
   simp only[Act.put,zL,zM,zN]
   refine aq 3 (.pointer (some ⟨b,0,none⟩)) 17 rfl rfl (Or.inl ⟨by rfl,fun w' hw=>by obtain ⟨t0,t1⟩:=hw;go_simp⟩) hT ?_
   simp only[Act.put,zL,zM,zN]
   refine aq 4 v 18 rfl rfl (Or.inl ⟨by rfl,fun w' hw=>by obtain ⟨t0,t1⟩:=hw;go_simp⟩) hT ?_
   simp only[Act.put,zL,zM,zN]
   refine aq 5 (.slice (some ⟨q,0,none⟩) ws.length c) 19 rfl rfl (Or.inl ⟨by rfl,fun w' hw=>by obtain ⟨t0,t1⟩:=hw;go_simp⟩) hT ?_
   simp only[Act.put,zL,zM,zN]
   refine aq 6 (.int .i64 (i:Int)) 20 rfl rfl (Or.inl ⟨by rfl,fun w' hw=>by obtain ⟨t0,t1⟩:=hw;go_simp⟩) hT ?_
   simp only[Act.put,zL,zM,zN]
   refine aq 7 (.pointer (some ⟨q,i,none⟩)) 21 rfl rfl (Or.inl ⟨by rfl,fun w' hw=>by obtain ⟨t0,t1⟩:=hw;go_simp⟩) hT ?_
   simp only[Act.put,zL,zM,zN]
   refine aq 8 (.string xt) 22 rfl rfl (Or.inl ⟨by rfl,fun w' hw=>by obtain ⟨t0,t1⟩:=hw;go_simp⟩) hT ?_
   simp only[Act.put,zL,zM,zN]
   refine ay 9 (by kernel_rfl) rfl (fun K hK=>?_)
   refine oW 23 rfl rfl (.tmp 18) (.tmp 22) rfl (b+1) v _ (by first|rfl|simp[Act.eval]) ho xt (by first|rfl|simp[Act.eval]) (by have:=aa HOl;have:=aa Hxs;omega) (by have:=(zA bo).1;omega) ?_
   intro v' w2 dQ dP Ej
   rw[aa qT] at dQ
   obtain ⟨va,vc,rfl⟩:=bj dQ
   have tW:v.ownBlock≠some b:=fun e=>by have:=(ho.lt b e).1;omega
   have V7:v.ownBlock≠some q:=by rw[hv];exact aa HQr
   have jE:=(dP.block b (zA bo).1 (fun e=>tW e.symm)).trans bo
   have LF:w2.cell? ⟨q,i,none⟩=some (.string xt):=(World.cell?_of_block (dP.block _ (World.block_lt_of_cell? _ _ Ak) (fun e=>V7 e.symm))).trans Ak
   have jR:(fun w':World=>w'.cell? ⟨b,0,none⟩=some v∧w'.cell? ⟨q,i,none⟩=some (.string xt)) w2:=⟨cell_of_row _ _ _ _ _ _ jE,LF⟩
   refine hK _ _ ⟨fun _=>jR,?_⟩
   clear hK K hT
   simp only[Act.put,zL,zM,zN]
   refine ay 10 (by kernel_rfl) rfl (fun K hK=>?_)
   go_simp
   refine hK _ _ ⟨fun _=>jR,?_⟩
   clear hK K
   refine ay 11 (by kernel_rfl) rfl (fun K hK=>?_)
   go_simp
   refine hK _ _ ⟨fun _=>jR,?_⟩
   clear hK K
   refine ay 12 (by kernel_rfl) rfl (fun K hK=>?_)
   have UL:=jR.1
   have hf0:w2.frozen? ⟨b,0,none⟩=false:=by simp[World.frozen?,jE]
   obtain ⟨LJ,eY⟩:=aJ (j:=0) jE (.slice va L2.length vc)
   have hA:=Jy hv bo ho (Lk.up (wg.mono (by omega))) dQ dP Ej
   go_simp
   refine hK _ _ ⟨fun q=>absurd rfl q,?_⟩
   clear hK K
   refine bn (by kernel_rfl) ?_
   have HA:=aj (And.intro hA.1 (((aa HK).trans (.dM wg)).trans hA.2))
   clear hA wg bo ho Ak jb jR UL hf0 jE LF LJ eY dP Ej dQ hv wm Lk tW V7
   obtain ⟨r3,Wl⟩:∃r,(Value.slice va L2.length vc).ownBlock=r:=⟨_,rfl⟩
   rw[Wl] at HA
   obtain ⟨W3,Pc⟩:∃x,w2.setCell ⟨b,0,none⟩ (.slice va L2.length vc)=x:=⟨_,rfl⟩
   rw[Pc] at HA ⊢
   clear Wl Pc
   have Qa:=aj (aa HA).1
   have E7:=aj (aa HA).2
   clear HA HM HCq
   have c1:W3.cell? ⟨b,1,none⟩=some (.slice sa sn sc):=by
    obtain ⟨v0,_,k0,_⟩:=(aa Qa).dt
    exact cell_of_row _ _ _ _ _ _ k0
   have c2:W3.cell? ⟨b,2,none⟩=some (.int .i64 (N:Int)):=by
    obtain ⟨v0,_,k0,_⟩:=(aa Qa).dt
    exact cell_of_row _ _ _ _ _ _ k0
   have n0:(0:Int)≤(N:Int):=zH _
   have Yc:Hid (∀k,k<6→∃f:ByteArray,W3.cell? ⟨W.heap.size,k,none⟩=some (.string f)∧aG f ∈ zt∧f.size≤8):=fun k hk=>by
    obtain ⟨f,h1,h2,h3⟩:=RM hk
    have Ei:W3.heap[W.heap.size]?=V.heap[W.heap.size]?:=(aa E7).block _ (by have:=(aa HV).2.2;omega) (by have:=(aa HL).1;omega) (fun e=>by have:=aa HR _ e;omega)
    exact ⟨f,by rw[cell_of_row _ _ _ _ _ _ (Ei.trans (aa HV).2.1)];exact h1,h2,h3⟩
   have aa5:Hid (r3≠some W.heap.size):=by
    rcases (aa E7).row with e|⟨k,e,hk⟩
    ·rw[e];intro e2;have:=aa HR _ e2;omega
    ·rw[e];intro e2;have:=zC e2;have:=(aa HV).2.2;omega
   clear HQr
   go_upto_if 31 with fail
   go_cut [6] (fun v6 wx=>∃k:Nat,v6=.int .i64 (k:Int)∧k<6∧∃m,wx=W3.drewN m)
   case first =>
    by_cases h0:0<sn
    ·have d0:decide (0<sn)=true:=decide_eq_true h0
     obtain ⟨g,off,rfl,SI,lp,cn⟩:=aa Q6 h0
     obtain ⟨m,hm⟩:∃m,N % sn=m:=⟨_,rfl⟩
     have jQ:m<sn:=by rw[←hm];exact Nat.mod_lt _ h0
     have aaE:(N:Int).tmod (sn:Int)=(m:Int):=by rw[←hm];rfl
     obtain ⟨z,hz,hcz⟩:=cn m jQ
     have c3:W3.cell? ⟨g,off+m,none⟩=some (.int .i64 z):=by
      have Ei:W3.heap[g]?=W.heap[g]?:=((aa E7).block g (by have:=(aa HV).2.2;omega) (by omega) (fun e=>by have:=aa HR _ e;omega)).trans ((aa HV).1.block g lp)
      exact (World.cell?_of_block (a:=⟨g,off+m,none⟩) Ei).trans hcz
     have HZ:=aj hz
     have m0:(0:Int)≤(m:Int):=zH _
     have m1:(m:Int)<(sn:Int):=by omega
     have s0:¬(sn:Int)=0:=by omega
     have Hk:Hid (∃k:Nat,z % 6=(k:Int)∧k<6):=⟨(z % 6).toNat,by omega,by omega⟩
     obtain ⟨k,qC,gO⟩:=aa Hk
     have X8:=aj (fun w:World=>Dz w (aa HZ))
     rw[qC] at X8
     clear hm jQ hcz cn hz Hk qC h0
     go_wp2_with fail
     go_quiet (first|(go_at_call 11;exact Calls.quiet_of_same (aa X8 _)))
     go_wp2_with fail
     go_meet
     exact ⟨k,rfl,gO,_,rfl⟩
    ·have aaz:sn=0:=by omega
     subst aaz
     clear h0
     go_wp2_with fail
     go_meet
     exact ⟨0,rfl,by omega,0,rfl⟩
   case rest =>
    obtain ⟨k,rfl,hk6,m,rfl⟩:=hcut
    have QI:Below W3.heap.size W3 (W3.drewN m):=below_drewN (zE _ _) m
    have P9:=aj (show XM b r3 (.slice sa sn sc) N D L2 (W3.drewN m) by
     obtain ⟨⟨v0,k0,k1,k2⟩,k3⟩:=aa Qa
     exact ⟨⟨v0,k0,k1,ct k2 QI⟩,k3.up (QI.mono (by have:=(zA k1).1;omega))⟩)
    have T0:=aj ((aa E7).trans (.dM QI))
    obtain ⟨f,hf1,hf2,hf3⟩:=aa Yc k hk6
    have Uc:Hid ((W3.drewN m).cell? ⟨W.heap.size,k,none⟩=some (.string f)):=hf1
    have HF:=aj hf2
    have Va:=aj hf3
    obtain ⟨W4,Zr⟩:∃x,W3.drewN m=x:=⟨_,rfl⟩
    rw[Zr] at P9 T0 Uc ⊢
    have aa7:=aj (show L2.length+f.size≤140737488355328 by
     rw[←aa qT,zK,bd]
     have:=aa HOl;have:=aa Hxs;have:=aa Va;omega)
    obtain ⟨L3,hL3⟩:∃L3,L2++aG f=L3:=⟨_,rfl⟩
    have HL3:=aj hL3
    have k0:(0:Int)≤(k:Int):=zH _
    have k6:(k:Int)<6:=by omega
    clear QI Zr hL3 hf1 hf2 hf3 Qa Yc c1 c2 hk6
    go_upto_region 8 with fail
    obtain ⟨v,hv,bo,ho⟩:=(aa P9).dt
    have wm:=(zA bo).1
    have Lk:=(aa P9).sp
    refine wp_region_any (by kernel_rfl) (ck (z:=12) (T:=fun w'=>w'.cell? ⟨b,0,none⟩=some v∧w'.cell? ⟨W.heap.size,k,none⟩=some (.string f)) _ _ _ _ ?_)
    try (change cL _ _ _ _ _ _ _ _ _ (World.drew _))
    have wg:Below W4.heap.size W4 W4.drew:=below_drewN (zE _ _) 1
    have bo:W4.drew.heap[b]?=_:=bo
    have ho:Bytes (b+1) W4.drew v _:=ct ho wg
    have Ak:W4.drew.cell? ⟨W.heap.size,k,none⟩=some (.string f):=aa Uc
    obtain ⟨wd,jb⟩:∃x,W4.drew=x:=⟨_,rfl⟩
    rw[jb] at wg bo ho Ak ⊢
    have hT:(fun w':World=>w'.cell? ⟨b,0,none⟩=some v∧w'.cell? ⟨W.heap.size,k,none⟩=some (.string f)) wd:=⟨cell_of_row _ _ _ _ _ _ bo,Ak⟩
    refine aq 0 (.pointer (some ⟨b,0,none⟩)) 52 rfl rfl (Or.inl ⟨by rfl,fun w' hw=>by obtain ⟨t0,t1⟩:=hw;go_simp⟩) hT ?_
    simp only[Act.put,zL,zM,zN]
    refine aq 1 (.pointer (some ⟨b,0,none⟩)) 53 rfl rfl (Or.inl ⟨by rfl,fun w' hw=>by obtain ⟨t0,t1⟩:=hw;go_simp⟩) hT ?_
    simp only[Act.put,zL,zM,zN]
    refine aq 2 (.pointer (some ⟨b,0,none⟩)) 54 rfl rfl (Or.inl ⟨by rfl,fun w' hw=>by obtain ⟨t0,t1⟩:=hw;go_simp⟩) hT ?_
    simp only[Act.put,zL,zM,zN]
    refine aq 3 (.pointer (some ⟨b,0,none⟩)) 55 rfl rfl (Or.inl ⟨by rfl,fun w' hw=>by obtain ⟨t0,t1⟩:=hw;go_simp⟩) hT ?_
    simp only[Act.put,zL,zM,zN]
    refine aq 4 v 56 rfl rfl (Or.inl ⟨by rfl,fun w' hw=>by obtain ⟨t0,t1⟩:=hw;go_simp⟩) hT ?_
    simp only[Act.put,zL,zM,zN]
    refine aq 5 (.slice (some ⟨W.heap.size,0,none⟩) 6 6) 57 rfl rfl (Or.inl ⟨by rfl,fun w' hw=>by obtain ⟨t0,t1⟩:=hw;go_simp⟩) hT ?_
    simp only[Act.put,zL,zM,zN]
    refine aq 6 (.int .i64 (k:Int)) 58 rfl rfl (Or.inl ⟨by rfl,fun w' hw=>by obtain ⟨t0,t1⟩:=hw;go_simp⟩) hT ?_
    simp only[Act.put,zL,zM,zN]
    refine aq 7 (.pointer (some ⟨W.heap.size,k,none⟩)) 59 rfl rfl (Or.inl ⟨by rfl,fun w' hw=>by obtain ⟨t0,t1⟩:=hw;go_simp⟩) hT ?_
    simp only[Act.put,zL,zM,zN]
    refine aq 8 (.string f) 60 rfl rfl (Or.inl ⟨by rfl,fun w' hw=>by obtain ⟨t0,t1⟩:=hw;go_simp⟩) hT ?_
    simp only[Act.put,zL,zM,zN]
    refine ay 9 (by kernel_rfl) rfl (fun K hK=>?_)
    refine oW 61 rfl rfl (.tmp 56) (.tmp 60) rfl (b+1) v _ (by first|rfl|simp[Act.eval]) ho f (by first|rfl|simp[Act.eval]) (aa aa7) (by have:=(zA bo).1;omega) ?_
    intro v' w2 dQ dP Ej
    rw[aa HL3] at dQ
    obtain ⟨va,vc,rfl⟩:=bj dQ
    have tW:v.ownBlock≠some b:=fun e=>by have:=(ho.lt b e).1;omega
    have V7:v.ownBlock≠some W.heap.size:=by rw[hv];exact aa aa5
    have jE:=(dP.block b (zA bo).1 (fun e=>tW e.symm)).trans bo
    have LF:w2.cell? ⟨W.heap.size,k,none⟩=some (.string f):=(World.cell?_of_block (dP.block _ (World.block_lt_of_cell? _ _ Ak) (fun e=>V7 e.symm))).trans Ak
    have jR:(fun w':World=>w'.cell? ⟨b,0,none⟩=some v∧w'.cell? ⟨W.heap.size,k,none⟩=some (.string f)) w2:=⟨cell_of_row _ _ _ _ _ _ jE,LF⟩
    refine hK _ _ ⟨fun _=>jR,?_⟩
    clear hK K hT
    simp only[Act.put,zL,zM,zN]
    refine ay 10 (by kernel_rfl) rfl (fun K hK=>?_)
    go_simp
    refine hK _ _ ⟨fun _=>jR,?_⟩
    clear hK K
    refine ay 11 (by kernel_rfl) rfl (fun K hK=>?_)
    go_simp
    refine hK _ _ ⟨fun _=>jR,?_⟩
    clear hK K
    refine ay 12 (by kernel_rfl) rfl (fun K hK=>?_)
    have UL:=jR.1
    have hf0:w2.frozen? ⟨b,0,none⟩=false:=by simp[World.frozen?,jE]
    obtain ⟨LJ,eY⟩:=aJ (j:=0) jE (.slice va L3.length vc)
    have hA:=Jy hv bo ho (Lk.up (wg.mono (by omega))) dQ dP Ej
    go_simp
    refine hK _ _ ⟨fun q=>absurd rfl q,?_⟩
    clear hK K
    refine bn (by kernel_rfl) ?_
    have HA:=aj (And.intro hA.1 (((aa T0).trans (.dM wg)).trans hA.2))
    clear hA wg bo ho Ak jb jR UL hf0 jE LF LJ eY dP Ej dQ hv wm Lk tW V7
    obtain ⟨r5,hr5⟩:∃r,(Value.slice va L3.length vc).ownBlock=r:=⟨_,rfl⟩
    rw[hr5] at HA
    obtain ⟨W5,Zq⟩:∃x,w2.setCell ⟨b,0,none⟩ (.slice va L3.length vc)=x:=⟨_,rfl⟩
    rw[Zq] at HA ⊢
    clear hr5 Zq
    have Nf:=aj (aa HA).1
    have HK5:=aj (aa HA).2
    clear HA P9 Uc
    have hwn:=N3 (aa Nf)
    have c2:W5.cell? ⟨b,2,none⟩=some (.int .i64 (N:Int)):=by
     obtain ⟨v0,_,k0,_⟩:=(aa Nf).dt
     exact cell_of_row _ _ _ _ _ _ k0
    have c4:W5.cell? ⟨b,4,none⟩=some (.int .i64 (N:Int)):=by
     obtain ⟨v0,_,k0,_⟩:=(aa Nf).dt
     exact cell_of_row _ _ _ _ _ _ k0
    have z:∀j,W5.frozen? ⟨b,j,none⟩=false:=fun j=>by
     obtain ⟨v0,_,k0,_⟩:=(aa Nf).dt
     simp[World.frozen?,k0]
    have z2:=z 2
    have z4:=z 4
    have n0:(0:Int)≤(N:Int):=zH _
    have n1:(N:Int)≤1099511627790:=by have h9:=aa HNq;rw[zK] at h9;have:=aa HN;omega
    have HWN:=aj hwn
    have ll:ws.length≤4:=aa Hl3
    clear hwn z
    go_wp2
    go_roundg (ws.length-(i+1))
    case measure=>have:=aa fQ;have:=aa dA;omega
    case rel =>
     refine ⟨i+1,r5,p8++[((xk,xt),aG f)],by go_num,rfl,aa dA,?_,?_,(aa HK5).trans (aa HWN).2⟩
     ·rw[List.map_append,aa HT,dW (aa Hx)]
      rfl
     ·obtain ⟨h1,h2⟩:=(aa HWN).1
      have e1:(ps++(p8++[((xk,xt),aG f)])).length=N+1:=by rw[←List.append_assoc,zK,aa HNq];rfl
      have e2:jz (ps++(p8++[((xk,xt),aG f)]))=L3:=by
       rw[←List.append_assoc,BL,aa HLq,←aa HL3,←aa qT]
       show L++(aG xt++(aG f++[]))=_
       rw[List.append_nil,List.append_assoc]
      refine ⟨?_,h2,?_⟩
      ·rw[e1,e2]
       exact h1
      ·rw[←List.append_assoc]
       refine (aa nJ).ok.app (fun y hy=>?_)
       rw[List.mem_singleton.1 hy]
       exact ⟨aa HWx,aa HF⟩
  ·obtain rfl:i=ws.length:=by omega
   have hT:=aa HT
   rw[List.take_length] at hT
   have Dr:=aj hT
   clear hT
   go_wp2
   go_end0
   exact ⟨rfl,r',p8,aa Dr,aa nJ,(KW.dM (aa HV).1).trans (aa HK)⟩
end Go.Proofs.YtmlphohdcejniaaGreatDoor
