import Derived.Test.YtjophoclfccmcaaGreatDoorPgC
set_option maxHeartbeats 4000000
set_option maxRecDepth 100000
namespace Go.Proofs.YtjophoclfccmcaaGreatDoor
open Go.RowKit
theorem ql (ts:List Tk):∀(m n k:Nat),(∀i,k≤i→i<k+m→∃t,ts[i]?=some t∧t.kind≠5)→gD ts (n+m) k=gD ts n (k+m)
 |0,_,_,_=>rfl
 |m+1,n,k,h=>by
  obtain ⟨t,ht,hk⟩:=h k (zD _) (by omega)
  have hq:¬(t.kind==5)=true:=by simpa using hk
  have e:gD ts ((n+m)+1) k=gD ts (n+m) (k+1):=by
   show (match ts[k]? with|none=>none|some t=>if (t.kind==5)=true then some k else gD ts (n+m) (k+1))=_
   rw[ht]
   simp only[if_neg hq]
  show gD ts ((n+m)+1) k=_
  rw[e]
  rw[ql ts m n (k+1) (fun i h1 h2=>h i (by omega) (by omega)),show k+(m+1)=k+1+m by omega]
def BV (l:List Tk):Int:=match l.getLast? with
 |some t=>wrap64 (t.spot+(t.text.size:Int))
 |none=>0
structure Lo (ts:List Tk) (k:Nat) (q:Bool) (L:List Tk) (en:Int):Prop where
 le:k≤ts.length
 no:∀t ∈ L,t.kind≠5
 on:q=false→L=ts.take k∧en=BV L
 off:q=true→∃t,ts[L.length]?=some t∧t.kind=5∧L=ts.take L.length∧en=t.spot
theorem Lo.start (ts:List Tk):Lo ts 0 false [] 0:=⟨Nat.zero_le _,fun _ h=>(by cases h),fun _=>⟨rfl,rfl⟩,fun h=>(by cases h)⟩
theorem Lo.more {ts:List Tk}{k:Nat}{L:List Tk}{en:Int}{t:Tk} (h:Lo ts k false L en) (ht:ts[k]?=some t) (hk:t.kind≠5):Lo ts (k+1) false (L++[t]) (wrap64 (t.spot+(t.text.size:Int))):=by
 have dr:=(zB ht).1
 refine ⟨by omega,fun u hu=>?_,fun _=>⟨?_,?_⟩,fun q=>(by cases q)⟩
 ·rcases List.mem_append.1 hu with hu|hu
  ·exact h.no u hu
  ·rw[List.mem_singleton.1 hu];exact hk
 ·rw[(h.on rfl).1,List.take_add_one,ht]
  rfl
 ·unfold BV
  rw[List.getLast?_append]
  rfl
theorem Lo.stop {ts:List Tk}{k:Nat}{L:List Tk}{en:Int}{t:Tk} (h:Lo ts k false L en) (ht:ts[k]?=some t) (hk:t.kind=5):Lo ts (k+1) true L t.spot:=by
 have dr:=(zB ht).1
 have hl:L.length=k:=by rw[(h.on rfl).1,List.length_take];omega
 refine ⟨by omega,h.no,fun q=>(by cases q),fun _=>⟨t,by rw[hl];exact ht,hk,by rw[hl];exact (h.on rfl).1,rfl⟩⟩
theorem Lo.fin {ts:List Tk}{k:Nat}{q:Bool}{L:List Tk}{en:Int} (h:Lo ts k q L en) (hk:q=true∨k=ts.length):zs (cJ ts)=⟨L,en,0⟩∧(cJ ts).bg=false∧(cJ ts).en.kind=5∧(cJ ts).op=0∧N5 (cJ ts):=by
 cases q with
 |true =>
  obtain ⟨t,ht,h5,hL,rfl⟩:=h.off rfl
  have dr:=(zB ht).1
  have he:gD ts (ts.length+1) 0=some L.length:=by
   have h1:=ql ts L.length (ts.length+1-L.length) 0 (fun i _ h2=>by
    have h3:i<L.length:=by omega
    obtain ⟨u,hu⟩:∃u,L[i]?=some u:=⟨_,List.getElem?_eq_getElem h3⟩
    refine ⟨u,?_,h.no u (List.mem_of_getElem? hu)⟩
    rw[hL,List.getElem?_take] at hu
    rw[if_pos h3] at hu
    exact hu)
   rw[show ts.length+1-L.length+L.length=ts.length+1 by omega,Nat.zero_add] at h1
   rw[h1,show ts.length+1-L.length=(ts.length-L.length)+1 by omega]
   unfold gD
   rw[ht]
   have hq:(t.kind==5)=true:=by simpa using h5
   simp only[if_pos hq]
  unfold cJ
  rw[he]
  simp only
  have hd:ts.getD L.length L8=t:=by rw[List.getD_eq_getElem?_getD,ht];rfl
  rw[hd,←hL]
  exact ⟨by first|rfl|trivial,by first|rfl|trivial,h5,by first|rfl|trivial,h.no⟩
 |false =>
  have hk:k=ts.length:=by rcases hk with hk|hk;cases hk;exact hk
  obtain ⟨hL,rfl⟩:=h.on rfl
  have hL:L=ts:=by rw[hL,hk,List.take_length]
  subst hL
  have he:gD L (L.length+1) 0=none:=by
   have h1:=ql L L.length 1 0 (fun i _ h2=>by
    have h3:i<L.length:=by omega
    obtain ⟨u,hu⟩:∃u,L[i]?=some u:=⟨_,List.getElem?_eq_getElem h3⟩
    exact ⟨u,hu,h.no u (List.mem_of_getElem? hu)⟩)
   rw[Nat.add_comm L.length 1,h1,Nat.zero_add]
   unfold gD
   rw[List.getElem?_eq_none (zD _)]
  unfold cJ BV
  rw[he]
  simp only
  cases hg:L.getLast? with
  |none=>exact ⟨by first|rfl|trivial,by first|rfl|trivial,by first|rfl|trivial,by first|rfl|trivial,h.no⟩
  |some t=>exact ⟨by first|rfl|trivial,by first|rfl|trivial,by first|rfl|trivial,by first|rfl|trivial,h.no⟩
theorem xY (ts:List Tk):(cJ ts).ts.length≤ts.length:=by
 unfold cJ
 split
 ·show (ts.take _).length≤_
  rw[List.length_take]
  omega
 ·split<;>exact zD _
theorem Mm {ts:List Tk}{k:Nat}{q:Bool}{L:List Tk}{en:Int} (h:Lo ts k q L en) (hk:q=true∨k=ts.length) (hs:∀t ∈ ts,t.text.size≤140737488355327) (hn:ts.length≤16384):Gd (cJ ts):=by
 obtain ⟨h1,h2,h3,h4,h5⟩:=h.fin hk
 have hd:(cJ ts).dc=0:=congrArg ZS.dc h1
 exact ⟨h2,h3,Dp hs,by rw[hd];omega,Nat.le_trans (xY ts) hn⟩
theorem QN {W:World}{B lo b:Nat}{v:Value}{ts:List Tk} (hr:fO B W v ts) (hl:W.heap.size≤lo) (hb:b<B):fj W lo b v ts:=by
 rcases hr.2 with ⟨rfl,h0⟩|⟨g,c,cur,rfl,h1,h2,h3,h4,_⟩
 ·exact ⟨none,0,by rw[h0],by omega,by unfold maxLen;omega,fun hp=>by omega⟩
 ·have dr:=(zA h2).1
  refine ⟨_,c,rfl,h3,h4,fun hp=>⟨g,0,rfl,by omega,by omega,fun i t ht=>?_⟩⟩
  obtain ⟨x1,x2,x3⟩:=hr.cell ht
  rw[Nat.zero_add]
  exact ⟨x1,x2,x3⟩
structure XL (W:World) (ts:List Tk) (k:Nat) (q:Bool) (w:World):Prop where
 b:Below W.heap.size W w
 r:w.heap[W.heap.size]?=some (.cells E4 27 (0,0))
 f:w.heap[W.heap.size+1]?=some (.cells #[.int .i64 0,.int .i64 0,.int .i64 0,.string ⟨#[]⟩] 30 (0,0))
 p:∃(a:Option Addr) (c:Nat) (L:List Tk) (en:Int),w.heap[W.heap.size+2]?=some (.cells (ZC (.slice a L.length c) 0 en 0 0 0) 57 (0,0))∧fO (W.heap.size+3) w (.slice a L.length c) L∧Lo ts k q L en
theorem XL.zr {W w:World}{ts:List Tk}{k:Nat}{q:Bool} (h:XL W ts k q w) (hk:q=true∨k=ts.length) (hs:∀t ∈ ts,t.text.size≤140737488355327) (hn:ts.length≤16384):Zr w.heap.size w (W.heap.size+2) (.ok (cJ ts)):=by
 obtain ⟨a,c,L,en,h1,h2,h3⟩:=h.p
 obtain ⟨k1,_⟩:=h3.fin hk
 have dr:=(zA h1).1
 have hL:L.length≤16384:=by
  have e:(cJ ts).ts=L:=congrArg ZS.ts k1
  have:=xY ts
  rw[e] at this
  omega
 refine ⟨⟨⟨dr,zD _⟩,?_⟩,Mm h3 hk hs hn⟩
 show ∃(v:Value) (L:List Tk) (i:Nat),w.heap[W.heap.size+2]?=some (.cells (ZC v i (zs (cJ ts)).en (zs (cJ ts)).dc 0 0) 57 (0,0))∧fj w w.heap.size (W.heap.size+2) v L∧L.drop i=(zs (cJ ts)).ts∧i≤L.length∧L.length≤16384
 rw[k1]
 exact ⟨_,L,0,h1,QN h2 (zD _) (by omega),rfl,Nat.zero_le _,hL⟩
end Go.Proofs.YtjophoclfccmcaaGreatDoor
namespace Go.Proofs.YtjophoclfccmcaaGreatDoor
open Go.RowKit
attribute [local go_sem ↓] Go.wp_at_zero Go.wp_at_succ
theorem NC {W w:World}{k:Nat}{o:Obj}{r:Option Nat} (hg:W.grownBy w r) (h:W.heap[k]?=some o) (eb:r≠some k):w.heap[k]?=some o:=(hg.block k (zA h).1 (fun e=>eb e.symm)).trans h
theorem zp {B:Nat}{W w:World} (h:Below B W w):Below B W w.drew:=⟨h.os,h.tape,h.output,h.size,h.block⟩
theorem Yw {W w w':World}{l:Nat}{x:Fl}{v:MV}{a b:Array Value} (h:nI l [] w (fm x) v) (hl:W.heap.size+2≤l) (hc:Ct W.heap.size (W.heap.size+1) a b w w'):NF x (.agg (v.CA x)) (fun k=>W.heap.size≤k) w':=by
 obtain ⟨_,_,_,_,_,_,o5⟩:=hc
 have q:∀(i:Nat) (sl:Slot),(v.ss (fm x))[i]?=some sl→jd (fun k=>l≤k) w sl.t sl.sz sl.v sl.n sl.xs:=fun i sl hi=>⟨MH (h.sl.own i sl hi),fun k hk=>((h.sl.own i sl hi).lt k hk).1⟩
 have hg:wW (Nq l [] (v.ss (fm x))) (fun k=>l≤k) w w:=fun k hp _=>⟨hp.1,rfl⟩
 have h1:NF x (.agg (v.CA x)) (fun k=>l≤k) w:=⟨_,_,_,v.cm,v.ce,rfl,q 1 _ rfl,q 2 _ rfl,fb _ _ _ _ _ _ hg h.ms,q 3 _ rfl,eP _ _ _ _ _ _ hg h.es⟩
 exact oO _ _ _ _ _ _ (fun k hp hk=>⟨by omega,o5 k hk (by omega) (by omega)⟩) h1
theorem AR {W w:World}{k j:Nat}{u:Value}{r:Option Nat} (hg:W.grownBy w r) (h:W.cell? ⟨k,j,none⟩=some u) (eb:r≠some k) (hl:k<W.heap.size):w.cell? ⟨k,j,none⟩=some u:=(World.cell?_of_block (a:=⟨k,j,none⟩) (hg.block k hl (fun e=>eb e.symm))).trans h
theorem C3 {W:World}{v:Value}{ts:List Tk} (h:fj W W.heap.size W.heap.size v ts) (hs:∀t ∈ ts,t.text.size≤140737488355327) (hn:ts.length≤140737488355327):Calls Tryz.prog 12 #[v] W (EM W (iM ts)):=by
 obtain ⟨k0,xw,kz0,kz1,kz2⟩:=info_parts Tryz.xu
 obtain ⟨a,c,hv,hc,hm,h3⟩:=id h
 by_cases mB:16384<ts.length
 ·have hd:decide ((16384:Int)<(ts.length:Int))=true:=by simp;omega
  obtain ⟨bo,_,iZ,ew⟩:=XJ W 2 0
  have HE:Hid (EM W (iM ts) (.returned (.tuple #[.agg #[.string ⟨#[]⟩,.slice none 0 0,.slice none 0 0,.slice none 0 0],.agg #[.int .i64 2,.int .i64 0,.int .i64 0,.string ⟨#[]⟩]])) (Bm W 2 0)):=by
   show EM W (iM ts) _ _
   unfold iM
   rw[if_pos mB]
   exact ⟨rfl,bo⟩
  have H1:=ab iZ
  have H2:=ab ew
  unfold Bm at HE H1 H2
  subst hv
  clear h hs bo iZ ew mB h3
  go_enter Tryz.func12,Tryz.ntmps12
  go_wp2
  exact km rfl rfl rfl (aa H1) (aa H2) rfl rfl (aa HE)
 ·have hd:decide ((16384:Int)<(ts.length:Int))=false:=by simp;omega
  obtain ⟨bo,cl,iZ,ew⟩:=XJ W 0 0
  have Vj:=aF (Bm W 0 0) (.cells #[(.slice none 0 0),.int .i64 0,.int .i64 0,.int .i64 0,.int .i64 0,.int .i64 0] 57)
  rw[cl] at Vj
  have oK:Hid (XL W ts 0 false ((Bm W 0 0).alloc (.cells #[(.slice none 0 0),.int .i64 0,.int .i64 0,.int .i64 0,.int .i64 0,.int .i64 0] 57))):=⟨bo.alloc bo.size _,bL iZ _,bL ew _,none,0,[],0,Vj,World.ownsRow_nil _ _ _ _,Lo.start ts⟩
  have CG:=ab hs
  have H3:=ab h3
  have HLG:=ab mB
  unfold Bm at oK
  subst hv
  clear h hs bo cl iZ ew Vj h3
  go_enter Tryz.func12,Tryz.ntmps12
  go_wp2
  go_loopg [5,6] ts.length (fun gk v5 v6 wr=>∃(k:Nat) (q:Bool),v5=.bool q∧v6=.int .i64 (k:Int)∧gk=ts.length-k∧Hid (XL W ts k q wr))
  case atStart=>exact ⟨0,false,rfl,rfl,rfl,oK⟩
  case round =>
   clear oK
   obtain ⟨k,q,rfl,rfl,dY,HT⟩:=hrel
   have zz:=ab dY
   clear dY
   have Xi:k≤ts.length:=by obtain ⟨_,_,_,_,_,_,h3⟩:=(aa HT).p;exact h3.le
   go_upto_region 6 with fail
   go_cut [22] from 15 to 66 (fun v22 wx=>v22=.bool (decide (k<ts.length)&&!q)∧wx=wr)
   case first =>
    by_cases dr:k<ts.length
    ·have d1:decide ((k:Int)<(ts.length:Int))=true:=by simp;omega
     have HD:Hid (decide (k<ts.length)=true):=by show _=_;simp;omega
     cases q with
     |true=>go_wp2;go_meet;exact ⟨by rw[aa HD];rfl,rfl⟩
     |false=>go_wp2;go_meet;exact ⟨by rw[aa HD];rfl,rfl⟩
    ·have d1:decide ((k:Int)<(ts.length:Int))=false:=by simp;omega
     have HD:Hid (decide (k<ts.length)=false):=by show _=_;simp;omega
     go_wp2
     go_meet
     exact ⟨by rw[aa HD];rfl,rfl⟩
   case rest =>
   obtain ⟨rfl,rfl⟩:=hcut
   obtain ⟨wr,rl⟩:∃x,x=wc:=⟨_,rfl⟩
   subst rl
   obtain ⟨u,hu⟩:∃u,(decide (k<ts.length)&&!q)=u:=⟨_,rfl⟩
   rw[hu]
   have jw:=ab hu
   clear hu
   cases u with
   |true =>
    obtain ⟨dr,rfl⟩:k<ts.length∧q=false:=by
     have h:=aa jw
     cases q with
     |true=>simp at h
     |false=>exact ⟨by simpa using h,rfl⟩
    obtain ⟨g,off,rfl,hg,eb,hx⟩:=aa H3 (by omega)
    obtain ⟨⟨tk,tp,tx⟩,ht⟩:∃t,ts[k]?=some t:=⟨_,List.getElem?_eq_getElem dr⟩
    obtain ⟨z1,z2,z3⟩:=hx k _ ht
    have LL:=ab ht
    have F6:tx.size≤140737488355327:=aa CG _ (List.mem_of_getElem? ht)
    have x1:wr.cell? ⟨g,off+k*3,none⟩=some (.int .i64 tk):=((aa HT).b.cell (p:=⟨g,off+k*3,none⟩) hg).trans z1
    have x2:wr.cell? ⟨g,off+k*3+1,none⟩=some (.int .i64 tp):=((aa HT).b.cell (p:=⟨g,off+k*3+1,none⟩) hg).trans z2
    have x3:wr.cell? ⟨g,off+k*3+2,none⟩=some (.string tx):=((aa HT).b.cell (p:=⟨g,off+k*3+2,none⟩) hg).trans z3
    obtain ⟨la,lc,L,en,N4,xv,P4⟩:=(aa HT).p
    have SW:Hid (wr.heap[W.heap.size+2]?=some (.cells #[(.slice la L.length lc),.int .i64 0,.int .i64 en,.int .i64 0,.int .i64 0,.int .i64 0] 57 (0,0))):=N4
    have T':=ab xv
    have HS:=ab P4
    have hrl:W.heap.size+3≤wr.heap.size:=gJ N4
    have hgl:g<wr.heap.size:=by omega
    have hLl:L.length≤16384:=by have:=(P4.on rfl).1;rw[this,List.length_take];omega
    have i0:(0:Int)≤(k:Int):=zH _
    have i1:(k:Int)<(ts.length:Int):=by omega
    clear hx z1 z2 z3 ht N4 xv P4 jw
    by_cases hk5:tk=5
    ·skip
     subst hk5
     have ce2:=(bG (aa SW)).1.2.2.1
     have fe2:=(bG (aa SW)).2 2
     obtain ⟨s1,s2⟩:=aC (j:=2) (aa SW) (.int .i64 tp)
     have lM:Hid (XL W ts (k+1) true (wr.setCell ⟨W.heap.size+2,2,none⟩ (.int .i64 tp))):=⟨mK (aa HT).b s2 (by omega),aw s2 (aa HT).r (by omega),aw s2 (aa HT).f (by omega),la,lc,L,tp,s1,(aa T').kept s2 (by
      by_cases e:(Value.slice la L.length lc).ownBlock=none
      ·exact .inl e
      ·exact .inr (fun e2=>by have:=(World.ownsRow.lt (aa T') _ e2).1;omega)),(aa HS).stop (aa LL) rfl⟩
     clear s1 s2 SW T' HT
     go_wp2
     go_roundg (ts.length-(k+1))
     case measure=>have:=aa zz;omega
     case rel=>exact ⟨k+1,true,rfl,by go_num,rfl,lM⟩
    ·have n1:(tk==5)=false:=by simpa using hk5
     have HKN:=ab hk5
     clear hk5
     go_upto_region 11 with fail
     have hT:(fun w=>w.heap[W.heap.size+2]?=some (.cells #[(.slice la L.length lc),.int .i64 0,.int .i64 en,.int .i64 0,.int .i64 0,.int .i64 0] 57 (0,0))∧w.cell? ⟨g,off+k*3,none⟩=some (.int .i64 tk)∧w.cell? ⟨g,off+k*3+1,none⟩=some (.int .i64 tp)∧w.cell? ⟨g,off+k*3+2,none⟩=some (.string tx)) wr.drew:=⟨(aa SW),x1,x2,x3⟩
     refine wp_region_any (by kernel_rfl) (dL (z:=13) (T:=fun w=>w.heap[W.heap.size+2]?=some (.cells #[(.slice la L.length lc),.int .i64 0,.int .i64 en,.int .i64 0,.int .i64 0,.int .i64 0] 57 (0,0))∧w.cell? ⟨g,off+k*3,none⟩=some (.int .i64 tk)∧w.cell? ⟨g,off+k*3+1,none⟩=some (.int .i64 tp)∧w.cell? ⟨g,off+k*3+2,none⟩=some (.string tx)) _ _ _ _ ?_)
     try (change dT _ _ _ _ _ _ _ _ _ (World.drew _))
     refine wpAnyZ_tk 0 (.pointer (some ⟨W.heap.size+2,0,none⟩)) 39 rfl rfl (Or.inl ⟨by rfl,fun w hw=>by obtain ⟨eL,ki,gS,ig⟩:=hw;obtain ⟨⟨pn,pj,pM,pL,sV,qx⟩,jz⟩:=bG eL;clear jz eL;go_simp⟩) hT ?_
     simp only[Act.put,zL,zM,zN]
     refine wpAnyZ_tk 1 (.pointer (some ⟨W.heap.size+2,0,none⟩)) 40 rfl rfl (Or.inl ⟨by rfl,fun w hw=>by obtain ⟨eL,ki,gS,ig⟩:=hw;obtain ⟨⟨pn,pj,pM,pL,sV,qx⟩,jz⟩:=bG eL;clear jz eL;go_simp⟩) hT ?_
     simp only[Act.put,zL,zM,zN]
     refine wpAnyZ_tk 2 (.pointer (some ⟨W.heap.size+2,0,none⟩)) 41 rfl rfl (Or.inl ⟨by rfl,fun w hw=>by obtain ⟨eL,ki,gS,ig⟩:=hw;obtain ⟨⟨pn,pj,pM,pL,sV,qx⟩,jz⟩:=bG eL;clear jz eL;go_simp⟩) hT ?_
     simp only[Act.put,zL,zM,zN]
     refine wpAnyZ_tk 3 (.pointer (some ⟨W.heap.size+2,0,none⟩)) 42 rfl rfl (Or.inl ⟨by rfl,fun w hw=>by obtain ⟨eL,ki,gS,ig⟩:=hw;obtain ⟨⟨pn,pj,pM,pL,sV,qx⟩,jz⟩:=bG eL;clear jz eL;go_simp⟩) hT ?_
     simp only[Act.put,zL,zM,zN]
     refine wpAnyZ_tk 4 (.slice la L.length lc) 43 rfl rfl (Or.inl ⟨by rfl,fun w hw=>by obtain ⟨eL,ki,gS,ig⟩:=hw;obtain ⟨⟨pn,pj,pM,pL,sV,qx⟩,jz⟩:=bG eL;clear jz eL;go_simp⟩) hT ?_
     simp only[Act.put,zL,zM,zN]
     refine wpAnyZ_tk 5 (.slice (some ⟨g,off,none⟩) ts.length c) 44 rfl rfl (Or.inl ⟨by rfl,fun w hw=>by obtain ⟨eL,ki,gS,ig⟩:=hw;obtain ⟨⟨pn,pj,pM,pL,sV,qx⟩,jz⟩:=bG eL;clear jz eL;go_simp⟩) hT ?_
     simp only[Act.put,zL,zM,zN]
     refine wpAnyZ_tk 6 (.int .i64 (k:Int)) 45 rfl rfl (Or.inl ⟨by rfl,fun w hw=>by obtain ⟨eL,ki,gS,ig⟩:=hw;obtain ⟨⟨pn,pj,pM,pL,sV,qx⟩,jz⟩:=bG eL;clear jz eL;go_simp⟩) hT ?_
     simp only[Act.put,zL,zM,zN]
     refine wpAnyZ_tk 7 (.pointer (some ⟨g,off+k*3,none⟩)) 46 rfl rfl (Or.inl ⟨by rfl,fun w hw=>by obtain ⟨eL,ki,gS,ig⟩:=hw;obtain ⟨⟨pn,pj,pM,pL,sV,qx⟩,jz⟩:=bG eL;clear jz eL;go_simp⟩) hT ?_
     simp only[Act.put,zL,zM,zN]
     refine wpAnyZ_tk 8 (.agg #[.int .i64 tk,.int .i64 tp,.string tx]) 47 rfl rfl (Or.inl ⟨by rfl,fun w hw=>by obtain ⟨eL,ki,gS,ig⟩:=hw;obtain ⟨⟨pn,pj,pM,pL,sV,qx⟩,jz⟩:=bG eL;clear jz eL;go_simp⟩) hT ?_
     simp only[Act.put,zL,zM,zN]
     refine aO 9 (by kernel_rfl) rfl (fun K hK=>?_)
     go_simp
     have Xr:(fun w=>w.heap[W.heap.size+2]?=some (.cells #[(.slice la L.length lc),.int .i64 0,.int .i64 en,.int .i64 0,.int .i64 0,.int .i64 0] 57 (0,0))∧w.cell? ⟨g,off+k*3,none⟩=some (.int .i64 tk)∧w.cell? ⟨g,off+k*3+1,none⟩=some (.int .i64 tp)∧w.cell? ⟨g,off+k*3+2,none⟩=some (.string tx)) (wr.drew.alloc (.cells #[.int .i64 tk,.int .i64 tp,.string tx] 38)):=⟨bL hT.1 _,(World.cell?_alloc_lt _ _ _ hgl).trans x1,(World.cell?_alloc_lt _ _ _ hgl).trans x2,(World.cell?_alloc_lt _ _ _ hgl).trans x3⟩
     refine hK _ _ ⟨fun _=>Xr,?_⟩
     clear hK K
     refine aO 10 (by kernel_rfl) rfl (fun K hK=>?_)
     have ZK:(World.drew (wr.alloc (.cells #[.int .i64 tk,.int .i64 tp,.string tx] 38))).heap.size=wr.heap.size+1:=zJ _ _
     have hrA:fO (W.heap.size+3) (wr.drew.alloc (.cells #[.int .i64 tk,.int .i64 tp,.string tx] 38)) (.slice la L.length lc) L:=fO.up (show fO (W.heap.size+3) wr.drew (.slice la L.length lc) L from aa T') ((zE _ _).alloc (zD _) _)
     refine dQ rfl (.tmp 43) (.tmp 48) 36 rfl (W.heap.size+3) 38 k0 (.agg #[.int .i64 0,.int .i64 0,.string ⟨#[]⟩]) 3 32 Tryz.underlying36 xw kz0 kz1 kz2 rfl (by decide) (.slice la L.length lc) L.length (eV L) (by first|rfl|simp[Act.eval]) hrA ⟨wr.heap.size,0,none⟩ 1 1 [.int .i64 tk,.int .i64 tp,.string tx] (by first|rfl|simp[Act.eval]) rfl (cN _ _ _) (by simp[Value.oneCell']) (by unfold maxLen;omega) (by omega) (by rw[ZK];omega) ?_
     intro v7 w7 dz cc jc
     obtain ⟨a7,c7,rfl⟩:=bY dz
     have F9:∀q:Nat,q<W.heap.size+3→(Value.slice la L.length lc).ownBlock≠some q:=fun q hq e=>by have:=(World.ownsRow.lt hrA q e).1;omega
     have fQ:(fun w=>w.heap[W.heap.size+2]?=some (.cells #[(.slice la L.length lc),.int .i64 0,.int .i64 en,.int .i64 0,.int .i64 0,.int .i64 0] 57 (0,0))∧w.cell? ⟨g,off+k*3,none⟩=some (.int .i64 tk)∧w.cell? ⟨g,off+k*3+1,none⟩=some (.int .i64 tp)∧w.cell? ⟨g,off+k*3+2,none⟩=some (.string tx)) w7:=⟨NC cc Xr.1 (F9 _ (by omega)),AR cc Xr.2.1 (F9 _ (by omega)) (by rw[ZK];omega),AR cc Xr.2.2.1 (F9 _ (by omega)) (by rw[ZK];omega),AR cc Xr.2.2.2 (F9 _ (by omega)) (by rw[ZK];omega)⟩
     have HW7:Hid (Below W.heap.size W w7∧w7.heap[W.heap.size]?=some (.cells #[.string ⟨#[]⟩,.slice none 0 0,.slice none 0 0,.slice none 0 0] 27 (0,0))∧w7.heap[W.heap.size+1]?=some (.cells #[.int .i64 0,.int .i64 0,.int .i64 0,.string ⟨#[]⟩] 30 (0,0))∧fO (W.heap.size+3) w7 (.slice a7 (L.length+1) c7) (L++[⟨tk,tp,tx⟩])):=by
      have hA:Below wr.heap.size wr (wr.drew.alloc (.cells #[.int .i64 tk,.int .i64 tp,.string tx] 38)):=(show Below wr.heap.size wr wr.drew from ⟨rfl,rfl,rfl,zD _,fun _ _=>rfl⟩).alloc (zD _) _
      refine ⟨((aa HT).b.trans (hA.mono (aa HT).b.size)).grown cc (by rw[zJ];show W.heap.size≤wr.heap.size+1;omega) (fun q e=>by have:=(World.ownsRow.lt hrA q e).1;omega),NC cc (bL (aa HT).r _) (F9 _ (by omega)),NC cc (bL (aa HT).f _) (F9 _ (by omega)),?_⟩
      unfold fO
      rw[zK,yJ]
      exact dz
     refine hK _ _ ⟨fun _=>fQ,?_⟩
     clear hK K dz cc jc Xr hrA F9 hT ZK
     simp only[Act.put,zL]
     have Co:=(bG fQ.1).1.1
     have Ca:=(bG fQ.1).2 0
     refine aO 11 (by kernel_rfl) rfl (fun K hK=>?_)
     go_simp
     refine hK _ _ ⟨fun _=>fQ,?_⟩
     clear hK K
     refine aO 12 (by kernel_rfl) rfl (fun K hK=>?_)
     go_simp
     refine hK _ _ ⟨fun _=>fQ,?_⟩
     clear hK K
     refine aO 13 (by kernel_rfl) rfl (fun K hK=>?_)
     go_simp
     refine hK _ _ ⟨fun q=>absurd rfl q,?_⟩
     clear hK K Co Ca
     refine df (by kernel_rfl) ?_
     obtain ⟨s1,s2⟩:=aC (j:=0) fQ.1 (.slice a7 (L.length+1) c7)
     have y1:(w7.setCell ⟨W.heap.size+2,0,none⟩ (.slice a7 (L.length+1) c7)).cell? ⟨g,off+k*3,none⟩=some (.int .i64 tk):=AR s2 fQ.2.1 (by simp;omega) (World.block_lt_of_cell? _ _ fQ.2.1)
     have y2:(w7.setCell ⟨W.heap.size+2,0,none⟩ (.slice a7 (L.length+1) c7)).cell? ⟨g,off+k*3+1,none⟩=some (.int .i64 tp):=AR s2 fQ.2.2.1 (by simp;omega) (World.block_lt_of_cell? _ _ fQ.2.2.1)
     have y3:(w7.setCell ⟨W.heap.size+2,0,none⟩ (.slice a7 (L.length+1) c7)).cell? ⟨g,off+k*3+2,none⟩=some (.string tx):=AR s2 fQ.2.2.2 (by simp;omega) (World.block_lt_of_cell? _ _ fQ.2.2.2)
     have HW8:Hid (Below W.heap.size W (w7.setCell ⟨W.heap.size+2,0,none⟩ (.slice a7 (L.length+1) c7))∧(w7.setCell ⟨W.heap.size+2,0,none⟩ (.slice a7 (L.length+1) c7)).heap[W.heap.size]?=some (.cells #[.string ⟨#[]⟩,.slice none 0 0,.slice none 0 0,.slice none 0 0] 27 (0,0))∧(w7.setCell ⟨W.heap.size+2,0,none⟩ (.slice a7 (L.length+1) c7)).heap[W.heap.size+1]?=some (.cells #[.int .i64 0,.int .i64 0,.int .i64 0,.string ⟨#[]⟩] 30 (0,0))∧fO (W.heap.size+3) (w7.setCell ⟨W.heap.size+2,0,none⟩ (.slice a7 (L.length+1) c7)) (.slice a7 (L.length+1) c7) (L++[⟨tk,tp,tx⟩])∧(w7.setCell ⟨W.heap.size+2,0,none⟩ (.slice a7 (L.length+1) c7)).heap[W.heap.size+2]?=some (.cells #[(.slice a7 (L.length+1) c7),.int .i64 0,.int .i64 en,.int .i64 0,.int .i64 0,.int .i64 0] 57 (0,0))):=by
      obtain ⟨q1,q2,q3,q4⟩:=aa HW7
      exact ⟨mK q1 s2 (by omega),aw s2 q2 (by omega),aw s2 q3 (by omega),q4.kept s2 (by
       by_cases e:(Value.slice a7 (L.length+1) c7).ownBlock=none
       ·exact .inl e
       ·exact .inr (fun e2=>by have:=(World.ownsRow.lt q4 _ e2).1;omega)),s1⟩
     obtain ⟨w8,hw8⟩:∃w8,w8=w7.setCell ⟨W.heap.size+2,0,none⟩ (.slice a7 (L.length+1) c7):=⟨_,rfl⟩
     rw[←hw8] at y1 y2 y3 HW8 ⊢
     clear hw8 s1 s2 fQ HW7 SW T' HT x1 x2 x3
     go_upto_region 12 with fail
     have hT:(fun w=>w.heap[W.heap.size+2]?=some (.cells #[(.slice a7 (L.length+1) c7),.int .i64 0,.int .i64 en,.int .i64 0,.int .i64 0,.int .i64 0] 57 (0,0))∧w.cell? ⟨g,off+k*3,none⟩=some (.int .i64 tk)∧w.cell? ⟨g,off+k*3+1,none⟩=some (.int .i64 tp)∧w.cell? ⟨g,off+k*3+2,none⟩=some (.string tx)) w8.drew:=⟨(aa HW8).2.2.2.2,y1,y2,y3⟩
     refine wp_region_any (by kernel_rfl) (dL (z:=15) (T:=fun w=>w.heap[W.heap.size+2]?=some (.cells #[(.slice a7 (L.length+1) c7),.int .i64 0,.int .i64 en,.int .i64 0,.int .i64 0,.int .i64 0] 57 (0,0))∧w.cell? ⟨g,off+k*3,none⟩=some (.int .i64 tk)∧w.cell? ⟨g,off+k*3+1,none⟩=some (.int .i64 tp)∧w.cell? ⟨g,off+k*3+2,none⟩=some (.string tx)) _ _ _ _ ?_)
     try (change dT _ _ _ _ _ _ _ _ _ (World.drew _))
     refine wpAnyZ_tk 0 (.pointer (some ⟨W.heap.size+2,0,none⟩)) 52 rfl rfl (Or.inl ⟨by rfl,fun w hw=>by obtain ⟨eL,ki,gS,ig⟩:=hw;obtain ⟨⟨pn,pj,pM,pL,sV,qx⟩,jz⟩:=bG eL;clear jz eL;go_simp⟩) hT ?_
     simp only[Act.put,zL,zM,zN]
     refine wpAnyZ_tk 1 (.slice (some ⟨g,off,none⟩) ts.length c) 53 rfl rfl (Or.inl ⟨by rfl,fun w hw=>by obtain ⟨eL,ki,gS,ig⟩:=hw;obtain ⟨⟨pn,pj,pM,pL,sV,qx⟩,jz⟩:=bG eL;clear jz eL;go_simp⟩) hT ?_
     simp only[Act.put,zL,zM,zN]
     refine wpAnyZ_tk 2 (.int .i64 (k:Int)) 54 rfl rfl (Or.inl ⟨by rfl,fun w hw=>by obtain ⟨eL,ki,gS,ig⟩:=hw;obtain ⟨⟨pn,pj,pM,pL,sV,qx⟩,jz⟩:=bG eL;clear jz eL;go_simp⟩) hT ?_
     simp only[Act.put,zL,zM,zN]
     refine wpAnyZ_tk 3 (.pointer (some ⟨g,off+k*3,none⟩)) 55 rfl rfl (Or.inl ⟨by rfl,fun w hw=>by obtain ⟨eL,ki,gS,ig⟩:=hw;obtain ⟨⟨pn,pj,pM,pL,sV,qx⟩,jz⟩:=bG eL;clear jz eL;go_simp⟩) hT ?_
     simp only[Act.put,zL,zM,zN]
     refine wpAnyZ_tk 4 (.pointer (some ⟨g,off+k*3+1,none⟩)) 56 rfl rfl (Or.inl ⟨by rfl,fun w hw=>by obtain ⟨eL,ki,gS,ig⟩:=hw;obtain ⟨⟨pn,pj,pM,pL,sV,qx⟩,jz⟩:=bG eL;clear jz eL;go_simp⟩) hT ?_
     simp only[Act.put,zL,zM,zN]
     refine wpAnyZ_tk 5 (.int .i64 tp) 57 rfl rfl (Or.inl ⟨by rfl,fun w hw=>by obtain ⟨eL,ki,gS,ig⟩:=hw;obtain ⟨⟨pn,pj,pM,pL,sV,qx⟩,jz⟩:=bG eL;clear jz eL;go_simp⟩) hT ?_
     simp only[Act.put,zL,zM,zN]
     refine wpAnyZ_tk 6 (.slice (some ⟨g,off,none⟩) ts.length c) 58 rfl rfl (Or.inl ⟨by rfl,fun w hw=>by obtain ⟨eL,ki,gS,ig⟩:=hw;obtain ⟨⟨pn,pj,pM,pL,sV,qx⟩,jz⟩:=bG eL;clear jz eL;go_simp⟩) hT ?_
     simp only[Act.put,zL,zM,zN]
     refine wpAnyZ_tk 7 (.int .i64 (k:Int)) 59 rfl rfl (Or.inl ⟨by rfl,fun w hw=>by obtain ⟨eL,ki,gS,ig⟩:=hw;obtain ⟨⟨pn,pj,pM,pL,sV,qx⟩,jz⟩:=bG eL;clear jz eL;go_simp⟩) hT ?_
     simp only[Act.put,zL,zM,zN]
     refine wpAnyZ_tk 8 (.pointer (some ⟨g,off+k*3,none⟩)) 60 rfl rfl (Or.inl ⟨by rfl,fun w hw=>by obtain ⟨eL,ki,gS,ig⟩:=hw;obtain ⟨⟨pn,pj,pM,pL,sV,qx⟩,jz⟩:=bG eL;clear jz eL;go_simp⟩) hT ?_
     simp only[Act.put,zL,zM,zN]
     refine wpAnyZ_tk 9 (.pointer (some ⟨g,off+k*3+2,none⟩)) 61 rfl rfl (Or.inl ⟨by rfl,fun w hw=>by obtain ⟨eL,ki,gS,ig⟩:=hw;obtain ⟨⟨pn,pj,pM,pL,sV,qx⟩,jz⟩:=bG eL;clear jz eL;go_simp⟩) hT ?_
     simp only[Act.put,zL,zM,zN]
     refine wpAnyZ_tk 10 (.string tx) 62 rfl rfl (Or.inl ⟨by rfl,fun w hw=>by obtain ⟨eL,ki,gS,ig⟩:=hw;obtain ⟨⟨pn,pj,pM,pL,sV,qx⟩,jz⟩:=bG eL;clear jz eL;go_simp⟩) hT ?_
     simp only[Act.put,zL,zM,zN]
     refine wpAnyZ_tk 11 (.int .i64 (tx.size:Int)) 63 rfl rfl (Or.inl ⟨by rfl,fun w hw=>by obtain ⟨eL,ki,gS,ig⟩:=hw;obtain ⟨⟨pn,pj,pM,pL,sV,qx⟩,jz⟩:=bG eL;clear jz eL;go_simp⟩) hT ?_
     simp only[Act.put,zL,zM,zN]
     refine wpAnyZ_tk 12 (.int .i64 (wrap64 (tp+(tx.size:Int)))) 64 rfl rfl (Or.inl ⟨by rfl,fun w hw=>by obtain ⟨eL,ki,gS,ig⟩:=hw;obtain ⟨⟨pn,pj,pM,pL,sV,qx⟩,jz⟩:=bG eL;clear jz eL;go_simp;rw[IntKind.wrap_i64];unfold wrap64;rfl⟩) hT ?_
     simp only[Act.put,zL,zM,zN]
     have Co:=(bG hT.1).1.2.2.1
     have Ca:=(bG hT.1).2 2
     refine aO 13 (by kernel_rfl) rfl (fun K hK=>?_)
     go_simp
     refine hK _ _ ⟨fun _=>hT,?_⟩
     clear hK K
     refine aO 14 (by kernel_rfl) rfl (fun K hK=>?_)
     go_simp
     refine hK _ _ ⟨fun _=>hT,?_⟩
     clear hK K
     refine aO 15 (by kernel_rfl) rfl (fun K hK=>?_)
     go_simp
     refine hK _ _ ⟨fun q=>absurd rfl q,?_⟩
     clear hK K Co Ca
     refine df (by kernel_rfl) ?_
     obtain ⟨s1,s2⟩:=aC (j:=2) hT.1 (.int .i64 (wrap64 (tp+(tx.size:Int))))
     have lM:Hid (XL W ts (k+1) false (w8.drew.setCell ⟨W.heap.size+2,2,none⟩ (.int .i64 (wrap64 (tp+(tx.size:Int)))))):=by
      obtain ⟨q1,q2,q3,q4,_⟩:=aa HW8
      have hd:Below W.heap.size W w8.drew:=q1.trans ⟨rfl,rfl,rfl,zD _,fun _ _=>rfl⟩
      have q4':fO (W.heap.size+3) w8.drew (.slice a7 (L.length+1) c7) (L++[⟨tk,tp,tx⟩]):=q4
      refine ⟨mK hd s2 (by omega),aw s2 (show w8.drew.heap[W.heap.size]?=_ from q2) (by omega),aw s2 (show w8.drew.heap[W.heap.size+1]?=_ from q3) (by omega),a7,c7,L++[⟨tk,tp,tx⟩],_,?_,?_,(aa HS).more (aa LL) (aa HKN)⟩
      ·rw[zK];exact s1
      ·rw[zK]
       exact q4'.kept s2 (by
        by_cases e:(Value.slice a7 (L.length+1) c7).ownBlock=none
        ·exact .inl e
        ·exact .inr (fun e2=>by have:=(World.ownsRow.lt q4' _ e2).1;omega))
     clear s1 s2 hT HW8 y1 y2 y3
     go_wp2
     go_roundg (ts.length-(k+1))
     case measure=>have:=aa zz;omega
     case rel=>exact ⟨k+1,false,rfl,by go_num,rfl,lM⟩
   |false =>
    have hfe:q=true∨k=ts.length:=by
     have h1:=aa jw
     cases q with
     |true=>exact .inl rfl
     |false=>right;have h2:=(aa HT).p;obtain ⟨_,_,_,_,_,_,h3⟩:=h2;have:=h3.le;have:(decide (k<ts.length)&&!false)=false:=h1;simp at this;omega
    have HZ:=ab ((aa HT).zr hfe (aa CG) (by omega))
    have Qj:Hid (N5 (cJ ts)∧(cJ ts).op=0):=by
     obtain ⟨_,_,_,_,_,_,h3⟩:=(aa HT).p
     obtain ⟨_,_,_,h4,h5⟩:=h3.fin hfe
     exact ⟨h5,h4⟩
    clear hfe jw
    go_wp2_with fail
    refine (Qn (aa HZ) (aa Qj).1 (aa Qj).2).mono ?_
    rintro e w1 ⟨hg,hz,⟨pg,im,xm,xe⟩,⟨⟨fa,fc⟩,⟨oa,oc⟩,⟨ma,mc⟩,⟨ea,ec⟩,⟨ra,rc⟩,⟨ga,gc⟩,cm,ce⟩,rfl,hM,hv⟩
    unfold MV.CA
    simp only
    have E9:Below W.heap.size W w1:=mK (aa HT).b hg (by omega)
    have NX:w1.heap[W.heap.size]?=some (.cells #[.string ⟨#[]⟩,.slice none 0 0,.slice none 0 0,.slice none 0 0] 27 (0,0)):=aw hg (aa HT).r (by omega)
    have P8:w1.heap[W.heap.size+1]?=some (.cells #[.int .i64 0,.int .i64 0,.int .i64 0,.string ⟨#[]⟩] 30 (0,0)):=aw hg (aa HT).f (by omega)
    have hwl:W.heap.size+2<wr.heap.size:=by have:=(aa HT).p;obtain ⟨_,_,_,_,h1,_⟩:=this;exact gJ h1
    have Gh:Below W.heap.size W (w1.alloc (.cells #[.string pg,.slice oa im.length oc,.slice ma xm.length mc,.slice ea xe.length ec] 27)):=E9.alloc E9.size _
    have jg:=(hz.up ((zE _ _).alloc (zD _) (.cells #[.string pg,.slice oa im.length oc,.slice ma xm.length mc,.slice ea xe.length ec] 27))).1
    have AW:=bL NX (.cells #[.string pg,.slice oa im.length oc,.slice ma xm.length mc,.slice ea xe.length ec] 27)
    have o8:=bL P8 (.cells #[.string pg,.slice oa im.length oc,.slice ma xm.length mc,.slice ea xe.length ec] 27)
    have lF:=aF w1 (.cells #[.string pg,.slice oa im.length oc,.slice ma xm.length mc,.slice ea xe.length ec] 27)
    have Om:=hM.alloc (.cells #[.string pg,.slice oa im.length oc,.slice ma xm.length mc,.slice ea xe.length ec] 27)
    obtain ⟨w2,ki⟩:∃w2,w2=w1.alloc (.cells #[.string pg,.slice oa im.length oc,.slice ma xm.length mc,.slice ea xe.length ec] 27):=⟨_,rfl⟩
    have oP:W.heap.size+2<w1.heap.size:=by have:=hg.size;omega
    rw[←ki] at Gh Om jg AW o8 lF
    have iJ:=ab Gh
    have xO:=ab Om
    have qB:=ab AW
    have nz:=ab o8
    have wT:=ab lF
    have CO:=ab jg
    have Lr:=ab ki
    obtain ⟨r,hr⟩:∃r,r=iB (cJ ts):=⟨_,rfl⟩
    rw[←hr] at hv
    have Wn:Hid (Zd wr.heap.size w2 (W.heap.size+2) (Qx (aT r))):=by rw[hr];exact aa CO
    have HF:Hid (iM ts=r):=by show _=_;unfold iM;rw[if_neg (aa HLG),hr]
    have HV:=ab hv
    clear E9 NX P8 Gh jg AW o8 lF Om ki hg hz hM hv hr CO HZ HT Qj
    go_upto_region 14 with fail
    rw[←aa Lr]
    obtain ⟨⟨xE,xD,xC,cr3⟩,du⟩:=ck (aa qB)
    obtain ⟨⟨cf0,cf1,cf2,cf3⟩,Zy⟩:=ck (aa nz)
    have um:=du 0
    have uk:=du 1
    have uj:=du 2
    have fr3:=du 3
    have ff0:=Zy 0
    have ff1:=Zy 1
    have ff2:=Zy 2
    have ff3:=Zy 3
    clear du Zy
    cases r with
    |error y =>
     obtain ⟨KC,a9,n9,c9,i9,en9,ct9,Ag,YJ⟩:=aa Wn
     obtain ⟨⟨pn,pj,pM,pL,sV,qx⟩,jz⟩:=bG Ag
     have e0:(y.1 != 0)=true:=by simpa using YJ
     obtain ⟨q1,q2⟩:=mg (aa iJ) (aa qB) (aa nz) (.string ⟨#[]⟩) (.slice none 0 0) (.slice none 0 0) (.slice none 0 0) (.int .i64 y.1) (.int .i64 0) (.int .i64 y.2) (.string ⟨#[]⟩)
     have Q1:=ab (Jb q1)
     have Q2:=ab (zp q2)
     unfold fT at Q1 Q2
     clear q1 q2 jz Ag pn pj pM pL YJ KC HV xO qB nz wT Wn iJ Lr
     go_upto_region 15 with fail
     go_region
     all_goals
      go_wp2
      refine km rfl rfl rfl (aa Q1).1 (aa Q1).2.1 rfl rfl ?_
      rw[aa HF]
      exact ⟨rfl,aa Q2⟩
    |ok p =>
     obtain ⟨x0,s0⟩:=p
     obtain rfl:=aa HV x0 s0 rfl
     obtain ⟨KC,v9,TL,i9,Ag,-⟩:=aa Wn
     obtain ⟨⟨pn,pj,pM,pL,sV,qx⟩,jz⟩:=bG Ag
     obtain ⟨⟨cq0,cq1,cq2,cq3⟩,-⟩:=ck (aa wT)
     obtain ⟨q1,q2⟩:=mg (aa iJ) (aa qB) (aa nz) (.string pg) (.slice oa im.length oc) (.slice ma xm.length mc) (.slice ea xe.length ec) (.int .i64 0) (.int .i64 0) (.int .i64 0) (.string ⟨#[]⟩)
     have HNF:=ab (Yw (aa xO) (show W.heap.size+2≤wr.heap.size by omega) q1)
     have Q1:=ab q1
     have Q2:=ab q2
     unfold fT at HNF Q1 Q2
     have n1:W.heap.size≠w1.heap.size:=by omega
     have n2:W.heap.size+1≠w1.heap.size:=by omega
     clear jz Ag pn pj pM pL qx KC HV xO qB nz wT Wn iJ Lr q1 q2
     go_wp2
     refine km rfl rfl rfl (aa Q1).1 (aa Q1).2.1 rfl rfl ?_
     rw[aa HF]
     exact ⟨_,rfl,aa HNF,aa Q2⟩
end Go.Proofs.YtjophoclfccmcaaGreatDoor
