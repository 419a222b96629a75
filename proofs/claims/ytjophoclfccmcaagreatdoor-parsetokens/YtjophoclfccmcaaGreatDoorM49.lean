import Derived.Test.YtjophoclfccmcaaGreatDoorPgC
set_option maxHeartbeats 4000000
set_option maxRecDepth 100000
namespace Go.Proofs.YtjophoclfccmcaaGreatDoor
open Go.RowKit
theorem qw (ts:List Tk):∀(m n k:Nat),(∀i,k≤i→i<k+m→∃t,ts[i]?=some t∧t.kind≠5)→gB ts (n+m) k=gB ts n (k+m)
 |0,_,_,_=>rfl
 |m+1,n,k,h=>by
  obtain ⟨t,ht,hk⟩:=h k (zD _) (by omega)
  have hq:¬(t.kind==5)=true:=by simpa using hk
  have e:gB ts ((n+m)+1) k=gB ts (n+m) (k+1):=by
   show (match ts[k]? with|none=>none|some t=>if (t.kind==5)=true then some k else gB ts (n+m) (k+1))=_
   rw[ht]
   simp only[if_neg hq]
  show gB ts ((n+m)+1) k=_
  rw[e]
  rw[qw ts m n (k+1) (fun i h1 h2=>h i (by omega) (by omega)),show k+(m+1)=k+1+m by omega]
def BP (l:List Tk):Int:=match l.getLast? with
 |some t=>wrap64 (t.spot+(t.text.size:Int))
 |none=>0
structure Ln (ts:List Tk) (k:Nat) (q:Bool) (L:List Tk) (en:Int):Prop where
 le:k≤ts.length
 no:∀t ∈ L,t.kind≠5
 on:q=false→L=ts.take k∧en=BP L
 off:q=true→∃t,ts[L.length]?=some t∧t.kind=5∧L=ts.take L.length∧en=t.spot
theorem Ln.start (ts:List Tk):Ln ts 0 false [] 0:=⟨Nat.zero_le _,fun _ h=>(by cases h),fun _=>⟨rfl,rfl⟩,fun h=>(by cases h)⟩
theorem Ln.more {ts:List Tk}{k:Nat}{L:List Tk}{en:Int}{t:Tk} (h:Ln ts k false L en) (ht:ts[k]?=some t) (hk:t.kind≠5):Ln ts (k+1) false (L++[t]) (wrap64 (t.spot+(t.text.size:Int))):=by
 have dB:=(zB ht).1
 refine ⟨by omega,fun u hu=>?_,fun _=>⟨?_,?_⟩,fun q=>(by cases q)⟩
 ·rcases List.mem_append.1 hu with hu|hu
  ·exact h.no u hu
  ·rw[List.mem_singleton.1 hu];exact hk
 ·rw[(h.on rfl).1,List.take_add_one,ht]
  rfl
 ·unfold BP
  rw[List.getLast?_append]
  rfl
theorem Ln.stop {ts:List Tk}{k:Nat}{L:List Tk}{en:Int}{t:Tk} (h:Ln ts k false L en) (ht:ts[k]?=some t) (hk:t.kind=5):Ln ts (k+1) true L t.spot:=by
 have dB:=(zB ht).1
 have hl:L.length=k:=by rw[(h.on rfl).1,List.length_take];omega
 refine ⟨by omega,h.no,fun q=>(by cases q),fun _=>⟨t,by rw[hl];exact ht,hk,by rw[hl];exact (h.on rfl).1,rfl⟩⟩
theorem Ln.fin {ts:List Tk}{k:Nat}{q:Bool}{L:List Tk}{en:Int} (h:Ln ts k q L en) (hk:q=true∨k=ts.length):zs (cH ts)=⟨L,en,0⟩∧(cH ts).bg=false∧(cH ts).en.kind=5∧(cH ts).op=0∧N5 (cH ts):=by
 cases q with
 |true =>
  obtain ⟨t,ht,h5,hL,rfl⟩:=h.off rfl
  have dB:=(zB ht).1
  have he:gB ts (ts.length+1) 0=some L.length:=by
   have h1:=qw ts L.length (ts.length+1-L.length) 0 (fun i _ h2=>by
    have h3:i<L.length:=by omega
    obtain ⟨u,hu⟩:∃u,L[i]?=some u:=⟨_,List.getElem?_eq_getElem h3⟩
    refine ⟨u,?_,h.no u (List.mem_of_getElem? hu)⟩
    rw[hL,List.getElem?_take] at hu
    rw[if_pos h3] at hu
    exact hu)
   rw[show ts.length+1-L.length+L.length=ts.length+1 by omega,Nat.zero_add] at h1
   rw[h1,show ts.length+1-L.length=(ts.length-L.length)+1 by omega]
   unfold gB
   rw[ht]
   have hq:(t.kind==5)=true:=by simpa using h5
   simp only[if_pos hq]
  unfold cH
  rw[he]
  simp only
  have hd:ts.getD L.length iH=t:=by rw[List.getD_eq_getElem?_getD,ht];rfl
  rw[hd,←hL]
  exact ⟨by first|rfl|trivial,by first|rfl|trivial,h5,by first|rfl|trivial,h.no⟩
 |false =>
  have hk:k=ts.length:=by rcases hk with hk|hk;cases hk;exact hk
  obtain ⟨hL,rfl⟩:=h.on rfl
  have hL:L=ts:=by rw[hL,hk,List.take_length]
  subst hL
  have he:gB L (L.length+1) 0=none:=by
   have h1:=qw L L.length 1 0 (fun i _ h2=>by
    have h3:i<L.length:=by omega
    obtain ⟨u,hu⟩:∃u,L[i]?=some u:=⟨_,List.getElem?_eq_getElem h3⟩
    exact ⟨u,hu,h.no u (List.mem_of_getElem? hu)⟩)
   rw[Nat.add_comm L.length 1,h1,Nat.zero_add]
   unfold gB
   rw[List.getElem?_eq_none (zD _)]
  unfold cH BP
  rw[he]
  simp only
  cases hg:L.getLast? with
  |none=>exact ⟨by first|rfl|trivial,by first|rfl|trivial,by first|rfl|trivial,by first|rfl|trivial,h.no⟩
  |some t=>exact ⟨by first|rfl|trivial,by first|rfl|trivial,by first|rfl|trivial,by first|rfl|trivial,h.no⟩
theorem xW (ts:List Tk):(cH ts).ts.length≤ts.length:=by
 unfold cH
 split
 ·show (ts.take _).length≤_
  rw[List.length_take]
  omega
 ·split<;>exact zD _
theorem Mq {ts:List Tk}{k:Nat}{q:Bool}{L:List Tk}{en:Int} (h:Ln ts k q L en) (hk:q=true∨k=ts.length) (hs:∀t ∈ ts,t.text.size≤140737488355327) (hn:ts.length≤16384):Gd (cH ts):=by
 obtain ⟨h1,h2,h3,h4,h5⟩:=h.fin hk
 have hd:(cH ts).dc=0:=congrArg ZS.dc h1
 exact ⟨h2,h3,Dh hs,by rw[hd];omega,Nat.le_trans (xW ts) hn⟩
theorem Q5 {W:World}{B lo b:Nat}{v:Value}{ts:List Tk} (hr:eS B W v ts) (hl:W.heap.size≤lo) (hb:b<B):dZ W lo b v ts:=by
 rcases hr.2 with ⟨rfl,h0⟩|⟨g,c,cur,rfl,h1,h2,h3,h4,_⟩
 ·exact ⟨none,0,by rw[h0],by omega,by unfold maxLen;omega,fun hp=>by omega⟩
 ·have dB:=(zA h2).1
  refine ⟨_,c,rfl,h3,h4,fun hp=>⟨g,0,rfl,by omega,by omega,fun i t ht=>?_⟩⟩
  obtain ⟨x1,x2,x3⟩:=hr.cell ht
  rw[Nat.zero_add]
  exact ⟨x1,x2,x3⟩
structure XY (W:World) (ts:List Tk) (k:Nat) (q:Bool) (w:World):Prop where
 b:Below W.heap.size W w
 r:w.heap[W.heap.size]?=some (.cells E4 27 (0,0))
 f:w.heap[W.heap.size+1]?=some (.cells #[.int .i64 0,.int .i64 0,.int .i64 0,.string ⟨#[]⟩] 30 (0,0))
 p:∃(a:Option Addr) (c:Nat) (L:List Tk) (en:Int),w.heap[W.heap.size+2]?=some (.cells (ZC (.slice a L.length c) 0 en 0 0 0) 57 (0,0))∧eS (W.heap.size+3) w (.slice a L.length c) L∧Ln ts k q L en
theorem XY.zr {W w:World}{ts:List Tk}{k:Nat}{q:Bool} (h:XY W ts k q w) (hk:q=true∨k=ts.length) (hs:∀t ∈ ts,t.text.size≤140737488355327) (hn:ts.length≤16384):Zr w.heap.size w (W.heap.size+2) (.ok (cH ts)):=by
 obtain ⟨a,c,L,en,h1,h2,h3⟩:=h.p
 obtain ⟨k1,_⟩:=h3.fin hk
 have dB:=(zA h1).1
 have hL:L.length≤16384:=by
  have e:(cH ts).ts=L:=congrArg ZS.ts k1
  have:=xW ts
  rw[e] at this
  omega
 refine ⟨⟨⟨dB,zD _⟩,?_⟩,Mq h3 hk hs hn⟩
 show ∃(v:Value) (L:List Tk) (i:Nat),w.heap[W.heap.size+2]?=some (.cells (ZC v i (zs (cH ts)).en (zs (cH ts)).dc 0 0) 57 (0,0))∧dZ w w.heap.size (W.heap.size+2) v L∧L.drop i=(zs (cH ts)).ts∧i≤L.length∧L.length≤16384
 rw[k1]
 exact ⟨_,L,0,h1,Q5 h2 (zD _) (by omega),rfl,Nat.zero_le _,hL⟩
end Go.Proofs.YtjophoclfccmcaaGreatDoor
namespace Go.Proofs.YtjophoclfccmcaaGreatDoor
open Go.RowKit
attribute [local go_sem ↓] Go.wp_at_zero Go.wp_at_succ
theorem NO {W w:World}{k:Nat}{o:Obj}{r:Option Nat} (hg:W.grownBy w r) (h:W.heap[k]?=some o) (dV:r≠some k):w.heap[k]?=some o:=(hg.block k (zA h).1 (fun e=>dV e.symm)).trans h
theorem GR {B:Nat}{W w:World} (h:Below B W w):Below B W w.drew:=⟨h.os,h.tape,h.output,h.size,h.block⟩
theorem YM {W w w':World}{l:Nat}{x:Fl}{v:MV}{a b:Array Value} (h:nL l [] w (fm x) v) (hl:W.heap.size+2≤l) (hc:Ct W.heap.size (W.heap.size+1) a b w w'):NF x (.agg (v.Cv x)) (fun k=>W.heap.size≤k) w':=by
 obtain ⟨_,_,_,_,_,_,o5⟩:=hc
 have q:∀(i:Nat) (sl:Slot),(v.ss (fm x))[i]?=some sl→je (fun k=>l≤k) w sl.t sl.sz sl.v sl.n sl.xs:=fun i sl hi=>⟨ML (h.sl.own i sl hi),fun k hk=>((h.sl.own i sl hi).lt k hk).1⟩
 have hg:wZ (Nq l [] (v.ss (fm x))) (fun k=>l≤k) w w:=fun k hp _=>⟨hp.1,rfl⟩
 have h1:NF x (.agg (v.Cv x)) (fun k=>l≤k) w:=⟨_,_,_,v.cm,v.ce,rfl,q 1 _ rfl,q 2 _ rfl,eX _ _ _ _ _ _ hg h.ms,q 3 _ rfl,eO _ _ _ _ _ _ hg h.es⟩
 exact oS _ _ _ _ _ _ (fun k hp hk=>⟨by omega,o5 k hk (by omega) (by omega)⟩) h1
theorem AM {W w:World}{k j:Nat}{u:Value}{r:Option Nat} (hg:W.grownBy w r) (h:W.cell? ⟨k,j,none⟩=some u) (dV:r≠some k) (hl:k<W.heap.size):w.cell? ⟨k,j,none⟩=some u:=(World.cell?_of_block (a:=⟨k,j,none⟩) (hg.block k hl (fun e=>dV e.symm))).trans h
theorem CV {W:World}{v:Value}{ts:List Tk} (h:dZ W W.heap.size W.heap.size v ts) (hs:∀t ∈ ts,t.text.size≤140737488355327) (hn:ts.length≤140737488355327):Calls Tryz.prog 12 #[v] W (PV W (jg ts)):=by
 obtain ⟨k0,rB,Xr,U8,Xq⟩:=info_parts Tryz.ru
 obtain ⟨a,c,hv,hc,hm,h3⟩:=id h
 by_cases mE:16384<ts.length
 ·have hd:decide ((16384:Int)<(ts.length:Int))=true:=by simp;omega
  obtain ⟨br,_,jo,eL⟩:=al2 W 2 0
  have HE:Hid (PV W (jg ts) (.returned (.tuple #[.agg #[.string ⟨#[]⟩,.slice none 0 0,.slice none 0 0,.slice none 0 0],.agg #[.int .i64 2,.int .i64 0,.int .i64 0,.string ⟨#[]⟩]])) (E9 W 2 0)):=by
   show PV W (jg ts) _ _
   unfold jg
   rw[if_pos mE]
   exact ⟨rfl,br⟩
  have H1:=ab jo
  have H2:=ab eL
  unfold E9 at HE H1 H2
  subst hv
  clear h hs br jo eL mE h3
  go_enter Tryz.func12,Tryz.ntmps12
  go_wp2
  exact mS rfl rfl rfl (aa H1) (aa H2) rfl rfl (aa HE)
 ·have hd:decide ((16384:Int)<(ts.length:Int))=false:=by simp;omega
  obtain ⟨br,ck,jo,eL⟩:=al2 W 0 0
  have hq3:=aH (E9 W 0 0) (.cells #[(.slice none 0 0),.int .i64 0,.int .i64 0,.int .i64 0,.int .i64 0,.int .i64 0] 57)
  rw[ck] at hq3
  have oP:Hid (XY W ts 0 false ((E9 W 0 0).alloc (.cells #[(.slice none 0 0),.int .i64 0,.int .i64 0,.int .i64 0,.int .i64 0,.int .i64 0] 57))):=⟨br.alloc br.size _,bL jo _,bL eL _,none,0,[],0,hq3,World.ownsRow_nil _ _ _ _,Ln.start ts⟩
  have CB:=ab hs
  have H3:=ab h3
  have HLG:=ab mE
  unfold E9 at oP
  subst hv
  clear h hs br ck jo eL hq3 h3
  go_enter Tryz.func12,Tryz.ntmps12
  go_wp2
  go_loopg [5,6] ts.length (fun gk v5 v6 wr=>∃(k:Nat) (q:Bool),v5=.bool q∧v6=.int .i64 (k:Int)∧gk=ts.length-k∧Hid (XY W ts k q wr))
  case atStart=>exact ⟨0,false,rfl,rfl,rfl,oP⟩
  case round =>
   clear oP
   obtain ⟨k,q,rfl,rfl,eG,HT⟩:=hrel
   have zu:=ab eG
   clear eG
   have XA:k≤ts.length:=by obtain ⟨_,_,_,_,_,_,h3⟩:=(aa HT).p;exact h3.le
   go_upto_region 6 with fail
   go_cut [22] from 15 to 66 (fun v22 wx=>v22=.bool (decide (k<ts.length)&&!q)∧wx=wr)
   case first =>
    by_cases dB:k<ts.length
    ·have d1:decide ((k:Int)<(ts.length:Int))=true:=by simp;omega
     have HD:Hid (decide (k<ts.length)=true):=by show _=_;simp;omega
     cases q with
     |true=>go_wp2;go_meet;exact ⟨by rw[aa HD];rfl,rfl⟩
     |false=>go_wp2;go_meet;exact ⟨by rw[aa HD];rfl,rfl⟩
    ·have d1:decide ((k:Int)<(ts.length:Int))=false:=by simp;omega
     have HD:Hid (decide (k<ts.length)=false):=by show _=_;simp;omega
     go_wp2
     go_meet
     exact ⟨by rw[aa HD];rfl,rfl⟩
   case rest =>
   obtain ⟨rfl,rfl⟩:=hcut
   obtain ⟨wr,AQ⟩:∃x,x=wc:=⟨_,rfl⟩
   subst AQ
   obtain ⟨u,hu⟩:∃u,(decide (k<ts.length)&&!q)=u:=⟨_,rfl⟩
   rw[hu]
   have jx:=ab hu
   clear hu
   cases u with
   |true =>
    obtain ⟨dB,rfl⟩:k<ts.length∧q=false:=by
     have h:=aa jx
     cases q with
     |true=>simp at h
     |false=>exact ⟨by simpa using h,rfl⟩
    obtain ⟨g,off,rfl,hg,dV,hx⟩:=aa H3 (by omega)
    obtain ⟨⟨tk,tp,tx⟩,ht⟩:∃t,ts[k]?=some t:=⟨_,List.getElem?_eq_getElem dB⟩
    obtain ⟨z1,z2,z3⟩:=hx k _ ht
    have E3:=ab ht
    have CG:tx.size≤140737488355327:=aa CB _ (List.mem_of_getElem? ht)
    have x1:wr.cell? ⟨g,off+k*3,none⟩=some (.int .i64 tk):=((aa HT).b.cell (p:=⟨g,off+k*3,none⟩) hg).trans z1
    have x2:wr.cell? ⟨g,off+k*3+1,none⟩=some (.int .i64 tp):=((aa HT).b.cell (p:=⟨g,off+k*3+1,none⟩) hg).trans z2
    have x3:wr.cell? ⟨g,off+k*3+2,none⟩=some (.string tx):=((aa HT).b.cell (p:=⟨g,off+k*3+2,none⟩) hg).trans z3
    obtain ⟨la,lc,L,en,Ql,yJ,Qk⟩:=(aa HT).p
    have S2:Hid (wr.heap[W.heap.size+2]?=some (.cells #[(.slice la L.length lc),.int .i64 0,.int .i64 en,.int .i64 0,.int .i64 0,.int .i64 0] 57 (0,0))):=Ql
    have Uk:=ab yJ
    have HS:=ab Qk
    have hrl:W.heap.size+3≤wr.heap.size:=ib Ql
    have VE:g<wr.heap.size:=by omega
    have hLl:L.length≤16384:=by have:=(Qk.on rfl).1;rw[this,List.length_take];omega
    have i0:(0:Int)≤(k:Int):=zH _
    have i1:(k:Int)<(ts.length:Int):=by omega
    clear hx z1 z2 z3 ht Ql yJ Qk jx
    by_cases hk5:tk=5
    ·skip
     subst hk5
     have ce2:=(bE (aa S2)).1.2.2.1
     have fe2:=(bE (aa S2)).2 2
     obtain ⟨s1,s2⟩:=aC (j:=2) (aa S2) (.int .i64 tp)
     have lN:Hid (XY W ts (k+1) true (wr.setCell ⟨W.heap.size+2,2,none⟩ (.int .i64 tp))):=⟨mN (aa HT).b s2 (by omega),ax s2 (aa HT).r (by omega),ax s2 (aa HT).f (by omega),la,lc,L,tp,s1,(aa Uk).kept s2 (by
      by_cases e:(Value.slice la L.length lc).ownBlock=none
      ·exact .inl e
      ·exact .inr (fun e2=>by have:=(World.ownsRow.lt (aa Uk) _ e2).1;omega)),(aa HS).stop (aa E3) rfl⟩
     clear s1 s2 S2 Uk HT
     go_wp2
     go_roundg (ts.length-(k+1))
     case measure=>have:=aa zu;omega
     case rel=>exact ⟨k+1,true,rfl,by go_num,rfl,lN⟩
    ·have n1:(tk==5)=false:=by simpa using hk5
     have HKN:=ab hk5
     clear hk5
     go_upto_region 11 with fail
     have hT:(fun w=>w.heap[W.heap.size+2]?=some (.cells #[(.slice la L.length lc),.int .i64 0,.int .i64 en,.int .i64 0,.int .i64 0,.int .i64 0] 57 (0,0))∧w.cell? ⟨g,off+k*3,none⟩=some (.int .i64 tk)∧w.cell? ⟨g,off+k*3+1,none⟩=some (.int .i64 tp)∧w.cell? ⟨g,off+k*3+2,none⟩=some (.string tx)) wr.drew:=⟨(aa S2),x1,x2,x3⟩
     refine wp_region_any (by kernel_rfl) (dr (z:=13) (T:=fun w=>w.heap[W.heap.size+2]?=some (.cells #[(.slice la L.length lc),.int .i64 0,.int .i64 en,.int .i64 0,.int .i64 0,.int .i64 0] 57 (0,0))∧w.cell? ⟨g,off+k*3,none⟩=some (.int .i64 tk)∧w.cell? ⟨g,off+k*3+1,none⟩=some (.int .i64 tp)∧w.cell? ⟨g,off+k*3+2,none⟩=some (.string tx)) _ _ _ _ ?_)
     try (change dI _ _ _ _ _ _ _ _ _ (World.drew _))
     refine aB 0 (.pointer (some ⟨W.heap.size+2,0,none⟩)) 39 rfl rfl (Or.inl ⟨by rfl,fun w hw=>by obtain ⟨eF,kl,iU,ie⟩:=hw;obtain ⟨⟨pA,pz,pS,pR,sZ,qE⟩,jA⟩:=bE eF;clear jA eF;go_simp⟩) hT ?_
     simp only[Act.put,zL,zM,zN]
     refine aB 1 (.pointer (some ⟨W.heap.size+2,0,none⟩)) 40 rfl rfl (Or.inl ⟨by rfl,fun w hw=>by obtain ⟨eF,kl,iU,ie⟩:=hw;obtain ⟨⟨pA,pz,pS,pR,sZ,qE⟩,jA⟩:=bE eF;clear jA eF;go_simp⟩) hT ?_
     simp only[Act.put,zL,zM,zN]
     refine aB 2 (.pointer (some ⟨W.heap.size+2,0,none⟩)) 41 rfl rfl (Or.inl ⟨by rfl,fun w hw=>by obtain ⟨eF,kl,iU,ie⟩:=hw;obtain ⟨⟨pA,pz,pS,pR,sZ,qE⟩,jA⟩:=bE eF;clear jA eF;go_simp⟩) hT ?_
     simp only[Act.put,zL,zM,zN]
     refine aB 3 (.pointer (some ⟨W.heap.size+2,0,none⟩)) 42 rfl rfl (Or.inl ⟨by rfl,fun w hw=>by obtain ⟨eF,kl,iU,ie⟩:=hw;obtain ⟨⟨pA,pz,pS,pR,sZ,qE⟩,jA⟩:=bE eF;clear jA eF;go_simp⟩) hT ?_
     simp only[Act.put,zL,zM,zN]
     refine aB 4 (.slice la L.length lc) 43 rfl rfl (Or.inl ⟨by rfl,fun w hw=>by obtain ⟨eF,kl,iU,ie⟩:=hw;obtain ⟨⟨pA,pz,pS,pR,sZ,qE⟩,jA⟩:=bE eF;clear jA eF;go_simp⟩) hT ?_
     simp only[Act.put,zL,zM,zN]
     refine aB 5 (.slice (some ⟨g,off,none⟩) ts.length c) 44 rfl rfl (Or.inl ⟨by rfl,fun w hw=>by obtain ⟨eF,kl,iU,ie⟩:=hw;obtain ⟨⟨pA,pz,pS,pR,sZ,qE⟩,jA⟩:=bE eF;clear jA eF;go_simp⟩) hT ?_
     simp only[Act.put,zL,zM,zN]
     refine aB 6 (.int .i64 (k:Int)) 45 rfl rfl (Or.inl ⟨by rfl,fun w hw=>by obtain ⟨eF,kl,iU,ie⟩:=hw;obtain ⟨⟨pA,pz,pS,pR,sZ,qE⟩,jA⟩:=bE eF;clear jA eF;go_simp⟩) hT ?_
     simp only[Act.put,zL,zM,zN]
     refine aB 7 (.pointer (some ⟨g,off+k*3,none⟩)) 46 rfl rfl (Or.inl ⟨by rfl,fun w hw=>by obtain ⟨eF,kl,iU,ie⟩:=hw;obtain ⟨⟨pA,pz,pS,pR,sZ,qE⟩,jA⟩:=bE eF;clear jA eF;go_simp⟩) hT ?_
     simp only[Act.put,zL,zM,zN]
     refine aB 8 (.agg #[.int .i64 tk,.int .i64 tp,.string tx]) 47 rfl rfl (Or.inl ⟨by rfl,fun w hw=>by obtain ⟨eF,kl,iU,ie⟩:=hw;obtain ⟨⟨pA,pz,pS,pR,sZ,qE⟩,jA⟩:=bE eF;clear jA eF;go_simp⟩) hT ?_
     simp only[Act.put,zL,zM,zN]
     refine aN 9 (by kernel_rfl) rfl (fun K hK=>?_)
     go_simp
     have XJ:(fun w=>w.heap[W.heap.size+2]?=some (.cells #[(.slice la L.length lc),.int .i64 0,.int .i64 en,.int .i64 0,.int .i64 0,.int .i64 0] 57 (0,0))∧w.cell? ⟨g,off+k*3,none⟩=some (.int .i64 tk)∧w.cell? ⟨g,off+k*3+1,none⟩=some (.int .i64 tp)∧w.cell? ⟨g,off+k*3+2,none⟩=some (.string tx)) (wr.drew.alloc (.cells #[.int .i64 tk,.int .i64 tp,.string tx] 38)):=⟨bL hT.1 _,(World.cell?_alloc_lt _ _ _ VE).trans x1,(World.cell?_alloc_lt _ _ _ VE).trans x2,(World.cell?_alloc_lt _ _ _ VE).trans x3⟩
     refine hK _ _ ⟨fun _=>XJ,?_⟩
     clear hK K
     refine aN 10 (by kernel_rfl) rfl (fun K hK=>?_)
     have Z3:(World.drew (wr.alloc (.cells #[.int .i64 tk,.int .i64 tp,.string tx] 38))).heap.size=wr.heap.size+1:=zJ _ _
     have hrA:eS (W.heap.size+3) (wr.drew.alloc (.cells #[.int .i64 tk,.int .i64 tp,.string tx] 38)) (.slice la L.length lc) L:=eS.up (show eS (W.heap.size+3) wr.drew (.slice la L.length lc) L from aa Uk) ((zE _ _).alloc (zD _) _)
     refine dN rfl (.tmp 43) (.tmp 48) 36 rfl (W.heap.size+3) 38 k0 (.agg #[.int .i64 0,.int .i64 0,.string ⟨#[]⟩]) 3 32 Tryz.underlying36 rB Xr U8 Xq rfl (by decide) (.slice la L.length lc) L.length (cI L) (by first|rfl|simp[Act.eval]) hrA ⟨wr.heap.size,0,none⟩ 1 1 [.int .i64 tk,.int .i64 tp,.string tx] (by first|rfl|simp[Act.eval]) rfl (df _ _ _) (by simp[Value.oneCell']) (by unfold maxLen;omega) (by omega) (by rw[Z3];omega) ?_
     intro v7 w7 dx cc jd
     obtain ⟨a7,c7,rfl⟩:=bY dx
     have F4:∀q:Nat,q<W.heap.size+3→(Value.slice la L.length lc).ownBlock≠some q:=fun q hq e=>by have:=(World.ownsRow.lt hrA q e).1;omega
     have fK:(fun w=>w.heap[W.heap.size+2]?=some (.cells #[(.slice la L.length lc),.int .i64 0,.int .i64 en,.int .i64 0,.int .i64 0,.int .i64 0] 57 (0,0))∧w.cell? ⟨g,off+k*3,none⟩=some (.int .i64 tk)∧w.cell? ⟨g,off+k*3+1,none⟩=some (.int .i64 tp)∧w.cell? ⟨g,off+k*3+2,none⟩=some (.string tx)) w7:=⟨NO cc XJ.1 (F4 _ (by omega)),AM cc XJ.2.1 (F4 _ (by omega)) (by rw[Z3];omega),AM cc XJ.2.2.1 (F4 _ (by omega)) (by rw[Z3];omega),AM cc XJ.2.2.2 (F4 _ (by omega)) (by rw[Z3];omega)⟩
     have HW7:Hid (Below W.heap.size W w7∧w7.heap[W.heap.size]?=some (.cells #[.string ⟨#[]⟩,.slice none 0 0,.slice none 0 0,.slice none 0 0] 27 (0,0))∧w7.heap[W.heap.size+1]?=some (.cells #[.int .i64 0,.int .i64 0,.int .i64 0,.string ⟨#[]⟩] 30 (0,0))∧eS (W.heap.size+3) w7 (.slice a7 (L.length+1) c7) (L++[⟨tk,tp,tx⟩])):=by
      have hA:Below wr.heap.size wr (wr.drew.alloc (.cells #[.int .i64 tk,.int .i64 tp,.string tx] 38)):=(show Below wr.heap.size wr wr.drew from ⟨rfl,rfl,rfl,zD _,fun _ _=>rfl⟩).alloc (zD _) _
      refine ⟨((aa HT).b.trans (hA.mono (aa HT).b.size)).grown cc (by rw[zJ];show W.heap.size≤wr.heap.size+1;omega) (fun q e=>by have:=(World.ownsRow.lt hrA q e).1;omega),NO cc (bL (aa HT).r _) (F4 _ (by omega)),NO cc (bL (aa HT).f _) (F4 _ (by omega)),?_⟩
      unfold eS
      rw[zK,nh]
      exact dx
     refine hK _ _ ⟨fun _=>fK,?_⟩
     clear hK K dx cc jd XJ hrA F4 hT Z3
     simp only[Act.put,zL]
     have Cj:=(bE fK.1).1.1
     have B5:=(bE fK.1).2 0
     refine aN 11 (by kernel_rfl) rfl (fun K hK=>?_)
     go_simp
     refine hK _ _ ⟨fun _=>fK,?_⟩
     clear hK K
     refine aN 12 (by kernel_rfl) rfl (fun K hK=>?_)
     go_simp
     refine hK _ _ ⟨fun _=>fK,?_⟩
     clear hK K
     refine aN 13 (by kernel_rfl) rfl (fun K hK=>?_)
     go_simp
     refine hK _ _ ⟨fun q=>absurd rfl q,?_⟩
     clear hK K Cj B5
     refine cP (by kernel_rfl) ?_
     obtain ⟨s1,s2⟩:=aC (j:=0) fK.1 (.slice a7 (L.length+1) c7)
     have y1:(w7.setCell ⟨W.heap.size+2,0,none⟩ (.slice a7 (L.length+1) c7)).cell? ⟨g,off+k*3,none⟩=some (.int .i64 tk):=AM s2 fK.2.1 (by simp;omega) (World.block_lt_of_cell? _ _ fK.2.1)
     have y2:(w7.setCell ⟨W.heap.size+2,0,none⟩ (.slice a7 (L.length+1) c7)).cell? ⟨g,off+k*3+1,none⟩=some (.int .i64 tp):=AM s2 fK.2.2.1 (by simp;omega) (World.block_lt_of_cell? _ _ fK.2.2.1)
     have y3:(w7.setCell ⟨W.heap.size+2,0,none⟩ (.slice a7 (L.length+1) c7)).cell? ⟨g,off+k*3+2,none⟩=some (.string tx):=AM s2 fK.2.2.2 (by simp;omega) (World.block_lt_of_cell? _ _ fK.2.2.2)
     have HW8:Hid (Below W.heap.size W (w7.setCell ⟨W.heap.size+2,0,none⟩ (.slice a7 (L.length+1) c7))∧(w7.setCell ⟨W.heap.size+2,0,none⟩ (.slice a7 (L.length+1) c7)).heap[W.heap.size]?=some (.cells #[.string ⟨#[]⟩,.slice none 0 0,.slice none 0 0,.slice none 0 0] 27 (0,0))∧(w7.setCell ⟨W.heap.size+2,0,none⟩ (.slice a7 (L.length+1) c7)).heap[W.heap.size+1]?=some (.cells #[.int .i64 0,.int .i64 0,.int .i64 0,.string ⟨#[]⟩] 30 (0,0))∧eS (W.heap.size+3) (w7.setCell ⟨W.heap.size+2,0,none⟩ (.slice a7 (L.length+1) c7)) (.slice a7 (L.length+1) c7) (L++[⟨tk,tp,tx⟩])∧(w7.setCell ⟨W.heap.size+2,0,none⟩ (.slice a7 (L.length+1) c7)).heap[W.heap.size+2]?=some (.cells #[(.slice a7 (L.length+1) c7),.int .i64 0,.int .i64 en,.int .i64 0,.int .i64 0,.int .i64 0] 57 (0,0))):=by
      obtain ⟨q1,q2,q3,q4⟩:=aa HW7
      exact ⟨mN q1 s2 (by omega),ax s2 q2 (by omega),ax s2 q3 (by omega),q4.kept s2 (by
       by_cases e:(Value.slice a7 (L.length+1) c7).ownBlock=none
       ·exact .inl e
       ·exact .inr (fun e2=>by have:=(World.ownsRow.lt q4 _ e2).1;omega)),s1⟩
     obtain ⟨w8,hw8⟩:∃w8,w8=w7.setCell ⟨W.heap.size+2,0,none⟩ (.slice a7 (L.length+1) c7):=⟨_,rfl⟩
     rw[←hw8] at y1 y2 y3 HW8 ⊢
     clear hw8 s1 s2 fK HW7 S2 Uk HT x1 x2 x3
     go_upto_region 12 with fail
     have hT:(fun w=>w.heap[W.heap.size+2]?=some (.cells #[(.slice a7 (L.length+1) c7),.int .i64 0,.int .i64 en,.int .i64 0,.int .i64 0,.int .i64 0] 57 (0,0))∧w.cell? ⟨g,off+k*3,none⟩=some (.int .i64 tk)∧w.cell? ⟨g,off+k*3+1,none⟩=some (.int .i64 tp)∧w.cell? ⟨g,off+k*3+2,none⟩=some (.string tx)) w8.drew:=⟨(aa HW8).2.2.2.2,y1,y2,y3⟩
     refine wp_region_any (by kernel_rfl) (dr (z:=15) (T:=fun w=>w.heap[W.heap.size+2]?=some (.cells #[(.slice a7 (L.length+1) c7),.int .i64 0,.int .i64 en,.int .i64 0,.int .i64 0,.int .i64 0] 57 (0,0))∧w.cell? ⟨g,off+k*3,none⟩=some (.int .i64 tk)∧w.cell? ⟨g,off+k*3+1,none⟩=some (.int .i64 tp)∧w.cell? ⟨g,off+k*3+2,none⟩=some (.string tx)) _ _ _ _ ?_)
     try (change dI _ _ _ _ _ _ _ _ _ (World.drew _))
     refine aB 0 (.pointer (some ⟨W.heap.size+2,0,none⟩)) 52 rfl rfl (Or.inl ⟨by rfl,fun w hw=>by obtain ⟨eF,kl,iU,ie⟩:=hw;obtain ⟨⟨pA,pz,pS,pR,sZ,qE⟩,jA⟩:=bE eF;clear jA eF;go_simp⟩) hT ?_
     simp only[Act.put,zL,zM,zN]
     refine aB 1 (.slice (some ⟨g,off,none⟩) ts.length c) 53 rfl rfl (Or.inl ⟨by rfl,fun w hw=>by obtain ⟨eF,kl,iU,ie⟩:=hw;obtain ⟨⟨pA,pz,pS,pR,sZ,qE⟩,jA⟩:=bE eF;clear jA eF;go_simp⟩) hT ?_
     simp only[Act.put,zL,zM,zN]
     refine aB 2 (.int .i64 (k:Int)) 54 rfl rfl (Or.inl ⟨by rfl,fun w hw=>by obtain ⟨eF,kl,iU,ie⟩:=hw;obtain ⟨⟨pA,pz,pS,pR,sZ,qE⟩,jA⟩:=bE eF;clear jA eF;go_simp⟩) hT ?_
     simp only[Act.put,zL,zM,zN]
     refine aB 3 (.pointer (some ⟨g,off+k*3,none⟩)) 55 rfl rfl (Or.inl ⟨by rfl,fun w hw=>by obtain ⟨eF,kl,iU,ie⟩:=hw;obtain ⟨⟨pA,pz,pS,pR,sZ,qE⟩,jA⟩:=bE eF;clear jA eF;go_simp⟩) hT ?_
     simp only[Act.put,zL,zM,zN]
     refine aB 4 (.pointer (some ⟨g,off+k*3+1,none⟩)) 56 rfl rfl (Or.inl ⟨by rfl,fun w hw=>by obtain ⟨eF,kl,iU,ie⟩:=hw;obtain ⟨⟨pA,pz,pS,pR,sZ,qE⟩,jA⟩:=bE eF;clear jA eF;go_simp⟩) hT ?_
     simp only[Act.put,zL,zM,zN]
     refine aB 5 (.int .i64 tp) 57 rfl rfl (Or.inl ⟨by rfl,fun w hw=>by obtain ⟨eF,kl,iU,ie⟩:=hw;obtain ⟨⟨pA,pz,pS,pR,sZ,qE⟩,jA⟩:=bE eF;clear jA eF;go_simp⟩) hT ?_
     simp only[Act.put,zL,zM,zN]
     refine aB 6 (.slice (some ⟨g,off,none⟩) ts.length c) 58 rfl rfl (Or.inl ⟨by rfl,fun w hw=>by obtain ⟨eF,kl,iU,ie⟩:=hw;obtain ⟨⟨pA,pz,pS,pR,sZ,qE⟩,jA⟩:=bE eF;clear jA eF;go_simp⟩) hT ?_
     simp only[Act.put,zL,zM,zN]
     refine aB 7 (.int .i64 (k:Int)) 59 rfl rfl (Or.inl ⟨by rfl,fun w hw=>by obtain ⟨eF,kl,iU,ie⟩:=hw;obtain ⟨⟨pA,pz,pS,pR,sZ,qE⟩,jA⟩:=bE eF;clear jA eF;go_simp⟩) hT ?_
     simp only[Act.put,zL,zM,zN]
     refine aB 8 (.pointer (some ⟨g,off+k*3,none⟩)) 60 rfl rfl (Or.inl ⟨by rfl,fun w hw=>by obtain ⟨eF,kl,iU,ie⟩:=hw;obtain ⟨⟨pA,pz,pS,pR,sZ,qE⟩,jA⟩:=bE eF;clear jA eF;go_simp⟩) hT ?_
     simp only[Act.put,zL,zM,zN]
     refine aB 9 (.pointer (some ⟨g,off+k*3+2,none⟩)) 61 rfl rfl (Or.inl ⟨by rfl,fun w hw=>by obtain ⟨eF,kl,iU,ie⟩:=hw;obtain ⟨⟨pA,pz,pS,pR,sZ,qE⟩,jA⟩:=bE eF;clear jA eF;go_simp⟩) hT ?_
     simp only[Act.put,zL,zM,zN]
     refine aB 10 (.string tx) 62 rfl rfl (Or.inl ⟨by rfl,fun w hw=>by obtain ⟨eF,kl,iU,ie⟩:=hw;obtain ⟨⟨pA,pz,pS,pR,sZ,qE⟩,jA⟩:=bE eF;clear jA eF;go_simp⟩) hT ?_
     simp only[Act.put,zL,zM,zN]
     refine aB 11 (.int .i64 (tx.size:Int)) 63 rfl rfl (Or.inl ⟨by rfl,fun w hw=>by obtain ⟨eF,kl,iU,ie⟩:=hw;obtain ⟨⟨pA,pz,pS,pR,sZ,qE⟩,jA⟩:=bE eF;clear jA eF;go_simp⟩) hT ?_
     simp only[Act.put,zL,zM,zN]
     refine aB 12 (.int .i64 (wrap64 (tp+(tx.size:Int)))) 64 rfl rfl (Or.inl ⟨by rfl,fun w hw=>by obtain ⟨eF,kl,iU,ie⟩:=hw;obtain ⟨⟨pA,pz,pS,pR,sZ,qE⟩,jA⟩:=bE eF;clear jA eF;go_simp;rw[IntKind.wrap_i64];unfold wrap64;rfl⟩) hT ?_
     simp only[Act.put,zL,zM,zN]
     have Cj:=(bE hT.1).1.2.2.1
     have B5:=(bE hT.1).2 2
     refine aN 13 (by kernel_rfl) rfl (fun K hK=>?_)
     go_simp
     refine hK _ _ ⟨fun _=>hT,?_⟩
     clear hK K
     refine aN 14 (by kernel_rfl) rfl (fun K hK=>?_)
     go_simp
     refine hK _ _ ⟨fun _=>hT,?_⟩
     clear hK K
     refine aN 15 (by kernel_rfl) rfl (fun K hK=>?_)
     go_simp
     refine hK _ _ ⟨fun q=>absurd rfl q,?_⟩
     clear hK K Cj B5
     refine cP (by kernel_rfl) ?_
     obtain ⟨s1,s2⟩:=aC (j:=2) hT.1 (.int .i64 (wrap64 (tp+(tx.size:Int))))
     have lN:Hid (XY W ts (k+1) false (w8.drew.setCell ⟨W.heap.size+2,2,none⟩ (.int .i64 (wrap64 (tp+(tx.size:Int)))))):=by
      obtain ⟨q1,q2,q3,q4,_⟩:=aa HW8
      have hd:Below W.heap.size W w8.drew:=q1.trans ⟨rfl,rfl,rfl,zD _,fun _ _=>rfl⟩
      have q4':eS (W.heap.size+3) w8.drew (.slice a7 (L.length+1) c7) (L++[⟨tk,tp,tx⟩]):=q4
      refine ⟨mN hd s2 (by omega),ax s2 (show w8.drew.heap[W.heap.size]?=_ from q2) (by omega),ax s2 (show w8.drew.heap[W.heap.size+1]?=_ from q3) (by omega),a7,c7,L++[⟨tk,tp,tx⟩],_,?_,?_,(aa HS).more (aa E3) (aa HKN)⟩
      ·rw[zK];exact s1
      ·rw[zK]
       exact q4'.kept s2 (by
        by_cases e:(Value.slice a7 (L.length+1) c7).ownBlock=none
        ·exact .inl e
        ·exact .inr (fun e2=>by have:=(World.ownsRow.lt q4' _ e2).1;omega))
     clear s1 s2 hT HW8 y1 y2 y3
     go_wp2
     go_roundg (ts.length-(k+1))
     case measure=>have:=aa zu;omega
     case rel=>exact ⟨k+1,false,rfl,by go_num,rfl,lN⟩
   |false =>
    have hfe:q=true∨k=ts.length:=by
     have h1:=aa jx
     cases q with
     |true=>exact .inl rfl
     |false=>right;have h2:=(aa HT).p;obtain ⟨_,_,_,_,_,_,h3⟩:=h2;have:=h3.le;have:(decide (k<ts.length)&&!false)=false:=h1;simp at this;omega
    have HZ:=ab ((aa HT).zr hfe (aa CB) (by omega))
    have QA:Hid (N5 (cH ts)∧(cH ts).op=0):=by
     obtain ⟨_,_,_,_,_,_,h3⟩:=(aa HT).p
     obtain ⟨_,_,_,h4,h5⟩:=h3.fin hfe
     exact ⟨h5,h4⟩
    clear hfe jx
    go_wp2_with fail
    refine (QD (aa HZ) (aa QA).1 (aa QA).2).mono ?_
    rintro e w1 ⟨hg,hz,⟨pg,im,xm,xe⟩,⟨⟨fa,fc⟩,⟨oa,oc⟩,⟨ma,mc⟩,⟨ea,ec⟩,⟨ra,rc⟩,⟨ga,gc⟩,cm,ce⟩,rfl,hM,hv⟩
    unfold MV.Cv
    simp only
    have OA:Below W.heap.size W w1:=mN (aa HT).b hg (by omega)
    have Oc:w1.heap[W.heap.size]?=some (.cells #[.string ⟨#[]⟩,.slice none 0 0,.slice none 0 0,.slice none 0 0] 27 (0,0)):=ax hg (aa HT).r (by omega)
    have Qr:w1.heap[W.heap.size+1]?=some (.cells #[.int .i64 0,.int .i64 0,.int .i64 0,.string ⟨#[]⟩] 30 (0,0)):=ax hg (aa HT).f (by omega)
    have hwl:W.heap.size+2<wr.heap.size:=by have:=(aa HT).p;obtain ⟨_,_,_,_,h1,_⟩:=this;exact ib h1
    have Gb:Below W.heap.size W (w1.alloc (.cells #[.string pg,.slice oa im.length oc,.slice ma xm.length mc,.slice ea xe.length ec] 27)):=OA.alloc OA.size _
    have jK:=(hz.up ((zE _ _).alloc (zD _) (.cells #[.string pg,.slice oa im.length oc,.slice ma xm.length mc,.slice ea xe.length ec] 27))).1
    have AR:=bL Oc (.cells #[.string pg,.slice oa im.length oc,.slice ma xm.length mc,.slice ea xe.length ec] 27)
    have pq:=bL Qr (.cells #[.string pg,.slice oa im.length oc,.slice ma xm.length mc,.slice ea xe.length ec] 27)
    have lG:=aH w1 (.cells #[.string pg,.slice oa im.length oc,.slice ma xm.length mc,.slice ea xe.length ec] 27)
    have Oy:=hM.alloc (.cells #[.string pg,.slice oa im.length oc,.slice ma xm.length mc,.slice ea xe.length ec] 27)
    obtain ⟨w2,kl⟩:∃w2,w2=w1.alloc (.cells #[.string pg,.slice oa im.length oc,.slice ma xm.length mc,.slice ea xe.length ec] 27):=⟨_,rfl⟩
    have yO:W.heap.size+2<w1.heap.size:=by have:=hg.size;omega
    rw[←kl] at Gb Oy jK AR pq lG
    have jm:=ab Gb
    have xL:=ab Oy
    have zR:=ab AR
    have nB:=ab pq
    have wX:=ab lG
    have CJ:=ab jK
    have Lr:=ab kl
    obtain ⟨r,hr⟩:∃r,r=iB (cH ts):=⟨_,rfl⟩
    rw[←hr] at hv
    have WK:Hid (Zd wr.heap.size w2 (W.heap.size+2) (QP (aT r))):=by rw[hr];exact aa CJ
    have HF:Hid (jg ts=r):=by show _=_;unfold jg;rw[if_neg (aa HLG),hr]
    have HV:=ab hv
    clear OA Oc Qr Gb jK AR pq lG Oy kl hg hz hM hv hr CJ HZ HT QA
    go_upto_region 14 with fail
    rw[←aa Lr]
    obtain ⟨⟨xC,xB,xA,cr3⟩,dp⟩:=cC (aa zR)
    obtain ⟨⟨cf0,cf1,cf2,cf3⟩,ZO⟩:=cC (aa nB)
    have uu:=dp 0
    have ur:=dp 1
    have uq:=dp 2
    have fr3:=dp 3
    have ff0:=ZO 0
    have ff1:=ZO 1
    have ff2:=ZO 2
    have ff3:=ZO 3
    clear dp ZO
    cases r with
    |error y =>
     obtain ⟨KA,a9,n9,c9,i9,en9,ct9,Af,Y0⟩:=aa WK
     obtain ⟨⟨pA,pz,pS,pR,sZ,qE⟩,jA⟩:=bE Af
     have e0:(y.1 != 0)=true:=by simpa using Y0
     obtain ⟨q1,q2⟩:=nP (aa jm) (aa zR) (aa nB) (.string ⟨#[]⟩) (.slice none 0 0) (.slice none 0 0) (.slice none 0 0) (.int .i64 y.1) (.int .i64 0) (.int .i64 y.2) (.string ⟨#[]⟩)
     have Q1:=ab (I8 q1)
     have Q2:=ab (GR q2)
     unfold gN at Q1 Q2
     clear q1 q2 jA Af pA pz pS pR Y0 KA HV xL zR nB wX WK jm Lr
     go_upto_region 15 with fail
     go_region
     all_goals
      go_wp2
      refine mS rfl rfl rfl (aa Q1).1 (aa Q1).2.1 rfl rfl ?_
      rw[aa HF]
      exact ⟨rfl,aa Q2⟩
    |ok p =>
     obtain ⟨x0,s0⟩:=p
     obtain rfl:=aa HV x0 s0 rfl
     obtain ⟨KA,v9,TL,i9,Af,-⟩:=aa WK
     obtain ⟨⟨pA,pz,pS,pR,sZ,qE⟩,jA⟩:=bE Af
     obtain ⟨⟨cq0,cq1,cq2,cq3⟩,-⟩:=cC (aa wX)
     obtain ⟨q1,q2⟩:=nP (aa jm) (aa zR) (aa nB) (.string pg) (.slice oa im.length oc) (.slice ma xm.length mc) (.slice ea xe.length ec) (.int .i64 0) (.int .i64 0) (.int .i64 0) (.string ⟨#[]⟩)
     have HNF:=ab (YM (aa xL) (show W.heap.size+2≤wr.heap.size by omega) q1)
     have Q1:=ab q1
     have Q2:=ab q2
     unfold gN at HNF Q1 Q2
     have n1:W.heap.size≠w1.heap.size:=by omega
     have n2:W.heap.size+1≠w1.heap.size:=by omega
     clear jA Af pA pz pS pR qE KA HV xL zR nB wX WK jm Lr q1 q2
     go_wp2
     refine mS rfl rfl rfl (aa Q1).1 (aa Q1).2.1 rfl rfl ?_
     rw[aa HF]
     exact ⟨_,rfl,aa HNF,aa Q2⟩
end Go.Proofs.YtjophoclfccmcaaGreatDoor
