import Derived.Test.YtghioefalckgoaaGreatDoorM25
set_option maxHeartbeats 2000000
set_option maxRecDepth 100000
namespace Go.Proofs.YtghioefalckgoaaGreatDoor
open Go.RowKit
attribute [local go_sem ↓] Go.wp_at_zero Go.wp_at_succ
def ZT:ByteArray:=⟨#[32]⟩
def bY (n:Nat) (d:Fd):List Nat:=bK n [xj d,ZT,d.name,UA,j5 d.num,fM]
def Rg (w:World) (u:Value) (g:List Fd) (bb:Nat):Prop:=∃h c cur,u=.slice (some ⟨h,0,none⟩) g.length c∧w.heap[h]?=some (.cells cur 53 (0,0))∧cur.toList.take (g.length*6)=cC g∧h≠bb
theorem Rg.kp {w w':World}{u:Value}{g:List Fd}{bb:Nat} (h:Rg w u g bb) (hk:Kp bb w w'):Rg w' u g bb:=by
 obtain ⟨a,c,cur,h1,h2,h3,h4⟩:=h
 exact ⟨a,c,cur,h1,hk _ _ _ _ h4 h2 (by decide),h3,h4⟩
theorem xD {W w:World}{B bb dd ll qb qp:Nat}{L:List Nat}{n:Nat} (h:Pn W B bb dd L n w) (hP:gG W) {u:Value}{g:List Fd} (hq:w.heap[qb]?=some (.cells #[u] 54 (0,0))) (hp:w.heap[qp]?=some (.cells (dS bb dd ll) 101 (0,0))) (Tm:qp≠bb) (hg:Rg w u g bb)
  (Vx:g.length≤4096) (cE:∀d ∈ g,(0≤d.num∧d.num≤2147483647)∧d.key.size≤255∧d.ty.size≤255) (hl:L.length+(g.flatMap (bY n)).length≤1099511627776) :
  Calls Tryz.prog 158 #[.pointer (some ⟨qb,0,none⟩),.pointer (some ⟨qp,0,none⟩)] w (wu W B bb dd (L++g.flatMap (bY n)) n w):=by
 have q0:w.cell? ⟨qb,0,none⟩=some u:=cell_of_row _ _ _ _ _ _ hq
 obtain ⟨gh,gc,cur,rfl,CT,XV,Np⟩:=hg
 have SP:=ak h
 have Xh:=ak hp
 have YH:=ak CT
 have Hgt:=ak XV
 have Hgn:=ak Np
 have pt:=ak Tm
 have Hl:=ak hl
 have HdB:=ak cE
 have Lf:Hid (∀w,Below W.heap.size W w→gG w):=fun w h=>hP.up h
 unfold dS bF bN bJ at Xh
 clear h hp CT XV Np Tm hl cE hP hq
 go_enter Tryz.func158,Tryz.ntmps158
 go_wp2_with fail
 clear q0
 go_loopg [3,6] g.length (fun gk _ v6 wr=>∃(i:Nat),v6=.int .i64 (i:Int)∧gk=g.length-i∧i≤g.length∧Hid (Pn W B bb dd (L++(g.take i).flatMap (bY n)) n wr)∧Hid (Kp bb w wr))
 case atStart=>exact ⟨0,rfl,rfl,by omega,by rw[List.take_zero,List.flatMap_nil,List.append_nil];exact SP,Kp.refl _ _⟩
 case round =>
  obtain ⟨i,rfl,bd,hi,gH,jT⟩:=hrel
  have bH:=ak bd
  clear bd SP
  by_cases aU:i<g.length
  ·have hr:=List.getElem?_eq_getElem aU
   have bQ:=List.getElem_mem aU
   obtain ⟨r,oW⟩:∃r,g[i]=r:=⟨_,rfl⟩
   rw[oW] at hr bQ
   have Bf:=ab jT _ _ _ _ (ab Hgn) (ab YH) (by decide)
   have Rs:=ab jT _ _ _ _ (ab pt) (ab Xh) (by decide)
   have oZ:∀j,j<6→wr.cell? ⟨gh,i*6+j,none⟩=r.cs[j]?:=by
    intro j hj
    rw[cell_of_row _ _ _ _ _ _ Bf,←Array.getElem?_toList]
    have e1:=da hr hj
    rw[←ab Hgt,List.getElem?_take] at e1
    rw[if_pos (by omega)] at e1
    exact e1
   have gR:(g.take (i+1)).flatMap (bY n)=(g.take i).flatMap (bY n)++bY n r:=by
    obtain ⟨Nk,rfl⟩:=zB hr
    rw[List.take_succ_eq_append_getElem Nk,List.flatMap_append]
    simp
   have fR:(L++(g.take i).flatMap (bY n)).length+(bY n r).length≤1099511627776:=by
    have e2:g.flatMap (bY n)=(g.take (i+1)).flatMap (bY n)++(g.drop (i+1)).flatMap (bY n):=by rw[←List.flatMap_append,List.take_append_drop]
    have h1:=congrArg List.length e2
    rw[gR,zK,zK] at h1
    rw[zK]
    have:=ab Hl
    omega
   have nW:=ab HdB r bQ
   obtain ⟨aZ,key,ty,nm,num,aH⟩:=r
   unfold Fd.cs at oZ
   simp only at nW
   have x0:=oZ 0 (by decide)
   have x1:=oZ 1 (by decide)
   have x2:=oZ 2 (by decide)
   have x3:=oZ 3 (by decide)
   have x4:=oZ 4 (by decide)
   have x5:=oZ 5 (by decide)
   rw[Nat.add_zero] at x0
   simp only[List.getElem?_cons_zero,List.getElem?_cons_succ] at x0 x1 x2 x3 x4 x5
   obtain ⟨-,cy,bq⟩:=jH wr aZ num aH key ty nm
   obtain ⟨X,hX⟩:∃X,wr.alloc (.cells #[.int .i64 aZ,.string key,.string ty,.string nm,.int .i64 num,.int .i64 aH] 53)=X:=⟨_,rfl⟩
   rw[hX] at cy bq
   have BO:=(ab gH).below bq
   have jX:=(bq.block _ (zA Rs).1).trans Rs
   have hT:(fun w':World=>w'.cell? ⟨qp,0,none⟩=some (.func (.func 99) #[] #[.pointer (some ⟨bb,0,none⟩),.pointer (some ⟨dd,0,none⟩)])∧w'.cell? ⟨wr.heap.size,0,none⟩=some (.int .i64 aZ)∧w'.cell? ⟨wr.heap.size,1,none⟩=some (.string key)∧w'.cell? ⟨wr.heap.size,2,none⟩=some (.string ty)∧w'.cell? ⟨wr.heap.size,3,none⟩=some (.string nm)∧w'.cell? ⟨wr.heap.size,4,none⟩=some (.int .i64 num)∧w'.cell? ⟨wr.heap.size,5,none⟩=some (.int .i64 aH)) X.drew:=⟨cell_of_row _ _ _ _ _ _ (jX),cell_of_row _ _ _ _ _ _ (cy),cell_of_row _ _ _ _ _ _ (cy),cell_of_row _ _ _ _ _ _ (cy),cell_of_row _ _ _ _ _ _ (cy),cell_of_row _ _ _ _ _ _ (cy),cell_of_row _ _ _ _ _ _ (cy)⟩
   have i0:(0:Int)≤(i:Int):=zH _
   have i1:(i:Int)<(g.length:Int):=by omega
   have bn:=ak aU
   have uu:=ak jX
   have gI:=ak cy
   have BF:=ak (show Kp bb w X from (ab jT).trans (Kp.below bq))
   have YC:=ak (fun w'=>yg (W:=w') ⟨aZ,key,ty,nm,num,aH⟩ nW.2.1 nW.2.2)
   have TZ:=ak (fun w' (h:gG w')=>oR h num (by omega) (by omega))
   have pD:=ak fR
   have xa:=ak gR
   have BA:=ak (show wr.heap.size≠bb by have:=(ab gH).bi.lt.2;omega)
   obtain ⟨tt,GH⟩:∃t,xj ⟨aZ,key,ty,nm,num,aH⟩=t:=⟨_,rfl⟩
   obtain ⟨ti,hti⟩:∃t,j5 num=t:=⟨_,rfl⟩
   have Hft:Hid (bY n ⟨aZ,key,ty,nm,num,aH⟩=bK n [tt,⟨#[32]⟩,nm,⟨#[32,61,32]⟩,ti,⟨#[59]⟩]):=by unfold bY ZT UA fM;rw[GH];simp only;rw[hti];rfl
   rw[GH] at YC
   rw[hti] at TZ
   unfold Fd.cs at YC
   clear hr bQ oW gR fR cy jX aU oZ Bf Rs nW GH hti
   go_upto_region 3 with fail
   refine wp_region_any (by kernel_rfl) (aV (z:=99) (T:=fun w'=>w'.cell? ⟨qp,0,none⟩=some (.func (.func 99) #[] #[.pointer (some ⟨bb,0,none⟩),.pointer (some ⟨dd,0,none⟩)])∧w'.cell? ⟨wr.heap.size,0,none⟩=some (.int .i64 aZ)∧w'.cell? ⟨wr.heap.size,1,none⟩=some (.string key)∧w'.cell? ⟨wr.heap.size,2,none⟩=some (.string ty)∧w'.cell? ⟨wr.heap.size,3,none⟩=some (.string nm)∧w'.cell? ⟨wr.heap.size,4,none⟩=some (.int .i64 num)∧w'.cell? ⟨wr.heap.size,5,none⟩=some (.int .i64 aH)) _ _ _ _ ?_)
   try (change ba _ _ _ _ _ _ _ _ _ (World.drew _))
   refine aw 0 (.pointer (some ⟨qp,0,none⟩)) 10 rfl rfl (Or.inl ⟨by rfl,fun w' hw=>by obtain ⟨bZ,bM,br,cx,dD,dT,dN⟩:=hw;go_simp⟩) hT ?_
   simp only[Act.put,zL,zM,zN]
   refine aw 1 (.func (.func 99) #[] #[.pointer (some ⟨bb,0,none⟩),.pointer (some ⟨dd,0,none⟩)]) 11 rfl rfl (Or.inl ⟨by rfl,fun w' hw=>by obtain ⟨bZ,bM,br,cx,dD,dT,dN⟩:=hw;go_simp⟩) hT ?_
   simp only[Act.put,zL,zM,zN]
   refine aw 2 (.agg #[.int .i64 aZ,.string key,.string ty,.string nm,.int .i64 num,.int .i64 aH]) 12 rfl rfl (Or.inl ⟨by rfl,fun w' hw=>by obtain ⟨bZ,bM,br,cx,dD,dT,dN⟩:=hw;go_simp⟩) hT ?_
   simp only[Act.put,zL,zM,zN]
   refine aw 4 (.pointer (some ⟨wr.heap.size,3,none⟩)) 14 rfl rfl (Or.inl ⟨by rfl,fun w' hw=>by obtain ⟨bZ,bM,br,cx,dD,dT,dN⟩:=hw;go_simp⟩) hT ?_
   simp only[Act.put,zL,zM,zN]
   refine aw 5 (.string nm) 15 rfl rfl (Or.inl ⟨by rfl,fun w' hw=>by obtain ⟨bZ,bM,br,cx,dD,dT,dN⟩:=hw;go_simp⟩) hT ?_
   simp only[Act.put,zL,zM,zN]
   refine aw 6 (.pointer (some ⟨wr.heap.size,4,none⟩)) 16 rfl rfl (Or.inl ⟨by rfl,fun w' hw=>by obtain ⟨bZ,bM,br,cx,dD,dT,dN⟩:=hw;go_simp⟩) hT ?_
   simp only[Act.put,zL,zM,zN]
   refine aw 7 (.int .i64 num) 17 rfl rfl (Or.inl ⟨by rfl,fun w' hw=>by obtain ⟨bZ,bM,br,cx,dD,dT,dN⟩:=hw;go_simp⟩) hT ?_
   simp only[Act.put,zL,zM,zN]
   refine aB 3 (by kernel_rfl) rfl (fun K hK=>?_)
   refine aM 13 rfl rfl 159 (fun vs=>by kernel_rfl) #[.tmp 12] #[53] rfl #[.agg #[.int .i64 aZ,.string key,.string ty,.string nm,.int .i64 num,.int .i64 aH]] (by first|rfl|simp[Act.eval]) (ab YC X.drew) ?_
   rintro e' w3 ⟨rfl,cY⟩
   have cY:Below X.heap.size X w3:=⟨cY.os,cY.tape,cY.output,cY.size,cY.block⟩
   have qH:=BO.below cY
   have zT:(fun w':World=>w'.cell? ⟨qp,0,none⟩=some (.func (.func 99) #[] #[.pointer (some ⟨bb,0,none⟩),.pointer (some ⟨dd,0,none⟩)])∧w'.cell? ⟨wr.heap.size,0,none⟩=some (.int .i64 aZ)∧w'.cell? ⟨wr.heap.size,1,none⟩=some (.string key)∧w'.cell? ⟨wr.heap.size,2,none⟩=some (.string ty)∧w'.cell? ⟨wr.heap.size,3,none⟩=some (.string nm)∧w'.cell? ⟨wr.heap.size,4,none⟩=some (.int .i64 num)∧w'.cell? ⟨wr.heap.size,5,none⟩=some (.int .i64 aH)) w3:=⟨cell_of_row _ _ _ _ _ _ ((cY.block _ (zA (ab uu)).1).trans (ab uu)),cell_of_row _ _ _ _ _ _ ((cY.block _ (zA (ab gI)).1).trans (ab gI)),cell_of_row _ _ _ _ _ _ ((cY.block _ (zA (ab gI)).1).trans (ab gI)),cell_of_row _ _ _ _ _ _ ((cY.block _ (zA (ab gI)).1).trans (ab gI)),cell_of_row _ _ _ _ _ _ ((cY.block _ (zA (ab gI)).1).trans (ab gI)),cell_of_row _ _ _ _ _ _ ((cY.block _ (zA (ab gI)).1).trans (ab gI)),cell_of_row _ _ _ _ _ _ ((cY.block _ (zA (ab gI)).1).trans (ab gI))⟩
   refine ⟨_,rfl,hK _ _ ⟨fun _=>zT,?_⟩⟩
   clear hK K hT
   simp only[Act.put,zL,zM,zN]
   refine aB 8 (by kernel_rfl) rfl (fun K hK=>?_)
   refine aM 18 rfl rfl 160 (fun vs=>by kernel_rfl) #[.tmp 17] #[3] rfl #[.int .i64 num] (by first|rfl|simp[Act.eval]) (ab TZ w3 (ab Lf _ qH.bh)) ?_
   rintro e' w6 ⟨rfl,lr⟩
   have lr:Below X.heap.size X w6:=cY.trans (lr.mono cY.size)
   have Q0:=BO.below lr
   have LC:(fun w':World=>w'.cell? ⟨qp,0,none⟩=some (.func (.func 99) #[] #[.pointer (some ⟨bb,0,none⟩),.pointer (some ⟨dd,0,none⟩)])∧w'.cell? ⟨wr.heap.size,0,none⟩=some (.int .i64 aZ)∧w'.cell? ⟨wr.heap.size,1,none⟩=some (.string key)∧w'.cell? ⟨wr.heap.size,2,none⟩=some (.string ty)∧w'.cell? ⟨wr.heap.size,3,none⟩=some (.string nm)∧w'.cell? ⟨wr.heap.size,4,none⟩=some (.int .i64 num)∧w'.cell? ⟨wr.heap.size,5,none⟩=some (.int .i64 aH)) w6:=⟨cell_of_row _ _ _ _ _ _ ((lr.block _ (zA (ab uu)).1).trans (ab uu)),cell_of_row _ _ _ _ _ _ ((lr.block _ (zA (ab gI)).1).trans (ab gI)),cell_of_row _ _ _ _ _ _ ((lr.block _ (zA (ab gI)).1).trans (ab gI)),cell_of_row _ _ _ _ _ _ ((lr.block _ (zA (ab gI)).1).trans (ab gI)),cell_of_row _ _ _ _ _ _ ((lr.block _ (zA (ab gI)).1).trans (ab gI)),cell_of_row _ _ _ _ _ _ ((lr.block _ (zA (ab gI)).1).trans (ab gI)),cell_of_row _ _ _ _ _ _ ((lr.block _ (zA (ab gI)).1).trans (ab gI))⟩
   refine ⟨_,rfl,hK _ _ ⟨fun _=>LC,?_⟩⟩
   clear hK K zT qH cY
   simp only[Act.put,zL,zM,zN]
   have lb:Below w6.heap.size w6 (w6.alloc (.cells #[.string tt,.string ⟨#[32]⟩,.string nm,.string ⟨#[32,61,32]⟩,.string ti,.string ⟨#[59]⟩] 9)):=(zE _ _).alloc (zD _) _
   have vw:Kp bb X (w6.alloc (.cells #[.string tt,.string ⟨#[32]⟩,.string nm,.string ⟨#[32,61,32]⟩,.string ti,.string ⟨#[59]⟩] 9)):=(Kp.below lr).trans (Kp.below lb)
   have BS:(fun w':World=>w'.cell? ⟨qp,0,none⟩=some (.func (.func 99) #[] #[.pointer (some ⟨bb,0,none⟩),.pointer (some ⟨dd,0,none⟩)])∧w'.cell? ⟨wr.heap.size,0,none⟩=some (.int .i64 aZ)∧w'.cell? ⟨wr.heap.size,1,none⟩=some (.string key)∧w'.cell? ⟨wr.heap.size,2,none⟩=some (.string ty)∧w'.cell? ⟨wr.heap.size,3,none⟩=some (.string nm)∧w'.cell? ⟨wr.heap.size,4,none⟩=some (.int .i64 num)∧w'.cell? ⟨wr.heap.size,5,none⟩=some (.int .i64 aH)) (w6.alloc (.cells #[.string tt,.string ⟨#[32]⟩,.string nm,.string ⟨#[32,61,32]⟩,.string ti,.string ⟨#[59]⟩] 9)):=⟨cell_of_row _ _ _ _ _ _ (vw _ _ _ _ (ab pt) (ab uu) (by decide)),cell_of_row _ _ _ _ _ _ (vw _ _ _ _ (ab BA) (ab gI) (by decide)),cell_of_row _ _ _ _ _ _ (vw _ _ _ _ (ab BA) (ab gI) (by decide)),cell_of_row _ _ _ _ _ _ (vw _ _ _ _ (ab BA) (ab gI) (by decide)),cell_of_row _ _ _ _ _ _ (vw _ _ _ _ (ab BA) (ab gI) (by decide)),cell_of_row _ _ _ _ _ _ (vw _ _ _ _ (ab BA) (ab gI) (by decide)),cell_of_row _ _ _ _ _ _ (vw _ _ _ _ (ab BA) (ab gI) (by decide))⟩
   refine aB 9 (by kernel_rfl) rfl (fun K hK=>?_)
   go_simp
   refine hK _ _ ⟨fun _=>BS,?_⟩
   clear hK K
   refine aB 10 (by kernel_rfl) rfl (fun K hK=>?_)
   refine bX 20 11 rfl 99 #[] #[.pointer (some ⟨bb,0,none⟩),.pointer (some ⟨dd,0,none⟩)] (fun vs=>by kernel_rfl) #[.tmp 19] #[22] rfl (by first|rfl|simp[Act.eval]) #[.slice (some ⟨w6.heap.size,0,none⟩) 6 6,.pointer (some ⟨bb,0,none⟩),.pointer (some ⟨dd,0,none⟩)] (by first|rfl|simp[Act.eval]) (gQ (Q0.below lb) (lZ (ps:=[tt,⟨#[32]⟩,nm,⟨#[32,61,32]⟩,ti,⟨#[59]⟩]) (c:=6) rfl Q0.bi.lt.2) (by rw[←ab Hft];exact ab pD) (by simp)) (by rfl) ?_
   rintro e' w5 ⟨rfl,nk,vu⟩
   have iO:Kp bb X w5:=vw.trans vu
   have xd:=ak (show Pn W B bb dd (L++(g.take (i+1)).flatMap (bY n)) n w5 by rw[ab xa,←List.append_assoc,ab Hft];exact nk)
   have Dn:=ak ((ab BF).trans iO)
   have yT:(fun w':World=>w'.cell? ⟨qp,0,none⟩=some (.func (.func 99) #[] #[.pointer (some ⟨bb,0,none⟩),.pointer (some ⟨dd,0,none⟩)])∧w'.cell? ⟨wr.heap.size,0,none⟩=some (.int .i64 aZ)∧w'.cell? ⟨wr.heap.size,1,none⟩=some (.string key)∧w'.cell? ⟨wr.heap.size,2,none⟩=some (.string ty)∧w'.cell? ⟨wr.heap.size,3,none⟩=some (.string nm)∧w'.cell? ⟨wr.heap.size,4,none⟩=some (.int .i64 num)∧w'.cell? ⟨wr.heap.size,5,none⟩=some (.int .i64 aH)) w5:=⟨cell_of_row _ _ _ _ _ _ (iO _ _ _ _ (ab pt) (ab uu) (by decide)),cell_of_row _ _ _ _ _ _ (iO _ _ _ _ (ab BA) (ab gI) (by decide)),cell_of_row _ _ _ _ _ _ (iO _ _ _ _ (ab BA) (ab gI) (by decide)),cell_of_row _ _ _ _ _ _ (iO _ _ _ _ (ab BA) (ab gI) (by decide)),cell_of_row _ _ _ _ _ _ (iO _ _ _ _ (ab BA) (ab gI) (by decide)),cell_of_row _ _ _ _ _ _ (iO _ _ _ _ (ab BA) (ab gI) (by decide)),cell_of_row _ _ _ _ _ _ (iO _ _ _ _ (ab BA) (ab gI) (by decide))⟩
   refine ⟨_,rfl,hK _ _ ⟨fun _=>yT,?_⟩⟩
   clear hK K LC BS yT nk vu iO lr lb Q0 vw BO bq BF uu gI TZ YC pD xa Hft gH jT
   simp only[Act.put,zL,zM,zN]
   refine aQ (by kernel_rfl) ?_
   go_wp2
   go_roundg (g.length-(i+1))
   case measure=>have:=ab bH;have:=ab bn;omega
   case rel=>exact ⟨i+1,by go_num,rfl,ab bn,xd,Dn⟩
  ·obtain rfl:i=g.length:=by omega
   have yU:=ab gH
   rw[List.take_length] at yU
   have HE:=ak (show wu W B bb dd (L++g.flatMap (bY n)) n w (.returned (.tuple #[])) wr from ⟨rfl,yU,ab jT⟩)
   clear yU gH jT
   go_wp2
   refine bodyPost_ret (results_none rfl _ _ _) rfl ?_
   exact ab HE
def bE:ByteArray:=⟨#[109,101,115,115,97,103,101]⟩
def qB:ByteArray:=⟨#[101,110,117,109]⟩
def pN:ByteArray:=⟨#[111,110,101,111,102]⟩
def Ms.nm:Ms→ByteArray
 |.mk nm _ _ _ _ _ _=>nm
def eU (n:Nat) (a b:ByteArray) (I:List Nat):List Nat:=bK n [a,⟨#[32]⟩,b,⟨#[32,123]⟩]++I++bK n [⟨#[125]⟩]
def hI (n:Nat) (os:List ByteArray) (G:List Fd):List Nat:=match G with
 |[]=>[]
 |d::_=>if d.aH≠0 then eU n pN (os.getD (d.aH.toNat-1) ⟨#[]⟩) (G.flatMap (bY (n+1))) else G.flatMap (bY n)
noncomputable def zU (n:Nat) (e:En):List Nat:=eU n qB e.name (fx (n+1) e)
noncomputable def eB:Nat→Nat→Ms→List Nat
 |0,_,_=>[]
 |f+1,n,.mk _ fs os ms es rs gs=>lL n 536870911 rs gs++(ck fs).flatMap (hI n os)++(ms.flatMap (fun m=>eU n bE m.nm (eB f (n+1) m))++es.flatMap (zU n))
noncomputable def q7 (f n:Nat) (ms:List Ms) (es:List En):List Nat:=ms.flatMap (fun m=>eU n bE m.nm (eB f (n+1) m))++es.flatMap (zU n)
structure Oi (e:En):Prop where
 r1:e.res.length≤4096
 r2:∀r ∈ e.res,(-2147483648≤r.1∧r.1≤2147483647)∧(-2147483648≤r.2∧r.2≤2147483647)
 g1:e.gone.length≤4096
 g2:∀s ∈ e.gone,s.size≤1048576
 v2:∀v ∈ e.aW,-2147483648≤v.2∧v.2≤2147483647
def Pz:Nat→Ms→Prop
 |0,_=>False
 |f+1,.mk _ fs os ms es rs gs=>(fs.length≤4096∧rs.length≤4096∧gs.length≤4096)∧(∀d ∈ fs,((0≤d.num∧d.num≤2147483647)∧d.key.size≤255∧d.ty.size≤255)∧(d.aH≠0→1≤d.aH∧d.aH≤os.length))∧(∀r ∈ rs,(-2147483648≤r.1∧r.1≤2147483647)∧(-2147483648≤r.2∧r.2≤2147483647))∧(∀s ∈ gs,s.size≤1048576)∧(∀m ∈ ms,Pz f m)∧∀e ∈ es,Oi e
def Ok (f:Nat):Prop:=∀(W w:World) (B bb dd ll:Nat) (L:List Nat) (n:Nat) (m:Ms) vf vo vm ve vr vg nm fs os ms es rs gs cm ce,Pn W B bb dd L n w→gG W→jS W→W.heap.size≤dd→ll≠bb→ll≠dd→n+1+f≤500→w.heap[ll]?=some (.cells #[bF bb dd] 97 (0,0))→WH W m vf vo vm ve vr vg nm fs os ms es rs gs cm ce→Pz f m→L.length+(eB f n m).length≤1099511627776 →
 Calls Tryz.prog 108 #[.agg (dS bb dd ll),.agg #[.string nm,vf,vo,vm,ve,vr,vg]] w (wu W B bb dd (L++eB f n m) n w)
theorem MR {W w:World}{B bb dd ll pp dp:Nat}{L:List Nat}{n:Nat} (h:Pn W B bb dd L n w) (hP:gG W) (hF:jS W) {e:En}{vv vr vg:Value} (hv:Rl W vv e.aW.length (mR e.aW)) (hr:Rl W vr e.res.length (eP e.res)) (hg:Rl W vg e.gone.length (bj e.gone)) (ho:Oi e) (hp:w.heap[pp]?=some (.cells (dS bb dd ll) 101 (0,0))) (hd:w.heap[dp]?=some (.cells #[.string e.name,vv,vr,vg] 63 (0,0))) (hl:L.length+(fx n e).length≤1099511627776) :
  Calls Tryz.prog 109 #[.pointer (some ⟨pp,0,none⟩),.pointer (some ⟨dp,0,none⟩)] w (wu W B bb dd (L++fx n e) n w):=by
 have HC:=ak (B0 (ll:=ll) h hP hF hv hr hg ho.r1 ho.r2 ho.g1 ho.g2 ho.v2 hl)
 obtain ⟨c0,c1,c2,c3⟩:=RL hd
 unfold dS at hp HC
 have p0:w.cell? ⟨pp,0,none⟩=some (bF bb dd):=cell_of_row _ _ _ _ _ _ hp
 have p1:w.cell? ⟨pp,1,none⟩=some (bN ll dd):=cell_of_row _ _ _ _ _ _ hp
 have p2:w.cell? ⟨pp,2,none⟩=some (bJ bb):=cell_of_row _ _ _ _ _ _ hp
 unfold bF bN bJ at HC
 unfold bF at p0
 unfold bN at p1
 unfold bJ at p2
 clear h hP hF hv hr hg ho hp hd hl
 go_enter Tryz.func109,Tryz.ntmps109
 go_wp2_with fail
 refine (ab HC).mono ?_
 rintro e' w1 ⟨rfl,qI,rb⟩
 have HE:=ak (show wu W B bb dd (L++fx n e) n w (.returned (.tuple #[])) w1 from ⟨rfl,qI,rb⟩)
 clear qI rb HC
 go_wp2
 refine bodyPost_ret (results_none rfl _ _ _) rfl ?_
 exact ab HE
theorem MS {W w:World}{B bb dd ll pp mp n:Nat}{L:List Nat}{nm:ByteArray}{vf vo vm ve vr vg:Value} (hp:w.heap[pp]?=some (.cells (dS bb dd ll) 101 (0,0))) (hm:w.heap[mp]?=some (.cells #[.string nm,vf,vo,vm,ve,vr,vg] 57 (0,0)))
  (hc:Calls Tryz.prog 108 #[.agg (dS bb dd ll),.agg #[.string nm,vf,vo,vm,ve,vr,vg]] w (wu W B bb dd L n w)) :
  Calls Tryz.prog 107 #[.pointer (some ⟨pp,0,none⟩),.pointer (some ⟨mp,0,none⟩)] w (wu W B bb dd L n w):=by
 have HC:=ak hc
 have c0:w.cell? ⟨mp,0,none⟩=some (.string nm):=cell_of_row _ _ _ _ _ _ hm
 have c1:w.cell? ⟨mp,1,none⟩=some vf:=cell_of_row _ _ _ _ _ _ hm
 have c2:w.cell? ⟨mp,2,none⟩=some vo:=cell_of_row _ _ _ _ _ _ hm
 have c3:w.cell? ⟨mp,3,none⟩=some vm:=cell_of_row _ _ _ _ _ _ hm
 have c4:w.cell? ⟨mp,4,none⟩=some ve:=cell_of_row _ _ _ _ _ _ hm
 have c5:w.cell? ⟨mp,5,none⟩=some vr:=cell_of_row _ _ _ _ _ _ hm
 have c6:w.cell? ⟨mp,6,none⟩=some vg:=cell_of_row _ _ _ _ _ _ hm
 unfold dS at hp HC
 have p0:w.cell? ⟨pp,0,none⟩=some (bF bb dd):=cell_of_row _ _ _ _ _ _ hp
 have p1:w.cell? ⟨pp,1,none⟩=some (bN ll dd):=cell_of_row _ _ _ _ _ _ hp
 have p2:w.cell? ⟨pp,2,none⟩=some (bJ bb):=cell_of_row _ _ _ _ _ _ hp
 unfold bF bN bJ at HC
 unfold bF at p0
 unfold bN at p1
 unfold bJ at p2
 clear hp hm hc
 go_enter Tryz.func107,Tryz.ntmps107
 go_wp2_with fail
 refine (ab HC).mono ?_
 rintro e' w1 ⟨rfl,qI,rb⟩
 have HE:=ak (show wu W B bb dd L n w (.returned (.tuple #[])) w1 from ⟨rfl,qI,rb⟩)
 clear qI rb HC
 go_wp2
 refine bodyPost_ret (results_none rfl _ _ _) rfl ?_
 exact ab HE
theorem xI (f:Nat) (ih:Ok f) {W w:World}{B bb dd ll:Nat}{L:List Nat}{n:Nat} (h:Pn W B bb dd L n w) (hP:gG W) (hF:jS W) (hd:W.heap.size≤dd) (fa:ll≠bb) (vX:ll≠dd) (hn:n+2+f≤500) (fR:w.heap[ll]?=some (.cells #[bF bb dd] 97 (0,0))) {vm ve:Value}{ms:List Ms}{es:List En}{cm ce:List Value} (hm:Rl W vm ms.length cm) (eI:nS W cm ms) (he:Rl W ve es.length ce) (ep:qV W ce es)
  (O6:∀m ∈ ms,Pz f m) (Pf:∀e ∈ es,Oi e) (hl:L.length+(q7 f n ms es).length≤1099511627776) :
  Calls Tryz.prog 62 #[.agg (dS bb dd ll),vm,ve] w (wu W B bb dd (L++q7 f n ms es) n w):=by
 obtain ⟨am,cq,rfl,Vh,BN⟩:=hm
 obtain ⟨ae,cn,rfl,jN,xL⟩:=he
 have la:Below w.heap.size w (w.alloc (.cells (dS bb dd ll) 101)):=(zE _ _).alloc (zD _) _
 have k1:=aE w (.cells (dS bb dd ll) 101)
 have Q9:=h.bi.lt.2
 have hdl:=(zA h.dp).1
 obtain ⟨V,Ny⟩:∃V,w.alloc (.cells (dS bb dd ll) 101)=V:=⟨_,rfl⟩
 rw[Ny] at la k1
 have SP:=ak (h.below la)
 have HK0:=ak (Kp.refl bb V)
 have Xe:=ak k1
 have s9:=ak ((la.block _ (zA fR).1).trans fR)
 have Li:=ak (show Kp bb w V from Kp.below la)
 have pt:=ak (show w.heap.size≠bb by omega)
 have SC:=ak (show w.heap.size≠dd by omega)
 have aaQ:=ak BN
 have aaR:=ak xL
 have Hms:=ak eI
 have Hes:=ak ep
 have Hmo:=ak O6
 have Heo:=ak Pf
 have Hl:=ak hl
 have PK:=ak hP
 have HFF:=ak hF
 have Hd:=ak hd
 have GX:=ak fa
 have PF:=ak vX
 have Hn:=ak hn
 unfold dS bF bN bJ at Ny
 unfold dS bF bN bJ
 clear h hP hF hd fa vX hn fR BN xL eI ep O6 Pf hl la k1 Q9 hdl
 go_enter Tryz.func62,Tryz.ntmps62
 go_wp2_with fail
 clear Ny
 go_loopg [7,12] ms.length (fun gk _ v12 wr=>∃(i:Nat),v12=.int .i64 (i:Int)∧gk=ms.length-i∧i≤ms.length∧Hid (Pn W B bb dd (L++(ms.take i).flatMap (fun m=>eU n bE m.nm (eB f (n+1) m))) n wr)∧Hid (Kp bb V wr))
 case atStart=>exact ⟨0,rfl,rfl,by omega,by rw[List.take_zero,List.flatMap_nil,List.append_nil];exact SP,HK0⟩
 case round =>
  obtain ⟨i,rfl,bd,hi,gH,jT⟩:=hrel
  have bH:=ak bd
  clear bd SP HK0
  by_cases aU:i<ms.length
  ·obtain ⟨g,o,rfl,hg,hc⟩:=ab aaQ (by omega)
   have hr:=List.getElem?_eq_getElem aU
   have bQ:=List.getElem_mem aU
   obtain ⟨m,ma⟩:∃m,ms[i]=m:=⟨_,rfl⟩
   rw[ma] at hr bQ
   obtain ⟨vf,vo,vm,ve,vr,vg,nm,fs,os,UK,Wc,rs,gs,zV,Wo,gD,hV⟩:=(ab Hms).at i m hr
   have Q5:m.nm=nm:=by rw[hV.is];rfl
   obtain ⟨avf,cvf,rfl⟩:∃a c,vf=.slice a fs.length c:=(by obtain ⟨a,c,h,_⟩:=hV.hf;exact ⟨a,c,h⟩)
   obtain ⟨avo,cvo,rfl⟩:∃a c,vo=.slice a os.length c:=(by obtain ⟨a,c,h,_⟩:=hV.ho;exact ⟨a,c,h⟩)
   obtain ⟨avm,cvm,rfl⟩:∃a c,vm=.slice a UK.length c:=(by obtain ⟨a,c,h,_⟩:=hV.hm;exact ⟨a,c,h⟩)
   obtain ⟨ave,cve,rfl⟩:∃a c,ve=.slice a Wc.length c:=(by obtain ⟨a,c,h,_⟩:=hV.he;exact ⟨a,c,h⟩)
   obtain ⟨Sj,RU,rfl⟩:∃a c,vr=.slice a rs.length c:=(by obtain ⟨a,c,h,_⟩:=hV.hr;exact ⟨a,c,h⟩)
   obtain ⟨Sk,RW,rfl⟩:∃a c,vg=.slice a gs.length c:=(by obtain ⟨a,c,h,_⟩:=hV.hg;exact ⟨a,c,h⟩)
   have x0:=((ab gH).bh.cell (p:=⟨g,o+(i*7+0),none⟩) hg).trans (hc _ _ (show cm[i*7+0]?=_ from (by have e:=congrArg (fun t=>t[0]?) gD;simpa[List.getElem?_take,List.getElem?_drop] using e)))
   rw[Nat.add_zero] at x0
   have x1:=((ab gH).bh.cell (p:=⟨g,o+(i*7+1),none⟩) hg).trans (hc _ _ (show cm[i*7+1]?=_ from (by have e:=congrArg (fun t=>t[1]?) gD;simpa[List.getElem?_take,List.getElem?_drop] using e)))
   rw[←Nat.add_assoc] at x1
   have x2:=((ab gH).bh.cell (p:=⟨g,o+(i*7+2),none⟩) hg).trans (hc _ _ (show cm[i*7+2]?=_ from (by have e:=congrArg (fun t=>t[2]?) gD;simpa[List.getElem?_take,List.getElem?_drop] using e)))
   rw[←Nat.add_assoc] at x2
   have x3:=((ab gH).bh.cell (p:=⟨g,o+(i*7+3),none⟩) hg).trans (hc _ _ (show cm[i*7+3]?=_ from (by have e:=congrArg (fun t=>t[3]?) gD;simpa[List.getElem?_take,List.getElem?_drop] using e)))
   rw[←Nat.add_assoc] at x3
   have x4:=((ab gH).bh.cell (p:=⟨g,o+(i*7+4),none⟩) hg).trans (hc _ _ (show cm[i*7+4]?=_ from (by have e:=congrArg (fun t=>t[4]?) gD;simpa[List.getElem?_take,List.getElem?_drop] using e)))
   rw[←Nat.add_assoc] at x4
   have x5:=((ab gH).bh.cell (p:=⟨g,o+(i*7+5),none⟩) hg).trans (hc _ _ (show cm[i*7+5]?=_ from (by have e:=congrArg (fun t=>t[5]?) gD;simpa[List.getElem?_take,List.getElem?_drop] using e)))
   rw[←Nat.add_assoc] at x5
   have x6:=((ab gH).bh.cell (p:=⟨g,o+(i*7+6),none⟩) hg).trans (hc _ _ (show cm[i*7+6]?=_ from (by have e:=congrArg (fun t=>t[6]?) gD;simpa[List.getElem?_take,List.getElem?_drop] using e)))
   rw[←Nat.add_assoc] at x6
   have gR:(ms.take (i+1)).flatMap (fun m=>eU n bE m.nm (eB f (n+1) m))=(ms.take i).flatMap (fun m=>eU n bE m.nm (eB f (n+1) m))++(fun m=>eU n bE m.nm (eB f (n+1) m)) m:=by
    obtain ⟨Nk,rfl⟩:=zB hr
    rw[List.take_succ_eq_append_getElem Nk,List.flatMap_append]
    simp
   have hlen:(L++(ms.take i).flatMap (fun m=>eU n bE m.nm (eB f (n+1) m))).length+(eU n bE m.nm (eB f (n+1) m)).length≤1099511627776:=by
    have e2:ms.flatMap (fun m=>eU n bE m.nm (eB f (n+1) m))=(ms.take (i+1)).flatMap (fun m=>eU n bE m.nm (eB f (n+1) m))++(ms.drop (i+1)).flatMap (fun m=>eU n bE m.nm (eB f (n+1) m)):=by rw[←List.flatMap_append,List.take_append_drop]
    have h1:=congrArg List.length e2
    rw[gR,zK,zK] at h1
    have h2:=ab Hl
    unfold q7 at h2
    rw[zK] at h2
    simp only[zK] at h1 h2 ⊢
    omega
   have D8:(eU n bE m.nm (eB f (n+1) m)).length=(bK n [bE,⟨#[32]⟩,m.nm,⟨#[32,123]⟩]).length+(eB f (n+1) m).length+(bK n [⟨#[125]⟩]).length:=by
    unfold eU
    rw[zK,zK]
   have cy:=aE wr (.cells #[.string nm,.slice avf fs.length cvf,.slice avo os.length cvo,.slice avm UK.length cvm,.slice ave Wc.length cve,.slice Sj rs.length RU,.slice Sk gs.length RW] 57)
   have bq:Below wr.heap.size wr (wr.alloc (.cells #[.string nm,.slice avf fs.length cvf,.slice avo os.length cvo,.slice avm UK.length cvm,.slice ave Wc.length cve,.slice Sj rs.length RU,.slice Sk gs.length RW] 57)):=(zE _ _).alloc (zD _) _
   obtain ⟨X,hX⟩:∃X,wr.alloc (.cells #[.string nm,.slice avf fs.length cvf,.slice avo os.length cvo,.slice avm UK.length cvm,.slice ave Wc.length cve,.slice Sj rs.length RU,.slice Sk gs.length RW] 57)=X:=⟨_,rfl⟩
   rw[hX] at cy bq
   have BO:=(ab gH).below bq
   have Fw:=(ab jT).trans (Kp.below bq)
   have uu:=ak (Fw _ _ _ _ (ab pt) (ab Xe) (by decide))
   have TY:=ak (Fw _ _ _ _ (ab GX) (ab s9) (by decide))
   have gI:=ak cy
   have WL:=ak (show wr.heap.size≠bb by have:=(ab gH).bi.lt.2;omega)
   have WK:=ak (show wr.heap.size≠dd by have:=(zA (ab gH).dp).1;omega)
   have ql:=ak (D8 ▸ hlen)
   have p1:X.cell? ⟨w.heap.size,1,none⟩=some (.func (.func 103) #[] #[.pointer (some ⟨ll,0,none⟩),.pointer (some ⟨dd,0,none⟩)]):=cell_of_row _ _ _ _ _ _ (ab uu)
   have n0:X.cell? ⟨wr.heap.size,0,none⟩=some (.string nm):=cell_of_row _ _ _ _ _ _ cy
   have LN:=ak (qi (I:=(eB f (n+1) m)) (a:=bE) (b:=m.nm) (f:=⟨107,#[],#[.pointer (some ⟨w.heap.size,0,none⟩),.pointer (some ⟨wr.heap.size,0,none⟩)]⟩) BO (ab Hd) (by have:=ab Hn;omega) (ab TY) (ab GX) (ab PF) (fun vs w=>by kernel_rfl) (by have:=ab ql;omega) (fun w3 qH vl=>(MS (vl _ _ _ _ (ab pt) (ab SC) (ab uu) (by decide)) (vl _ _ _ _ (ab WL) (ab WK) (ab gI) (by decide)) (by
     have:=ih W w3 B bb dd ll _ (n+1) m _ _ _ _ _ _ nm fs os UK Wc rs gs zV Wo qH (ab PK) (ab HFF) (ab Hd) (ab GX) (ab PF) (by have:=ab Hn;omega) (vl _ _ _ _ (ab GX) (ab PF) (ab TY) (by decide)) hV (ab Hmo m bQ) (by have:=ab ql;rw[zK];omega)
     exact this))))
   have xa:=ak gR
   have Gq:Hid ((fun m=>eU n bE m.nm (eB f (n+1) m)) m=bK n [⟨#[109,101,115,115,97,103,101]⟩,⟨#[32]⟩,nm,⟨#[32,123]⟩]++(eB f (n+1) m)++bK n [⟨#[125]⟩]):=by show eU n bE m.nm (eB f (n+1) m)=_;unfold eU bE;rw[Q5]
   have BF:=ak Fw
   have i0:(0:Int)≤(i:Int):=zH _
   have i1:(i:Int)<(ms.length:Int):=by omega
   have bn:=ak aU
   unfold Fv.val bE at LN
   simp only at LN
   rw[Q5] at LN
   clear hc hr bQ ma gR hlen D8 cy bq BO Fw aU gD hV Q5
   go_wp2_with fail
   refine (ab LN).mono ?_
   rintro e' w5 ⟨rfl,nk,vu⟩
   have xd:=ak (show Pn W B bb dd (L++(ms.take (i+1)).flatMap (fun m=>eU n bE m.nm (eB f (n+1) m))) n w5 by rw[ab xa,ab Gq,←List.append_assoc];exact nk)
   have Dn:=ak ((ab BF).trans vu)
   clear nk vu LN gH jT BF xa Gq
   go_wp2
   go_roundg (ms.length-(i+1))
   case measure=>have:=ab bH;have:=ab bn;omega
   case rel=>exact ⟨i+1,by go_num,rfl,ab bn,xd,Dn⟩
  ·obtain rfl:i=ms.length:=by omega
   have yU:=ab gH
   rw[List.take_length] at yU
   have HPe:=ak yU
   have HKe:=ak (ab jT)
   clear yU gH jT bH
   go_wp2
   go_loopg [9,25] es.length (fun gk _ v25 wr=>∃(i:Nat),v25=.int .i64 (i:Int)∧gk=es.length-i∧i≤es.length∧Hid (Pn W B bb dd (L++ms.flatMap (fun m=>eU n bE m.nm (eB f (n+1) m))++(es.take i).flatMap (zU n)) n wr)∧Hid (Kp bb V wr))
   case atStart=>exact ⟨0,rfl,rfl,by omega,by rw[List.take_zero,List.flatMap_nil,List.append_nil];exact HPe,HKe⟩
   case round =>
    obtain ⟨i,rfl,bd,hi,gH,jT⟩:=hrel
    have bH:=ak bd
    clear bd HPe HKe
    by_cases aU:i<es.length
    ·obtain ⟨g,o,rfl,hg,hc⟩:=ab aaR (by omega)
     have hr:=List.getElem?_eq_getElem aU
     have bQ:=List.getElem_mem aU
     obtain ⟨m,ma⟩:∃m,es[i]=m:=⟨_,rfl⟩
     rw[ma] at hr bQ
     obtain ⟨vv,vr,vg,gD,UW,D2,D3⟩:=(ab Hes).at i m hr
     obtain ⟨avv,cvv,rfl⟩:∃a c,vv=.slice a m.aW.length c:=(by obtain ⟨a,c,h,_⟩:=UW;exact ⟨a,c,h⟩)
     obtain ⟨Sj,RU,rfl⟩:∃a c,vr=.slice a m.res.length c:=(by obtain ⟨a,c,h,_⟩:=D2;exact ⟨a,c,h⟩)
     obtain ⟨Sk,RW,rfl⟩:∃a c,vg=.slice a m.gone.length c:=(by obtain ⟨a,c,h,_⟩:=D3;exact ⟨a,c,h⟩)
     have x0:=((ab gH).bh.cell (p:=⟨g,o+(i*4+0),none⟩) hg).trans (hc _ _ (show ce[i*4+0]?=_ from (by have e:=congrArg (fun t=>t[0]?) gD;simpa[List.getElem?_take,List.getElem?_drop] using e)))
     rw[Nat.add_zero] at x0
     have x1:=((ab gH).bh.cell (p:=⟨g,o+(i*4+1),none⟩) hg).trans (hc _ _ (show ce[i*4+1]?=_ from (by have e:=congrArg (fun t=>t[1]?) gD;simpa[List.getElem?_take,List.getElem?_drop] using e)))
     rw[←Nat.add_assoc] at x1
     have x2:=((ab gH).bh.cell (p:=⟨g,o+(i*4+2),none⟩) hg).trans (hc _ _ (show ce[i*4+2]?=_ from (by have e:=congrArg (fun t=>t[2]?) gD;simpa[List.getElem?_take,List.getElem?_drop] using e)))
     rw[←Nat.add_assoc] at x2
     have x3:=((ab gH).bh.cell (p:=⟨g,o+(i*4+3),none⟩) hg).trans (hc _ _ (show ce[i*4+3]?=_ from (by have e:=congrArg (fun t=>t[3]?) gD;simpa[List.getElem?_take,List.getElem?_drop] using e)))
     rw[←Nat.add_assoc] at x3
     have gR:(es.take (i+1)).flatMap (zU n)=(es.take i).flatMap (zU n)++(zU n) m:=by
      obtain ⟨Nk,rfl⟩:=zB hr
      rw[List.take_succ_eq_append_getElem Nk,List.flatMap_append]
      simp
     have hlen:(L++ms.flatMap (fun m=>eU n bE m.nm (eB f (n+1) m))++(es.take i).flatMap (zU n)).length+(eU n qB m.name (fx (n+1) m)).length≤1099511627776:=by
      have e2:es.flatMap (zU n)=(es.take (i+1)).flatMap (zU n)++(es.drop (i+1)).flatMap (zU n):=by rw[←List.flatMap_append,List.take_append_drop]
      have h1:=congrArg List.length e2
      rw[gR,zK,zK] at h1
      have h2:=ab Hl
      unfold q7 at h2
      rw[zK] at h2
      simp only[zK] at h1 h2 ⊢
      have h3:(zU n m).length=(eU n qB m.name (fx (n+1) m)).length:=rfl
      omega
     have D8:(eU n qB m.name (fx (n+1) m)).length=(bK n [qB,⟨#[32]⟩,m.name,⟨#[32,123]⟩]).length+(fx (n+1) m).length+(bK n [⟨#[125]⟩]).length:=by
      unfold eU
      rw[zK,zK]
     have cy:=aE wr (.cells #[.string m.name,.slice avv m.aW.length cvv,.slice Sj m.res.length RU,.slice Sk m.gone.length RW] 63)
     have bq:Below wr.heap.size wr (wr.alloc (.cells #[.string m.name,.slice avv m.aW.length cvv,.slice Sj m.res.length RU,.slice Sk m.gone.length RW] 63)):=(zE _ _).alloc (zD _) _
     obtain ⟨X,hX⟩:∃X,wr.alloc (.cells #[.string m.name,.slice avv m.aW.length cvv,.slice Sj m.res.length RU,.slice Sk m.gone.length RW] 63)=X:=⟨_,rfl⟩
     rw[hX] at cy bq
     have BO:=(ab gH).below bq
     have Fw:=(ab jT).trans (Kp.below bq)
     have uu:=ak (Fw _ _ _ _ (ab pt) (ab Xe) (by decide))
     have TY:=ak (Fw _ _ _ _ (ab GX) (ab s9) (by decide))
     have gI:=ak cy
     have WL:=ak (show wr.heap.size≠bb by have:=(ab gH).bi.lt.2;omega)
     have WK:=ak (show wr.heap.size≠dd by have:=(zA (ab gH).dp).1;omega)
     have ql:=ak (D8 ▸ hlen)
     have p1:X.cell? ⟨w.heap.size,1,none⟩=some (.func (.func 103) #[] #[.pointer (some ⟨ll,0,none⟩),.pointer (some ⟨dd,0,none⟩)]):=cell_of_row _ _ _ _ _ _ (ab uu)
     have n0:X.cell? ⟨wr.heap.size,0,none⟩=some (.string m.name):=cell_of_row _ _ _ _ _ _ cy
     have LN:=ak (qi (I:=(fx (n+1) m)) (a:=qB) (b:=m.name) (f:=⟨109,#[],#[.pointer (some ⟨w.heap.size,0,none⟩),.pointer (some ⟨wr.heap.size,0,none⟩)]⟩) BO (ab Hd) (by have:=ab Hn;omega) (ab TY) (ab GX) (ab PF) (fun vs w=>by kernel_rfl) (by have:=ab ql;omega) (fun w3 qH vl=>(MR qH (ab PK) (ab HFF) UW D2 D3 (ab Heo m bQ) (vl _ _ _ _ (ab pt) (ab SC) (ab uu) (by decide)) (vl _ _ _ _ (ab WL) (ab WK) (ab gI) (by decide)) (by have:=ab ql;rw[zK];omega))))
     have xa:=ak gR
     have Gq:Hid ((zU n) m=bK n [⟨#[101,110,117,109]⟩,⟨#[32]⟩,m.name,⟨#[32,123]⟩]++(fx (n+1) m)++bK n [⟨#[125]⟩]):=rfl
     have BF:=ak Fw
     have i0:(0:Int)≤(i:Int):=zH _
     have i1:(i:Int)<(es.length:Int):=by omega
     have bn:=ak aU
     unfold Fv.val qB at LN
     simp only at LN
     clear hc hr bQ ma gR hlen D8 cy bq BO Fw aU gD UW D2 D3
     go_wp2_with fail
     refine (ab LN).mono ?_
     rintro e' w5 ⟨rfl,nk,vu⟩
     have xd:=ak (show Pn W B bb dd (L++ms.flatMap (fun m=>eU n bE m.nm (eB f (n+1) m))++(es.take (i+1)).flatMap (zU n)) n w5 by rw[ab xa,ab Gq,←List.append_assoc];exact nk)
     have Dn:=ak ((ab BF).trans vu)
     clear nk vu LN gH jT BF xa Gq
     go_wp2
     go_roundg (es.length-(i+1))
     case measure=>have:=ab bH;have:=ab bn;omega
     case rel=>exact ⟨i+1,by go_num,rfl,ab bn,xd,Dn⟩
    ·obtain rfl:i=es.length:=by omega
     have hP8:=ab gH
     rw[List.take_length,List.append_assoc] at hP8
     have HE:=ak (show wu W B bb dd (L++q7 f n ms es) n w (.returned (.tuple #[])) wr from ⟨rfl,hP8,(ab Li).trans (ab jT)⟩)
     clear hP8 gH jT
     go_wp2
     refine bodyPost_ret (results_none rfl _ _ _) rfl ?_
     exact ab HE
end Go.Proofs.YtghioefalckgoaaGreatDoor
