import Derived.Test.YtghioefalckgoaaGreatDoorYBc
set_option maxHeartbeats 4000000
set_option maxRecDepth 100000
namespace Go.Proofs.YtghioefalckgoaaGreatDoor
open Go.RowKit
attribute [local go_sem ↓] Go.wp_at_zero Go.wp_at_succ
theorem Fi (out:List (Int×Int)) (r:Int×Int):(dk out r).length≤out.length+1:=by
 unfold dk
 split
 ·rename_i p h
  split
  ·simp[List.length_dropLast]
  ·simp
 ·simp
theorem pV:∀(l out:List (Int×Int)),(l.foldl dk out).length≤out.length+l.length
 |[],out=>zD _
 |r::l,out=>by
  have h1:=pV l (dk out r)
  have h2:=Fi out r
  simp only[List.foldl_cons,List.length_cons]
  omega
theorem Jo {out:List (Int×Int)}{r:Int×Int} (h:∀p ∈ out,K7 p) (hr:K7 r):∀p ∈ dk out r,K7 p:=by
 intro p hp
 unfold dk at hp
 split at hp
 ·rename_i q hq
  have yO:=h q (List.mem_of_getLast? hq)
  split at hp
  ·rcases List.mem_append.1 hp with h1|h1
   ·exact h p (List.dropLast_subset _ h1)
   ·obtain rfl:p=(q.1,r.2):=by simpa using h1
    exact ⟨yO.1,hr.2⟩
  ·rcases List.mem_append.1 hp with h1|h1
   ·exact h p h1
   ·obtain rfl:p=r:=by simpa using h1
    exact hr
 ·rcases List.mem_append.1 hp with h1|h1
  ·exact h p h1
  ·obtain rfl:p=r:=by simpa using h1
   exact hr
theorem FK {l:List (Int×Int)}{i:Nat}{r:Int×Int} (h:l[i]?=some r):(l.take (i+1)).foldl dk []=dk ((l.take i).foldl dk []) r:=by
 obtain ⟨hi,rfl⟩:=zB h
 rw[List.take_succ_eq_append_getElem hi,List.foldl_append]
 rfl
structure GW (w0 wr:World) (v:Value) (gs:List (Int×Int)):Prop where
 row:wr.ownsRow w0.heap.size 83 2 v gs.length (eP gs)
 bh:Below w0.heap.size w0 wr
 inr:∀p ∈ gs,K7 p
theorem GW.up {w0 wr w:World}{v:Value}{gs:List (Int×Int)} (h:GW w0 wr v gs) (hb:Below wr.heap.size wr w):GW w0 w v gs:=⟨oK h.row hb,h.bh.trans (hb.mono h.bh.size),h.inr⟩
theorem oG (gs:List (Int×Int)) (r:Int×Int):eP (gs++[r])=eP gs++[.int .i64 r.1,.int .i64 r.2]:=by unfold eP;rw[List.flatMap_append];simp
theorem AN {w:World}{B n:Nat}{ua:Option Addr}{uc q:Nat}{gs:List (Int×Int)}{p:Int×Int} (h:w.ownsRow B 83 2 (.slice ua n uc) gs.length (eP gs)) (hq:gs.length=q+1) (hp:gs[q]?=some p) :
  ∃go,ua=some ⟨go,0,none⟩∧go<w.heap.size∧w.cell? ⟨go,q*2,none⟩=some (.int .i64 p.1)∧w.cell? ⟨go,q*2+1,none⟩=some (.int .i64 p.2):=by
 obtain ⟨h1,⟨_,h0⟩|⟨g,cap,cur,e,h2,h3,h4,h5,h6,h7⟩⟩:=h
 ·omega
 ·injection e with e1
  have at_:∀j x,(eP gs)[j]?=some x→w.cell? ⟨g,j,none⟩=some x:=fun j x hx=>by
   rw[cell_of_row _ _ _ _ _ _ h3,←Array.getElem?_toList]
   rw[←h7,List.getElem?_take] at hx
   split at hx
   ·exact hx
   ·cases hx
  exact ⟨g,e1,(zA h3).1,at_ _ _ (fN hp (j:=0) (by decide)),at_ _ _ (fN hp (j:=1) (by decide))⟩
theorem DZ {gs:List (Int×Int)}{q:Nat}{p:Int×Int} (hq:gs.length=q+1) (hp:gs[q]?=some p):gs=gs.take q++[p]:=by
 have h:=List.take_append_drop q gs
 have e:gs.drop q=[p]:=by
  rw[List.drop_eq_getElem_cons (by omega),List.drop_of_length_le (by omega)]
  obtain ⟨_,e⟩:=zB hp
  rw[e]
 rw[e] at h
 exact h.symm
theorem Jl {gs:List (Int×Int)}{r p:Int×Int}{q:Nat} (hq:gs.length=q+1) (hp:gs[q]?=some p) (h:¬r.1=p.2+1):dk gs r=gs++[r]:=by
 unfold dk
 rw[List.getLast?_eq_getElem?,hq,Nat.add_sub_cancel,hp]
 simp only[if_neg h]
theorem Jk {gs:List (Int×Int)}{r p:Int×Int}{q:Nat} (hq:gs.length=q+1) (hp:gs[q]?=some p) (h:r.1=p.2+1):dk gs r=gs.set q (p.1,r.2):=by
 unfold dk
 rw[List.getLast?_eq_getElem?,hq,Nat.add_sub_cancel,hp]
 simp only[if_pos h]
 have e:=DZ hq hp
 have hl:(gs.take q).length=q:=by rw[List.length_take];omega
 generalize gs.take q=ts at e hl
 subst e
 subst hl
 simp
theorem MB {w:World}{B n:Nat}{go uc q:Nat}{gs:List (Int×Int)}{p:Int×Int} (h:w.ownsRow B 83 2 (.slice (some ⟨go,0,none⟩) n uc) gs.length (eP gs)) (hq:gs.length=q+1) (hp:gs[q]?=some p) (x y:Int) :
  (B≤go∧w.frozen? ⟨go,q*2,none⟩=false∧w.frozen? ⟨go,q*2+1,none⟩=false)∧(w.cell? ⟨go,q*2,none⟩=some (.int .i64 p.1)∧w.cell? ⟨go,q*2+1,none⟩=some (.int .i64 p.2)) ∧
   (((w.setCell ⟨go,q*2,none⟩ (.int .i64 x)).setCell ⟨go,q*2+1,none⟩ (.int .i64 y)).ownsRow B 83 2 (.slice (some ⟨go,0,none⟩) n uc) (gs.set q (x,y)).length (eP (gs.set q (x,y))))∧w.grownBy ((w.setCell ⟨go,q*2,none⟩ (.int .i64 x)).setCell ⟨go,q*2+1,none⟩ (.int .i64 y)) (some go):=by
 obtain ⟨ga,e,-,QR,OT⟩:=AN h hq hp
 obtain rfl:go=ga:=by simpa using e
 have hh:=h.2
 obtain ⟨h0,_⟩|⟨g,cap,cur,e2,h2,h3,-⟩:=hh
 ·cases h0
 ·obtain ⟨rfl,rfl,rfl⟩:go=g∧n=gs.length∧uc=cap:=by simpa using e2
  obtain ⟨s1,g1⟩:=World.ownsRow.stored h (q*2) (.int .i64 x)
  obtain ⟨s2,g2⟩:=World.ownsRow.stored s1 (q*2+1) (.int .i64 y)
  refine ⟨⟨h2,by simp[World.frozen?,h3],by simp[World.frozen?,h3]⟩,⟨QR,OT⟩,?_,g1.trans g2⟩
  have e3:((eP gs).set (q*2) (.int .i64 x)).set (q*2+1) (.int .i64 y)=eP (gs.set q (x,y)):=by
   have e:=DZ hq hp
   have hl:(gs.take q).length=q:=by rw[List.length_take];omega
   generalize gs.take q=ts at e hl
   subst hl
   have e5:=yt ts
   rw[e,oG,List.set_append_right _ _ (zD ts.length),Nat.sub_self]
   show _=eP (ts++[(x,y)])
   rw[oG,←e5,List.set_append_right _ _ (zD _),Nat.sub_self,List.set_append_right _ _ (by omega),show (eP ts).length+1-(eP ts).length=1 by omega]
   rfl
  rw[←e3,List.length_set]
  exact s2
theorem AX {W:World}{v:Value}{l:List (Int×Int)} (hv:Rl W v l.length (eP l)) (hl:l.length≤4096) (hr:∀p ∈ l,K7 p) (w0:World) (hw:Below W.heap.size W w0) :
  Calls Tryz.prog 201 #[v,.func (.func 202) #[] #[]] w0 fun e w=>∃u,e=.returned u∧w.ownsRow w0.heap.size 83 2 u (l.foldl dk []).length (eP (l.foldl dk []))∧Below w0.heap.size w0 w:=by
 obtain ⟨a,c,rfl,hn,h2⟩:=hv
 obtain ⟨i0,hi,fX,gp,fJ⟩:=info_parts (SI.info .R)
 have H2:=ak h2
 have HW:=ak hw
 have HR:=ak hr
 have HJ:=fun W a b h=>ak (AI W a b h)
 clear h2 hw hr
 go_enter Tryz.func201,Tryz.ntmps201
 go_wp2
 go_loopg [5,7,8,9,10,13] l.length (fun gk v5 _ _ _ _ H' wr=>∃(i:Nat),H'=.int .i64 (i:Int)∧gk=l.length-i∧i≤l.length∧Hid (GW w0 wr v5 ((l.take i).foldl dk [])))
 case atStart=>exact ⟨0,rfl,rfl,by omega,⟨⟨rfl,.inl ⟨rfl,rfl⟩⟩,zE _ _,fun _ h=>by cases h⟩⟩
 case round =>
  obtain ⟨i,rfl,bd,fY,HO⟩:=hrel
  have bH:=ak bd
  clear bd
  by_cases aU:i<l.length
  ·obtain ⟨g,o,rfl,hg,hc⟩:=ab H2 (by omega)
   have oW:=List.getElem?_eq_getElem aU
   have bQ:=List.getElem_mem aU
   obtain ⟨r,hre⟩:∃r,l[i]=r:=⟨_,rfl⟩
   rw[hre] at oW bQ
   have dh:=ak (show Below W.heap.size W wr from (ab HW).trans ((ab HO).bh.mono (ab HW).size))
   have x0:=((ab dh).cell (p:=⟨g,o+(i*2+0),none⟩) hg).trans (hc _ _ (fN oW (j:=0) (by decide)))
   have x1:=((ab dh).cell (p:=⟨g,o+(i*2+1),none⟩) hg).trans (hc _ _ (fN oW (j:=1) (by decide)))
   rw[Nat.add_zero] at x0
   rw[←Nat.add_assoc] at x1
   have cy:=aE wr (.cells #[.int .i64 r.1,.int .i64 r.2] 83)
   have bq:Below wr.heap.size wr (wr.alloc (.cells #[.int .i64 r.1,.int .i64 r.2] 83)):=(zE _ _).alloc (zD _) _
   obtain ⟨V,hV⟩:∃V,wr.alloc (.cells #[.int .i64 r.1,.int .i64 r.2] 83)=V:=⟨_,rfl⟩
   rw[hV] at cy bq
   have b0:V.cell? ⟨wr.heap.size,0,none⟩=some (.int .i64 r.1):=cell_of_row _ _ _ _ _ _ cy
   have b1:V.cell? ⟨wr.heap.size,1,none⟩=some (.int .i64 r.2):=cell_of_row _ _ _ _ _ _ cy
   obtain ⟨gs,GM⟩:∃gs,(l.take i).foldl dk []=gs:=⟨_,rfl⟩
   have Pb:=FK oW
   rw[GM] at HO Pb
   have HN0:=ak cy
   have Gt:=ak ((ab HO).up bq)
   have HFT:=ak Pb
   have bn:=ak aU
   have Vx:gs.length≤i:=by rw[←GM];have:=pV (l.take i) [];rw[List.length_take] at this;simp at this;omega
   have Hgl:=ak Vx
   have Fo:(0:Int)≤(i:Int):=zH _
   have i1:(i:Int)<(l.length:Int):=by omega
   obtain ⟨ua,uc,hu⟩:=aN (ab Gt).row
   subst hu
   have HRi:=ak (ab HR r bQ)
   have Hgs:=ak GM
   clear hc oW bQ hre bq HO dh aU cy Pb GM
   have Vw:gs.length≤4096:=by omega
   by_cases GN:gs.length=0
   ·skip
    have w1:IntKind.i64.wrap ((0:Int)-1)=-1:=by decide
    have HX:Hid (GW w0 V (.slice ua 0 uc) gs):=by
     have h:=ab Gt
     rw[GN] at h
     exact h
    rw[GN]
    have Yy:=ak GN
    clear GN Gt
    go_upto_region 10 with fail
    go_wp2_with (at_builtin;refine wpList_append_own_at _ rfl _ _ 55 rfl w0.heap.size 83 i0 (SI.z .R) 2 (SI.by .R) Tryz.underlying55 hi fX gp fJ rfl (by decide) _ _ _ rfl ((ab HX).row.alloc _) ⟨V.heap.size,0,none⟩ 1 1 [.int .i64 r.1,.int .i64 r.2] rfl rfl (cD V [.int .i64 r.1,.int .i64 r.2] _) (by simp[Value.oneCell']) (by simp only[maxLen];omega) (by show (gs.length+1)*16≤_;omega) (by rw[zJ];have:=(ab HX).bh.size;omega) ?_;intro v' w2 ho cE _ _;have jj:=ak ho;have dF:=ak (((ab HX).bh.alloc (ab HX).bh.size _).grown cE (by rw[zJ];have:=(ab HX).bh.size;omega) (fun k e=>((ab HX).row.lt k e).1));clear ho cE)
    have HE:=ak (show dk gs r=gs++[r] from by rw[List.length_eq_zero_iff.1 (ab Yy)];rfl)
    have HN:Hid (GW w0 w2 v' ((l.take (i+1)).foldl dk [])):=by
     show GW _ _ _ _
     rw[ab HFT,ab HE]
     exact ⟨by have h:=ab jj;rw[show (gs++[r]).length=gs.length+1 by simp,oG];exact h,ab dF,fun p hp=>(List.mem_append.1 hp).elim ((ab HX).inr p) (fun h=>by obtain rfl:p=r:=(by simpa using h);exact ab HRi)⟩
    go_roundg (l.length-(i+1))
    case measure=>have:=ab bH;have:=ab bn;omega
    case rel=>exact ⟨i+1,by go_num,rfl,ab bn,HN⟩
   ·obtain ⟨q,hq⟩:∃q,gs.length=q+1:=⟨gs.length-1,by omega⟩
    rw[hq]
    have w1:IntKind.i64.wrap ((q+1:Nat):Int)=((q+1:Nat):Int):=by rw[IntKind.wrap_i64];omega
    have w2:IntKind.i64.wrap (((q+1:Nat):Int)-1)=(q:Int):=by rw[IntKind.wrap_i64];omega
    have w3:decide ((q:Int) ≥ 0)=true:=decide_eq_true (by omega)
    obtain ⟨p,hp⟩:∃p,gs[q]?=some p:=⟨_,List.getElem?_eq_getElem (by omega)⟩
    obtain ⟨go,rfl,hgo,QR,OT⟩:=AN (ab Gt).row hq hp
    have HPi:=ak ((ab Gt).inr p (List.mem_of_getElem? hp))
    have Hgo:=ak hgo
    have HY:=ak (And.intro QR OT)
    have PH:=ak (show wr.heap.size<V.heap.size by rw[←hV,zJ];omega)
    have Hp:=ak hp
    have Hq:=ak hq
    clear hp hgo QR OT hq
    have yN:q≤4096:=by have:=ab Hq;omega
    have a0:(0:Int)≤(q:Int):=zH _
    have a1:(q:Int)<((q+1:Nat):Int):=by omega
    go_upto_region 7 with fail
    go_cut [9,10] from 22 to 31 (fun v9 v10 wx=>∃bb:Nat,v9=.pointer (some ⟨bb,0,none⟩)∧v10=.bool (decide (r.1=p.2+1))∧Hid (wx.heap[bb]?=some (.cells #[.int .i64 p.1,.int .i64 r.2] 83 (0,0))∧V.heap.size≤bb∧Below V.heap.size V wx))
    case first =>
     refine wp_region_any (by kernel_rfl) (aV (z:=99) (T:=fun w:World=>Below V.heap.size V w) _ _ _ _ ?_)
     try (change ba _ _ _ _ _ _ _ _ _ (World.drew _))
     have hT:(fun w:World=>Below V.heap.size V w) V.drew:=(zE _ _).drew
     refine o4 (P:=fun w:World=>Below V.heap.size V w) (G:=fun w=>ba _ _ _ _ _ _ _ _ _ w) hT (fun wd hT=>?_)
     refine aw 0 (.func (.func 202) #[] #[]) 23 rfl rfl (Or.inl ⟨by rfl,fun w hw=>by go_simp⟩) hT ?_
     simp only[Act.put,zL,zM,zN]
     refine aw 1 (.slice (some ⟨go,0,none⟩) (q+1) uc) 24 rfl rfl (Or.inl ⟨by rfl,fun w hw=>by go_simp⟩) hT ?_
     simp only[Act.put,zL,zM,zN]
     refine aw 2 (.int .i64 (q:Int)) 25 rfl rfl (Or.inl ⟨by rfl,fun w hw=>by go_simp⟩) hT ?_
     simp only[Act.put,zL,zM,zN]
     refine aw 3 (.pointer (some ⟨go,q*2,none⟩)) 26 rfl rfl (Or.inl ⟨by rfl,fun w hw=>by go_simp;intro h;omega⟩) hT ?_
     simp only[Act.put,zL,zM,zN]
     refine aw 4 (.agg #[.int .i64 p.1,.int .i64 p.2]) 27 rfl rfl (Or.inl ⟨by rfl,fun w hw=>by have y0:=(hw.cell (p:=⟨go,q*2,none⟩) (ab Hgo)).trans (ab HY).1;have y1:=(hw.cell (p:=⟨go,q*2+1,none⟩) (ab Hgo)).trans (ab HY).2;go_simp⟩) hT ?_
     simp only[Act.put,zL,zM,zN]
     refine aw 5 (.agg #[.int .i64 r.1,.int .i64 r.2]) 28 rfl rfl (Or.inl ⟨by rfl,fun w hw=>by have y0:=(hw.cell (p:=⟨wr.heap.size,0,none⟩) (ab PH)).trans b0;have y1:=(hw.cell (p:=⟨wr.heap.size,1,none⟩) (ab PH)).trans b1;go_simp⟩) hT ?_
     simp only[Act.put,zL,zM,zN]
     refine eC 6 10 (by kernel_rfl) rfl rfl (fun K hK=>?_) (fun K hK=>?_)
     ·skip
      refine bX 29 23 rfl 202 #[] #[] (fun vs=>by kernel_rfl) #[.tmp 27,.tmp 28] _ rfl (by first|rfl|simp[Act.eval]) #[.agg #[.int .i64 p.1,.int .i64 p.2],.agg #[.int .i64 r.1,.int .i64 r.2]] (by first|rfl|simp[Act.eval]) (ab (HJ wd p r (ab HPi))) (by rfl) ?_
      rintro e w1 ⟨rfl,hb⟩
      have bL:(fun w:World=>Below V.heap.size V w) w1:=hT.trans (hb.mono hT.size)
      refine ⟨_,rfl,hK _ _ ⟨fun _=>bL,?_⟩⟩
      clear hK K hT hb
      have hT:=bL
      clear bL
      simp only[Act.put,zL,zM,zN]
      refine aw 7 (.tuple #[.agg #[.int .i64 p.1,.int .i64 r.2],.bool (decide (r.1=p.2+1))]) 22 rfl rfl (Or.inl ⟨by rfl,fun w hw=>by go_simp⟩) hT ?_
      simp only[Act.put,zL,zM,zN]
      refine aw 8 (.agg #[.int .i64 p.1,.int .i64 r.2]) 30 rfl rfl (Or.inl ⟨by rfl,fun w hw=>by go_simp⟩) hT ?_
      simp only[Act.put,zL,zM,zN]
      refine aw 9 (.bool (decide (r.1=p.2+1))) 31 rfl rfl (Or.inl ⟨by rfl,fun w hw=>by go_simp⟩) hT ?_
      simp only[Act.put,zL,zM,zN]
      refine aB 10 (by kernel_rfl) rfl (fun K hK=>?_)
      have dJ:V.heap.size≤w1.heap.size:=hT.size
      have kz:=aE w1 (.cells #[.int .i64 0,.int .i64 0] 83)
      have bL:(fun w:World=>Below V.heap.size V w) (w1.alloc (.cells #[.int .i64 0,.int .i64 0] 83)):=hT.alloc hT.size _
      go_simp
      refine hK _ _ ⟨fun _=>bL,?_⟩
      clear hK K hT
      have hT:=bL
      clear bL
      obtain ⟨w2,br⟩:∃z,w1.alloc (.cells #[.int .i64 0,.int .i64 0] 83)=z:=⟨_,rfl⟩
      rw[br] at kz hT ⊢
      skip
      refine aB 11 (by kernel_rfl) rfl (fun K hK=>?_)
      have z:∀j,w2.frozen? ⟨w1.heap.size,j,none⟩=false:=fun j=>by simp[World.frozen?,kz]
      have z0:=z 0
      have z1:=z 1
      clear z
      obtain ⟨q0,g0⟩:=aI (j:=0) kz (.int .i64 p.1)
      obtain ⟨q1,g1⟩:=aI (j:=1) q0 (.int .i64 r.2)
      have c0:w2.cell? ⟨w1.heap.size,0,none⟩=some (.int .i64 0):=cell_of_row _ _ _ _ _ _ kz
      have c1:w2.cell? ⟨w1.heap.size,1,none⟩=some (.int .i64 0):=cell_of_row _ _ _ _ _ _ kz
      have be:Below V.heap.size V ((w2.setCell ⟨w1.heap.size,0,none⟩ (.int .i64 p.1)).setCell ⟨w1.heap.size,1,none⟩ (.int .i64 r.2)):=hT.grown (g0.trans g1) hT.size (fun k e=>by obtain rfl:=zC e;exact dJ)
      have Q3:=ak q1
      have BE:=ak be
      have HBB:=ak dJ
      clear hT q0 q1 g0 g1 be kz dJ
      go_simp
      refine hK _ _ ⟨fun _=>ab BE,?_⟩
      clear hK K c0 c1 z0 z1
      have hT:=ab BE
      try simp only[Act.put,zL,zM,zN]
      refine aw 12 (.bool (decide (r.1=p.2+1))) 10 rfl rfl (Or.inl ⟨by rfl,fun w hw=>by go_simp⟩) hT ?_
      simp only[Act.put,zL,zM,zN]
      refine aQ (by kernel_rfl) ?_
      clear hT
      go_wp2
      go_meet
      exact ⟨_,rfl,rfl,⟨ab Q3,ab HBB,ab BE⟩⟩
     ·skip
      have dJ:V.heap.size≤wd.heap.size:=hT.size
      have kz:=aE wd (.cells #[.int .i64 0,.int .i64 0] 83)
      have bL:(fun w:World=>Below V.heap.size V w) (wd.alloc (.cells #[.int .i64 0,.int .i64 0] 83)):=hT.alloc hT.size _
      go_simp
      refine hK _ _ ⟨fun _=>bL,?_⟩
      clear hK K hT
      have hT:=bL
      clear bL
      obtain ⟨w1,bM⟩:∃z,wd.alloc (.cells #[.int .i64 0,.int .i64 0] 83)=z:=⟨_,rfl⟩
      rw[bM] at kz hT ⊢
      skip
      have kl:=(zA kz).1
      refine aB 6 (by kernel_rfl) rfl (fun K hK=>?_)
      refine bX 29 23 rfl 202 #[] #[] (fun vs=>by kernel_rfl) #[.tmp 27,.tmp 28] _ rfl (by first|rfl|simp[Act.eval]) #[.agg #[.int .i64 p.1,.int .i64 p.2],.agg #[.int .i64 r.1,.int .i64 r.2]] (by first|rfl|simp[Act.eval]) (ab (HJ w1 p r (ab HPi))) (by rfl) ?_
      rintro e w2 ⟨rfl,hb⟩
      have kz:=(hb.block _ kl).trans kz
      have bL:(fun w:World=>Below V.heap.size V w) w2:=hT.trans (hb.mono hT.size)
      refine ⟨_,rfl,hK _ _ ⟨fun _=>bL,?_⟩⟩
      clear hK K hT hb
      have hT:=bL
      clear bL
      simp only[Act.put,zL,zM,zN]
      refine aw 7 (.tuple #[.agg #[.int .i64 p.1,.int .i64 r.2],.bool (decide (r.1=p.2+1))]) 22 rfl rfl (Or.inl ⟨by rfl,fun w hw=>by go_simp⟩) hT ?_
      simp only[Act.put,zL,zM,zN]
      refine aw 8 (.agg #[.int .i64 p.1,.int .i64 r.2]) 30 rfl rfl (Or.inl ⟨by rfl,fun w hw=>by go_simp⟩) hT ?_
      simp only[Act.put,zL,zM,zN]
      refine aw 9 (.bool (decide (r.1=p.2+1))) 31 rfl rfl (Or.inl ⟨by rfl,fun w hw=>by go_simp⟩) hT ?_
      simp only[Act.put,zL,zM,zN]
      refine aB 11 (by kernel_rfl) rfl (fun K hK=>?_)
      have z:∀j,w2.frozen? ⟨wd.heap.size,j,none⟩=false:=fun j=>by simp[World.frozen?,kz]
      have z0:=z 0
      have z1:=z 1
      clear z
      obtain ⟨q0,g0⟩:=aI (j:=0) kz (.int .i64 p.1)
      obtain ⟨q1,g1⟩:=aI (j:=1) q0 (.int .i64 r.2)
      have c0:w2.cell? ⟨wd.heap.size,0,none⟩=some (.int .i64 0):=cell_of_row _ _ _ _ _ _ kz
      have c1:w2.cell? ⟨wd.heap.size,1,none⟩=some (.int .i64 0):=cell_of_row _ _ _ _ _ _ kz
      have be:Below V.heap.size V ((w2.setCell ⟨wd.heap.size,0,none⟩ (.int .i64 p.1)).setCell ⟨wd.heap.size,1,none⟩ (.int .i64 r.2)):=hT.grown (g0.trans g1) hT.size (fun k e=>by obtain rfl:=zC e;exact dJ)
      have Q3:=ak q1
      have BE:=ak be
      have HBB:=ak dJ
      clear hT q0 q1 g0 g1 be kz dJ
      go_simp
      refine hK _ _ ⟨fun _=>ab BE,?_⟩
      clear hK K c0 c1 z0 z1
      have hT:=ab BE
      try simp only[Act.put,zL,zM,zN]
      refine aw 12 (.bool (decide (r.1=p.2+1))) 10 rfl rfl (Or.inl ⟨by rfl,fun w hw=>by go_simp⟩) hT ?_
      simp only[Act.put,zL,zM,zN]
      refine aQ (by kernel_rfl) ?_
      clear hT
      go_wp2
      go_meet
      exact ⟨_,rfl,rfl,⟨ab Q3,ab HBB,ab BE⟩⟩
    case rest =>
     obtain ⟨bb,rfl,rfl,HZ⟩:=hcut
     have UT:=(ab HZ).1
     have d0:wc.cell? ⟨bb,0,none⟩=some (.int .i64 p.1):=cell_of_row _ _ _ _ _ _ UT
     have d1:wc.cell? ⟨bb,1,none⟩=some (.int .i64 r.2):=cell_of_row _ _ _ _ _ _ UT
     have e0:=((ab HZ).2.2.cell (p:=⟨wr.heap.size,0,none⟩) (ab PH)).trans b0
     have e1:=((ab HZ).2.2.cell (p:=⟨wr.heap.size,1,none⟩) (ab PH)).trans b1
     have HX:Hid (GW w0 wc (.slice (some ⟨go,0,none⟩) (q+1) uc) gs):=by
      have h:=(ab Gt).up (ab HZ).2.2
      rw[ab Hq] at h
      exact h
     clear UT b0 b1 Gt
     by_cases hj:r.1=p.2+1
     ·have CS:decide (r.1=p.2+1)=true:=decide_eq_true hj
      rw[CS]
      have gM:=MB (ab HX).row (ab Hq) (ab Hp) p.1 r.2
      obtain ⟨bM,br,cx,dD⟩:=gM
      have jj:=ak cx
      have dF:=ak ((ab HX).bh.grown dD (ab HX).bh.size (fun k e=>by obtain rfl:=zC e;exact bM.1))
      have f0:=bM.2.1
      have f1:=bM.2.2
      obtain ⟨y0,y1⟩:=br
      have HEJ:=ak (show dk gs r=gs.set q (p.1,r.2) from Jk (ab Hq) (ab Hp) hj)
      have HN:Hid (GW w0 ((wc.setCell ⟨go,q*2,none⟩ (.int .i64 p.1)).setCell ⟨go,q*2+1,none⟩ (.int .i64 r.2)) (.slice (some ⟨go,0,none⟩) (q+1) uc) ((l.take (i+1)).foldl dk [])):=by
       show GW _ _ _ _
       have h1:=ab HEJ
       rw[ab HFT]
       refine ⟨?_,ab dF,Jo (ab HX).inr (ab HRi)⟩
       rw[h1]
       exact ab jj
      clear hj CS bM cx dD hV jj dF
      go_wp2
      go_roundg (l.length-(i+1))
      case measure=>have:=ab bH;have:=ab bn;omega
      case rel=>exact ⟨i+1,by go_num,rfl,ab bn,HN⟩
     ·have CS:decide (r.1=p.2+1)=false:=decide_eq_false hj
      rw[CS]
      have HEJ:=ak (show dk gs r=gs++[r] from Jl (ab Hq) (ab Hp) hj)
      clear hj CS hV d0 d1
      go_upto_region 10 with fail
      go_wp2_with (at_builtin;refine wpList_append_own_at _ rfl _ _ 55 rfl w0.heap.size 83 i0 (SI.z .R) 2 (SI.by .R) Tryz.underlying55 hi fX gp fJ rfl (by decide) _ _ _ rfl ((ab HX).row.alloc _) ⟨wc.heap.size,0,none⟩ 1 1 [.int .i64 r.1,.int .i64 r.2] rfl rfl (cD wc [.int .i64 r.1,.int .i64 r.2] _) (by simp[Value.oneCell']) (by simp only[maxLen];omega) (by show (gs.length+1)*16≤_;omega) (by rw[zJ];have:=(ab HX).bh.size;omega) ?_;intro v' w2 ho cE _ _;have jj:=ak ho;have dF:=ak (((ab HX).bh.alloc (ab HX).bh.size _).grown cE (by rw[zJ];have:=(ab HX).bh.size;omega) (fun k e=>((ab HX).row.lt k e).1));clear ho cE)
      have HE:=ak (show dk gs r=gs++[r] from ab HEJ)
      have HN:Hid (GW w0 w2 v' ((l.take (i+1)).foldl dk [])):=by
       show GW _ _ _ _
       rw[ab HFT,ab HE]
       exact ⟨by have h:=ab jj;rw[show (gs++[r]).length=gs.length+1 by simp,oG];exact h,ab dF,fun p hp=>(List.mem_append.1 hp).elim ((ab HX).inr p) (fun h=>by obtain rfl:p=r:=(by simpa using h);exact ab HRi)⟩
      go_roundg (l.length-(i+1))
      case measure=>have:=ab bH;have:=ab bn;omega
      case rel=>exact ⟨i+1,by go_num,rfl,ab bn,HN⟩
  ·obtain rfl:i=l.length:=by omega
   have hO:=ab HO
   rw[List.take_length] at hO
   have jj:=ak hO
   clear hO
   go_wp2
   go_ret
   exact ⟨_,rfl,(ab jj).row,(ab jj).bh⟩
end Go.Proofs.YtghioefalckgoaaGreatDoor
