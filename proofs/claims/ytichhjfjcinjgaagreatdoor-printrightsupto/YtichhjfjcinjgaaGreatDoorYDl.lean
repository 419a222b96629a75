import Derived.Test.YtichhjfjcinjgaaGreatDoorM40
set_option maxHeartbeats 4000000
set_option maxRecDepth 100000
namespace Go.Proofs.YtichhjfjcinjgaaGreatDoor
open Go.RowKit
attribute [local go_sem ↓] Go.wp_at_zero Go.wp_at_succ
theorem rg_of {w:World}{b:Nat}{v0 v1:Value}{t:TypeId} (h:w.heap[b]?=some (.cells #[v0,v1] t (0,0))):w.cell? ⟨b,0,none⟩=some v0∧w.cell? ⟨b,1,none⟩=some v1:=⟨cell_of_row _ _ _ _ _ _ h,cell_of_row _ _ _ _ _ _ h⟩
theorem et {w:World}{b:Nat}{v0 v1 v2 v3 v4 v5:Value}{t:TypeId} (h:w.heap[b]?=some (.cells #[v0,v1,v2,v3,v4,v5] t (0,0))):w.cell? ⟨b,0,none⟩=some v0∧w.cell? ⟨b,1,none⟩=some v1∧w.cell? ⟨b,2,none⟩=some v2∧w.cell? ⟨b,3,none⟩=some v3∧w.cell? ⟨b,4,none⟩=some v4∧w.cell? ⟨b,5,none⟩=some v5 :=
 ⟨cell_of_row _ _ _ _ _ _ h,cell_of_row _ _ _ _ _ _ h,cell_of_row _ _ _ _ _ _ h,cell_of_row _ _ _ _ _ _ h,cell_of_row _ _ _ _ _ _ h,cell_of_row _ _ _ _ _ _ h⟩
theorem GY (W:World) {a b most:Int} (ha:-2147483648≤a∧a≤2147483647) (hb:-2147483648≤b∧b≤2147483647) :
  Calls Tryz.prog 100 #[.agg #[.int .i64 a,.int .i64 b],.int .i64 most] W fun e w=>e=.returned (.string (eM most (a,b)))∧Below W.heap.size W w:=by
 have kb:=aJ W (.cells #[.int .i64 a,.int .i64 b] 111)
 have aX:Below W.heap.size W (W.alloc (.cells #[.int .i64 a,.int .i64 b] 111)):=(zE _ _).alloc (zD _) _
 obtain ⟨V,hV⟩:∃V,W.alloc (.cells #[.int .i64 a,.int .i64 b] 111)=V:=⟨_,rfl⟩
 rw[hV] at kb aX
 obtain ⟨c0,c1⟩:=rg_of kb
 have HD:=al (fun w=>oI (n:=a) (by omega) (by omega) w)
 have HE:=al (fun w=>oI (n:=b) (by omega) (by omega) w)
 have za:=cU (n:=a) (by omega) (by omega)
 have zb:=cU (n:=b) (by omega) (by omega)
 have HB:=al aX
 have HK:=al kb
 unfold eM
 simp only
 clear ha hb kb aX
 by_cases h1:b=a
 ·subst h1
  rw[if_pos rfl]
  clear HE zb
  go_enter Tryz.func100,Tryz.ntmps100
  go_wp2_with fail
  refine (ab HD _).mono ?_
  rintro e w ⟨rfl,hb⟩
  have cS:=al ((ab HB).trans (hb.mono (ab HB).size))
  clear hb HB HD
  go_wp2
  go_ret
  exact ⟨rfl,ab cS⟩
 ·rw[if_neg h1]
  have e1:(a==b)=false:=beq_eq_false_iff_ne.2 (fun e=>h1 e.symm)
  by_cases h2:b=most
  ·subst h2
   rw[if_pos rfl]
   unfold uj
   have s7:(⟨#[32,116,111,32,109,97,120]⟩:ByteArray).size=7:=rfl
   clear h1 HE zb
   go_enter Tryz.func100,Tryz.ntmps100
   go_wp2_with fail
   refine (ab HD _).mono ?_
   rintro e w ⟨rfl,hb⟩
   have cS:=al ((ab HB).trans (hb.mono (ab HB).size))
   clear hb HB HD
   go_wp2
   go_ret
   exact ⟨rfl,ab cS⟩
  ·rw[if_neg h2]
   have e2:(b==most)=false:=beq_eq_false_iff_ne.2 h2
   clear h1 h2
   go_enter Tryz.func100,Tryz.ntmps100
   go_wp2_with fail
   refine wp_region_any (by kernel_rfl) (bL (z:=99) (T:=fun w'=>w'.heap[W.heap.size]?=some (.cells #[.int .i64 a,.int .i64 b] 111 (0,0))) _ _ _ _ ?_)
   try (change cd _ _ _ _ _ _ _ _ _ (World.drew _))
   have aX:Below W.heap.size W V.drew:=below_drewN (ab HB) 1
   have kb:V.drew.heap[W.heap.size]?=some (.cells #[.int .i64 a,.int .i64 b] 111 (0,0)):=ab HK
   obtain ⟨wd,nD⟩:∃x,V.drew=x:=⟨_,rfl⟩
   rw[nD] at aX kb ⊢
   clear HB HK nD c0 c1
   refine aw 0 (.pointer (some ⟨W.heap.size,0,none⟩)) 23 rfl rfl (Or.inl ⟨by rfl,fun w' hw=>by obtain ⟨x0,x1⟩:=rg_of hw;go_simp⟩) kb ?_
   simp only[Act.put,zL,zM,zN]
   refine aw 1 (.int .i64 a) 24 rfl rfl (Or.inl ⟨by rfl,fun w' hw=>by obtain ⟨x0,x1⟩:=rg_of hw;go_simp⟩) kb ?_
   simp only[Act.put,zL,zM,zN]
   refine aw 4 (.pointer (some ⟨W.heap.size,1,none⟩)) 27 rfl rfl (Or.inl ⟨by rfl,fun w' hw=>by obtain ⟨x0,x1⟩:=rg_of hw;go_simp⟩) kb ?_
   simp only[Act.put,zL,zM,zN]
   refine aw 5 (.int .i64 b) 28 rfl rfl (Or.inl ⟨by rfl,fun w' hw=>by obtain ⟨x0,x1⟩:=rg_of hw;go_simp⟩) kb ?_
   simp only[Act.put,zL,zM,zN]
   refine aF 2 (by kernel_rfl) rfl (fun K hK=>?_)
   refine aO 25 rfl rfl 59 (fun vs=>by kernel_rfl) #[.tmp 24] #[3] rfl #[.int .i64 a] (by first|rfl|simp[Act.eval]) (ab HD wd) ?_
   rintro e' w1 ⟨rfl,aS⟩
   have aX:=aX.trans (aS.mono aX.size)
   have kb:=(aS.block _ (zA kb).1).trans kb
   refine ⟨_,rfl,hK _ _ ⟨fun _=>kb,?_⟩⟩
   clear hK K aS
   simp only[Act.put,zL,zM,zN]
   have z3:(bJ a++nz).size≤100:=by rw[ByteArray.size_append];have:nz.size=4:=rfl;omega
   refine aw 3 (.string (bJ a++nz)) 26 rfl rfl (Or.inl ⟨by rfl,fun w' hw=>by unfold nz;go_simp;have:nz.size=4:=rfl;have:eZ.size=1:=rfl;have:gB.size=3:=rfl;have:bC.size=1:=rfl;try omega⟩) kb ?_
   simp only[Act.put,zL,zM,zN]
   refine aF 6 (by kernel_rfl) rfl (fun K hK=>?_)
   refine aO 29 rfl rfl 59 (fun vs=>by kernel_rfl) #[.tmp 28] #[3] rfl #[.int .i64 b] (by first|rfl|simp[Act.eval]) (ab HE w1) ?_
   rintro e' w2 ⟨rfl,aS⟩
   have aX:=aX.trans (aS.mono aX.size)
   have kb:=(aS.block _ (zA kb).1).trans kb
   refine ⟨_,rfl,hK _ _ ⟨fun _=>kb,?_⟩⟩
   clear hK K aS
   simp only[Act.put,zL,zM,zN]
   refine aw 7 (.string (bJ a++nz++bJ b)) 30 rfl rfl (Or.inl ⟨by rfl,fun w' hw=>by go_simp;have:nz.size=4:=rfl;have:eZ.size=1:=rfl;have:gB.size=3:=rfl;have:bC.size=1:=rfl;try omega⟩) kb ?_
   simp only[Act.put,zL,zM,zN]
   refine aw 8 (.string (bJ a++nz++bJ b)) 4 rfl rfl (Or.inl ⟨by rfl,fun w' hw=>by go_simp⟩) kb ?_
   simp only[Act.put,zL,zM,zN]
   refine a8 (by kernel_rfl) ?_
   have cS:=al aX
   clear aX kb HD HE
   go_wp2
   go_ret
   exact ⟨rfl,ab cS⟩
def jU (d:Fd):ByteArray:=qK d++eZ++d.name++gB++bJ d.num++bC
theorem kM (a b:ByteArray):aI (a++b)=aI a++aI b:=by simp[aI]
theorem j4 (n:Nat) (d:Fd):aY n [jU d]=bT n d:=by
 unfold aY bT aY jU
 simp[kM]
theorem BZ (W:World) (d:Fd) (hn:0≤d.num∧d.num≤2147483647) (hk:d.key.size≤255) (ht:d.ty.size≤255) (hm:d.name.size≤255) :
  Calls Tryz.prog 58 #[.agg d.cs.toArray] W fun e w=>e=.returned (.string (jU d))∧Below W.heap.size W w:=by
 obtain ⟨aQ,key,ty,nm,num,aE⟩:=d
 simp only at hn hk ht hm
 have kb:=aJ W (.cells #[.int .i64 aQ,.string key,.string ty,.string nm,.int .i64 num,.int .i64 aE] 42)
 have aX:Below W.heap.size W (W.alloc (.cells #[.int .i64 aQ,.string key,.string ty,.string nm,.int .i64 num,.int .i64 aE] 42)):=(zE _ _).alloc (zD _) _
 obtain ⟨V,hV⟩:∃V,W.alloc (.cells #[.int .i64 aQ,.string key,.string ty,.string nm,.int .i64 num,.int .i64 aE] 42)=V:=⟨_,rfl⟩
 rw[hV] at kb aX
 obtain ⟨c0,c1,c2,c3,c4,c5⟩:=et kb
 have HD:=al (fun w=>oI (n:=num) (by omega) (by omega) w)
 have zn:=cU (n:=num) (by omega) (by omega)
 have HB:=al aX
 have HK:=al kb
 unfold jU Fd.cs
 simp only
 obtain ⟨Y,hY⟩:∃Y,qK ⟨aQ,key,ty,nm,num,aE⟩=Y:=⟨_,rfl⟩
 rw[hY]
 have zY:Y.size≤600:=by rw[←hY];exact Nat.le_trans (tQ (d:=⟨aQ,key,ty,nm,num,aE⟩) hk ht) (by omega)
 have Tb:Hid (∀(t25:Value),True):=fun _=>trivial
 have HY:Hid (Y=if aQ=2 then KM++ty else if aQ=3 then KL++ty else if aQ=4 then KN++key++EO++ty++TH else ty):=hY.symm
 clear hn kb aX hY Tb
 by_cases h2:aQ=2
 ·have f2:(aQ==2)=true:=beq_iff_eq.2 h2
  have hv:(⟨#[111,112,116,105,111,110,97,108,32]⟩:ByteArray)++ty=Y:=by rw[ab HY,if_pos h2];rfl
  clear HY h2
  go_enter Tryz.func58,Tryz.ntmps58
  go_wp2_with fail
  refine wp_region_any (by kernel_rfl) (bL (z:=99) (T:=fun w'=>w'.heap[W.heap.size]?=some (.cells #[.int .i64 aQ,.string key,.string ty,.string nm,.int .i64 num,.int .i64 aE] 42 (0,0))) _ _ _ _ ?_)
  try (change cd _ _ _ _ _ _ _ _ _ (World.drew _))
  have aX:Below W.heap.size W V.drew:=below_drewN (ab HB) 1
  have kb:V.drew.heap[W.heap.size]?=some (.cells #[.int .i64 aQ,.string key,.string ty,.string nm,.int .i64 num,.int .i64 aE] 42 (0,0)):=ab HK
  obtain ⟨wd,nD⟩:∃x,V.drew=x:=⟨_,rfl⟩
  rw[nD] at aX kb ⊢
  clear HB HK nD c0 c1 c2 c3 c4 c5
  have y1:(Y++eZ).size≤700:=by rw[ByteArray.size_append];have:eZ.size=1:=rfl;omega
  have y2:(Y++eZ++nm).size≤1000:=by rw[ByteArray.size_append];omega
  have y3:(Y++eZ++nm++gB).size≤1100:=by rw[ByteArray.size_append];have:gB.size=3:=rfl;omega
  have y4:(Y++eZ++nm++gB++bJ num).size≤1200:=by rw[ByteArray.size_append];omega
  refine aw 0 (.string Y) 25 rfl rfl (Or.inl ⟨by rfl,fun w' hw=>by go_simp⟩) kb ?_
  simp only[Act.put,zL,zM,zN]
  refine aw 1 (.string (Y++eZ)) 26 rfl rfl (Or.inl ⟨by rfl,fun w' hw=>by unfold eZ;go_simp;have:nz.size=4:=rfl;have:eZ.size=1:=rfl;have:gB.size=3:=rfl;have:bC.size=1:=rfl;try omega⟩) kb ?_
  simp only[Act.put,zL,zM,zN]
  refine aw 2 (.pointer (some ⟨W.heap.size,3,none⟩)) 27 rfl rfl (Or.inl ⟨by rfl,fun w' hw=>by obtain ⟨x0,x1,x2,x3,x4,x5⟩:=et hw;go_simp⟩) kb ?_
  simp only[Act.put,zL,zM,zN]
  refine aw 3 (.string nm) 28 rfl rfl (Or.inl ⟨by rfl,fun w' hw=>by obtain ⟨x0,x1,x2,x3,x4,x5⟩:=et hw;go_simp⟩) kb ?_
  simp only[Act.put,zL,zM,zN]
  refine aw 4 (.string (Y++eZ++nm)) 29 rfl rfl (Or.inl ⟨by rfl,fun w' hw=>by go_simp;have:nz.size=4:=rfl;have:eZ.size=1:=rfl;have:gB.size=3:=rfl;have:bC.size=1:=rfl;try omega⟩) kb ?_
  simp only[Act.put,zL,zM,zN]
  refine aw 5 (.string (Y++eZ++nm++gB)) 30 rfl rfl (Or.inl ⟨by rfl,fun w' hw=>by unfold gB;go_simp;have:nz.size=4:=rfl;have:eZ.size=1:=rfl;have:gB.size=3:=rfl;have:bC.size=1:=rfl;try omega⟩) kb ?_
  simp only[Act.put,zL,zM,zN]
  refine aw 6 (.pointer (some ⟨W.heap.size,4,none⟩)) 31 rfl rfl (Or.inl ⟨by rfl,fun w' hw=>by obtain ⟨x0,x1,x2,x3,x4,x5⟩:=et hw;go_simp⟩) kb ?_
  simp only[Act.put,zL,zM,zN]
  refine aw 7 (.int .i64 num) 32 rfl rfl (Or.inl ⟨by rfl,fun w' hw=>by obtain ⟨x0,x1,x2,x3,x4,x5⟩:=et hw;go_simp⟩) kb ?_
  simp only[Act.put,zL,zM,zN]
  refine aF 8 (by kernel_rfl) rfl (fun K hK=>?_)
  refine aO 33 rfl rfl 59 (fun vs=>by kernel_rfl) #[.tmp 32] #[3] rfl #[.int .i64 num] (by first|rfl|simp[Act.eval]) (ab HD wd) ?_
  rintro e' w1 ⟨rfl,aS⟩
  have aX:=aX.trans (aS.mono aX.size)
  have kb:=(aS.block _ (zA kb).1).trans kb
  refine ⟨_,rfl,hK _ _ ⟨fun _=>kb,?_⟩⟩
  clear hK K aS
  simp only[Act.put,zL,zM,zN]
  refine aw 9 (.string (Y++eZ++nm++gB++bJ num)) 34 rfl rfl (Or.inl ⟨by rfl,fun w' hw=>by go_simp;have:nz.size=4:=rfl;have:eZ.size=1:=rfl;have:gB.size=3:=rfl;have:bC.size=1:=rfl;try omega⟩) kb ?_
  simp only[Act.put,zL,zM,zN]
  refine aw 10 (.string (Y++eZ++nm++gB++bJ num++bC)) 35 rfl rfl (Or.inl ⟨by rfl,fun w' hw=>by unfold bC;go_simp;have:nz.size=4:=rfl;have:eZ.size=1:=rfl;have:gB.size=3:=rfl;have:bC.size=1:=rfl;try omega⟩) kb ?_
  simp only[Act.put,zL,zM,zN]
  refine aw 11 (.string (Y++eZ++nm++gB++bJ num++bC)) 2 rfl rfl (Or.inl ⟨by rfl,fun w' hw=>by go_simp⟩) kb ?_
  simp only[Act.put,zL,zM,zN]
  refine a8 (by kernel_rfl) ?_
  have cS:=al aX
  clear aX kb HD
  go_wp2
  go_ret
  exact ⟨rfl,ab cS⟩
 ·have f2:(aQ==2)=false:=beq_eq_false_iff_ne.2 h2
  by_cases h3:aQ=3
  ·have f3:(aQ==3)=true:=beq_iff_eq.2 h3
   have hv:(⟨#[114,101,112,101,97,116,101,100,32]⟩:ByteArray)++ty=Y:=by rw[ab HY,if_neg h2,if_pos h3];rfl
   clear HY h2 h3
   go_enter Tryz.func58,Tryz.ntmps58
   go_wp2_with fail
   refine wp_region_any (by kernel_rfl) (bL (z:=99) (T:=fun w'=>w'.heap[W.heap.size]?=some (.cells #[.int .i64 aQ,.string key,.string ty,.string nm,.int .i64 num,.int .i64 aE] 42 (0,0))) _ _ _ _ ?_)
   try (change cd _ _ _ _ _ _ _ _ _ (World.drew _))
   have aX:Below W.heap.size W V.drew:=below_drewN (ab HB) 1
   have kb:V.drew.heap[W.heap.size]?=some (.cells #[.int .i64 aQ,.string key,.string ty,.string nm,.int .i64 num,.int .i64 aE] 42 (0,0)):=ab HK
   obtain ⟨wd,nD⟩:∃x,V.drew=x:=⟨_,rfl⟩
   rw[nD] at aX kb ⊢
   clear HB HK nD c0 c1 c2 c3 c4 c5
   have y1:(Y++eZ).size≤700:=by rw[ByteArray.size_append];have:eZ.size=1:=rfl;omega
   have y2:(Y++eZ++nm).size≤1000:=by rw[ByteArray.size_append];omega
   have y3:(Y++eZ++nm++gB).size≤1100:=by rw[ByteArray.size_append];have:gB.size=3:=rfl;omega
   have y4:(Y++eZ++nm++gB++bJ num).size≤1200:=by rw[ByteArray.size_append];omega
   refine aw 0 (.string Y) 25 rfl rfl (Or.inl ⟨by rfl,fun w' hw=>by go_simp⟩) kb ?_
   simp only[Act.put,zL,zM,zN]
   refine aw 1 (.string (Y++eZ)) 26 rfl rfl (Or.inl ⟨by rfl,fun w' hw=>by unfold eZ;go_simp;have:nz.size=4:=rfl;have:eZ.size=1:=rfl;have:gB.size=3:=rfl;have:bC.size=1:=rfl;try omega⟩) kb ?_
   simp only[Act.put,zL,zM,zN]
   refine aw 2 (.pointer (some ⟨W.heap.size,3,none⟩)) 27 rfl rfl (Or.inl ⟨by rfl,fun w' hw=>by obtain ⟨x0,x1,x2,x3,x4,x5⟩:=et hw;go_simp⟩) kb ?_
   simp only[Act.put,zL,zM,zN]
   refine aw 3 (.string nm) 28 rfl rfl (Or.inl ⟨by rfl,fun w' hw=>by obtain ⟨x0,x1,x2,x3,x4,x5⟩:=et hw;go_simp⟩) kb ?_
   simp only[Act.put,zL,zM,zN]
   refine aw 4 (.string (Y++eZ++nm)) 29 rfl rfl (Or.inl ⟨by rfl,fun w' hw=>by go_simp;have:nz.size=4:=rfl;have:eZ.size=1:=rfl;have:gB.size=3:=rfl;have:bC.size=1:=rfl;try omega⟩) kb ?_
   simp only[Act.put,zL,zM,zN]
   refine aw 5 (.string (Y++eZ++nm++gB)) 30 rfl rfl (Or.inl ⟨by rfl,fun w' hw=>by unfold gB;go_simp;have:nz.size=4:=rfl;have:eZ.size=1:=rfl;have:gB.size=3:=rfl;have:bC.size=1:=rfl;try omega⟩) kb ?_
   simp only[Act.put,zL,zM,zN]
   refine aw 6 (.pointer (some ⟨W.heap.size,4,none⟩)) 31 rfl rfl (Or.inl ⟨by rfl,fun w' hw=>by obtain ⟨x0,x1,x2,x3,x4,x5⟩:=et hw;go_simp⟩) kb ?_
   simp only[Act.put,zL,zM,zN]
   refine aw 7 (.int .i64 num) 32 rfl rfl (Or.inl ⟨by rfl,fun w' hw=>by obtain ⟨x0,x1,x2,x3,x4,x5⟩:=et hw;go_simp⟩) kb ?_
   simp only[Act.put,zL,zM,zN]
   refine aF 8 (by kernel_rfl) rfl (fun K hK=>?_)
   refine aO 33 rfl rfl 59 (fun vs=>by kernel_rfl) #[.tmp 32] #[3] rfl #[.int .i64 num] (by first|rfl|simp[Act.eval]) (ab HD wd) ?_
   rintro e' w1 ⟨rfl,aS⟩
   have aX:=aX.trans (aS.mono aX.size)
   have kb:=(aS.block _ (zA kb).1).trans kb
   refine ⟨_,rfl,hK _ _ ⟨fun _=>kb,?_⟩⟩
   clear hK K aS
   simp only[Act.put,zL,zM,zN]
   refine aw 9 (.string (Y++eZ++nm++gB++bJ num)) 34 rfl rfl (Or.inl ⟨by rfl,fun w' hw=>by go_simp;have:nz.size=4:=rfl;have:eZ.size=1:=rfl;have:gB.size=3:=rfl;have:bC.size=1:=rfl;try omega⟩) kb ?_
   simp only[Act.put,zL,zM,zN]
   refine aw 10 (.string (Y++eZ++nm++gB++bJ num++bC)) 35 rfl rfl (Or.inl ⟨by rfl,fun w' hw=>by unfold bC;go_simp;have:nz.size=4:=rfl;have:eZ.size=1:=rfl;have:gB.size=3:=rfl;have:bC.size=1:=rfl;try omega⟩) kb ?_
   simp only[Act.put,zL,zM,zN]
   refine aw 11 (.string (Y++eZ++nm++gB++bJ num++bC)) 2 rfl rfl (Or.inl ⟨by rfl,fun w' hw=>by go_simp⟩) kb ?_
   simp only[Act.put,zL,zM,zN]
   refine a8 (by kernel_rfl) ?_
   have cS:=al aX
   clear aX kb HD
   go_wp2
   go_ret
   exact ⟨rfl,ab cS⟩
  ·have f3:(aQ==3)=false:=beq_eq_false_iff_ne.2 h3
   by_cases h4:aQ=4
   ·have f4:(aQ==4)=true:=beq_iff_eq.2 h4
    have hv:(⟨#[109,97,112,60]⟩:ByteArray)++key++⟨#[44,32]⟩++ty++⟨#[62]⟩=Y:=by rw[ab HY,if_neg h2,if_neg h3,if_pos h4];rfl
    have u1:((⟨#[109,97,112,60]⟩:ByteArray)++key).size≤300:=by rw[ByteArray.size_append];have:(⟨#[109,97,112,60]⟩:ByteArray).size=4:=rfl;omega
    have u2:((⟨#[109,97,112,60]⟩:ByteArray)++key++⟨#[44,32]⟩).size≤310:=by rw[ByteArray.size_append];have:(⟨#[44,32]⟩:ByteArray).size=2:=rfl;omega
    have u3:((⟨#[109,97,112,60]⟩:ByteArray)++key++⟨#[44,32]⟩++ty).size≤600:=by rw[ByteArray.size_append];omega
    clear HY h2 h3 h4
    go_enter Tryz.func58,Tryz.ntmps58
    go_wp2_with fail
    refine wp_region_any (by kernel_rfl) (bL (z:=99) (T:=fun w'=>w'.heap[W.heap.size]?=some (.cells #[.int .i64 aQ,.string key,.string ty,.string nm,.int .i64 num,.int .i64 aE] 42 (0,0))) _ _ _ _ ?_)
    try (change cd _ _ _ _ _ _ _ _ _ (World.drew _))
    have aX:Below W.heap.size W V.drew:=below_drewN (ab HB) 1
    have kb:V.drew.heap[W.heap.size]?=some (.cells #[.int .i64 aQ,.string key,.string ty,.string nm,.int .i64 num,.int .i64 aE] 42 (0,0)):=ab HK
    obtain ⟨wd,nD⟩:∃x,V.drew=x:=⟨_,rfl⟩
    rw[nD] at aX kb ⊢
    clear HB HK nD c0 c1 c2 c3 c4 c5
    have y1:(Y++eZ).size≤700:=by rw[ByteArray.size_append];have:eZ.size=1:=rfl;omega
    have y2:(Y++eZ++nm).size≤1000:=by rw[ByteArray.size_append];omega
    have y3:(Y++eZ++nm++gB).size≤1100:=by rw[ByteArray.size_append];have:gB.size=3:=rfl;omega
    have y4:(Y++eZ++nm++gB++bJ num).size≤1200:=by rw[ByteArray.size_append];omega
    refine aw 0 (.string Y) 25 rfl rfl (Or.inl ⟨by rfl,fun w' hw=>by go_simp⟩) kb ?_
    simp only[Act.put,zL,zM,zN]
    refine aw 1 (.string (Y++eZ)) 26 rfl rfl (Or.inl ⟨by rfl,fun w' hw=>by unfold eZ;go_simp;have:nz.size=4:=rfl;have:eZ.size=1:=rfl;have:gB.size=3:=rfl;have:bC.size=1:=rfl;try omega⟩) kb ?_
    simp only[Act.put,zL,zM,zN]
    refine aw 2 (.pointer (some ⟨W.heap.size,3,none⟩)) 27 rfl rfl (Or.inl ⟨by rfl,fun w' hw=>by obtain ⟨x0,x1,x2,x3,x4,x5⟩:=et hw;go_simp⟩) kb ?_
    simp only[Act.put,zL,zM,zN]
    refine aw 3 (.string nm) 28 rfl rfl (Or.inl ⟨by rfl,fun w' hw=>by obtain ⟨x0,x1,x2,x3,x4,x5⟩:=et hw;go_simp⟩) kb ?_
    simp only[Act.put,zL,zM,zN]
    refine aw 4 (.string (Y++eZ++nm)) 29 rfl rfl (Or.inl ⟨by rfl,fun w' hw=>by go_simp;have:nz.size=4:=rfl;have:eZ.size=1:=rfl;have:gB.size=3:=rfl;have:bC.size=1:=rfl;try omega⟩) kb ?_
    simp only[Act.put,zL,zM,zN]
    refine aw 5 (.string (Y++eZ++nm++gB)) 30 rfl rfl (Or.inl ⟨by rfl,fun w' hw=>by unfold gB;go_simp;have:nz.size=4:=rfl;have:eZ.size=1:=rfl;have:gB.size=3:=rfl;have:bC.size=1:=rfl;try omega⟩) kb ?_
    simp only[Act.put,zL,zM,zN]
    refine aw 6 (.pointer (some ⟨W.heap.size,4,none⟩)) 31 rfl rfl (Or.inl ⟨by rfl,fun w' hw=>by obtain ⟨x0,x1,x2,x3,x4,x5⟩:=et hw;go_simp⟩) kb ?_
    simp only[Act.put,zL,zM,zN]
    refine aw 7 (.int .i64 num) 32 rfl rfl (Or.inl ⟨by rfl,fun w' hw=>by obtain ⟨x0,x1,x2,x3,x4,x5⟩:=et hw;go_simp⟩) kb ?_
    simp only[Act.put,zL,zM,zN]
    refine aF 8 (by kernel_rfl) rfl (fun K hK=>?_)
    refine aO 33 rfl rfl 59 (fun vs=>by kernel_rfl) #[.tmp 32] #[3] rfl #[.int .i64 num] (by first|rfl|simp[Act.eval]) (ab HD wd) ?_
    rintro e' w1 ⟨rfl,aS⟩
    have aX:=aX.trans (aS.mono aX.size)
    have kb:=(aS.block _ (zA kb).1).trans kb
    refine ⟨_,rfl,hK _ _ ⟨fun _=>kb,?_⟩⟩
    clear hK K aS
    simp only[Act.put,zL,zM,zN]
    refine aw 9 (.string (Y++eZ++nm++gB++bJ num)) 34 rfl rfl (Or.inl ⟨by rfl,fun w' hw=>by go_simp;have:nz.size=4:=rfl;have:eZ.size=1:=rfl;have:gB.size=3:=rfl;have:bC.size=1:=rfl;try omega⟩) kb ?_
    simp only[Act.put,zL,zM,zN]
    refine aw 10 (.string (Y++eZ++nm++gB++bJ num++bC)) 35 rfl rfl (Or.inl ⟨by rfl,fun w' hw=>by unfold bC;go_simp;have:nz.size=4:=rfl;have:eZ.size=1:=rfl;have:gB.size=3:=rfl;have:bC.size=1:=rfl;try omega⟩) kb ?_
    simp only[Act.put,zL,zM,zN]
    refine aw 11 (.string (Y++eZ++nm++gB++bJ num++bC)) 2 rfl rfl (Or.inl ⟨by rfl,fun w' hw=>by go_simp⟩) kb ?_
    simp only[Act.put,zL,zM,zN]
    refine a8 (by kernel_rfl) ?_
    have cS:=al aX
    clear aX kb HD
    go_wp2
    go_ret
    exact ⟨rfl,ab cS⟩
   ·have f4:(aQ==4)=false:=beq_eq_false_iff_ne.2 h4
    obtain rfl:Y=ty:=by rw[ab HY,if_neg h2,if_neg h3,if_neg h4]
    clear HY h2 h3 h4
    go_enter Tryz.func58,Tryz.ntmps58
    go_wp2_with fail
    refine wp_region_any (by kernel_rfl) (bL (z:=99) (T:=fun w'=>w'.heap[W.heap.size]?=some (.cells #[.int .i64 aQ,.string key,.string Y,.string nm,.int .i64 num,.int .i64 aE] 42 (0,0))) _ _ _ _ ?_)
    try (change cd _ _ _ _ _ _ _ _ _ (World.drew _))
    have aX:Below W.heap.size W V.drew:=below_drewN (ab HB) 1
    have kb:V.drew.heap[W.heap.size]?=some (.cells #[.int .i64 aQ,.string key,.string Y,.string nm,.int .i64 num,.int .i64 aE] 42 (0,0)):=ab HK
    obtain ⟨wd,nD⟩:∃x,V.drew=x:=⟨_,rfl⟩
    rw[nD] at aX kb ⊢
    clear HB HK nD c0 c1 c2 c3 c4 c5
    have y1:(Y++eZ).size≤700:=by rw[ByteArray.size_append];have:eZ.size=1:=rfl;omega
    have y2:(Y++eZ++nm).size≤1000:=by rw[ByteArray.size_append];omega
    have y3:(Y++eZ++nm++gB).size≤1100:=by rw[ByteArray.size_append];have:gB.size=3:=rfl;omega
    have y4:(Y++eZ++nm++gB++bJ num).size≤1200:=by rw[ByteArray.size_append];omega
    refine aw 0 (.string Y) 25 rfl rfl (Or.inl ⟨by rfl,fun w' hw=>by go_simp⟩) kb ?_
    simp only[Act.put,zL,zM,zN]
    refine aw 1 (.string (Y++eZ)) 26 rfl rfl (Or.inl ⟨by rfl,fun w' hw=>by unfold eZ;go_simp;have:nz.size=4:=rfl;have:eZ.size=1:=rfl;have:gB.size=3:=rfl;have:bC.size=1:=rfl;try omega⟩) kb ?_
    simp only[Act.put,zL,zM,zN]
    refine aw 2 (.pointer (some ⟨W.heap.size,3,none⟩)) 27 rfl rfl (Or.inl ⟨by rfl,fun w' hw=>by obtain ⟨x0,x1,x2,x3,x4,x5⟩:=et hw;go_simp⟩) kb ?_
    simp only[Act.put,zL,zM,zN]
    refine aw 3 (.string nm) 28 rfl rfl (Or.inl ⟨by rfl,fun w' hw=>by obtain ⟨x0,x1,x2,x3,x4,x5⟩:=et hw;go_simp⟩) kb ?_
    simp only[Act.put,zL,zM,zN]
    refine aw 4 (.string (Y++eZ++nm)) 29 rfl rfl (Or.inl ⟨by rfl,fun w' hw=>by go_simp;have:nz.size=4:=rfl;have:eZ.size=1:=rfl;have:gB.size=3:=rfl;have:bC.size=1:=rfl;try omega⟩) kb ?_
    simp only[Act.put,zL,zM,zN]
    refine aw 5 (.string (Y++eZ++nm++gB)) 30 rfl rfl (Or.inl ⟨by rfl,fun w' hw=>by unfold gB;go_simp;have:nz.size=4:=rfl;have:eZ.size=1:=rfl;have:gB.size=3:=rfl;have:bC.size=1:=rfl;try omega⟩) kb ?_
    simp only[Act.put,zL,zM,zN]
    refine aw 6 (.pointer (some ⟨W.heap.size,4,none⟩)) 31 rfl rfl (Or.inl ⟨by rfl,fun w' hw=>by obtain ⟨x0,x1,x2,x3,x4,x5⟩:=et hw;go_simp⟩) kb ?_
    simp only[Act.put,zL,zM,zN]
    refine aw 7 (.int .i64 num) 32 rfl rfl (Or.inl ⟨by rfl,fun w' hw=>by obtain ⟨x0,x1,x2,x3,x4,x5⟩:=et hw;go_simp⟩) kb ?_
    simp only[Act.put,zL,zM,zN]
    refine aF 8 (by kernel_rfl) rfl (fun K hK=>?_)
    refine aO 33 rfl rfl 59 (fun vs=>by kernel_rfl) #[.tmp 32] #[3] rfl #[.int .i64 num] (by first|rfl|simp[Act.eval]) (ab HD wd) ?_
    rintro e' w1 ⟨rfl,aS⟩
    have aX:=aX.trans (aS.mono aX.size)
    have kb:=(aS.block _ (zA kb).1).trans kb
    refine ⟨_,rfl,hK _ _ ⟨fun _=>kb,?_⟩⟩
    clear hK K aS
    simp only[Act.put,zL,zM,zN]
    refine aw 9 (.string (Y++eZ++nm++gB++bJ num)) 34 rfl rfl (Or.inl ⟨by rfl,fun w' hw=>by go_simp;have:nz.size=4:=rfl;have:eZ.size=1:=rfl;have:gB.size=3:=rfl;have:bC.size=1:=rfl;try omega⟩) kb ?_
    simp only[Act.put,zL,zM,zN]
    refine aw 10 (.string (Y++eZ++nm++gB++bJ num++bC)) 35 rfl rfl (Or.inl ⟨by rfl,fun w' hw=>by unfold bC;go_simp;have:nz.size=4:=rfl;have:eZ.size=1:=rfl;have:gB.size=3:=rfl;have:bC.size=1:=rfl;try omega⟩) kb ?_
    simp only[Act.put,zL,zM,zN]
    refine aw 11 (.string (Y++eZ++nm++gB++bJ num++bC)) 2 rfl rfl (Or.inl ⟨by rfl,fun w' hw=>by go_simp⟩) kb ?_
    simp only[Act.put,zL,zM,zN]
    refine a8 (by kernel_rfl) ?_
    have cS:=al aX
    clear aX kb HD
    go_wp2
    go_ret
    exact ⟨rfl,ab cS⟩
end Go.Proofs.YtichhjfjcinjgaaGreatDoor
