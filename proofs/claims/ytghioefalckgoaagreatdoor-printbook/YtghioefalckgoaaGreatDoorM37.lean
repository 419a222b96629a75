import Derived.Test.YtghioefalckgoaaGreatDoorQvS
set_option maxHeartbeats 2000000
set_option maxRecDepth 100000
namespace Go.Proofs.YtghioefalckgoaaGreatDoor
open Go.RowKit
attribute [local go_sem ↓] Go.wp_at_zero Go.wp_at_succ
theorem lU {W:World}{v:Value}{l:List (Int×Int)} (hv:Rl W v l.length (eP l)) (hl:l.length≤4096) (hr:∀p ∈ l,K7 p) (w0:World) (hw:Below W.heap.size W w0) :
  Calls Tryz.prog 128 #[v] w0 fun e w=>∃u,e=.returned u∧w.ownsRow w0.heap.size 83 2 u (iD l).length (eP (iD l))∧Below w0.heap.size w0 w:=by
 obtain ⟨l1,hD⟩:∃x,cR (fun a b=>GD a.2 b.2) l=x:=⟨_,rfl⟩
 obtain ⟨l2,kC⟩:∃x,cR (fun a b=>GD a.1 b.1) l1=x:=⟨_,rfl⟩
 have n1:l1.length=l.length:=by rw[←hD,bc]
 have n2:l2.length=l.length:=by rw[←kC,bc,n1]
 have m2:∀p ∈ l2,K7 p:=fun p hp=>by
  rw[←kC] at hp
  have h1:=(du _ _ _).1 hp
  rw[←hD] at h1
  exact hr p ((du _ _ _).1 h1)
 have e2:iD l=l2.foldl dk []:=by unfold iD;rw[hD,kC]
 rw[e2]
 have HE:Hid (Calls Tryz.prog 198 #[v,.func (.func 199) #[] #[]] w0 fun e w=>∃u,e=.returned u∧w.ownsRow w0.heap.size 83 2 u l1.length (eP l1)∧Below w0.heap.size w0 w):=by
  have h:=mV hv hl (.I UM) (.inr rfl) 199 (fun vs w=>by kernel_rfl) (fun p w=>AH w p) w0 hw
  show Calls _ _ _ _ _
  rw[n1,←hD]
  exact h
 have HF:Hid (∀(w1:World) (u:Value),w1.ownsRow w0.heap.size 83 2 u l1.length (eP l1)→Calls Tryz.prog 198 #[u,.func (.func 200) #[] #[]] w1 fun e w=>∃u,e=.returned u∧w.ownsRow w1.heap.size 83 2 u l2.length (eP l2)∧Below w1.heap.size w1 w):=by
  intro w1 u hu
  have h:=mV (kj hu (by omega)) (by omega) (.I UN) (.inl rfl) 200 (fun vs w=>by kernel_rfl) (fun p w=>AG w p) w1 (zE _ _)
  rw[show l2.length=l1.length by omega,←kC]
  exact h
 have HG:Hid (∀(w1:World) (u:Value) (B:Nat),w1.ownsRow B 83 2 u l2.length (eP l2)→Calls Tryz.prog 201 #[u,.func (.func 202) #[] #[]] w1 fun e w=>∃u,e=.returned u∧w.ownsRow w1.heap.size 83 2 u (l2.foldl dk []).length (eP (l2.foldl dk []))∧Below w1.heap.size w1 w) :=
  fun w1 u B hu=>AX (kj hu (by omega)) (by omega) m2 w1 (zE _ _)
 obtain ⟨a,c,rfl,-,-⟩:=hv
 clear hD kC n1 n2 m2 e2 hr hw hl
 go_enter Tryz.func128,Tryz.ntmps128
 go_wp2_with fail
 refine (ab HE).mono ?_
 rintro e w1 ⟨u,rfl,ho,hb⟩
 have HK:=ak (ab HF w1 u ho)
 obtain ⟨a1,n1,c1,rfl⟩:=fP ho
 have HB:=ak hb
 clear ho hb HF HE
 go_wp2_with fail
 refine (ab HK).mono ?_
 rintro e w2 ⟨u,rfl,ho,hb⟩
 have jT:=ak (ab HG w2 u _ ho)
 obtain ⟨a2,n2,c2,rfl⟩:=fP ho
 have dF:=ak ((ab HB).trans (hb.mono (ab HB).size))
 clear ho hb HK HG HB
 go_wp2_with fail
 refine (ab jT).mono ?_
 rintro e w3 ⟨u',rfl,ho,hb⟩
 have H2:=ak (kk ho (ab dF).size)
 have H3:=ak ((ab dF).trans (hb.mono (ab dF).size))
 clear ho hb jT dF
 go_wp2
 go_ret
 exact ⟨_,rfl,ab H2,ab H3⟩
theorem FP (W:World) (d:Fd):Calls Tryz.prog 194 #[.agg d.cs.toArray] W fun e w=>e=.returned (.int .i64 d.num)∧Below W.heap.size W w:=by
 unfold Fd.cs
 have k0:=aE W (.cells #[.int .i64 d.aZ,.string d.key,.string d.ty,.string d.name,.int .i64 d.num,.int .i64 d.aH] 53)
 have HB:=ak ((zE W.heap.size W).alloc (zD _) (.cells #[.int .i64 d.aZ,.string d.key,.string d.ty,.string d.name,.int .i64 d.num,.int .i64 d.aH] 53))
 obtain ⟨V,hV⟩:∃V,W.alloc (.cells #[.int .i64 d.aZ,.string d.key,.string d.ty,.string d.name,.int .i64 d.num,.int .i64 d.aH] 53)=V:=⟨_,rfl⟩
 rw[hV] at k0 HB
 have c1:V.cell? ⟨W.heap.size,4,none⟩=some (.int .i64 d.num):=cell_of_row _ _ _ _ _ _ k0
 clear k0
 go_enter Tryz.func194,Tryz.ntmps194
 go_wp2
 go_ret
 exact ⟨rfl,ab HB⟩
def aad:List Value→Int
 |[_,_,_,_,.int _ z,_]=>z
 |_=>0
def pJ (l:List Fd):List Fd:=cR (fun a b=>GD a.num b.num) l
theorem C9 (d:Fd):∀u ∈ d.cs,u.oneCell'=true:=by simp[Fd.cs,Value.oneCell']
theorem CE {W:World}{v:Value}{l:List Fd} (hv:Rl W v l.length (cC l)) (hl:l.length≤4096) (w0:World) (hw:Below W.heap.size W w0) :
  Calls Tryz.prog 192 #[v] w0 fun e w=>∃u,e=.returned u∧w.ownsRow w0.heap.size 53 6 u l.length (cC (pJ l))∧Below w0.heap.size w0 w:=by
 have gR:=Ed l
 have HS:Hid (Calls Tryz.prog 193 #[v,.func (.func 194) #[] #[]] w0 fun e w=>∃u,e=.returned u∧w.ownsRow w0.heap.size 53 6 u l.length (cC (pJ l))∧Below w0.heap.size w0 w):=by
  refine (dK .F (L:=l.map Fd.cs) (kv:=.I aad) (Pe:=fun x=>∃s:Fd,x=s.cs) (f:=194) (fs:=#[]) (cp:=#[]) (by rw[←gR];exact hv) (List.length_map ..) (fun x hx=>by obtain ⟨s,_,rfl⟩:=List.mem_map.1 hx;rfl) (fun x hx=>by obtain ⟨s,_,rfl⟩:=List.mem_map.1 hx;exact C9 s)
   (by show l.length*72≤_;omega) rfl (fun x hx=>by obtain ⟨s,rfl⟩:=hx;exact ⟨rfl,C9 s⟩) (fun x hx=>by obtain ⟨s,_,rfl⟩:=List.mem_map.1 hx;exact ⟨s,rfl⟩) w0 hw
   ⟨fun vs w=>by kernel_rfl,fun x w' _ hx=>by obtain ⟨s,rfl⟩:=hx;exact FP w' s⟩).mono ?_
  rintro e w ⟨u',rfl,h2,h3⟩
  refine ⟨u',rfl,?_,h3⟩
  rw[jV] at h2
  rw[Ed]
  exact h2
 obtain ⟨a,c,rfl,-,-⟩:=hv
 clear gR hl hw
 go_enter Tryz.func192,Tryz.ntmps192
 go_wp2_with fail
 refine (ab HS).mono ?_
 rintro e w1 ⟨u,rfl,ho,hb⟩
 have H2:=ak ho
 have H3:=ak hb
 clear ho hb HS
 go_wp2
 go_ret
 exact ⟨_,rfl,ab H2,ab H3⟩
theorem zq {W:World}{g o n c:Nat}{z:Int} (hn:0<n) (hm:n≤4096) (hc:W.cell? ⟨g,o+4,none⟩=some (.int .i64 z)):Calls Tryz.prog 196 #[.slice (some ⟨g,o,none⟩) n c] W fun e w=>e=.returned (.int .i64 z)∧Below W.heap.size W w:=by
 have h0:(0:Int)<(n:Int):=by omega
 go_enter Tryz.func196,Tryz.ntmps196
 go_wp2
 go_ret
 exact ⟨rfl,zE _ _⟩
theorem De (d:Fd) (h1:nZ d.key) (h2:nZ d.ty) (h3:nZ d.name) (o:Int) (w0:World):Calls Tryz.prog 197 #[.agg d.cs.toArray,.int .i64 o] w0 fun e w=>e=.returned (.agg (pZ o d).cs.toArray)∧Below w0.heap.size w0 w:=by
 unfold pZ Fd.cs
 have k1:=aE w0 (.cells #[.int .i64 d.aZ,.string d.key,.string d.ty,.string d.name,.int .i64 d.num,.int .i64 d.aH] 53)
 have k2:=aE (w0.alloc (.cells #[.int .i64 d.aZ,.string d.key,.string d.ty,.string d.name,.int .i64 d.num,.int .i64 d.aH] 53)) (.cells #[.int .i64 0,.string ⟨#[]⟩,.string ⟨#[]⟩,.string ⟨#[]⟩,.int .i64 0,.int .i64 0] 53)
 rw[zJ] at k2
 have k3:=(World.grownBy_alloc (w0.alloc (.cells #[.int .i64 d.aZ,.string d.key,.string d.ty,.string d.name,.int .i64 d.num,.int .i64 d.aH] 53)) (.cells #[.int .i64 0,.string ⟨#[]⟩,.string ⟨#[]⟩,.string ⟨#[]⟩,.int .i64 0,.int .i64 0] 53) none).block w0.heap.size (by rw[zJ];omega) (by simp)
 have k0:Below w0.heap.size w0 ((w0.alloc (.cells #[.int .i64 d.aZ,.string d.key,.string d.ty,.string d.name,.int .i64 d.num,.int .i64 d.aH] 53)).alloc (.cells #[.int .i64 0,.string ⟨#[]⟩,.string ⟨#[]⟩,.string ⟨#[]⟩,.int .i64 0,.int .i64 0] 53)):=((zE _ _).alloc (zD _) _).alloc (by rw[zJ];omega) _
 have hT:(fun w:World=>Below w0.heap.size w0 w∧w.heap[w0.heap.size]?=some (.cells #[.int .i64 d.aZ,.string d.key,.string d.ty,.string d.name,.int .i64 d.num,.int .i64 d.aH] 53 (0,0))∧w.heap[w0.heap.size+1]?=some (.cells #[.int .i64 0,.string ⟨#[]⟩,.string ⟨#[]⟩,.string ⟨#[]⟩,.int .i64 0,.int .i64 0] 53 (0,0))) (((w0.alloc (.cells #[.int .i64 d.aZ,.string d.key,.string d.ty,.string d.name,.int .i64 d.num,.int .i64 d.aH] 53)).alloc (.cells #[.int .i64 0,.string ⟨#[]⟩,.string ⟨#[]⟩,.string ⟨#[]⟩,.int .i64 0,.int .i64 0] 53)).drew):=⟨k0.drew,k3.trans k1,k2⟩
 clear k0 k1 k2 k3
 go_enter Tryz.func197,Tryz.ntmps197
 go_upto_region 1 with fail
 refine wp_region_any (by kernel_rfl) (aV (z:=99) (T:=fun w:World=>Below w0.heap.size w0 w∧w.heap[w0.heap.size]?=some (.cells #[.int .i64 d.aZ,.string d.key,.string d.ty,.string d.name,.int .i64 d.num,.int .i64 d.aH] 53 (0,0))∧w.heap[w0.heap.size+1]?=some (.cells #[.int .i64 0,.string ⟨#[]⟩,.string ⟨#[]⟩,.string ⟨#[]⟩,.int .i64 0,.int .i64 0] 53 (0,0))) _ _ _ _ ?_)
 try (change ba _ _ _ _ _ _ _ _ _ (World.drew _))
 refine o4 (P:=fun w:World=>Below w0.heap.size w0 w∧w.heap[w0.heap.size]?=some (.cells #[.int .i64 d.aZ,.string d.key,.string d.ty,.string d.name,.int .i64 d.num,.int .i64 d.aH] 53 (0,0))∧w.heap[w0.heap.size+1]?=some (.cells #[.int .i64 0,.string ⟨#[]⟩,.string ⟨#[]⟩,.string ⟨#[]⟩,.int .i64 0,.int .i64 0] 53 (0,0))) (G:=fun w=>ba _ _ _ _ _ _ _ _ _ w) hT (fun wd hT=>?_)
 refine aw 0 (.pointer (some ⟨w0.heap.size,1,none⟩)) 5 rfl rfl (Or.inl ⟨by rfl,fun w hw=>by go_simp⟩) hT ?_
 simp only[Act.put,zL,zM,zN]
 refine aw 1 (.string d.key) 6 rfl rfl (Or.inl ⟨by rfl,fun w hw=>by have c:w.cell? ⟨w0.heap.size,1,none⟩=some (.string d.key):=cell_of_row _ _ _ _ _ _ hw.2.1;go_simp⟩) hT ?_
 simp only[Act.put,zL,zM,zN]
 refine aw 3 (.pointer (some ⟨w0.heap.size,2,none⟩)) 8 rfl rfl (Or.inl ⟨by rfl,fun w hw=>by go_simp⟩) hT ?_
 simp only[Act.put,zL,zM,zN]
 refine aw 4 (.string d.ty) 9 rfl rfl (Or.inl ⟨by rfl,fun w hw=>by have c:w.cell? ⟨w0.heap.size,2,none⟩=some (.string d.ty):=cell_of_row _ _ _ _ _ _ hw.2.1;go_simp⟩) hT ?_
 simp only[Act.put,zL,zM,zN]
 refine aw 6 (.pointer (some ⟨w0.heap.size,3,none⟩)) 11 rfl rfl (Or.inl ⟨by rfl,fun w hw=>by go_simp⟩) hT ?_
 simp only[Act.put,zL,zM,zN]
 refine aw 7 (.string d.name) 12 rfl rfl (Or.inl ⟨by rfl,fun w hw=>by have c:w.cell? ⟨w0.heap.size,3,none⟩=some (.string d.name):=cell_of_row _ _ _ _ _ _ hw.2.1;go_simp⟩) hT ?_
 simp only[Act.put,zL,zM,zN]
 refine aB 2 (by kernel_rfl) rfl (fun K hK=>?_)
 refine aM 7 rfl rfl 45 (fun vs=>by kernel_rfl) #[.tmp 6] _ rfl #[.string d.key] (by first|rfl|simp[Act.eval]) (eh wd d.key h1) ?_
 rintro e w1 ⟨rfl,hb⟩
 have bL:(fun w:World=>Below w0.heap.size w0 w∧w.heap[w0.heap.size]?=some (.cells #[.int .i64 d.aZ,.string d.key,.string d.ty,.string d.name,.int .i64 d.num,.int .i64 d.aH] 53 (0,0))∧w.heap[w0.heap.size+1]?=some (.cells #[.int .i64 0,.string ⟨#[]⟩,.string ⟨#[]⟩,.string ⟨#[]⟩,.int .i64 0,.int .i64 0] 53 (0,0))) w1:=⟨hT.1.trans (hb.mono hT.1.size),(hb.block _ (zA hT.2.1).1).trans hT.2.1,(hb.block _ (zA hT.2.2).1).trans hT.2.2⟩
 refine ⟨_,rfl,hK _ _ ⟨fun _=>bL,?_⟩⟩
 clear hK K hT hb
 have hT:=bL
 clear bL
 simp only[Act.put,zL,zM,zN]
 refine aw 9 (.pointer (some ⟨w0.heap.size,1,none⟩)) 14 rfl rfl (Or.inl ⟨by rfl,fun w hw=>by go_simp⟩) hT ?_
 simp only[Act.put,zL,zM,zN]
 refine aB 5 (by kernel_rfl) rfl (fun K hK=>?_)
 refine aM 10 rfl rfl 45 (fun vs=>by kernel_rfl) #[.tmp 9] _ rfl #[.string d.ty] (by first|rfl|simp[Act.eval]) (eh w1 d.ty h2) ?_
 rintro e w2 ⟨rfl,hb⟩
 have bL:(fun w:World=>Below w0.heap.size w0 w∧w.heap[w0.heap.size]?=some (.cells #[.int .i64 d.aZ,.string d.key,.string d.ty,.string d.name,.int .i64 d.num,.int .i64 d.aH] 53 (0,0))∧w.heap[w0.heap.size+1]?=some (.cells #[.int .i64 0,.string ⟨#[]⟩,.string ⟨#[]⟩,.string ⟨#[]⟩,.int .i64 0,.int .i64 0] 53 (0,0))) w2:=⟨hT.1.trans (hb.mono hT.1.size),(hb.block _ (zA hT.2.1).1).trans hT.2.1,(hb.block _ (zA hT.2.2).1).trans hT.2.2⟩
 refine ⟨_,rfl,hK _ _ ⟨fun _=>bL,?_⟩⟩
 clear hK K hT hb
 have hT:=bL
 clear bL
 simp only[Act.put,zL,zM,zN]
 refine aB 8 (by kernel_rfl) rfl (fun K hK=>?_)
 refine aM 13 rfl rfl 45 (fun vs=>by kernel_rfl) #[.tmp 12] _ rfl #[.string d.name] (by first|rfl|simp[Act.eval]) (eh w2 d.name h3) ?_
 rintro e w3 ⟨rfl,hb⟩
 have bL:(fun w:World=>Below w0.heap.size w0 w∧w.heap[w0.heap.size]?=some (.cells #[.int .i64 d.aZ,.string d.key,.string d.ty,.string d.name,.int .i64 d.num,.int .i64 d.aH] 53 (0,0))∧w.heap[w0.heap.size+1]?=some (.cells #[.int .i64 0,.string ⟨#[]⟩,.string ⟨#[]⟩,.string ⟨#[]⟩,.int .i64 0,.int .i64 0] 53 (0,0))) w3:=⟨hT.1.trans (hb.mono hT.1.size),(hb.block _ (zA hT.2.1).1).trans hT.2.1,(hb.block _ (zA hT.2.2).1).trans hT.2.2⟩
 refine ⟨_,rfl,hK _ _ ⟨fun _=>bL,?_⟩⟩
 clear hK K hT hb
 have hT:=bL
 clear bL
 simp only[Act.put,zL,zM,zN]
 refine aB 10 (by kernel_rfl) rfl (fun K hK=>?_)
 obtain ⟨t0,t1,t2⟩:=hT
 have z:w3.frozen? ⟨w0.heap.size,1,none⟩=false:=by simp[World.frozen?,t1]
 have cc:w3.cell? ⟨w0.heap.size,1,none⟩=some (.string d.key):=cell_of_row _ _ _ _ _ _ t1
 obtain ⟨q0,g0⟩:=aI (j:=1) t1 (.string d.key)
 have bL:(fun w:World=>Below w0.heap.size w0 w∧w.heap[w0.heap.size]?=some (.cells #[.int .i64 d.aZ,.string d.key,.string d.ty,.string d.name,.int .i64 d.num,.int .i64 d.aH] 53 (0,0))∧w.heap[w0.heap.size+1]?=some (.cells #[.int .i64 0,.string ⟨#[]⟩,.string ⟨#[]⟩,.string ⟨#[]⟩,.int .i64 0,.int .i64 0] 53 (0,0))) (w3.setCell ⟨w0.heap.size,1,none⟩ (.string d.key)):=⟨t0.grown g0 t0.size (fun k e=>by obtain rfl:=zC e;exact zD _),q0,(g0.block _ (zA t2).1 (by simp)).trans t2⟩
 have n8:=ak bL
 clear t0 t1 t2 q0 g0 bL
 go_simp
 refine hK _ _ ⟨fun _=>ab n8,?_⟩
 clear hK K z cc
 have hT:=ab n8
 clear n8
 try simp only[Act.put,zL,zM,zN]
 obtain ⟨v10,U2⟩:∃q,w3.setCell ⟨w0.heap.size,1,none⟩ (.string d.key)=q:=⟨_,rfl⟩
 rw[U2] at hT ⊢
 clear U2
 refine aw 11 (.pointer (some ⟨w0.heap.size,2,none⟩)) 15 rfl rfl (Or.inl ⟨by rfl,fun w hw=>by go_simp⟩) hT ?_
 simp only[Act.put,zL,zM,zN]
 refine aB 12 (by kernel_rfl) rfl (fun K hK=>?_)
 obtain ⟨t0,t1,t2⟩:=hT
 have z:v10.frozen? ⟨w0.heap.size,2,none⟩=false:=by simp[World.frozen?,t1]
 have cc:v10.cell? ⟨w0.heap.size,2,none⟩=some (.string d.ty):=cell_of_row _ _ _ _ _ _ t1
 obtain ⟨q0,g0⟩:=aI (j:=2) t1 (.string d.ty)
 have bL:(fun w:World=>Below w0.heap.size w0 w∧w.heap[w0.heap.size]?=some (.cells #[.int .i64 d.aZ,.string d.key,.string d.ty,.string d.name,.int .i64 d.num,.int .i64 d.aH] 53 (0,0))∧w.heap[w0.heap.size+1]?=some (.cells #[.int .i64 0,.string ⟨#[]⟩,.string ⟨#[]⟩,.string ⟨#[]⟩,.int .i64 0,.int .i64 0] 53 (0,0))) (v10.setCell ⟨w0.heap.size,2,none⟩ (.string d.ty)):=⟨t0.grown g0 t0.size (fun k e=>by obtain rfl:=zC e;exact zD _),q0,(g0.block _ (zA t2).1 (by simp)).trans t2⟩
 have n8:=ak bL
 clear t0 t1 t2 q0 g0 bL
 go_simp
 refine hK _ _ ⟨fun _=>ab n8,?_⟩
 clear hK K z cc
 have hT:=ab n8
 clear n8
 try simp only[Act.put,zL,zM,zN]
 obtain ⟨v12,U1⟩:∃q,v10.setCell ⟨w0.heap.size,2,none⟩ (.string d.ty)=q:=⟨_,rfl⟩
 rw[U1] at hT ⊢
 clear U1
 refine aw 13 (.pointer (some ⟨w0.heap.size,3,none⟩)) 16 rfl rfl (Or.inl ⟨by rfl,fun w hw=>by go_simp⟩) hT ?_
 simp only[Act.put,zL,zM,zN]
 refine aB 14 (by kernel_rfl) rfl (fun K hK=>?_)
 obtain ⟨t0,t1,t2⟩:=hT
 have z:v12.frozen? ⟨w0.heap.size,3,none⟩=false:=by simp[World.frozen?,t1]
 have cc:v12.cell? ⟨w0.heap.size,3,none⟩=some (.string d.name):=cell_of_row _ _ _ _ _ _ t1
 obtain ⟨q0,g0⟩:=aI (j:=3) t1 (.string d.name)
 have bL:(fun w:World=>Below w0.heap.size w0 w∧w.heap[w0.heap.size]?=some (.cells #[.int .i64 d.aZ,.string d.key,.string d.ty,.string d.name,.int .i64 d.num,.int .i64 d.aH] 53 (0,0))∧w.heap[w0.heap.size+1]?=some (.cells #[.int .i64 0,.string ⟨#[]⟩,.string ⟨#[]⟩,.string ⟨#[]⟩,.int .i64 0,.int .i64 0] 53 (0,0))) (v12.setCell ⟨w0.heap.size,3,none⟩ (.string d.name)):=⟨t0.grown g0 t0.size (fun k e=>by obtain rfl:=zC e;exact zD _),q0,(g0.block _ (zA t2).1 (by simp)).trans t2⟩
 have n8:=ak bL
 clear t0 t1 t2 q0 g0 bL
 go_simp
 refine hK _ _ ⟨fun _=>ab n8,?_⟩
 clear hK K z cc
 have hT:=ab n8
 clear n8
 try simp only[Act.put,zL,zM,zN]
 obtain ⟨xg,U0⟩:∃q,v12.setCell ⟨w0.heap.size,3,none⟩ (.string d.name)=q:=⟨_,rfl⟩
 rw[U0] at hT ⊢
 clear U0
 refine aQ (by kernel_rfl) ?_
 obtain ⟨t0,t1,t2⟩:=hT
 obtain ⟨q0,g0⟩:=aI (j:=5) t1 (.int .i64 o)
 have t3:=(g0.block _ (zA t2).1 (by simp)).trans t2
 have a0:(xg.setCell ⟨w0.heap.size,5,none⟩ (.int .i64 o)).cell? ⟨w0.heap.size,0,none⟩=some (.int .i64 d.aZ):=cell_of_row _ _ _ _ _ _ q0
 have b0:(xg.setCell ⟨w0.heap.size,5,none⟩ (.int .i64 o)).cell? ⟨w0.heap.size+1,0,none⟩=some (.int .i64 0):=cell_of_row _ _ _ _ _ _ t3
 have z0:(xg.setCell ⟨w0.heap.size,5,none⟩ (.int .i64 o)).frozen? ⟨w0.heap.size+1,0,none⟩=false:=by simp only[World.frozen?,t3];rfl
 have a1:(xg.setCell ⟨w0.heap.size,5,none⟩ (.int .i64 o)).cell? ⟨w0.heap.size,1,none⟩=some (.string d.key):=cell_of_row _ _ _ _ _ _ q0
 have b1:(xg.setCell ⟨w0.heap.size,5,none⟩ (.int .i64 o)).cell? ⟨w0.heap.size+1,1,none⟩=some (.string ⟨#[]⟩):=cell_of_row _ _ _ _ _ _ t3
 have z1:(xg.setCell ⟨w0.heap.size,5,none⟩ (.int .i64 o)).frozen? ⟨w0.heap.size+1,1,none⟩=false:=by simp only[World.frozen?,t3];rfl
 have a2:(xg.setCell ⟨w0.heap.size,5,none⟩ (.int .i64 o)).cell? ⟨w0.heap.size,2,none⟩=some (.string d.ty):=cell_of_row _ _ _ _ _ _ q0
 have b2:(xg.setCell ⟨w0.heap.size,5,none⟩ (.int .i64 o)).cell? ⟨w0.heap.size+1,2,none⟩=some (.string ⟨#[]⟩):=cell_of_row _ _ _ _ _ _ t3
 have z2:(xg.setCell ⟨w0.heap.size,5,none⟩ (.int .i64 o)).frozen? ⟨w0.heap.size+1,2,none⟩=false:=by simp only[World.frozen?,t3];rfl
 have a3:(xg.setCell ⟨w0.heap.size,5,none⟩ (.int .i64 o)).cell? ⟨w0.heap.size,3,none⟩=some (.string d.name):=cell_of_row _ _ _ _ _ _ q0
 have b3:(xg.setCell ⟨w0.heap.size,5,none⟩ (.int .i64 o)).cell? ⟨w0.heap.size+1,3,none⟩=some (.string ⟨#[]⟩):=cell_of_row _ _ _ _ _ _ t3
 have z3:(xg.setCell ⟨w0.heap.size,5,none⟩ (.int .i64 o)).frozen? ⟨w0.heap.size+1,3,none⟩=false:=by simp only[World.frozen?,t3];rfl
 have a4:(xg.setCell ⟨w0.heap.size,5,none⟩ (.int .i64 o)).cell? ⟨w0.heap.size,4,none⟩=some (.int .i64 d.num):=cell_of_row _ _ _ _ _ _ q0
 have b4:(xg.setCell ⟨w0.heap.size,5,none⟩ (.int .i64 o)).cell? ⟨w0.heap.size+1,4,none⟩=some (.int .i64 0):=cell_of_row _ _ _ _ _ _ t3
 have z4:(xg.setCell ⟨w0.heap.size,5,none⟩ (.int .i64 o)).frozen? ⟨w0.heap.size+1,4,none⟩=false:=by simp only[World.frozen?,t3];rfl
 have a5:(xg.setCell ⟨w0.heap.size,5,none⟩ (.int .i64 o)).cell? ⟨w0.heap.size,5,none⟩=some (.int .i64 o):=cell_of_row _ _ _ _ _ _ q0
 have b5:(xg.setCell ⟨w0.heap.size,5,none⟩ (.int .i64 o)).cell? ⟨w0.heap.size+1,5,none⟩=some (.int .i64 0):=cell_of_row _ _ _ _ _ _ t3
 have z5:(xg.setCell ⟨w0.heap.size,5,none⟩ (.int .i64 o)).frozen? ⟨w0.heap.size+1,5,none⟩=false:=by simp only[World.frozen?,t3];rfl
 obtain ⟨r0,k0⟩:=aI (j:=0) t3 (.int .i64 d.aZ)
 obtain ⟨r1,k1⟩:=aI (j:=1) r0 (.string d.key)
 obtain ⟨r2,k2⟩:=aI (j:=2) r1 (.string d.ty)
 obtain ⟨r3,k3⟩:=aI (j:=3) r2 (.string d.name)
 obtain ⟨r4,k4⟩:=aI (j:=4) r3 (.int .i64 d.num)
 obtain ⟨r5,k5⟩:=aI (j:=5) r4 (.int .i64 o)
 have zz:xg.frozen? ⟨w0.heap.size,5,none⟩=false:=by simp[World.frozen?,t1]
 have cz:xg.cell? ⟨w0.heap.size,5,none⟩=some (.int .i64 d.aH):=cell_of_row _ _ _ _ _ _ t1
 have be:=(t0.grown g0 t0.size (fun k e=>by obtain rfl:=zC e;exact zD _)).grown (((((k0.trans k1).trans k2).trans k3).trans k4).trans k5) (t0.grown g0 t0.size (fun k e=>by obtain rfl:=zC e;exact zD _)).size (fun k e=>by obtain rfl:=zC e;omega)
 have BE:=ak be
 have Q3:=ak r5
 clear be t0 t1 t2 t3 q0 g0 r0 k0 r1 k1 r2 k2 r3 k3 r4 k4 r5 k5
 go_wp2
 refine bodyPost_ret (results_cell_row rfl _ _ (w0.heap.size+1) 53 _ (0,0) _ rfl (ab Q3) Tryz.underlying53 rfl (by kernel_rfl)) rfl ?_
 exact ⟨rfl,ab BE⟩
end Go.Proofs.YtghioefalckgoaaGreatDoor
