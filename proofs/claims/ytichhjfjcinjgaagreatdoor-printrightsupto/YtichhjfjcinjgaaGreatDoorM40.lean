import Derived.Test.YtichhjfjcinjgaaGreatDoorYBe
set_option maxHeartbeats 4000000
set_option maxRecDepth 100000
namespace Go.Proofs.YtichhjfjcinjgaaGreatDoor
open Go.RowKit
attribute [local go_sem ↓] Go.wp_at_zero Go.wp_at_succ
def LK (s:ByteArray):Bool:=decide (1≤s.size)&&decide (s.size≤255)&&(match aI s with|x::_=>decide (isLet x) |[]=>false)&&(aI s).all (fun x=>decide (isLet x∨cY x))
theorem sh {s:ByteArray} (h:LK s=true):bD s=true:=by
 unfold LK at h
 simp only[Bool.and_eq_true,decide_eq_true_eq] at h
 obtain ⟨⟨⟨h1,h2⟩,h3⟩,h4⟩:=h
 refine @decide_eq_true _ (Classical.propDecidable _) ⟨⟨h1,h2⟩,fun x hx=>?_,fun j x hx=>?_⟩
 ·split at h3
  ·rename_i y r hy
   rw[hy] at hx
   obtain rfl:y=x:=by simpa using hx
   exact of_decide_eq_true h3
  ·cases h3
 ·exact of_decide_eq_true (List.all_eq_true.1 h4 x (List.mem_of_getElem? hx))
def Mk:Fd:=⟨1,⟨#[]⟩,⟨#[105,110,116,51,50]⟩,⟨#[97]⟩,1,0⟩
def M7:Ms:=.mk ⟨#[77]⟩ [Mk] [] [] [] [] []
def N3:Fl:=⟨⟨#[112]⟩,[],[M7],[]⟩
def Kt:ByteArray:=⟨#[115,121,110,116,97,120,32,61,32,34,112,114,111,116,111,51,34,59,10,112,97,99,107,97,103,101,32,112,59,10,109,101,115,115,97,103,101,32,77,32,123,10,32,32,105,110,116,51,50,32,97,32,61,32,49,59,10,125,10]⟩
theorem Km:dx ⟨#[112]⟩=true:=by
 unfold dx
 rw[show pieces ⟨#[112]⟩=[⟨#[112]⟩] by kernel_rfl]
 simp only[List.all_cons,List.all_nil,Bool.and_true]
 rw[sh (by kernel_rfl)]
 rfl
theorem MN:gS ⟨#[105,110,116,51,50]⟩=true:=by
 unfold gS dx
 rw[show j6 ⟨#[105,110,116,51,50]⟩=⟨#[105,110,116,51,50]⟩ by kernel_rfl,show pieces ⟨#[105,110,116,51,50]⟩=[⟨#[105,110,116,51,50]⟩] by kernel_rfl]
 simp only[List.all_cons,List.all_nil,Bool.and_true]
 rw[sh (by kernel_rfl)]
 rfl
theorem Lc:cK Mk=true:=by
 unfold cK Mk
 simp only
 rw[MN,sh (s:=⟨#[97]⟩) (by kernel_rfl),show sw (fh ⟨#[105,110,116,51,50]⟩) (nD ⟨1,⟨#[]⟩,⟨#[105,110,116,51,50]⟩,⟨#[97]⟩,1,0⟩)=false by kernel_rfl]
 unfold mh
 simp only[if_true,toList_data]
 rfl
theorem Lb:(lD N3).isSome=true:=by
 unfold lD N3
 simp only
 rw[Km,Bool.or_true,if_pos rfl]
 have e1:j8 (([]:List ByteArray).length+[M7].length+([]:List En).length) 4096=some 4095:=by kernel_rfl
 have e2:j8 ([Mk].length+([]:List ByteArray).length+([]:List Ms).length+([]:List En).length+([]:List (Int×Int)).length+([]:List ByteArray).length) 4095=some 4094:=by kernel_rfl
 have e3:tL ⟨#[77]⟩ [Mk] [] [] []=true:=by
  unfold tL
  simp only[List.all_cons,List.all_nil,Bool.and_true]
  rw[Lc,sh (s:=⟨#[77]⟩) (by kernel_rfl)]
  kernel_rfl
 rw[e1]
 simp only[List.all_nil,if_true]
 have e4:nG 32 M7 4095=some 4094:=by
  show nG (31+1) (.mk ⟨#[77]⟩ [Mk] [] [] [] [] []) 4095=_
  rw[nG,e2]
  simp only
  rw[if_pos e3]
  rfl
 unfold jV
 rw[e4]
 rfl
theorem La:gr (fB N3)=Kt:=by kernel_rfl
theorem QB:(match jD Kt with|.inl _=>true|.inr _=>false)=true:=by kernel_rfl
theorem JZ:il N3=(Kt,0):=by
 unfold il
 rw[if_pos Lb,La]
 have h:=QB
 split at h
 ·rename_i ts hts;rw[hts]
 ·cases h
theorem ow (W:World) (x:Int):Calls Tryz.prog 9 #[.int .i64 x] W fun e w=>e=.returned (.int .i64 x)∧w=W:=by
 go_enter Tryz.func9,Tryz.ntmps9
 go_wp2
 go_ret
 exact ⟨rfl,rfl⟩
theorem U':∀m ∈ N3.ms,vM 32 m:=by
 intro m hm
 obtain rfl:m=M7:=by simpa[N3] using hm
 refine ⟨fun d hd=>?_,fun m hm=>by simp at hm⟩
 obtain rfl:d=Mk:=by simpa using hd
 decide
theorem As {W:World} (hM:ia W) (hE:jW W) (hP:iF W) (hF:iG W):Calls Tryz.prog 6 #[] W fun e w=>e=.returned (.bool true)∧Below W.heap.size W w:=by
 obtain ⟨V0,K5⟩:∃V,W.alloc (.cells #[.int .i64 1,.string ⟨#[]⟩,.string ⟨#[105,110,116,51,50]⟩,.string ⟨#[97]⟩,.int .i64 1,.int .i64 0] 42)=V:=⟨_,rfl⟩
 have k0:=aK W (.cells #[.int .i64 1,.string ⟨#[]⟩,.string ⟨#[105,110,116,51,50]⟩,.string ⟨#[97]⟩,.int .i64 1,.int .i64 0] 42)
 have s0:=zJ W (.cells #[.int .i64 1,.string ⟨#[]⟩,.string ⟨#[105,110,116,51,50]⟩,.string ⟨#[97]⟩,.int .i64 1,.int .i64 0] 42)
 have b0:Below W.heap.size W (W.alloc (.cells #[.int .i64 1,.string ⟨#[]⟩,.string ⟨#[105,110,116,51,50]⟩,.string ⟨#[97]⟩,.int .i64 1,.int .i64 0] 42)):=(zE _ _).alloc (zD _) _
 rw[K5] at k0 s0 b0
 obtain ⟨V,hV⟩:∃V',V0.alloc (.cells #[.string ⟨#[77]⟩,.slice (some ⟨W.heap.size,0,none⟩) 1 1,.slice none 0 0,.slice none 0 0,.slice none 0 0,.slice none 0 0,.slice none 0 0] 46)=V':=⟨_,rfl⟩
 have k1:=aK V0 (.cells #[.string ⟨#[77]⟩,.slice (some ⟨W.heap.size,0,none⟩) 1 1,.slice none 0 0,.slice none 0 0,.slice none 0 0,.slice none 0 0,.slice none 0 0] 46)
 have b1:Below V0.heap.size V0 (V0.alloc (.cells #[.string ⟨#[77]⟩,.slice (some ⟨W.heap.size,0,none⟩) 1 1,.slice none 0 0,.slice none 0 0,.slice none 0 0,.slice none 0 0,.slice none 0 0] 46)):=(zE _ _).alloc (zD _) _
 rw[hV] at k1 b1
 have hb:Below W.heap.size W V:=b0.trans (b1.mono b0.size)
 have k2:=(b1.block _ (show W.heap.size<V0.heap.size by omega)).trans k0
 have l1:=(zA k1).1
 have l2:=(zA k2).1
 have j':yH V (.agg #[.string ⟨#[112]⟩,.slice none 0 0,.slice (some ⟨V0.heap.size,0,none⟩) 1 1,.slice none 0 0]) N3 (.slice none 0 0) (.slice (some ⟨V0.heap.size,0,none⟩) 1 1) (.slice none 0 0) [.string ⟨#[77]⟩,.slice (some ⟨W.heap.size,0,none⟩) 1 1,.slice none 0 0,.slice none 0 0,.slice none 0 0,.slice none 0 0,.slice none 0 0] []:=by
  refine ⟨rfl,la _ _,⟨_,_,rfl,by show 1≤_;omega,fun _=>⟨_,_,rfl,l1,fun j x hx=>?_⟩⟩,?_,la _ _,.nil⟩
  ·rw[Nat.zero_add,cell_of_row _ _ _ _ _ _ k1,←Array.getElem?_toList]
   exact hx
  ·refine .cons (fs:=[Mk]) ⟨_,_,rfl,by show 1≤_;omega,fun _=>⟨_,_,rfl,l2,fun j x hx=>?_⟩⟩ (la _ _) (la _ _) .nil (la _ _) .nil (la _ _) (la _ _) .nil
   rw[Nat.zero_add,cell_of_row _ _ _ _ _ _ k2,←Array.getElem?_toList]
   exact hx
 have HT:=al (yU (hM.up hb hM.1) (hE.up hb) (hP.up hb) (hF.up hb) j' U')
 rw[JZ] at HT
 have HB:=al hb
 have HS:=al s0
 unfold Kt at HT
 clear hM hE hP hF k0 s0 b0 k1 b1 hb k2 l1 l2 j'
 go_enter Tryz.func6,Tryz.ntmps6
 go_wp2_with fail
 refine (ab HT).mono ?_
 rintro e w ⟨rfl,aW⟩
 have cN:=al ((ab HB).trans (aW.mono (ab HB).size))
 clear aW HT HB
 go_wp2_with fail
 refine (ow w 0).mono ?_
 rintro e w' ⟨rfl,rfl⟩
 go_wp2
 go_ret
 exact ⟨rfl,ab cN⟩
theorem Nf {k:Nat} (h:k<10):bI (k:Int)=gr [48+k]:=by
 unfold bI Lib.itoa gr
 rw[if_neg (by omega),Int.toNat_natCast,Lib.decDigits_one h]
 rfl
theorem Nd {k:Nat} (h:¬k<10):bI (k:Int)=bI ((k / 10:Nat):Int)++gr [48+k % 10]:=by
 unfold bI Lib.itoa gr
 rw[if_neg (by omega),if_neg (by omega),Int.toNat_natCast,Int.toNat_natCast,Lib.decDigits,dif_neg h]
 apply ByteArray.ext
 apply Array.toList_inj.1
 simp
theorem Nc {k:Nat} (h:0<k):bI (-(k:Int))=⟨#[45]⟩++bI (k:Int):=by
 unfold bI Lib.itoa
 rw[if_pos (by omega),if_neg (by omega),Int.toNat_natCast]
 apply ByteArray.ext
 apply Array.toList_inj.1
 simp
theorem od {w:World}{b k:Nat} (h:w.heap[b]?=some (.cells #[.int .u8 ((48+k:Nat):Int)] 5 (0,0))) (hk:k<10):(convert 58 9 (.slice (some ⟨b,0,none⟩) 1 1)).run Tryz.prog w=.ok (.string (gr [48+k])) w:=by
 refine kL (l:=[48+k]) ?_ (fun x hx=>by obtain rfl:=List.mem_singleton.1 hx;omega)
 refine ⟨some ⟨b,0,none⟩,1,rfl,⟨zD _,by unfold maxLen;decide,fun e=>by cases e⟩,fun _=>⟨b,0,rfl,(zA h).1,fun i x hx=>?_⟩⟩
 rw[Nat.zero_add,cell_of_row _ _ _ _ _ _ h]
 match i,hx with
 |0,hx=>obtain rfl:=zC hx;rfl
 |i+1,hx=>simp at hx
theorem MY (W:World) {k:Nat} (hk:k<10):Calls Tryz.prog 59 #[.int .i64 (k:Int)] W fun e w=>e=.returned (.string (bI (k:Int)))∧Below W.heap.size W w:=by
 rw[Nf hk]
 have hc:=od (aK W (.cells #[.int .u8 ((48+k:Nat):Int)] 5)) hk
 have HB:Hid (Below W.heap.size W (W.alloc (.cells #[.int .u8 ((48+k:Nat):Int)] 5))):=(zE _ _).alloc (zD _) _
 push_cast at hc HB
 have e0:decide ((k:Int)<0)=false:=decide_eq_false (by omega)
 have e1:decide ((k:Int)<10)=true:=decide_eq_true (by omega)
 go_enter Tryz.func59,Tryz.ntmps59
 go_wp2
 go_ret
 exact ⟨rfl,ab HB⟩
theorem MX {k m y:Nat} (hk:¬k<10) (lI:k≤1099511627776) (hm:k / 10=m) (hy:k % 10=y) (ih:∀W,Calls Tryz.prog 59 #[.int .i64 (m:Int)] W fun e w=>e=.returned (.string (bI (m:Int)))∧Below W.heap.size W w) (W:World):Calls Tryz.prog 59 #[.int .i64 (k:Int)] W fun e w=>e=.returned (.string (bI (k:Int)))∧Below W.heap.size W w:=by
 rw[Nd hk,hm,hy]
 have HI:=al ih
 have e0:decide ((k:Int)<0)=false:=decide_eq_false (by omega)
 have e1:decide ((k:Int)<10)=false:=decide_eq_false (by omega)
 have sz:=cS (n:=(m:Int)) (by omega) (by omega)
 have sz2:(gr [48+y]).size=1:=rfl
 have Ai:y<10:=by omega
 have PB:m≤1099511627776:=by omega
 have q1:(k:Int) / 10=(m:Int):=by omega
 have q2:(k:Int) % 10=(y:Int):=by omega
 have q3:Int.tdiv (k:Int) 10=(m:Int):=by rw[Int.tdiv_eq_ediv_of_nonneg (by omega)];exact q1
 have q4:Int.tmod (k:Int) 10=(y:Int):=by rw[Int.tmod_eq_emod_of_nonneg (by omega)];exact q2
 clear ih hm hy
 go_enter Tryz.func59,Tryz.ntmps59
 go_wp2_with fail
 refine wp_region_any (by kernel_rfl) (bK (z:=99) (T:=fun _=>True) _ _ _ _ ?_)
 try (change cc _ _ _ _ _ _ _ _ _ (World.drew _))
 have Cn:Below W.heap.size W W.drew:=below_drewN (zE W.heap.size W) 1
 obtain ⟨wd,mY⟩:∃x,W.drew=x:=⟨_,rfl⟩
 rw[mY] at Cn ⊢
 refine aw 0 (.int .i64 (k:Int)) 16 rfl rfl (Or.inl ⟨by rfl,fun w' _=>by go_simp⟩) trivial ?_
 simp only[Act.put,zL,zM,zN]
 refine aw 1 (.int .i64 (m:Int)) 17 rfl rfl (Or.inl ⟨by rfl,fun w' _=>by go_simp;try exact IntWalk.i64_in _ (by omega)⟩) trivial ?_
 simp only[Act.put,zL,zM,zN]
 refine aw 3 (.int .i64 (k:Int)) 19 rfl rfl (Or.inl ⟨by rfl,fun w' _=>by go_simp⟩) trivial ?_
 simp only[Act.put,zL,zM,zN]
 refine aw 4 (.int .i64 (y:Int)) 20 rfl rfl (Or.inl ⟨by rfl,fun w' _=>by go_simp;try exact IntWalk.i64_in _ (by omega)⟩) trivial ?_
 simp only[Act.put,zL,zM,zN]
 refine aw 5 (.int .i64 (48+(y:Int))) 21 rfl rfl (Or.inl ⟨by rfl,fun w' _=>by go_simp;try exact IntWalk.i64_in _ (by omega)⟩) trivial ?_
 simp only[Act.put,zL,zM,zN]
 refine aw 6 (.int .u8 (48+(y:Int))) 22 rfl rfl (Or.inl ⟨by rfl,fun w' _=>by go_simp;try exact IntWalk.u8_in _ (by omega)⟩) trivial ?_
 simp only[Act.put,zL,zM,zN]
 refine eA 2 7 (by kernel_rfl) rfl rfl (fun K hK=>?_) (fun K hK=>?_)
 ·refine aO 18 rfl rfl 59 (fun vs=>by kernel_rfl) #[.tmp 17] #[3] rfl #[.int .i64 (m:Int)] (by first|rfl|simp[Act.eval]) (ab HI wd) ?_
  rintro e' w1 ⟨rfl,aR⟩
  have aW:=Cn.trans (aR.mono Cn.size)
  refine ⟨_,rfl,hK _ _ ⟨fun _=>trivial,?_⟩⟩
  clear hK K aR
  simp only[Act.put,zL,zM,zN]
  refine aF 7 (by kernel_rfl) rfl (fun K hK=>?_)
  have kb:=aK w1 (.cells #[.int .u8 (48+(y:Int))] 5)
  have bb:Below w1.heap.size w1 (w1.alloc (.cells #[.int .u8 (48+(y:Int))] 5)):=(zE _ _).alloc (zD _) _
  obtain ⟨w2,bM⟩:∃x,w1.alloc (.cells #[.int .u8 (48+(y:Int))] 5)=x:=⟨_,rfl⟩
  rw[bM] at kb bb
  go_simp
  have bd:=aW.trans (bb.mono aW.size)
  refine hK _ _ ⟨fun _=>trivial,?_⟩
  clear hK K
  try simp only[Act.put,zL,zM,zN]
  refine aF 8 (by kernel_rfl) rfl (fun K hK=>?_)
  have lJ:=od (k:=y) kb Ai
  go_simp
  refine hK _ _ ⟨fun _=>trivial,?_⟩
  clear hK K lJ
  refine aw 9 (.string (bI (m:Int)++gr [48+y])) 25 rfl rfl (Or.inl ⟨by rfl,fun w' _=>by go_simp;try omega⟩) trivial ?_
  simp only[Act.put,zL,zM,zN]
  refine aw 10 (.string (bI (m:Int)++gr [48+y])) 2 rfl rfl (Or.inl ⟨by rfl,fun w' _=>by go_simp⟩) trivial ?_
  simp only[Act.put,zL,zM,zN]
  refine aZ (by kernel_rfl) ?_
  have HB:=al bd
  clear HI
  go_wp2
  go_ret
  exact ⟨rfl,ab HB⟩
 ·have kb:=aK wd (.cells #[.int .u8 (48+(y:Int))] 5)
  have bb:Below wd.heap.size wd (wd.alloc (.cells #[.int .u8 (48+(y:Int))] 5)):=(zE _ _).alloc (zD _) _
  obtain ⟨w2,bM⟩:∃x,wd.alloc (.cells #[.int .u8 (48+(y:Int))] 5)=x:=⟨_,rfl⟩
  rw[bM] at kb bb
  go_simp
  have bd:=Cn.trans (bb.mono Cn.size)
  refine hK _ _ ⟨fun _=>trivial,?_⟩
  clear hK K
  try simp only[Act.put,zL,zM,zN]
  refine eA 2 8 (by kernel_rfl) rfl rfl (fun K hK=>?_) (fun K hK=>?_)
  ·refine aO 18 rfl rfl 59 (fun vs=>by kernel_rfl) #[.tmp 17] #[3] rfl #[.int .i64 (m:Int)] (by first|rfl|simp[Act.eval]) (ab HI w2) ?_
   rintro e' w3 ⟨rfl,aR⟩
   have kb:=(aR.block _ (zA kb).1).trans kb
   have cE:=bd.trans (aR.mono bd.size)
   refine ⟨_,rfl,hK _ _ ⟨fun _=>trivial,?_⟩⟩
   clear hK K aR
   simp only[Act.put,zL,zM,zN]
   refine aF 8 (by kernel_rfl) rfl (fun K hK=>?_)
   have lJ:=od (k:=y) kb Ai
   go_simp
   refine hK _ _ ⟨fun _=>trivial,?_⟩
   clear hK K lJ
   refine aw 9 (.string (bI (m:Int)++gr [48+y])) 25 rfl rfl (Or.inl ⟨by rfl,fun w' _=>by go_simp;try omega⟩) trivial ?_
   simp only[Act.put,zL,zM,zN]
   refine aw 10 (.string (bI (m:Int)++gr [48+y])) 2 rfl rfl (Or.inl ⟨by rfl,fun w' _=>by go_simp⟩) trivial ?_
   simp only[Act.put,zL,zM,zN]
   refine aZ (by kernel_rfl) ?_
   have HB:=al cE
   clear HI
   go_wp2
   go_ret
   exact ⟨rfl,ab HB⟩
  ·have lJ:=od (k:=y) kb Ai
   go_simp
   refine hK _ _ ⟨fun _=>trivial,?_⟩
   clear hK K lJ
   refine aF 2 (by kernel_rfl) rfl (fun K hK=>?_)
   refine aO 18 rfl rfl 59 (fun vs=>by kernel_rfl) #[.tmp 17] #[3] rfl #[.int .i64 (m:Int)] (by first|rfl|simp[Act.eval]) (ab HI w2) ?_
   rintro e' w3 ⟨rfl,aR⟩
   have cE:=bd.trans (aR.mono bd.size)
   refine ⟨_,rfl,hK _ _ ⟨fun _=>trivial,?_⟩⟩
   clear hK K aR
   simp only[Act.put,zL,zM,zN]
   refine aw 9 (.string (bI (m:Int)++gr [48+y])) 25 rfl rfl (Or.inl ⟨by rfl,fun w' _=>by go_simp;try omega⟩) trivial ?_
   simp only[Act.put,zL,zM,zN]
   refine aw 10 (.string (bI (m:Int)++gr [48+y])) 2 rfl rfl (Or.inl ⟨by rfl,fun w' _=>by go_simp⟩) trivial ?_
   simp only[Act.put,zL,zM,zN]
   refine aZ (by kernel_rfl) ?_
   have HB:=al cE
   clear HI
   go_wp2
   go_ret
   exact ⟨rfl,ab HB⟩
theorem tF:∀(n k:Nat),k≤n→k≤1099511627776→∀W,Calls Tryz.prog 59 #[.int .i64 (k:Int)] W fun e w=>e=.returned (.string (bI (k:Int)))∧Below W.heap.size W w
 |n,k,hn,h,W=>by
  by_cases hk:k<10
  ·exact MY W hk
  ·match n with
   |0=>omega
   |n+1=>exact MX hk h rfl rfl (tF n (k / 10) (by omega) (by omega)) W
theorem nZ {n:Int} (h0:-1099511627776≤n) (h1:n≤1099511627776) (W:World):Calls Tryz.prog 59 #[.int .i64 n] W fun e w=>e=.returned (.string (bI n))∧Below W.heap.size W w:=by
 by_cases hn:n<0
 ·obtain ⟨k,rfl⟩:∃k:Nat,n=-(k:Int):=⟨n.natAbs,by omega⟩
  rw[Nc (by omega)]
  have HI:=al (tF k k (zD _) (by omega) W)
  have e0:decide (-(k:Int)<0)=true:=decide_eq_true hn
  have sz:=cS (n:=(k:Int)) (by omega) (by omega)
  have lI:k≤1099511627776:=by omega
  have V6:0<k:=by omega
  clear hn h0 h1
  go_enter Tryz.func59,Tryz.ntmps59
  go_wp2_with fail
  refine (ab HI).mono ?_
  rintro e w ⟨rfl,hb⟩
  have HB:=al hb
  clear hb HI
  go_wp2
  go_ret
  exact ⟨rfl,ab HB⟩
 ·obtain ⟨k,rfl⟩:∃k:Nat,n=(k:Int):=⟨n.toNat,by omega⟩
  exact tF k k (zD _) (by omega) W
structure Pg (W:World) (pg:Nat) (L:List Nat) (v:Value) (w:World):Prop where
 bW:Below W.heap.size W w
 low:W.heap.size≤pg
 dq:w.heap[pg]?=some (.cells #[v] 60 (0,0))
 own:w.ownsRow W.heap.size 5 1 v L.length (nb L)
theorem Pg.below {W w w':World}{pg:Nat}{L:List Nat}{v:Value} (h:Pg W pg L v w) (hb:Below w.heap.size w w'):Pg W pg L v w' :=
 ⟨h.bW.trans (hb.mono h.bW.size),h.low,(hb.block _ (zA h.dq).1).trans h.dq,dJ h.own hb⟩
theorem BG {W w wy w2:World}{pg:Nat}{L:List Nat}{v v':Value}{x:Nat} (h:Pg W pg L v w) (hy:Below w.heap.size w wy) (hg:wy.grownBy w2 v.ownBlock) (ho:w2.ownsRow W.heap.size 5 1 v' (L.length+1) (nb L++[.int .u8 (x:Int)])) :
  Pg W pg (L++[x]) v' (w2.setCell ⟨pg,0,none⟩ v')∧Kp pg w (w2.setCell ⟨pg,0,none⟩ v')∧w2.cell? ⟨pg,0,none⟩=some v∧w2.frozen? ⟨pg,0,none⟩=false:=by
 have hP:=h.below hy
 have iI:=dQ hP.own hP.dq (by decide)
 have bd:=(hg.block _ (zA hP.dq).1 (fun e=>iI e.symm)).trans hP.dq
 obtain ⟨q,g3⟩:=bh (j:=0) bd v'
 have ZA:=ct hP.bW hg hP.bW.size (fun k e=>(hP.own.lt k e).1)
 refine ⟨⟨ct ZA g3 ZA.size (fun k e=>by obtain rfl:=zC e;exact h.low),h.low,q,?_⟩,fun d cs ty fr h1 h2 h3=>?_,cell_of_row _ _ _ _ _ _ bd,by simp[World.frozen?,bd]⟩
 ·have:=ho.kept g3 (.inr (dQ ho bd (by decide)))
  rw[zK,kD]
  exact this
 ·have e1:=(hy.block _ (zA h2).1).trans h2
  have e2:=(hg.block _ (zA e1).1 (fun e=>dQ hP.own e1 (fun e=>h3 e.symm) e.symm)).trans e1
  exact (g3.block _ (zA e2).1 (fun e=>h1 (zC e))).trans e2
def Lv (W:World) (pg:Nat) (L:List Nat) (w:World) (e:Ending) (w':World):Prop:=e=.returned (.tuple #[])∧(∃v,Pg W pg L v w')∧Kp pg w w'
theorem xw {W w:World}{pg:Nat}{L:List Nat}{v:Value} (h:Pg W pg L v w):∃a c,v=.slice a L.length c:=bq h.own
theorem df {W w:World}{pg:Nat}{L:List Nat}{v:Value} (h:Pg W pg L v w) (n:Nat) (s:ByteArray) (hn:n≤500) (hl:L.length+2*n+s.size+1≤1099511627776) :
  Calls Tryz.prog 26 #[.pointer (some ⟨pg,0,none⟩),.int .i64 (n:Int),.string s] w (Lv W pg (L++aV n [s]) w):=by
 obtain ⟨i0,hi,gj,dR,c7⟩:=info_parts Tryz.infoByte
 have HL:=al hl
 have Jk:=al h
 clear h
 go_enter Tryz.func26,Tryz.ntmps26
 go_wp2
 go_loopg [6] (2*n) (fun gk v6 wr=>∃(i:Nat) (u:Value),v6=.int .i64 (i:Int)∧gk=2*n-i∧i≤2*n∧Hid (Pg W pg (L++List.replicate i 32) u wr)∧Hid (Kp pg w wr))
 case atStart=>exact ⟨0,v,rfl,rfl,by omega,by show Pg _ _ _ _ _;rw[List.replicate_zero,List.append_nil];exact ab Jk,Kp.refl _ _⟩
 case round =>
  obtain ⟨i,u,rfl,aU,eS,HP,HK⟩:=hrel
  have bz:=al aU
  clear aU
  obtain ⟨ua,uc,rfl⟩:=xw (ab HP)
  have fM:(L++List.replicate i 32).length=L.length+i:=by rw[zK,List.length_replicate]
  obtain ⟨M,hM⟩:∃M,L++List.replicate i 32=M:=⟨_,rfl⟩
  rw[hM] at HP fM
  have HO:=al (ab HP).own
  have HZ:Hid (M.length+1≤1099511627776):=by have:=ab HL;show _≤_;omega
  have x0:wr.cell? ⟨pg,0,none⟩=some (.slice ua M.length uc):=cell_of_row _ _ _ _ _ _ (ab HP).dq
  have nU:=al fM
  have HM:=al hM
  clear fM hM
  by_cases aM:i<2*n
  ·have e0:decide ((i:Int)<2*(n:Int))=true:=decide_eq_true (by omega)
   have bu:=al aM
   clear aM
   go_wp2_with (at_builtin;refine wpList_append_own_at _ rfl _ _ 58 rfl W.heap.size 5 i0 (.int .u8 0) 1 1 Tryz.underlying58 hi gj dR c7 rfl (by decide) _ _ _ rfl ((ab HO).alloc _) ⟨wr.heap.size,0,none⟩ 1 1 [.int .u8 32] rfl rfl (cell_one_new _ _ _) (by simp[Value.oneCell']) (by have:=ab HZ;unfold maxLen;omega) (by have:=ab HZ;omega) (by have:=(ab HP).bW.size;rw[zJ];omega) ?_;intro v4 w4 oH yA _ G5;obtain ⟨oE,L5,PK,Wc⟩:=BG (x:=32) (ab HP) ((zE _ _).alloc (zD _) _) yA oH;obtain ⟨a4,c4,rfl⟩:=bq oH;have yE:=al oE;have yG:=al ((ab HK).trans L5);clear oH yA G5 oE L5)
   go_wp2
   go_roundg (2*n-(i+1))
   case measure=>have:=ab bz;have:=ab bu;omega
   case rel=>exact ⟨i+1,_,by go_num,rfl,ab bu,by show Pg _ _ _ _ _;rw[List.replicate_succ',←List.append_assoc,ab HM];exact ab yE,yG⟩
  ·have e0:decide ((i:Int)<2*(n:Int))=false:=decide_eq_false (by omega)
   obtain rfl:i=2*n:=by omega
   obtain ⟨wo,iA⟩:∃x,x=wr:=⟨_,rfl⟩
   subst iA
   have HS:Hid (M.length+s.size+1≤1099511627776):=by have:=ab HL;have:=ab nU;show _≤_;omega
   clear HO HZ x0 aM
   go_wp2
   go_loopg [7] s.size (fun gk v7 wr=>∃(i:Nat) (u:Value),v7=.int .i64 (i:Int)∧gk=s.size-i∧i≤s.size∧Hid (Pg W pg (M++(aI s).take i) u wr)∧Hid (Kp pg w wr))
   case atStart=>exact ⟨0,_,rfl,rfl,by omega,by show Pg _ _ _ _ _;rw[List.take_zero,List.append_nil];exact ab HP,HK⟩
   case round =>
    obtain ⟨i,u,rfl,gF,H',fC,fD⟩:=hrel
    have kq:=al gF
    clear gF HP HK
    have HP:=fC
    have HK:=fD
    clear fC fD
    obtain ⟨ub,ud,rfl⟩:=xw (ab HP)
    have EM:(M++(aI s).take i).length=M.length+i:=by rw[zK,List.length_take,aY];omega
    obtain ⟨M2,TA⟩:∃M2,M++(aI s).take i=M2:=⟨_,rfl⟩
    rw[TA] at HP EM
    have HO:=al (ab HP).own
    have HZ:Hid (M2.length+1≤1099511627776):=by have:=ab HS;show _≤_;omega
    have x0:wr.cell? ⟨pg,0,none⟩=some (.slice ub M2.length ud):=cell_of_row _ _ _ _ _ _ (ab HP).dq
    have SW:=al TA
    by_cases aM:i<s.size
    ·obtain ⟨x,hx,cZ,gx⟩:=cd s i aM
     have th:Hid (M++(aI s).take (i+1)=M2++[x]):=by
      show _=_
      rw[bL hx,←List.append_assoc,ab SW]
     have bu:=al aM
     have LW:(0:Int)≤(i:Int):=zH _
     have i1':(i:Int)<(s.size:Int):=by omega
     clear EM TA hx
     go_upto_region 7 with fail
     refine wp_region_any (by kernel_rfl) (bK (z:=12) (T:=fun w'=>w'.cell? ⟨pg,0,none⟩=some (.slice ub M2.length ud)) _ _ _ _ ?_)
     try (change cc _ _ _ _ _ _ _ _ _ (World.drew _))
     have Ik:=(ab HP).below (below_drewN (zE wr.heap.size wr) 1)
     have Cn:Below wr.heap.size wr wr.drew:=below_drewN (zE wr.heap.size wr) 1
     change Pg W pg M2 _ wr.drew at Ik
     obtain ⟨wd,mY⟩:∃x,wr.drew=x:=⟨_,rfl⟩
     rw[mY] at Ik Cn ⊢
     have hT:wd.cell? ⟨pg,0,none⟩=some (.slice ub M2.length ud):=cell_of_row _ _ _ _ _ _ Ik.dq
     clear x0
     refine aw 0 (.pointer (some ⟨pg,0,none⟩)) 29 rfl rfl (Or.inl ⟨by rfl,fun w' (hw:w'.cell? ⟨pg,0,none⟩=some (.slice ub M2.length ud))=>by go_simp⟩) hT ?_
     simp only[Act.put,zL,zM,zN]
     refine aw 1 (.pointer (some ⟨pg,0,none⟩)) 30 rfl rfl (Or.inl ⟨by rfl,fun w' (hw:w'.cell? ⟨pg,0,none⟩=some (.slice ub M2.length ud))=>by go_simp⟩) hT ?_
     simp only[Act.put,zL,zM,zN]
     refine aw 2 (.pointer (some ⟨pg,0,none⟩)) 31 rfl rfl (Or.inl ⟨by rfl,fun w' (hw:w'.cell? ⟨pg,0,none⟩=some (.slice ub M2.length ud))=>by go_simp⟩) hT ?_
     simp only[Act.put,zL,zM,zN]
     refine aw 3 (.pointer (some ⟨pg,0,none⟩)) 32 rfl rfl (Or.inl ⟨by rfl,fun w' (hw:w'.cell? ⟨pg,0,none⟩=some (.slice ub M2.length ud))=>by go_simp⟩) hT ?_
     simp only[Act.put,zL,zM,zN]
     refine aw 4 (.slice ub M2.length ud) 33 rfl rfl (Or.inl ⟨by rfl,fun w' (hw:w'.cell? ⟨pg,0,none⟩=some (.slice ub M2.length ud))=>by go_simp⟩) hT ?_
     simp only[Act.put,zL,zM,zN]
     refine aw 5 (.string s) 34 rfl rfl (Or.inl ⟨by rfl,fun w' (hw:w'.cell? ⟨pg,0,none⟩=some (.slice ub M2.length ud))=>by go_simp⟩) hT ?_
     simp only[Act.put,zL,zM,zN]
     refine aw 6 (.int .i64 (i:Int)) 35 rfl rfl (Or.inl ⟨by rfl,fun w' (hw:w'.cell? ⟨pg,0,none⟩=some (.slice ub M2.length ud))=>by go_simp⟩) hT ?_
     simp only[Act.put,zL,zM,zN]
     refine aw 7 (.int .u8 (x:Int)) 36 rfl rfl (Or.inl ⟨by rfl,fun w' (hw:w'.cell? ⟨pg,0,none⟩=some (.slice ub M2.length ud))=>by go_simp⟩) hT ?_
     simp only[Act.put,zL,zM,zN]
     have eu:Below wd.heap.size wd (wd.alloc (.cells #[.int .u8 (x:Int)] 5)):=(zE _ _).alloc (zD _) _
     have KN:=cell_one_new wd (.int .u8 (x:Int)) 5
     obtain ⟨wy,Jx⟩:∃z,wd.alloc (.cells #[.int .u8 (x:Int)] 5)=z:=⟨_,rfl⟩
     rw[Jx] at eu KN
     have R6:=Ik.below eu
     refine aF 8 (by kernel_rfl) rfl (fun K hK=>?_)
     go_simp
     refine hK _ _ ⟨fun _=>cell_of_row _ _ _ _ _ _ R6.dq,?_⟩
     clear hK K hT
     refine aF 9 (by kernel_rfl) rfl (fun K hK=>?_)
     refine kX 38 rfl rfl (.tmp 33) (.tmp 37) 58 rfl W.heap.size 5 i0 (.int .u8 0) 1 1 Tryz.underlying58 hi gj dR c7 rfl (by decide) (.slice ub M2.length ud) M2.length _ (by first|rfl|simp[Act.eval]) R6.own ⟨wd.heap.size,0,none⟩ 1 1 [.int .u8 (x:Int)] (by first|rfl|simp[Act.eval]) rfl KN (by simp[Value.oneCell']) (by have:=ab HZ;unfold maxLen;omega) (by have:=ab HZ;omega) R6.bW.size ?_
     intro v4 w4 oH yA G5
     obtain ⟨oE,L5,PK,Wc⟩:=BG (x:=x) R6 (zE _ _) yA oH
     obtain ⟨a4,c4,rfl⟩:=bq oH
     have RC:Kp pg wr wy:=fun d cs ty fr _ h2 _=>(eu.block _ (Nat.lt_of_lt_of_le (zA h2).1 Cn.size)).trans ((Cn.block _ (zA h2).1).trans h2)
     refine hK _ _ ⟨fun _=>PK,?_⟩
     clear hK K G5 oH yA
     simp only[Act.put,zL,zM,zN]
     refine aF 10 (by kernel_rfl) rfl (fun K hK=>?_)
     go_simp
     refine hK _ _ ⟨fun _=>PK,?_⟩
     clear hK K
     refine aF 11 (by kernel_rfl) rfl (fun K hK=>?_)
     go_simp
     refine hK _ _ ⟨fun _=>PK,?_⟩
     clear hK K
     refine aF 12 (by kernel_rfl) rfl (fun K hK=>?_)
     go_simp
     refine hK _ _ ⟨fun h=>absurd rfl h,?_⟩
     clear hK K PK Wc
     refine aZ (by kernel_rfl) ?_
     have yE:=al oE
     have yG:=al (((ab HK).trans RC).trans L5)
     clear oE L5 RC eu Cn R6 Ik KN Jx
     go_wp2
     go_roundg (s.size-(i+1))
     case measure=>have:=ab kq;have:=ab bu;omega
     case rel=>exact ⟨i+1,_,by go_num,rfl,ab bu,by show Pg _ _ _ _ _;rw[ab th];exact ab yE,yG⟩
    ·have d1:s.size≤i:=by omega
     have HF:Hid (L++aV n [s]=M2++[10]):=by
      show _=_
      rw[←ab SW,←ab HM,List.take_of_length_le (by rw[aY];omega)]
      unfold aV
      simp
     clear EM TA
     have Hd:=al d1
     clear d1
     have d2:¬(i:Int)<(s.size:Int):=by have:=ab Hd;omega
     go_wp2_with (at_builtin;refine wpList_append_own_at _ rfl _ _ 58 rfl W.heap.size 5 i0 (.int .u8 0) 1 1 Tryz.underlying58 hi gj dR c7 rfl (by decide) _ _ _ rfl ((ab HO).alloc _) ⟨wr.heap.size,0,none⟩ 1 1 [.int .u8 10] rfl rfl (cell_one_new _ _ _) (by simp[Value.oneCell']) (by have:=ab HZ;unfold maxLen;omega) (by have:=ab HZ;omega) (by have:=(ab HP).bW.size;rw[zJ];omega) ?_;intro v4 w4 oH yA _ G5;obtain ⟨oE,L5,PK,Wc⟩:=BG (x:=10) (ab HP) ((zE _ _).alloc (zD _) _) yA oH;obtain ⟨a4,c4,rfl⟩:=bq oH;have yE:=al oE;have yG:=al ((ab HK).trans L5);clear oH yA G5 oE L5)
     go_wp2
     go_end0
     exact ⟨rfl,⟨_,by rw[ab HF];exact ab yE⟩,ab yG⟩
end Go.Proofs.YtichhjfjcinjgaaGreatDoor
