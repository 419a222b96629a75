import Derived.Test.YtichhjfjcinjgaaGreatDoorYBe
set_option maxHeartbeats 4000000
set_option maxRecDepth 100000
namespace Go.Proofs.YtichhjfjcinjgaaGreatDoor
open Go.RowKit
attribute [local go_sem ↓] Go.wp_at_zero Go.wp_at_succ
def Me (s:ByteArray):Bool:=decide (1≤s.size)&&decide (s.size≤255)&&(match aI s with|x::_=>decide (isLet x) |[]=>false)&&(aI s).all (fun x=>decide (isLet x∨c7 x))
theorem sJ {s:ByteArray} (h:Me s=true):bD s=true:=by
 unfold Me at h
 simp only[Bool.and_eq_true,decide_eq_true_eq] at h
 obtain ⟨⟨⟨h1,h2⟩,h3⟩,h4⟩:=h
 refine @decide_eq_true _ (Classical.propDecidable _) ⟨⟨h1,h2⟩,fun x hx=>?_,fun j x hx=>?_⟩
 ·split at h3
  ·rename_i y r hy
   rw[hy] at hx
   obtain rfl:y=x:=by simpa using hx
   exact of_decide_eq_true h3
  ·cases h3
 ·exact of_decide_eq_true (List.all_eq_true.1 h4 x (List.mem_of_getElem? hx))
def MJ:Fd:=⟨1,⟨#[]⟩,⟨#[105,110,116,51,50]⟩,⟨#[97]⟩,1,0⟩
def Nx:Ms:=.mk ⟨#[77]⟩ [MJ] [] [] [] [] []
def Ox:Fl:=⟨⟨#[112]⟩,[],[Nx],[]⟩
def KX:ByteArray:=⟨#[115,121,110,116,97,120,32,61,32,34,112,114,111,116,111,51,34,59,10,112,97,99,107,97,103,101,32,112,59,10,109,101,115,115,97,103,101,32,77,32,123,10,32,32,105,110,116,51,50,32,97,32,61,32,49,59,10,125,10]⟩
theorem KV:dA ⟨#[112]⟩=true:=by
 unfold dA
 rw[show pieces ⟨#[112]⟩=[⟨#[112]⟩] by kernel_rfl]
 simp only[List.all_cons,List.all_nil,Bool.and_true]
 rw[sJ (by kernel_rfl)]
 rfl
theorem Nd:gZ ⟨#[105,110,116,51,50]⟩=true:=by
 unfold gZ dA
 rw[show kq ⟨#[105,110,116,51,50]⟩=⟨#[105,110,116,51,50]⟩ by kernel_rfl,show pieces ⟨#[105,110,116,51,50]⟩=[⟨#[105,110,116,51,50]⟩] by kernel_rfl]
 simp only[List.all_cons,List.all_nil,Bool.and_true]
 rw[sJ (by kernel_rfl)]
 rfl
theorem LG:cL MJ=true:=by
 unfold cL MJ
 simp only
 rw[Nd,sJ (s:=⟨#[97]⟩) (by kernel_rfl),show sT (fp ⟨#[105,110,116,51,50]⟩) (nZ ⟨1,⟨#[]⟩,⟨#[105,110,116,51,50]⟩,⟨#[97]⟩,1,0⟩)=false by kernel_rfl]
 unfold mE
 simp only[if_true,toList_data]
 rfl
theorem LF:(lU Ox).isSome=true:=by
 unfold lU Ox
 simp only
 rw[KV,Bool.or_true,if_pos rfl]
 have e1:ks (([]:List ByteArray).length+[Nx].length+([]:List En).length) 4096=some 4095:=by kernel_rfl
 have e2:ks ([MJ].length+([]:List ByteArray).length+([]:List Ms).length+([]:List En).length+([]:List (Int×Int)).length+([]:List ByteArray).length) 4095=some 4094:=by kernel_rfl
 have e3:uB ⟨#[77]⟩ [MJ] [] [] []=true:=by
  unfold uB
  simp only[List.all_cons,List.all_nil,Bool.and_true]
  rw[LG,sJ (s:=⟨#[77]⟩) (by kernel_rfl)]
  kernel_rfl
 rw[e1]
 simp only[List.all_nil,if_true]
 have e4:oa 32 Nx 4095=some 4094:=by
  show oa (31+1) (.mk ⟨#[77]⟩ [MJ] [] [] [] [] []) 4095=_
  rw[oa,e2]
  simp only
  rw[if_pos e3]
  rfl
 unfold kc
 rw[e4]
 rfl
theorem LD:gE (fG Ox)=KX:=by kernel_rfl
theorem Q4:(match jQ KX with|.inl _=>true|.inr _=>false)=true:=by kernel_rfl
theorem KB:fO Ox=(KX,0):=by
 unfold fO
 rw[if_pos LF,LD]
 have h:=Q4
 split at h
 ·rename_i ts hts;rw[hts]
 ·cases h
theorem ju (W:World) (x:Int):Calls Tryz.prog 9 #[.int .i64 x] W fun e w=>e=.returned (.int .i64 x)∧w=W:=by
 go_enter Tryz.func9,Tryz.ntmps9
 go_wp2
 go_ret
 exact ⟨rfl,rfl⟩
theorem VC:∀m ∈ Ox.ms,tG 32 m:=by
 intro m hm
 obtain rfl:m=Nx:=by simpa[Ox] using hm
 refine ⟨fun d hd=>?_,fun m hm=>by simp at hm⟩
 obtain rfl:d=MJ:=by simpa using hd
 decide
theorem o6 {W:World} (hM:gX W) (hE:jM W) (hP:il W) (hF:ir W):Calls Tryz.prog 6 #[] W fun e w=>e=.returned (.bool true)∧Below W.heap.size W w:=by
 obtain ⟨V0,Lv⟩:∃V,W.alloc (.cells #[.int .i64 1,.string ⟨#[]⟩,.string ⟨#[105,110,116,51,50]⟩,.string ⟨#[97]⟩,.int .i64 1,.int .i64 0] 42)=V:=⟨_,rfl⟩
 have k0:=aJ W (.cells #[.int .i64 1,.string ⟨#[]⟩,.string ⟨#[105,110,116,51,50]⟩,.string ⟨#[97]⟩,.int .i64 1,.int .i64 0] 42)
 have s0:=zJ W (.cells #[.int .i64 1,.string ⟨#[]⟩,.string ⟨#[105,110,116,51,50]⟩,.string ⟨#[97]⟩,.int .i64 1,.int .i64 0] 42)
 have b0:Below W.heap.size W (W.alloc (.cells #[.int .i64 1,.string ⟨#[]⟩,.string ⟨#[105,110,116,51,50]⟩,.string ⟨#[97]⟩,.int .i64 1,.int .i64 0] 42)):=(zE _ _).alloc (zD _) _
 rw[Lv] at k0 s0 b0
 obtain ⟨V,hV⟩:∃V',V0.alloc (.cells #[.string ⟨#[77]⟩,.slice (some ⟨W.heap.size,0,none⟩) 1 1,.slice none 0 0,.slice none 0 0,.slice none 0 0,.slice none 0 0,.slice none 0 0] 46)=V':=⟨_,rfl⟩
 have k1:=aJ V0 (.cells #[.string ⟨#[77]⟩,.slice (some ⟨W.heap.size,0,none⟩) 1 1,.slice none 0 0,.slice none 0 0,.slice none 0 0,.slice none 0 0,.slice none 0 0] 46)
 have b1:Below V0.heap.size V0 (V0.alloc (.cells #[.string ⟨#[77]⟩,.slice (some ⟨W.heap.size,0,none⟩) 1 1,.slice none 0 0,.slice none 0 0,.slice none 0 0,.slice none 0 0,.slice none 0 0] 46)):=(zE _ _).alloc (zD _) _
 rw[hV] at k1 b1
 have hb:Below W.heap.size W V:=b0.trans (b1.mono b0.size)
 have k2:=(b1.block _ (show W.heap.size<V0.heap.size by omega)).trans k0
 have l1:=(zA k1).1
 have l2:=(zA k2).1
 have ku:xE V (.agg #[.string ⟨#[112]⟩,.slice none 0 0,.slice (some ⟨V0.heap.size,0,none⟩) 1 1,.slice none 0 0]) Ox (.slice none 0 0) (.slice (some ⟨V0.heap.size,0,none⟩) 1 1) (.slice none 0 0) [.string ⟨#[77]⟩,.slice (some ⟨W.heap.size,0,none⟩) 1 1,.slice none 0 0,.slice none 0 0,.slice none 0 0,.slice none 0 0,.slice none 0 0] []:=by
  refine ⟨rfl,lF _ _,⟨_,_,rfl,by show 1≤_;omega,fun _=>⟨_,_,rfl,l1,fun j x hx=>?_⟩⟩,?_,lF _ _,.nil⟩
  ·rw[Nat.zero_add,cell_of_row _ _ _ _ _ _ k1,←Array.getElem?_toList]
   exact hx
  ·refine .cons (fs:=[MJ]) ⟨_,_,rfl,by show 1≤_;omega,fun _=>⟨_,_,rfl,l2,fun j x hx=>?_⟩⟩ (lF _ _) (lF _ _) .nil (lF _ _) .nil (lF _ _) (lF _ _) .nil
   rw[Nat.zero_add,cell_of_row _ _ _ _ _ _ k2,←Array.getElem?_toList]
   exact hx
 have HT:=al (kK (hM.up hb hM.1) (hE.up hb) (hP.up hb) (hF.up hb) ku VC)
 rw[KB] at HT
 have HB:=al hb
 have HS:=al s0
 unfold KX at HT
 clear hM hE hP hF k0 s0 b0 k1 b1 hb k2 l1 l2 ku
 go_enter Tryz.func6,Tryz.ntmps6
 go_wp2_with fail
 refine (ab HT).mono ?_
 rintro e w ⟨rfl,aX⟩
 have cO:=al ((ab HB).trans (aX.mono (ab HB).size))
 clear aX HT HB
 go_wp2_with fail
 refine (ju w 0).mono ?_
 rintro e w' ⟨rfl,rfl⟩
 go_wp2
 go_ret
 exact ⟨rfl,ab cO⟩
theorem NG {k:Nat} (h:k<10):bJ (k:Int)=gE [48+k]:=by
 unfold bJ Lib.itoa gE
 rw[if_neg (by omega),Int.toNat_natCast,Lib.decDigits_one h]
 rfl
theorem NF {k:Nat} (h:¬k<10):bJ (k:Int)=bJ ((k / 10:Nat):Int)++gE [48+k % 10]:=by
 unfold bJ Lib.itoa gE
 rw[if_neg (by omega),if_neg (by omega),Int.toNat_natCast,Int.toNat_natCast,Lib.decDigits,dif_neg h]
 apply ByteArray.ext
 apply Array.toList_inj.1
 simp
theorem ND {k:Nat} (h:0<k):bJ (-(k:Int))=⟨#[45]⟩++bJ (k:Int):=by
 unfold bJ Lib.itoa
 rw[if_pos (by omega),if_neg (by omega),Int.toNat_natCast]
 apply ByteArray.ext
 apply Array.toList_inj.1
 simp
theorem oM {w:World}{b k:Nat} (h:w.heap[b]?=some (.cells #[.int .u8 ((48+k:Nat):Int)] 5 (0,0))) (hk:k<10):(convert 58 9 (.slice (some ⟨b,0,none⟩) 1 1)).run Tryz.prog w=.ok (.string (gE [48+k])) w:=by
 refine k9 (l:=[48+k]) ?_ (fun x hx=>by obtain rfl:=List.mem_singleton.1 hx;omega)
 refine ⟨some ⟨b,0,none⟩,1,rfl,⟨zD _,by unfold maxLen;decide,fun e=>by cases e⟩,fun _=>⟨b,0,rfl,(zA h).1,fun i x hx=>?_⟩⟩
 rw[Nat.zero_add,cell_of_row _ _ _ _ _ _ h]
 match i,hx with
 |0,hx=>obtain rfl:=zC hx;rfl
 |i+1,hx=>simp at hx
theorem Nr (W:World) {k:Nat} (hk:k<10):Calls Tryz.prog 59 #[.int .i64 (k:Int)] W fun e w=>e=.returned (.string (bJ (k:Int)))∧Below W.heap.size W w:=by
 rw[NG hk]
 have hc:=oM (aJ W (.cells #[.int .u8 ((48+k:Nat):Int)] 5)) hk
 have HB:Hid (Below W.heap.size W (W.alloc (.cells #[.int .u8 ((48+k:Nat):Int)] 5))):=(zE _ _).alloc (zD _) _
 push_cast at hc HB
 have e0:decide ((k:Int)<0)=false:=decide_eq_false (by omega)
 have e1:decide ((k:Int)<10)=true:=decide_eq_true (by omega)
 go_enter Tryz.func59,Tryz.ntmps59
 go_wp2
 go_ret
 exact ⟨rfl,ab HB⟩
theorem Nq {k m y:Nat} (hk:¬k<10) (lZ:k≤1099511627776) (hm:k / 10=m) (hy:k % 10=y) (ih:∀W,Calls Tryz.prog 59 #[.int .i64 (m:Int)] W fun e w=>e=.returned (.string (bJ (m:Int)))∧Below W.heap.size W w) (W:World):Calls Tryz.prog 59 #[.int .i64 (k:Int)] W fun e w=>e=.returned (.string (bJ (k:Int)))∧Below W.heap.size W w:=by
 rw[NF hk,hm,hy]
 have HI:=al ih
 have e0:decide ((k:Int)<0)=false:=decide_eq_false (by omega)
 have e1:decide ((k:Int)<10)=false:=decide_eq_false (by omega)
 have sz:=cU (n:=(m:Int)) (by omega) (by omega)
 have sz2:(gE [48+y]).size=1:=rfl
 have AL:y<10:=by omega
 have P3:m≤1099511627776:=by omega
 have q1:(k:Int) / 10=(m:Int):=by omega
 have q2:(k:Int) % 10=(y:Int):=by omega
 have q3:Int.tdiv (k:Int) 10=(m:Int):=by rw[Int.tdiv_eq_ediv_of_nonneg (by omega)];exact q1
 have q4:Int.tmod (k:Int) 10=(y:Int):=by rw[Int.tmod_eq_emod_of_nonneg (by omega)];exact q2
 clear ih hm hy
 go_enter Tryz.func59,Tryz.ntmps59
 go_wp2_with fail
 refine wp_region_any (by kernel_rfl) (bL (z:=99) (T:=fun _=>True) _ _ _ _ ?_)
 try (change cd _ _ _ _ _ _ _ _ _ (World.drew _))
 have CM:Below W.heap.size W W.drew:=below_drewN (zE W.heap.size W) 1
 obtain ⟨wd,nD⟩:∃x,W.drew=x:=⟨_,rfl⟩
 rw[nD] at CM ⊢
 refine aw 0 (.int .i64 (k:Int)) 16 rfl rfl (Or.inl ⟨by rfl,fun w' _=>by go_simp⟩) trivial ?_
 simp only[Act.put,zL,zM,zN]
 refine aw 1 (.int .i64 (m:Int)) 17 rfl rfl (Or.inl ⟨by rfl,fun w' _=>by go_simp;try exact IntWalk.i64_in _ (by omega)⟩) trivial ?_
 simp only[Act.put,zL,zM,zN]
 refine aw 3 (.int .i64 (k:Int)) 19 rfl rfl (Or.inl ⟨by rfl,fun w' _=>by go_simp⟩) trivial ?_
 simp only[Act.put,zL,zM,zN]
 refine aw 4 (.int .i64 (y:Int)) 20 rfl rfl (Or.inl ⟨by rfl,fun w' _=>by go_simp;try exact IntWalk.i64_in _ (by omega)⟩) trivial ?_
 simp only[Act.put,zL,zM,zN]
 refine aw 5 (.int .i64 (48+(y:Int))) 21 rfl rfl (Or.inl ⟨by rfl,fun w' _=>by go_simp;try exact IntWalk.i64_in _ (by omega)⟩) trivial ?_
 simp only[Act.put,zL,zM,zN]
 refine aw 6 (.int .u8 (48+(y:Int))) 22 rfl rfl (Or.inl ⟨by rfl,fun w' _=>by go_simp;try exact IntWalk.u8_in _ (by omega)⟩) trivial ?_
 simp only[Act.put,zL,zM,zN]
 refine eC 2 7 (by kernel_rfl) rfl rfl (fun K hK=>?_) (fun K hK=>?_)
 ·refine aO 18 rfl rfl 59 (fun vs=>by kernel_rfl) #[.tmp 17] #[3] rfl #[.int .i64 (m:Int)] (by first|rfl|simp[Act.eval]) (ab HI wd) ?_
  rintro e' w1 ⟨rfl,aS⟩
  have aX:=CM.trans (aS.mono CM.size)
  refine ⟨_,rfl,hK _ _ ⟨fun _=>trivial,?_⟩⟩
  clear hK K aS
  simp only[Act.put,zL,zM,zN]
  refine aF 7 (by kernel_rfl) rfl (fun K hK=>?_)
  have kb:=aJ w1 (.cells #[.int .u8 (48+(y:Int))] 5)
  have bb:Below w1.heap.size w1 (w1.alloc (.cells #[.int .u8 (48+(y:Int))] 5)):=(zE _ _).alloc (zD _) _
  obtain ⟨w2,bN⟩:∃x,w1.alloc (.cells #[.int .u8 (48+(y:Int))] 5)=x:=⟨_,rfl⟩
  rw[bN] at kb bb
  go_simp
  have bd:=aX.trans (bb.mono aX.size)
  refine hK _ _ ⟨fun _=>trivial,?_⟩
  clear hK K
  try simp only[Act.put,zL,zM,zN]
  refine aF 8 (by kernel_rfl) rfl (fun K hK=>?_)
  have l7:=oM (k:=y) kb AL
  go_simp
  refine hK _ _ ⟨fun _=>trivial,?_⟩
  clear hK K l7
  refine aw 9 (.string (bJ (m:Int)++gE [48+y])) 25 rfl rfl (Or.inl ⟨by rfl,fun w' _=>by go_simp;try omega⟩) trivial ?_
  simp only[Act.put,zL,zM,zN]
  refine aw 10 (.string (bJ (m:Int)++gE [48+y])) 2 rfl rfl (Or.inl ⟨by rfl,fun w' _=>by go_simp⟩) trivial ?_
  simp only[Act.put,zL,zM,zN]
  refine a8 (by kernel_rfl) ?_
  have HB:=al bd
  clear HI
  go_wp2
  go_ret
  exact ⟨rfl,ab HB⟩
 ·have kb:=aJ wd (.cells #[.int .u8 (48+(y:Int))] 5)
  have bb:Below wd.heap.size wd (wd.alloc (.cells #[.int .u8 (48+(y:Int))] 5)):=(zE _ _).alloc (zD _) _
  obtain ⟨w2,bN⟩:∃x,wd.alloc (.cells #[.int .u8 (48+(y:Int))] 5)=x:=⟨_,rfl⟩
  rw[bN] at kb bb
  go_simp
  have bd:=CM.trans (bb.mono CM.size)
  refine hK _ _ ⟨fun _=>trivial,?_⟩
  clear hK K
  try simp only[Act.put,zL,zM,zN]
  refine eC 2 8 (by kernel_rfl) rfl rfl (fun K hK=>?_) (fun K hK=>?_)
  ·refine aO 18 rfl rfl 59 (fun vs=>by kernel_rfl) #[.tmp 17] #[3] rfl #[.int .i64 (m:Int)] (by first|rfl|simp[Act.eval]) (ab HI w2) ?_
   rintro e' w3 ⟨rfl,aS⟩
   have kb:=(aS.block _ (zA kb).1).trans kb
   have cz:=bd.trans (aS.mono bd.size)
   refine ⟨_,rfl,hK _ _ ⟨fun _=>trivial,?_⟩⟩
   clear hK K aS
   simp only[Act.put,zL,zM,zN]
   refine aF 8 (by kernel_rfl) rfl (fun K hK=>?_)
   have l7:=oM (k:=y) kb AL
   go_simp
   refine hK _ _ ⟨fun _=>trivial,?_⟩
   clear hK K l7
   refine aw 9 (.string (bJ (m:Int)++gE [48+y])) 25 rfl rfl (Or.inl ⟨by rfl,fun w' _=>by go_simp;try omega⟩) trivial ?_
   simp only[Act.put,zL,zM,zN]
   refine aw 10 (.string (bJ (m:Int)++gE [48+y])) 2 rfl rfl (Or.inl ⟨by rfl,fun w' _=>by go_simp⟩) trivial ?_
   simp only[Act.put,zL,zM,zN]
   refine a8 (by kernel_rfl) ?_
   have HB:=al cz
   clear HI
   go_wp2
   go_ret
   exact ⟨rfl,ab HB⟩
  ·have l7:=oM (k:=y) kb AL
   go_simp
   refine hK _ _ ⟨fun _=>trivial,?_⟩
   clear hK K l7
   refine aF 2 (by kernel_rfl) rfl (fun K hK=>?_)
   refine aO 18 rfl rfl 59 (fun vs=>by kernel_rfl) #[.tmp 17] #[3] rfl #[.int .i64 (m:Int)] (by first|rfl|simp[Act.eval]) (ab HI w2) ?_
   rintro e' w3 ⟨rfl,aS⟩
   have cz:=bd.trans (aS.mono bd.size)
   refine ⟨_,rfl,hK _ _ ⟨fun _=>trivial,?_⟩⟩
   clear hK K aS
   simp only[Act.put,zL,zM,zN]
   refine aw 9 (.string (bJ (m:Int)++gE [48+y])) 25 rfl rfl (Or.inl ⟨by rfl,fun w' _=>by go_simp;try omega⟩) trivial ?_
   simp only[Act.put,zL,zM,zN]
   refine aw 10 (.string (bJ (m:Int)++gE [48+y])) 2 rfl rfl (Or.inl ⟨by rfl,fun w' _=>by go_simp⟩) trivial ?_
   simp only[Act.put,zL,zM,zN]
   refine a8 (by kernel_rfl) ?_
   have HB:=al cz
   clear HI
   go_wp2
   go_ret
   exact ⟨rfl,ab HB⟩
theorem uu:∀(n k:Nat),k≤n→k≤1099511627776→∀W,Calls Tryz.prog 59 #[.int .i64 (k:Int)] W fun e w=>e=.returned (.string (bJ (k:Int)))∧Below W.heap.size W w
 |n,k,hn,h,W=>by
  by_cases hk:k<10
  ·exact Nr W hk
  ·match n with
   |0=>omega
   |n+1=>exact Nq hk h rfl rfl (uu n (k / 10) (by omega) (by omega)) W
theorem oI {n:Int} (h0:-1099511627776≤n) (h1:n≤1099511627776) (W:World):Calls Tryz.prog 59 #[.int .i64 n] W fun e w=>e=.returned (.string (bJ n))∧Below W.heap.size W w:=by
 by_cases hn:n<0
 ·obtain ⟨k,rfl⟩:∃k:Nat,n=-(k:Int):=⟨n.natAbs,by omega⟩
  rw[ND (by omega)]
  have HI:=al (uu k k (zD _) (by omega) W)
  have e0:decide (-(k:Int)<0)=true:=decide_eq_true hn
  have sz:=cU (n:=(k:Int)) (by omega) (by omega)
  have lZ:k≤1099511627776:=by omega
  have WB:0<k:=by omega
  clear hn h0 h1
  go_enter Tryz.func59,Tryz.ntmps59
  go_wp2_with fail
  refine (ab HI).mono ?_
  rintro e w ⟨rfl,hb⟩
  have HB:=al hb
  clear hb HI
  go_wp2
  go_ret
  exact ⟨rfl,ab HB⟩
 ·obtain ⟨k,rfl⟩:∃k:Nat,n=(k:Int):=⟨n.toNat,by omega⟩
  exact uu k k (zD _) (by omega) W
structure Pg (W:World) (pg:Nat) (L:List Nat) (v:Value) (w:World):Prop where
 bU:Below W.heap.size W w
 low:W.heap.size≤pg
 dt:w.heap[pg]?=some (.cells #[v] 60 (0,0))
 own:w.ownsRow W.heap.size 5 1 v L.length (nb L)
theorem Pg.below {W w w':World}{pg:Nat}{L:List Nat}{v:Value} (h:Pg W pg L v w) (hb:Below w.heap.size w w'):Pg W pg L v w' :=
 ⟨h.bU.trans (hb.mono h.bU.size),h.low,(hb.block _ (zA h.dt).1).trans h.dt,dL h.own hb⟩
theorem B9 {W w wy w2:World}{pg:Nat}{L:List Nat}{v v':Value}{x:Nat} (h:Pg W pg L v w) (hy:Below w.heap.size w wy) (hg:wy.grownBy w2 v.ownBlock) (ho:w2.ownsRow W.heap.size 5 1 v' (L.length+1) (nb L++[.int .u8 (x:Int)])) :
  Pg W pg (L++[x]) v' (w2.setCell ⟨pg,0,none⟩ v')∧Kp pg w (w2.setCell ⟨pg,0,none⟩ v')∧w2.cell? ⟨pg,0,none⟩=some v∧w2.frozen? ⟨pg,0,none⟩=false:=by
 have hP:=h.below hy
 have iP:=dR hP.own hP.dt (by decide)
 have bd:=(hg.block _ (zA hP.dt).1 (fun e=>iP e.symm)).trans hP.dt
 obtain ⟨q,g3⟩:=bh (j:=0) bd v'
 have ZZ:=cn hP.bU hg hP.bU.size (fun k e=>(hP.own.lt k e).1)
 refine ⟨⟨cn ZZ g3 ZZ.size (fun k e=>by obtain rfl:=zC e;exact h.low),h.low,q,?_⟩,fun d cs ty fr h1 h2 h3=>?_,cell_of_row _ _ _ _ _ _ bd,by simp[World.frozen?,bd]⟩
 ·have:=ho.kept g3 (.inr (dR ho bd (by decide)))
  rw[zK,kT]
  exact this
 ·have e1:=(hy.block _ (zA h2).1).trans h2
  have e2:=(hg.block _ (zA e1).1 (fun e=>dR hP.own e1 (fun e=>h3 e.symm) e.symm)).trans e1
  exact (g3.block _ (zA e2).1 (fun e=>h1 (zC e))).trans e2
def LZ (W:World) (pg:Nat) (L:List Nat) (w:World) (e:Ending) (w':World):Prop:=e=.returned (.tuple #[])∧(∃v,Pg W pg L v w')∧Kp pg w w'
theorem xX {W w:World}{pg:Nat}{L:List Nat}{v:Value} (h:Pg W pg L v w):∃a c,v=.slice a L.length c:=bq h.own
theorem dj {W w:World}{pg:Nat}{L:List Nat}{v:Value} (h:Pg W pg L v w) (n:Nat) (s:ByteArray) (hn:n≤500) (hl:L.length+2*n+s.size+1≤1099511627776) :
  Calls Tryz.prog 26 #[.pointer (some ⟨pg,0,none⟩),.int .i64 (n:Int),.string s] w (LZ W pg (L++aY n [s]) w):=by
 obtain ⟨i0,hi,fU,dS,da⟩:=info_parts Tryz.infoByte
 have HL:=al hl
 have JT:=al h
 clear h
 go_enter Tryz.func26,Tryz.ntmps26
 go_wp2
 go_loopg [6] (2*n) (fun gk v6 wr=>∃(i:Nat) (u:Value),v6=.int .i64 (i:Int)∧gk=2*n-i∧i≤2*n∧Hid (Pg W pg (L++List.replicate i 32) u wr)∧Hid (Kp pg w wr))
 case atStart=>exact ⟨0,v,rfl,rfl,by omega,by show Pg _ _ _ _ _;rw[List.replicate_zero,List.append_nil];exact ab JT,Kp.refl _ _⟩
 case round =>
  obtain ⟨i,u,rfl,aW,eV,HP,HK⟩:=hrel
  have bz:=al aW
  clear aW
  obtain ⟨ua,uc,rfl⟩:=xX (ab HP)
  have fR:(L++List.replicate i 32).length=L.length+i:=by rw[zK,List.length_replicate]
  obtain ⟨M,hM⟩:∃M,L++List.replicate i 32=M:=⟨_,rfl⟩
  rw[hM] at HP fR
  have HO:=al (ab HP).own
  have HZ:Hid (M.length+1≤1099511627776):=by have:=ab HL;show _≤_;omega
  have x0:wr.cell? ⟨pg,0,none⟩=some (.slice ua M.length uc):=cell_of_row _ _ _ _ _ _ (ab HP).dt
  have oC:=al fR
  have HM:=al hM
  clear fR hM
  by_cases aM:i<2*n
  ·have e0:decide ((i:Int)<2*(n:Int))=true:=decide_eq_true (by omega)
   have bu:=al aM
   clear aM
   go_wp2_with (at_builtin;refine wpList_append_own_at _ rfl _ _ 58 rfl W.heap.size 5 i0 (.int .u8 0) 1 1 Tryz.underlying58 hi fU dS da rfl (by decide) _ _ _ rfl ((ab HO).alloc _) ⟨wr.heap.size,0,none⟩ 1 1 [.int .u8 32] rfl rfl (cell_one_new _ _ _) (by simp[Value.oneCell']) (by have:=ab HZ;unfold maxLen;omega) (by have:=ab HZ;omega) (by have:=(ab HP).bU.size;rw[zJ];omega) ?_;intro v4 w4 oZ zc _ Iw;obtain ⟨oW,My,Qb,WH⟩:=B9 (x:=32) (ab HP) ((zE _ _).alloc (zD _) _) zc oZ;obtain ⟨a4,c4,rfl⟩:=bq oZ;have zg:=al oW;have zj:=al ((ab HK).trans My);clear oZ zc Iw oW My)
   go_wp2
   go_roundg (2*n-(i+1))
   case measure=>have:=ab bz;have:=ab bu;omega
   case rel=>exact ⟨i+1,_,by go_num,rfl,ab bu,by show Pg _ _ _ _ _;rw[List.replicate_succ',←List.append_assoc,ab HM];exact ab zg,zj⟩
  ·have e0:decide ((i:Int)<2*(n:Int))=false:=decide_eq_false (by omega)
   obtain rfl:i=2*n:=by omega
   obtain ⟨wo,iI⟩:∃x,x=wr:=⟨_,rfl⟩
   subst iI
   have HS:Hid (M.length+s.size+1≤1099511627776):=by have:=ab HL;have:=ab oC;show _≤_;omega
   clear HO HZ x0 aM
   go_wp2
   go_loopg [7] s.size (fun gk v7 wr=>∃(i:Nat) (u:Value),v7=.int .i64 (i:Int)∧gk=s.size-i∧i≤s.size∧Hid (Pg W pg (M++(aI s).take i) u wr)∧Hid (Kp pg w wr))
   case atStart=>exact ⟨0,_,rfl,rfl,by omega,by show Pg _ _ _ _ _;rw[List.take_zero,List.append_nil];exact ab HP,HK⟩
   case round =>
    obtain ⟨i,u,rfl,gL,II,fH,fI⟩:=hrel
    have kH:=al gL
    clear gL HP HK
    have HP:=fH
    have HK:=fI
    clear fH fI
    obtain ⟨ub,ud,rfl⟩:=xX (ab HP)
    have Ff:(M++(aI s).take i).length=M.length+i:=by rw[zK,List.length_take,aZ];omega
    obtain ⟨M2,TZ⟩:∃M2,M++(aI s).take i=M2:=⟨_,rfl⟩
    rw[TZ] at HP Ff
    have HO:=al (ab HP).own
    have HZ:Hid (M2.length+1≤1099511627776):=by have:=ab HS;show _≤_;omega
    have x0:wr.cell? ⟨pg,0,none⟩=some (.slice ub M2.length ud):=cell_of_row _ _ _ _ _ _ (ab HP).dt
    have Tl:=al TZ
    by_cases aM:i<s.size
    ·obtain ⟨x,hx,c8,gx⟩:=cj s i aM
     have tJ:Hid (M++(aI s).take (i+1)=M2++[x]):=by
      show _=_
      rw[bM hx,←List.append_assoc,ab Tl]
     have bu:=al aM
     have Mr:(0:Int)≤(i:Int):=zH _
     have i1':(i:Int)<(s.size:Int):=by omega
     clear Ff TZ hx
     go_upto_region 7 with fail
     refine wp_region_any (by kernel_rfl) (bL (z:=12) (T:=fun w'=>w'.cell? ⟨pg,0,none⟩=some (.slice ub M2.length ud)) _ _ _ _ ?_)
     try (change cd _ _ _ _ _ _ _ _ _ (World.drew _))
     have IU:=(ab HP).below (below_drewN (zE wr.heap.size wr) 1)
     have CM:Below wr.heap.size wr wr.drew:=below_drewN (zE wr.heap.size wr) 1
     change Pg W pg M2 _ wr.drew at IU
     obtain ⟨wd,nD⟩:∃x,wr.drew=x:=⟨_,rfl⟩
     rw[nD] at IU CM ⊢
     have hT:wd.cell? ⟨pg,0,none⟩=some (.slice ub M2.length ud):=cell_of_row _ _ _ _ _ _ IU.dt
     clear x0
     refine aw 0 (.pointer (some ⟨pg,0,none⟩)) 29 rfl rfl (Or.inl ⟨by rfl,fun w' (hw:w'.cell? ⟨pg,0,none⟩=some (.slice ub M2.length ud))=>by go_simp⟩) hT ?_
     simp only[Act.put,zL,zM,zN]
     refine aw 1 (.pointer (some ⟨pg,0,none⟩)) 30 rfl rfl (Or.inl ⟨by rfl,fun w' (hw:w'.cell? ⟨pg,0,none⟩=some (.slice ub M2.length ud))=>by go_simp⟩) hT ?_
     simp only[Act.put,zL,zM,zN]
     refine aw 2 (.pointer (some ⟨pg,0,none⟩)) 31 rfl rfl (Or.inl ⟨by rfl,fun w' (hw:w'.cell? ⟨pg,0,none⟩=some (.slice ub M2.length ud))=>by go_simp⟩) hT ?_
     simp only[Act.put,zL,zM,zN]
     refine aw 3 (.pointer (some ⟨pg,0,none⟩)) 32 rfl rfl (Or.inl ⟨by rfl,fun w' (hw:w'.cell? ⟨pg,0,none⟩=some (.slice ub M2.length ud))=>by go_simp⟩) hT ?_
     simp only[Act.put,zL,zM,zN]
     refine aw 4 (.slice ub M2.length ud) 33 rfl rfl (Or.inl ⟨by rfl,fun w' (hw:w'.cell? ⟨pg,0,none⟩=some (.slice ub M2.length ud))=>by go_simp⟩) hT ?_
     simp only[Act.put,zL,zM,zN]
     refine aw 5 (.string s) 34 rfl rfl (Or.inl ⟨by rfl,fun w' (hw:w'.cell? ⟨pg,0,none⟩=some (.slice ub M2.length ud))=>by go_simp⟩) hT ?_
     simp only[Act.put,zL,zM,zN]
     refine aw 6 (.int .i64 (i:Int)) 35 rfl rfl (Or.inl ⟨by rfl,fun w' (hw:w'.cell? ⟨pg,0,none⟩=some (.slice ub M2.length ud))=>by go_simp⟩) hT ?_
     simp only[Act.put,zL,zM,zN]
     refine aw 7 (.int .u8 (x:Int)) 36 rfl rfl (Or.inl ⟨by rfl,fun w' (hw:w'.cell? ⟨pg,0,none⟩=some (.slice ub M2.length ud))=>by go_simp⟩) hT ?_
     simp only[Act.put,zL,zM,zN]
     have ey:Below wd.heap.size wd (wd.alloc (.cells #[.int .u8 (x:Int)] 5)):=(zE _ _).alloc (zD _) _
     have Lk:=cell_one_new wd (.int .u8 (x:Int)) 5
     obtain ⟨wy,J5⟩:∃z,wd.alloc (.cells #[.int .u8 (x:Int)] 5)=z:=⟨_,rfl⟩
     rw[J5] at ey Lk
     have Sx:=IU.below ey
     refine aF 8 (by kernel_rfl) rfl (fun K hK=>?_)
     go_simp
     refine hK _ _ ⟨fun _=>cell_of_row _ _ _ _ _ _ Sx.dt,?_⟩
     clear hK K hT
     refine aF 9 (by kernel_rfl) rfl (fun K hK=>?_)
     refine lB 38 rfl rfl (.tmp 33) (.tmp 37) 58 rfl W.heap.size 5 i0 (.int .u8 0) 1 1 Tryz.underlying58 hi fU dS da rfl (by decide) (.slice ub M2.length ud) M2.length _ (by first|rfl|simp[Act.eval]) Sx.own ⟨wd.heap.size,0,none⟩ 1 1 [.int .u8 (x:Int)] (by first|rfl|simp[Act.eval]) rfl Lk (by simp[Value.oneCell']) (by have:=ab HZ;unfold maxLen;omega) (by have:=ab HZ;omega) Sx.bU.size ?_
     intro v4 w4 oZ zc Iw
     obtain ⟨oW,My,Qb,WH⟩:=B9 (x:=x) Sx (zE _ _) zc oZ
     obtain ⟨a4,c4,rfl⟩:=bq oZ
     have R7:Kp pg wr wy:=fun d cs ty fr _ h2 _=>(ey.block _ (Nat.lt_of_lt_of_le (zA h2).1 CM.size)).trans ((CM.block _ (zA h2).1).trans h2)
     refine hK _ _ ⟨fun _=>Qb,?_⟩
     clear hK K Iw oZ zc
     simp only[Act.put,zL,zM,zN]
     refine aF 10 (by kernel_rfl) rfl (fun K hK=>?_)
     go_simp
     refine hK _ _ ⟨fun _=>Qb,?_⟩
     clear hK K
     refine aF 11 (by kernel_rfl) rfl (fun K hK=>?_)
     go_simp
     refine hK _ _ ⟨fun _=>Qb,?_⟩
     clear hK K
     refine aF 12 (by kernel_rfl) rfl (fun K hK=>?_)
     go_simp
     refine hK _ _ ⟨fun h=>absurd rfl h,?_⟩
     clear hK K Qb WH
     refine a8 (by kernel_rfl) ?_
     have zg:=al oW
     have zj:=al (((ab HK).trans R7).trans My)
     clear oW My R7 ey CM Sx IU Lk J5
     go_wp2
     go_roundg (s.size-(i+1))
     case measure=>have:=ab kH;have:=ab bu;omega
     case rel=>exact ⟨i+1,_,by go_num,rfl,ab bu,by show Pg _ _ _ _ _;rw[ab tJ];exact ab zg,zj⟩
    ·have d1:s.size≤i:=by omega
     have HF:Hid (L++aY n [s]=M2++[10]):=by
      show _=_
      rw[←ab Tl,←ab HM,List.take_of_length_le (by rw[aZ];omega)]
      unfold aY
      simp
     clear Ff TZ
     have Hd:=al d1
     clear d1
     have d2:¬(i:Int)<(s.size:Int):=by have:=ab Hd;omega
     go_wp2_with (at_builtin;refine wpList_append_own_at _ rfl _ _ 58 rfl W.heap.size 5 i0 (.int .u8 0) 1 1 Tryz.underlying58 hi fU dS da rfl (by decide) _ _ _ rfl ((ab HO).alloc _) ⟨wr.heap.size,0,none⟩ 1 1 [.int .u8 10] rfl rfl (cell_one_new _ _ _) (by simp[Value.oneCell']) (by have:=ab HZ;unfold maxLen;omega) (by have:=ab HZ;omega) (by have:=(ab HP).bU.size;rw[zJ];omega) ?_;intro v4 w4 oZ zc _ Iw;obtain ⟨oW,My,Qb,WH⟩:=B9 (x:=10) (ab HP) ((zE _ _).alloc (zD _) _) zc oZ;obtain ⟨a4,c4,rfl⟩:=bq oZ;have zg:=al oW;have zj:=al ((ab HK).trans My);clear oZ zc Iw oW My)
     go_wp2
     go_end0
     exact ⟨rfl,⟨_,by rw[ab HF];exact ab zg⟩,ab zj⟩
end Go.Proofs.YtichhjfjcinjgaaGreatDoor
