import Derived.Test.YtichhjfjcinjgaaGreatDoorYBe
set_option maxHeartbeats 4000000
set_option maxRecDepth 100000
namespace Go.Proofs.YtichhjfjcinjgaaGreatDoor
open Go.RowKit
attribute [local go_sem ↓] Go.wp_at_zero Go.wp_at_succ
def Ly (s:ByteArray):Bool:=decide (1≤s.size)&&decide (s.size≤255)&&(match aI s with|x::_=>decide (isLet x) |[]=>false)&&(aI s).all (fun x=>decide (isLet x∨cX x))
theorem sf {s:ByteArray} (h:Ly s=true):bD s=true:=by
 unfold Ly at h
 simp only[Bool.and_eq_true,decide_eq_true_eq] at h
 obtain ⟨⟨⟨h1,h2⟩,h3⟩,h4⟩:=h
 refine @decide_eq_true _ (Classical.propDecidable _) ⟨⟨h1,h2⟩,fun x hx=>?_,fun j x hx=>?_⟩
 ·split at h3
  ·rename_i y r hy
   rw[hy] at hx
   obtain rfl:y=x:=by simpa using hx
   exact of_decide_eq_true h3
  ·cases h3
 ·exact of_decide_eq_true (List.all_eq_true.1 h4 x (List.mem_of_getElem? hx))
def L8:Fd:=⟨1,⟨#[]⟩,⟨#[105,110,116,51,50]⟩,⟨#[97]⟩,1,0⟩
def MT:Ms:=.mk ⟨#[77]⟩ [L8] [] [] [] [] []
def NQ:Fl:=⟨⟨#[112]⟩,[],[MT],[]⟩
def Kd:ByteArray:=⟨#[115,121,110,116,97,120,32,61,32,34,112,114,111,116,111,51,34,59,10,112,97,99,107,97,103,101,32,112,59,10,109,101,115,115,97,103,101,32,77,32,123,10,32,32,105,110,116,51,50,32,97,32,61,32,49,59,10,125,10]⟩
theorem Ka:dv ⟨#[112]⟩=true:=by
 unfold dv
 rw[show pieces ⟨#[112]⟩=[⟨#[112]⟩] by kernel_rfl]
 simp only[List.all_cons,List.all_nil,Bool.and_true]
 rw[sf (by kernel_rfl)]
 rfl
theorem MC:gQ ⟨#[105,110,116,51,50]⟩=true:=by
 unfold gQ dv
 rw[show jZ ⟨#[105,110,116,51,50]⟩=⟨#[105,110,116,51,50]⟩ by kernel_rfl,show pieces ⟨#[105,110,116,51,50]⟩=[⟨#[105,110,116,51,50]⟩] by kernel_rfl]
 simp only[List.all_cons,List.all_nil,Bool.and_true]
 rw[sf (by kernel_rfl)]
 rfl
theorem K4:cI L8=true:=by
 unfold cI L8
 simp only
 rw[MC,sf (s:=⟨#[97]⟩) (by kernel_rfl),show su (fa ⟨#[105,110,116,51,50]⟩) (nB ⟨1,⟨#[]⟩,⟨#[105,110,116,51,50]⟩,⟨#[97]⟩,1,0⟩)=false by kernel_rfl]
 unfold mf
 simp only[if_true,toList_data]
 rfl
theorem KZ:(lB NQ).isSome=true:=by
 unfold lB NQ
 simp only
 rw[Ka,Bool.or_true,if_pos rfl]
 have e1:j4 (([]:List ByteArray).length+[MT].length+([]:List En).length) 4096=some 4095:=by kernel_rfl
 have e2:j4 ([L8].length+([]:List ByteArray).length+([]:List Ms).length+([]:List En).length+([]:List (Int×Int)).length+([]:List ByteArray).length) 4095=some 4094:=by kernel_rfl
 have e3:tI ⟨#[77]⟩ [L8] [] [] []=true:=by
  unfold tI
  simp only[List.all_cons,List.all_nil,Bool.and_true]
  rw[K4,sf (s:=⟨#[77]⟩) (by kernel_rfl)]
  kernel_rfl
 rw[e1]
 simp only[List.all_nil,if_true]
 have e4:nD 32 MT 4095=some 4094:=by
  show nD (31+1) (.mk ⟨#[77]⟩ [L8] [] [] [] [] []) 4095=_
  rw[nD,e2]
  simp only
  rw[if_pos e3]
  rfl
 unfold jR
 rw[e4]
 rfl
theorem KY:gp (fx NQ)=Kd:=by kernel_rfl
theorem Qq:(match jA Kd with|.inl _=>true|.inr _=>false)=true:=by kernel_rfl
theorem JQ:kl NQ=(Kd,0):=by
 unfold kl
 rw[if_pos KZ,KY]
 have h:=Qq
 split at h
 ·rename_i ts hts;rw[hts]
 ·cases h
theorem og (W:World) (x:Int):Calls Tryz.prog 9 #[.int .i64 x] W fun e w=>e=.returned (.int .i64 x)∧w=W:=by
 go_enter Tryz.func9,Tryz.ntmps9
 go_wp2
 go_ret
 exact ⟨rfl,rfl⟩
theorem U3:∀m ∈ NQ.ms,wV 32 m:=by
 intro m hm
 obtain rfl:m=MT:=by simpa[NQ] using hm
 refine ⟨fun d hd=>?_,fun m hm=>by simp at hm⟩
 obtain rfl:d=L8:=by simpa using hd
 decide
theorem Ai {W:World} (hM:iB W) (hE:jW W) (hP:iY W) (hF:jw W):Calls Tryz.prog 6 #[] W fun e w=>e=.returned (.bool true)∧Below W.heap.size W w:=by
 obtain ⟨V0,KS⟩:∃V,W.alloc (.cells #[.int .i64 1,.string ⟨#[]⟩,.string ⟨#[105,110,116,51,50]⟩,.string ⟨#[97]⟩,.int .i64 1,.int .i64 0] 42)=V:=⟨_,rfl⟩
 have k0:=aK W (.cells #[.int .i64 1,.string ⟨#[]⟩,.string ⟨#[105,110,116,51,50]⟩,.string ⟨#[97]⟩,.int .i64 1,.int .i64 0] 42)
 have s0:=zJ W (.cells #[.int .i64 1,.string ⟨#[]⟩,.string ⟨#[105,110,116,51,50]⟩,.string ⟨#[97]⟩,.int .i64 1,.int .i64 0] 42)
 have b0:Below W.heap.size W (W.alloc (.cells #[.int .i64 1,.string ⟨#[]⟩,.string ⟨#[105,110,116,51,50]⟩,.string ⟨#[97]⟩,.int .i64 1,.int .i64 0] 42)):=(zE _ _).alloc (zD _) _
 rw[KS] at k0 s0 b0
 obtain ⟨V,hV⟩:∃V',V0.alloc (.cells #[.string ⟨#[77]⟩,.slice (some ⟨W.heap.size,0,none⟩) 1 1,.slice none 0 0,.slice none 0 0,.slice none 0 0,.slice none 0 0,.slice none 0 0] 46)=V':=⟨_,rfl⟩
 have k1:=aK V0 (.cells #[.string ⟨#[77]⟩,.slice (some ⟨W.heap.size,0,none⟩) 1 1,.slice none 0 0,.slice none 0 0,.slice none 0 0,.slice none 0 0,.slice none 0 0] 46)
 have b1:Below V0.heap.size V0 (V0.alloc (.cells #[.string ⟨#[77]⟩,.slice (some ⟨W.heap.size,0,none⟩) 1 1,.slice none 0 0,.slice none 0 0,.slice none 0 0,.slice none 0 0,.slice none 0 0] 46)):=(zE _ _).alloc (zD _) _
 rw[hV] at k1 b1
 have hb:Below W.heap.size W V:=b0.trans (b1.mono b0.size)
 have k2:=(b1.block _ (show W.heap.size<V0.heap.size by omega)).trans k0
 have l1:=(zA k1).1
 have l2:=(zA k2).1
 have j6:A6 V (.agg #[.string ⟨#[112]⟩,.slice none 0 0,.slice (some ⟨V0.heap.size,0,none⟩) 1 1,.slice none 0 0]) NQ (.slice none 0 0) (.slice (some ⟨V0.heap.size,0,none⟩) 1 1) (.slice none 0 0) [.string ⟨#[77]⟩,.slice (some ⟨W.heap.size,0,none⟩) 1 1,.slice none 0 0,.slice none 0 0,.slice none 0 0,.slice none 0 0,.slice none 0 0] []:=by
  refine ⟨rfl,kZ _ _,⟨_,_,rfl,by show 1≤_;omega,fun _=>⟨_,_,rfl,l1,fun j x hx=>?_⟩⟩,?_,kZ _ _,.nil⟩
  ·rw[Nat.zero_add,cell_of_row _ _ _ _ _ _ k1,←Array.getElem?_toList]
   exact hx
  ·refine .cons (fs:=[L8]) ⟨_,_,rfl,by show 1≤_;omega,fun _=>⟨_,_,rfl,l2,fun j x hx=>?_⟩⟩ (kZ _ _) (kZ _ _) .nil (kZ _ _) .nil (kZ _ _) (kZ _ _) .nil
   rw[Nat.zero_add,cell_of_row _ _ _ _ _ _ k2,←Array.getElem?_toList]
   exact hx
 have HT:=al (lS (hM.up hb hM.1) (hE.up hb) (hP.up hb) (hF.up hb) j6 U3)
 rw[JQ] at HT
 have HB:=al hb
 have HS:=al s0
 unfold Kd at HT
 clear hM hE hP hF k0 s0 b0 k1 b1 hb k2 l1 l2 j6
 go_enter Tryz.func6,Tryz.ntmps6
 go_wp2_with fail
 refine (ab HT).mono ?_
 rintro e w ⟨rfl,aY⟩
 have cM:=al ((ab HB).trans (aY.mono (ab HB).size))
 clear aY HT HB
 go_wp2_with fail
 refine (og w 0).mono ?_
 rintro e w' ⟨rfl,rfl⟩
 go_wp2
 go_ret
 exact ⟨rfl,ab cM⟩
theorem M4 {k:Nat} (h:k<10):bH (k:Int)=gp [48+k]:=by
 unfold bH Lib.itoa gp
 rw[if_neg (by omega),Int.toNat_natCast,Lib.decDigits_one h]
 rfl
theorem M3 {k:Nat} (h:¬k<10):bH (k:Int)=bH ((k / 10:Nat):Int)++gp [48+k % 10]:=by
 unfold bH Lib.itoa gp
 rw[if_neg (by omega),if_neg (by omega),Int.toNat_natCast,Int.toNat_natCast,Lib.decDigits,dif_neg h]
 apply ByteArray.ext
 apply Array.toList_inj.1
 simp
theorem MZ {k:Nat} (h:0<k):bH (-(k:Int))=⟨#[45]⟩++bH (k:Int):=by
 unfold bH Lib.itoa
 rw[if_pos (by omega),if_neg (by omega),Int.toNat_natCast]
 apply ByteArray.ext
 apply Array.toList_inj.1
 simp
theorem n8 {w:World}{b k:Nat} (h:w.heap[b]?=some (.cells #[.int .u8 ((48+k:Nat):Int)] 5 (0,0))) (hk:k<10):(convert 58 9 (.slice (some ⟨b,0,none⟩) 1 1)).run Tryz.prog w=.ok (.string (gp [48+k])) w:=by
 refine kJ (l:=[48+k]) ?_ (fun x hx=>by obtain rfl:=List.mem_singleton.1 hx;omega)
 refine ⟨some ⟨b,0,none⟩,1,rfl,⟨zD _,by unfold maxLen;decide,fun e=>by cases e⟩,fun _=>⟨b,0,rfl,(zA h).1,fun i x hx=>?_⟩⟩
 rw[Nat.zero_add,cell_of_row _ _ _ _ _ _ h]
 match i,hx with
 |0,hx=>obtain rfl:=zC hx;rfl
 |i+1,hx=>simp at hx
theorem MN (W:World) {k:Nat} (hk:k<10):Calls Tryz.prog 59 #[.int .i64 (k:Int)] W fun e w=>e=.returned (.string (bH (k:Int)))∧Below W.heap.size W w:=by
 rw[M4 hk]
 have hc:=n8 (aK W (.cells #[.int .u8 ((48+k:Nat):Int)] 5)) hk
 have HB:Hid (Below W.heap.size W (W.alloc (.cells #[.int .u8 ((48+k:Nat):Int)] 5))):=(zE _ _).alloc (zD _) _
 push_cast at hc HB
 have e0:decide ((k:Int)<0)=false:=decide_eq_false (by omega)
 have e1:decide ((k:Int)<10)=true:=decide_eq_true (by omega)
 go_enter Tryz.func59,Tryz.ntmps59
 go_wp2
 go_ret
 exact ⟨rfl,ab HB⟩
theorem MM {k m y:Nat} (hk:¬k<10) (lG:k≤1099511627776) (hm:k / 10=m) (hy:k % 10=y) (ih:∀W,Calls Tryz.prog 59 #[.int .i64 (m:Int)] W fun e w=>e=.returned (.string (bH (m:Int)))∧Below W.heap.size W w) (W:World):Calls Tryz.prog 59 #[.int .i64 (k:Int)] W fun e w=>e=.returned (.string (bH (k:Int)))∧Below W.heap.size W w:=by
 rw[M3 hk,hm,hy]
 have HI:=al ih
 have e0:decide ((k:Int)<0)=false:=decide_eq_false (by omega)
 have e1:decide ((k:Int)<10)=false:=decide_eq_false (by omega)
 have sz:=cQ (n:=(m:Int)) (by omega) (by omega)
 have sz2:(gp [48+y]).size=1:=rfl
 have Ab:y<10:=by omega
 have Pl:m≤1099511627776:=by omega
 have q1:(k:Int) / 10=(m:Int):=by omega
 have q2:(k:Int) % 10=(y:Int):=by omega
 have q3:Int.tdiv (k:Int) 10=(m:Int):=by rw[Int.tdiv_eq_ediv_of_nonneg (by omega)];exact q1
 have q4:Int.tmod (k:Int) 10=(y:Int):=by rw[Int.tmod_eq_emod_of_nonneg (by omega)];exact q2
 clear ih hm hy
 go_enter Tryz.func59,Tryz.ntmps59
 go_wp2_with fail
 refine wp_region_any (by kernel_rfl) (bK (z:=99) (T:=fun _=>True) _ _ _ _ ?_)
 try (change bZ _ _ _ _ _ _ _ _ _ (World.drew _))
 have Cd:Below W.heap.size W W.drew:=below_drewN (zE W.heap.size W) 1
 obtain ⟨wd,mW⟩:∃x,W.drew=x:=⟨_,rfl⟩
 rw[mW] at Cd ⊢
 refine aw 0 (.int .i64 (k:Int)) 16 rfl rfl (Or.inl ⟨by rfl,fun w' _=>by go_simp⟩) trivial ?_
 simp only[Act.put,zL,zM,zN]
 refine aw 1 (.int .i64 (m:Int)) 17 rfl rfl (Or.inl ⟨by rfl,fun w' _=>by go_simp;try exact IntWalk.i64_in _ (by omega)⟩) trivial ?_
 simp only[Act.put,zL,zM,zN]
 refine aw 3 (.int .i64 (k:Int)) 19 rfl rfl (Or.inl ⟨by rfl,fun w' _=>by go_simp⟩) trivial ?_
 simp only[Act.put,zL,zM,zN]
 refine aw 4 (.int .i64 (y:Int)) 20 rfl rfl (Or.inl ⟨by rfl,fun w' _=>by go_simp;try exact IntWalk.i64_in _ (by omega)⟩) trivial ?_
 simp only[Act.put,zL,zM,zN]
 refine aw 5 (.int .i64 (48+(y:Int))) 21 rfl rfl (Or.inl ⟨by rfl,fun w' _=>by go_simp;try exact IntWalk.i64_in _ (by omega)⟩) trivial ?_
 simp only[Act.put,zL,zM,zN]
 refine aw 6 (.int .u8 (48+(y:Int))) 22 rfl rfl (Or.inl ⟨by rfl,fun w' _=>by go_simp;try exact IntWalk.u8_in _ (by omega)⟩) trivial ?_
 simp only[Act.put,zL,zM,zN]
 refine ew 2 7 (by kernel_rfl) rfl rfl (fun K hK=>?_) (fun K hK=>?_)
 ·refine aO 18 rfl rfl 59 (fun vs=>by kernel_rfl) #[.tmp 17] #[3] rfl #[.int .i64 (m:Int)] (by first|rfl|simp[Act.eval]) (ab HI wd) ?_
  rintro e' w1 ⟨rfl,aR⟩
  have aY:=Cd.trans (aR.mono Cd.size)
  refine ⟨_,rfl,hK _ _ ⟨fun _=>trivial,?_⟩⟩
  clear hK K aR
  simp only[Act.put,zL,zM,zN]
  refine aF 7 (by kernel_rfl) rfl (fun K hK=>?_)
  have kb:=aK w1 (.cells #[.int .u8 (48+(y:Int))] 5)
  have bb:Below w1.heap.size w1 (w1.alloc (.cells #[.int .u8 (48+(y:Int))] 5)):=(zE _ _).alloc (zD _) _
  obtain ⟨w2,bM⟩:∃x,w1.alloc (.cells #[.int .u8 (48+(y:Int))] 5)=x:=⟨_,rfl⟩
  rw[bM] at kb bb
  go_simp
  have bd:=aY.trans (bb.mono aY.size)
  refine hK _ _ ⟨fun _=>trivial,?_⟩
  clear hK K
  try simp only[Act.put,zL,zM,zN]
  refine aF 8 (by kernel_rfl) rfl (fun K hK=>?_)
  have lH:=n8 (k:=y) kb Ab
  go_simp
  refine hK _ _ ⟨fun _=>trivial,?_⟩
  clear hK K lH
  refine aw 9 (.string (bH (m:Int)++gp [48+y])) 25 rfl rfl (Or.inl ⟨by rfl,fun w' _=>by go_simp;try omega⟩) trivial ?_
  simp only[Act.put,zL,zM,zN]
  refine aw 10 (.string (bH (m:Int)++gp [48+y])) 2 rfl rfl (Or.inl ⟨by rfl,fun w' _=>by go_simp⟩) trivial ?_
  simp only[Act.put,zL,zM,zN]
  refine aZ (by kernel_rfl) ?_
  have HB:=al bd
  clear HI
  go_wp2
  go_ret
  exact ⟨rfl,ab HB⟩
 ·have kb:=aK wd (.cells #[.int .u8 (48+(y:Int))] 5)
  have bb:Below wd.heap.size wd (wd.alloc (.cells #[.int .u8 (48+(y:Int))] 5)):=(zE _ _).alloc (zD _) _
  obtain ⟨w2,bM⟩:∃x,wd.alloc (.cells #[.int .u8 (48+(y:Int))] 5)=x:=⟨_,rfl⟩
  rw[bM] at kb bb
  go_simp
  have bd:=Cd.trans (bb.mono Cd.size)
  refine hK _ _ ⟨fun _=>trivial,?_⟩
  clear hK K
  try simp only[Act.put,zL,zM,zN]
  refine ew 2 8 (by kernel_rfl) rfl rfl (fun K hK=>?_) (fun K hK=>?_)
  ·refine aO 18 rfl rfl 59 (fun vs=>by kernel_rfl) #[.tmp 17] #[3] rfl #[.int .i64 (m:Int)] (by first|rfl|simp[Act.eval]) (ab HI w2) ?_
   rintro e' w3 ⟨rfl,aR⟩
   have kb:=(aR.block _ (zA kb).1).trans kb
   have cC:=bd.trans (aR.mono bd.size)
   refine ⟨_,rfl,hK _ _ ⟨fun _=>trivial,?_⟩⟩
   clear hK K aR
   simp only[Act.put,zL,zM,zN]
   refine aF 8 (by kernel_rfl) rfl (fun K hK=>?_)
   have lH:=n8 (k:=y) kb Ab
   go_simp
   refine hK _ _ ⟨fun _=>trivial,?_⟩
   clear hK K lH
   refine aw 9 (.string (bH (m:Int)++gp [48+y])) 25 rfl rfl (Or.inl ⟨by rfl,fun w' _=>by go_simp;try omega⟩) trivial ?_
   simp only[Act.put,zL,zM,zN]
   refine aw 10 (.string (bH (m:Int)++gp [48+y])) 2 rfl rfl (Or.inl ⟨by rfl,fun w' _=>by go_simp⟩) trivial ?_
   simp only[Act.put,zL,zM,zN]
   refine aZ (by kernel_rfl) ?_
   have HB:=al cC
   clear HI
   go_wp2
   go_ret
   exact ⟨rfl,ab HB⟩
  ·have lH:=n8 (k:=y) kb Ab
   go_simp
   refine hK _ _ ⟨fun _=>trivial,?_⟩
   clear hK K lH
   refine aF 2 (by kernel_rfl) rfl (fun K hK=>?_)
   refine aO 18 rfl rfl 59 (fun vs=>by kernel_rfl) #[.tmp 17] #[3] rfl #[.int .i64 (m:Int)] (by first|rfl|simp[Act.eval]) (ab HI w2) ?_
   rintro e' w3 ⟨rfl,aR⟩
   have cC:=bd.trans (aR.mono bd.size)
   refine ⟨_,rfl,hK _ _ ⟨fun _=>trivial,?_⟩⟩
   clear hK K aR
   simp only[Act.put,zL,zM,zN]
   refine aw 9 (.string (bH (m:Int)++gp [48+y])) 25 rfl rfl (Or.inl ⟨by rfl,fun w' _=>by go_simp;try omega⟩) trivial ?_
   simp only[Act.put,zL,zM,zN]
   refine aw 10 (.string (bH (m:Int)++gp [48+y])) 2 rfl rfl (Or.inl ⟨by rfl,fun w' _=>by go_simp⟩) trivial ?_
   simp only[Act.put,zL,zM,zN]
   refine aZ (by kernel_rfl) ?_
   have HB:=al cC
   clear HI
   go_wp2
   go_ret
   exact ⟨rfl,ab HB⟩
theorem tC:∀(n k:Nat),k≤n→k≤1099511627776→∀W,Calls Tryz.prog 59 #[.int .i64 (k:Int)] W fun e w=>e=.returned (.string (bH (k:Int)))∧Below W.heap.size W w
 |n,k,hn,h,W=>by
  by_cases hk:k<10
  ·exact MN W hk
  ·match n with
   |0=>omega
   |n+1=>exact MM hk h rfl rfl (tC n (k / 10) (by omega) (by omega)) W
theorem nW {n:Int} (h0:-1099511627776≤n) (h1:n≤1099511627776) (W:World):Calls Tryz.prog 59 #[.int .i64 n] W fun e w=>e=.returned (.string (bH n))∧Below W.heap.size W w:=by
 by_cases hn:n<0
 ·obtain ⟨k,rfl⟩:∃k:Nat,n=-(k:Int):=⟨n.natAbs,by omega⟩
  rw[MZ (by omega)]
  have HI:=al (tC k k (zD _) (by omega) W)
  have e0:decide (-(k:Int)<0)=true:=decide_eq_true hn
  have sz:=cQ (n:=(k:Int)) (by omega) (by omega)
  have lG:k≤1099511627776:=by omega
  have V2:0<k:=by omega
  clear hn h0 h1
  go_enter Tryz.func59,Tryz.ntmps59
  go_wp2_with fail
  refine (ab HI).mono ?_
  rintro e w ⟨rfl,hb⟩
  have HB:=al hb
  clear hb HI
  go_wp2
  go_ret
  exact ⟨rfl,ab HB⟩
 ·obtain ⟨k,rfl⟩:∃k:Nat,n=(k:Int):=⟨n.toNat,by omega⟩
  exact tC k k (zD _) (by omega) W
structure Pg (W:World) (pg:Nat) (L:List Nat) (v:Value) (w:World):Prop where
 bV:Below W.heap.size W w
 low:W.heap.size≤pg
 dj:w.heap[pg]?=some (.cells #[v] 60 (0,0))
 own:w.ownsRow W.heap.size 5 1 v L.length (nb L)
theorem Pg.below {W w w':World}{pg:Nat}{L:List Nat}{v:Value} (h:Pg W pg L v w) (hb:Below w.heap.size w w'):Pg W pg L v w' :=
 ⟨h.bV.trans (hb.mono h.bV.size),h.low,(hb.block _ (zA h.dj).1).trans h.dj,dH h.own hb⟩
theorem BB {W w wy w2:World}{pg:Nat}{L:List Nat}{v v':Value}{x:Nat} (h:Pg W pg L v w) (hy:Below w.heap.size w wy) (hg:wy.grownBy w2 v.ownBlock) (ho:w2.ownsRow W.heap.size 5 1 v' (L.length+1) (nb L++[.int .u8 (x:Int)])) :
  Pg W pg (L++[x]) v' (w2.setCell ⟨pg,0,none⟩ v')∧Kp pg w (w2.setCell ⟨pg,0,none⟩ v')∧w2.cell? ⟨pg,0,none⟩=some v∧w2.frozen? ⟨pg,0,none⟩=false:=by
 have hP:=h.below hy
 have iG:=dN hP.own hP.dj (by decide)
 have bd:=(hg.block _ (zA hP.dj).1 (fun e=>iG e.symm)).trans hP.dj
 obtain ⟨q,g3⟩:=bh (j:=0) bd v'
 have Zv:=cq hP.bV hg hP.bV.size (fun k e=>(hP.own.lt k e).1)
 refine ⟨⟨cq Zv g3 Zv.size (fun k e=>by obtain rfl:=zC e;exact h.low),h.low,q,?_⟩,fun d cs ty fr h1 h2 h3=>?_,cell_of_row _ _ _ _ _ _ bd,by simp[World.frozen?,bd]⟩
 ·have:=ho.kept g3 (.inr (dN ho bd (by decide)))
  rw[zK,kC]
  exact this
 ·have e1:=(hy.block _ (zA h2).1).trans h2
  have e2:=(hg.block _ (zA e1).1 (fun e=>dN hP.own e1 (fun e=>h3 e.symm) e.symm)).trans e1
  exact (g3.block _ (zA e2).1 (fun e=>h1 (zC e))).trans e2
def Lm (W:World) (pg:Nat) (L:List Nat) (w:World) (e:Ending) (w':World):Prop:=e=.returned (.tuple #[])∧(∃v,Pg W pg L v w')∧Kp pg w w'
theorem xu {W w:World}{pg:Nat}{L:List Nat}{v:Value} (h:Pg W pg L v w):∃a c,v=.slice a L.length c:=bq h.own
theorem da {W w:World}{pg:Nat}{L:List Nat}{v:Value} (h:Pg W pg L v w) (n:Nat) (s:ByteArray) (hn:n≤500) (hl:L.length+2*n+s.size+1≤1099511627776) :
  Calls Tryz.prog 26 #[.pointer (some ⟨pg,0,none⟩),.int .i64 (n:Int),.string s] w (Lm W pg (L++aV n [s]) w):=by
 obtain ⟨i0,hi,gf,fX,dY⟩:=info_parts Tryz.infoByte
 have HL:=al hl
 have I7:=al h
 clear h
 go_enter Tryz.func26,Tryz.ntmps26
 go_wp2
 go_loopg [6] (2*n) (fun gk v6 wr=>∃(i:Nat) (u:Value),v6=.int .i64 (i:Int)∧gk=2*n-i∧i≤2*n∧Hid (Pg W pg (L++List.replicate i 32) u wr)∧Hid (Kp pg w wr))
 case atStart=>exact ⟨0,v,rfl,rfl,by omega,by show Pg _ _ _ _ _;rw[List.replicate_zero,List.append_nil];exact ab I7,Kp.refl _ _⟩
 case round =>
  obtain ⟨i,u,rfl,aU,eO,HP,HK⟩:=hrel
  have bz:=al aU
  clear aU
  obtain ⟨ua,uc,rfl⟩:=xu (ab HP)
  have fJ:(L++List.replicate i 32).length=L.length+i:=by rw[zK,List.length_replicate]
  obtain ⟨M,hM⟩:∃M,L++List.replicate i 32=M:=⟨_,rfl⟩
  rw[hM] at HP fJ
  have HO:=al (ab HP).own
  have HZ:Hid (M.length+1≤1099511627776):=by have:=ab HL;show _≤_;omega
  have x0:wr.cell? ⟨pg,0,none⟩=some (.slice ua M.length uc):=cell_of_row _ _ _ _ _ _ (ab HP).dj
  have nR:=al fJ
  have HM:=al hM
  clear fJ hM
  by_cases aM:i<2*n
  ·have e0:decide ((i:Int)<2*(n:Int))=true:=decide_eq_true (by omega)
   have bu:=al aM
   clear aM
   go_wp2_with (at_builtin;refine wpList_append_own_at _ rfl _ _ 58 rfl W.heap.size 5 i0 (.int .u8 0) 1 1 Tryz.underlying58 hi gf fX dY rfl (by decide) _ _ _ rfl ((ab HO).alloc _) ⟨wr.heap.size,0,none⟩ 1 1 [.int .u8 32] rfl rfl (cell_one_new _ _ _) (by simp[Value.oneCell']) (by have:=ab HZ;unfold maxLen;omega) (by have:=ab HZ;omega) (by have:=(ab HP).bV.size;rw[zJ];omega) ?_;intro v4 w4 oE yw _ GU;obtain ⟨oB,LU,Py,V7⟩:=BB (x:=32) (ab HP) ((zE _ _).alloc (zD _) _) yw oE;obtain ⟨a4,c4,rfl⟩:=bq oE;have yA:=al oB;have yC:=al ((ab HK).trans LU);clear oE yw GU oB LU)
   go_wp2
   go_roundg (2*n-(i+1))
   case measure=>have:=ab bz;have:=ab bu;omega
   case rel=>exact ⟨i+1,_,by go_num,rfl,ab bu,by show Pg _ _ _ _ _;rw[List.replicate_succ',←List.append_assoc,ab HM];exact ab yA,yC⟩
  ·have e0:decide ((i:Int)<2*(n:Int))=false:=decide_eq_false (by omega)
   obtain rfl:i=2*n:=by omega
   obtain ⟨wo,iv⟩:∃x,x=wr:=⟨_,rfl⟩
   subst iv
   have HS:Hid (M.length+s.size+1≤1099511627776):=by have:=ab HL;have:=ab nR;show _≤_;omega
   clear HO HZ x0 aM
   go_wp2
   go_loopg [7] s.size (fun gk v7 wr=>∃(i:Nat) (u:Value),v7=.int .i64 (i:Int)∧gk=s.size-i∧i≤s.size∧Hid (Pg W pg (M++(aI s).take i) u wr)∧Hid (Kp pg w wr))
   case atStart=>exact ⟨0,_,rfl,rfl,by omega,by show Pg _ _ _ _ _;rw[List.take_zero,List.append_nil];exact ab HP,HK⟩
   case round =>
    obtain ⟨i,u,rfl,gD,G5,fz,fA⟩:=hrel
    have ki:=al gD
    clear gD HP HK
    have HP:=fz
    have HK:=fA
    clear fz fA
    obtain ⟨ub,ud,rfl⟩:=xu (ab HP)
    have EB:(M++(aI s).take i).length=M.length+i:=by rw[zK,List.length_take,aX];omega
    obtain ⟨M2,Tr⟩:∃M2,M++(aI s).take i=M2:=⟨_,rfl⟩
    rw[Tr] at HP EB
    have HO:=al (ab HP).own
    have HZ:Hid (M2.length+1≤1099511627776):=by have:=ab HS;show _≤_;omega
    have x0:wr.cell? ⟨pg,0,none⟩=some (.slice ub M2.length ud):=cell_of_row _ _ _ _ _ _ (ab HP).dj
    have SK:=al Tr
    by_cases aM:i<s.size
    ·obtain ⟨x,hx,cY,gx⟩:=cc s i aM
     have s9:Hid (M++(aI s).take (i+1)=M2++[x]):=by
      show _=_
      rw[bL hx,←List.append_assoc,ab SK]
     have bu:=al aM
     have LM:(0:Int)≤(i:Int):=zH _
     have i1':(i:Int)<(s.size:Int):=by omega
     clear EB Tr hx
     go_upto_region 7 with fail
     refine wp_region_any (by kernel_rfl) (bK (z:=12) (T:=fun w'=>w'.cell? ⟨pg,0,none⟩=some (.slice ub M2.length ud)) _ _ _ _ ?_)
     try (change bZ _ _ _ _ _ _ _ _ _ (World.drew _))
     have H7:=(ab HP).below (below_drewN (zE wr.heap.size wr) 1)
     have Cd:Below wr.heap.size wr wr.drew:=below_drewN (zE wr.heap.size wr) 1
     change Pg W pg M2 _ wr.drew at H7
     obtain ⟨wd,mW⟩:∃x,wr.drew=x:=⟨_,rfl⟩
     rw[mW] at H7 Cd ⊢
     have hT:wd.cell? ⟨pg,0,none⟩=some (.slice ub M2.length ud):=cell_of_row _ _ _ _ _ _ H7.dj
     clear x0
     refine aw 0 (.pointer (some ⟨pg,0,none⟩)) 29 rfl rfl (Or.inl ⟨by rfl,fun w' (hw:w'.cell? ⟨pg,0,none⟩=some (.slice ub M2.length ud))=>by go_simp⟩) hT ?_
     simp only[Act.put,zL,zM,zN]
     refine aw 1 (.pointer (some ⟨pg,0,none⟩)) 30 rfl rfl (Or.inl ⟨by rfl,fun w' (hw:w'.cell? ⟨pg,0,none⟩=some (.slice ub M2.length ud))=>by go_simp⟩) hT ?_
     simp only[Act.put,zL,zM,zN]
     refine aw 2 (.pointer (some ⟨pg,0,none⟩)) 31 rfl rfl (Or.inl ⟨by rfl,fun w' (hw:w'.cell? ⟨pg,0,none⟩=some (.slice ub M2.length ud))=>by go_simp⟩) hT ?_
     simp only[Act.put,zL,zM,zN]
     refine aw 3 (.pointer (some ⟨pg,0,none⟩)) 32 rfl rfl (Or.inl ⟨by rfl,fun w' (hw:w'.cell? ⟨pg,0,none⟩=some (.slice ub M2.length ud))=>by go_simp⟩) hT ?_
     simp only[Act.put,zL,zM,zN]
     refine aw 4 (.slice ub M2.length ud) 33 rfl rfl (Or.inl ⟨by rfl,fun w' (hw:w'.cell? ⟨pg,0,none⟩=some (.slice ub M2.length ud))=>by go_simp⟩) hT ?_
     simp only[Act.put,zL,zM,zN]
     refine aw 5 (.string s) 34 rfl rfl (Or.inl ⟨by rfl,fun w' (hw:w'.cell? ⟨pg,0,none⟩=some (.slice ub M2.length ud))=>by go_simp⟩) hT ?_
     simp only[Act.put,zL,zM,zN]
     refine aw 6 (.int .i64 (i:Int)) 35 rfl rfl (Or.inl ⟨by rfl,fun w' (hw:w'.cell? ⟨pg,0,none⟩=some (.slice ub M2.length ud))=>by go_simp⟩) hT ?_
     simp only[Act.put,zL,zM,zN]
     refine aw 7 (.int .u8 (x:Int)) 36 rfl rfl (Or.inl ⟨by rfl,fun w' (hw:w'.cell? ⟨pg,0,none⟩=some (.slice ub M2.length ud))=>by go_simp⟩) hT ?_
     simp only[Act.put,zL,zM,zN]
     have eo:Below wd.heap.size wd (wd.alloc (.cells #[.int .u8 (x:Int)] 5)):=(zE _ _).alloc (zD _) _
     have KE:=cell_one_new wd (.int .u8 (x:Int)) 5
     obtain ⟨wy,Jo⟩:∃z,wd.alloc (.cells #[.int .u8 (x:Int)] 5)=z:=⟨_,rfl⟩
     rw[Jo] at eo KE
     have RQ:=H7.below eo
     refine aF 8 (by kernel_rfl) rfl (fun K hK=>?_)
     go_simp
     refine hK _ _ ⟨fun _=>cell_of_row _ _ _ _ _ _ RQ.dj,?_⟩
     clear hK K hT
     refine aF 9 (by kernel_rfl) rfl (fun K hK=>?_)
     refine kW 38 rfl rfl (.tmp 33) (.tmp 37) 58 rfl W.heap.size 5 i0 (.int .u8 0) 1 1 Tryz.underlying58 hi gf fX dY rfl (by decide) (.slice ub M2.length ud) M2.length _ (by first|rfl|simp[Act.eval]) RQ.own ⟨wd.heap.size,0,none⟩ 1 1 [.int .u8 (x:Int)] (by first|rfl|simp[Act.eval]) rfl KE (by simp[Value.oneCell']) (by have:=ab HZ;unfold maxLen;omega) (by have:=ab HZ;omega) RQ.bV.size ?_
     intro v4 w4 oE yw GU
     obtain ⟨oB,LU,Py,V7⟩:=BB (x:=x) RQ (zE _ _) yw oE
     obtain ⟨a4,c4,rfl⟩:=bq oE
     have Rp:Kp pg wr wy:=fun d cs ty fr _ h2 _=>(eo.block _ (Nat.lt_of_lt_of_le (zA h2).1 Cd.size)).trans ((Cd.block _ (zA h2).1).trans h2)
     refine hK _ _ ⟨fun _=>Py,?_⟩
     clear hK K GU oE yw
     simp only[Act.put,zL,zM,zN]
     refine aF 10 (by kernel_rfl) rfl (fun K hK=>?_)
     go_simp
     refine hK _ _ ⟨fun _=>Py,?_⟩
     clear hK K
     refine aF 11 (by kernel_rfl) rfl (fun K hK=>?_)
     go_simp
     refine hK _ _ ⟨fun _=>Py,?_⟩
     clear hK K
     refine aF 12 (by kernel_rfl) rfl (fun K hK=>?_)
     go_simp
     refine hK _ _ ⟨fun h=>absurd rfl h,?_⟩
     clear hK K Py V7
     refine aZ (by kernel_rfl) ?_
     have yA:=al oB
     have yC:=al (((ab HK).trans Rp).trans LU)
     clear oB LU Rp eo Cd RQ H7 KE Jo
     go_wp2
     go_roundg (s.size-(i+1))
     case measure=>have:=ab ki;have:=ab bu;omega
     case rel=>exact ⟨i+1,_,by go_num,rfl,ab bu,by show Pg _ _ _ _ _;rw[ab s9];exact ab yA,yC⟩
    ·have d1:s.size≤i:=by omega
     have HF:Hid (L++aV n [s]=M2++[10]):=by
      show _=_
      rw[←ab SK,←ab HM,List.take_of_length_le (by rw[aX];omega)]
      unfold aV
      simp
     clear EB Tr
     have Hd:=al d1
     clear d1
     have d2:¬(i:Int)<(s.size:Int):=by have:=ab Hd;omega
     go_wp2_with (at_builtin;refine wpList_append_own_at _ rfl _ _ 58 rfl W.heap.size 5 i0 (.int .u8 0) 1 1 Tryz.underlying58 hi gf fX dY rfl (by decide) _ _ _ rfl ((ab HO).alloc _) ⟨wr.heap.size,0,none⟩ 1 1 [.int .u8 10] rfl rfl (cell_one_new _ _ _) (by simp[Value.oneCell']) (by have:=ab HZ;unfold maxLen;omega) (by have:=ab HZ;omega) (by have:=(ab HP).bV.size;rw[zJ];omega) ?_;intro v4 w4 oE yw _ GU;obtain ⟨oB,LU,Py,V7⟩:=BB (x:=10) (ab HP) ((zE _ _).alloc (zD _) _) yw oE;obtain ⟨a4,c4,rfl⟩:=bq oE;have yA:=al oB;have yC:=al ((ab HK).trans LU);clear oE yw GU oB LU)
     go_wp2
     go_end0
     exact ⟨rfl,⟨_,by rw[ab HF];exact ab yA⟩,ab yC⟩
end Go.Proofs.YtichhjfjcinjgaaGreatDoor
