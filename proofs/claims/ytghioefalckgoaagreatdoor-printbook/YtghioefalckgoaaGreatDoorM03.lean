import Derived.Test.YtghioefalckgoaaGreatDoorM02
set_option maxHeartbeats 2000000
set_option maxRecDepth 100000
namespace Go.Proofs.YtghioefalckgoaaGreatDoor
open Go.RowKit
attribute [local go_sem ↓] Go.wp_at_zero Go.wp_at_succ
theorem Cb (X:SI) {w:World}{g n c:Nat}{p x q y s:List (List Value)}{rest:List Value}{cv:Value} (h:Rw w g X.el X.k (p++x++q++y++s) rest) (Jw:y.length=x.length) (hn:(p++x++q++y++s).length=n) (hm:n≤140737488355328) :
  Calls Tryz.prog X.sw #[.slice (some ⟨g,0,none⟩) n c,.int .i64 ((p.length:Nat):Int),.int .i64 ((p.length+x.length+q.length:Nat):Int),.int .i64 ((x.length:Nat):Int),cv] w fun e w'=>e=.returned (.tuple #[])∧Rw w' g X.el X.k (p++y++q++x++s) rest∧w.grownBy w' (some g):=by
 have H:=ak h
 have Hn:=ak hn
 have Yp:=ak Jw
 have Hm:=ak hm
 obtain ⟨m,hxm⟩:∃m,x.length=m:=⟨_,rfl⟩
 have Hx:=ak hxm
 rw[hxm]
 obtain ⟨A,hA⟩:∃A,p.length=A:=⟨_,rfl⟩
 obtain ⟨B,hB⟩:∃B,A+m+q.length=B:=⟨_,rfl⟩
 rw[hA,hB]
 have HA:=ak hA
 have HB:=ak hB
 clear h hn Jw hm hxm hA hB
 let tY:=X.el
 let kY:=X.k
 cases X
 all_goals simp only[SI.el,SI.k,SI.sw] at *
 all_goals (first|go_enter Tryz.func306,Tryz.ntmps306|go_enter Tryz.func307,Tryz.ntmps307|go_enter Tryz.func314,Tryz.ntmps314|go_enter Tryz.func331,Tryz.ntmps331|go_enter Tryz.func332,Tryz.ntmps332|go_enter Tryz.func333,Tryz.ntmps333|go_enter Tryz.func334,Tryz.ntmps334)
 all_goals (
  go_wp2
  go_loopg [10] m (fun gk v10 wr=>∃i:Nat,v10=.int .i64 (i:Int)∧gk=m-i∧i≤m∧Hid (Rw wr g tY kY (p++(y.take i++x.drop i)++q++(x.take i++y.drop i)++s) rest)∧Hid (w.grownBy wr (some g)))
  case atStart=>exact ⟨0,rfl,by omega,by omega,by have e9:=ab H;show Rw w g _ _ _ _;simp at e9 ⊢;exact e9,zI _ _⟩
  case round =>
   obtain ⟨i,rfl,bd,hi,HR,HG⟩:=hrel
   have bH:=ak bd
   clear bd
   have i0:(0:Int)≤(i:Int):=zH _
   by_cases aU:i<m
   ·have i1:(i:Int)<(m:Int):=by omega
    obtain ⟨L,hL⟩:∃L,p++(y.take i++x.drop i)++q++(x.take i++y.drop i)++s=L:=⟨_,rfl⟩
    have iP:=ab HR
    have gr:=ab HG
    rw[hL] at iP
    obtain ⟨xe,mP⟩:∃v,x[i]?=some v:=⟨_,List.getElem?_eq_getElem (by have:=ab Hx;omega)⟩
    obtain ⟨ye,xK⟩:∃v,y[i]?=some v:=⟨_,List.getElem?_eq_getElem (by have:=ab Hx;have:=ab Yp;omega)⟩
    have CK:=Mq (p:=p) (q:=q) (s:=s) mP xK (ab Yp)
    rw[hL,ab HA,ab Hx,ab HB] at CK
    obtain ⟨tw,tv,nL⟩:=CK
    have hAB:A+i<n∧B+i<n:=by
     have h1:=ab Hn
     simp only[zK] at h1
     have:=ab HA;have:=ab HB;have:=ab Hx;have:=ab Yp
     omega
    have ma:=ab Hm
    obtain ⟨PA,VR⟩:∃q,A+i=q:=⟨_,rfl⟩
    obtain ⟨PB,hPB⟩:∃q,B+i=q:=⟨_,rfl⟩
    rw[VR,hPB] at hAB nL
    rw[VR] at tw
    rw[hPB] at tv
    have a0:(0:Int)≤(PA:Int):=zH _
    have a1:(PA:Int)<(n:Int):=by omega
    have b0:(0:Int)≤(PB:Int):=zH _
    have b1:(PB:Int)<(n:Int):=by omega
    have wa:IntKind.i64.wrap ((A:Int)+(i:Int))=(PA:Int):=by rw[IntKind.wrap_i64];omega
    have wb:IntKind.i64.wrap ((B:Int)+(i:Int))=(PB:Int):=by rw[IntKind.wrap_i64];omega
    have wc:IntKind.i64.wrap ((i:Int)+1)=((i+1:Nat):Int):=by rw[IntKind.wrap_i64];omega
    clear VR hPB hAB hL
    go_upto_region 3 with fail
    refine wp_region_any (by kernel_rfl) (aV (z:=23) (T:=fun _=>True) _ _ _ _ ?_)
    try (change ba _ _ _ _ _ _ _ _ _ (World.drew _))
    have fZ:Rw wr.drew g tY kY L rest:=⟨iP.hp,iP.ln,iP.one⟩
    have kF:w.grownBy wr.drew (some g):=⟨gr.os,gr.tape,gr.output,gr.size,gr.block⟩
    obtain ⟨wd,lP⟩:∃x,wr.drew=x:=⟨_,rfl⟩
    rw[lP] at fZ kF ⊢
    refine aw 0 (.slice (some ⟨g,0,none⟩) n c) 16 rfl rfl (Or.inl ⟨by rfl,fun w' _=>by go_simp<;>first|rfl|exact (Nat.mul_one _).symm⟩) trivial ?_
    simp only[Act.put,zL,zM,zN]
    refine aw 1 (.int .i64 ((A:Nat):Int)) 17 rfl rfl (Or.inl ⟨by rfl,fun w' _=>by go_simp<;>first|rfl|exact (Nat.mul_one _).symm⟩) trivial ?_
    simp only[Act.put,zL,zM,zN]
    refine aw 2 (.int .i64 ((i:Nat):Int)) 18 rfl rfl (Or.inl ⟨by rfl,fun w' _=>by go_simp<;>first|rfl|exact (Nat.mul_one _).symm⟩) trivial ?_
    simp only[Act.put,zL,zM,zN]
    refine aw 3 (.int .i64 ((PA:Nat):Int)) 19 rfl rfl (Or.inl ⟨by rfl,fun w' _=>by go_simp<;>first|rfl|exact (Nat.mul_one _).symm⟩) trivial ?_
    simp only[Act.put,zL,zM,zN]
    refine aw 4 (.slice (some ⟨g,0,none⟩) n c) 20 rfl rfl (Or.inl ⟨by rfl,fun w' _=>by go_simp<;>first|rfl|exact (Nat.mul_one _).symm⟩) trivial ?_
    simp only[Act.put,zL,zM,zN]
    refine aw 5 (.int .i64 ((B:Nat):Int)) 21 rfl rfl (Or.inl ⟨by rfl,fun w' _=>by go_simp<;>first|rfl|exact (Nat.mul_one _).symm⟩) trivial ?_
    simp only[Act.put,zL,zM,zN]
    refine aw 6 (.int .i64 ((i:Nat):Int)) 22 rfl rfl (Or.inl ⟨by rfl,fun w' _=>by go_simp<;>first|rfl|exact (Nat.mul_one _).symm⟩) trivial ?_
    simp only[Act.put,zL,zM,zN]
    refine aw 7 (.int .i64 ((PB:Nat):Int)) 23 rfl rfl (Or.inl ⟨by rfl,fun w' _=>by go_simp<;>first|rfl|exact (Nat.mul_one _).symm⟩) trivial ?_
    simp only[Act.put,zL,zM,zN]
    refine aw 8 (.slice (some ⟨g,0,none⟩) n c) 24 rfl rfl (Or.inl ⟨by rfl,fun w' _=>by go_simp<;>first|rfl|exact (Nat.mul_one _).symm⟩) trivial ?_
    simp only[Act.put,zL,zM,zN]
    refine aw 9 (.int .i64 ((B:Nat):Int)) 25 rfl rfl (Or.inl ⟨by rfl,fun w' _=>by go_simp<;>first|rfl|exact (Nat.mul_one _).symm⟩) trivial ?_
    simp only[Act.put,zL,zM,zN]
    refine aw 10 (.int .i64 ((i:Nat):Int)) 26 rfl rfl (Or.inl ⟨by rfl,fun w' _=>by go_simp<;>first|rfl|exact (Nat.mul_one _).symm⟩) trivial ?_
    simp only[Act.put,zL,zM,zN]
    refine aw 11 (.int .i64 ((PB:Nat):Int)) 27 rfl rfl (Or.inl ⟨by rfl,fun w' _=>by go_simp<;>first|rfl|exact (Nat.mul_one _).symm⟩) trivial ?_
    simp only[Act.put,zL,zM,zN]
    refine aw 12 (.pointer (some ⟨g,(PB)*kY,none⟩)) 28 rfl rfl (Or.inl ⟨by rfl,fun w' _=>by go_simp<;>first|rfl|exact (Nat.mul_one _).symm⟩) trivial ?_
    simp only[Act.put,zL,zM,zN]
    refine aw 14 (.slice (some ⟨g,0,none⟩) n c) 30 rfl rfl (Or.inl ⟨by rfl,fun w' _=>by go_simp<;>first|rfl|exact (Nat.mul_one _).symm⟩) trivial ?_
    simp only[Act.put,zL,zM,zN]
    refine aw 15 (.int .i64 ((A:Nat):Int)) 31 rfl rfl (Or.inl ⟨by rfl,fun w' _=>by go_simp<;>first|rfl|exact (Nat.mul_one _).symm⟩) trivial ?_
    simp only[Act.put,zL,zM,zN]
    refine aw 16 (.int .i64 ((i:Nat):Int)) 32 rfl rfl (Or.inl ⟨by rfl,fun w' _=>by go_simp<;>first|rfl|exact (Nat.mul_one _).symm⟩) trivial ?_
    simp only[Act.put,zL,zM,zN]
    refine aw 17 (.int .i64 ((PA:Nat):Int)) 33 rfl rfl (Or.inl ⟨by rfl,fun w' _=>by go_simp<;>first|rfl|exact (Nat.mul_one _).symm⟩) trivial ?_
    simp only[Act.put,zL,zM,zN]
    refine aw 18 (.pointer (some ⟨g,(PA)*kY,none⟩)) 34 rfl rfl (Or.inl ⟨by rfl,fun w' _=>by go_simp<;>first|rfl|exact (Nat.mul_one _).symm⟩) trivial ?_
    simp only[Act.put,zL,zM,zN]
    refine e7 _ _ _ _ (jq (z:=21) (T:=fun w'=>Rw w' g tY kY L rest) _ _ _ _ ?_)
    have hT:(fun w'=>Rw w' g tY kY L rest) wd:=fZ
    refine cV 13 (fH ye) 29 rfl rfl (Rw.val tY (.tmp 28) rfl rfl (by first|rfl|simp[Act.eval]) (T:=fun w'=>Rw w' g tY kY L rest) (fun _ h=>h) tv (by rfl) (fun _=>by rfl)) hT ?_
    simp only[Act.put,zL,zM,zN]
    refine cV 19 (fH xe) 35 rfl rfl (Rw.val tY (.tmp 34) rfl rfl (by first|rfl|simp[Act.eval]) (T:=fun w'=>Rw w' g tY kY L rest) (fun _ h=>h) tw (by rfl) (fun _=>by rfl)) hT ?_
    simp only[Act.put,zL,zM,zN]
    refine cV 20 (.pointer (some ⟨g,(PA)*kY,none⟩)) 36 rfl rfl (Or.inl ⟨by rfl,fun w' _=>by go_simp<;>first|rfl|exact (Nat.mul_one _).symm⟩) hT ?_
    simp only[Act.put,zL,zM,zN]
    refine ld 21 (by kernel_rfl) rfl (fun K hK=>?_)
    refine cG rfl tY (.tmp 36) (.tmp 29) rfl (by first|rfl|simp[Act.eval]) (by first|rfl|simp[Act.eval]) fZ (zB tw).1 (fZ.ln _ (List.mem_of_getElem? tv)) (fZ.one _ (List.mem_of_getElem? tv)) (by rfl) ?_
    refine hK _ _ ⟨fun h=>absurd rfl h,jr _ _ _ _ (by kernel_rfl) (aV (z:=23) (T:=fun _=>True) _ _ _ _ ?_)⟩
    clear hK K hT
    have dR:=fZ.set (i:=PA) (fZ.ln _ (List.mem_of_getElem? tv)) (fZ.one _ (List.mem_of_getElem? tv))
    refine aw 22 (.pointer (some ⟨g,(PB)*kY,none⟩)) 37 rfl rfl (Or.inl ⟨by rfl,fun w' _=>by go_simp<;>first|rfl|exact (Nat.mul_one _).symm⟩) trivial ?_
    simp only[Act.put,zL]
    refine aB 23 (by kernel_rfl) rfl (fun K hK=>?_)
    refine cG rfl tY (.tmp 37) (.tmp 35) rfl (by first|rfl|simp[Act.eval]) (by first|rfl|simp[Act.eval]) dR (by rw[List.length_set];exact (zB tv).1) (fZ.ln _ (List.mem_of_getElem? tw)) (fZ.one _ (List.mem_of_getElem? tw)) (by rfl) ?_
    refine hK _ _ ⟨fun _=>trivial,aQ (by kernel_rfl) ?_⟩
    clear hK K
    simp only[Act.put]
    have xN:=dR.set (i:=PB) (fZ.ln _ (List.mem_of_getElem? tw)) (fZ.one _ (List.mem_of_getElem? tw))
    have Bf:=(kF.trans (cZ (w:=wd) (((L.set (PA) ye).flatten++rest).toArray))).trans (cZ ((((L.set (PA) ye).set (PB) xe).flatten++rest).toArray))
    obtain ⟨w2,br⟩:∃x,(wd.setRow g (((L.set (PA) ye).flatten++rest).toArray)).setRow g ((((L.set (PA) ye).set (PB) xe).flatten++rest).toArray)=x:=⟨_,rfl⟩
    rw[br] at xN Bf ⊢
    rw[nL] at xN
    clear fZ dR kF tw tv mP xK br
    go_wp2
    go_roundg (m-(i+1))
    ·exact ⟨i+1,by simp,rfl,aU,xN,Bf⟩
    ·have:=ab bH;omega
   ·obtain rfl:i=m:=by omega
    go_wp2
    go_end0
    refine ⟨rfl,?_,ab HG⟩
    have h1:=ab HR
    have h2:=ab Hx
    have h3:=ab Yp
    rwa [List.take_of_length_le (by omega),List.take_of_length_le (by omega),List.drop_of_length_le (by omega),List.drop_of_length_le (by omega),List.append_nil,List.append_nil] at h1)
theorem Qk (X:SI) {w:World}{g n c:Nat}{p u v s:List (List Value)}{rest:List Value}{cv:Value} (h:Rw w g X.el X.k (p++u++v++s) rest) (hu:0<u.length) (hv:0<v.length) (hn:(p++u++v++s).length=n) (hm:n≤140737488355328) :
  Calls Tryz.prog X.sr #[.slice (some ⟨g,0,none⟩) n c,.int .i64 ((p.length:Nat):Int),.int .i64 ((p.length+u.length:Nat):Int),.int .i64 ((p.length+u.length+v.length:Nat):Int),cv] w fun e w'=>e=.returned (.tuple #[])∧Rw w' g X.el X.k (p++v++u++s) rest∧w.grownBy w' (some g):=by
 have H:=ak h
 have Hm:=ak hm
 have Hn:=ak hn
 obtain ⟨a,ha⟩:∃x,p.length=x:=⟨_,rfl⟩
 obtain ⟨m,O7⟩:∃x,p.length+u.length=x:=⟨_,rfl⟩
 obtain ⟨b,hb⟩:∃x,p.length+u.length+v.length=x:=⟨_,rfl⟩
 obtain ⟨i0,Vu⟩:∃x,u.length=x:=⟨_,rfl⟩
 obtain ⟨j0,hj0⟩:∃x,v.length=x:=⟨_,rfl⟩
 have aT:b≤n:=by
  rw[←hn,←hb]
  simp only[zK]
  omega
 rw[hb,O7,ha]
 have e1:IntKind.i64.wrap ((m:Int)-(a:Int))=(i0:Int):=by rw[IntKind.wrap_i64];omega
 have e2:IntKind.i64.wrap ((b:Int)-(m:Int))=(j0:Int):=by rw[IntKind.wrap_i64];omega
 have Hq:=ak (show a+i0=m∧m+j0=b∧0<i0∧0<j0∧b≤n by omega)
 have Hl:=ak (And.intro ha (And.intro Vu hj0))
 clear h hu hv hn hm ha O7 hb Vu hj0 aT
 let iX:=X
 let tY:=X.el
 let kY:=X.k
 cases X
 all_goals simp only[SI.el,SI.k,SI.sr] at *
 all_goals (first|go_enter Tryz.func281,Tryz.ntmps281|go_enter Tryz.func282,Tryz.ntmps282|go_enter Tryz.func287,Tryz.ntmps287|go_enter Tryz.func325,Tryz.ntmps325|go_enter Tryz.func326,Tryz.ntmps326|go_enter Tryz.func327,Tryz.ntmps327|go_enter Tryz.func328,Tryz.ntmps328)
 all_goals (
  go_wp2
  go_loopg [10,11] (i0+j0) (fun gk v10 v11 wr=>∃(i j:Nat) (P X Y S:List (List Value)),v10=.int .i64 (i:Int)∧v11=.int .i64 (j:Int)∧gk=i+j∧0<i∧0<j∧Hid (X.length=i∧Y.length=j∧P.length+i=m∧(P++X++Y++S).length=n)∧Hid (P++Y++X++S=p++v++u++s)∧Hid (Rw wr g tY kY (P++X++Y++S) rest)∧Hid (w.grownBy wr (some g)))
  case atStart=>exact ⟨i0,j0,p,u,v,s,rfl,rfl,rfl,(ab Hq).2.2.1,(ab Hq).2.2.2.1,⟨(ab Hl).2.1,(ab Hl).2.2,by have:=(ab Hl).1;have:=(ab Hq).1;omega,ab Hn⟩,rfl,ab H,zI _ _⟩
  case round =>
   obtain ⟨i,j,P,X,Y,S,rfl,rfl,bd,hi,hj,HL,HT,HR,HG⟩:=hrel
   have bH:=ak bd
   clear bd
   have hl:=ab HL
   have ma:=ab Hm
   have CQ:m+j≤n:=by
    have h1:=hl.2.2.2
    simp only[zK] at h1
    omega
   obtain ⟨A,hA⟩:∃x,P.length=x:=⟨_,rfl⟩
   have f1:IntKind.i64.wrap ((m:Int)-(i:Int))=(A:Int):=by rw[IntKind.wrap_i64];omega
   rcases Nat.lt_trichotomy i j with aU|rfl|XV
   ·have k1:((i:Int)==(j:Int))=false:=by simp;omega
    have k2:¬(i:Int)=(j:Int):=by omega
    have k3:decide ((j:Int)<(i:Int))=false:=by simp;omega
    have k4:¬(j:Int)<(i:Int):=by omega
    have k5:¬i=j:=by omega
    have k6:¬j<i:=by omega
    obtain ⟨j',we⟩:∃x,j-i=x:=⟨_,rfl⟩
    have f2:IntKind.i64.wrap ((m:Int)+(j:Int))=((m+j:Nat):Int):=by rw[IntKind.wrap_i64];omega
    obtain ⟨M,hM⟩:∃x,m+j=x:=⟨_,rfl⟩
    obtain ⟨B,hB⟩:∃x,M-i=x:=⟨_,rfl⟩
    rw[hM] at f2
    have f3:IntKind.i64.wrap ((M:Int)-(i:Int))=(B:Int):=by rw[IntKind.wrap_i64];omega
    have f4:IntKind.i64.wrap ((j:Int)-(i:Int))=(j':Int):=by rw[IntKind.wrap_i64];omega
    obtain ⟨Y1,Y2,rfl,OT,hy2⟩:∃Y1 Y2,Y=Y1++Y2∧Y1.length=j'∧Y2.length=i:=⟨Y.take j',Y.drop j',(List.take_append_drop ..).symm,by rw[List.length_take];omega,by rw[List.length_drop];omega⟩
    have hR:=ab HR
    rw[show P++X++(Y1++Y2)++S=P++X++Y1++Y2++S by simp] at hR
    have HC:=ak (Cb iX (n:=n) (c:=c) (cv:=cv) hR (by omega) (by have:=hl.2.2.2;simpa[List.append_assoc] using this) ma)
    rw[hl.1,hA,OT,show A+i+j'=B by omega] at HC
    have Hx:=ak (And.intro hl (And.intro hA (And.intro OT hy2)))
    have Hj':=ak we
    have j'0:0<j':=by omega
    clear hl ma CQ hA we hM hB hR OT hy2 HR aU
    go_wp2_with fail
    refine (ab HC).mono ?_
    rintro e w1 ⟨rfl,dR,gX⟩
    have lF:=ak dR
    have eY:=ak ((ab HG).trans gX)
    clear dR gX HC
    go_wp2
    go_roundg (i+j')
    ·refine ⟨i,j',P,Y2,Y1,X++S,rfl,rfl,rfl,hi,j'0,⟨(ab Hx).2.2.2,(ab Hx).2.2.1,(ab Hx).1.2.2.1,?_⟩,?_,?_,eY⟩
     ·have:=(ab Hx).1.2.2.2
      simp only[zK] at this ⊢
      omega
     ·have:=ab HT
      show _=_
      rw[←this]
      simp
     ·have:=ab lF
      show Rw _ _ _ _ _ _
      rwa [show P++Y2++Y1++(X++S)=P++Y2++Y1++X++S by simp]
    ·have:=ab bH;have:=ab Hj';omega
   ·have k1:((i:Int)==(i:Int))=true:=by simp
    have hR:=ab HR
    rw[show P++X++Y++S=P++X++[]++Y++S by simp] at hR
    have HC:=ak (Cb iX (n:=n) (c:=c) (cv:=cv) hR (by omega) (by have:=hl.2.2.2;simpa[List.append_assoc] using this) ma)
    rw[hl.1,hA,show A+i+([]:List (List Value)).length=m by rw[List.length_nil];omega] at HC
    clear hl ma CQ hA hR HR
    go_wp2_with fail
    refine (ab HC).mono ?_
    rintro e w1 ⟨rfl,dR,gX⟩
    have lF:=ak dR
    have eY:=ak ((ab HG).trans gX)
    clear dR gX HC
    go_wp2
    go_end0
    refine ⟨rfl,?_,ab eY⟩
    rw[←ab HT]
    have:=ab lF
    rwa [List.append_nil] at this
   ·have k1:((i:Int)==(j:Int))=false:=by simp;omega
    have k2:¬(i:Int)=(j:Int):=by omega
    have k3:decide ((j:Int)<(i:Int))=true:=by simp;omega
    have k4:(j:Int)<(i:Int):=by omega
    have k5:¬i=j:=by omega
    obtain ⟨i',Fy⟩:∃x,i-j=x:=⟨_,rfl⟩
    have f4:IntKind.i64.wrap ((i:Int)-(j:Int))=(i':Int):=by rw[IntKind.wrap_i64];omega
    obtain ⟨X1,X2,rfl,QS,dr⟩:∃X1 X2,X=X1++X2∧X1.length=j∧X2.length=i':=⟨X.take j,X.drop j,(List.take_append_drop ..).symm,by rw[List.length_take];omega,by rw[List.length_drop];omega⟩
    have hR:=ab HR
    rw[show P++(X1++X2)++Y++S=P++X1++X2++Y++S by simp] at hR
    have HC:=ak (Cb iX (n:=n) (c:=c) (cv:=cv) hR (by omega) (by have:=hl.2.2.2;simpa[List.append_assoc] using this) ma)
    rw[QS,hA,dr,show A+j+i'=m by omega] at HC
    have Hx:=ak (And.intro hl (And.intro hA (And.intro QS dr)))
    have Hi':=ak Fy
    have i'0:0<i':=by omega
    clear hl ma CQ hA Fy hR QS dr HR XV
    go_wp2_with fail
    refine (ab HC).mono ?_
    rintro e w1 ⟨rfl,dR,gX⟩
    have lF:=ak dR
    have eY:=ak ((ab HG).trans gX)
    clear dR gX HC
    go_wp2
    go_roundg (i'+j)
    ·refine ⟨i',j,P++Y,X2,X1,S,rfl,rfl,rfl,i'0,hj,⟨(ab Hx).2.2.2,(ab Hx).2.2.1,?_,?_⟩,?_,ab lF,eY⟩
     ·have h1:=ab Hx
      have h2:=ab Hi'
      rw[zK]
      omega
     ·have:=(ab Hx).1.2.2.2
      simp only[zK] at this ⊢
      omega
     ·have:=ab HT
      show _=_
      rw[←this]
      simp
    ·have:=ab bH;have:=ab Hi';omega)
end Go.Proofs.YtghioefalckgoaaGreatDoor
