import Derived.Test.YtghioefalckgoaaGreatDoorQsYX
set_option maxHeartbeats 4000000
set_option maxRecDepth 100000
namespace Go.Proofs.YtghioefalckgoaaGreatDoor
open Go.RowKit
attribute [local go_sem ↓] Go.wp_at_zero Go.wp_at_succ
theorem Mn (X:SI) {w0 w:World}{g n c:Nat}{f:FuncId}{fs cp:Array Value}{lt:List Value→List Value→Bool}{Pe:List Value→Prop}{p u s:List (List Value)}{y:List Value}{rest:List Value} (hC:zQ Tryz.prog f fs cp lt Pe w0 g) (hO:Ord lt) (wh:w0.grownBy w (some g)) (h:Rw w g X.el X.k (p++(u++y::s)) rest) (Rq:Pe y) (hP:∀x ∈ u,Pe x) (hs:nR lt u) (hu:u.length≠1) (hn:(p++(u++y::s)).length=n) (hm:n≤140737488355328) :
  Calls Tryz.prog X.sy #[.slice (some ⟨g,0,none⟩) n c,.int .i64 ((p.length:Nat):Int),.int .i64 ((p.length+u.length:Nat):Int),.int .i64 ((p.length+u.length+1:Nat):Int),.func (.func f) fs cp] w fun e w'=>e=.returned (.tuple #[])∧Rw w' g X.el X.k (p++fO lt u [y]++s) rest∧w.grownBy w' (some g):=by
 have H:=ak h
 have HC:=ak hC
 have Ey:=ak wh
 have HP:=ak hP
 have Hs:=ak hs
 have Hm:=ak hm
 have HO:=ak hO
 obtain ⟨A,hA⟩:∃z,p.length=z:=⟨_,rfl⟩
 obtain ⟨N,hN⟩:∃z,u.length=z:=⟨_,rfl⟩
 obtain ⟨M,hM⟩:∃z,A+N=z:=⟨_,rfl⟩
 obtain ⟨B,hB⟩:∃z,M+1=z:=⟨_,rfl⟩
 have J4:B≤n:=by
  rw[←hn]
  simp only[zK,List.length_cons]
  omega
 rw[hN] at hu
 rw[hN,hA,hM,hB]
 have e0:IntKind.i64.wrap ((M:Int)-(A:Int))=(N:Int):=by rw[IntKind.wrap_i64];omega
 have e1:((N:Int)==1)=false:=by simp;omega
 have e2:¬(N:Int)=1:=by omega
 have e4:IntKind.i64.wrap ((B:Int)-(M:Int))=1:=by rw[IntKind.wrap_i64];omega
 have HA:=ak hA
 have HN:=ak hN
 have HM:=ak hM
 have HB:=ak hB
 have Lk:=ak J4
 clear hC wh h hP hs hn hm hA hN hB J4 hO hM hu
 let tY:=X.el
 let kY:=X.k
 cases X
 all_goals simp only[SI.el,SI.k,SI.sy] at *
 all_goals (first|go_enter Tryz.func247,Tryz.ntmps247|go_enter Tryz.func249,Tryz.ntmps249|go_enter Tryz.func261,Tryz.ntmps261|go_enter Tryz.func309,Tryz.ntmps309|go_enter Tryz.func311,Tryz.ntmps311|go_enter Tryz.func313,Tryz.ntmps313|go_enter Tryz.func316,Tryz.ntmps316)
 all_goals (
  go_wp2
  go_loopg [14,15,16] N (fun gk v10 v11 _ wr=>∃i j:Nat,v10=.int .i64 ((A+i:Nat):Int)∧v11=.int .i64 ((A+j:Nat):Int)∧gk=j-i∧Hid (i≤j∧j≤N)∧Hid (∀t x,t<i→u[t]?=some x→lt y x=false)∧Hid (∀t x,j≤t→u[t]?=some x→lt y x=true)∧Hid (Rw wr g tY kY (p++(u++y::s)) rest)∧Hid (w.grownBy wr (some g)))
  case atStart=>exact ⟨0,N,by simp,by rw[ab HM],rfl,⟨by omega,zD _⟩,fun t y h=>by omega,fun t y h hy=>absurd (zB hy).1 (by rw[ab HN];omega),ab H,zI _ _⟩
  case round =>
   obtain ⟨i,j,rfl,rfl,bd,HIJ,HL,HU,HR,HG⟩:=hrel
   have bH:=ak bd
   clear bd
   have Rh:=ab HIJ
   have ma:=ab Hm
   have aT:=ab Lk
   have dJ:=ab HB
   have ham:=ab HM
   have iP:=ab HR
   have gr:=ab HG
   obtain ⟨L,hL⟩:∃L,p++(u++y::s)=L:=⟨_,rfl⟩
   rw[hL] at iP
   have A7:L[M]?=some y:=by
    rw[←hL,←ab HM,List.getElem?_append_right (by rw[ab HA];omega),ab HA,show A+N-A=N by omega,List.getElem?_append_right (by rw[ab HN];omega),ab HN,Nat.sub_self]
    rfl
   obtain ⟨P,TA⟩:∃q,A+i=q:=⟨_,rfl⟩
   obtain ⟨R,VP⟩:∃q,A+j=q:=⟨_,rfl⟩
   rw[TA,VP]
   by_cases aU:i<j
   ·obtain ⟨q,hq⟩:∃q,(i+j) / 2=q:=⟨_,rfl⟩
    have yO:i≤q∧q<j:=by omega
    obtain ⟨S,hS⟩:∃q,P+R=q:=⟨_,rfl⟩
    obtain ⟨h,hh⟩:∃h,S / 2=h:=⟨_,rfl⟩
    have Vv:h=A+q:=by omega
    obtain ⟨xe,mP⟩:∃y,u[q]?=some y:=⟨_,List.getElem?_eq_getElem (by rw[ab HN];omega)⟩
    have CL:L[h]?=some xe:=by
     rw[←hL,List.getElem?_append_right (by rw[ab HA];omega),ab HA,show h-A=q by omega,List.getElem?_append_left (by rw[ab HN];omega)]
     exact mP
    have Rr:=ab HP xe (List.mem_of_getElem? mP)
    have k1:(P:Int)<(R:Int):=by omega
    have k2:decide ((P:Int)<(R:Int))=true:=decide_eq_true k1
    have f1:IntKind.i64.wrap ((P:Int)+(R:Int))=(S:Int):=by rw[IntKind.wrap_i64];omega
    have f2:IntKind.u64.wrap (S:Int)=(S:Int):=by rw[IntKind.wrap_u64];omega
    have f3:(S:Int) / 2=(h:Int):=by omega
    have f3':S / 2=h:=hh
    have f4:IntKind.u64.wrap (h:Int)=(h:Int):=by rw[IntKind.wrap_u64];omega
    have f5:IntKind.i64.wrap (h:Int)=(h:Int):=by rw[IntKind.wrap_i64];omega
    have f6:IntKind.i64.wrap ((h:Int)+1)=((h+1:Nat):Int):=by rw[IntKind.wrap_i64];omega
    have h0:(0:Int)≤(h:Int):=zH _
    have h1:(h:Int)<(n:Int):=by omega
    have a0:(0:Int)≤(M:Int):=zH _
    have a1:(M:Int)<(n:Int):=by omega
    have WV:=ak Vv
    have qj:=ak yO
    clear Vv hq yO hh hS
    go_upto_region 17 with fail
    refine wp_region_any (by kernel_rfl) (aV (z:=99) (T:=fun w'=>Rw w' g tY kY L rest) _ _ _ _ ?_)
    try (change ba _ _ _ _ _ _ _ _ _ (World.drew _))
    have hT:(fun w'=>Rw w' g tY kY L rest) wr.drew:=⟨iP.hp,iP.ln,iP.one⟩
    have kF:w.grownBy wr.drew (some g):=⟨gr.os,gr.tape,gr.output,gr.size,gr.block⟩
    obtain ⟨wd,lP⟩:∃wz,wr.drew=wz:=⟨_,rfl⟩
    rw[lP] at hT kF ⊢
    refine aw 0 (.func (.func f) fs cp) 92 rfl rfl (Or.inl ⟨by rfl,fun w' _=>by go_simp<;>first|rfl|exact (Nat.mul_one _).symm⟩) hT ?_
    simp only[Act.put,zL,zM,zN]
    refine aw 1 (.slice (some ⟨g,0,none⟩) n c) 93 rfl rfl (Or.inl ⟨by rfl,fun w' _=>by go_simp<;>first|rfl|exact (Nat.mul_one _).symm⟩) hT ?_
    simp only[Act.put,zL,zM,zN]
    refine aw 2 (.int .i64 ((M:Nat):Int)) 94 rfl rfl (Or.inl ⟨by rfl,fun w' _=>by go_simp<;>first|rfl|exact (Nat.mul_one _).symm⟩) hT ?_
    simp only[Act.put,zL,zM,zN]
    refine aw 3 (.pointer (some ⟨g,(M)*kY,none⟩)) 95 rfl rfl (Or.inl ⟨by rfl,fun w' _=>by go_simp<;>first|rfl|exact (Nat.mul_one _).symm⟩) hT ?_
    simp only[Act.put,zL,zM,zN]
    refine aw 4 (fH y) 96 rfl rfl (Rw.val tY (.tmp 95) rfl (by rfl) (by first|rfl|simp[Act.eval]) (T:=fun w'=>Rw w' g tY kY L rest) (fun _ h=>h) A7 (by rfl) (fun _=>by rfl)) hT ?_
    simp only[Act.put,zL,zM,zN]
    refine aw 5 (.slice (some ⟨g,0,none⟩) n c) 97 rfl rfl (Or.inl ⟨by rfl,fun w' _=>by go_simp<;>first|rfl|exact (Nat.mul_one _).symm⟩) hT ?_
    simp only[Act.put,zL,zM,zN]
    refine aw 6 (.int .i64 ((h:Nat):Int)) 98 rfl rfl (Or.inl ⟨by rfl,fun w' _=>by go_simp<;>first|rfl|exact (Nat.mul_one _).symm⟩) hT ?_
    simp only[Act.put,zL,zM,zN]
    refine aw 7 (.pointer (some ⟨g,(h)*kY,none⟩)) 99 rfl rfl (Or.inl ⟨by rfl,fun w' _=>by go_simp<;>first|rfl|exact (Nat.mul_one _).symm⟩) hT ?_
    simp only[Act.put,zL,zM,zN]
    refine aw 8 (fH xe) 100 rfl rfl (Rw.val tY (.tmp 99) rfl (by rfl) (by first|rfl|simp[Act.eval]) (T:=fun w'=>Rw w' g tY kY L rest) (fun _ h=>h) CL (by rfl) (fun _=>by rfl)) hT ?_
    simp only[Act.put,zL,zM,zN]
    refine aB 9 (by kernel_rfl) rfl (fun K hK=>?_)
    refine bX 101 92 rfl f fs cp (fun vs=>(ab HC).1 vs wd) #[.tmp 96,.tmp 100] #[tY,tY] rfl (by first|rfl|simp[Act.eval]) (fs++#[fH y,fH xe]++cp) (by first|rfl|simp[Act.eval]) ((ab HC).2 y xe wd ((ab Ey).trans kF) Rq Rr) (by rfl) ?_
    rintro e w1 ⟨⟨rv,rfl,hr⟩,bG⟩
    refine ⟨_,rfl,?_⟩
    have dR:Rw w1 g tY kY L rest:=Rw.up hT bG
    have gX:w.grownBy w1 (some g):=kF.trans (bG.but _)
    refine hK _ _ ⟨fun _=>dR,?_⟩
    clear hK K hT kF bG lP
    have hT:(fun w'=>Rw w' g tY kY L rest) w1:=dR
    simp only[Act.put,zL,zM,zN]
    refine aw 10 (.bool (lt y xe)) 102 rfl rfl (Or.inl ⟨by rfl,fun w' _=>by go_simp<;>first|rfl|exact (Nat.mul_one _).symm⟩) hT ?_
    simp only[Act.put,zL,zM,zN]
    refine aw 11 (.bool (!lt y xe)) 103 rfl rfl (Or.inl ⟨by rfl,fun w' _=>by go_simp<;>first|rfl|exact (Nat.mul_one _).symm⟩) hT ?_
    simp only[Act.put,zL,zM,zN]
    refine aQ (by kernel_rfl) ?_
    clear hT
    have JA:=ab Hs
    cases hb:lt y xe with
    |false =>
     rw[hb] at hr
     have HE:=ak dR
     have Gw:=ak gX
     clear dR gX
     go_wp2
     go_roundg (j-(q+1))
     ·refine ⟨q+1,j,?_,?_,rfl,⟨by have:=ab qj;omega,Rh.2⟩,?_,ab HU,?_,Gw⟩
      ·have:=ab WV
       simp
       omega
      ·rw[VP]
      ·intro t x ht hx
       rcases Nat.lt_or_ge t q with h2|h2
       ·have h3:lt xe x=false:=List.pairwise_iff_getElem.1 JA t q (zB hx).1 (zB mP).1 h2 |> fun z=>by rwa [(zB hx).2,(zB mP).2] at z
        exact (ab HO).tr _ _ _ h3 hb
       ·obtain rfl:t=q:=by omega
        rw[mP] at hx
        cases hx
        exact hb
      ·show Rw _ _ _ _ _ _
       rw[hL]
       exact ab HE
     ·have:=ab bH;have:=ab qj;omega
    |true =>
     rw[hb] at hr
     have HE:=ak dR
     have Gw:=ak gX
     clear dR gX
     go_wp2
     go_roundg (q-i)
     ·refine ⟨i,q,?_,?_,rfl,⟨(ab qj).1,by have:=ab qj;omega⟩,ab HL,?_,?_,Gw⟩
      ·rw[TA]
      ·rw[←ab WV]
      ·intro t x ht hx
       rcases Nat.lt_or_ge q t with h2|h2
       ·have h3:lt x xe=false:=List.pairwise_iff_getElem.1 JA q t (zB mP).1 (zB hx).1 h2 |> fun z=>by rwa [(zB hx).2,(zB mP).2] at z
        exact (ab HO).ON hb h3
       ·obtain rfl:t=q:=by omega
        rw[mP] at hx
        cases hx
        exact hb
      ·show Rw _ _ _ _ _ _
       rw[hL]
       exact ab HE
     ·have:=ab bH;have:=ab qj;omega
   ·obtain rfl:i=j:=by omega
    obtain rfl:P=R:=by omega
    have k1:¬(P:Int)<(P:Int):=by omega
    have k2:decide ((P:Int)<(P:Int))=false:=decide_eq_false k1
    have vx:fO lt u [y]=u.take i++y::u.drop i:=by
     have e1:=ME (lt:=lt) (y:=y) (u1:=u.take i) (u2:=u.drop i) (fun x hx=>by
      obtain ⟨t,ht,rfl⟩:=List.mem_iff_getElem.1 hx
      have h1:t<i:=by rw[List.length_take] at ht;omega
      have h2:t<u.length:=by rw[List.length_take] at ht;omega
      exact ab HL t _ h1 (by rw[List.getElem_take,List.getElem?_eq_getElem h2])) (fun x hx=>by
      obtain ⟨t,ht,rfl⟩:=List.mem_iff_getElem.1 hx
      have h2:i+t<u.length:=by rw[List.length_drop] at ht;omega
      exact ab HU (i+t) _ (by omega) (by rw[List.getElem_drop,List.getElem?_eq_getElem h2]))
     rwa [List.take_append_drop] at e1
    have BB:=ak vx
    have VR:=ak TA
    have HiN:=ak Rh.2
    clear vx iP gr hL A7
    go_wp2
    go_loopg [17] (N-i) (fun gk H' wr=>∃q:Nat,H'=.int .i64 ((A+q:Nat):Int)∧gk=q-i∧i≤q∧q≤N∧Hid (Rw wr g tY kY (p++u.take q++y::(u.drop q++s)) rest)∧Hid (w.grownBy wr (some g)))
    case atStart =>
     refine ⟨N,by rw[ab HM],rfl,ab HiN,zD _,?_,ab HG⟩
     show Rw _ _ _ _ _ _
     have h1:=ab HR
     have h2:=ab HN
     rw[List.take_of_length_le (by omega),List.drop_of_length_le (by omega)]
     (first|simpa[List.append_assoc] using h1|(have e9:=h1;simp[List.append_assoc] at e9 ⊢;exact e9))
    case round =>
     clear HR HG
     obtain ⟨q,rfl,jC,hiq,hqN,HR,HG⟩:=hrel
     have jR:=ak jC
     clear jC
     obtain ⟨Q,hQ⟩:∃z,A+q=z:=⟨_,rfl⟩
     rw[hQ]
     have hE:=ab VR
     by_cases dC:i<q
     ·have k3:(P:Int)<(Q:Int):=by omega
      have k4:decide ((P:Int)<(Q:Int))=true:=decide_eq_true k3
      have iP:=ab HR
      have gr:=ab HG
      obtain ⟨q',rfl⟩:∃q',q=q'+1:=⟨q-1,by omega⟩
      obtain ⟨xe,mP⟩:∃y,u[q']?=some y:=⟨_,List.getElem?_eq_getElem (by rw[ab HN];omega)⟩
      have hd:u.drop q'=xe::u.drop (q'+1):=by
       have h1:=zB mP
       rw[List.drop_eq_getElem_cons h1.1,h1.2]
      have ht:u.take (q'+1)=u.take q'++[xe]:=by rw[List.take_add_one,mP];rfl
      have CK:=Aj (p++u.take q') (u.drop (q'+1)++s) xe y
      have hD:(p++u.take q').length=A+q':=by rw[zK,List.length_take,ab HA,ab HN];omega
      rw[hD] at CK
      obtain ⟨Q1,VQ⟩:∃z,A+q'=z:=⟨_,rfl⟩
      rw[VQ,show Q1+1=Q by omega] at CK
      obtain ⟨L,hL⟩:∃L,p++u.take (q'+1)++y::(u.drop (q'+1)++s)=L:=⟨_,rfl⟩
      rw[hL] at iP
      rw[show p++u.take q'++xe::y::(u.drop (q'+1)++s)=L by rw[←hL,ht];simp] at CK
      obtain ⟨tw,tv,nL⟩:=CK
      have f7:IntKind.i64.wrap ((Q:Int)-1)=(Q1:Int):=by rw[IntKind.wrap_i64];omega
      have q0:(0:Int)≤(Q:Int):=zH _
      have q1:(Q:Int)<(n:Int):=by omega
      have q2:(0:Int)≤(Q1:Int):=zH _
      have q3:(Q1:Int)<(n:Int):=by omega
      have GZ:=ak VQ
      clear hQ VQ ht hD
      go_upto_region 23 with fail
      refine wp_region_any (by kernel_rfl) (aV (z:=17) (T:=fun _=>True) _ _ _ _ ?_)
      try (change ba _ _ _ _ _ _ _ _ _ (World.drew _))
      have fZ:Rw wr.drew g tY kY L rest:=⟨iP.hp,iP.ln,iP.one⟩
      have kF:w.grownBy wr.drew (some g):=⟨gr.os,gr.tape,gr.output,gr.size,gr.block⟩
      obtain ⟨wd,lP⟩:∃wz,wr.drew=wz:=⟨_,rfl⟩
      rw[lP] at fZ kF ⊢
      refine aw 0 (.slice (some ⟨g,0,none⟩) n c) 113 rfl rfl (Or.inl ⟨by rfl,fun w' _=>by go_simp<;>first|rfl|exact (Nat.mul_one _).symm⟩) trivial ?_
      simp only[Act.put,zL,zM,zN]
      refine aw 1 (.int .i64 ((Q:Nat):Int)) 114 rfl rfl (Or.inl ⟨by rfl,fun w' _=>by go_simp<;>first|rfl|exact (Nat.mul_one _).symm⟩) trivial ?_
      simp only[Act.put,zL,zM,zN]
      refine aw 2 (.slice (some ⟨g,0,none⟩) n c) 115 rfl rfl (Or.inl ⟨by rfl,fun w' _=>by go_simp<;>first|rfl|exact (Nat.mul_one _).symm⟩) trivial ?_
      simp only[Act.put,zL,zM,zN]
      refine aw 3 (.int .i64 ((Q:Nat):Int)) 116 rfl rfl (Or.inl ⟨by rfl,fun w' _=>by go_simp<;>first|rfl|exact (Nat.mul_one _).symm⟩) trivial ?_
      simp only[Act.put,zL,zM,zN]
      refine aw 4 (.int .i64 ((Q1:Nat):Int)) 117 rfl rfl (Or.inl ⟨by rfl,fun w' _=>by go_simp<;>first|rfl|exact (Nat.mul_one _).symm⟩) trivial ?_
      simp only[Act.put,zL,zM,zN]
      refine aw 5 (.slice (some ⟨g,0,none⟩) n c) 118 rfl rfl (Or.inl ⟨by rfl,fun w' _=>by go_simp<;>first|rfl|exact (Nat.mul_one _).symm⟩) trivial ?_
      simp only[Act.put,zL,zM,zN]
      refine aw 6 (.int .i64 ((Q:Nat):Int)) 119 rfl rfl (Or.inl ⟨by rfl,fun w' _=>by go_simp<;>first|rfl|exact (Nat.mul_one _).symm⟩) trivial ?_
      simp only[Act.put,zL,zM,zN]
      refine aw 7 (.int .i64 ((Q1:Nat):Int)) 120 rfl rfl (Or.inl ⟨by rfl,fun w' _=>by go_simp<;>first|rfl|exact (Nat.mul_one _).symm⟩) trivial ?_
      simp only[Act.put,zL,zM,zN]
      refine aw 8 (.pointer (some ⟨g,(Q1)*kY,none⟩)) 121 rfl rfl (Or.inl ⟨by rfl,fun w' _=>by go_simp<;>first|rfl|exact (Nat.mul_one _).symm⟩) trivial ?_
      simp only[Act.put,zL,zM,zN]
      refine aw 10 (.slice (some ⟨g,0,none⟩) n c) 123 rfl rfl (Or.inl ⟨by rfl,fun w' _=>by go_simp<;>first|rfl|exact (Nat.mul_one _).symm⟩) trivial ?_
      simp only[Act.put,zL,zM,zN]
      refine aw 11 (.int .i64 ((Q:Nat):Int)) 124 rfl rfl (Or.inl ⟨by rfl,fun w' _=>by go_simp<;>first|rfl|exact (Nat.mul_one _).symm⟩) trivial ?_
      simp only[Act.put,zL,zM,zN]
      refine aw 12 (.pointer (some ⟨g,(Q)*kY,none⟩)) 125 rfl rfl (Or.inl ⟨by rfl,fun w' _=>by go_simp<;>first|rfl|exact (Nat.mul_one _).symm⟩) trivial ?_
      simp only[Act.put,zL,zM,zN]
      refine e7 _ _ _ _ (jq (z:=15) (T:=fun w'=>Rw w' g tY kY L rest) _ _ _ _ ?_)
      have hT:(fun w'=>Rw w' g tY kY L rest) wd:=fZ
      refine cV 9 (fH xe) 122 rfl rfl (Rw.val tY (.tmp 121) rfl (by rfl) (by first|rfl|simp[Act.eval]) (T:=fun w'=>Rw w' g tY kY L rest) (fun _ h=>h) tv (by rfl) (fun _=>by rfl)) hT ?_
      simp only[Act.put,zL,zM,zN]
      refine cV 13 (fH y) 126 rfl rfl (Rw.val tY (.tmp 125) rfl (by rfl) (by first|rfl|simp[Act.eval]) (T:=fun w'=>Rw w' g tY kY L rest) (fun _ h=>h) tw (by rfl) (fun _=>by rfl)) hT ?_
      simp only[Act.put,zL,zM,zN]
      refine cV 14 (.pointer (some ⟨g,(Q)*kY,none⟩)) 127 rfl rfl (Or.inl ⟨by rfl,fun w' _=>by go_simp<;>first|rfl|exact (Nat.mul_one _).symm⟩) hT ?_
      simp only[Act.put,zL,zM,zN]
      refine ld 15 (by kernel_rfl) rfl (fun K hK=>?_)
      refine cG (i:=Q) rfl tY (.tmp 127) (.tmp 122) rfl (by first|rfl|simp[Act.eval]) (by first|rfl|simp[Act.eval]) fZ (zB tw).1 (fZ.ln _ (List.mem_of_getElem? tv)) (fZ.one _ (List.mem_of_getElem? tv)) (by rfl) ?_
      refine hK _ _ ⟨fun h=>absurd rfl h,jr _ _ _ _ (by kernel_rfl) (aV (z:=17) (T:=fun _=>True) _ _ _ _ ?_)⟩
      clear hK K hT
      have dR:=fZ.set (i:=Q) (fZ.ln _ (List.mem_of_getElem? tv)) (fZ.one _ (List.mem_of_getElem? tv))
      refine aw 16 (.pointer (some ⟨g,(Q1)*kY,none⟩)) 128 rfl rfl (Or.inl ⟨by rfl,fun w' _=>by go_simp<;>first|rfl|exact (Nat.mul_one _).symm⟩) trivial ?_
      simp only[Act.put,zL]
      refine aB 17 (by kernel_rfl) rfl (fun K hK=>?_)
      refine cG (i:=Q1) rfl tY (.tmp 128) (.tmp 126) rfl (by first|rfl|simp[Act.eval]) (by first|rfl|simp[Act.eval]) dR (by rw[List.length_set];exact (zB tv).1) (fZ.ln _ (List.mem_of_getElem? tw)) (fZ.one _ (List.mem_of_getElem? tw)) (by rfl) ?_
      refine hK _ _ ⟨fun _=>trivial,aQ (by kernel_rfl) ?_⟩
      clear hK K
      simp only[Act.put]
      have xN:=dR.set (i:=Q1) (fZ.ln _ (List.mem_of_getElem? tw)) (fZ.one _ (List.mem_of_getElem? tw))
      have Bf:=(kF.trans (cZ (w:=wd) (((L.set (Q) xe).flatten++rest).toArray))).trans (cZ ((((L.set (Q) xe).set (Q1) y).flatten++rest).toArray))
      obtain ⟨w2,br⟩:∃wz,(wd.setRow g (((L.set (Q) xe).flatten++rest).toArray)).setRow g ((((L.set (Q) xe).set (Q1) y).flatten++rest).toArray)=wz:=⟨_,rfl⟩
      rw[br] at xN Bf ⊢
      rw[nL] at xN
      clear fZ dR kF tw tv mP br
      go_wp2
      go_roundg (q'-i)
      ·refine ⟨q',?_,rfl,by omega,by omega,?_,Bf⟩
       ·rw[ab GZ]
       ·show Rw _ _ _ _ _ _
        rw[hd]
        (first|simpa[List.append_assoc] using xN|(have e9:=xN;simp[List.append_assoc] at e9 ⊢;exact e9))
      ·have:=ab jR;omega
     ·obtain rfl:q=i:=by omega
      have k3:¬(P:Int)<(Q:Int):=by omega
      have k4:decide ((P:Int)<(Q:Int))=false:=decide_eq_false k3
      go_wp2
      (try simp only[Exit.inBlock,Exit.then])
      refine bodyPost_ret (results_none rfl _ _ _) rfl ?_
      refine ⟨rfl,?_,ab HG⟩
      rw[ab BB]
      have h1:=ab HR
      (first|simpa[List.append_assoc] using h1|(have e9:=h1;simp[List.append_assoc] at e9 ⊢;exact e9)))
end Go.Proofs.YtghioefalckgoaaGreatDoor
namespace Go.Proofs.YtghioefalckgoaaGreatDoor
open Go.RowKit
variable {α : Type}
structure KX (A U V M B md NN PP lo hi:Nat):Prop where
 hM:A+U=M
 hB:M+V=B
 GR:md+M=NN
 GQ:NN-1=PP
 al:A≤lo
 lh:lo≤hi
 hm:hi≤M
 hd:hi≤md
 nb:NN≤B+lo
 fY:hi=M∨hi=md
 uV:lo=A∨lo+B=NN
 am:A<md
 mb:md<B
 n1:1≤NN
theorem Uu {A U V M B md NN PP lo hi:Nat} (hM:A+U=M) (hB:M+V=B) (XR:(A+B) / 2=md) (GR:md+M=NN) (GQ:NN-1=PP) (hu:2≤U) (hv:2≤V) (hc:(md<M∧NN-B=lo∧md=hi)∨(M≤md∧A=lo∧M=hi)):KX A U V M B md NN PP lo hi∧(M≤md∨B≤NN):=by
 rcases hc with ⟨h,h1,h2⟩|⟨h,h1,h2⟩
 ·exact ⟨⟨hM,hB,GR,GQ,by omega,by omega,by omega,by omega,by omega,.inr h2.symm,.inr (by omega),by omega,by omega,by omega⟩,.inr (by omega)⟩
 ·exact ⟨⟨hM,hB,GR,GQ,by omega,by omega,by omega,by omega,by omega,.inl h2.symm,.inl h1.symm,by omega,by omega,by omega⟩,.inl h⟩
theorem KX.Tf {A U V M B md NN PP lo hi:Nat} (h:KX A U V M B md NN PP lo hi) {st r q:Nat} (h1:lo≤st) (h2:st<r) (h3:r≤hi) (hq:(st+r) / 2=q):(st≤q∧q<r)∧A≤q∧q<M∧M≤PP-q∧PP-q<B:=by
 obtain ⟨hM,hB,GR,GQ,al,lh,hm,hd,nb,fY,uV,am,mb,n1⟩:=h
 refine ⟨by omega,by omega,by omega,by omega,by omega⟩
theorem KX.fin {A U V M B md NN PP lo hi:Nat} (h:KX A U V M B md NN PP lo hi) {lt:α→α→Bool} (hO:Ord lt) {u v:List α} (hu:nR lt u) (hv:nR lt v) (hU:u.length=U) (hV:v.length=V) {st E:Nat} (h1:lo≤st) (h3:st≤hi) (hE:NN-st=E)
  (hF:∀x y,lo<st→u[st-1-A]?=some x→v[NN-st-M]?=some y→lt y x=false) (hT:∀x y,st<hi→u[st-A]?=some x→v[PP-st-M]?=some y→lt y x=true) :
  fO lt u v=fO lt (u.take (st-A)) (v.take (E-M))++fO lt (u.drop (st-A)) (v.drop (E-M))∧A≤st∧st≤M∧M≤E∧E≤B∧st+(E-M)=md∧st≤md∧md≤E:=by
 obtain ⟨hM,hB,GR,GQ,al,lh,hm,hd,nb,fY,uV,am,mb,n1⟩:=h
 refine ⟨Ml hO hu hv (fun h4 h5 x y hx hy=>?_) (fun h4 h5 x z hx hz=>?_) (by omega) (by omega),by omega,by omega,by omega,by omega,by omega,by omega,by omega⟩
 ·exact hT x y (by omega) hx (by rw[←hy];congr 1;omega)
 ·exact hF x z (by omega) (by rw[←hx];congr 1;omega) (by rw[←hz,hE])
end Go.Proofs.YtghioefalckgoaaGreatDoor
