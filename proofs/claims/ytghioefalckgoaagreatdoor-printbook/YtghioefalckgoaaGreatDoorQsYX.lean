import Derived.Test.YtghioefalckgoaaGreatDoorM03
set_option maxHeartbeats 4000000
set_option maxRecDepth 100000
namespace Go.Proofs.YtghioefalckgoaaGreatDoor
open Go.RowKit
attribute [local go_sem ↓] Go.wp_at_zero Go.wp_at_succ
theorem Mo (X:SI) {w0 w:World}{g n c:Nat}{f:FuncId}{fs cp:Array Value}{lt:List Value→List Value→Bool}{Pe:List Value→Prop}{p v s:List (List Value)}{x:List Value}{rest:List Value} (hC:zQ Tryz.prog f fs cp lt Pe w0 g) (hO:Ord lt) (wh:w0.grownBy w (some g)) (h:Rw w g X.el X.k (p++x::(v++s)) rest) (Rr:Pe x) (hP:∀y ∈ v,Pe y) (hs:nR lt v) (hn:(p++x::(v++s)).length=n) (hm:n≤140737488355328) :
  Calls Tryz.prog X.sy #[.slice (some ⟨g,0,none⟩) n c,.int .i64 ((p.length:Nat):Int),.int .i64 ((p.length+1:Nat):Int),.int .i64 ((p.length+1+v.length:Nat):Int),.func (.func f) fs cp] w fun e w'=>e=.returned (.tuple #[])∧Rw w' g X.el X.k (p++fO lt [x] v++s) rest∧w.grownBy w' (some g):=by
 have H:=ak h
 have HC:=ak hC
 have Ey:=ak wh
 have HP:=ak hP
 have Hs:=ak hs
 have Hm:=ak hm
 have HO:=ak hO
 obtain ⟨A,hA⟩:∃x,p.length=x:=⟨_,rfl⟩
 obtain ⟨N,hN⟩:∃x,v.length=x:=⟨_,rfl⟩
 obtain ⟨M,hM⟩:∃x,A+1=x:=⟨_,rfl⟩
 obtain ⟨B,hB⟩:∃x,M+N=x:=⟨_,rfl⟩
 have J4:B≤n:=by
  rw[←hn]
  simp only[zK,List.length_cons]
  omega
 rw[hN,hA,hM,hB]
 have e0:IntKind.i64.wrap ((M:Int)-(A:Int))=1:=by rw[IntKind.wrap_i64];omega
 have HA:=ak hA
 have HN:=ak hN
 have HM:=ak hM
 have HB:=ak hB
 have Lk:=ak J4
 clear hC wh h hP hs hn hm hA hN hB J4 hO hM
 let tY:=X.el
 let kY:=X.k
 cases X
 all_goals simp only[SI.el,SI.k,SI.sy] at *
 all_goals (first|go_enter Tryz.func247,Tryz.ntmps247|go_enter Tryz.func249,Tryz.ntmps249|go_enter Tryz.func261,Tryz.ntmps261|go_enter Tryz.func309,Tryz.ntmps309|go_enter Tryz.func311,Tryz.ntmps311|go_enter Tryz.func313,Tryz.ntmps313|go_enter Tryz.func316,Tryz.ntmps316)
 all_goals (
  go_wp2
  go_loopg [10,11,12] N (fun gk v10 v11 _ wr=>∃i j:Nat,v10=.int .i64 ((M+i:Nat):Int)∧v11=.int .i64 ((M+j:Nat):Int)∧gk=j-i∧Hid (i≤j∧j≤N)∧Hid (∀t y,t<i→v[t]?=some y→lt y x=true)∧Hid (∀t y,j≤t→v[t]?=some y→lt y x=false)∧Hid (Rw wr g tY kY (p++x::(v++s)) rest)∧Hid (w.grownBy wr (some g)))
  case atStart=>exact ⟨0,N,by simp,by simp[←ab HB],rfl,⟨by omega,zD _⟩,fun t y h=>by omega,fun t y h hy=>absurd (zB hy).1 (by rw[ab HN];omega),ab H,zI _ _⟩
  case round =>
   obtain ⟨i,j,rfl,rfl,bd,HIJ,HL,HU,HR,HG⟩:=hrel
   have bH:=ak bd
   clear bd
   have Rh:=ab HIJ
   have ma:=ab Hm
   have aT:=ab Lk
   have dJ:=ab HB
   have ham:=ab HM
   have iP:=ab HR
   have gr:=ab HG
   obtain ⟨L,hL⟩:∃L,p++x::(v++s)=L:=⟨_,rfl⟩
   rw[hL] at iP
   have A7:L[A]?=some x:=by rw[←hL,←ab HA];simp
   obtain ⟨P,TA⟩:∃q,M+i=q:=⟨_,rfl⟩
   obtain ⟨R,VP⟩:∃q,M+j=q:=⟨_,rfl⟩
   rw[TA,VP]
   by_cases aU:i<j
   ·obtain ⟨q,hq⟩:∃q,(i+j) / 2=q:=⟨_,rfl⟩
    have yO:i≤q∧q<j:=by omega
    obtain ⟨S,hS⟩:∃q,P+R=q:=⟨_,rfl⟩
    obtain ⟨h,hh⟩:∃h,S / 2=h:=⟨_,rfl⟩
    have Vv:h=M+q:=by omega
    obtain ⟨ye,xK⟩:∃y,v[q]?=some y:=⟨_,List.getElem?_eq_getElem (by rw[ab HN];omega)⟩
    have CL:L[h]?=some ye:=by
     rw[←hL,List.getElem?_append_right (by rw[ab HA];omega),ab HA,show h-A=q+1 by omega,List.getElem?_cons_succ,List.getElem?_append_left (by rw[ab HN];omega)]
     exact xK
    have Rq:=ab HP ye (List.mem_of_getElem? xK)
    have k1:(P:Int)<(R:Int):=by omega
    have k2:decide ((P:Int)<(R:Int))=true:=decide_eq_true k1
    have f1:IntKind.i64.wrap ((P:Int)+(R:Int))=(S:Int):=by rw[IntKind.wrap_i64];omega
    have f2:IntKind.u64.wrap (S:Int)=(S:Int):=by rw[IntKind.wrap_u64];omega
    have f3:(S:Int) / 2=(h:Int):=by omega
    have f3':S / 2=h:=hh
    have f4:IntKind.u64.wrap (h:Int)=(h:Int):=by rw[IntKind.wrap_u64];omega
    have f5:IntKind.i64.wrap (h:Int)=(h:Int):=by rw[IntKind.wrap_i64];omega
    have f6:IntKind.i64.wrap ((h:Int)+1)=((h+1:Nat):Int):=by rw[IntKind.wrap_i64];omega
    have h0:(0:Int)≤(h:Int):=zH _
    have h1:(h:Int)<(n:Int):=by omega
    have a0:(0:Int)≤(A:Int):=zH _
    have a1:(A:Int)<(n:Int):=by omega
    have WV:=ak Vv
    have qj:=ak yO
    clear Vv hq yO hh hS
    go_upto_region 5 with fail
    refine wp_region_any (by kernel_rfl) (aV (z:=99) (T:=fun w'=>Rw w' g tY kY L rest) _ _ _ _ ?_)
    try (change ba _ _ _ _ _ _ _ _ _ (World.drew _))
    have hT:(fun w'=>Rw w' g tY kY L rest) wr.drew:=⟨iP.hp,iP.ln,iP.one⟩
    have kF:w.grownBy wr.drew (some g):=⟨gr.os,gr.tape,gr.output,gr.size,gr.block⟩
    obtain ⟨wd,lP⟩:∃wz,wr.drew=wz:=⟨_,rfl⟩
    rw[lP] at hT kF ⊢
    refine aw 0 (.func (.func f) fs cp) 40 rfl rfl (Or.inl ⟨by rfl,fun w' _=>by go_simp<;>first|rfl|exact (Nat.mul_one _).symm⟩) hT ?_
    simp only[Act.put,zL,zM,zN]
    refine aw 1 (.slice (some ⟨g,0,none⟩) n c) 41 rfl rfl (Or.inl ⟨by rfl,fun w' _=>by go_simp<;>first|rfl|exact (Nat.mul_one _).symm⟩) hT ?_
    simp only[Act.put,zL,zM,zN]
    refine aw 2 (.int .i64 ((h:Nat):Int)) 42 rfl rfl (Or.inl ⟨by rfl,fun w' _=>by go_simp<;>first|rfl|exact (Nat.mul_one _).symm⟩) hT ?_
    simp only[Act.put,zL,zM,zN]
    refine aw 3 (.pointer (some ⟨g,(h)*kY,none⟩)) 43 rfl rfl (Or.inl ⟨by rfl,fun w' _=>by go_simp<;>first|rfl|exact (Nat.mul_one _).symm⟩) hT ?_
    simp only[Act.put,zL,zM,zN]
    refine aw 4 (fH ye) 44 rfl rfl (Rw.val tY (.tmp 43) rfl (by rfl) (by first|rfl|simp[Act.eval]) (T:=fun w'=>Rw w' g tY kY L rest) (fun _ h=>h) CL (by rfl) (fun _=>by rfl)) hT ?_
    simp only[Act.put,zL,zM,zN]
    refine aw 5 (.slice (some ⟨g,0,none⟩) n c) 45 rfl rfl (Or.inl ⟨by rfl,fun w' _=>by go_simp<;>first|rfl|exact (Nat.mul_one _).symm⟩) hT ?_
    simp only[Act.put,zL,zM,zN]
    refine aw 6 (.int .i64 ((A:Nat):Int)) 46 rfl rfl (Or.inl ⟨by rfl,fun w' _=>by go_simp<;>first|rfl|exact (Nat.mul_one _).symm⟩) hT ?_
    simp only[Act.put,zL,zM,zN]
    refine aw 7 (.pointer (some ⟨g,(A)*kY,none⟩)) 47 rfl rfl (Or.inl ⟨by rfl,fun w' _=>by go_simp<;>first|rfl|exact (Nat.mul_one _).symm⟩) hT ?_
    simp only[Act.put,zL,zM,zN]
    refine aw 8 (fH x) 48 rfl rfl (Rw.val tY (.tmp 47) rfl (by rfl) (by first|rfl|simp[Act.eval]) (T:=fun w'=>Rw w' g tY kY L rest) (fun _ h=>h) A7 (by rfl) (fun _=>by rfl)) hT ?_
    simp only[Act.put,zL,zM,zN]
    refine aB 9 (by kernel_rfl) rfl (fun K hK=>?_)
    refine bX 49 40 rfl f fs cp (fun vs=>(ab HC).1 vs wd) #[.tmp 44,.tmp 48] #[tY,tY] rfl (by first|rfl|simp[Act.eval]) (fs++#[fH ye,fH x]++cp) (by first|rfl|simp[Act.eval]) ((ab HC).2 ye x wd ((ab Ey).trans kF) Rq Rr) (by rfl) ?_
    rintro e w1 ⟨⟨r,rfl,hr⟩,bG⟩
    refine ⟨_,rfl,?_⟩
    have dR:Rw w1 g tY kY L rest:=Rw.up hT bG
    have gX:w.grownBy w1 (some g):=kF.trans (bG.but _)
    refine hK _ _ ⟨fun _=>dR,?_⟩
    clear hK K hT kF bG lP
    have hT:(fun w'=>Rw w' g tY kY L rest) w1:=dR
    simp only[Act.put,zL,zM,zN]
    refine aw 10 (.bool (lt ye x)) 50 rfl rfl (Or.inl ⟨by rfl,fun w' _=>by go_simp<;>first|rfl|exact (Nat.mul_one _).symm⟩) hT ?_
    simp only[Act.put,zL,zM,zN]
    refine aQ (by kernel_rfl) ?_
    clear hT
    have JA:=ab Hs
    cases hb:lt ye x with
    |true =>
     rw[hb] at hr
     have HE:=ak dR
     have Gw:=ak gX
     clear dR gX
     go_wp2
     go_roundg (j-(q+1))
     ·refine ⟨q+1,j,?_,?_,rfl,⟨by have:=ab qj;omega,Rh.2⟩,?_,ab HU,?_,Gw⟩
      ·have:=ab WV
       simp
       omega
      ·rw[VP]
      ·intro t y ht hy
       rcases Nat.lt_or_ge t q with h2|h2
       ·have h3:lt ye y=false:=List.pairwise_iff_getElem.1 JA t q (zB hy).1 (zB xK).1 h2 |> fun z=>by rwa [(zB hy).2,(zB xK).2] at z
        exact (ab HO).Je h3 hb
       ·obtain rfl:t=q:=by omega
        rw[xK] at hy
        cases hy
        exact hb
      ·show Rw _ _ _ _ _ _
       rw[hL]
       exact ab HE
     ·have:=ab bH;have:=ab qj;omega
    |false =>
     rw[hb] at hr
     have HE:=ak dR
     have Gw:=ak gX
     clear dR gX
     go_wp2
     go_roundg (q-i)
     ·refine ⟨i,q,?_,?_,rfl,⟨(ab qj).1,by have:=ab qj;omega⟩,ab HL,?_,?_,Gw⟩
      ·rw[TA]
      ·rw[←ab WV]
      ·intro t y ht hy
       rcases Nat.lt_or_ge q t with h2|h2
       ·have h3:lt y ye=false:=List.pairwise_iff_getElem.1 JA q t (zB xK).1 (zB hy).1 h2 |> fun z=>by rwa [(zB hy).2,(zB xK).2] at z
        exact (ab HO).tr _ _ _ hb h3
       ·obtain rfl:t=q:=by omega
        rw[xK] at hy
        cases hy
        exact hb
      ·show Rw _ _ _ _ _ _
       rw[hL]
       exact ab HE
     ·have:=ab bH;have:=ab qj;omega
   ·obtain rfl:i=j:=by omega
    obtain rfl:P=R:=by omega
    have k1:¬(P:Int)<(P:Int):=by omega
    have k2:decide ((P:Int)<(P:Int))=false:=decide_eq_false k1
    have f1:IntKind.i64.wrap ((P:Int)-1)=((A+i:Nat):Int):=by rw[IntKind.wrap_i64];omega
    obtain ⟨E,hE⟩:∃q,A+i=q:=⟨_,rfl⟩
    rw[hE] at f1
    have HE:=ak hE
    have vx:fO lt [x] v=v.take i++x::v.drop i:=by
     have hs:=ab Hs
     have e1:=MK (lt:=lt) (x:=x) (v1:=v.take i) (v2:=v.drop i) (by rw[List.take_append_drop];exact hs) (fun y hy=>by
      obtain ⟨t,ht,rfl⟩:=List.mem_iff_getElem.1 hy
      have h1:t<i:=by rw[List.length_take] at ht;omega
      have h2:t<v.length:=by rw[List.length_take] at ht;omega
      exact ab HL t _ h1 (by rw[List.getElem_take,List.getElem?_eq_getElem h2])) (fun y hy=>by
      obtain ⟨t,ht,rfl⟩:=List.mem_iff_getElem.1 hy
      have h2:i+t<v.length:=by rw[List.length_drop] at ht;omega
      exact ab HU (i+t) _ (by omega) (by rw[List.getElem_drop,List.getElem?_eq_getElem h2]))
     rwa [List.take_append_drop] at e1
    have BB:=ak vx
    clear vx hE iP gr hL A7
    go_wp2
    go_loopg [13] i (fun gk H' wr=>∃q:Nat,H'=.int .i64 ((A+q:Nat):Int)∧gk=i-q∧q≤i∧Hid (Rw wr g tY kY (p++v.take q++x::(v.drop q++s)) rest)∧Hid (w.grownBy wr (some g)))
    case atStart=>exact ⟨0,rfl,rfl,Nat.zero_le _,by have e9:=ab HR;show Rw _ _ _ _ _ _;simp at e9 ⊢;exact e9,ab HG⟩
    case round =>
     clear HR HG
     obtain ⟨q,rfl,jC,hq,HR,HG⟩:=hrel
     have jR:=ak jC
     clear jC
     obtain ⟨Q,hQ⟩:∃z,A+q=z:=⟨_,rfl⟩
     rw[hQ]
     have hE:=ab HE
     by_cases dC:q<i
     ·have k3:(Q:Int)<(E:Int):=by omega
      have k4:decide ((Q:Int)<(E:Int))=true:=decide_eq_true k3
      have iP:=ab HR
      have gr:=ab HG
      obtain ⟨ye,xK⟩:∃y,v[q]?=some y:=⟨_,List.getElem?_eq_getElem (by rw[ab HN];omega)⟩
      have hd:v.drop q=ye::v.drop (q+1):=by
       have h1:=zB xK
       rw[List.drop_eq_getElem_cons h1.1,h1.2]
      have ht:v.take (q+1)=v.take q++[ye]:=by rw[List.take_add_one,xK];rfl
      have CK:=Ca (p++v.take q) [] (v.drop (q+1)++s) x ye
      have hD:(p++v.take q).length=Q:=by rw[zK,List.length_take,ab HA,ab HN];omega
      simp only[List.nil_append,List.length_nil,Nat.add_zero,hD] at CK
      obtain ⟨Q1,VQ⟩:∃z,Q+1=z:=⟨_,rfl⟩
      rw[VQ] at CK
      obtain ⟨L,hL⟩:∃L,p++v.take q++x::(v.drop q++s)=L:=⟨_,rfl⟩
      rw[hL] at iP
      rw[show p++v.take q++x::ye::(v.drop (q+1)++s)=L by rw[←hL,hd];rfl] at CK
      obtain ⟨tw,tv,nL⟩:=CK
      have f7:IntKind.i64.wrap ((Q:Int)+1)=(Q1:Int):=by rw[IntKind.wrap_i64];omega
      have q0:(0:Int)≤(Q:Int):=zH _
      have q1:(Q:Int)<(n:Int):=by omega
      have q2:(0:Int)≤(Q1:Int):=zH _
      have q3:(Q1:Int)<(n:Int):=by omega
      go_upto_region 11 with fail
      refine wp_region_any (by kernel_rfl) (aV (z:=17) (T:=fun _=>True) _ _ _ _ ?_)
      try (change ba _ _ _ _ _ _ _ _ _ (World.drew _))
      have fZ:Rw wr.drew g tY kY L rest:=⟨iP.hp,iP.ln,iP.one⟩
      have kF:w.grownBy wr.drew (some g):=⟨gr.os,gr.tape,gr.output,gr.size,gr.block⟩
      obtain ⟨wd,lP⟩:∃wz,wr.drew=wz:=⟨_,rfl⟩
      rw[lP] at fZ kF ⊢
      refine aw 0 (.slice (some ⟨g,0,none⟩) n c) 61 rfl rfl (Or.inl ⟨by rfl,fun w' _=>by go_simp<;>first|rfl|exact (Nat.mul_one _).symm⟩) trivial ?_
      simp only[Act.put,zL,zM,zN]
      refine aw 1 (.int .i64 ((Q:Nat):Int)) 62 rfl rfl (Or.inl ⟨by rfl,fun w' _=>by go_simp<;>first|rfl|exact (Nat.mul_one _).symm⟩) trivial ?_
      simp only[Act.put,zL,zM,zN]
      refine aw 2 (.slice (some ⟨g,0,none⟩) n c) 63 rfl rfl (Or.inl ⟨by rfl,fun w' _=>by go_simp<;>first|rfl|exact (Nat.mul_one _).symm⟩) trivial ?_
      simp only[Act.put,zL,zM,zN]
      refine aw 3 (.int .i64 ((Q:Nat):Int)) 64 rfl rfl (Or.inl ⟨by rfl,fun w' _=>by go_simp<;>first|rfl|exact (Nat.mul_one _).symm⟩) trivial ?_
      simp only[Act.put,zL,zM,zN]
      refine aw 4 (.int .i64 ((Q1:Nat):Int)) 65 rfl rfl (Or.inl ⟨by rfl,fun w' _=>by go_simp<;>first|rfl|exact (Nat.mul_one _).symm⟩) trivial ?_
      simp only[Act.put,zL,zM,zN]
      refine aw 5 (.slice (some ⟨g,0,none⟩) n c) 66 rfl rfl (Or.inl ⟨by rfl,fun w' _=>by go_simp<;>first|rfl|exact (Nat.mul_one _).symm⟩) trivial ?_
      simp only[Act.put,zL,zM,zN]
      refine aw 6 (.int .i64 ((Q:Nat):Int)) 67 rfl rfl (Or.inl ⟨by rfl,fun w' _=>by go_simp<;>first|rfl|exact (Nat.mul_one _).symm⟩) trivial ?_
      simp only[Act.put,zL,zM,zN]
      refine aw 7 (.int .i64 ((Q1:Nat):Int)) 68 rfl rfl (Or.inl ⟨by rfl,fun w' _=>by go_simp<;>first|rfl|exact (Nat.mul_one _).symm⟩) trivial ?_
      simp only[Act.put,zL,zM,zN]
      refine aw 8 (.pointer (some ⟨g,(Q1)*kY,none⟩)) 69 rfl rfl (Or.inl ⟨by rfl,fun w' _=>by go_simp<;>first|rfl|exact (Nat.mul_one _).symm⟩) trivial ?_
      simp only[Act.put,zL,zM,zN]
      refine aw 10 (.slice (some ⟨g,0,none⟩) n c) 71 rfl rfl (Or.inl ⟨by rfl,fun w' _=>by go_simp<;>first|rfl|exact (Nat.mul_one _).symm⟩) trivial ?_
      simp only[Act.put,zL,zM,zN]
      refine aw 11 (.int .i64 ((Q:Nat):Int)) 72 rfl rfl (Or.inl ⟨by rfl,fun w' _=>by go_simp<;>first|rfl|exact (Nat.mul_one _).symm⟩) trivial ?_
      simp only[Act.put,zL,zM,zN]
      refine aw 12 (.pointer (some ⟨g,(Q)*kY,none⟩)) 73 rfl rfl (Or.inl ⟨by rfl,fun w' _=>by go_simp<;>first|rfl|exact (Nat.mul_one _).symm⟩) trivial ?_
      simp only[Act.put,zL,zM,zN]
      refine e7 _ _ _ _ (jq (z:=15) (T:=fun w'=>Rw w' g tY kY L rest) _ _ _ _ ?_)
      have hT:(fun w'=>Rw w' g tY kY L rest) wd:=fZ
      refine cV 9 (fH ye) 70 rfl rfl (Rw.val tY (.tmp 69) rfl (by rfl) (by first|rfl|simp[Act.eval]) (T:=fun w'=>Rw w' g tY kY L rest) (fun _ h=>h) tv (by rfl) (fun _=>by rfl)) hT ?_
      simp only[Act.put,zL,zM,zN]
      refine cV 13 (fH x) 74 rfl rfl (Rw.val tY (.tmp 73) rfl (by rfl) (by first|rfl|simp[Act.eval]) (T:=fun w'=>Rw w' g tY kY L rest) (fun _ h=>h) tw (by rfl) (fun _=>by rfl)) hT ?_
      simp only[Act.put,zL,zM,zN]
      refine cV 14 (.pointer (some ⟨g,(Q)*kY,none⟩)) 75 rfl rfl (Or.inl ⟨by rfl,fun w' _=>by go_simp<;>first|rfl|exact (Nat.mul_one _).symm⟩) hT ?_
      simp only[Act.put,zL,zM,zN]
      refine ld 15 (by kernel_rfl) rfl (fun K hK=>?_)
      refine cG (i:=Q) rfl tY (.tmp 75) (.tmp 70) rfl (by first|rfl|simp[Act.eval]) (by first|rfl|simp[Act.eval]) fZ (zB tw).1 (fZ.ln _ (List.mem_of_getElem? tv)) (fZ.one _ (List.mem_of_getElem? tv)) (by rfl) ?_
      refine hK _ _ ⟨fun h=>absurd rfl h,jr _ _ _ _ (by kernel_rfl) (aV (z:=17) (T:=fun _=>True) _ _ _ _ ?_)⟩
      clear hK K hT
      have dR:=fZ.set (i:=Q) (fZ.ln _ (List.mem_of_getElem? tv)) (fZ.one _ (List.mem_of_getElem? tv))
      refine aw 16 (.pointer (some ⟨g,(Q1)*kY,none⟩)) 76 rfl rfl (Or.inl ⟨by rfl,fun w' _=>by go_simp<;>first|rfl|exact (Nat.mul_one _).symm⟩) trivial ?_
      simp only[Act.put,zL]
      refine aB 17 (by kernel_rfl) rfl (fun K hK=>?_)
      refine cG (i:=Q1) rfl tY (.tmp 76) (.tmp 74) rfl (by first|rfl|simp[Act.eval]) (by first|rfl|simp[Act.eval]) dR (by rw[List.length_set];exact (zB tv).1) (fZ.ln _ (List.mem_of_getElem? tw)) (fZ.one _ (List.mem_of_getElem? tw)) (by rfl) ?_
      refine hK _ _ ⟨fun _=>trivial,aQ (by kernel_rfl) ?_⟩
      clear hK K
      simp only[Act.put]
      have xN:=dR.set (i:=Q1) (fZ.ln _ (List.mem_of_getElem? tw)) (fZ.one _ (List.mem_of_getElem? tw))
      have Bf:=(kF.trans (cZ (w:=wd) (((L.set (Q) ye).flatten++rest).toArray))).trans (cZ ((((L.set (Q) ye).set (Q1) x).flatten++rest).toArray))
      obtain ⟨w2,br⟩:∃wz,(wd.setRow g (((L.set (Q) ye).flatten++rest).toArray)).setRow g ((((L.set (Q) ye).set (Q1) x).flatten++rest).toArray)=wz:=⟨_,rfl⟩
      rw[br] at xN Bf ⊢
      rw[nL] at xN
      clear fZ dR kF tw tv xK br
      go_wp2
      go_roundg (i-(q+1))
      ·refine ⟨q+1,?_,rfl,dC,?_,Bf⟩
       ·simp
        omega
       ·show Rw _ _ _ _ _ _
        rw[ht]
        (first|simpa[List.append_assoc] using xN|(have e9:=xN;simp[List.append_assoc] at e9 ⊢;exact e9))
      ·have:=ab jR;omega
     ·obtain rfl:q=i:=by omega
      have k3:¬(Q:Int)<(E:Int):=by omega
      have k4:decide ((Q:Int)<(E:Int))=false:=decide_eq_false k3
      go_wp2
      (try simp only[Exit.inBlock,Exit.then])
      refine bodyPost_ret (results_none rfl _ _ _) rfl ?_
      refine ⟨rfl,?_,ab HG⟩
      rw[ab BB]
      have h1:=ab HR
      (first|simpa[List.append_assoc] using h1|(have e9:=h1;simp[List.append_assoc] at e9 ⊢;exact e9)))
end Go.Proofs.YtghioefalckgoaaGreatDoor
