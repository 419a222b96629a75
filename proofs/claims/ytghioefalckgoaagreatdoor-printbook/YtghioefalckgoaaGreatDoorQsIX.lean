import Derived.Test.YtghioefalckgoaaGreatDoorM02
set_option maxHeartbeats 4000000
set_option maxRecDepth 100000
namespace Go.Proofs.YtghioefalckgoaaGreatDoor
open Go.RowKit
attribute [local go_sem ↓] Go.wp_at_zero Go.wp_at_succ
theorem Jr (X:SI) {w0 w:World}{g n c:Nat}{f:FuncId}{fs cp:Array Value}{lt:List Value→List Value→Bool}{Pe:List Value→Prop}{p l s:List (List Value)}{rest:List Value} (hC:zQ Tryz.prog f fs cp lt Pe w0 g) (wh:w0.grownBy w (some g)) (h:Rw w g X.el X.k (p++l++s) rest) (hP:∀x ∈ l,Pe x) (hn:(p++l++s).length=n) (hm:n≤140737488355328) :
  Calls Tryz.prog X.si #[.slice (some ⟨g,0,none⟩) n c,.int .i64 ((p.length:Nat):Int),.int .i64 ((p.length+l.length:Nat):Int),.func (.func f) fs cp] w fun e w'=>e=.returned (.tuple #[])∧Rw w' g X.el X.k (p++cR lt l++s) rest∧w.grownBy w' (some g):=by
 have H:=ak h
 have HC:=ak hC
 have Ey:=ak wh
 have HP:=ak hP
 have Hm:=ak hm
 have Hn:=ak hn
 obtain ⟨A,hA⟩:∃x,p.length=x:=⟨_,rfl⟩
 obtain ⟨N,hN⟩:∃x,l.length=x:=⟨_,rfl⟩
 obtain ⟨B,hB⟩:∃x,A+N=x:=⟨_,rfl⟩
 have J4:B≤n:=by
  rw[←hn]
  simp only[zK]
  omega
 rw[hN,hA,hB]
 have e0:IntKind.i64.wrap ((A:Int)+1)=((A+1:Nat):Int):=by rw[IntKind.wrap_i64];omega
 have HA:=ak hA
 have HN:=ak hN
 have HB:=ak hB
 have Lk:=ak J4
 clear hC wh h hP hn hm hA hN hB J4
 let tY:=X.el
 let kY:=X.k
 cases X
 all_goals simp only[SI.el,SI.k,SI.si] at *
 all_goals (first|go_enter Tryz.func246,Tryz.ntmps246|go_enter Tryz.func248,Tryz.ntmps248|go_enter Tryz.func260,Tryz.ntmps260|go_enter Tryz.func308,Tryz.ntmps308|go_enter Tryz.func310,Tryz.ntmps310|go_enter Tryz.func312,Tryz.ntmps312|go_enter Tryz.func315,Tryz.ntmps315)
 all_goals (
  go_wp2
  go_loopg [8,9] (N-1) (fun gk v8 _ wr=>∃q:Nat,v8=.int .i64 ((A+q:Nat):Int)∧gk=N-q∧0<q∧Hid (Rw wr g tY kY (p++(cR lt (l.take q)++l.drop q)++s) rest)∧Hid (w.grownBy wr (some g)))
  case atStart =>
   refine ⟨1,rfl,by omega,by omega,?_,zI _ _⟩
   have h1:=ab H
   show Rw _ _ _ _ _ _
   have e:cR lt (l.take 1)++l.drop 1=l:=by
    cases l with
    |nil=>rfl
    |cons x r=>rfl
   rwa [e]
  case round =>
   obtain ⟨q,rfl,bd,hq,HR,HG⟩:=hrel
   have bH:=ak bd
   clear bd
   have ma:=ab Hm
   have aY:=ab HB
   have aT:=ab Lk
   obtain ⟨Q,hQ⟩:∃x,A+q=x:=⟨_,rfl⟩
   rw[hQ]
   by_cases aU:q<N
   ·have i1:(Q:Int)<(B:Int):=by omega
    have i2:decide ((Q:Int)<(B:Int))=true:=decide_eq_true i1
    obtain ⟨xe,mP⟩:∃v,l[q]?=some v:=⟨_,List.getElem?_eq_getElem (by have:=ab HN;omega)⟩
    have wc:IntKind.i64.wrap ((Q:Int)+1)=((Q+1:Nat):Int):=by rw[IntKind.wrap_i64];omega
    have HQ:=ak hQ
    have bn:=ak aU
    have Rr:=ab HP xe (List.mem_of_getElem? mP)
    have Tt:l.drop q=xe::l.drop (q+1):=by
     have h1:=(zB mP)
     rw[List.drop_eq_getElem_cons h1.1,h1.2]
    have htk:l.take (q+1)=l.take q++[xe]:=by rw[List.take_add_one,mP];rfl
    have XS:(cR lt (l.take q)).length=q:=by rw[bc,List.length_take];have:=ab HN;omega
    have hP0:∀z ∈ cR lt (l.take q),Pe z:=fun z hz=>ab HP z (List.mem_of_mem_take ((du lt _ z).1 hz))
    have lF:Hid (Rw wr g tY kY (p++cR lt (l.take q)++(xe::([]++(l.drop (q+1)++s)))) rest):=by
     have h1:=ab HR
     show Rw _ _ _ _ _ _
     rw[Tt] at h1
     (first|simpa[List.append_assoc] using h1|(have e9:=h1;simp[List.append_assoc] at e9 ⊢;exact e9))
    have QW:cR lt (l.take (q+1))=cX lt (cR lt (l.take q)) xe:=by rw[htk,At]
    have Hsn:=ak QW
    have Hl0:=ak XS
    have SP:=ak hP0
    clear Tt htk XS hP0 HR QW mP hQ aU aY aT
    go_wp2
    go_loopg [9] q (fun gk v9 wr=>∃(J:Nat) (l1 l2:List (List Value)),v9=.int .i64 (J:Int)∧gk=l1.length∧Hid (A+l1.length=J∧J≤Q)∧Hid (cX lt (cR lt (l.take q)) xe=cX lt l1 xe++l2)∧Hid (∀z ∈ l1,Pe z)∧Hid (Rw wr g tY kY (p++l1++(xe::(l2++(l.drop (q+1)++s)))) rest)∧Hid (w.grownBy wr (some g)))
    case atStart=>exact ⟨Q,_,[],rfl,(ab Hl0).symm,⟨by rw[ab Hl0];exact ab HQ,zD _⟩,by show _=_;rw[List.append_nil],ab SP,ab lF,ab HG⟩
    case round =>
     clear lF HG
     obtain ⟨J,l1,l2,rfl,jC,HJ,HI,HPl,HR,HG⟩:=hrel
     have jR:=ak jC
     clear jC
     have iP:=ab HR
     have gr:=ab HG
     have hJ:=ab HJ
     have Tk:Q<n:=by have:=ab Lk;omega
     rcases List.eq_nil_or_concat l1 with rfl|⟨OQ,ye,oZ⟩
     ·obtain rfl:A=J:=by simpa using hJ.1
      have k1:decide ((A:Int)<(A:Int))=false:=by simp
      have k2:¬(A:Int)<(A:Int):=by omega
      obtain ⟨L,hL⟩:∃L,p++[]++(xe::(l2++(l.drop (q+1)++s)))=L:=⟨_,rfl⟩
      rw[hL] at iP
      go_upto_region 4 with fail
      refine wp_region_any (by kernel_rfl) (aV (z:=99) (T:=fun w'=>Rw w' g tY kY L rest) _ _ _ _ ?_)
      try (change ba _ _ _ _ _ _ _ _ _ (World.drew _))
      have fZ:Rw wr.drew g tY kY L rest:=⟨iP.hp,iP.ln,iP.one⟩
      have hT:(fun w'=>Rw w' g tY kY L rest) wr.drew:=⟨iP.hp,iP.ln,iP.one⟩
      have kF:w.grownBy wr.drew (some g):=⟨gr.os,gr.tape,gr.output,gr.size,gr.block⟩
      obtain ⟨wd,lP⟩:∃x,wr.drew=x:=⟨_,rfl⟩
      rw[lP] at hT kF fZ ⊢
      refine aw 0 (.int .i64 ((A:Nat):Int)) 18 rfl rfl (Or.inl ⟨by rfl,fun w' _=>by go_simp<;>first|rfl|exact (Nat.mul_one _).symm⟩) hT ?_
      simp only[Act.put,zL,zM,zN]
      refine aw 1 (.int .i64 ((A:Nat):Int)) 19 rfl rfl (Or.inl ⟨by rfl,fun w' _=>by go_simp<;>first|rfl|exact (Nat.mul_one _).symm⟩) hT ?_
      simp only[Act.put,zL,zM,zN]
      refine aw 2 (.bool false) 20 rfl rfl (Or.inl ⟨by rfl,fun w' _=>by go_simp<;>first|rfl|exact (Nat.mul_one _).symm⟩) hT ?_
      simp only[Act.put,zL,zM,zN]
      refine aw 3 (.bool false) 21 rfl rfl (Or.inl ⟨by rfl,fun w' _=>by go_simp<;>first|rfl|exact (Nat.mul_one _).symm⟩) hT ?_
      simp only[Act.put,zL,zM,zN]
      refine aw 4 undef 22 rfl rfl (Or.inr ⟨by rfl,rfl⟩) hT ?_
      simp only[Act.put,zL,zM,zN]
      refine aw 5 undef 23 rfl rfl (Or.inr ⟨by rfl,rfl⟩) hT ?_
      simp only[Act.put,zL,zM,zN]
      refine aw 6 undef 24 rfl rfl (Or.inr ⟨by rfl,rfl⟩) hT ?_
      simp only[Act.put,zL,zM,zN]
      refine aw 7 undef 25 rfl rfl (Or.inr ⟨by rfl,rfl⟩) hT ?_
      simp only[Act.put,zL,zM,zN]
      refine aw 8 undef 26 rfl rfl (Or.inr ⟨by rfl,rfl⟩) hT ?_
      simp only[Act.put,zL,zM,zN]
      refine aw 9 undef 27 rfl rfl (Or.inr ⟨by rfl,rfl⟩) hT ?_
      simp only[Act.put,zL,zM,zN]
      refine aw 10 undef 28 rfl rfl (Or.inr ⟨by rfl,rfl⟩) hT ?_
      simp only[Act.put,zL,zM,zN]
      refine aw 11 undef 29 rfl rfl (Or.inr ⟨by rfl,rfl⟩) hT ?_
      simp only[Act.put,zL,zM,zN]
      refine aw 12 undef 30 rfl rfl (Or.inr ⟨by rfl,rfl⟩) hT ?_
      simp only[Act.put,zL,zM,zN]
      refine aw 13 undef 31 rfl rfl (Or.inr ⟨by rfl,rfl⟩) hT ?_
      simp only[Act.put,zL,zM,zN]
      refine aw 14 undef 32 rfl rfl (Or.inr ⟨by rfl,rfl⟩) hT ?_
      simp only[Act.put,zL,zM,zN]
      refine aw 15 undef 33 rfl rfl (Or.inr ⟨by rfl,rfl⟩) hT ?_
      simp only[Act.put,zL,zM,zN]
      refine aw 16 (.bool false) 34 rfl rfl (Or.inl ⟨by rfl,fun w' _=>by go_simp<;>first|rfl|exact (Nat.mul_one _).symm⟩) hT ?_
      simp only[Act.put,zL,zM,zN]
      refine aQ (by kernel_rfl) ?_
      clear hT
      go_wp2
      go_roundg (N-(q+1))
      ·refine ⟨q+1,?_,rfl,by omega,?_,kF⟩
       ·have:=ab HQ
        rw[←this]
        simp
        omega
       ·show Rw _ _ _ _ _ _
        have e1:=ab HI
        rw[jz] at e1
        rw[ab Hsn,e1]
        have e2:p++([xe]++l2++l.drop (q+1))++s=L:=by rw[←hL];simp
        rw[e2]
        exact fZ
      ·have:=ab bH;have:=ab bn;omega
     ·rw[List.concat_eq_append] at oZ
      subst oZ
      obtain ⟨J1,Ya⟩:∃x,A+OQ.length=x:=⟨_,rfl⟩
      have Rs:J=J1+1:=by rw[←Ya,←hJ.1,zK];rfl
      have k2:(A:Int)<(J:Int):=by omega
      have k1:decide ((A:Int)<(J:Int))=true:=decide_eq_true k2
      have j0:(0:Int)≤(J:Int):=zH _
      have j1:(J:Int)<(n:Int):=by omega
      have j2:(0:Int)≤(J1:Int):=zH _
      have j3:(J1:Int)<(n:Int):=by omega
      have wj:IntKind.i64.wrap ((J:Int)-1)=(J1:Int):=by rw[IntKind.wrap_i64];omega
      obtain ⟨L,hL⟩:∃L,p++(OQ++[ye])++(xe::(l2++(l.drop (q+1)++s)))=L:=⟨_,rfl⟩
      have CK:=Aj (p++OQ) (l2++(l.drop (q+1)++s)) ye xe
      rw[show (p++OQ)++ye::xe::(l2++(l.drop (q+1)++s))=L by rw[←hL];simp,show (p++OQ).length=J1 by rw[zK,ab HA,Ya],←Rs] at CK
      obtain ⟨A7,CL,nL⟩:=CK
      rw[hL] at iP
      have Rq:=ab HPl ye (by simp)
      have BH:=ak Rs
      have pF:=ak Ya
      have HL:=ak hL
      clear Ya Rs hJ hL HR
      go_upto_region 4 with fail
      refine wp_region_any (by kernel_rfl) (aV (z:=99) (T:=fun w'=>Rw w' g tY kY L rest) _ _ _ _ ?_)
      try (change ba _ _ _ _ _ _ _ _ _ (World.drew _))
      have hT:(fun w'=>Rw w' g tY kY L rest) wr.drew:=⟨iP.hp,iP.ln,iP.one⟩
      have kF:w.grownBy wr.drew (some g):=⟨gr.os,gr.tape,gr.output,gr.size,gr.block⟩
      obtain ⟨wd,lP⟩:∃x,wr.drew=x:=⟨_,rfl⟩
      rw[lP] at hT kF ⊢
      refine aw 0 (.int .i64 ((J:Nat):Int)) 18 rfl rfl (Or.inl ⟨by rfl,fun w' _=>by go_simp<;>first|rfl|exact (Nat.mul_one _).symm⟩) hT ?_
      simp only[Act.put,zL,zM,zN]
      refine aw 1 (.int .i64 ((A:Nat):Int)) 19 rfl rfl (Or.inl ⟨by rfl,fun w' _=>by go_simp<;>first|rfl|exact (Nat.mul_one _).symm⟩) hT ?_
      simp only[Act.put,zL,zM,zN]
      refine aw 2 (.bool true) 20 rfl rfl (Or.inl ⟨by rfl,fun w' _=>by go_simp<;>first|rfl|exact (Nat.mul_one _).symm⟩) hT ?_
      simp only[Act.put,zL,zM,zN]
      refine aw 3 (.bool true) 21 rfl rfl (Or.inl ⟨by rfl,fun w' _=>by go_simp<;>first|rfl|exact (Nat.mul_one _).symm⟩) hT ?_
      simp only[Act.put,zL,zM,zN]
      refine aw 4 (.func (.func f) fs cp) 22 rfl rfl (Or.inl ⟨by rfl,fun w' _=>by go_simp<;>first|rfl|exact (Nat.mul_one _).symm⟩) hT ?_
      simp only[Act.put,zL,zM,zN]
      refine aw 5 (.slice (some ⟨g,0,none⟩) n c) 23 rfl rfl (Or.inl ⟨by rfl,fun w' _=>by go_simp<;>first|rfl|exact (Nat.mul_one _).symm⟩) hT ?_
      simp only[Act.put,zL,zM,zN]
      refine aw 6 (.int .i64 ((J:Nat):Int)) 24 rfl rfl (Or.inl ⟨by rfl,fun w' _=>by go_simp<;>first|rfl|exact (Nat.mul_one _).symm⟩) hT ?_
      simp only[Act.put,zL,zM,zN]
      refine aw 7 (.pointer (some ⟨g,(J)*kY,none⟩)) 25 rfl rfl (Or.inl ⟨by rfl,fun w' _=>by go_simp<;>first|rfl|exact (Nat.mul_one _).symm⟩) hT ?_
      simp only[Act.put,zL,zM,zN]
      refine aw 8 (fH xe) 26 rfl rfl (Rw.val tY (.tmp 25) rfl (by rfl) (by first|rfl|simp[Act.eval]) (T:=fun w'=>Rw w' g tY kY L rest) (fun _ h=>h) A7 (by rfl) (fun _=>by rfl)) hT ?_
      simp only[Act.put,zL,zM,zN]
      refine aw 9 (.slice (some ⟨g,0,none⟩) n c) 27 rfl rfl (Or.inl ⟨by rfl,fun w' _=>by go_simp<;>first|rfl|exact (Nat.mul_one _).symm⟩) hT ?_
      simp only[Act.put,zL,zM,zN]
      refine aw 10 (.int .i64 ((J:Nat):Int)) 28 rfl rfl (Or.inl ⟨by rfl,fun w' _=>by go_simp<;>first|rfl|exact (Nat.mul_one _).symm⟩) hT ?_
      simp only[Act.put,zL,zM,zN]
      refine aw 11 (.int .i64 ((J1:Nat):Int)) 29 rfl rfl (Or.inl ⟨by rfl,fun w' _=>by go_simp<;>first|rfl|exact (Nat.mul_one _).symm⟩) hT ?_
      simp only[Act.put,zL,zM,zN]
      refine aw 12 (.pointer (some ⟨g,(J1)*kY,none⟩)) 30 rfl rfl (Or.inl ⟨by rfl,fun w' _=>by go_simp<;>first|rfl|exact (Nat.mul_one _).symm⟩) hT ?_
      simp only[Act.put,zL,zM,zN]
      refine aw 13 (fH ye) 31 rfl rfl (Rw.val tY (.tmp 30) rfl (by rfl) (by first|rfl|simp[Act.eval]) (T:=fun w'=>Rw w' g tY kY L rest) (fun _ h=>h) CL (by rfl) (fun _=>by rfl)) hT ?_
      simp only[Act.put,zL,zM,zN]
      refine aB 14 (by kernel_rfl) rfl (fun K hK=>?_)
      refine bX 32 22 rfl f fs cp (fun vs=>(ab HC).1 vs wd) #[.tmp 26,.tmp 31] #[tY,tY] rfl (by first|rfl|simp[Act.eval]) (fs++#[fH xe,fH ye]++cp) (by first|rfl|simp[Act.eval]) ((ab HC).2 xe ye wd ((ab Ey).trans kF) Rr Rq) (by rfl) ?_
      rintro e w1 ⟨⟨r,rfl,hr⟩,bG⟩
      refine ⟨_,rfl,?_⟩
      have dR:Rw w1 g tY kY L rest:=Rw.up hT bG
      have gX:w.grownBy w1 (some g):=kF.trans (bG.but _)
      refine hK _ _ ⟨fun _=>dR,?_⟩
      clear hK K hT kF bG lP
      have hT:(fun w'=>Rw w' g tY kY L rest) w1:=dR
      simp only[Act.put,zL,zM,zN]
      refine aw 15 (.bool (lt xe ye)) 33 rfl rfl (Or.inl ⟨by rfl,fun w' _=>by go_simp<;>first|rfl|exact (Nat.mul_one _).symm⟩) hT ?_
      simp only[Act.put,zL,zM,zN]
      refine aw 16 (.bool (lt xe ye)) 34 rfl rfl (Or.inl ⟨by rfl,fun w' _=>by go_simp<;>first|rfl|exact (Nat.mul_one _).symm⟩) hT ?_
      simp only[Act.put,zL,zM,zN]
      refine aQ (by kernel_rfl) ?_
      clear hT HG
      cases hb:lt xe ye with
      |false =>
       rw[hb] at hr
       have HE:=ak dR
       have Gw:=ak gX
       clear dR gX A7 CL nL gr iP
       go_wp2
       go_roundg (N-(q+1))
       ·refine ⟨q+1,?_,rfl,by omega,?_,Gw⟩
        ·have:=ab HQ
         rw[←this]
         simp
         omega
        ·show Rw _ _ _ _ _ _
         have e1:=ab HI
         rw[bI,if_neg (by rw[hb];simp)] at e1
         rw[ab Hsn,e1]
         have e2:p++(OQ++[ye,xe]++l2++l.drop (q+1))++s=L:=by rw[←ab HL];simp
         rw[e2]
         exact ab HE
       ·have:=ab bH;have:=ab bn;omega
      |true =>
       rw[hb] at hr
       have iP:=dR
       have gr:=gX
       clear dR gX
       go_upto_region 6 with fail
       refine wp_region_any (by kernel_rfl) (aV (z:=17) (T:=fun _=>True) _ _ _ _ ?_)
       try (change ba _ _ _ _ _ _ _ _ _ (World.drew _))
       have fZ:Rw w1.drew g tY kY L rest:=⟨iP.hp,iP.ln,iP.one⟩
       have kF:w.grownBy w1.drew (some g):=⟨gr.os,gr.tape,gr.output,gr.size,gr.block⟩
       obtain ⟨wd,lP⟩:∃x,w1.drew=x:=⟨_,rfl⟩
       rw[lP] at fZ kF ⊢
       refine aw 0 (.slice (some ⟨g,0,none⟩) n c) 37 rfl rfl (Or.inl ⟨by rfl,fun w' _=>by go_simp<;>first|rfl|exact (Nat.mul_one _).symm⟩) trivial ?_
       simp only[Act.put,zL,zM,zN]
       refine aw 1 (.int .i64 ((J:Nat):Int)) 38 rfl rfl (Or.inl ⟨by rfl,fun w' _=>by go_simp<;>first|rfl|exact (Nat.mul_one _).symm⟩) trivial ?_
       simp only[Act.put,zL,zM,zN]
       refine aw 2 (.slice (some ⟨g,0,none⟩) n c) 39 rfl rfl (Or.inl ⟨by rfl,fun w' _=>by go_simp<;>first|rfl|exact (Nat.mul_one _).symm⟩) trivial ?_
       simp only[Act.put,zL,zM,zN]
       refine aw 3 (.int .i64 ((J:Nat):Int)) 40 rfl rfl (Or.inl ⟨by rfl,fun w' _=>by go_simp<;>first|rfl|exact (Nat.mul_one _).symm⟩) trivial ?_
       simp only[Act.put,zL,zM,zN]
       refine aw 4 (.int .i64 ((J1:Nat):Int)) 41 rfl rfl (Or.inl ⟨by rfl,fun w' _=>by go_simp<;>first|rfl|exact (Nat.mul_one _).symm⟩) trivial ?_
       simp only[Act.put,zL,zM,zN]
       refine aw 5 (.slice (some ⟨g,0,none⟩) n c) 42 rfl rfl (Or.inl ⟨by rfl,fun w' _=>by go_simp<;>first|rfl|exact (Nat.mul_one _).symm⟩) trivial ?_
       simp only[Act.put,zL,zM,zN]
       refine aw 6 (.int .i64 ((J:Nat):Int)) 43 rfl rfl (Or.inl ⟨by rfl,fun w' _=>by go_simp<;>first|rfl|exact (Nat.mul_one _).symm⟩) trivial ?_
       simp only[Act.put,zL,zM,zN]
       refine aw 7 (.int .i64 ((J1:Nat):Int)) 44 rfl rfl (Or.inl ⟨by rfl,fun w' _=>by go_simp<;>first|rfl|exact (Nat.mul_one _).symm⟩) trivial ?_
       simp only[Act.put,zL,zM,zN]
       refine aw 8 (.pointer (some ⟨g,(J1)*kY,none⟩)) 45 rfl rfl (Or.inl ⟨by rfl,fun w' _=>by go_simp<;>first|rfl|exact (Nat.mul_one _).symm⟩) trivial ?_
       simp only[Act.put,zL,zM,zN]
       refine aw 10 (.slice (some ⟨g,0,none⟩) n c) 47 rfl rfl (Or.inl ⟨by rfl,fun w' _=>by go_simp<;>first|rfl|exact (Nat.mul_one _).symm⟩) trivial ?_
       simp only[Act.put,zL,zM,zN]
       refine aw 11 (.int .i64 ((J:Nat):Int)) 48 rfl rfl (Or.inl ⟨by rfl,fun w' _=>by go_simp<;>first|rfl|exact (Nat.mul_one _).symm⟩) trivial ?_
       simp only[Act.put,zL,zM,zN]
       refine aw 12 (.pointer (some ⟨g,(J)*kY,none⟩)) 49 rfl rfl (Or.inl ⟨by rfl,fun w' _=>by go_simp<;>first|rfl|exact (Nat.mul_one _).symm⟩) trivial ?_
       simp only[Act.put,zL,zM,zN]
       refine e7 _ _ _ _ (jq (z:=15) (T:=fun w'=>Rw w' g tY kY L rest) _ _ _ _ ?_)
       have hT:(fun w'=>Rw w' g tY kY L rest) wd:=fZ
       refine cV 9 (fH ye) 46 rfl rfl (Rw.val tY (.tmp 45) rfl (by rfl) (by first|rfl|simp[Act.eval]) (T:=fun w'=>Rw w' g tY kY L rest) (fun _ h=>h) CL (by rfl) (fun _=>by rfl)) hT ?_
       simp only[Act.put,zL,zM,zN]
       refine cV 13 (fH xe) 50 rfl rfl (Rw.val tY (.tmp 49) rfl (by rfl) (by first|rfl|simp[Act.eval]) (T:=fun w'=>Rw w' g tY kY L rest) (fun _ h=>h) A7 (by rfl) (fun _=>by rfl)) hT ?_
       simp only[Act.put,zL,zM,zN]
       refine cV 14 (.pointer (some ⟨g,(J)*kY,none⟩)) 51 rfl rfl (Or.inl ⟨by rfl,fun w' _=>by go_simp<;>first|rfl|exact (Nat.mul_one _).symm⟩) hT ?_
       simp only[Act.put,zL,zM,zN]
       refine ld 15 (by kernel_rfl) rfl (fun K hK=>?_)
       refine cG (i:=J) rfl tY (.tmp 51) (.tmp 46) rfl (by first|rfl|simp[Act.eval]) (by first|rfl|simp[Act.eval]) fZ (zB A7).1 (fZ.ln _ (List.mem_of_getElem? CL)) (fZ.one _ (List.mem_of_getElem? CL)) (by rfl) ?_
       refine hK _ _ ⟨fun h=>absurd rfl h,jr _ _ _ _ (by kernel_rfl) (aV (z:=17) (T:=fun _=>True) _ _ _ _ ?_)⟩
       clear hK K hT
       have dR:=fZ.set (i:=J) (fZ.ln _ (List.mem_of_getElem? CL)) (fZ.one _ (List.mem_of_getElem? CL))
       refine aw 16 (.pointer (some ⟨g,(J1)*kY,none⟩)) 52 rfl rfl (Or.inl ⟨by rfl,fun w' _=>by go_simp<;>first|rfl|exact (Nat.mul_one _).symm⟩) trivial ?_
       simp only[Act.put,zL]
       refine aB 17 (by kernel_rfl) rfl (fun K hK=>?_)
       refine cG (i:=J1) rfl tY (.tmp 52) (.tmp 50) rfl (by first|rfl|simp[Act.eval]) (by first|rfl|simp[Act.eval]) dR (by rw[List.length_set];exact (zB CL).1) (fZ.ln _ (List.mem_of_getElem? A7)) (fZ.one _ (List.mem_of_getElem? A7)) (by rfl) ?_
       refine hK _ _ ⟨fun _=>trivial,aQ (by kernel_rfl) ?_⟩
       clear hK K
       simp only[Act.put]
       have xN:=dR.set (i:=J1) (fZ.ln _ (List.mem_of_getElem? A7)) (fZ.one _ (List.mem_of_getElem? A7))
       have Bf:=(kF.trans (cZ (w:=wd) (((L.set (J) ye).flatten++rest).toArray))).trans (cZ ((((L.set (J) ye).set (J1) xe).flatten++rest).toArray))
       obtain ⟨w2,br⟩:∃x,(wd.setRow g (((L.set (J) ye).flatten++rest).toArray)).setRow g ((((L.set (J) ye).set (J1) xe).flatten++rest).toArray)=x:=⟨_,rfl⟩
       rw[br] at xN Bf ⊢
       rw[nL] at xN
       clear fZ dR kF A7 CL br iP gr lP
       go_wp2
       go_roundg OQ.length
       ·refine ⟨J1,OQ,ye::l2,rfl,rfl,⟨ab pF,by have:=(ab HJ).2;have:=ab BH;omega⟩,?_,fun z hz=>ab HPl z (by simp[hz]),?_,Bf⟩
        ·have e1:=ab HI
         show _=_
         rw[e1,bI,if_pos hb]
         simp
        ·show Rw _ _ _ _ _ _
         (first|simpa using xN|(have e9:=xN;simp at e9 ⊢;exact e9))
       ·have:=ab jR
        rw[zK] at this
        simp at this
        omega
   ·have i1:¬(Q:Int)<(B:Int):=by omega
    have i2:decide ((Q:Int)<(B:Int))=false:=decide_eq_false i1
    have hNl:=ab HN
    go_wp2
    go_end0
    refine ⟨rfl,?_,ab HG⟩
    have h1:=ab HR
    rw[List.take_of_length_le (by omega),List.drop_of_length_le (by omega),List.append_nil] at h1
    (first|simpa[List.append_assoc] using h1|(have e9:=h1;simp[List.append_assoc] at e9 ⊢;exact e9)))
end Go.Proofs.YtghioefalckgoaaGreatDoor
