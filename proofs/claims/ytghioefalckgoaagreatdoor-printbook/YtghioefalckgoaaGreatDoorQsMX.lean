import Derived.Test.YtghioefalckgoaaGreatDoorM05
set_option maxHeartbeats 8000000
set_option maxRecDepth 100000
namespace Go.Proofs.YtghioefalckgoaaGreatDoor
open Go.RowKit
attribute [local go_sem ↓] Go.wp_at_zero Go.wp_at_succ
def SyQ (X:SI) (w0:World) (g n c:Nat) (f:FuncId) (fs cp:Array Value) (lt:List Value→List Value→Bool) (Pe:List Value→Prop) (rest:List Value) (k:Nat):Prop :=
 ∀(p u v s:List (List Value)) (w:World),u.length+v.length=k→0<u.length→0<v.length→w0.grownBy w (some g)→Rw w g X.el X.k (p++(u++v)++s) rest→(∀x ∈ u,Pe x)→(∀x ∈ v,Pe x)→nR lt u→nR lt v→(p++(u++v)++s).length=n →
  Calls Tryz.prog X.sy #[.slice (some ⟨g,0,none⟩) n c,.int .i64 ((p.length:Nat):Int),.int .i64 ((p.length+u.length:Nat):Int),.int .i64 ((p.length+u.length+v.length:Nat):Int),.func (.func f) fs cp] w fun e w'=>e=.returned (.tuple #[])∧Rw w' g X.el X.k (p++fO lt u v++s) rest∧w.grownBy w' (some g)
theorem Mm (X:SI) {w0 w:World}{g n c:Nat}{f:FuncId}{fs cp:Array Value}{lt:List Value→List Value→Bool}{Pe:List Value→Prop}{p u v s:List (List Value)}{rest:List Value} (hC:zQ Tryz.prog f fs cp lt Pe w0 g) (hO:Ord lt) (wh:w0.grownBy w (some g)) (h:Rw w g X.el X.k (p++(u++v)++s) rest) (Tz:∀x ∈ u,Pe x) (Ty:∀x ∈ v,Pe x) (U8:nR lt u) (JA:nR lt v) (hu:2≤u.length) (hv:2≤v.length) (hn:(p++(u++v)++s).length=n) (hm:n≤140737488355328)
  (hIH:∀k,k<u.length+v.length→SyQ X w0 g n c f fs cp lt Pe rest k) :
  Calls Tryz.prog X.sy #[.slice (some ⟨g,0,none⟩) n c,.int .i64 ((p.length:Nat):Int),.int .i64 ((p.length+u.length:Nat):Int),.int .i64 ((p.length+u.length+v.length:Nat):Int),.func (.func f) fs cp] w fun e w'=>e=.returned (.tuple #[])∧Rw w' g X.el X.k (p++fO lt u v++s) rest∧w.grownBy w' (some g):=by
 have H:=ak h
 have HC:=ak hC
 have Ey:=ak wh
 have Lf:=ak Tz
 have HPv:=ak Ty
 have Hsu:=ak U8
 have Hsv:=ak JA
 have Hm:=ak hm
 have Hn:=ak hn
 have HO:=ak hO
 have HIH:=ak hIH
 obtain ⟨A,hA⟩:∃z,p.length=z:=⟨_,rfl⟩
 obtain ⟨U,hU⟩:∃z,u.length=z:=⟨_,rfl⟩
 obtain ⟨V,hV⟩:∃z,v.length=z:=⟨_,rfl⟩
 obtain ⟨M,hM⟩:∃z,A+U=z:=⟨_,rfl⟩
 obtain ⟨B,hB⟩:∃z,M+V=z:=⟨_,rfl⟩
 have J4:B≤n:=by
  rw[←hn]
  simp only[zK]
  omega
 rw[hU] at hu
 rw[hV] at hv
 rw[hU,hA,hM,hV,hB]
 obtain ⟨S0,hS0⟩:∃z,A+B=z:=⟨_,rfl⟩
 obtain ⟨md,XR⟩:∃z,S0 / 2=z:=⟨_,rfl⟩
 obtain ⟨NN,GR⟩:∃z,md+M=z:=⟨_,rfl⟩
 obtain ⟨PP,GQ⟩:∃z,NN-1=z:=⟨_,rfl⟩
 obtain ⟨lo,hi,hc⟩:∃lo hi,(md<M∧NN-B=lo∧md=hi)∨(M≤md∧A=lo∧M=hi):=by
  rcases Nat.lt_or_ge md M with h|h
  ·exact ⟨_,_,.inl ⟨h,rfl,rfl⟩⟩
  ·exact ⟨_,_,.inr ⟨h,rfl,rfl⟩⟩
 obtain ⟨hlh,GJ⟩:=Uu hM hB (show (A+B) / 2=md by rw[hS0];exact XR) GR GQ hu hv hc
 have e0:IntKind.i64.wrap ((M:Int)-(A:Int))=(U:Int):=by rw[IntKind.wrap_i64];omega
 have e1:((U:Int)==1)=false:=by simp;omega
 have e2:¬(U:Int)=1:=by omega
 have e1':¬U=1:=by omega
 have e3:IntKind.i64.wrap ((B:Int)-(M:Int))=(V:Int):=by rw[IntKind.wrap_i64];omega
 have e4:((V:Int)==1)=false:=by simp;omega
 have e5:¬(V:Int)=1:=by omega
 have e5':¬V=1:=by omega
 have f1:IntKind.i64.wrap ((A:Int)+(B:Int))=(S0:Int):=by rw[IntKind.wrap_i64];omega
 have f2:IntKind.u64.wrap (S0:Int)=(S0:Int):=by rw[IntKind.wrap_u64];omega
 have f3:(S0:Int) / 2=(md:Int):=by omega
 have f3':S0 / 2=md:=XR
 have f4:IntKind.u64.wrap (md:Int)=(md:Int):=by rw[IntKind.wrap_u64];omega
 have f5:IntKind.i64.wrap (md:Int)=(md:Int):=by rw[IntKind.wrap_i64];omega
 have f6:IntKind.i64.wrap ((md:Int)+(M:Int))=(NN:Int):=by rw[IntKind.wrap_i64];omega
 have f7:IntKind.i64.wrap ((NN:Int)-1)=(PP:Int):=by rw[IntKind.wrap_i64];omega
 have HA:=ak hA
 have HU:=ak hU
 have HV:=ak hV
 have HM:=ak hM
 have HB:=ak hB
 have Lk:=ak J4
 have HNN:=ak GR
 have PK:=ak GQ
 have Om:=ak hlh
 have Hlx:=ak GJ
 have Hc:=ak hc
 clear hC wh h Tz Ty U8 JA hn hm hA hU hV hB J4 hO hM hu hv hIH hS0 XR GR GQ hc hlh GJ
 let iX:=X
 let tY:=X.el
 let kY:=X.k
 cases X
 all_goals simp only[SI.el,SI.k,SI.sy] at *
 all_goals (first|go_enter Tryz.func247,Tryz.ntmps247|go_enter Tryz.func249,Tryz.ntmps249|go_enter Tryz.func261,Tryz.ntmps261|go_enter Tryz.func309,Tryz.ntmps309|go_enter Tryz.func311,Tryz.ntmps311|go_enter Tryz.func313,Tryz.ntmps313|go_enter Tryz.func316,Tryz.ntmps316)
 all_goals (
  go_upto_if 140 with fail
  go_cut [20,21] from 138 to 146 (fun v20 v21 wx=>v20=.int .i64 (lo:Int)∧v21=.int .i64 (hi:Int)∧w=wx)
  case first =>
   rcases ab Hc with ⟨k,k1,k2⟩|⟨k,k1,k2⟩
   ·have k3:(md:Int)<(M:Int):=by omega
    have k4:decide ((md:Int)<(M:Int))=true:=decide_eq_true k3
    have k5:IntKind.i64.wrap ((NN:Int)-(B:Int))=(lo:Int):=by
     have:=ab Hlx
     have:=ab HNN
     have:=ab HB
     have:=ab Hm
     have:=ab Lk
     rw[IntKind.wrap_i64]
     omega
    have K2:=ak k2
    clear k1 k2
    go_wp2
    go_meet
    exact ⟨rfl,by rw[ab K2],rfl⟩
   ·have k3:¬(md:Int)<(M:Int):=by omega
    have k4:decide ((md:Int)<(M:Int))=false:=decide_eq_false k3
    have K1:=ak k1
    have K2:=ak k2
    clear k1 k2
    go_wp2
    go_meet
    exact ⟨by rw[ab K1],by rw[ab K2],rfl⟩
  case rest =>
   obtain ⟨rfl,rfl,rfl⟩:=hcut
   go_wp2
   go_loopg [20,21,23] (hi-lo) (fun gk v20 v21 _ wr=>∃st r:Nat,v20=.int .i64 (st:Int)∧v21=.int .i64 (r:Int)∧gk=r-st∧Hid (lo≤st∧st≤r∧r≤hi)∧Hid (∀x y,lo<st→u[st-1-A]?=some x→v[NN-st-M]?=some y→lt y x=false)∧Hid (∀x y,r<hi→u[r-A]?=some x→v[PP-r-M]?=some y→lt y x=true)∧Hid (Rw wr g tY kY (p++(u++v)++s) rest)∧Hid (w.grownBy wr (some g)))
   case atStart=>exact ⟨lo,hi,rfl,rfl,rfl,⟨zD _,(ab Om).lh,zD _⟩,fun x y h=>by omega,fun x y h=>by omega,ab H,zI _ _⟩
   case round =>
    obtain ⟨st,r,rfl,rfl,bd,HS,HF,HT,HR,HG⟩:=hrel
    have bH:=ak bd
    clear bd
    have gM:=ab HS
    have ma:=ab Hm
    have aT:=ab Lk
    have hA:=ab HA
    have hU:=ab HU
    have hV:=ab HV
    have hM:=ab HM
    have hB:=ab HB
    have GR:=ab HNN
    have GQ:=ab PK
    by_cases aU:st<r
    ·obtain ⟨S,hS⟩:∃q,st+r=q:=⟨_,rfl⟩
     obtain ⟨q,hq⟩:∃q,S / 2=q:=⟨_,rfl⟩
     obtain ⟨yO,QY⟩:=(ab Om).Tf gM.1 aU gM.2.2 (show (st+r) / 2=q by rw[hS];exact hq)
     obtain ⟨PC,hPC⟩:∃z,PP-q=z:=⟨_,rfl⟩
     rw[hPC] at QY
     have hqm:=QY
     clear QY
     have iP:=ab HR
     have gr:=ab HG
     obtain ⟨L,hL⟩:∃L,p++(u++v)++s=L:=⟨_,rfl⟩
     rw[hL] at iP
     obtain ⟨xe,mP⟩:∃z,u[q-A]?=some z:=⟨_,List.getElem?_eq_getElem (by omega)⟩
     obtain ⟨ye,xK⟩:∃z,v[PC-M]?=some z:=⟨_,List.getElem?_eq_getElem (by omega)⟩
     have A7:L[q]?=some xe:=by
      rw[←hL,List.append_assoc,List.getElem?_append_right (by omega),hA,List.append_assoc,List.getElem?_append_left (by omega)]
      exact mP
     have CL:L[PC]?=some ye:=by
      rw[←hL,List.append_assoc,List.getElem?_append_right (by omega),hA,List.append_assoc,List.getElem?_append_right (by omega),hU,show PC-A-U=PC-M by omega,List.getElem?_append_left (by omega)]
      exact xK
     have Rr:=ab Lf xe (List.mem_of_getElem? mP)
     have Rq:=ab HPv ye (List.mem_of_getElem? xK)
     have k1:(st:Int)<(r:Int):=by omega
     have k2:decide ((st:Int)<(r:Int))=true:=decide_eq_true k1
     have g1:IntKind.i64.wrap ((st:Int)+(r:Int))=(S:Int):=by rw[IntKind.wrap_i64];omega
     have g2:IntKind.u64.wrap (S:Int)=(S:Int):=by rw[IntKind.wrap_u64];omega
     have g3:(S:Int) / 2=(q:Int):=by omega
     have g3':S / 2=q:=hq
     have g4:IntKind.u64.wrap (q:Int)=(q:Int):=by rw[IntKind.wrap_u64];omega
     have g5:IntKind.i64.wrap (q:Int)=(q:Int):=by rw[IntKind.wrap_i64];omega
     have g6:IntKind.i64.wrap ((q:Int)+1)=((q+1:Nat):Int):=by rw[IntKind.wrap_i64];omega
     have g7:IntKind.i64.wrap ((PP:Int)-(q:Int))=(PC:Int):=by rw[IntKind.wrap_i64];omega
     have q0:(0:Int)≤(q:Int):=zH _
     have q1:(q:Int)<(n:Int):=by omega
     have q2:(0:Int)≤(PC:Int):=zH _
     have q3:(PC:Int)<(n:Int):=by omega
     have qj:=ak yO
     have HPC:=ak hPC
     have Hxe:=ak mP
     have Hye:=ak xK
     clear hq yO hS hPC hqm gM aT hA hU hV hM hB GR GQ mP xK
     go_upto_region 35 with fail
     refine wp_region_any (by kernel_rfl) (aV (z:=99) (T:=fun w'=>Rw w' g tY kY L rest) _ _ _ _ ?_)
     try (change ba _ _ _ _ _ _ _ _ _ (World.drew _))
     have hT:(fun w'=>Rw w' g tY kY L rest) wr.drew:=⟨iP.hp,iP.ln,iP.one⟩
     have kF:w.grownBy wr.drew (some g):=⟨gr.os,gr.tape,gr.output,gr.size,gr.block⟩
     obtain ⟨wd,lP⟩:∃wz,wr.drew=wz:=⟨_,rfl⟩
     rw[lP] at hT kF ⊢
     refine aw 0 (.func (.func f) fs cp) 158 rfl rfl (Or.inl ⟨by rfl,fun w' _=>by go_simp<;>first|rfl|exact (Nat.mul_one _).symm⟩) hT ?_
     simp only[Act.put,zL,zM,zN]
     refine aw 1 (.slice (some ⟨g,0,none⟩) n c) 159 rfl rfl (Or.inl ⟨by rfl,fun w' _=>by go_simp<;>first|rfl|exact (Nat.mul_one _).symm⟩) hT ?_
     simp only[Act.put,zL,zM,zN]
     refine aw 2 (.int .i64 ((PP:Nat):Int)) 160 rfl rfl (Or.inl ⟨by rfl,fun w' _=>by go_simp<;>first|rfl|exact (Nat.mul_one _).symm⟩) hT ?_
     simp only[Act.put,zL,zM,zN]
     refine aw 3 (.int .i64 ((q:Nat):Int)) 161 rfl rfl (Or.inl ⟨by rfl,fun w' _=>by go_simp<;>first|rfl|exact (Nat.mul_one _).symm⟩) hT ?_
     simp only[Act.put,zL,zM,zN]
     refine aw 4 (.int .i64 ((PC:Nat):Int)) 162 rfl rfl (Or.inl ⟨by rfl,fun w' _=>by go_simp<;>first|rfl|exact (Nat.mul_one _).symm⟩) hT ?_
     simp only[Act.put,zL,zM,zN]
     refine aw 5 (.pointer (some ⟨g,(PC)*kY,none⟩)) 163 rfl rfl (Or.inl ⟨by rfl,fun w' _=>by go_simp<;>first|rfl|exact (Nat.mul_one _).symm⟩) hT ?_
     simp only[Act.put,zL,zM,zN]
     refine aw 6 (fH ye) 164 rfl rfl (Rw.val tY (.tmp 163) rfl (by rfl) (by first|rfl|simp[Act.eval]) (T:=fun w'=>Rw w' g tY kY L rest) (fun _ h=>h) CL (by rfl) (fun _=>by rfl)) hT ?_
     simp only[Act.put,zL,zM,zN]
     refine aw 7 (.slice (some ⟨g,0,none⟩) n c) 165 rfl rfl (Or.inl ⟨by rfl,fun w' _=>by go_simp<;>first|rfl|exact (Nat.mul_one _).symm⟩) hT ?_
     simp only[Act.put,zL,zM,zN]
     refine aw 8 (.int .i64 ((q:Nat):Int)) 166 rfl rfl (Or.inl ⟨by rfl,fun w' _=>by go_simp<;>first|rfl|exact (Nat.mul_one _).symm⟩) hT ?_
     simp only[Act.put,zL,zM,zN]
     refine aw 9 (.pointer (some ⟨g,(q)*kY,none⟩)) 167 rfl rfl (Or.inl ⟨by rfl,fun w' _=>by go_simp<;>first|rfl|exact (Nat.mul_one _).symm⟩) hT ?_
     simp only[Act.put,zL,zM,zN]
     refine aw 10 (fH xe) 168 rfl rfl (Rw.val tY (.tmp 167) rfl (by rfl) (by first|rfl|simp[Act.eval]) (T:=fun w'=>Rw w' g tY kY L rest) (fun _ h=>h) A7 (by rfl) (fun _=>by rfl)) hT ?_
     simp only[Act.put,zL,zM,zN]
     refine aB 11 (by kernel_rfl) rfl (fun K hK=>?_)
     refine bX 169 158 rfl f fs cp (fun vs=>(ab HC).1 vs wd) #[.tmp 164,.tmp 168] #[tY,tY] rfl (by first|rfl|simp[Act.eval]) (fs++#[fH ye,fH xe]++cp) (by first|rfl|simp[Act.eval]) ((ab HC).2 ye xe wd ((ab Ey).trans kF) Rq Rr) (by rfl) ?_
     rintro e w1 ⟨⟨rv,rfl,hr⟩,bG⟩
     refine ⟨_,rfl,?_⟩
     have dR:Rw w1 g tY kY L rest:=Rw.up hT bG
     have gX:w.grownBy w1 (some g):=kF.trans (bG.but _)
     refine hK _ _ ⟨fun _=>dR,?_⟩
     clear hK K hT kF bG lP
     have hT:(fun w'=>Rw w' g tY kY L rest) w1:=dR
     simp only[Act.put,zL,zM,zN]
     refine aw 12 (.bool (lt ye xe)) 170 rfl rfl (Or.inl ⟨by rfl,fun w' _=>by go_simp<;>first|rfl|exact (Nat.mul_one _).symm⟩) hT ?_
     simp only[Act.put,zL,zM,zN]
     refine aw 13 (.bool (!lt ye xe)) 171 rfl rfl (Or.inl ⟨by rfl,fun w' _=>by go_simp<;>first|rfl|exact (Nat.mul_one _).symm⟩) hT ?_
     simp only[Act.put,zL,zM,zN]
     refine aQ (by kernel_rfl) ?_
     clear hT
     cases hb:lt ye xe with
     |false =>
      rw[hb] at hr
      have HE:=ak dR
      have Gw:=ak gX
      clear dR gX
      go_wp2
      go_roundg (r-(q+1))
      ·refine ⟨q+1,r,by simp,rfl,rfl,⟨by have:=ab HS;have:=ab qj;omega,by have:=ab qj;omega,(ab HS).2.2⟩,fun x y _ hx hy=>?_,ab HT,?_,Gw⟩
       ·have h1:=ab Hxe
        have h2:=ab Hye
        rw[show q+1-1-A=q-A by omega,h1] at hx
        rw[show NN-(q+1)-M=PC-M by have:=ab HPC;have:=ab PK;omega,h2] at hy
        cases hx
        cases hy
        exact hb
       ·show Rw _ _ _ _ _ _
        rw[hL]
        exact ab HE
      ·have:=ab bH;have:=ab qj;omega
     |true =>
      rw[hb] at hr
      have HE:=ak dR
      have Gw:=ak gX
      clear dR gX
      go_wp2
      go_roundg (q-st)
      ·refine ⟨st,q,rfl,rfl,rfl,⟨(ab HS).1,(ab qj).1,by have:=ab HS;have:=ab qj;omega⟩,ab HF,fun x y _ hx hy=>?_,?_,Gw⟩
       ·have h1:=ab Hxe
        have h2:=ab Hye
        rw[h1] at hx
        rw[show PP-q-M=PC-M by have:=ab HPC;omega,h2] at hy
        cases hx
        cases hy
        exact hb
       ·show Rw _ _ _ _ _ _
        rw[hL]
        exact ab HE
      ·have:=ab bH;have:=ab qj;omega
    ·obtain rfl:st=r:=by omega
     have k1:¬(st:Int)<(st:Int):=by omega
     have k2:decide ((st:Int)<(st:Int))=false:=decide_eq_false k1
     obtain ⟨E,hE⟩:∃z,NN-st=z:=⟨_,rfl⟩
     have g1:IntKind.i64.wrap ((NN:Int)-(st:Int))=(E:Int):=by
      have h1:=(ab Om).hd
      have h2:=(ab Om).nb
      rw[IntKind.wrap_i64]
      omega
     obtain ⟨hcut,hse⟩:=(ab Om).fin (ab HO) (ab Hsu) (ab Hsv) hU hV gM.1 gM.2.2 hE (ab HF) (ab HT)
     obtain ⟨u1,D4⟩:∃z,u.take (st-A)=z:=⟨_,rfl⟩
     obtain ⟨u2,OY⟩:∃z,u.drop (st-A)=z:=⟨_,rfl⟩
     obtain ⟨v1,U3⟩:∃z,v.take (E-M)=z:=⟨_,rfl⟩
     obtain ⟨v2,Lw⟩:∃z,v.drop (E-M)=z:=⟨_,rfl⟩
     have hue:u=u1++u2:=by rw[←D4,←OY,List.take_append_drop]
     have xL:v=v1++v2:=by rw[←U3,←Lw,List.take_append_drop]
     have hl:u1.length=st-A∧u2.length=M-st∧v1.length=E-M∧v2.length=B-E:=by
      rw[←D4,←OY,←U3,←Lw,List.length_take,List.length_drop,List.length_take,List.length_drop]
      omega
     have pA:nR lt u1∧nR lt u2∧nR lt v1∧nR lt v2:=by
      rw[←D4,←OY,←U3,←Lw]
      exact ⟨As (ab Hsu) _,Av (ab Hsu) _,As (ab Hsv) _,Av (ab Hsv) _⟩
     rw[D4,OY,U3,Lw] at hcut
     have hpe:(∀x ∈ u1,Pe x)∧(∀x ∈ u2,Pe x)∧(∀x ∈ v1,Pe x)∧(∀x ∈ v2,Pe x):=by
      have h1:=ab Lf
      have h2:=ab HPv
      rw[hue] at h1
      rw[xL] at h2
      exact ⟨fun x hx=>h1 x (by simp[hx]),fun x hx=>h1 x (by simp[hx]),fun x hx=>h2 x (by simp[hx]),fun x hx=>h2 x (by simp[hx])⟩
     have hR:=ab HR
     have cy:=ab Hn
     rw[hue,xL] at hR cy
     have SE:=ak (show (p++u1++u2++v1++(v2++s)).length=n by simpa[List.append_assoc,Nat.add_assoc] using cy)
     have TX:=ak (show Rw wr g tY kY (p++u1++u2++v1++(v2++s)) rest by have e9:=hR;simp[List.append_assoc] at e9 ⊢;exact e9)
     have Gp:=ak hse
     have SJ:=ak hcut
     have Hl:=ak hl
     have TU:=ak pA
     have Yt:=ak hpe
     clear hcut D4 OY U3 Lw hue xL hl pA hpe hR cy hse hE gM aT GR GQ HR
     go_upto_region 39 with fail
     go_cut [185] from 178 to 184 (fun vb wx=>vb=.bool (decide (st<M∧M<E))∧wr=wx)
     case first =>
      by_cases h1:st<M
      ·have j1:(st:Int)<(M:Int):=by omega
       have j2:decide ((st:Int)<(M:Int))=true:=decide_eq_true j1
       by_cases h2:M<E
       ·have j3:(M:Int)<(E:Int):=by omega
        have j4:decide ((M:Int)<(E:Int))=true:=decide_eq_true j3
        go_wp2
        go_meet
        exact ⟨by rw[decide_eq_true (⟨h1,h2⟩:st<M∧M<E)],rfl⟩
       ·have j3:¬(M:Int)<(E:Int):=by omega
        have j4:decide ((M:Int)<(E:Int))=false:=decide_eq_false j3
        go_wp2
        go_meet
        exact ⟨by rw[decide_eq_false (fun h:st<M∧M<E=>h2 h.2)],rfl⟩
      ·have j1:¬(st:Int)<(M:Int):=by omega
       have j2:decide ((st:Int)<(M:Int))=false:=decide_eq_false j1
       go_wp2
       go_meet
       exact ⟨by rw[decide_eq_false (fun h:st<M∧M<E=>h1 h.1)],rfl⟩
     case rest =>
      obtain ⟨rfl,rfl⟩:=hcut
      go_upto_if 185 with fail
      go_cut [] from 178 to 191 (fun wx=>Hid (Rw wx g tY kY (p++u1++v1++u2++(v2++s)) rest)∧Hid (w.grownBy wx (some g)))
      case first =>
       by_cases h1:st<M∧M<E
       ·have jb:decide (st<M∧M<E)=true:=decide_eq_true h1
        have HK:=ak (Qk iX (n:=n) (c:=c) (cv:=.func (.func f) fs cp) (ab TX) (by have:=ab Hl;omega) (by have:=ab Hl;omega) (ab SE) (ab Hm))
        rw[show (p++u1).length=st by rw[zK,hA];have:=ab Hl;have:=ab Gp;omega,show st+u2.length=M by have:=ab Hl;omega,show M+v1.length=E by have:=ab Hl;omega] at HK
        go_wp2_with fail
        refine (ab HK).mono ?_
        rintro e w1 ⟨rfl,dR,gX⟩
        have lF:=ak dR
        have eY:=ak ((ab HG).trans gX)
        clear dR gX HK
        go_wp2
        go_meet
        exact ⟨lF,eY⟩
       ·have h2:u2=[]∨v1=[]:=by
         have h3:=ab Hl
         have h4:=ab Gp
         rcases Nat.lt_or_ge st M with h|h
         ·exact .inr (List.eq_nil_of_length_eq_zero (by omega))
         ·exact .inl (List.eq_nil_of_length_eq_zero (by omega))
        have lF:Hid (Rw wr g tY kY (p++u1++v1++u2++(v2++s)) rest):=by
         have h3:=ab TX
         show Rw _ _ _ _ _ _
         rcases h2 with rfl|rfl
         ·(first|simpa using h3|(have e9:=h3;simp at e9 ⊢;exact e9))
         ·(first|simpa using h3|(have e9:=h3;simp at e9 ⊢;exact e9))
        have jb:decide (st<M∧M<E)=false:=decide_eq_false h1
        go_wp2
        go_meet
        exact ⟨lF,HG⟩
      case rest =>
       obtain ⟨lF,eY⟩:=hcut
       clear TX HG
       go_upto_region 41 with fail
       go_cut [199] from 192 to 198 (fun vb wx=>vb=.bool (decide (A<st∧st<md))∧wc=wx)
       case first =>
        by_cases h1:A<st
        ·have j1:(A:Int)<(st:Int):=by omega
         have j2:decide ((A:Int)<(st:Int))=true:=decide_eq_true j1
         by_cases h2:st<md
         ·have j3:(st:Int)<(md:Int):=by omega
          have j4:decide ((st:Int)<(md:Int))=true:=decide_eq_true j3
          go_wp2
          go_meet
          exact ⟨by rw[decide_eq_true (⟨h1,h2⟩:A<st∧st<md)],rfl⟩
         ·have j3:¬(st:Int)<(md:Int):=by omega
          have j4:decide ((st:Int)<(md:Int))=false:=decide_eq_false j3
          go_wp2
          go_meet
          exact ⟨by rw[decide_eq_false (fun h:A<st∧st<md=>h2 h.2)],rfl⟩
        ·have j1:¬(A:Int)<(st:Int):=by omega
         have j2:decide ((A:Int)<(st:Int))=false:=decide_eq_false j1
         go_wp2
         go_meet
         exact ⟨by rw[decide_eq_false (fun h:A<st∧st<md=>h1 h.1)],rfl⟩
       case rest =>
        obtain ⟨rfl,hwc⟩:=hcut
        subst hwc
        go_upto_if 199 with fail
        go_cut [] from 192 to 205 (fun wx=>Hid (Rw wx g tY kY (p++fO lt u1 v1++u2++(v2++s)) rest)∧Hid (w.grownBy wx (some g)))
        case first =>
         by_cases h1:A<st∧st<md
         ·have jb:decide (A<st∧st<md)=true:=decide_eq_true h1
          have HK:=ak (ab HIH (u1.length+v1.length) (by have:=ab Hl;have:=ab Gp;have:=(ab Om).am;have:=(ab Om).mb;omega) p u1 v1 (u2++(v2++s)) wc rfl (by have:=ab Hl;omega) (by have:=ab Hl;have:=ab Gp;omega) ((ab Ey).trans (ab eY)) (by have:=ab lF;simpa[List.append_assoc] using this) (ab Yt).1 (ab Yt).2.2.1 (ab TU).1 (ab TU).2.2.1 (by have:=ab SE;simp only[zK] at this ⊢;omega))
          rw[hA,show A+u1.length=st by have:=ab Hl;have:=ab Gp;omega,show st+v1.length=md by have:=ab Hl;have:=ab Gp;omega] at HK
          go_wp2_with fail
          refine (ab HK).mono ?_
          rintro e w1 ⟨rfl,dR,gX⟩
          have SN:Hid (Rw w1 g tY kY (p++fO lt u1 v1++u2++(v2++s)) rest):=by have e9:=dR;show Rw _ _ _ _ _ _;simp[List.append_assoc] at e9 ⊢;exact e9
          have wG:=ak ((ab eY).trans gX)
          clear dR gX HK
          go_wp2
          go_meet
          exact ⟨SN,wG⟩
         ·have h2:u1=[]∨v1=[]:=by
           have h3:=ab Hl
           have h4:=ab Gp
           rcases Nat.lt_or_ge A st with h|h
           ·exact .inr (List.eq_nil_of_length_eq_zero (by omega))
           ·exact .inl (List.eq_nil_of_length_eq_zero (by omega))
          have SN:Hid (Rw wc g tY kY (p++fO lt u1 v1++u2++(v2++s)) rest):=by
           have h3:=ab lF
           show Rw _ _ _ _ _ _
           rcases h2 with rfl|rfl
           ·rw[nG _ (ab TU).2.2.1]
            (first|simpa using h3|(have e9:=h3;simp at e9 ⊢;exact e9))
           ·rw[yD]
            (first|simpa using h3|(have e9:=h3;simp at e9 ⊢;exact e9))
          have jb:decide (A<st∧st<md)=false:=decide_eq_false h1
          go_wp2
          go_meet
          exact ⟨SN,eY⟩
        case rest =>
         clear lF eY
         obtain ⟨lF,eY⟩:=hcut
         have vx:∀w',Rw w' g tY kY (p++fO lt u1 v1++fO lt u2 v2++s) rest→Rw w' g tY kY (p++fO lt u v++s) rest:=fun w' h1=>by
          rw[ab SJ]
          (first|simpa[List.append_assoc] using h1|(have e9:=h1;simp[List.append_assoc] at e9 ⊢;exact e9))
         have BB:=ak vx
         clear vx
         go_upto_region 43 with fail
         go_cut [213] from 206 to 212 (fun vb wx=>vb=.bool (decide (md<E∧E<B))∧wc=wx)
         case first =>
          by_cases h1:md<E
          ·have j1:(md:Int)<(E:Int):=by omega
           have j2:decide ((md:Int)<(E:Int))=true:=decide_eq_true j1
           by_cases h2:E<B
           ·have j3:(E:Int)<(B:Int):=by omega
            have j4:decide ((E:Int)<(B:Int))=true:=decide_eq_true j3
            go_wp2
            go_meet
            exact ⟨by rw[decide_eq_true (⟨h1,h2⟩:md<E∧E<B)],rfl⟩
           ·have j3:¬(E:Int)<(B:Int):=by omega
            have j4:decide ((E:Int)<(B:Int))=false:=decide_eq_false j3
            go_wp2
            go_meet
            exact ⟨by rw[decide_eq_false (fun h:md<E∧E<B=>h2 h.2)],rfl⟩
          ·have j1:¬(md:Int)<(E:Int):=by omega
           have j2:decide ((md:Int)<(E:Int))=false:=decide_eq_false j1
           go_wp2
           go_meet
           exact ⟨by rw[decide_eq_false (fun h:md<E∧E<B=>h1 h.1)],rfl⟩
         case rest =>
          obtain ⟨rfl,hwc⟩:=hcut
          subst hwc
          by_cases h1:md<E∧E<B
          ·have jb:decide (md<E∧E<B)=true:=decide_eq_true h1
           have HK:=ak (ab HIH (u2.length+v2.length) (by have:=ab Hl;have:=ab Gp;have:=(ab Om).am;have:=(ab Om).mb;omega) (p++fO lt u1 v1) u2 v2 s _ rfl (by have:=ab Hl;have:=ab Gp;omega) (by have:=ab Hl;omega) ((ab Ey).trans (ab eY)) (by have:=ab lF;simpa[List.append_assoc] using this) (ab Yt).2.1 (ab Yt).2.2.2 (ab TU).2.1 (ab TU).2.2.2 (by have:=ab SE;simp only[zK,yE] at this ⊢;omega))
           rw[show (p++fO lt u1 v1).length=md by rw[zK,yE];have:=ab Hl;have:=ab Gp;omega,show md+u2.length=E by have:=ab Hl;have:=ab Gp;omega,show E+v2.length=B by have:=ab Hl;have:=ab Gp;omega] at HK
           go_wp2_with fail
           refine (ab HK).mono ?_
           rintro e w1 ⟨rfl,dR,gX⟩
           have SN:=ak (ab BB w1 dR)
           have wG:=ak ((ab eY).trans gX)
           clear dR gX HK
           go_wp2
           go_end0
           refine ⟨rfl,?_,ab wG⟩
           have h9:=ab SN
           (first|simpa[List.append_assoc] using h9|(have e9:=h9;simp[List.append_assoc] at e9 ⊢;exact e9))
          ·have h2:u2=[]∨v2=[]:=by
            have h3:=ab Hl
            have h4:=ab Gp
            rcases Nat.lt_or_ge md E with h|h
            ·exact .inr (List.eq_nil_of_length_eq_zero (by omega))
            ·exact .inl (List.eq_nil_of_length_eq_zero (by omega))
           have SN:=ak (ab BB _ (by
            have h3:=ab lF
            rcases h2 with rfl|rfl
            ·rw[nG _ (ab TU).2.2.2]
             (first|simpa using h3|(have e9:=h3;simp at e9 ⊢;exact e9))
            ·rw[yD]
             (first|simpa using h3|(have e9:=h3;simp at e9 ⊢;exact e9))))
           have jb:decide (md<E∧E<B)=false:=decide_eq_false h1
           go_wp2
           go_end0
           refine ⟨rfl,?_,ab eY⟩
           have h9:=ab SN
           (first|simpa[List.append_assoc] using h9|(have e9:=h9;simp[List.append_assoc] at e9 ⊢;exact e9)))
theorem Ir (X:SI) {w0:World}{g n c:Nat}{f:FuncId}{fs cp:Array Value}{lt:List Value→List Value→Bool}{Pe:List Value→Prop}{rest:List Value} (hC:zQ Tryz.prog f fs cp lt Pe w0 g) (hO:Ord lt) (hm:n≤140737488355328):∀k,SyQ X w0 g n c f fs cp lt Pe rest k:=by
 intro k
 induction k using Nat.strongRecOn with
 |ind k ih =>
  intro p u v s w hk hu hv hg hR Tz Ty U8 JA hn
  by_cases h1:u.length=1
  ·match u,h1 with
   |[x],_ =>
    have e:=Mo X (p:=p) (v:=v) (s:=s) (x:=x) (n:=n) (c:=c) hC hO hg (by simpa using hR) (Tz x (by simp)) Ty JA (by simpa[Nat.add_assoc] using hn) hm
    simpa using e
  ·by_cases h2:v.length=1
   ·match v,h2 with
    |[y],_=>exact Mn X (p:=p) (u:=u) (s:=s) (y:=y) (n:=n) (c:=c) hC hO hg (by simpa using hR) (Ty y (by simp)) Tz U8 h1 (by simpa[Nat.add_assoc] using hn) hm
   ·exact Mm X hC hO hg hR Tz Ty U8 JA (by omega) (by omega) hn hm (fun j hj=>ih j (by omega))
end Go.Proofs.YtghioefalckgoaaGreatDoor
