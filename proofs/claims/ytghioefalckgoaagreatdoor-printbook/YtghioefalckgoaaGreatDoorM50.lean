import Derived.Test.YtghioefalckgoaaGreatDoorM49
set_option maxHeartbeats 4000000
set_option maxRecDepth 100000
namespace Go.Proofs.YtghioefalckgoaaGreatDoor
open Go.RowKit
attribute [local go_sem ↓] Go.wp_at_zero Go.wp_at_succ
theorem Bj {used:Nat→Option Nat}{l:List Ms} (N:Ms→Nat) (hN:∀m ∈ l,GmK N used m) (hs:(l.map N).sum≤1099511627776):GnC (l.map N).sum used l:=by
 intro w v cs hU hv hz
 obtain ⟨a,c,rfl⟩:=aN hv.ow.1
 have hl:=hv.ow.2
 have Hv:=ak hv
 have Hz:=ak hz
 have HN:=ak hN
 have HU:=ak hU
 have Hs:=ak hs
 obtain ⟨iF,hiF,aan,aal,aaj⟩:=info_parts (SI.info .F)
 obtain ⟨iS,To,Fs,Fq,Fp⟩:=info_parts (SI.info .S)
 obtain ⟨iR,hiR,QO,QL,QI⟩:=info_parts (SI.info .R)
 obtain ⟨iE,hiE,QQ,QN,QK⟩:=info_parts (SI.info .E)
 obtain ⟨iM,hiM,QP,QM,QJ⟩:=info_parts (SI.info .M)
 clear hv hz hN hU hs
 go_enter Tryz.func36,Tryz.ntmps36
 go_wp2
 go_loopg [3,4,5,6,7,8,9,10,11,12,13] l.length (fun gk v3 v4 _ _ _ _ _ _ _ _ _ wr=>∃i:Nat,v4=.int .i64 (i:Int)∧v3=.int .i64 ((((l.take i).map N).sum:Nat):Int)∧gk=l.length-i∧i≤l.length∧Hid (gm used w wr))
 case atStart=>exact ⟨0,rfl,rfl,rfl,Nat.zero_le _,gm.refl _ _⟩
 case round =>
  obtain ⟨i,rfl,rfl,bd,aav,HG⟩:=hrel
  have bH:=ak bd
  clear bd
  by_cases aU:i<l.length
  ·obtain ⟨m,XQ⟩:∃m,l[i]?=some m:=⟨_,List.getElem?_eq_getElem aU⟩
   have JB:=uC N XQ
   have Na:=Nat.le_trans (uD N l (i+1)) (ab Hs)
   have hK:=ab HN m (List.mem_of_getElem? XQ)
   obtain ⟨vf,vo,vm,ve,vr,vg,nm,fs,os,ms,es,rs,gs,cm,ce,rfl,⟨p0,p1,p2,p3,p4,p5,p6⟩,hf,ho,hm,eI,he,ep,hr,hg,hd⟩:=(ab Hz).at i m XQ
   obtain ⟨⟨q1,q2,q3,q4,q5,q6⟩,hE,s,X9,hC⟩:=hK nm fs os ms es rs gs rfl
   obtain ⟨g,c',e0,hc⟩:=(ab Hv).cells (by omega)
   injection e0 with e0 _ e1
   subst e0
   subst e1
   obtain ⟨af,cf,rfl⟩:=aN hf.ow.1
   obtain ⟨ao,co,rfl⟩:=aN ho.ow.1
   obtain ⟨am,cq,rfl⟩:=aN hm.ow.1
   obtain ⟨ae,cn,rfl⟩:=aN he.ow.1
   obtain ⟨ar,cr,rfl⟩:=aN hr.ow.1
   obtain ⟨ag,cg,rfl⟩:=aN hg.ow.1
   have hG:=ab HG
   have x0:=hc wr hG _ _ p0
   have x1:=hc wr hG _ _ p1
   have x2:=hc wr hG _ _ p2
   have x3:=hc wr hG _ _ p3
   have x4:=hc wr hG _ _ p4
   have x5:=hc wr hG _ _ p5
   have x6:=hc wr hG _ _ p6
   have kn:=aE wr (.cells #[.string nm,.slice af fs.length cf,.slice ao os.length co,.slice am ms.length cq,.slice ae es.length cn,.slice ar rs.length cr,.slice ag gs.length cg] 57)
   have Rn:=World.grownBy_alloc wr (.cells #[.string nm,.slice af fs.length cf,.slice ao os.length co,.slice am ms.length cq,.slice ae es.length cn,.slice ar rs.length cr,.slice ag gs.length cg] 57) none
   obtain ⟨V,hV⟩:∃V,wr.alloc (.cells #[.string nm,.slice af fs.length cf,.slice ao os.length co,.slice am ms.length cq,.slice ae es.length cn,.slice ar rs.length cr,.slice ag gs.length cg] 57)=V:=⟨_,rfl⟩
   rw[hV] at kn Rn
   have b0:V.cell? ⟨wr.heap.size,0,none⟩=some (.string nm):=cell_of_row _ _ _ _ _ _ kn
   have b1:V.cell? ⟨wr.heap.size,1,none⟩=some (.slice af fs.length cf):=cell_of_row _ _ _ _ _ _ kn
   have b2:V.cell? ⟨wr.heap.size,2,none⟩=some (.slice ao os.length co):=cell_of_row _ _ _ _ _ _ kn
   have b3:V.cell? ⟨wr.heap.size,3,none⟩=some (.slice am ms.length cq):=cell_of_row _ _ _ _ _ _ kn
   have b4:V.cell? ⟨wr.heap.size,4,none⟩=some (.slice ae es.length cn):=cell_of_row _ _ _ _ _ _ kn
   have b5:V.cell? ⟨wr.heap.size,5,none⟩=some (.slice ar rs.length cr):=cell_of_row _ _ _ _ _ _ kn
   have b6:V.cell? ⟨wr.heap.size,6,none⟩=some (.slice ag gs.length cg):=cell_of_row _ _ _ _ _ _ kn
   have VM:wr.heap.size<V.heap.size:=(zA kn).1
   have Jz:used wr.heap.size=none:=ab HU _ hG.size
   have FE:=hG.fresh Rn
   have hGM:x9 used V V (.slice af fs.length cf) (.slice ao os.length co) (.slice ar rs.length cr) (.slice ag gs.length cg) (.slice ae es.length cn) (.slice am ms.length cq) fs.length os.length rs.length gs.length es.length ms.length :=
    ⟨gm.refl _ _,(hf.eQ FE).cur (gm.refl _ _),(ho.eQ FE).cur (gm.refl _ _),(hr.eQ FE).cur (gm.refl _ _),(hg.eQ FE).cur (gm.refl _ _),(he.eQ FE).cur (gm.refl _ _),(hm.eQ FE).cur (gm.refl _ _),fun b e e2=>hd b (by unfold gL;rw[e];simp) (by unfold gL;rw[e2];simp)⟩
   have HGM:=ak hGM
   have HGV:=ak FE
   have K9:=ak Jz
   have PI:=ak VM
   have HC:=ak hC
   have HE:=ak hE
   have Hm:=ak (And.intro hm eI)
   have He:=ak (And.intro he ep)
   have bn:=ak aU
   have Hsm:=ak JB
   obtain ⟨S,hS⟩:∃S,((l.take i).map N).sum=S:=⟨_,rfl⟩
   have HS:=ak hS
   have hSb:S≤1099511627776:=by rw[JB,hS] at Na;omega
   have hsb:s≤1099511627776:=by rw[JB,hS,X9] at Na;omega
   have OZ:S+(fs.length+os.length+rs.length+gs.length+es.length+ms.length+384+s+(es.map iK).sum)≤1099511627776:=by rw[JB,hS,X9] at Na;omega
   have Htb:=ak OZ
   have HNm:=ak X9
   have Hq:=ak (And.intro q1 (And.intro q2 (And.intro q3 (And.intro q4 (And.intro q5 q6)))))
   rw[hS]
   have i0:(0:Int)≤(i:Int):=zH _
   have i1:(i:Int)<(l.length:Int):=by omega
   clear XQ JB Na hK p0 p1 p2 p3 p4 p5 p6 hf ho hm eI he ep hr hg hd hE X9 hC hc hG kn Rn VM Jz FE hGM hS aU OZ
   obtain ⟨wo,lM⟩:∃x,x=wr:=⟨_,rfl⟩
   subst lM
   go_wp2
   go_loopg [6,7,8,9,10,11,12] 64 (fun gk v6 v7 v8 v9 v10 v11 v12 wq=>∃(k m1 m2 m3 m4 m5 m6:Nat),v12=.int .i64 (k:Int)∧gk=64-k∧Hid (m1=fs.length+k∧m2=os.length+k∧m3=rs.length+k∧m4=gs.length+k∧m5=es.length+k∧m6=ms.length+k∧k≤64)∧Hid (x9 used V wq v6 v7 v8 v9 v10 v11 m1 m2 m3 m4 m5 m6))
   case atStart=>exact ⟨0,_,_,_,_,_,_,rfl,rfl,⟨rfl,rfl,rfl,rfl,rfl,rfl,by omega⟩,ab HGM⟩
   case round =>
    obtain ⟨k,m1,m2,m3,m4,m5,m6,rfl,bd,Ot,HQ⟩:=hrel
    have jR:=ak bd
    clear bd x0 x1 x2 x3 x4 x5 x6
    obtain ⟨a6,c6,rfl⟩:=(ab HQ).f.form
    obtain ⟨a7,c7,rfl⟩:=(ab HQ).o.form
    obtain ⟨a8,c8,rfl⟩:=(ab HQ).r.form
    obtain ⟨a9,c9,rfl⟩:=(ab HQ).s.form
    obtain ⟨a10,c10,rfl⟩:=(ab HQ).e.form
    obtain ⟨a11,c11,rfl⟩:=(ab HQ).m.form
    by_cases hk:k<64
    ·have nW:m1≤16777280∧m2≤4160∧m3≤4160∧m4≤4160∧m5≤4160∧m6≤4160:=by have:=ab Ot;have:=ab Hq;omega
     have pw:=ak nW
     have Hk:=ak hk
     have k0:(0:Int)≤(k:Int):=zH _
     have k1:(k:Int)<64:=by omega
     clear nW hk b0 b1 b2 b3 b4 b5 b6
     go_upto_region 16 with (at_builtin;refine cw wr rfl _ _ 54 rfl 53 iF (SI.z .F) 6 (SI.by .F) Tryz.underlying54 hiF aan aal aaj rfl (by decide) _ m1 rfl (ab HQ).f (ab HQ).g 1 [.int .i64 3,.string ⟨#[]⟩,.string ⟨#[]⟩,.string ⟨#[103,114,111,119,110]⟩,.int .i64 0,.int .i64 0] rfl rfl (by simp[Value.oneCell']) (by have:=(ab pw).1;simp only[maxLen];omega) (by have:=(ab pw).1;show (_+1)*72≤_;omega) ?_;intro g1 k1 w1 q1 q2 q3 q4;have GZ:=ak ((ab HQ).WB q1 q2 q3 q4);clear q1 q2 q3 q4)
     go_upto_region 17 with (at_builtin;refine cw w1 rfl _ _ 22 rfl 9 iS (SI.z .S) 1 (SI.by .S) Tryz.underlying22 To Fs Fq Fp rfl (by decide) _ m2 rfl (ab GZ).o (ab GZ).g 1 [.string ⟨#[103,114,111,119,110]⟩] rfl rfl (by simp[Value.oneCell']) (by have:=(ab pw).2.1;simp only[maxLen];omega) (by have:=(ab pw).2.1;show (_+1)*16≤_;omega) ?_;intro g2 k2 w2 q1 q2 q3 q4;have LP:=ak ((ab GZ).Wz q1 q2 q3 q4);clear q1 q2 q3 q4)
     go_upto_region 18 with (at_builtin;refine cw w2 rfl _ _ 55 rfl 83 iR (SI.z .R) 2 (SI.by .R) Tryz.underlying55 hiR QO QL QI rfl (by decide) _ m3 rfl (ab LP).r (ab LP).g 1 [.int .i64 55,.int .i64 56] rfl rfl (by simp[Value.oneCell']) (by have:=(ab pw).2.2.1;simp only[maxLen];omega) (by have:=(ab pw).2.2.1;show (_+1)*16≤_;omega) ?_;intro g3 k3 w3 q1 q2 q3 q4;have Oo:=ak ((ab LP).Wy q1 q2 q3 q4);clear q1 q2 q3 q4)
     go_upto_region 19 with (at_builtin;refine cw w3 rfl _ _ 22 rfl 9 iS (SI.z .S) 1 (SI.by .S) Tryz.underlying22 To Fs Fq Fp rfl (by decide) _ m4 rfl (ab Oo).s (ab Oo).g 1 [.string ⟨#[103,114,111,119,110]⟩] rfl rfl (by simp[Value.oneCell']) (by have:=(ab pw).2.2.2.1;simp only[maxLen];omega) (by have:=(ab pw).2.2.2.1;show (_+1)*16≤_;omega) ?_;intro g4 k4 w4 q1 q2 q3 q4;have HQ4:=ak ((ab Oo).Wx q1 q2 q3 q4);clear q1 q2 q3 q4)
     go_upto_region 20 with (at_builtin;refine cw w4 rfl _ _ 24 rfl 63 iE (SI.z .E) 4 (SI.by .E) Tryz.underlying24 hiE QQ QN QK rfl (by decide) _ m5 rfl (ab HQ4).e (ab HQ4).g 1 [.string ⟨#[103,114,111,119,110]⟩,.slice none 0 0,.slice none 0 0,.slice none 0 0] rfl rfl (by simp[Value.oneCell']) (by have:=(ab pw).2.2.2.2.1;simp only[maxLen];omega) (by have:=(ab pw).2.2.2.2.1;show (_+1)*88≤_;omega) ?_;intro g5 k5 w5 q1 q2 q3 q4;have HQ5:=ak ((ab HQ4).WC q1 q2 q3 q4);clear q1 q2 q3 q4)
     go_wp2_with (at_builtin;refine cw w5 rfl _ _ 23 rfl 57 iM (SI.z .M) 7 (SI.by .M) Tryz.underlying23 hiM QP QM QJ rfl (by decide) _ m6 rfl (ab HQ5).m (ab HQ5).g 1 [.string ⟨#[103,114,111,119,110]⟩,.slice none 0 0,.slice none 0 0,.slice none 0 0,.slice none 0 0,.slice none 0 0,.slice none 0 0] rfl rfl (by simp[Value.oneCell']) (by have:=(ab pw).2.2.2.2.2;simp only[maxLen];omega) (by have:=(ab pw).2.2.2.2.2;show (_+1)*160≤_;omega) ?_;intro g6 k6 w6 q1 q2 q3 q4;have YE:=ak ((ab HQ5).WA q1 q2 q3 q4);clear q1 q2 q3 q4)
     go_roundg (64-(k+1))
     case measure=>have:=ab jR;have:=ab Hk;omega
     case rel=>exact ⟨k+1,_,_,_,_,_,_,by go_num,rfl,by have:=ab Ot;have:=ab Hk;exact ⟨by omega,by omega,by omega,by omega,by omega,by omega,by omega⟩,YE⟩
    ·have ra:k=64:=by have:=ab Ot;omega
     subst ra
     obtain ⟨rfl,rfl,rfl,rfl,rfl,rfl,-⟩:=ab Ot
     have hQ:=ab HQ
     have d3:=hQ.g.cell (p:=⟨wo.heap.size,3,none⟩) (ab PI) (ab K9) b3
     have d4:=hQ.g.cell (p:=⟨wo.heap.size,4,none⟩) (ab PI) (ab K9) b4
     have VV:=(ab HGV).trans hQ.g
     have HK:=ak (ab HC wr _ cm (fun g hg=>ab HU g (Nat.le_trans VV.size hg)) ((ab Hm).1.eQ VV) ((ab Hm).2.eQ VV))
     have HGW:=ak VV
     have hwl:wo.heap.size<wr.heap.size:=Nat.lt_of_lt_of_le (ab PI) hQ.g.size
     have Hwl:=ak hwl
     obtain ⟨r1,r2,r3,r4,r5,r6⟩:=ab Hq
     clear hk b0 b1 b2 b3 b4 b5 b6 hQ VV hwl
     go_wp2_with fail
     refine (ab HK).mono ?_
     rintro e w5 ⟨rfl,Bb⟩
     have f4:=Bb.cell (p:=⟨wo.heap.size,4,none⟩) (ab Hwl) (ab K9) d4
     have Xj:=ak ((ab HGW).trans Bb)
     have K8:=ak (Nat.lt_of_lt_of_le (ab Hwl) Bb.size)
     clear Bb d3 d4 HK
     obtain ⟨wa,eV⟩:∃x,x=wr:=⟨_,rfl⟩
     subst eV
     obtain ⟨T,hT⟩:∃T:Nat,S+(fs.length+64)+(os.length+64)+(rs.length+64)+(gs.length+64)+(es.length+64)+(ms.length+64)+s=T:=⟨_,rfl⟩
     have hTb:T+(es.map iK).sum≤1099511627776:=by have:=ab Htb;omega
     have HTb:=ak hTb
     have HT:=ak hT
     clear hT hTb
     go_wp2
     go_loopg [3,13] es.length (fun gk v3 H' wq=>∃(j T':Nat),H'=.int .i64 (j:Int)∧v3=.int .i64 (T':Int)∧gk=es.length-j∧Hid (j≤es.length∧T'=T+((es.take j).map iK).sum)∧Hid (gm used w5 wq))
     case atStart=>exact ⟨0,T,rfl,congrArg (Value.int .i64) (by rw[←ab HT];push_cast;omega),rfl,⟨Nat.zero_le _,by simp⟩,gm.refl _ _⟩
     case round =>
      obtain ⟨j,T',rfl,rfl,bd,HJ,Lj⟩:=hrel
      have Ld:=ak bd
      clear bd
      have g4:=(ab Lj).cell (p:=⟨wo.heap.size,4,none⟩) (ab K8) (ab K9) f4
      by_cases hj:j<es.length
      ·obtain ⟨e,Nr⟩:∃e,es[j]?=some e:=⟨_,List.getElem?_eq_getElem hj⟩
       have Bd:=(ab Xj).trans (ab Lj)
       obtain ⟨ge,Wo,ee,JU⟩:=(ab He).1.cells (by omega)
       injection ee with ee _ ef
       subst ee
       subst ef
       obtain ⟨UI,vv,YW,YY,y0,y1,y2,y3,z1,z2,z3⟩:=(ab He).2.at j e Nr
       have x0:=JU wr Bd _ _ y0
       have x1:=JU wr Bd _ _ y1
       have x2:=JU wr Bd _ _ y2
       have x3:=JU wr Bd _ _ y3
       have gM:=uC iK Nr
       have gD:=uD iK es (j+1)
       have nT:=o3 (nm:=UI) (z1.eQ Bd) (z2.eQ Bd) (z3.eQ Bd) (ab HE e (List.mem_of_getElem? Nr)) wr (gm.refl _ _)
       obtain ⟨ne,jN⟩:∃n:Nat,e.aW.length+e.res.length+e.gone.length+192=n:=⟨_,rfl⟩
       rw[jN] at nT
       have JO:iK e=ne:=jN
       rw[JO] at gM
       have Xn:=ak nT
       have bL:T'+ne≤1099511627776:=by have:=ab HJ;have:=ab HTb;omega
       have La:=ak gM
       have Hj:=ak hj
       have jj0:(0:Int)≤(j:Int):=zH _
       have jj1:(j:Int)<(es.length:Int):=by omega
       clear Nr Bd JU y0 y1 y2 y3 z1 z2 z3 gM gD nT jN JO hj
       go_wp2_with fail
       refine (ab Xn).mono ?_
       rintro e' w6 ⟨rfl,Vz⟩
       have HG7:=ak ((ab Lj).trans Vz)
       clear Vz Xn
       go_wp2
       go_roundg (es.length-(j+1))
       case measure=>have:=ab Ld;have:=ab Hj;omega
       case rel=>exact ⟨j+1,T'+ne,by go_num,congrArg (Value.int .i64) (by push_cast;omega),rfl,by have h1:=ab HJ;have h2:=ab La;have h3:=ab Hj;exact ⟨by omega,by omega⟩,HG7⟩
      ·have hje:j=es.length:=by have:=ab HJ;omega
       subst hje
       have h1:=(ab HJ).2
       rw[List.take_length] at h1
       have vx:((l.take (i+1)).map N).sum=T':=by rw[ab Hsm,ab HS,ab HNm,h1,←ab HT];omega
       have BB:=ak vx
       have HGF:=ak ((ab Xj).trans (ab Lj))
       clear h1 vx hj
       go_wp2
       go_roundg (l.length-(i+1))
       case measure=>have:=ab bH;have:=ab bn;omega
       case rel=>exact ⟨i+1,by go_num,by rw[ab BB],rfl,ab bn,HGF⟩
  ·obtain rfl:i=l.length:=by omega
   rw[List.take_length]
   go_wp2
   go_ret
   exact ⟨rfl,ab HG⟩
end Go.Proofs.YtghioefalckgoaaGreatDoor
namespace Go.Proofs.YtghioefalckgoaaGreatDoor
open Go.RowKit
def jy:Nat→Ms→Nat
 |0,_=>0
 |f+1,.mk _ fs os ms es rs gs=>fs.length+os.length+rs.length+gs.length+es.length+ms.length+384+(ms.map (jy f)).sum+(es.map iK).sum
def TT (e:En):Prop:=e.aW.length≤4096∧e.res.length≤4096∧e.gone.length≤4096
def PD:Nat→Ms→Prop
 |0,_=>False
 |f+1,.mk _ fs os ms es rs gs=>(fs.length≤16777216∧os.length≤4096∧rs.length≤4096∧gs.length≤4096∧es.length≤4096∧ms.length≤4096)∧(∀e ∈ es,TT e)∧∀m ∈ ms,PD f m
theorem Qr {α:Type} (N:α→Nat) {l:List α}{a:α} (h:a ∈ l):N a≤(l.map N).sum:=by
 induction l with
 |nil=>simp at h
 |cons b r ih =>
  simp only[List.map_cons,List.sum_cons]
  rcases List.mem_cons.1 h with rfl|h
  ·omega
  ·have:=ih h
   omega
theorem Bk:∀(f:Nat) (used:Nat→Option Nat) (l:List Ms),(∀m ∈ l,PD f m)→(l.map (jy f)).sum≤1099511627776→GnC (l.map (jy f)).sum used l
 |0,used,l,h,hs=>Bj (jy 0) (fun m hm=>(h m hm).elim) hs
 |f+1,used,l,h,hs=>Bj (jy (f+1)) (fun m hm=>by
   intro nm fs os ms es rs gs e
   have h1:=h m hm
   have h2:=Nat.le_trans (Qr (jy (f+1)) hm) hs
   subst e
   obtain ⟨k1,k2,k3⟩:=h1
   refine ⟨k1,k2,(ms.map (jy f)).sum,rfl,Bk f used ms k3 ?_⟩
   have h3:jy (f+1) (.mk nm fs os ms es rs gs)=fs.length+os.length+rs.length+gs.length+es.length+ms.length+384+(ms.map (jy f)).sum+(es.map iK).sum:=rfl
   omega) hs
def Br:Nat→Ms→Nat
 |0,_=>1
 |f+1,.mk _ _ _ ms _ _ _=>1+(ms.map (Br f)).sum
theorem vP {α:Type}{q:α→Int→Option Int}{c:α→Nat}:∀(l:List α),(∀a ∈ l,∀x y,q a x=some y→y+c a≤x+1)→∀(x y:Int),gi q l x=some y→y+(l.map c).sum≤x+l.length
 |[],_,x,y,e=>by
  obtain rfl:=zC e
  simp
 |a::r,h,x,y,e=>by
  unfold gi at e
  cases hq:q a x with
  |none=>rw[hq] at e;cases e
  |some z =>
   rw[hq] at e
   have h1:=h a (List.mem_cons_self ..) x z hq
   have h2:=vP r (fun b hb=>h b (zF _ hb)) z y e
   simp only[List.map_cons,List.sum_cons,List.length_cons]
   push_cast at h2 ⊢
   omega
theorem NJ (e:En) (x y:Int) (h:fT e x=some y):y≤x:=by
 unfold fT at h
 split at h
 ·cases h
 ·rename_i x1 hl
  obtain ⟨rfl,h0⟩:=df hl
  split at h
  ·obtain rfl:=zC h
   omega
  ·cases h
theorem Eu {α:Type}{q:α→Int→Option Int}:∀(l:List α),(∀a ∈ l,∀x y,q a x=some y→y≤x)→∀(x y:Int),gi q l x=some y→y≤x
 |[],_,x,y,e=>by
  obtain rfl:=zC e
  exact Int.le_refl _
 |a::r,h,x,y,e=>by
  unfold gi at e
  cases hq:q a x with
  |none=>rw[hq] at e;cases e
  |some z =>
   rw[hq] at e
   have h1:=h a (List.mem_cons_self ..) x z hq
   have h2:=Eu r (fun b hb=>h b (zF _ hb)) z y e
   omega
theorem I7:∀(f:Nat) (m:Ms) (x y:Int),mY f m x=some y→y+Br f m≤x+1
 |0,_,_,_,e=>by cases e
 |f+1,.mk nm fs os ms es rs gs,x,y,e=>by
  unfold mY at e
  split at e
  ·cases e
  ·rename_i x1 hl
   obtain ⟨rfl,h0⟩:=df hl
   split at e
   ·split at e
    ·cases e
    ·rename_i x2 hm
     have h1:=vP ms (fun m _ u v hv=>I7 f m u v hv) _ _ hm
     have h2:=Eu es (fun d _ u v hv=>NJ d u v hv) _ _ e
     show y+((1+(ms.map (Br f)).sum:Nat):Int)≤x+1
     push_cast at h1 ⊢
     omega
   ·cases e
theorem pS {n:Nat}{x y:Int} (h:kQ n x=some y):0≤y:=(df h).2
theorem Kl (e:En) (x y:Int) (h:fT e x=some y):0≤y:=by
 unfold fT at h
 split at h
 ·cases h
 ·rename_i x1 hl
  split at h
  ·obtain rfl:=zC h
   exact pS hl
  ·cases h
theorem pq {α:Type}{q:α→Int→Option Int}:∀(l:List α),(∀a ∈ l,∀x y,q a x=some y→0≤y)→∀(x y:Int),0≤x→gi q l x=some y→0≤y
 |[],_,x,y,h0,e=>by
  obtain rfl:=zC e
  exact h0
 |a::r,h,x,y,h0,e=>by
  unfold gi at e
  cases hq:q a x with
  |none=>rw[hq] at e;cases e
  |some z =>
   rw[hq] at e
   exact pq r (fun b hb=>h b (zF _ hb)) z y (h a (List.mem_cons_self ..) x z hq) e
theorem I6:∀(f:Nat) (m:Ms) (x y:Int),mY f m x=some y→0≤y
 |0,_,_,_,e=>by cases e
 |f+1,.mk nm fs os ms es rs gs,x,y,e=>by
  unfold mY at e
  split at e
  ·cases e
  ·rename_i x1 hl
   split at e
   ·split at e
    ·cases e
    ·rename_i x2 hm
     exact pq es (fun d _ u v hv=>Kl d u v hv) _ _ (pq ms (fun m _ u v hv=>I6 f m u v hv) _ _ (pS hl) hm) e
   ·cases e
theorem Kh {F:Fl} (h:(jG F).isSome=true):(F.ms.map (Br 32)).sum≤4096:=by
 obtain ⟨y,hy⟩:=zG h
 unfold jG at hy
 split at hy
 ·split at hy
  ·cases hy
  ·rename_i x1 hl
   split at hy
   ·split at hy
    ·cases hy
    ·rename_i x2 hm
     have h1:=vP F.ms (fun m _ u v hv=>I7 32 m u v hv) _ _ hm
     have h2:=pq F.ms (fun m _ u v hv=>I6 32 m u v hv) _ _ (pS hl) hm
     obtain ⟨rfl,-⟩:=df hl
     push_cast at h1
     omega
   ·cases hy
 ·cases hy
theorem yj {α:Type} (N:α→Nat) (lt:α→α→Bool) (l:List α):((cR lt l).map N).sum=(l.map N).sum:=((Au lt l).map N).sum_nat
theorem tm {α:Type}{N c:α→Nat}{k:Nat}:∀(l:List α),(∀a ∈ l,N a≤k*c a)→(l.map N).sum≤k*(l.map c).sum
 |[],_=>by simp
 |a::r,h=>by
  have h1:=h a (by simp)
  have h2:=tm r (fun b hb=>h b (by simp[hb]))
  simp only[List.map_cons,List.sum_cons,Nat.mul_add]
  omega
theorem Ak {α:Type}:∀l:List α,(l.map fun _=>1).sum=l.length
 |[]=>rfl
 |a::r=>by rw[List.map_cons,List.sum_cons,Ak r,List.length_cons];omega
theorem pR (e:En) (h:Oe e):iK (fA e)≤12480∧TT (fA e):=by
 have h1:(fA e).aW.length=e.aW.length:=bc _ _
 have h2:(fA e).gone.length=e.gone.length:=bc _ _
 have h3:(fA e).res.length≤e.res.length:=my _
 have:=h.v1
 have:=h.r1
 have:=h.g1
 unfold iK TT
 omega
theorem uS (es:List En) (h:∀e ∈ es,Oe e) (hl:es.length≤4096):((dM es).map iK).sum≤51118080:=by
 have h1:((dM es).map iK).sum=((es.map fA).map iK).sum:=yj _ _ _
 have h2:=tm (N:=iK) (c:=fun _=>1) (k:=12480) (es.map fA) (fun a ha=>by
  obtain ⟨e,he,rfl⟩:=List.mem_map.1 ha
  have:=(pR e (h e he)).1
  omega)
 have h3:((es.map fA).map fun _=>1).sum=es.length:=by rw[Ak,List.length_map]
 rw[h3] at h2
 omega
theorem mE:∀(f:Nat) (m:Ms),Py f m→jy f (iG f m)≤134217728*Br f m∧PD f (iG f m)
 |0,_,h=>h.elim
 |f+1,.mk nm fs os ms es rs gs,h=>by
  obtain ⟨h0,h1,h2⟩:=h
  have hF:=xv fs os h0.f1
  have hR:=my rs
  have hT:(lV gs).length=gs.length:=bc _ _
  have hE:=uS es h2 h0.e1
  have hEl:(dM es).length=es.length:=by show (cR _ _).length=_;rw[bc,List.length_map]
  have hMl:(dL f ms).length=ms.length:=by show (cR _ _).length=_;rw[bc,List.length_map]
  have hM:((dL f ms).map (jy f)).sum≤134217728*(ms.map (Br f)).sum:=by
   have e1:((dL f ms).map (jy f)).sum=((ms.map (iG f)).map (jy f)).sum:=yj _ _ _
   rw[e1,List.map_map]
   exact tm ms (fun a ha=>(mE f a (h1 a ha)).1)
  have:=h0.r1
  have:=h0.g1
  have:=h0.e1
  have:=h0.m1
  refine ⟨?_,⟨by omega,by omega,by omega,by omega,by omega,?_⟩,fun e he=>?_,fun m hm=>?_⟩
  ·show (eF fs os).1.length+(eF fs os).2.length+(iD rs).length+(lV gs).length+(dM es).length+(dL f ms).length+384+((dL f ms).map (jy f)).sum+((dM es).map iK).sum≤134217728*(1+(ms.map (Br f)).sum)
   rw[Nat.mul_add]
   omega
  ·show (dL f ms).length≤4096
   omega
  ·obtain ⟨d,hd,rfl⟩:=List.mem_map.1 ((du _ _ _).1 he)
   exact (pR d (h2 d hd)).2
  ·obtain ⟨d,hd,rfl⟩:=List.mem_map.1 ((du _ _ _).1 hm)
   exact (mE f d (h1 d hd)).2
theorem Kd {F:Fl} (h:(jG F).isSome=true):((cL F).ms.map (jy 32)).sum≤549755813888∧(∀m ∈ (cL F).ms,PD 32 m)∧((cL F).es.map iK).sum≤51118080∧(∀e ∈ (cL F).es,TT e)∧(cL F).bp.length≤4096∧(cL F).ms.length≤4096∧(cL F).es.length≤4096:=by
 have hs:=Ef h
 have hc:=Kh h
 have e1:((cL F).ms.map (jy 32)).sum=((F.ms.map (iG 32)).map (jy 32)).sum:=yj _ _ _
 have h1:=tm (N:=fun m=>jy 32 (iG 32 m)) (c:=Br 32) (k:=134217728) F.ms (fun a ha=>(mE 32 a (hs.m2 a ha)).1)
 have i1:(cL F).bp.length=F.bp.length:=bc _ _
 have i2:(cL F).ms.length=F.ms.length:=by show (cR _ _).length=_;rw[bc,List.length_map]
 have i3:(cL F).es.length=F.es.length:=by show (cR _ _).length=_;rw[bc,List.length_map]
 have:=hs.i1
 have:=hs.m1
 have:=hs.e1
 rw[List.map_map] at e1
 have e2:((cL F).ms.map (jy 32)).sum=(F.ms.map fun m=>jy 32 (iG 32 m)).sum:=e1
 refine ⟨by omega,fun m hm=>?_,uS F.es hs.e2 hs.e1,fun e he=>?_,by omega,by omega,by omega⟩
 ·obtain ⟨d,hd,rfl⟩:=List.mem_map.1 ((du _ _ _).1 hm)
  exact (mE 32 d (hs.m2 d hd)).2
 ·obtain ⟨d,hd,rfl⟩:=List.mem_map.1 ((du _ _ _).1 he)
  exact (pR d (hs.e2 d hd)).2
end Go.Proofs.YtghioefalckgoaaGreatDoor
namespace Go.Proofs.YtghioefalckgoaaGreatDoor
open Go.RowKit
attribute [local go_sem ↓] Go.wp_at_zero Go.wp_at_succ
structure Xo (used:Nat→Option Nat) (wS w:World) (vi vm ve:Value) (n1 n2 n3:Nat):Prop where
 g:gm used wS w
 i:k9 used wS w 9 1 vi n1
 m:k9 used wS w 57 7 vm n2
 e:k9 used wS w 63 4 ve n3
def GwQ (used:Nat→Option Nat) (w:World) (e:Ending) (w':World):Prop:=∃n:Int,e=.returned (.int .i64 n)∧192≤n∧gm used w w'
theorem FI {used:Nat→Option Nat}{w:World}{F:Fl}{vi vm ve:Value}{cm ce:List Value} (hz:PT used w F vi vm ve cm ce) (hU:∀g,w.heap.size≤g→used g=none) (hb:F.bp.length≤4096∧F.ms.length≤4096∧F.es.length≤4096) (hE:∀e ∈ F.es,TT e) (hM:∀m ∈ F.ms,PD 32 m) (hs:(F.ms.map (jy 32)).sum≤549755813888) (ht:(F.es.map iK).sum≤51118080) :
  Calls Tryz.prog 17 #[.agg #[.string F.dj,vi,vm,ve]] w (GwQ used w):=by
 have hC:=Bk 32 used F.ms hM (by omega)
 obtain ⟨S,hS⟩:∃S,(F.ms.map (jy 32)).sum=S:=⟨_,rfl⟩
 rw[hS] at hC hs
 obtain ⟨hi,hm,eI,he,ep⟩:=hz
 obtain ⟨ai,ci,rfl⟩:=aN hi.ow.1
 obtain ⟨am,cq,rfl⟩:=aN hm.ow.1
 obtain ⟨ae,cn,rfl⟩:=aN he.ow.1
 have kn:=aE w (.cells #[.string F.dj,.slice ai F.bp.length ci,.slice am F.ms.length cq,.slice ae F.es.length cn] 26)
 have Rn:=World.grownBy_alloc w (.cells #[.string F.dj,.slice ai F.bp.length ci,.slice am F.ms.length cq,.slice ae F.es.length cn] 26) none
 obtain ⟨V,hV⟩:∃V,w.alloc (.cells #[.string F.dj,.slice ai F.bp.length ci,.slice am F.ms.length cq,.slice ae F.es.length cn] 26)=V:=⟨_,rfl⟩
 rw[hV] at kn Rn
 have b1:V.cell? ⟨w.heap.size,1,none⟩=some (.slice ai F.bp.length ci):=cell_of_row _ _ _ _ _ _ kn
 have b2:V.cell? ⟨w.heap.size,2,none⟩=some (.slice am F.ms.length cq):=cell_of_row _ _ _ _ _ _ kn
 have b3:V.cell? ⟨w.heap.size,3,none⟩=some (.slice ae F.es.length cn):=cell_of_row _ _ _ _ _ _ kn
 have VM:w.heap.size<V.heap.size:=(zA kn).1
 have Jz:used w.heap.size=none:=hU _ (zD _)
 have FE:=(gm.refl used w).fresh Rn
 have HK:=ak (hC V _ cm (fun g hg=>hU g (by omega)) (hm.eQ FE) (eI.eQ FE))
 have HGV:=ak FE
 have K9:=ak Jz
 have PI:=ak VM
 have Hi:=ak hi
 have Hm:=ak hm
 have He:=ak (And.intro he ep)
 have HE:=ak hE
 have Hb:=ak hb
 obtain ⟨r1,r2,r3⟩:=hb
 have Ht:=ak ht
 obtain ⟨iS,To,Fs,Fq,Fp⟩:=info_parts (SI.info .S)
 obtain ⟨iE,hiE,QQ,QN,QK⟩:=info_parts (SI.info .E)
 obtain ⟨iM,hiM,QP,QM,QJ⟩:=info_parts (SI.info .M)
 clear hC hi hm eI he ep kn Rn VM Jz FE hU hE ht hS hM
 go_enter Tryz.func17,Tryz.ntmps17
 go_wp2_with fail
 refine (ab HK).mono ?_
 rintro e w5 ⟨rfl,Bb⟩
 have f1:=Bb.cell (p:=⟨w.heap.size,1,none⟩) (ab PI) (ab K9) b1
 have f2:=Bb.cell (p:=⟨w.heap.size,2,none⟩) (ab PI) (ab K9) b2
 have f3:=Bb.cell (p:=⟨w.heap.size,3,none⟩) (ab PI) (ab K9) b3
 have Xj:=ak ((ab HGV).trans Bb)
 have K8:=ak (Nat.lt_of_lt_of_le (ab PI) Bb.size)
 clear Bb b1 b2 b3 HK
 go_wp2
 go_loopg [3,4] F.es.length (fun gk v3 v4 wq=>∃(j T':Nat),v4=.int .i64 (j:Int)∧v3=.int .i64 (T':Int)∧gk=F.es.length-j∧Hid (j≤F.es.length∧T'=S+((F.es.take j).map iK).sum)∧Hid (gm used w5 wq))
 case atStart=>exact ⟨0,S,rfl,rfl,rfl,⟨Nat.zero_le _,by simp⟩,gm.refl _ _⟩
 case round =>
  obtain ⟨j,T',rfl,rfl,bd,HJ,Lj⟩:=hrel
  have Ld:=ak bd
  clear bd
  have g3:=(ab Lj).cell (p:=⟨w.heap.size,3,none⟩) (ab K8) (ab K9) f3
  by_cases hj:j<F.es.length
  ·obtain ⟨e,Nr⟩:∃e,F.es[j]?=some e:=⟨_,List.getElem?_eq_getElem hj⟩
   have Bd:=(ab Xj).trans (ab Lj)
   obtain ⟨ge,Wo,ee,JU⟩:=(ab He).1.cells (by omega)
   injection ee with ee _ ef
   subst ee
   subst ef
   obtain ⟨UI,vv,YW,YY,y0,y1,y2,y3,z1,z2,z3⟩:=(ab He).2.at j e Nr
   have x0:=JU wr Bd _ _ y0
   have x1:=JU wr Bd _ _ y1
   have x2:=JU wr Bd _ _ y2
   have x3:=JU wr Bd _ _ y3
   have gM:=uC iK Nr
   have gD:=uD iK F.es (j+1)
   have nT:=o3 (nm:=UI) (z1.eQ Bd) (z2.eQ Bd) (z3.eQ Bd) (ab HE e (List.mem_of_getElem? Nr)) wr (gm.refl _ _)
   obtain ⟨ne,jN⟩:∃n:Nat,e.aW.length+e.res.length+e.gone.length+192=n:=⟨_,rfl⟩
   rw[jN] at nT
   have JO:iK e=ne:=jN
   rw[JO] at gM
   have Xn:=ak nT
   have bL:T'+ne≤1099511627776:=by have:=ab HJ;have:=ab Ht;omega
   have La:=ak gM
   have Hj:=ak hj
   have jj0:(0:Int)≤(j:Int):=zH _
   have jj1:(j:Int)<(F.es.length:Int):=by omega
   clear Nr Bd JU y0 y1 y2 y3 z1 z2 z3 gM gD nT jN JO hj f1 f2 f3
   go_wp2_with fail
   refine (ab Xn).mono ?_
   rintro e' w6 ⟨rfl,Vz⟩
   have HG7:=ak ((ab Lj).trans Vz)
   clear Vz Xn
   go_wp2
   go_roundg (F.es.length-(j+1))
   case measure=>have:=ab Ld;have:=ab Hj;omega
   case rel=>exact ⟨j+1,T'+ne,by go_num,congrArg (Value.int .i64) (by push_cast;omega),rfl,by have h1:=ab HJ;have h2:=ab La;have h3:=ab Hj;exact ⟨by omega,by omega⟩,HG7⟩
  ·have hTb:T'≤1099511627776:=by have h1:=ab HJ;have h2:=uD iK F.es j;have h3:=ab Ht;omega
   have hq:=(ab Xj).trans (ab Lj)
   have g1:=(ab Lj).cell (p:=⟨w.heap.size,1,none⟩) (ab K8) (ab K9) f1
   have g2:=(ab Lj).cell (p:=⟨w.heap.size,2,none⟩) (ab K8) (ab K9) f2
   have hje:j=F.es.length:=by have:=ab HJ;omega
   subst hje
   have HQ0:Hid (Xo used w wr (.slice ai F.bp.length ci) (.slice am F.ms.length cq) (.slice ae F.es.length cn) F.bp.length F.ms.length F.es.length):=⟨hq,(ab Hi).cur hq,(ab Hm).cur hq,(ab He).1.cur hq⟩
   obtain ⟨wo,lM⟩:∃x,x=wr:=⟨_,rfl⟩
   subst lM
   clear hq hj f1 f2 f3
   go_wp2
   go_loopg [5,6,7,8] 64 (fun gk v5 v6 v7 v8 wq=>∃(k m1 m2 m3:Nat),v8=.int .i64 (k:Int)∧gk=64-k∧Hid (m1=F.bp.length+k∧m2=F.ms.length+k∧m3=F.es.length+k∧k≤64)∧Hid (Xo used w wq v5 v6 v7 m1 m2 m3))
   case atStart=>exact ⟨0,_,_,_,rfl,rfl,⟨rfl,rfl,rfl,by omega⟩,ab HQ0⟩
   case round =>
    obtain ⟨k,m1,m2,m3,rfl,bd,Ot,HQ⟩:=hrel
    have jR:=ak bd
    clear bd g1 g2 g3
    obtain ⟨a5,c5,rfl⟩:=(ab HQ).i.form
    obtain ⟨a6,c6,rfl⟩:=(ab HQ).m.form
    obtain ⟨a7,c7,rfl⟩:=(ab HQ).e.form
    by_cases hk:k<64
    ·have nW:m1≤4160∧m2≤4160∧m3≤4160:=by have:=ab Ot;omega
     have pw:=ak nW
     have Hk:=ak hk
     have k0:(0:Int)≤(k:Int):=zH _
     have k1:(k:Int)<64:=by omega
     clear nW hk
     go_upto_region 13 with (at_builtin;refine cw wr rfl _ _ 22 rfl 9 iS (SI.z .S) 1 (SI.by .S) Tryz.underlying22 To Fs Fq Fp rfl (by decide) _ m1 rfl (ab HQ).i (ab HQ).g 1 [.string ⟨#[103,114,111,119,110]⟩] rfl rfl (by simp[Value.oneCell']) (by have:=(ab pw).1;simp only[maxLen];omega) (by have:=(ab pw).1;show (_+1)*16≤_;omega) ?_;intro g1' k1 w1 q1 q2 q3 q4;have GZ:Hid (Xo used w w1 (.slice (some ⟨g1',0,none⟩) (m1+1) k1) (.slice a6 m2 c6) (.slice a7 m3 c7) (m1+1) m2 m3):=⟨q2,q1,(ab HQ).m.bU (ab HQ).i (by decide) q3,(ab HQ).e.bU (ab HQ).i (by decide) q3⟩;clear q1 q2 q3 q4)
     go_upto_region 14 with (at_builtin;refine cw w1 rfl _ _ 23 rfl 57 iM (SI.z .M) 7 (SI.by .M) Tryz.underlying23 hiM QP QM QJ rfl (by decide) _ m2 rfl (ab GZ).m (ab GZ).g 1 [.string ⟨#[103,114,111,119,110]⟩,.slice none 0 0,.slice none 0 0,.slice none 0 0,.slice none 0 0,.slice none 0 0,.slice none 0 0] rfl rfl (by simp[Value.oneCell']) (by have:=(ab pw).2.1;simp only[maxLen];omega) (by have:=(ab pw).2.1;show (_+1)*160≤_;omega) ?_;intro g2' k2 w2 q1 q2 q3 q4;have LP:Hid (Xo used w w2 (.slice (some ⟨g1',0,none⟩) (m1+1) k1) (.slice (some ⟨g2',0,none⟩) (m2+1) k2) (.slice a7 m3 c7) (m1+1) (m2+1) m3):=⟨q2,(ab GZ).i.bU (ab GZ).m (by decide) q3,q1,(ab GZ).e.bU (ab GZ).m (by decide) q3⟩;clear q1 q2 q3 q4)
     go_wp2_with (at_builtin;refine cw w2 rfl _ _ 24 rfl 63 iE (SI.z .E) 4 (SI.by .E) Tryz.underlying24 hiE QQ QN QK rfl (by decide) _ m3 rfl (ab LP).e (ab LP).g 1 [.string ⟨#[103,114,111,119,110]⟩,.slice none 0 0,.slice none 0 0,.slice none 0 0] rfl rfl (by simp[Value.oneCell']) (by have:=(ab pw).2.2;simp only[maxLen];omega) (by have:=(ab pw).2.2;show (_+1)*88≤_;omega) ?_;intro g3' k3 w3 q1 q2 q3 q4;have Oo:Hid (Xo used w w3 (.slice (some ⟨g1',0,none⟩) (m1+1) k1) (.slice (some ⟨g2',0,none⟩) (m2+1) k2) (.slice (some ⟨g3',0,none⟩) (m3+1) k3) (m1+1) (m2+1) (m3+1)):=⟨q2,(ab LP).i.bU (ab LP).e (by decide) q3,(ab LP).m.bU (ab LP).e (by decide) q3,q1⟩;clear q1 q2 q3 q4)
     go_roundg (64-(k+1))
     case measure=>have:=ab jR;have:=ab Hk;omega
     case rel=>exact ⟨k+1,_,_,_,by go_num,rfl,by have:=ab Ot;have:=ab Hk;exact ⟨by omega,by omega,by omega,by omega⟩,Oo⟩
    ·have ra:k=64:=by have:=ab Ot;omega
     subst ra
     obtain ⟨rfl,rfl,rfl,-⟩:=ab Ot
     have HGF:=ak (ab HQ).g
     clear hk
     go_wp2
     go_ret
     exact ⟨_,rfl,by omega,ab HGF⟩
end Go.Proofs.YtghioefalckgoaaGreatDoor
namespace Go.Proofs.YtghioefalckgoaaGreatDoor
open Go.RowKit
theorem OP:∀(f:Nat) (m:Ms),PD f m→zZ f m
 |0,_,h=>h
 |f+1,.mk _ _ _ _ _ _ _,h=>fun m hm=>OP f m (h.2.2 m hm)
theorem Pp:∀(f:Nat) (m:Ms),zZ f m→zZ (f+1) m
 |0,_,h=>h.elim
 |f+1,.mk _ _ _ _ _ _ _,h=>fun m hm=>Pp f m (h m hm)
theorem Wh {f g:Nat}{m:Ms} (h:zZ f m) (hl:f≤g):zZ g m:=by
 induction g with
 |zero=>
  obtain rfl:f=0:=by omega
  exact h
 |succ g ih =>
  by_cases he:f=g+1
  ·subst he;exact h
  ·exact Pp g m (ih (by omega))
theorem OO:∀(f k:Nat) (m:Ms),PD f m→Dk k m
 |0,_,_,h=>h.elim
 |f+1,k,.mk nm fs os ms es rs gs,h=>by
  obtain ⟨⟨h1,h2,h3,h4,h5,h6⟩,h7,h8⟩:=h
  have hs:Sy fs os ms es rs gs:=⟨by omega,by omega,by omega,by omega,fun e he=>by obtain ⟨a,b,c⟩:=h7 e he;exact ⟨by omega,by omega,by omega⟩,by omega,by omega⟩
  cases k with
  |zero=>exact hs
  |succ k=>exact ⟨hs,fun m hm=>OO f k m (h8 m hm)⟩
theorem EO (F:Fl):(fz F).2=0∨(fz F).2=2∨(fz F).2=60:=by
 unfold fz
 split
 ·split
  ·exact .inl rfl
  ·exact .inr (.inl rfl)
 ·exact .inr (.inr rfl)
structure Sod (G:Fl):Prop where
 re:LJ G
 dp:∀m ∈ G.ms,zZ 32 m
 cut:FZ G=G
 b:G.bp.length≤4096∧G.ms.length≤4096∧G.es.length≤4096
 e:∀e ∈ G.es,TT e
 m:∀m ∈ G.ms,PD 32 m
 s:(G.ms.map (jy 32)).sum≤549755813888
 t:(G.es.map iK).sum≤51118080
theorem Qe {F:Fl} (h:(fz F).2=0):Sod (cL F):=by
 have hj:(jG F).isSome=true:=by
  unfold fz at h
  split at h
  ·assumption
  ·simp at h
 obtain ⟨h1,h2,h3,h4,h5,h6,h7⟩:=Kd hj
 have hd:∀m ∈ (cL F).ms,zZ 32 m:=fun m hm=>OP 32 m (h2 m hm)
 refine ⟨⟨by omega,by omega,fun m hm=>OO 32 200 m (h2 m hm),by omega,fun e he=>by obtain ⟨a,b,c⟩:=h4 e he;exact ⟨by omega,by omega,by omega⟩⟩,hd,?_,⟨h5,h6,h7⟩,h4,h2,h1,h3⟩
 show (⟨(cL F).dj,(cL F).bp,fp 200 (cL F).ms,(cL F).es⟩:Fl)=cL F
 rw[Dc 200 _ (fun m hm=>Wh (hd m hm) (by omega))]
theorem PT.Gz {used:Nat→Option Nat}{w:World}{F:Fl}{vi vm ve:Value}{cm ce:List Value} (h:PT used w F vi vm ve cm ce):Dp (fun g=>used g≠none) w (.agg #[.string F.dj,vi,vm,ve]) F vi vm ve cm ce :=
 ⟨rfl,h.i.GB,h.m.GB,h.ms.Gz,h.e.GB,h.es.Gz⟩
structure Fb (w:World) (b lo hi:Nat) (F:Fl) (vi vm ve:Value):Prop where
 box:w.heap[b]?=some (.cells #[.string F.dj,vi,vm,ve] 26 (0,0))
 fl:∃cm ce,Dp (fun g=>lo≤g∧g<hi) w (.agg #[.string F.dj,vi,vm,ve]) F vi vm ve cm ce
 le:hi≤w.heap.size
theorem Fb.stay {w w':World}{b lo hi:Nat}{F:Fl}{vi vm ve:Value} (h:Fb w b lo hi F vi vm ve) (hs:w.heap.size≤w'.heap.size) (hb:w'.heap[b]?=w.heap[b]?) (hk:∀g,lo≤g→g<hi→w'.heap[g]?=w.heap[g]?):Fb w' b lo hi F vi vm ve:=by
 obtain ⟨h1,⟨cm,ce,h2⟩,h3⟩:=h
 exact ⟨hb.trans h1,⟨cm,ce,h2.mono fun g hg _=>⟨hk g hg.1 hg.2,hg⟩⟩,Nat.le_trans h3 hs⟩
theorem Fb.lt {w:World}{b lo hi:Nat}{F:Fl}{vi vm ve:Value} (h:Fb w b lo hi F vi vm ve):b<w.heap.size:=(zA h.box).1
theorem Fb.up {w w':World}{b lo hi:Nat}{F:Fl}{vi vm ve:Value} (h:Fb w b lo hi F vi vm ve) (hb:Below w.heap.size w w'):Fb w' b lo hi F vi vm ve :=
 h.stay hb.size (hb.block _ h.lt) fun g _ hg=>hb.block g (Nat.lt_of_lt_of_le hg h.le)
theorem Fb.eQ {used:Nat→Option Nat}{w w':World}{b lo hi:Nat}{F:Fl}{vi vm ve:Value} (h:Fb w b lo hi F vi vm ve) (hg:gm used w w') (hb:used b=none) (hu:∀g,lo≤g→g<hi→used g=none):Fb w' b lo hi F vi vm ve :=
 h.stay hg.size (hg.same _ h.lt hb) fun g h1 h2=>hg.same g (Nat.lt_of_lt_of_le h2 h.le) (hu g h1 h2)
theorem Fb.sp {R:Nat→Prop}{w w':World}{b lo hi:Nat}{F:Fl}{vi vm ve:Value} (h:Fb w b lo hi F vi vm ve) (hs:Sp R w w') (hb:¬R b) (hu:∀g,lo≤g→g<hi→¬R g):Fb w' b lo hi F vi vm ve :=
 h.stay hs.size (hs.ku _ h.lt hb) fun g h1 h2=>hs.ku g (Nat.lt_of_lt_of_le h2 h.le) (hu g h1 h2)
theorem Fb.cl {w:World}{b lo hi:Nat}{F:Fl}{vi vm ve:Value} (h:Fb w b lo hi F vi vm ve):w.cell? ⟨b,0,none⟩=some (.string F.dj)∧w.cell? ⟨b,1,none⟩=some vi∧w.cell? ⟨b,2,none⟩=some vm∧w.cell? ⟨b,3,none⟩=some ve:=eN h.box
theorem Fb.nU {w:World}{b lo hi:Nat}{F:Fl}{vi vm ve:Value} (h:Fb w b lo hi F vi vm ve):∃cm ce,zy w (.agg #[.string F.dj,vi,vm,ve]) F vi vm ve cm ce:=by
 obtain ⟨cm,ce,h2⟩:=h.fl
 exact ⟨cm,ce,h2.nU⟩
theorem EC.Gz {w:World}{lo hi:Nat}{F:Fl}{vi vm ve:Value}{cm ce:List Value}{B:List Nat} (h:EC w F vi vm ve cm ce B) (ha:lK lo hi B):∃u,PT u w F vi vm ve cm ce∧(∀g,¬(lo≤g∧g<hi)→u g=none)∧Dp (fun g=>lo≤g∧g<hi) w (.agg #[.string F.dj,vi,vm,ve]) F vi vm ve cm ce:=by
 obtain ⟨u,h1,h2⟩:=h.yi ha.1
 have hu:∀g,¬(lo≤g∧g<hi)→u g=none:=fun g hg=>h2 g fun hm=>hg (ha.2 g hm)
 exact ⟨u,h1,hu,h1.Gz.mono fun g hg _=>⟨rfl,Classical.byContradiction fun hn=>hg (hu g hn)⟩⟩
theorem jo {used:Nat→Option Nat}{w w':World} (hb:Below w.heap.size w w'):gm used w w' :=
 ⟨hb.os,hb.tape,hb.output,hb.size,fun g hg _=>hb.block g hg,fun g _ cur _ _ h=>⟨cur,(hb.block g (zA h).1).trans h,rfl,rfl⟩⟩
theorem gm.low {used:Nat→Option Nat}{w w':World}{n:Nat} (h:gm used w w') (hu:∀g,g<n→used g=none) (hn:n≤w.heap.size):Below n w w':=⟨h.os,h.tape,h.output,h.size,fun g hg=>h.same g (Nat.lt_of_lt_of_le hg hn) (hu g hg)⟩
theorem Sp.low {R:Nat→Prop}{w w':World}{n:Nat} (h:Sp R w w') (hu:∀g,g<n→¬R g) (hn:n≤w.heap.size):Below n w w':=⟨h.os,h.tape,h.output,h.size,fun g hg=>h.ku g (Nat.lt_of_lt_of_le hg hn) (hu g hg)⟩
theorem Fb.new {w w':World}{lo:Nat}{F:Fl}{vi vm ve:Value}{cm ce:List Value} (h:Dp (fun g=>lo≤g) w (.agg #[.string F.dj,vi,vm,ve]) F vi vm ve cm ce) (hw:w.alloc (.cells #[.string F.dj,vi,vm,ve] 26)=w'):Fb w' w.heap.size lo w.heap.size F vi vm ve∧Below w.heap.size w w':=by
 have hb:Below w.heap.size w w':=hw ▸ (zE _ _).alloc (zD _) _
 refine ⟨⟨hw ▸ aE w _,⟨cm,ce,h.mono fun g hg hl=>⟨hb.block g hl,hg,hl⟩⟩,hb.size⟩,hb⟩
end Go.Proofs.YtghioefalckgoaaGreatDoor
