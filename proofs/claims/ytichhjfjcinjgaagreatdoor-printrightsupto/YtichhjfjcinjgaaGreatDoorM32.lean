import Derived.Test.YtichhjfjcinjgaaGreatDoorYDc
set_option maxHeartbeats 4000000
set_option maxRecDepth 100000
namespace Go.Proofs.YtichhjfjcinjgaaGreatDoor
open Go.RowKit
attribute [local go_sem ↓] Go.wp_at_zero Go.wp_at_succ
theorem ep {α:Type}{l:List α}{i:Nat}{x:α} (h:l[i]?=some x) (P:α→Bool):(l.drop i).all P=(P x&&(l.drop (i+1)).all P):=by
 obtain ⟨hi,rfl⟩:=zB h
 rw[List.drop_eq_getElem_cons hi,List.all_cons]
theorem wa {W:World}{v u:Value}{rs:List (Int×Int)}{gs:List ByteArray} (hv:Rl W v rs.length (kQ rs)) (hu:Rl W u gs.length (bZ gs)) (lo hi:Int) (w0:World) (hw:Below W.heap.size W w0) :
  Calls Tryz.prog 97 #[v,u,.int .i64 lo,.int .i64 hi] w0 fun e w=>e=.returned (.bool (rs.all (gf lo hi)&&gs.all bD))∧Below w0.heap.size w0 w:=by
 obtain ⟨a,c,rfl,hn,h2⟩:=hv
 obtain ⟨a',c',rfl,hn',ZS⟩:=hu
 obtain ⟨R,hR⟩:∃R,(rs.all (gf lo hi)&&gs.all bD)=R:=⟨_,rfl⟩
 rw[hR]
 have H2:=al h2
 have H2':=al ZS
 have HW:=al hw
 have HR:=al hR
 clear h2 ZS hw hR
 go_enter Tryz.func97,Tryz.ntmps97
 go_wp2
 go_loopg [9] rs.length (fun gk v9 wr=>∃(i:Nat),v9=.int .i64 (i:Int)∧gk=rs.length-i∧i≤rs.length∧Hid (((rs.drop i).all (gf lo hi)&&gs.all bD)=R)∧Hid (Below w0.heap.size w0 wr))
 case atStart=>exact ⟨0,rfl,rfl,by omega,ab HR,zE _ _⟩
 case round =>
  obtain ⟨i,rfl,aU,eS,HA,HB⟩:=hrel
  have bz:=al aU
  clear aU HR
  by_cases aM:i<rs.length
  ·obtain ⟨g,o,rfl,hg,hc⟩:=ab H2 (by omega)
   have hl:=List.getElem?_eq_getElem aM
   obtain ⟨⟨p,q⟩,Y8⟩:∃d,rs[i]=d:=⟨_,rfl⟩
   rw[Y8] at hl
   have HS:Hid ((gf lo hi (p,q)&&(rs.drop (i+1)).all (gf lo hi)&&gs.all bD)=R):=by have:=ab HA;rwa [ep hl] at this
   have aS:Below W.heap.size W wr:=(ab HW).trans ((ab HB).mono (ab HW).size)
   have x0:=(aS.cell (p:=⟨g,o+(i*2+0),none⟩) hg).trans (hc _ _ (gB hl (j:=0) (by decide)))
   have x1:=(aS.cell (p:=⟨g,o+(i*2+1),none⟩) hg).trans (hc _ _ (gB hl (j:=1) (by decide)))
   rw[Nat.add_zero] at x0
   rw[←Nat.add_assoc] at x1
   have i0:(0:Int)≤(i:Int):=zH _
   have i1:(i:Int)<(rs.length:Int):=by omega
   have bu:=al aM
   clear hc hl Y8 aS aM HA
   by_cases k1:p<lo
   ·have e1:decide (p<lo)=true:=decide_eq_true k1
    have HX:Hid (R=false):=by show R=_;rw[←ab HS];unfold gf;rw[decide_eq_false (show ¬lo≤p by omega)];rfl
    clear HS k1
    go_wp2
    go_quiet (fail)
    go_wp2
    go_ret
    exact ⟨by rw[ab HX];rfl,below_drewN (ab HB) _⟩
   ·have e1:decide (p<lo)=false:=decide_eq_false k1
    by_cases k2:q<p
    ·have e2:decide (q<p)=true:=decide_eq_true k2
     have HX:Hid (R=false):=by show R=_;rw[←ab HS];unfold gf;rw[decide_eq_false (show ¬p≤q by omega),Bool.and_false];rfl
     clear HS k1 k2
     go_wp2
     go_quiet (fail)
     go_wp2
     go_ret
     exact ⟨by rw[ab HX];rfl,below_drewN (ab HB) _⟩
    ·have e2:decide (q<p)=false:=decide_eq_false k2
     by_cases k3:hi<q
     ·have e3:decide (hi<q)=true:=decide_eq_true k3
      have HX:Hid (R=false):=by show R=_;rw[←ab HS];unfold gf;rw[decide_eq_false (show ¬q≤hi by omega),Bool.and_false];rfl
      clear HS k1 k2 k3
      go_wp2
      go_quiet (fail)
      go_wp2
      go_ret
      exact ⟨by rw[ab HX];rfl,below_drewN (ab HB) _⟩
     ·have e3:decide (hi<q)=false:=decide_eq_false k3
      have HA:Hid (((rs.drop (i+1)).all (gf lo hi)&&gs.all bD)=R):=by show _=R;rw[←ab HS];unfold gf;rw[decide_eq_true (show lo≤p by omega),decide_eq_true (show p≤q by omega),decide_eq_true (show q≤hi by omega)];rfl
      clear HS k1 k2 k3
      go_wp2
      go_quiet (fail)
      go_wp2
      go_roundg (rs.length-(i+1))
      case measure=>have:=ab bz;have:=ab bu;omega
      case rel=>exact ⟨i+1,by go_num,rfl,ab bu,HA,below_drewN (ab HB) _⟩
  ·obtain rfl:i=rs.length:=by omega
   have HR:Hid (gs.all bD=R):=by show _=R;have h:=ab HA;rw[List.drop_length,List.all_nil,Bool.true_and] at h;exact h
   clear HA
   obtain ⟨wo,iA⟩:∃x,x=wr:=⟨_,rfl⟩
   subst iA
   go_wp2
   go_loopg [10] gs.length (fun gk v10 wr=>∃(i:Nat),v10=.int .i64 (i:Int)∧gk=gs.length-i∧i≤gs.length∧Hid ((gs.drop i).all bD=R)∧Hid (Below w0.heap.size w0 wr))
   case atStart=>exact ⟨0,rfl,rfl,by omega,ab HR,ab HB⟩
   case round =>
    obtain ⟨i,rfl,aU,H',HA,cR⟩:=hrel
    have kq:=al aU
    clear aU HR HB
    by_cases aM:i<gs.length
    ·obtain ⟨g,o,rfl,hg,hc⟩:=ab H2' (by omega)
     have hl:=List.getElem?_eq_getElem aM
     obtain ⟨s,hs⟩:∃d,gs[i]=d:=⟨_,rfl⟩
     rw[hs] at hl
     have HS:Hid ((bD s&&(gs.drop (i+1)).all bD)=R):=by have:=ab HA;rwa [ep hl] at this
     have aS:Below W.heap.size W wr:=(ab HW).trans ((ab cR).mono (ab HW).size)
     have x0:=(aS.cell (p:=⟨g,o+i,none⟩) hg).trans (hc _ _ (dS hl))
     have i0:(0:Int)≤(i:Int):=zH _
     have i1:(i:Int)<(gs.length:Int):=by omega
     have bu:=al aM
     clear hc hl hs aS aM HA
     go_wp2_with fail
     refine (fY wr s).mono ?_
     rintro e w ⟨rfl,rfl⟩
     obtain ⟨q,hq⟩:∃q,bD s=q:=⟨_,rfl⟩
     rw[hq] at HS
     rw[hq]
     clear hq
     cases q with
     |false =>
      go_wp2
      go_ret
      exact ⟨by rw[←ab HS];rfl,ab cR⟩
     |true =>
      go_wp2
      go_roundg (gs.length-(i+1))
      case measure=>have:=ab kq;have:=ab bu;omega
      case rel=>exact ⟨i+1,by go_num,rfl,ab bu,by have:=ab HS;rwa [Bool.true_and] at this,cR⟩
    ·obtain rfl:i=gs.length:=by omega
     have HX:Hid (R=true):=by have h:=ab HA;rw[List.drop_length] at h;exact h.symm
     clear HA
     go_wp2
     go_ret
     exact ⟨by rw[ab HX];rfl,ab cR⟩
theorem pz {W:World}{e:En}{vv vr vg:Value} (hv:Rl W vv e.aQ.length (qP e.aQ)) (hr:Rl W vr e.res.length (kQ e.res)) (hg:Rl W vg e.gone.length (bZ e.gone)) (w0:World) (hw:Below W.heap.size W w0) :
  Calls Tryz.prog 53 #[.agg #[.string e.name,vv,vr,vg]] w0 fun e' w=>e'=.returned (.bool (bc e))∧Below w0.heap.size w0 w:=by
 have HK:=al (fun w' hb=>wa hr hg (-2147483648) 2147483647 w' hb)
 obtain ⟨nm,aQ,res,gone⟩:=e
 simp only at hv HK ⊢
 obtain ⟨a,c,rfl,hn,h2⟩:=hv
 obtain ⟨ar,cr,rfl,-,-⟩:=hr
 obtain ⟨ag,cg,rfl,-,-⟩:=hg
 have k0:=aK w0 (.cells #[.string nm,.slice a aQ.length c,.slice ar res.length cr,.slice ag gone.length cg] 67)
 have bG:Below w0.heap.size w0 (w0.alloc (.cells #[.string nm,.slice a aQ.length c,.slice ar res.length cr,.slice ag gone.length cg] 67)):=(zE _ _).alloc (zD _) _
 obtain ⟨V,hV⟩:∃V,w0.alloc (.cells #[.string nm,.slice a aQ.length c,.slice ar res.length cr,.slice ag gone.length cg] 67)=V:=⟨_,rfl⟩
 rw[hV] at k0 bG
 obtain ⟨c0,c1,c2,c3⟩:=a8 k0
 obtain ⟨R,hR⟩:∃R,bc ⟨nm,aQ,res,gone⟩=R:=⟨_,rfl⟩
 rw[hR]
 have HR:Hid ((bD nm&&decide (0<aQ.length)&&aQ.all eB&&(res.all (gf (-2147483648) 2147483647)&&gone.all bD))=R):=by
  show _=R
  rw[←hR]
  unfold bc
  simp only[Bool.and_assoc]
 have H2:=al h2
 have HW:=al hw
 have HB:=al bG
 have kd:=al k0
 obtain ⟨qk,Rn⟩:∃q,(res.all (gf (-2147483648) 2147483647)&&gone.all bD)=q:=⟨_,rfl⟩
 rw[Rn] at HK HR
 have iH:=al (ab HK V (hw.trans (bG.mono hw.size)))
 clear h2 hw hR Rn HK bG k0
 obtain ⟨q1,tX⟩:∃q,bD nm=q:=⟨_,rfl⟩
 have yo:=al (fY V nm)
 rw[tX] at HR yo
 clear tX
 cases q1 with
 |false =>
  go_enter Tryz.func53,Tryz.ntmps53
  go_wp2_with fail
  refine (ab yo).mono ?_
  rintro e w ⟨rfl,rfl⟩
  go_wp2
  go_ret
  exact ⟨by rw[←ab HR];rfl,ab HB⟩
 |true =>
 by_cases z0:aQ.length=0
 ·have e0:((aQ.length:Int)==0)=true:=beq_iff_eq.2 (by omega)
  have HX:Hid (R=false):=by show R=_;rw[←ab HR,decide_eq_false (by omega)];rfl
  clear z0
  go_enter Tryz.func53,Tryz.ntmps53
  go_wp2_with fail
  refine (ab yo).mono ?_
  rintro e w ⟨rfl,rfl⟩
  go_wp2
  go_ret
  exact ⟨by rw[ab HX];rfl,ab HB⟩
 ·have e0:((aQ.length:Int)==0)=false:=beq_eq_false_iff_ne.2 (by omega)
  have lG:Hid ((aQ.all eB&&qk)=R):=by show _=R;rw[←ab HR,decide_eq_true (by omega)];rfl
  clear z0 HR
  go_enter Tryz.func53,Tryz.ntmps53
  go_wp2_with fail
  refine (ab yo).mono ?_
  rintro e w ⟨rfl,rfl⟩
  go_wp2_with fail
  refine (ab iH).mono ?_
  rintro e w1 ⟨rfl,aW⟩
  have Ft:=al ((aW.block _ (zA (ab kd)).1).trans (ab kd))
  have cN:=al ((ab HB).trans (aW.mono (ab HB).size))
  have Xf:Hid (w0.heap.size<w1.heap.size):=(zA (ab Ft)).1
  clear aW iH yo HB kd c0 c1 c2 c3
  cases qk with
  |false =>
   have HX:Hid (R=false):=by show R=_;rw[←ab lG,Bool.and_false]
   clear lG
   go_wp2
   go_ret
   exact ⟨by rw[ab HX];rfl,ab cN⟩
  |true =>
   have SQ:Hid (aQ.all eB=R):=by show _=R;rw[←ab lG,Bool.and_true]
   clear lG
   go_wp2
   go_loopg [3,4] aQ.length (fun gk v3 _ wr=>∃(i:Nat),v3=.int .i64 (i:Int)∧gk=aQ.length-i∧i≤aQ.length∧Hid ((aQ.drop i).all eB=R)∧Hid (Below w0.heap.size w0 wr)∧Hid (wr.heap[w0.heap.size]?=some (.cells #[.string nm,.slice a aQ.length c,.slice ar res.length cr,.slice ag gone.length cg] 67 (0,0))))
   case atStart=>exact ⟨0,rfl,rfl,by omega,ab SQ,ab cN,ab Ft⟩
   case round =>
    obtain ⟨i,rfl,aU,eS,HA,cR,fD⟩:=hrel
    have bz:=al aU
    clear aU SQ cN Ft
    obtain ⟨c0,c1,c2,c3⟩:=a8 (ab fD)
    by_cases aM:i<aQ.length
    ·obtain ⟨g,o,rfl,hg,hc⟩:=ab H2 (by omega)
     have hl:=List.getElem?_eq_getElem aM
     obtain ⟨⟨s,n⟩,hs⟩:∃d,aQ[i]=d:=⟨_,rfl⟩
     rw[hs] at hl
     obtain ⟨qv,VP⟩:∃q,eB (s,n)=q:=⟨_,rfl⟩
     have HS:Hid ((qv&&(aQ.drop (i+1)).all eB)=R):=by have:=ab HA;rwa [ep hl,VP] at this
     have HV:Hid (qv=(bD s&&!(s.toList==eV.toList)&&!(s.toList==dv.toList)&&(decide (-2147483648≤n)&&decide (n≤2147483647)))):=by show qv=_;rw[←VP];rfl
     have aS:Below W.heap.size W wr:=(ab HW).trans ((ab cR).mono (ab HW).size)
     have x0:=(aS.cell (p:=⟨g,o+(i*2+0),none⟩) hg).trans (hc _ _ (fG hl (j:=0) (by decide)))
     have x1:=(aS.cell (p:=⟨g,o+(i*2+1),none⟩) hg).trans (hc _ _ (fG hl (j:=1) (by decide)))
     rw[Nat.add_zero] at x0
     rw[←Nat.add_assoc] at x1
     have i0:(0:Int)≤(i:Int):=zH _
     have i1:(i:Int)<(aQ.length:Int):=by omega
     have bu:=al aM
     have kn:=aK wr (.cells #[.string s,.int .i64 n] 74)
     have bn:Below wr.heap.size wr (wr.alloc (.cells #[.string s,.int .i64 n] 74)):=(zE _ _).alloc (zD _) _
     obtain ⟨U,hU⟩:∃U,wr.alloc (.cells #[.string s,.int .i64 n] 74)=U:=⟨_,rfl⟩
     rw[hU] at kn bn
     have y0:U.cell? ⟨wr.heap.size,0,none⟩=some (.string s):=cell_of_row _ _ _ _ _ _ kn
     have y1:U.cell? ⟨wr.heap.size,1,none⟩=some (.int .i64 n):=cell_of_row _ _ _ _ _ _ kn
     have ed:=al ((ab cR).trans (bn.mono (ab cR).size))
     have mK:=al ((bn.block _ (zA (ab fD)).1).trans (ab fD))
     obtain ⟨q1,h1⟩:∃q,bD s=q:=⟨_,rfl⟩
     obtain ⟨q2,h2⟩:∃q,(s.toList==[111,112,116,105,111,110])=q:=⟨_,rfl⟩
     obtain ⟨q3,h3⟩:∃q,(s.toList==[114,101,115,101,114,118,101,100])=q:=⟨_,rfl⟩
     have e2:(s.toList==eV.toList)=q2:=by rw[←h2,toList_data eV];rfl
     have e3:(s.toList==dv.toList)=q3:=by rw[←h3,toList_data dv];rfl
     have HWd:=al (fY U s)
     rw[h1] at HV HWd
     rw[e2,e3] at HV
     clear hc hl hs VP aS aM HA kn bn h1 e2 e3 cR fD
     go_wp2_with fail
     refine (ab HWd).mono ?_
     rintro e w ⟨rfl,rfl⟩
     cases q1 with
     |false =>
      have HX:Hid (R=false):=by show R=_;rw[←ab HS,ab HV];rfl
      clear HS HV
      go_wp2
      go_ret
      exact ⟨by rw[ab HX];rfl,ab ed⟩
     |true =>
     cases q2 with
     |true =>
      have HX:Hid (R=false):=by show R=_;rw[←ab HS,ab HV];rfl
      clear HS HV
      go_wp2
      go_ret
      exact ⟨by rw[ab HX];rfl,ab ed⟩
     |false =>
     cases q3 with
     |true =>
      have HX:Hid (R=false):=by show R=_;rw[←ab HS,ab HV];rfl
      clear HS HV
      go_wp2
      go_ret
      exact ⟨by rw[ab HX];rfl,ab ed⟩
     |false =>
     by_cases n0:n<-2147483648
     ·have f0:decide (n<-2147483648)=true:=decide_eq_true n0
      have HX:Hid (R=false):=by show R=_;rw[←ab HS,ab HV,decide_eq_false (by omega)];rfl
      clear HS HV n0
      go_wp2
      go_ret
      exact ⟨by rw[ab HX];rfl,ab ed⟩
     ·have f0:decide (n<-2147483648)=false:=decide_eq_false n0
      by_cases n1:2147483647<n
      ·have f1:decide (2147483647<n)=true:=decide_eq_true n1
       have HX:Hid (R=false):=by show R=_;rw[←ab HS,ab HV,decide_eq_true (show -2147483648≤n by omega),decide_eq_false (show ¬n≤2147483647 by omega)];rfl
       clear HS HV n0 n1
       go_wp2
       go_ret
       exact ⟨by rw[ab HX];rfl,ab ed⟩
      ·have f1:decide (2147483647<n)=false:=decide_eq_false n1
       have HX:Hid ((aQ.drop (i+1)).all eB=R):=by show _=R;rw[←ab HS,ab HV,decide_eq_true (show -2147483648≤n by omega),decide_eq_true (show n≤2147483647 by omega)];rfl
       clear HS HV n0 n1
       go_wp2
       go_roundg (aQ.length-(i+1))
       case measure=>have:=ab bz;have:=ab bu;omega
       case rel=>exact ⟨i+1,by go_num,rfl,ab bu,HX,ed,mK⟩
    ·obtain rfl:i=aQ.length:=by omega
     have HX:Hid (R=true):=by have h:=ab HA;rw[List.drop_length] at h;exact h.symm
     clear HA
     go_wp2
     go_ret
     exact ⟨by rw[ab HX];rfl,ab cR⟩
def fb (l:List Fd) (i:Nat):Int:=match i with
 |0=>0
 |j+1=>match l[j]? with
  |some d=>d.aE
  |none=>0
theorem zf {W:World}{m:Ms}{vf vo vm ve vr vg:Value}{nm:ByteArray}{fs:List Fd}{os:List ByteArray}{ms:List Ms}{es:List En}{rs:List (Int×Int)}{gs:List ByteArray}{cm ce:List Value} (hV:Lw W m vf vo vm ve vr vg nm fs os ms es rs gs cm ce) (w0:World) (hw:Below W.heap.size W w0) :
  Calls Tryz.prog 98 #[.agg #[.string nm,vf,vo,vm,ve,vr,vg]] w0 fun e w=>e=.returned (.bool (A3 fs os.length))∧Below w0.heap.size w0 w:=by
 obtain ⟨af,cf,rfl,Py,h2⟩:=hV.hf
 obtain ⟨ao,co,rfl,nh,-⟩:=hV.ho
 obtain ⟨am,dh,rfl,-,-⟩:=hV.hm
 obtain ⟨ae,da,rfl,-,-⟩:=hV.he
 obtain ⟨ar,cr,rfl,-,-⟩:=hV.hr
 obtain ⟨ag,cg,rfl,-,-⟩:=hV.hg
 obtain ⟨X,hX⟩:∃X,#[Value.string nm,.slice af fs.length cf,.slice ao os.length co,.slice am ms.length dh,.slice ae es.length da,.slice ar rs.length cr,.slice ag gs.length cg]=X:=⟨_,rfl⟩
 have k0:=aK w0 (.cells #[.string nm,.slice af fs.length cf,.slice ao os.length co,.slice am ms.length dh,.slice ae es.length da,.slice ar rs.length cr,.slice ag gs.length cg] 46)
 have bG:Below w0.heap.size w0 (w0.alloc (.cells #[.string nm,.slice af fs.length cf,.slice ao os.length co,.slice am ms.length dh,.slice ae es.length da,.slice ar rs.length cr,.slice ag gs.length cg] 46)):=(zE _ _).alloc (zD _) _
 obtain ⟨V,fR⟩:∃V,w0.alloc (.cells #[.string nm,.slice af fs.length cf,.slice ao os.length co,.slice am ms.length dh,.slice ae es.length da,.slice ar rs.length cr,.slice ag gs.length cg] 46)=V:=⟨_,rfl⟩
 rw[fR] at k0 bG
 have c1:V.cell? ⟨w0.heap.size,1,none⟩=some (.slice af fs.length cf):=cell_of_row _ _ _ _ _ _ k0
 have c2:V.cell? ⟨w0.heap.size,2,none⟩=some (.slice ao os.length co):=cell_of_row _ _ _ _ _ _ k0
 obtain ⟨R,hR⟩:∃R,A3 fs os.length=R:=⟨_,rfl⟩
 rw[hR]
 have HR:Hid ((match wh fs 0 0 with|none=>false|some b=>b==(os.length:Int))=R):=by show _=R;rw[←hR];rfl
 have H2:=al h2
 have HW:Hid (Below W.heap.size W V):=hw.trans (bG.mono hw.size)
 have HB:=al bG
 clear h2 hw hR bG k0 hX X hV
 go_enter Tryz.func98,Tryz.ntmps98
 go_wp2
 go_loopg [3,4,5,6] fs.length (fun gk v3 v4 _ _ wr=>∃(i:Nat) (b:Int),v3=.int .i64 b∧v4=.int .i64 (i:Int)∧gk=fs.length-i∧i≤fs.length∧(0≤b∧b≤(i:Int))∧wr=V∧Hid (fb fs i=0∨fb fs i=b)∧Hid ((match wh (fs.drop i) (fb fs i) b with|none=>false|some b=>b==(os.length:Int))=R))
 case atStart=>exact ⟨0,0,rfl,rfl,rfl,by omega,by omega,rfl,.inl rfl,ab HR⟩
 case round =>
  obtain ⟨i,b,rfl,rfl,aU,hi,hb,rfl,HP,HA⟩:=hrel
  have bz:=al aU
  clear aU HR
  by_cases aM:i<fs.length
  ·obtain ⟨g,o,rfl,hg,hc⟩:=ab H2 (by omega)
   have hl:=List.getElem?_eq_getElem aM
   obtain ⟨d,hd⟩:∃d,fs[i]=d:=⟨_,rfl⟩
   rw[hd] at hl
   have FF:fb fs (i+1)=d.aE:=by unfold fb;simp only;rw[hl]
   obtain ⟨pv,EJ⟩:∃p,fb fs i=p:=⟨_,rfl⟩
   rw[EJ] at HP HA
   have HS:Hid ((match (if d.aE≠0∧d.aE≠pv then (if d.aE≠b+1 then none else wh (fs.drop (i+1)) d.aE (b+1)) else wh (fs.drop (i+1)) d.aE b) with|none=>false|some b=>b==(os.length:Int))=R):=by
    have:=ab HA
    rwa [zT hl] at this
   have x5:=((ab HW).cell (p:=⟨g,o+(i*6+5),none⟩) hg).trans (hc _ _ ((cA hl (j:=5) (by decide)).trans rfl))
   rw[←Nat.add_assoc] at x5
   have OY:Hid (0<i→wr.cell? ⟨g,o+(i-1)*6+5,none⟩=some (.int .i64 pv)):=by
    intro h0
    obtain ⟨j,rfl⟩:∃j,i=j+1:=⟨i-1,by omega⟩
    have Jy:fs[j]?=some fs[j]:=List.getElem?_eq_getElem (by omega)
    have hp:fs[j].aE=pv:=by rw[←EJ];unfold fb;simp only;rw[Jy]
    have y5:=((ab HW).cell (p:=⟨g,o+(j*6+5),none⟩) hg).trans (hc _ _ ((cA Jy (j:=5) (by decide)).trans rfl))
    rw[←Nat.add_assoc,hp] at y5
    rw[Nat.add_sub_cancel]
    exact y5
   have P7:Hid (pv≠0→0<i):=fun h=>by
    rcases Nat.eq_zero_or_pos i with h0|h0
    ·subst h0;exact absurd EJ.symm h
    ·exact h0
   obtain ⟨on,Nx⟩:∃x,d.aE=x:=⟨_,rfl⟩
   rw[Nx] at HS x5 FF
   have Qc:=al FF
   have i0:(0:Int)≤(i:Int):=zH _
   have i1:(i:Int)<(fs.length:Int):=by omega
   have bu:=al aM
   have OP:=al hb
   have b0:0≤b:=hb.1
   have b1:b≤140737488355328:=by omega
   clear hc hl hd aM hb HA EJ FF Nx
   by_cases z:on=0
   ·subst z
    have HX:Hid ((match wh (fs.drop (i+1)) 0 b with|none=>false|some b=>b==(os.length:Int))=R):=by have:=ab HS;rwa [if_neg (fun h=>h.1 rfl)] at this
    clear HS OY P7 HP
    go_wp2
    go_roundg (fs.length-(i+1))
    case measure=>have:=ab bz;have:=ab bu;omega
    case rel=>exact ⟨i+1,b,rfl,by go_num,rfl,ab bu,by have:=ab OP;omega,rfl,by show _∨_;rw[ab Qc];exact .inl rfl,by show _=R;rw[ab Qc];exact ab HX⟩
   ·have e0:(on==0)=false:=beq_eq_false_iff_ne.2 z
    by_cases hh:on=pv
    ·subst hh
     have bd:on=b:=by rcases ab HP with h|h;exact absurd h z;exact h
     have xN:=ab P7 z
     have y5:=ab OY xN
     obtain ⟨j,hj⟩:∃j:Nat,i-1=j:=⟨_,rfl⟩
     rw[hj] at y5
     have e1:(on==b)=true:=beq_iff_eq.2 bd
     have e2:decide ((0:Int)<(i:Int))=true:=decide_eq_true (by omega)
     have e3:IntKind.i64.wrap ((i:Int)-1)=(j:Int):=by rw[IntKind.wrap_i64];omega
     have e4:wrap64 ((i:Int)-1)=(j:Int):=by unfold wrap64;omega
     have e5:(i:Int)-1=(j:Int):=by omega
     have j0:(0:Int)≤(j:Int):=zH _
     have j1:(j:Int)<(fs.length:Int):=by omega
     have Hbe:=al bd
     have HX:Hid ((match wh (fs.drop (i+1)) on b with|none=>false|some b=>b==(os.length:Int))=R):=by have:=ab HS;rwa [if_neg (fun h=>h.2 rfl)] at this
     have Hj:=al hj
     clear HS OY P7 HP bd xN hj
     go_wp2
     go_roundg (fs.length-(i+1))
     case measure=>have:=ab bz;have:=ab bu;omega
     case rel=>exact ⟨i+1,b,rfl,by go_num,rfl,ab bu,by have:=ab OP;omega,rfl,by show _∨_;rw[ab Qc];exact .inr (ab Hbe),by show _=R;rw[ab Qc];exact ab HX⟩
    ·have iJ:Hid ((match (if on≠b+1 then none else wh (fs.drop (i+1)) on (b+1)) with|none=>false|some b=>b==(os.length:Int))=R):=by have:=ab HS;rwa [if_pos ⟨z,hh⟩] at this
     by_cases bd:on=b
     ·have xN:0<i:=by have:=ab OP;omega
      have y5:=ab OY xN
      obtain ⟨j,hj⟩:∃j:Nat,i-1=j:=⟨_,rfl⟩
      rw[hj] at y5
      have e1:(on==b)=true:=beq_iff_eq.2 bd
      have e2:decide ((0:Int)<(i:Int))=true:=decide_eq_true (by omega)
      have e3:IntKind.i64.wrap ((i:Int)-1)=(j:Int):=by rw[IntKind.wrap_i64];omega
      have e4:wrap64 ((i:Int)-1)=(j:Int):=by unfold wrap64;omega
      have e5:(i:Int)-1=(j:Int):=by omega
      have j0:(0:Int)≤(j:Int):=zH _
      have j1:(j:Int)<(fs.length:Int):=by omega
      have e6:(pv==on)=false:=beq_eq_false_iff_ne.2 (fun h=>hh h.symm)
      have e7:(on != b+1)=true:=by simp;omega
      have HX:Hid (R=false):=by show R=_;rw[←ab iJ,if_pos (by omega)]
      have Hj:=al hj
      clear HS iJ OY P7 HP bd xN hj hh z
      go_wp2
      go_ret
      exact ⟨by rw[ab HX];rfl,ab HB⟩
     ·have e1:(on==b)=false:=beq_eq_false_iff_ne.2 bd
      by_cases hn:on=b+1
      ·have e7:(on != b+1)=false:=by simp;omega
       have HX:Hid ((match wh (fs.drop (i+1)) on on with|none=>false|some b=>b==(os.length:Int))=R):=by have:=ab iJ;rw[if_neg (fun h=>h hn)] at this;rw[←hn] at this;exact this
       have P9:=al (show 0≤on∧on≤((i+1:Nat):Int) by have:=ab OP;omega)
       clear HS iJ OY P7 HP bd hh z hn
       go_wp2
       go_roundg (fs.length-(i+1))
       case measure=>have:=ab bz;have:=ab bu;omega
       case rel=>exact ⟨i+1,on,rfl,by go_num,rfl,ab bu,ab P9,rfl,by show _∨_;rw[ab Qc];exact .inr rfl,by show _=R;rw[ab Qc];exact ab HX⟩
      ·have e7:(on != b+1)=true:=by simp;omega
       have HX:Hid (R=false):=by show R=_;rw[←ab iJ,if_pos hn]
       clear HS iJ OY P7 HP bd hh z hn
       go_wp2
       go_ret
       exact ⟨by rw[ab HX];rfl,ab HB⟩
  ·obtain rfl:i=fs.length:=by omega
   have HX:Hid ((b==(os.length:Int))=R):=by have h:=ab HA;rw[List.drop_length] at h;exact h
   clear HA
   go_wp2
   go_ret
   exact ⟨by rw[←ab HX];rfl,ab HB⟩
end Go.Proofs.YtichhjfjcinjgaaGreatDoor
