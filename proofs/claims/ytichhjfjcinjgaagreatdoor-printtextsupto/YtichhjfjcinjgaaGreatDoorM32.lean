import Derived.Test.YtichhjfjcinjgaaGreatDoorYDc
set_option maxHeartbeats 4000000
set_option maxRecDepth 100000
namespace Go.Proofs.YtichhjfjcinjgaaGreatDoor
open Go.RowKit
attribute [local go_sem ↓] Go.wp_at_zero Go.wp_at_succ
theorem ew {α:Type}{l:List α}{i:Nat}{x:α} (h:l[i]?=some x) (P:α→Bool):(l.drop i).all P=(P x&&(l.drop (i+1)).all P):=by
 obtain ⟨hi,rfl⟩:=zB h
 rw[List.drop_eq_getElem_cons hi,List.all_cons]
theorem wP {W:World}{v u:Value}{rs:List (Int×Int)}{gs:List ByteArray} (hv:Rl W v rs.length (lj rs)) (hu:Rl W u gs.length (cc gs)) (lo hi:Int) (w0:World) (hw:Below W.heap.size W w0) :
  Calls Tryz.prog 97 #[v,u,.int .i64 lo,.int .i64 hi] w0 fun e w=>e=.returned (.bool (rs.all (gC lo hi)&&gs.all bD))∧Below w0.heap.size w0 w:=by
 obtain ⟨a,c,rfl,hn,h2⟩:=hv
 obtain ⟨a',c',rfl,hn',h2'⟩:=hu
 obtain ⟨R,hR⟩:∃R,(rs.all (gC lo hi)&&gs.all bD)=R:=⟨_,rfl⟩
 rw[hR]
 have H2:=al h2
 have H2':=al h2'
 have HW:=al hw
 have HR:=al hR
 clear h2 h2' hw hR
 go_enter Tryz.func97,Tryz.ntmps97
 go_wp2
 go_loopg [9] rs.length (fun gk v9 wr=>∃(i:Nat),v9=.int .i64 (i:Int)∧gk=rs.length-i∧i≤rs.length∧Hid (((rs.drop i).all (gC lo hi)&&gs.all bD)=R)∧Hid (Below w0.heap.size w0 wr))
 case atStart=>exact ⟨0,rfl,rfl,by omega,ab HR,zE _ _⟩
 case round =>
  obtain ⟨i,rfl,aW,eV,HA,HB⟩:=hrel
  have bz:=al aW
  clear aW HR
  by_cases aM:i<rs.length
  ·obtain ⟨g,o,rfl,hg,hc⟩:=ab H2 (by omega)
   have hl:=List.getElem?_eq_getElem aM
   obtain ⟨⟨p,q⟩,Zv⟩:∃d,rs[i]=d:=⟨_,rfl⟩
   rw[Zv] at hl
   have HS:Hid ((gC lo hi (p,q)&&(rs.drop (i+1)).all (gC lo hi)&&gs.all bD)=R):=by have:=ab HA;rwa [ew hl] at this
   have aT:Below W.heap.size W wr:=(ab HW).trans ((ab HB).mono (ab HW).size)
   have x0:=(aT.cell (p:=⟨g,o+(i*2+0),none⟩) hg).trans (hc _ _ (gI hl (j:=0) (by decide)))
   have x1:=(aT.cell (p:=⟨g,o+(i*2+1),none⟩) hg).trans (hc _ _ (gI hl (j:=1) (by decide)))
   rw[Nat.add_zero] at x0
   rw[←Nat.add_assoc] at x1
   have i0:(0:Int)≤(i:Int):=zH _
   have i1:(i:Int)<(rs.length:Int):=by omega
   have bu:=al aM
   clear hc hl Zv aT aM HA
   by_cases k1:p<lo
   ·have e1:decide (p<lo)=true:=decide_eq_true k1
    have HX:Hid (R=false):=by show R=_;rw[←ab HS];unfold gC;rw[decide_eq_false (show ¬lo≤p by omega)];rfl
    clear HS k1
    go_wp2
    go_quiet (fail)
    go_wp2
    go_ret
    exact ⟨by rw[ab HX];rfl,below_drewN (ab HB) _⟩
   ·have e1:decide (p<lo)=false:=decide_eq_false k1
    by_cases k2:q<p
    ·have e2:decide (q<p)=true:=decide_eq_true k2
     have HX:Hid (R=false):=by show R=_;rw[←ab HS];unfold gC;rw[decide_eq_false (show ¬p≤q by omega),Bool.and_false];rfl
     clear HS k1 k2
     go_wp2
     go_quiet (fail)
     go_wp2
     go_ret
     exact ⟨by rw[ab HX];rfl,below_drewN (ab HB) _⟩
    ·have e2:decide (q<p)=false:=decide_eq_false k2
     by_cases k3:hi<q
     ·have e3:decide (hi<q)=true:=decide_eq_true k3
      have HX:Hid (R=false):=by show R=_;rw[←ab HS];unfold gC;rw[decide_eq_false (show ¬q≤hi by omega),Bool.and_false];rfl
      clear HS k1 k2 k3
      go_wp2
      go_quiet (fail)
      go_wp2
      go_ret
      exact ⟨by rw[ab HX];rfl,below_drewN (ab HB) _⟩
     ·have e3:decide (hi<q)=false:=decide_eq_false k3
      have HA:Hid (((rs.drop (i+1)).all (gC lo hi)&&gs.all bD)=R):=by show _=R;rw[←ab HS];unfold gC;rw[decide_eq_true (show lo≤p by omega),decide_eq_true (show p≤q by omega),decide_eq_true (show q≤hi by omega)];rfl
      clear HS k1 k2 k3
      go_wp2
      go_quiet (fail)
      go_wp2
      go_roundg (rs.length-(i+1))
      case measure=>have:=ab bz;have:=ab bu;omega
      case rel=>exact ⟨i+1,by go_num,rfl,ab bu,HA,below_drewN (ab HB) _⟩
  ·obtain rfl:i=rs.length:=by omega
   have HR:Hid (gs.all bD=R):=by show _=R;have h:=ab HA;rw[List.drop_length,List.all_nil,Bool.true_and] at h;exact h
   clear HA
   obtain ⟨wo,iI⟩:∃x,x=wr:=⟨_,rfl⟩
   subst iI
   go_wp2
   go_loopg [10] gs.length (fun gk v10 wr=>∃(i:Nat),v10=.int .i64 (i:Int)∧gk=gs.length-i∧i≤gs.length∧Hid ((gs.drop i).all bD=R)∧Hid (Below w0.heap.size w0 wr))
   case atStart=>exact ⟨0,rfl,rfl,by omega,ab HR,ab HB⟩
   case round =>
    obtain ⟨i,rfl,aW,II,HA,cS⟩:=hrel
    have kH:=al aW
    clear aW HR HB
    by_cases aM:i<gs.length
    ·obtain ⟨g,o,rfl,hg,hc⟩:=ab H2' (by omega)
     have hl:=List.getElem?_eq_getElem aM
     obtain ⟨s,hs⟩:∃d,gs[i]=d:=⟨_,rfl⟩
     rw[hs] at hl
     have HS:Hid ((bD s&&(gs.drop (i+1)).all bD)=R):=by have:=ab HA;rwa [ew hl] at this
     have aT:Below W.heap.size W wr:=(ab HW).trans ((ab cS).mono (ab HW).size)
     have x0:=(aT.cell (p:=⟨g,o+i,none⟩) hg).trans (hc _ _ (dT hl))
     have i0:(0:Int)≤(i:Int):=zH _
     have i1:(i:Int)<(gs.length:Int):=by omega
     have bu:=al aM
     clear hc hl hs aT aM HA
     go_wp2_with fail
     refine (gu wr s).mono ?_
     rintro e w ⟨rfl,rfl⟩
     obtain ⟨q,hq⟩:∃q,bD s=q:=⟨_,rfl⟩
     rw[hq] at HS
     rw[hq]
     clear hq
     cases q with
     |false =>
      go_wp2
      go_ret
      exact ⟨by rw[←ab HS];rfl,ab cS⟩
     |true =>
      go_wp2
      go_roundg (gs.length-(i+1))
      case measure=>have:=ab kH;have:=ab bu;omega
      case rel=>exact ⟨i+1,by go_num,rfl,ab bu,by have:=ab HS;rwa [Bool.true_and] at this,cS⟩
    ·obtain rfl:i=gs.length:=by omega
     have HX:Hid (R=true):=by have h:=ab HA;rw[List.drop_length] at h;exact h.symm
     clear HA
     go_wp2
     go_ret
     exact ⟨by rw[ab HX];rfl,ab cS⟩
theorem pR {W:World}{e:En}{vv vr vg:Value} (hv:Rl W vv e.aR.length (rn e.aR)) (hr:Rl W vr e.res.length (lj e.res)) (hg:Rl W vg e.gone.length (cc e.gone)) (w0:World) (hw:Below W.heap.size W w0) :
  Calls Tryz.prog 53 #[.agg #[.string e.name,vv,vr,vg]] w0 fun e' w=>e'=.returned (.bool (bc e))∧Below w0.heap.size w0 w:=by
 have HK:=al (fun w' hb=>wP hr hg (-2147483648) 2147483647 w' hb)
 obtain ⟨nm,aR,res,gone⟩:=e
 simp only at hv HK ⊢
 obtain ⟨a,c,rfl,hn,h2⟩:=hv
 obtain ⟨ar,cr,rfl,-,-⟩:=hr
 obtain ⟨ag,cg,rfl,-,-⟩:=hg
 have k0:=aJ w0 (.cells #[.string nm,.slice a aR.length c,.slice ar res.length cr,.slice ag gone.length cg] 67)
 have bG:Below w0.heap.size w0 (w0.alloc (.cells #[.string nm,.slice a aR.length c,.slice ar res.length cr,.slice ag gone.length cg] 67)):=(zE _ _).alloc (zD _) _
 obtain ⟨V,hV⟩:∃V,w0.alloc (.cells #[.string nm,.slice a aR.length c,.slice ar res.length cr,.slice ag gone.length cg] 67)=V:=⟨_,rfl⟩
 rw[hV] at k0 bG
 obtain ⟨c0,c1,c2,c3⟩:=aP k0
 obtain ⟨R,hR⟩:∃R,bc ⟨nm,aR,res,gone⟩=R:=⟨_,rfl⟩
 rw[hR]
 have HR:Hid ((bD nm&&decide (0<aR.length)&&aR.all eD&&(res.all (gC (-2147483648) 2147483647)&&gone.all bD))=R):=by
  show _=R
  rw[←hR]
  unfold bc
  simp only[Bool.and_assoc]
 have H2:=al h2
 have HW:=al hw
 have HB:=al bG
 have kA:=al k0
 obtain ⟨qk,RN⟩:∃q,(res.all (gC (-2147483648) 2147483647)&&gone.all bD)=q:=⟨_,rfl⟩
 rw[RN] at HK HR
 have iO:=al (ab HK V (hw.trans (bG.mono hw.size)))
 clear h2 hw hR RN HK bG k0
 obtain ⟨q1,uP⟩:∃q,bD nm=q:=⟨_,rfl⟩
 have sE:=al (gu V nm)
 rw[uP] at HR sE
 clear uP
 cases q1 with
 |false =>
  go_enter Tryz.func53,Tryz.ntmps53
  go_wp2_with fail
  refine (ab sE).mono ?_
  rintro e w ⟨rfl,rfl⟩
  go_wp2
  go_ret
  exact ⟨by rw[←ab HR];rfl,ab HB⟩
 |true =>
 by_cases z0:aR.length=0
 ·have e0:((aR.length:Int)==0)=true:=beq_iff_eq.2 (by omega)
  have HX:Hid (R=false):=by show R=_;rw[←ab HR,decide_eq_false (by omega)];rfl
  clear z0
  go_enter Tryz.func53,Tryz.ntmps53
  go_wp2_with fail
  refine (ab sE).mono ?_
  rintro e w ⟨rfl,rfl⟩
  go_wp2
  go_ret
  exact ⟨by rw[ab HX];rfl,ab HB⟩
 ·have e0:((aR.length:Int)==0)=false:=beq_eq_false_iff_ne.2 (by omega)
  have lX:Hid ((aR.all eD&&qk)=R):=by show _=R;rw[←ab HR,decide_eq_true (by omega)];rfl
  clear z0 HR
  go_enter Tryz.func53,Tryz.ntmps53
  go_wp2_with fail
  refine (ab sE).mono ?_
  rintro e w ⟨rfl,rfl⟩
  go_wp2_with fail
  refine (ab iO).mono ?_
  rintro e w1 ⟨rfl,aX⟩
  have F1:=al ((aX.block _ (zA (ab kA)).1).trans (ab kA))
  have cO:=al ((ab HB).trans (aX.mono (ab HB).size))
  have XJ:Hid (w0.heap.size<w1.heap.size):=(zA (ab F1)).1
  clear aX iO sE HB kA c0 c1 c2 c3
  cases qk with
  |false =>
   have HX:Hid (R=false):=by show R=_;rw[←ab lX,Bool.and_false]
   clear lX
   go_wp2
   go_ret
   exact ⟨by rw[ab HX];rfl,ab cO⟩
  |true =>
   have Tg:Hid (aR.all eD=R):=by show _=R;rw[←ab lX,Bool.and_true]
   clear lX
   go_wp2
   go_loopg [3,4] aR.length (fun gk v3 _ wr=>∃(i:Nat),v3=.int .i64 (i:Int)∧gk=aR.length-i∧i≤aR.length∧Hid ((aR.drop i).all eD=R)∧Hid (Below w0.heap.size w0 wr)∧Hid (wr.heap[w0.heap.size]?=some (.cells #[.string nm,.slice a aR.length c,.slice ar res.length cr,.slice ag gone.length cg] 67 (0,0))))
   case atStart=>exact ⟨0,rfl,rfl,by omega,ab Tg,ab cO,ab F1⟩
   case round =>
    obtain ⟨i,rfl,aW,eV,HA,cS,fI⟩:=hrel
    have bz:=al aW
    clear aW Tg cO F1
    obtain ⟨c0,c1,c2,c3⟩:=aP (ab fI)
    by_cases aM:i<aR.length
    ·obtain ⟨g,o,rfl,hg,hc⟩:=ab H2 (by omega)
     have hl:=List.getElem?_eq_getElem aM
     obtain ⟨⟨s,n⟩,hs⟩:∃d,aR[i]=d:=⟨_,rfl⟩
     rw[hs] at hl
     obtain ⟨qv,Wl⟩:∃q,eD (s,n)=q:=⟨_,rfl⟩
     have HS:Hid ((qv&&(aR.drop (i+1)).all eD)=R):=by have:=ab HA;rwa [ew hl,Wl] at this
     have HV:Hid (qv=(bD s&&!(s.toList==eY.toList)&&!(s.toList==dx.toList)&&(decide (-2147483648≤n)&&decide (n≤2147483647)))):=by show qv=_;rw[←Wl];rfl
     have aT:Below W.heap.size W wr:=(ab HW).trans ((ab cS).mono (ab HW).size)
     have x0:=(aT.cell (p:=⟨g,o+(i*2+0),none⟩) hg).trans (hc _ _ (fL hl (j:=0) (by decide)))
     have x1:=(aT.cell (p:=⟨g,o+(i*2+1),none⟩) hg).trans (hc _ _ (fL hl (j:=1) (by decide)))
     rw[Nat.add_zero] at x0
     rw[←Nat.add_assoc] at x1
     have i0:(0:Int)≤(i:Int):=zH _
     have i1:(i:Int)<(aR.length:Int):=by omega
     have bu:=al aM
     have kn:=aJ wr (.cells #[.string s,.int .i64 n] 74)
     have bn:Below wr.heap.size wr (wr.alloc (.cells #[.string s,.int .i64 n] 74)):=(zE _ _).alloc (zD _) _
     obtain ⟨U,hU⟩:∃U,wr.alloc (.cells #[.string s,.int .i64 n] 74)=U:=⟨_,rfl⟩
     rw[hU] at kn bn
     have y0:U.cell? ⟨wr.heap.size,0,none⟩=some (.string s):=cell_of_row _ _ _ _ _ _ kn
     have y1:U.cell? ⟨wr.heap.size,1,none⟩=some (.int .i64 n):=cell_of_row _ _ _ _ _ _ kn
     have eh:=al ((ab cS).trans (bn.mono (ab cS).size))
     have na:=al ((bn.block _ (zA (ab fI)).1).trans (ab fI))
     obtain ⟨q1,h1⟩:∃q,bD s=q:=⟨_,rfl⟩
     obtain ⟨q2,h2⟩:∃q,(s.toList==[111,112,116,105,111,110])=q:=⟨_,rfl⟩
     obtain ⟨q3,h3⟩:∃q,(s.toList==[114,101,115,101,114,118,101,100])=q:=⟨_,rfl⟩
     have e2:(s.toList==eY.toList)=q2:=by rw[←h2,toList_data eY];rfl
     have e3:(s.toList==dx.toList)=q3:=by rw[←h3,toList_data dx];rfl
     have HWd:=al (gu U s)
     rw[h1] at HV HWd
     rw[e2,e3] at HV
     clear hc hl hs Wl aT aM HA kn bn h1 e2 e3 cS fI
     go_wp2_with fail
     refine (ab HWd).mono ?_
     rintro e w ⟨rfl,rfl⟩
     cases q1 with
     |false =>
      have HX:Hid (R=false):=by show R=_;rw[←ab HS,ab HV];rfl
      clear HS HV
      go_wp2
      go_ret
      exact ⟨by rw[ab HX];rfl,ab eh⟩
     |true =>
     cases q2 with
     |true =>
      have HX:Hid (R=false):=by show R=_;rw[←ab HS,ab HV];rfl
      clear HS HV
      go_wp2
      go_ret
      exact ⟨by rw[ab HX];rfl,ab eh⟩
     |false =>
     cases q3 with
     |true =>
      have HX:Hid (R=false):=by show R=_;rw[←ab HS,ab HV];rfl
      clear HS HV
      go_wp2
      go_ret
      exact ⟨by rw[ab HX];rfl,ab eh⟩
     |false =>
     by_cases n0:n< -2147483648
     ·have f0:decide (n< -2147483648)=true:=decide_eq_true n0
      have HX:Hid (R=false):=by show R=_;rw[←ab HS,ab HV,decide_eq_false (by omega)];rfl
      clear HS HV n0
      go_wp2
      go_ret
      exact ⟨by rw[ab HX];rfl,ab eh⟩
     ·have f0:decide (n< -2147483648)=false:=decide_eq_false n0
      by_cases n1:2147483647<n
      ·have f1:decide (2147483647<n)=true:=decide_eq_true n1
       have HX:Hid (R=false):=by show R=_;rw[←ab HS,ab HV,decide_eq_true (show -2147483648≤n by omega),decide_eq_false (show ¬n≤2147483647 by omega)];rfl
       clear HS HV n0 n1
       go_wp2
       go_ret
       exact ⟨by rw[ab HX];rfl,ab eh⟩
      ·have f1:decide (2147483647<n)=false:=decide_eq_false n1
       have HX:Hid ((aR.drop (i+1)).all eD=R):=by show _=R;rw[←ab HS,ab HV,decide_eq_true (show -2147483648≤n by omega),decide_eq_true (show n≤2147483647 by omega)];rfl
       clear HS HV n0 n1
       go_wp2
       go_roundg (aR.length-(i+1))
       case measure=>have:=ab bz;have:=ab bu;omega
       case rel=>exact ⟨i+1,by go_num,rfl,ab bu,HX,eh,na⟩
    ·obtain rfl:i=aR.length:=by omega
     have HX:Hid (R=true):=by have h:=ab HA;rw[List.drop_length] at h;exact h.symm
     clear HA
     go_wp2
     go_ret
     exact ⟨by rw[ab HX];rfl,ab cS⟩
def fh (l:List Fd) (i:Nat):Int:=match i with
 |0=>0
 |j+1=>match l[j]? with
  |some d=>d.aE
  |none=>0
theorem Ae {W:World}{m:Ms}{vf vo vm ve vr vg:Value}{nm:ByteArray}{fs:List Fd}{os:List ByteArray}{ms:List Ms}{es:List En}{rs:List (Int×Int)}{gs:List ByteArray}{cm ce:List Value} (hV:L0 W m vf vo vm ve vr vg nm fs os ms es rs gs cm ce) (w0:World) (hw:Below W.heap.size W w0) :
  Calls Tryz.prog 98 #[.agg #[.string nm,vf,vo,vm,ve,vr,vg]] w0 fun e w=>e=.returned (.bool (Bs fs os.length))∧Below w0.heap.size w0 w:=by
 obtain ⟨af,cf,rfl,P0,h2⟩:=hV.hf
 obtain ⟨ao,co,rfl,nJ,-⟩:=hV.ho
 obtain ⟨am,dk,rfl,-,-⟩:=hV.hm
 obtain ⟨ae,dc,rfl,-,-⟩:=hV.he
 obtain ⟨ar,cr,rfl,-,-⟩:=hV.hr
 obtain ⟨ag,cg,rfl,-,-⟩:=hV.hg
 obtain ⟨X,hX⟩:∃X,#[Value.string nm,.slice af fs.length cf,.slice ao os.length co,.slice am ms.length dk,.slice ae es.length dc,.slice ar rs.length cr,.slice ag gs.length cg]=X:=⟨_,rfl⟩
 have k0:=aJ w0 (.cells #[.string nm,.slice af fs.length cf,.slice ao os.length co,.slice am ms.length dk,.slice ae es.length dc,.slice ar rs.length cr,.slice ag gs.length cg] 46)
 have bG:Below w0.heap.size w0 (w0.alloc (.cells #[.string nm,.slice af fs.length cf,.slice ao os.length co,.slice am ms.length dk,.slice ae es.length dc,.slice ar rs.length cr,.slice ag gs.length cg] 46)):=(zE _ _).alloc (zD _) _
 obtain ⟨V,fX⟩:∃V,w0.alloc (.cells #[.string nm,.slice af fs.length cf,.slice ao os.length co,.slice am ms.length dk,.slice ae es.length dc,.slice ar rs.length cr,.slice ag gs.length cg] 46)=V:=⟨_,rfl⟩
 rw[fX] at k0 bG
 have c1:V.cell? ⟨w0.heap.size,1,none⟩=some (.slice af fs.length cf):=cell_of_row _ _ _ _ _ _ k0
 have c2:V.cell? ⟨w0.heap.size,2,none⟩=some (.slice ao os.length co):=cell_of_row _ _ _ _ _ _ k0
 obtain ⟨R,hR⟩:∃R,Bs fs os.length=R:=⟨_,rfl⟩
 rw[hR]
 have HR:Hid ((match wU fs 0 0 with|none=>false|some b=>b==(os.length:Int))=R):=by show _=R;rw[←hR];rfl
 have H2:=al h2
 have HW:Hid (Below W.heap.size W V):=hw.trans (bG.mono hw.size)
 have HB:=al bG
 clear h2 hw hR bG k0 hX X hV
 go_enter Tryz.func98,Tryz.ntmps98
 go_wp2
 go_loopg [3,4,5,6] fs.length (fun gk v3 v4 _ _ wr=>∃(i:Nat) (b:Int),v3=.int .i64 b∧v4=.int .i64 (i:Int)∧gk=fs.length-i∧i≤fs.length∧(0≤b∧b≤(i:Int))∧wr=V∧Hid (fh fs i=0∨fh fs i=b)∧Hid ((match wU (fs.drop i) (fh fs i) b with|none=>false|some b=>b==(os.length:Int))=R))
 case atStart=>exact ⟨0,0,rfl,rfl,rfl,by omega,by omega,rfl,.inl rfl,ab HR⟩
 case round =>
  obtain ⟨i,b,rfl,rfl,aW,hi,hb,rfl,HP,HA⟩:=hrel
  have bz:=al aW
  clear aW HR
  by_cases aM:i<fs.length
  ·obtain ⟨g,o,rfl,hg,hc⟩:=ab H2 (by omega)
   have hl:=List.getElem?_eq_getElem aM
   obtain ⟨d,hd⟩:∃d,fs[i]=d:=⟨_,rfl⟩
   rw[hd] at hl
   have Gb:fh fs (i+1)=d.aE:=by unfold fh;simp only;rw[hl]
   obtain ⟨pv,Fb⟩:∃p,fh fs i=p:=⟨_,rfl⟩
   rw[Fb] at HP HA
   have HS:Hid ((match (if d.aE≠0∧d.aE≠pv then (if d.aE≠b+1 then none else wU (fs.drop (i+1)) d.aE (b+1)) else wU (fs.drop (i+1)) d.aE b) with|none=>false|some b=>b==(os.length:Int))=R):=by
    have:=ab HA
    rwa [Au hl] at this
   have x5:=((ab HW).cell (p:=⟨g,o+(i*6+5),none⟩) hg).trans (hc _ _ ((cC hl (j:=5) (by decide)).trans rfl))
   rw[←Nat.add_assoc] at x5
   have Pr:Hid (0<i→wr.cell? ⟨g,o+(i-1)*6+5,none⟩=some (.int .i64 pv)):=by
    intro h0
    obtain ⟨j,rfl⟩:∃j,i=j+1:=⟨i-1,by omega⟩
    have J7:fs[j]?=some fs[j]:=List.getElem?_eq_getElem (by omega)
    have hp:fs[j].aE=pv:=by rw[←Fb];unfold fh;simp only;rw[J7]
    have y5:=((ab HW).cell (p:=⟨g,o+(j*6+5),none⟩) hg).trans (hc _ _ ((cC J7 (j:=5) (by decide)).trans rfl))
    rw[←Nat.add_assoc,hp] at y5
    rw[Nat.add_sub_cancel]
    exact y5
   have Qv:Hid (pv≠0→0<i):=fun h=>by
    rcases Nat.eq_zero_or_pos i with h0|h0
    ·subst h0;exact absurd Fb.symm h
    ·exact h0
   obtain ⟨on,NW⟩:∃x,d.aE=x:=⟨_,rfl⟩
   rw[NW] at HS x5 Gb
   have QA:=al Gb
   have i0:(0:Int)≤(i:Int):=zH _
   have i1:(i:Int)<(fs.length:Int):=by omega
   have bu:=al aM
   have Pe:=al hb
   have b0:0≤b:=hb.1
   have b1:b≤140737488355328:=by omega
   clear hc hl hd aM hb HA Fb Gb NW
   by_cases z:on=0
   ·subst z
    have HX:Hid ((match wU (fs.drop (i+1)) 0 b with|none=>false|some b=>b==(os.length:Int))=R):=by have:=ab HS;rwa [if_neg (fun h=>h.1 rfl)] at this
    clear HS Pr Qv HP
    go_wp2
    go_roundg (fs.length-(i+1))
    case measure=>have:=ab bz;have:=ab bu;omega
    case rel=>exact ⟨i+1,b,rfl,by go_num,rfl,ab bu,by have:=ab Pe;omega,rfl,by show _∨_;rw[ab QA];exact .inl rfl,by show _=R;rw[ab QA];exact ab HX⟩
   ·have e0:(on==0)=false:=beq_eq_false_iff_ne.2 z
    by_cases hh:on=pv
    ·subst hh
     have bd:on=b:=by rcases ab HP with h|h;exact absurd h z;exact h
     have yp:=ab Qv z
     have y5:=ab Pr yp
     obtain ⟨j,hj⟩:∃j:Nat,i-1=j:=⟨_,rfl⟩
     rw[hj] at y5
     have e1:(on==b)=true:=beq_iff_eq.2 bd
     have e2:decide ((0:Int)<(i:Int))=true:=decide_eq_true (by omega)
     have e3:IntKind.i64.wrap ((i:Int)-1)=(j:Int):=by rw[IntKind.wrap_i64];omega
     have e4:wrap64 ((i:Int)-1)=(j:Int):=by unfold wrap64;omega
     have e5:(i:Int)-1=(j:Int):=by omega
     have j0:(0:Int)≤(j:Int):=zH _
     have j1:(j:Int)<(fs.length:Int):=by omega
     have Hbe:=al bd
     have HX:Hid ((match wU (fs.drop (i+1)) on b with|none=>false|some b=>b==(os.length:Int))=R):=by have:=ab HS;rwa [if_neg (fun h=>h.2 rfl)] at this
     have Hj:=al hj
     clear HS Pr Qv HP bd yp hj
     go_wp2
     go_roundg (fs.length-(i+1))
     case measure=>have:=ab bz;have:=ab bu;omega
     case rel=>exact ⟨i+1,b,rfl,by go_num,rfl,ab bu,by have:=ab Pe;omega,rfl,by show _∨_;rw[ab QA];exact .inr (ab Hbe),by show _=R;rw[ab QA];exact ab HX⟩
    ·have iQ:Hid ((match (if on≠b+1 then none else wU (fs.drop (i+1)) on (b+1)) with|none=>false|some b=>b==(os.length:Int))=R):=by have:=ab HS;rwa [if_pos ⟨z,hh⟩] at this
     by_cases bd:on=b
     ·have yp:0<i:=by have:=ab Pe;omega
      have y5:=ab Pr yp
      obtain ⟨j,hj⟩:∃j:Nat,i-1=j:=⟨_,rfl⟩
      rw[hj] at y5
      have e1:(on==b)=true:=beq_iff_eq.2 bd
      have e2:decide ((0:Int)<(i:Int))=true:=decide_eq_true (by omega)
      have e3:IntKind.i64.wrap ((i:Int)-1)=(j:Int):=by rw[IntKind.wrap_i64];omega
      have e4:wrap64 ((i:Int)-1)=(j:Int):=by unfold wrap64;omega
      have e5:(i:Int)-1=(j:Int):=by omega
      have j0:(0:Int)≤(j:Int):=zH _
      have j1:(j:Int)<(fs.length:Int):=by omega
      have e6:(pv==on)=false:=beq_eq_false_iff_ne.2 (fun h=>hh h.symm)
      have e7:(on != b+1)=true:=by simp;omega
      have HX:Hid (R=false):=by show R=_;rw[←ab iQ,if_pos (by omega)]
      have Hj:=al hj
      clear HS iQ Pr Qv HP bd yp hj hh z
      go_wp2
      go_ret
      exact ⟨by rw[ab HX];rfl,ab HB⟩
     ·have e1:(on==b)=false:=beq_eq_false_iff_ne.2 bd
      by_cases hn:on=b+1
      ·have e7:(on != b+1)=false:=by simp;omega
       have HX:Hid ((match wU (fs.drop (i+1)) on on with|none=>false|some b=>b==(os.length:Int))=R):=by have:=ab iQ;rw[if_neg (fun h=>h hn)] at this;rw[←hn] at this;exact this
       have Qx:=al (show 0≤on∧on≤((i+1:Nat):Int) by have:=ab Pe;omega)
       clear HS iQ Pr Qv HP bd hh z hn
       go_wp2
       go_roundg (fs.length-(i+1))
       case measure=>have:=ab bz;have:=ab bu;omega
       case rel=>exact ⟨i+1,on,rfl,by go_num,rfl,ab bu,ab Qx,rfl,by show _∨_;rw[ab QA];exact .inr rfl,by show _=R;rw[ab QA];exact ab HX⟩
      ·have e7:(on != b+1)=true:=by simp;omega
       have HX:Hid (R=false):=by show R=_;rw[←ab iQ,if_pos hn]
       clear HS iQ Pr Qv HP bd hh z hn
       go_wp2
       go_ret
       exact ⟨by rw[ab HX];rfl,ab HB⟩
  ·obtain rfl:i=fs.length:=by omega
   have HX:Hid ((b==(os.length:Int))=R):=by have h:=ab HA;rw[List.drop_length] at h;exact h
   clear HA
   go_wp2
   go_ret
   exact ⟨by rw[←ab HX];rfl,ab HB⟩
end Go.Proofs.YtichhjfjcinjgaaGreatDoor
