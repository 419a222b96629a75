import Derived.Test.YtjophoclfccmcaaGreatDoorM32
set_option maxHeartbeats 2000000
set_option maxRecDepth 100000
namespace Go.Proofs.YtjophoclfccmcaaGreatDoor
open Go.RowKit
attribute [local go_sem ↓] Go.wp_at_zero Go.wp_at_succ
theorem xR (X:ZX):∃y,pQ X=.error y:=by
 cases X with
 |ok s=>exact ⟨_,rfl⟩
 |error y=>exact ⟨_,rfl⟩
theorem BE {y:Int×Int}{t:Tk}{k:Int}{x:ByteArray} (h:PkX (.error y) t) (hk:k≠5):aH t k x=false:=by
 have h1:t.kind=5:=h.1
 unfold aH
 rw[h1,beq_eq_false_iff_ne.2 (Ne.symm hk)]
 rfl
theorem rZ {W:World}{lo b:Nat}{X:ZX} (h:Zd lo W b X) (x:ByteArray):Calls Tryz.prog 38 #[.pointer (some ⟨b,0,none⟩),.string x] W (Zn lo b W (nZ 4 x X)):=by
 have H:=ab h
 go_enter Tryz.func38,Tryz.ntmps38
 go_wp2_with fail
 refine (wX h 4 x).mono ?_
 rintro e w1 ⟨t,rfl,hb,hp⟩
 have hz:=h.up hb
 obtain ⟨q,hq⟩:∃q,aH t 4 x=q:=⟨_,rfl⟩
 rw[hq]
 cases q with
 |true =>
  match X,hp,hz with
  |.error y,hp,_=>rw[BE hp (by decide)] at hq;cases hq
  |.ok s,hp,hz =>
   obtain rfl:t=s.here:=hp
   obtain ⟨i,c1,f1,bF,hi⟩:=hz.next (fun s' e=>by cases e;exact DC hq (by decide))
   obtain ⟨i0,i1⟩:=hi s rfl
   obtain ⟨g1,z1⟩:=bF (i+1) (fun _ _=>rfl)
   have cP:Hid (Zn lo b W (nZ 4 x (.ok s)) (.returned (.tuple #[])) (w1.setCell ⟨b,1,none⟩ (.int .i64 (i+1)))):=by
    refine ⟨rfl,b9 hb g1,?_⟩
    show Zd lo _ b (if aH s.here 4 x=true then .ok s.XK else .error (jZ s))
    rw[hq]
    exact z1
   clear bF hi g1 z1 hz hp hb hq h H
   go_wp2
   go_end0
   exact aa cP
 |false =>
  have HX:Hid (nZ 4 x X=pQ X):=by
   match X,hp with
   |.error y,_=>exact rfl
   |.ok s,hp =>
    obtain rfl:t=s.here:=hp
    show (if aH s.here 4 x=true then _ else _)=_
    rw[hq]
    rfl
  have HB:=ab hb
  have HZ:=ab hz
  clear hz hp hb hq h
  go_wp2_with fail
  refine (mM (aa HZ)).mono ?_
  rintro e w2 ⟨rfl,lv,jg⟩
  obtain ⟨y,hy⟩:=xR X
  rw[hy] at jg
  obtain ⟨i,c1,f1,bF,-⟩:=jg.next (fun s' e=>by cases e)
  have cP:Hid (∀z,Zn lo b W (nZ 4 x X) (.returned (.tuple #[])) (w2.setCell ⟨b,1,none⟩ (.int .i64 z))):=by
   intro z
   obtain ⟨g1,z1⟩:=bF z (fun s' e=>by cases e)
   refine ⟨rfl,(b9 (aa HB) lv).trans g1,?_⟩
   rw[aa HX,hy]
   exact z1
  clear bF lv jg hy HX HB HZ H
  go_wp2
  go_end0
  exact aa cP _
theorem Jw {W:World}{lo b:Nat}{X:ZX} (h:Zd lo W b X) (x:ByteArray):Calls Tryz.prog 65 #[.pointer (some ⟨b,0,none⟩),.string x] W (Zn lo b W (nZ 1 x X)):=by
 have H:=ab h
 go_enter Tryz.func65,Tryz.ntmps65
 go_wp2_with fail
 refine (wX h 1 x).mono ?_
 rintro e w1 ⟨t,rfl,hb,hp⟩
 have hz:=h.up hb
 obtain ⟨q,hq⟩:∃q,aH t 1 x=q:=⟨_,rfl⟩
 rw[hq]
 cases q with
 |true =>
  match X,hp,hz with
  |.error y,hp,_=>rw[BE hp (by decide)] at hq;cases hq
  |.ok s,hp,hz =>
   obtain rfl:t=s.here:=hp
   obtain ⟨i,c1,f1,bF,hi⟩:=hz.next (fun s' e=>by cases e;exact DC hq (by decide))
   obtain ⟨i0,i1⟩:=hi s rfl
   obtain ⟨g1,z1⟩:=bF (i+1) (fun _ _=>rfl)
   have cP:Hid (Zn lo b W (nZ 1 x (.ok s)) (.returned (.tuple #[])) (w1.setCell ⟨b,1,none⟩ (.int .i64 (i+1)))):=by
    refine ⟨rfl,b9 hb g1,?_⟩
    show Zd lo _ b (if aH s.here 1 x=true then .ok s.XK else .error (jZ s))
    rw[hq]
    exact z1
   clear bF hi g1 z1 hz hp hb hq h H
   go_wp2
   go_end0
   exact aa cP
 |false =>
  have HX:Hid (nZ 1 x X=pQ X):=by
   match X,hp with
   |.error y,_=>exact rfl
   |.ok s,hp =>
    obtain rfl:t=s.here:=hp
    show (if aH s.here 1 x=true then _ else _)=_
    rw[hq]
    rfl
  have HB:=ab hb
  have HZ:=ab hz
  clear hz hp hb hq h
  go_wp2_with fail
  refine (mM (aa HZ)).mono ?_
  rintro e w2 ⟨rfl,lv,jg⟩
  obtain ⟨y,hy⟩:=xR X
  rw[hy] at jg
  obtain ⟨i,c1,f1,bF,-⟩:=jg.next (fun s' e=>by cases e)
  have cP:Hid (∀z,Zn lo b W (nZ 1 x X) (.returned (.tuple #[])) (w2.setCell ⟨b,1,none⟩ (.int .i64 z))):=by
   intro z
   obtain ⟨g1,z1⟩:=bF z (fun s' e=>by cases e)
   refine ⟨rfl,(b9 (aa HB) lv).trans g1,?_⟩
   rw[aa HX,hy]
   exact z1
  clear bF lv jg hy HX HB HZ H
  go_wp2
  go_end0
  exact aa cP _
def ZS.more (s:ZS):ZS:={ s with dc:=s.dc+1 }
def Cy (sp:Int):ZX→ZX
 |.ok s=>if 4096≤s.dc then .error (54,sp) else .ok s.more
 |.error y=>.error y
theorem Zd.cnt {lo b:Nat}{W:World}{X:ZX} (h:Zd lo W b X):∃i:Int,W.cell? ⟨b,3,none⟩=some (.int .i64 i)∧W.frozen? ⟨b,3,none⟩=false∧(∀z,(∀s,X=.ok s→z=i+1)→W.grownBy (W.setCell ⟨b,3,none⟩ (.int .i64 z)) (some b)∧Zd lo (W.setCell ⟨b,3,none⟩ (.int .i64 z)) b (X.map ZS.more))∧(∀s,X=.ok s→i=(s.dc:Int)):=by
 obtain ⟨hl,hx⟩:=h
 match X,hx with
 |.ok s,⟨v,L,i,h1,h2,h3,h4,h5⟩ =>
  obtain ⟨⟨c0,c1,c2,c3,c4,c5⟩,hf⟩:=bG h1
  refine ⟨s.dc,c3,hf 3,fun z hz=>?_,fun s' e=>by cases e;rfl⟩
  obtain rfl:=hz s rfl
  obtain ⟨k1,g1⟩:=aC (j:=3) h1 (.int .i64 ((s.dc:Int)+1))
  exact ⟨g1,⟨hl.1,Nat.le_trans hl.2 g1.size⟩,v,L,i,k1,h2.gA hl.2 g1,h3,h4,h5⟩
 |.error y,⟨a,n,c,i,en,ct,h1,h2⟩ =>
  obtain ⟨⟨c0,c1,c2,c3,c4,c5⟩,hf⟩:=bG h1
  refine ⟨ct,c3,hf 3,fun z _=>?_,fun s e=>by cases e⟩
  obtain ⟨k1,g1⟩:=aC (j:=3) h1 (.int .i64 z)
  exact ⟨g1,⟨hl.1,Nat.le_trans hl.2 g1.size⟩,a,n,c,i,en,z,k1,h2⟩
theorem aM {W w:World} (h:Below W.heap.size W w) (r:Option Nat):W.grownBy w r:=⟨h.os,h.tape,h.output,h.size,fun q h1 _=>h.block q h1⟩
theorem C0 {W:World}{lo b:Nat}{X:ZX} (h:Zd lo W b X) (t:Tk):Calls Tryz.prog 70 #[.pointer (some ⟨b,0,none⟩),t.val] W (Zn lo b W (Cy t.spot X)):=by
 obtain ⟨kd,sp,tx⟩:=t
 have hb:=(zE W.heap.size W).alloc (zD _) (.cells #[.int .i64 kd,.int .i64 sp,.string tx] 38)
 have hz:=h.up hb
 have oP:b<W.heap.size:=by have:=h.1;omega
 obtain ⟨i,c3,f3,bF,hi⟩:=h.cnt
 have HB:=ab hb
 have HZ:=ab hz
 unfold Tk.val
 by_cases hq:(4096:Int)≤i
 ·have HX:Hid (∃y,OH 54 sp X=.error y∧Cy sp X=.error y):=by
   match X,hi with
   |.error y,_=>exact ⟨y,rfl,rfl⟩
   |.ok s,hi =>
    refine ⟨(54,sp),rfl,?_⟩
    have:=hi s rfl
    show (if 4096≤s.dc then _ else _)=_
    rw[if_pos (by omega)]
  have e0:decide ((4096:Int)≤i)=true:=by simpa using hq
  clear bF hi hb hz hq h
  go_enter Tryz.func70,Tryz.ntmps70
  go_wp2_with fail
  refine (eA (aa HZ) 54 sp (by decide)).mono ?_
  rintro e w2 ⟨rfl,lv,jg⟩
  obtain ⟨y,YK,BY⟩:=aa HX
  rw[YK] at jg
  obtain ⟨i2,c32,f32,bF,-⟩:=jg.cnt
  have cP:Hid (∀z,Zn lo b W (Cy sp X) (.returned (.tuple #[])) (w2.setCell ⟨b,3,none⟩ (.int .i64 z))):=by
   intro z
   obtain ⟨g1,z1⟩:=bF z (fun s' e=>by cases e)
   refine ⟨rfl,(b9 (aa HB) lv).trans g1,?_⟩
   rw[BY]
   exact z1
  clear bF lv jg YK BY HX HB HZ c3 f3
  go_wp2
  go_end0
  exact aa cP _
 ·have e0:decide ((4096:Int)≤i)=false:=by simpa using hq
  have cP:Hid (∀z,(∀s,X=.ok s→z=i+1)→Zn lo b W (Cy sp X) (.returned (.tuple #[])) ((W.setCell ⟨b,3,none⟩ (.int .i64 z)).alloc (.cells #[.int .i64 kd,.int .i64 sp,.string tx] 38))):=by
   intro z hzz
   obtain ⟨g1,z1⟩:=bF z hzz
   have ha:=(zE (W.setCell ⟨b,3,none⟩ (.int .i64 z)).heap.size (W.setCell ⟨b,3,none⟩ (.int .i64 z))).alloc (zD _) (.cells #[.int .i64 kd,.int .i64 sp,.string tx] 38)
   refine ⟨rfl,g1.trans (aM ha _),?_⟩
   replace z1:=z1.up ha
   match X,hi,z1 with
   |.error y,_,z1=>exact z1
   |.ok s,hi,z1 =>
    have:=hi s rfl
    show Zd lo _ b (if 4096≤s.dc then _ else _)
    rw[if_neg (by omega)]
    exact z1
  match X,hi,cP with
  |.ok s,hi,cP =>
   obtain rfl:=hi s rfl
   have ZB:=ab (aa cP ((s.dc:Int)+1) (fun _ _=>rfl))
   have i1:(s.dc:Int)≤4096:=by omega
   clear bF hi hb hz hq h HB HZ cP
   go_enter Tryz.func70,Tryz.ntmps70
   go_wp2
   go_end0
   exact aa ZB
  |.error y,hi,cP =>
   clear bF hi hb hz hq h HB HZ
   go_enter Tryz.func70,Tryz.ntmps70
   go_wp2
   go_end0
   exact aa cP _ (fun s e=>by cases e)
def CK (x:ByteArray) (l:List ByteArray):Bool:=l.any fun y=>y.toList==x.toList
theorem NK {x:ByteArray}{l:List ByteArray}{i:Nat}{t:ByteArray} (h:l[i]?=some t):CK x (l.drop i)=((t.toList==x.toList) ||CK x (l.drop (i+1))):=by
 obtain ⟨hl,rfl⟩:=zB h
 rw[List.drop_eq_getElem_cons hl]
 rfl
theorem UG {W:World}{v:Value}{l:List ByteArray} (h:sX W v l.length (dV l)) (x:ByteArray):Calls Tryz.prog 69 #[.string x,v] W fun e w=>e=.returned (.bool (CK x l))∧w=W:=by
 obtain ⟨a,c,rfl,hc,h3⟩:=h
 have H3:=ab h3
 clear h3
 unfold maxLen at hc
 go_enter Tryz.func69,Tryz.ntmps69
 go_wp2
 go_loopg [5] l.length (fun gk v5 wr=>∃(i:Nat),v5=.int .i64 (i:Int)∧gk=l.length-i∧i≤l.length∧wr=W∧Hid (CK x (l.drop i)=CK x l))
 case atStart=>exact ⟨0,rfl,rfl,by omega,rfl,rfl⟩
 case round =>
  obtain ⟨i,rfl,dY,hi,rfl,HI⟩:=hrel
  have gF:=ab dY
  clear dY
  by_cases dr:i<l.length
  ·obtain ⟨t,ht⟩:∃t,l[i]?=some t:=⟨_,List.getElem?_eq_getElem dr⟩
   obtain ⟨g,rfl,hg,hx⟩:=aa H3 (by omega)
   have x1:=hx _ _ (Bw l i t ht)
   have i0:(0:Int)≤(i:Int):=zH _
   have i1:(i:Int)<(l.length:Int):=by omega
   have hs:=NK (x:=x) ht
   obtain ⟨q,hq⟩:∃q,(t.toList==x.toList)=q:=⟨_,rfl⟩
   rw[hq] at hs
   have HS:=ab hs
   clear hx ht hs
   cases q with
   |true =>
    go_wp2
    go_ret
    refine ⟨?_,rfl⟩
    rw[←aa HI,aa HS]
    rfl
   |false =>
    go_wp2
    go_roundg (l.length-(i+1))
    case measure=>have:=aa gF;omega
    case rel=>exact ⟨i+1,by go_num,rfl,by omega,rfl,by show _=_;rw[←aa HI,aa HS];rfl⟩
  ·obtain rfl:i=l.length:=by omega
   go_wp2
   go_ret
   refine ⟨?_,rfl⟩
   rw[←aa HI,List.drop_length]
   rfl
def QP (l:List ByteArray):ZX→ZX
 |.ok s=>if s.here.kind=1∧CK s.here.text l=true then .error (52,s.here.spot) else .ok s
 |.error y=>.error y
theorem Bp {W:World}{lo b:Nat}{X:ZX}{v:Value}{l:List ByteArray} (h:Zd lo W b X) (hv:sX W v l.length (dV l)):Calls Tryz.prog 35 #[.pointer (some ⟨b,0,none⟩),v] W (Zn lo b W (QP l X)):=by
 have H:=ab h
 have HV:=ab hv
 obtain ⟨va,vc,rfl,_,_⟩:=hv
 go_enter Tryz.func35,Tryz.ntmps35
 go_wp2_with fail
 refine (kG h).mono ?_
 rintro e w1 ⟨⟨kd,sp,tx⟩,rfl,hb,hp⟩
 have bo:=hb.alloc hb.size (.cells #[.int .i64 kd,.int .i64 sp,.string tx] 38)
 have HB:=ab bo
 have HZ:=ab ((aa H).up bo)
 have HP:=ab hp
 have HO:=ab (UG ((aa HV).up bo) tx)
 unfold Tk.val
 clear hp hb h bo
 by_cases h1:kd=1
 ·obtain rfl:=h1
  go_wp2_with fail
  refine (aa HO).mono ?_
  rintro e w2 ⟨rfl,hw⟩
  subst hw
  obtain ⟨q,hq⟩:∃q,CK tx l=q:=⟨_,rfl⟩
  rw[hq]
  have HQ:=ab hq
  clear hq HO
  cases q with
  |true =>
   go_wp2_with fail
   refine (eA (aa HZ) 52 sp (by decide)).mono ?_
   rintro e w3 ⟨rfl,cO,qD⟩
   have cP:Hid (Zn lo b W (QP l X) (.returned (.tuple #[])) w3):=by
    refine ⟨rfl,b9 (aa HB) cO,?_⟩
    match X,aa HP,qD with
    |.ok s,hp,qD =>
     have e1:s.here=⟨1,sp,tx⟩:=hp.symm
     show Zd lo w3 b (if s.here.kind=1∧CK s.here.text l=true then .error (52,s.here.spot) else .ok s)
     rw[e1,if_pos ⟨rfl,aa HQ⟩]
     exact qD
    |.error y,_,qD=>exact qD
   clear cO qD HZ HP HB H HQ HV
   go_wp2
   go_end0
   exact aa cP
  |false =>
   have cP:Hid (Zn lo b W (QP l X) (.returned (.tuple #[])) (w1.alloc (.cells #[.int .i64 1,.int .i64 sp,.string tx] 38))):=by
    refine ⟨rfl,aM (aa HB) _,?_⟩
    match X,aa HP,aa HZ with
    |.ok s,hp,qD =>
     have e1:s.here=⟨1,sp,tx⟩:=hp.symm
     show Zd lo _ b (if s.here.kind=1∧CK s.here.text l=true then .error (52,s.here.spot) else .ok s)
     rw[e1,if_neg (fun q=>by rw[aa HQ] at q;exact Bool.false_ne_true q.2)]
     exact qD
    |.error y,_,qD=>exact qD
   clear HZ HP HB H HQ HV
   go_wp2
   go_end0
   exact aa cP
 ·have e1:(kd==1)=false:=by simpa using h1
  have cP:Hid (Zn lo b W (QP l X) (.returned (.tuple #[])) (w1.alloc (.cells #[.int .i64 kd,.int .i64 sp,.string tx] 38))):=by
   refine ⟨rfl,aM (aa HB) _,?_⟩
   match X,aa HP,aa HZ with
   |.ok s,hp,qD =>
    have e1:s.here=⟨kd,sp,tx⟩:=hp.symm
    show Zd lo _ b (if s.here.kind=1∧CK s.here.text l=true then .error (52,s.here.spot) else .ok s)
    rw[e1,if_neg (fun q=>h1 q.1)]
    exact qD
   |.error y,_,qD=>exact qD
  clear HZ HP HB H HV HO h1
  go_wp2
  go_end0
  exact aa cP
def isStr (v:Value):Prop:=∃x:ByteArray,v=.string x∧x.size≤140737488355327
def mv:ZX→Except (Int×Int) (ByteArray×ZS)
 |.ok s=>if s.here.kind=1 then (if 255<s.here.text.size then .error (2,s.here.spot) else if fz s.here.text=true then .ok (s.here.text,s.XK) else .error (50,s.here.spot)) else .error (jZ s)
 |.error y=>.error y
theorem jL {w1 w2:World}{b:Nat}{kd sp:Int}{tx:ByteArray} (hg:(w1.alloc (.cells #[.int .i64 kd,.int .i64 sp,.string tx] 38)).grownBy w2 (some b)) (eb:b<w1.heap.size) (j:Nat):w2.cell? ⟨w1.heap.size,j,none⟩=(#[.int .i64 kd,.int .i64 sp,.string tx]:Array Value)[j]?:=by
 rw[World.cell?_of_block (a:=⟨w1.heap.size,j,none⟩) (hg.block w1.heap.size (by rw[zJ];omega) (by simp;omega))]
 exact World.cell?_alloc_at _ _ _ _ rfl
theorem oT (er sp:Int) (y:Int×Int):OH er sp (.error y)=.error y:=rfl
theorem Jy {W:World}{lo b:Nat}{X:ZX} (h:Zd lo W b X) (fP:∀t,PkX X t→t.text.size≤140737488355327):Calls Tryz.prog 71 #[.pointer (some ⟨b,0,none⟩)] W (ZP lo b W Value.string isStr (mv X)):=by
 have H:=ab h
 go_enter Tryz.func71,Tryz.ntmps71
 go_wp2_with fail
 refine (kG h).mono ?_
 rintro e w1 ⟨⟨kd,sp,tx⟩,rfl,hb,hp⟩
 have bo:=hb.alloc hb.size (.cells #[.int .i64 kd,.int .i64 sp,.string tx] 38)
 have HB:=ab bo
 have HZ:=ab ((aa H).up bo)
 have HP:=ab hp
 have HT:Hid (tx.size≤140737488355327):=fP _ hp
 clear fP
 have Qg:=ab ((aa H).up hb)
 have lN:=ab hb
 have oP:b<w1.heap.size:=by have:=h.1;have:=hb.size;omega
 unfold Tk.val
 clear hp hb h bo H
 by_cases h1:kd=1
 ·obtain rfl:=h1
  match X,aa HP,HZ,Qg with
  |.error y,hp,_,_=>exact absurd (show (1:Int)=5 from hp.1) (by decide)
  |.ok s,hp,HZ,Qg =>
   have e1:s.here=⟨1,sp,tx⟩:=hp.symm
   by_cases hs:255<tx.size
   ·have e2:decide ((255:Int)<(tx.size:Int))=true:=by simp;omega
    have HY:Hid (mv (.ok s)=.error (2,sp)):=by show (if _ then _ else _)=_;rw[e1,if_pos rfl,if_pos hs]
    go_wp2_with fail
    refine (eA (aa HZ) 2 sp (by decide)).mono ?_
    rintro e w2 ⟨rfl,hg,hz⟩
    have CT:=jL hg oP
    have HG:=ab hg
    have HE:Hid (Zd lo w2 b (.error (2,sp))):=hz
    clear hg hz e1 hp
    go_wp2_with fail
    refine (l8 w2 tx).mono ?_
    rintro e w3 ⟨rfl,hw⟩
    subst hw
    obtain ⟨q,hq⟩:∃q,fz tx=q:=⟨_,rfl⟩
    rw[hq]
    clear hq
    cases q with
    |true =>
     obtain ⟨i,c1,f1,bF,-⟩:=(aa HE).next (fun s' e=>by cases e)
     have cP:Hid (∀z,ZP lo b W Value.string isStr (mv (.ok s)) (.returned (.string tx)) (w3.setCell ⟨b,1,none⟩ (.int .i64 z))):=by
      intro z
      obtain ⟨g1,z1⟩:=bF z (fun s' e=>by cases e)
      refine ⟨(b9 (aa HB) (aa HG)).trans g1,?_⟩
      rw[aa HY]
      exact ⟨⟨_,rfl,_,rfl,aa HT⟩,z1⟩
     have eb:w1.heap.size≠b:=by omega
     have XY:∀z j,(w3.setCell ⟨b,1,none⟩ z).cell? ⟨w1.heap.size,j,none⟩=(#[.int .i64 1,.int .i64 sp,.string tx]:Array Value)[j]?:=fun z j=>(World.cell?_of_block (a:=⟨w1.heap.size,j,none⟩) (Below.heap_setCell _ _ _ _ (by exact eb))).trans (CT j)
     clear bF HG HE HB HY
     go_wp2
     go_ret
     exact aa cP _
    |false =>
     go_wp2_with fail
     refine (eA (aa HE) 50 sp (by decide)).mono ?_
     rintro e w4 ⟨rfl,hg,hz⟩
     have B3:=(aa HG).trans hg
     have CT:=jL B3 oP
     have HG:=ab B3
     have HE:=ab hz
     rw[oT] at HE
     clear hg hz B3
     obtain ⟨i,c1,f1,bF,-⟩:=(aa HE).next (fun s' e=>by cases e)
     have cP:Hid (∀z,ZP lo b W Value.string isStr (mv (.ok s)) (.returned (.string tx)) (w4.setCell ⟨b,1,none⟩ (.int .i64 z))):=by
      intro z
      obtain ⟨g1,z1⟩:=bF z (fun s' e=>by cases e)
      refine ⟨(b9 (aa HB) (aa HG)).trans g1,?_⟩
      rw[aa HY]
      exact ⟨⟨_,rfl,_,rfl,aa HT⟩,z1⟩
     have eb:w1.heap.size≠b:=by omega
     have XY:∀z j,(w4.setCell ⟨b,1,none⟩ z).cell? ⟨w1.heap.size,j,none⟩=(#[.int .i64 1,.int .i64 sp,.string tx]:Array Value)[j]?:=fun z j=>(World.cell?_of_block (a:=⟨w1.heap.size,j,none⟩) (Below.heap_setCell _ _ _ _ (by exact eb))).trans (CT j)
     clear bF HG HE HB HY
     go_wp2
     go_ret
     exact aa cP _
   ·have e2:decide ((255:Int)<(tx.size:Int))=false:=by simp;omega
    go_wp2_with fail
    refine (l8 _ tx).mono ?_
    rintro e w2 ⟨rfl,hw⟩
    subst hw
    obtain ⟨q,hq⟩:∃q,fz tx=q:=⟨_,rfl⟩
    rw[hq]
    cases q with
    |true =>
     have hz:=aa Qg
     have hY:mv (.ok s)=.ok (tx,s.XK):=by show (if _ then _ else _)=_;rw[e1,if_pos rfl,if_neg hs,if_pos hq]
     have hk:0<s.ts.length:=by
      cases hl:s.ts with
      |nil=>unfold ZS.here at e1;rw[hl] at e1;cases e1
      |cons a r=>simp
     obtain ⟨i,c1,f1,bF,hi⟩:=hz.next (fun s' e=>by cases e;exact hk)
     obtain ⟨i0,i1⟩:=hi s rfl
     obtain ⟨g1,z1⟩:=bF (i+1) (fun _ _=>rfl)
     have cP:Hid (ZP lo b W Value.string isStr (mv (.ok s)) (.returned (.string tx)) ((w1.setCell ⟨b,1,none⟩ (.int .i64 (i+1))).alloc (.cells #[.int .i64 1,.int .i64 sp,.string tx] 38))):=by
      have ha:=(zE (w1.setCell ⟨b,1,none⟩ (.int .i64 (i+1))).heap.size (w1.setCell ⟨b,1,none⟩ (.int .i64 (i+1)))).alloc (zD _) (.cells #[.int .i64 1,.int .i64 sp,.string tx] 38)
      refine ⟨b9 (aa lN) (g1.trans (aM ha _)),?_⟩
      rw[hY]
      exact ⟨rfl,z1.up ha⟩
     have eb:w1.heap.size≠b:=by omega
     clear bF hi g1 z1 hz hY hk e1 hp hq HB HZ HP
     go_wp2
     go_ret
     exact aa cP
    |false =>
     have HY:Hid (mv (.ok s)=.error (50,sp)):=by show (if _ then _ else _)=_;rw[e1,if_pos rfl,if_neg hs,if_neg (by rw[hq];decide)]
     go_wp2_with fail
     refine (eA (aa HZ) 50 sp (by decide)).mono ?_
     rintro e w3 ⟨rfl,hg,hz⟩
     have CT:=jL hg oP
     have HG:=ab hg
     have HE:Hid (Zd lo w3 b (.error (50,sp))):=hz
     clear hg hz e1 hp hq
     obtain ⟨i,c1,f1,bF,-⟩:=(aa HE).next (fun s' e=>by cases e)
     have cP:Hid (∀z,ZP lo b W Value.string isStr (mv (.ok s)) (.returned (.string tx)) (w3.setCell ⟨b,1,none⟩ (.int .i64 z))):=by
      intro z
      obtain ⟨g1,z1⟩:=bF z (fun s' e=>by cases e)
      refine ⟨(b9 (aa HB) (aa HG)).trans g1,?_⟩
      rw[aa HY]
      exact ⟨⟨_,rfl,_,rfl,aa HT⟩,z1⟩
     have eb:w1.heap.size≠b:=by omega
     have XY:∀z j,(w3.setCell ⟨b,1,none⟩ z).cell? ⟨w1.heap.size,j,none⟩=(#[.int .i64 1,.int .i64 sp,.string tx]:Array Value)[j]?:=fun z j=>(World.cell?_of_block (a:=⟨w1.heap.size,j,none⟩) (Below.heap_setCell _ _ _ _ (by exact eb))).trans (CT j)
     clear bF HG HE HB HY
     go_wp2
     go_ret
     exact aa cP _
 ·have e1:(kd != 1)=true:=by simpa using h1
  have HYX:Hid (∃y,pQ X=.error y∧mv X=.error y):=by
   match X,aa HP with
   |.error y,_=>exact ⟨y,rfl,rfl⟩
   |.ok s,hp =>
    have e1:s.here=⟨kd,sp,tx⟩:=hp.symm
    exact ⟨jZ s,rfl,by show (if _ then _ else _)=_;rw[e1,if_neg h1]⟩
  go_wp2_with fail
  refine (mM (aa HZ)).mono ?_
  rintro e w2 ⟨rfl,hg,hz⟩
  obtain ⟨y,YK,BY⟩:=aa HYX
  rw[YK] at hz
  have CT:=jL hg oP
  have HG:=ab hg
  have HE:=ab hz
  have HY:=ab BY
  clear hg hz YK BY HYX HP
  by_cases hs:255<tx.size
  ·have e2:decide ((255:Int)<(tx.size:Int))=true:=by simp;omega
   go_wp2_with fail
   refine (eA (aa HE) 2 sp (by decide)).mono ?_
   rintro e w3 ⟨rfl,hg,hz⟩
   have B3:=(aa HG).trans hg
   have CT:=jL B3 oP
   have HG:=ab B3
   have HE:=ab hz
   rw[oT] at HE
   clear hg hz B3
   go_wp2_with fail
   refine (l8 w3 tx).mono ?_
   rintro e w4 ⟨rfl,hw⟩
   subst hw
   obtain ⟨q,hq⟩:∃q,fz tx=q:=⟨_,rfl⟩
   rw[hq]
   clear hq
   cases q with
   |true =>
    obtain ⟨i,c1,f1,bF,-⟩:=(aa HE).next (fun s' e=>by cases e)
    have cP:Hid (∀z,ZP lo b W Value.string isStr (mv X) (.returned (.string tx)) (w4.setCell ⟨b,1,none⟩ (.int .i64 z))):=by
     intro z
     obtain ⟨g1,z1⟩:=bF z (fun s' e=>by cases e)
     refine ⟨(b9 (aa HB) (aa HG)).trans g1,?_⟩
     rw[aa HY]
     exact ⟨⟨_,rfl,_,rfl,aa HT⟩,z1⟩
    have eb:w1.heap.size≠b:=by omega
    have XY:∀z j,(w4.setCell ⟨b,1,none⟩ z).cell? ⟨w1.heap.size,j,none⟩=(#[.int .i64 kd,.int .i64 sp,.string tx]:Array Value)[j]?:=fun z j=>(World.cell?_of_block (a:=⟨w1.heap.size,j,none⟩) (Below.heap_setCell _ _ _ _ (by exact eb))).trans (CT j)
    clear bF HG HE HB HY
    go_wp2
    go_ret
    exact aa cP _
   |false =>
    go_wp2_with fail
    refine (eA (aa HE) 50 sp (by decide)).mono ?_
    rintro e w5 ⟨rfl,hg,hz⟩
    have B3:=(aa HG).trans hg
    have CT:=jL B3 oP
    have HG:=ab B3
    have HE:=ab hz
    rw[oT] at HE
    clear hg hz B3
    obtain ⟨i,c1,f1,bF,-⟩:=(aa HE).next (fun s' e=>by cases e)
    have cP:Hid (∀z,ZP lo b W Value.string isStr (mv X) (.returned (.string tx)) (w5.setCell ⟨b,1,none⟩ (.int .i64 z))):=by
     intro z
     obtain ⟨g1,z1⟩:=bF z (fun s' e=>by cases e)
     refine ⟨(b9 (aa HB) (aa HG)).trans g1,?_⟩
     rw[aa HY]
     exact ⟨⟨_,rfl,_,rfl,aa HT⟩,z1⟩
    have eb:w1.heap.size≠b:=by omega
    have XY:∀z j,(w5.setCell ⟨b,1,none⟩ z).cell? ⟨w1.heap.size,j,none⟩=(#[.int .i64 kd,.int .i64 sp,.string tx]:Array Value)[j]?:=fun z j=>(World.cell?_of_block (a:=⟨w1.heap.size,j,none⟩) (Below.heap_setCell _ _ _ _ (by exact eb))).trans (CT j)
    clear bF HG HE HB HY
    go_wp2
    go_ret
    exact aa cP _
  ·have e2:decide ((255:Int)<(tx.size:Int))=false:=by simp;omega
   go_wp2_with fail
   refine (l8 w2 tx).mono ?_
   rintro e w3 ⟨rfl,hw⟩
   subst hw
   obtain ⟨q,hq⟩:∃q,fz tx=q:=⟨_,rfl⟩
   rw[hq]
   clear hq
   cases q with
   |true =>
    obtain ⟨i,c1,f1,bF,-⟩:=(aa HE).next (fun s' e=>by cases e)
    have cP:Hid (∀z,ZP lo b W Value.string isStr (mv X) (.returned (.string tx)) (w3.setCell ⟨b,1,none⟩ (.int .i64 z))):=by
     intro z
     obtain ⟨g1,z1⟩:=bF z (fun s' e=>by cases e)
     refine ⟨(b9 (aa HB) (aa HG)).trans g1,?_⟩
     rw[aa HY]
     exact ⟨⟨_,rfl,_,rfl,aa HT⟩,z1⟩
    have eb:w1.heap.size≠b:=by omega
    have XY:∀z j,(w3.setCell ⟨b,1,none⟩ z).cell? ⟨w1.heap.size,j,none⟩=(#[.int .i64 kd,.int .i64 sp,.string tx]:Array Value)[j]?:=fun z j=>(World.cell?_of_block (a:=⟨w1.heap.size,j,none⟩) (Below.heap_setCell _ _ _ _ (by exact eb))).trans (CT j)
    clear bF HG HE HB HY
    go_wp2
    go_ret
    exact aa cP _
   |false =>
    go_wp2_with fail
    refine (eA (aa HE) 50 sp (by decide)).mono ?_
    rintro e w4 ⟨rfl,hg,hz⟩
    have B3:=(aa HG).trans hg
    have CT:=jL B3 oP
    have HG:=ab B3
    have HE:=ab hz
    rw[oT] at HE
    clear hg hz B3
    obtain ⟨i,c1,f1,bF,-⟩:=(aa HE).next (fun s' e=>by cases e)
    have cP:Hid (∀z,ZP lo b W Value.string isStr (mv X) (.returned (.string tx)) (w4.setCell ⟨b,1,none⟩ (.int .i64 z))):=by
     intro z
     obtain ⟨g1,z1⟩:=bF z (fun s' e=>by cases e)
     refine ⟨(b9 (aa HB) (aa HG)).trans g1,?_⟩
     rw[aa HY]
     exact ⟨⟨_,rfl,_,rfl,aa HT⟩,z1⟩
    have eb:w1.heap.size≠b:=by omega
    have XY:∀z j,(w4.setCell ⟨b,1,none⟩ z).cell? ⟨w1.heap.size,j,none⟩=(#[.int .i64 kd,.int .i64 sp,.string tx]:Array Value)[j]?:=fun z j=>(World.cell?_of_block (a:=⟨w1.heap.size,j,none⟩) (Below.heap_setCell _ _ _ _ (by exact eb))).trans (CT j)
    clear bF HG HE HB HY
    go_wp2
    go_ret
    exact aa cP _
def ON:ZX→ZX
 |.ok s=>if aH s.here 4 ⟨#[91]⟩=true then .error (52,s.here.spot) else nZ 4 ⟨#[59]⟩ (.ok s)
 |.error y=>.error y
theorem JB {W:World}{lo b:Nat}{X:ZX} (h:Zd lo W b X):Calls Tryz.prog 75 #[.pointer (some ⟨b,0,none⟩)] W (Zn lo b W (ON X)):=by
 have H:=ab h
 go_enter Tryz.func75,Tryz.ntmps75
 go_wp2_with fail
 refine (kG h).mono ?_
 rintro e w1 ⟨⟨kd,sp,tx⟩,rfl,hb,hp⟩
 have bo:=hb.alloc hb.size (.cells #[.int .i64 kd,.int .i64 sp,.string tx] 38)
 have HB:=ab bo
 have HZ:=ab ((aa H).up bo)
 have HP:=ab hp
 have oP:b<w1.heap.size:=by have:=h.1;have:=hb.size;omega
 unfold Tk.val
 clear hp hb h bo H
 go_wp2_with fail
 refine (wX (aa HZ) 4 ⟨#[91]⟩).mono ?_
 rintro e w2 ⟨t,rfl,qG,P4⟩
 have CO:=ab ((aa HZ).up qG)
 have CT:=jL (aM qG (some b)) oP
 have iJ:=ab ((aa HB).trans (qG.mono (aa HB).size))
 have HP3:=ab P4
 obtain ⟨q,hq⟩:∃q,aH t 4 ⟨#[91]⟩=q:=⟨_,rfl⟩
 rw[hq]
 have HQ:=ab hq
 clear qG P4 hq HZ HB
 cases q with
 |true =>
  go_wp2_with fail
  refine (eA (aa CO) 52 sp (by decide)).mono ?_
  rintro e w3 ⟨rfl,cO,qD⟩
  have xP:=ab (b9 (aa iJ) cO)
  have Wn:=ab qD
  clear cO qD CT
  go_wp2_with fail
  refine (rZ (aa Wn) ⟨#[59]⟩).mono ?_
  rintro e w4 ⟨rfl,kZ,Ku⟩
  have cP:Hid (Zn lo b W (ON X) (.returned (.tuple #[])) w4):=by
   refine ⟨rfl,(aa xP).trans kZ,?_⟩
   match X,aa HP,aa HP3,Ku with
   |.ok s,hp,P4,Ku =>
    have e1:s.here=⟨kd,sp,tx⟩:=hp.symm
    obtain rfl:t=s.here:=P4
    show Zd lo w4 b (if aH s.here 4 ⟨#[91]⟩=true then .error (52,s.here.spot) else nZ 4 ⟨#[59]⟩ (.ok s))
    rw[if_pos (aa HQ),e1]
    exact Ku
   |.error y,_,_,Ku=>exact Ku
  clear kZ Ku xP Wn CO HP HP3 HQ iJ
  go_wp2
  go_end0
  exact aa cP
 |false =>
  go_wp2_with fail
  refine (rZ (aa CO) ⟨#[59]⟩).mono ?_
  rintro e w4 ⟨rfl,kZ,Ku⟩
  have cP:Hid (Zn lo b W (ON X) (.returned (.tuple #[])) w4):=by
   refine ⟨rfl,b9 (aa iJ) kZ,?_⟩
   match X,aa HP3,Ku with
   |.ok s,P4,Ku =>
    obtain rfl:t=s.here:=P4
    show Zd lo w4 b (if aH s.here 4 ⟨#[91]⟩=true then .error (52,s.here.spot) else nZ 4 ⟨#[59]⟩ (.ok s))
    rw[if_neg (by rw[aa HQ];decide)]
    exact Ku
   |.error y,_,Ku=>exact Ku
  clear kZ Ku CO HP HP3 HQ iJ CT
  go_wp2
  go_end0
  exact aa cP
end Go.Proofs.YtjophoclfccmcaaGreatDoor
