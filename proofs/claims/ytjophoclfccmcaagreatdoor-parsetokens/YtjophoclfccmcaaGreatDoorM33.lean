import Derived.Test.YtjophoclfccmcaaGreatDoorM32
set_option maxHeartbeats 2000000
set_option maxRecDepth 100000
namespace Go.Proofs.YtjophoclfccmcaaGreatDoor
open Go.RowKit
attribute [local go_sem ↓] Go.wp_at_zero Go.wp_at_succ
theorem xO (X:ZX):∃y,pW X=.error y:=by
 cases X with
 |ok s=>exact ⟨_,rfl⟩
 |error y=>exact ⟨_,rfl⟩
theorem Bt {y:Int×Int}{t:Tk}{k:Int}{x:ByteArray} (h:PkX (.error y) t) (hk:k≠5):aJ t k x=false:=by
 have h1:t.kind=5:=h.1
 unfold aJ
 rw[h1,beq_eq_false_iff_ne.2 (Ne.symm hk)]
 rfl
theorem sh {W:World}{lo b:Nat}{X:ZX} (h:Zd lo W b X) (x:ByteArray):Calls Tryz.prog 38 #[.pointer (some ⟨b,0,none⟩),.string x] W (Zn lo b W (oe 4 x X)):=by
 have H:=ab h
 go_enter Tryz.func38,Tryz.ntmps38
 go_wp2_with fail
 refine (xa h 4 x).mono ?_
 rintro e w1 ⟨t,rfl,hb,hp⟩
 have hz:=h.up hb
 obtain ⟨q,hq⟩:∃q,aJ t 4 x=q:=⟨_,rfl⟩
 rw[hq]
 cases q with
 |true =>
  match X,hp,hz with
  |.error y,hp,_=>rw[Bt hp (by decide)] at hq;cases hq
  |.ok s,hp,hz =>
   obtain rfl:t=s.here:=hp
   obtain ⟨i,c1,f1,bD,hi⟩:=hz.next (fun s' e=>by cases e;exact Dw hq (by decide))
   obtain ⟨i0,i1⟩:=hi s rfl
   obtain ⟨g1,z1⟩:=bD (i+1) (fun _ _=>rfl)
   have dg:Hid (Zn lo b W (oe 4 x (.ok s)) (.returned (.tuple #[])) (w1.setCell ⟨b,1,none⟩ (.int .i64 (i+1)))):=by
    refine ⟨rfl,b9 hb g1,?_⟩
    show Zd lo _ b (if aJ s.here 4 x=true then .ok s.XX else .error (jW s))
    rw[hq]
    exact z1
   clear bD hi g1 z1 hz hp hb hq h H
   go_wp2
   go_end0
   exact aa dg
 |false =>
  have HX:Hid (oe 4 x X=pW X):=by
   match X,hp with
   |.error y,_=>exact rfl
   |.ok s,hp =>
    obtain rfl:t=s.here:=hp
    show (if aJ s.here 4 x=true then _ else _)=_
    rw[hq]
    rfl
  have HB:=ab hb
  have HZ:=ab hz
  clear hz hp hb hq h
  go_wp2_with fail
  refine (mQ (aa HZ)).mono ?_
  rintro e w2 ⟨rfl,lz,jK⟩
  obtain ⟨y,hy⟩:=xO X
  rw[hy] at jK
  obtain ⟨i,c1,f1,bD,-⟩:=jK.next (fun s' e=>by cases e)
  have dg:Hid (∀z,Zn lo b W (oe 4 x X) (.returned (.tuple #[])) (w2.setCell ⟨b,1,none⟩ (.int .i64 z))):=by
   intro z
   obtain ⟨g1,z1⟩:=bD z (fun s' e=>by cases e)
   refine ⟨rfl,(b9 (aa HB) lz).trans g1,?_⟩
   rw[aa HX,hy]
   exact z1
  clear bD lz jK hy HX HB HZ H
  go_wp2
  go_end0
  exact aa dg _
theorem Jt {W:World}{lo b:Nat}{X:ZX} (h:Zd lo W b X) (x:ByteArray):Calls Tryz.prog 65 #[.pointer (some ⟨b,0,none⟩),.string x] W (Zn lo b W (oe 1 x X)):=by
 have H:=ab h
 go_enter Tryz.func65,Tryz.ntmps65
 go_wp2_with fail
 refine (xa h 1 x).mono ?_
 rintro e w1 ⟨t,rfl,hb,hp⟩
 have hz:=h.up hb
 obtain ⟨q,hq⟩:∃q,aJ t 1 x=q:=⟨_,rfl⟩
 rw[hq]
 cases q with
 |true =>
  match X,hp,hz with
  |.error y,hp,_=>rw[Bt hp (by decide)] at hq;cases hq
  |.ok s,hp,hz =>
   obtain rfl:t=s.here:=hp
   obtain ⟨i,c1,f1,bD,hi⟩:=hz.next (fun s' e=>by cases e;exact Dw hq (by decide))
   obtain ⟨i0,i1⟩:=hi s rfl
   obtain ⟨g1,z1⟩:=bD (i+1) (fun _ _=>rfl)
   have dg:Hid (Zn lo b W (oe 1 x (.ok s)) (.returned (.tuple #[])) (w1.setCell ⟨b,1,none⟩ (.int .i64 (i+1)))):=by
    refine ⟨rfl,b9 hb g1,?_⟩
    show Zd lo _ b (if aJ s.here 1 x=true then .ok s.XX else .error (jW s))
    rw[hq]
    exact z1
   clear bD hi g1 z1 hz hp hb hq h H
   go_wp2
   go_end0
   exact aa dg
 |false =>
  have HX:Hid (oe 1 x X=pW X):=by
   match X,hp with
   |.error y,_=>exact rfl
   |.ok s,hp =>
    obtain rfl:t=s.here:=hp
    show (if aJ s.here 1 x=true then _ else _)=_
    rw[hq]
    rfl
  have HB:=ab hb
  have HZ:=ab hz
  clear hz hp hb hq h
  go_wp2_with fail
  refine (mQ (aa HZ)).mono ?_
  rintro e w2 ⟨rfl,lz,jK⟩
  obtain ⟨y,hy⟩:=xO X
  rw[hy] at jK
  obtain ⟨i,c1,f1,bD,-⟩:=jK.next (fun s' e=>by cases e)
  have dg:Hid (∀z,Zn lo b W (oe 1 x X) (.returned (.tuple #[])) (w2.setCell ⟨b,1,none⟩ (.int .i64 z))):=by
   intro z
   obtain ⟨g1,z1⟩:=bD z (fun s' e=>by cases e)
   refine ⟨rfl,(b9 (aa HB) lz).trans g1,?_⟩
   rw[aa HX,hy]
   exact z1
  clear bD lz jK hy HX HB HZ H
  go_wp2
  go_end0
  exact aa dg _
def ZS.more (s:ZS):ZS:={ s with dc:=s.dc+1 }
def Cs (sp:Int):ZX→ZX
 |.ok s=>if 4096≤s.dc then .error (54,sp) else .ok s.more
 |.error y=>.error y
theorem Zd.cnt {lo b:Nat}{W:World}{X:ZX} (h:Zd lo W b X):∃i:Int,W.cell? ⟨b,3,none⟩=some (.int .i64 i)∧W.frozen? ⟨b,3,none⟩=false∧(∀z,(∀s,X=.ok s→z=i+1)→W.grownBy (W.setCell ⟨b,3,none⟩ (.int .i64 z)) (some b)∧Zd lo (W.setCell ⟨b,3,none⟩ (.int .i64 z)) b (X.map ZS.more))∧(∀s,X=.ok s→i=(s.dc:Int)):=by
 obtain ⟨hl,hx⟩:=h
 match X,hx with
 |.ok s,⟨v,L,i,h1,h2,h3,h4,h5⟩ =>
  obtain ⟨⟨c0,c1,c2,c3,c4,c5⟩,hf⟩:=bE h1
  refine ⟨s.dc,c3,hf 3,fun z hz=>?_,fun s' e=>by cases e;rfl⟩
  obtain rfl:=hz s rfl
  obtain ⟨k1,g1⟩:=aC (j:=3) h1 (.int .i64 ((s.dc:Int)+1))
  exact ⟨g1,⟨hl.1,Nat.le_trans hl.2 g1.size⟩,v,L,i,k1,h2.gu hl.2 g1,h3,h4,h5⟩
 |.error y,⟨a,n,c,i,en,ct,h1,h2⟩ =>
  obtain ⟨⟨c0,c1,c2,c3,c4,c5⟩,hf⟩:=bE h1
  refine ⟨ct,c3,hf 3,fun z _=>?_,fun s e=>by cases e⟩
  obtain ⟨k1,g1⟩:=aC (j:=3) h1 (.int .i64 z)
  exact ⟨g1,⟨hl.1,Nat.le_trans hl.2 g1.size⟩,a,n,c,i,en,z,k1,h2⟩
theorem aO {W w:World} (h:Below W.heap.size W w) (r:Option Nat):W.grownBy w r:=⟨h.os,h.tape,h.output,h.size,fun q h1 _=>h.block q h1⟩
theorem CU {W:World}{lo b:Nat}{X:ZX} (h:Zd lo W b X) (t:Tk):Calls Tryz.prog 70 #[.pointer (some ⟨b,0,none⟩),t.val] W (Zn lo b W (Cs t.spot X)):=by
 obtain ⟨kd,sp,tx⟩:=t
 have hb:=(zE W.heap.size W).alloc (zD _) (.cells #[.int .i64 kd,.int .i64 sp,.string tx] 38)
 have hz:=h.up hb
 have yO:b<W.heap.size:=by have:=h.1;omega
 obtain ⟨i,c3,f3,bD,hi⟩:=h.cnt
 have HB:=ab hb
 have HZ:=ab hz
 unfold Tk.val
 by_cases hq:(4096:Int)≤i
 ·have HX:Hid (∃y,OR 54 sp X=.error y∧Cs sp X=.error y):=by
   match X,hi with
   |.error y,_=>exact ⟨y,rfl,rfl⟩
   |.ok s,hi =>
    refine ⟨(54,sp),rfl,?_⟩
    have:=hi s rfl
    show (if 4096≤s.dc then _ else _)=_
    rw[if_pos (by omega)]
  have e0:decide ((4096:Int)≤i)=true:=by simpa using hq
  clear bD hi hb hz hq h
  go_enter Tryz.func70,Tryz.ntmps70
  go_wp2_with fail
  refine (ep (aa HZ) 54 sp (by decide)).mono ?_
  rintro e w2 ⟨rfl,lz,jK⟩
  obtain ⟨y,Y1,BR⟩:=aa HX
  rw[Y1] at jK
  obtain ⟨i2,c32,f32,bD,-⟩:=jK.cnt
  have dg:Hid (∀z,Zn lo b W (Cs sp X) (.returned (.tuple #[])) (w2.setCell ⟨b,3,none⟩ (.int .i64 z))):=by
   intro z
   obtain ⟨g1,z1⟩:=bD z (fun s' e=>by cases e)
   refine ⟨rfl,(b9 (aa HB) lz).trans g1,?_⟩
   rw[BR]
   exact z1
  clear bD lz jK Y1 BR HX HB HZ c3 f3
  go_wp2
  go_end0
  exact aa dg _
 ·have e0:decide ((4096:Int)≤i)=false:=by simpa using hq
  have dg:Hid (∀z,(∀s,X=.ok s→z=i+1)→Zn lo b W (Cs sp X) (.returned (.tuple #[])) ((W.setCell ⟨b,3,none⟩ (.int .i64 z)).alloc (.cells #[.int .i64 kd,.int .i64 sp,.string tx] 38))):=by
   intro z hzz
   obtain ⟨g1,z1⟩:=bD z hzz
   have ha:=(zE (W.setCell ⟨b,3,none⟩ (.int .i64 z)).heap.size (W.setCell ⟨b,3,none⟩ (.int .i64 z))).alloc (zD _) (.cells #[.int .i64 kd,.int .i64 sp,.string tx] 38)
   refine ⟨rfl,g1.trans (aO ha _),?_⟩
   replace z1:=z1.up ha
   match X,hi,z1 with
   |.error y,_,z1=>exact z1
   |.ok s,hi,z1 =>
    have:=hi s rfl
    show Zd lo _ b (if 4096≤s.dc then _ else _)
    rw[if_neg (by omega)]
    exact z1
  match X,hi,dg with
  |.ok s,hi,dg =>
   obtain rfl:=hi s rfl
   have ZU:=ab (aa dg ((s.dc:Int)+1) (fun _ _=>rfl))
   have i1:(s.dc:Int)≤4096:=by omega
   clear bD hi hb hz hq h HB HZ dg
   go_enter Tryz.func70,Tryz.ntmps70
   go_wp2
   go_end0
   exact aa ZU
  |.error y,hi,dg =>
   clear bD hi hb hz hq h HB HZ
   go_enter Tryz.func70,Tryz.ntmps70
   go_wp2
   go_end0
   exact aa dg _ (fun s e=>by cases e)
def CF (x:ByteArray) (l:List ByteArray):Bool:=l.any fun y=>y.toList==x.toList
theorem NU {x:ByteArray}{l:List ByteArray}{i:Nat}{t:ByteArray} (h:l[i]?=some t):CF x (l.drop i)=((t.toList==x.toList) ||CF x (l.drop (i+1))):=by
 obtain ⟨hl,rfl⟩:=zB h
 rw[List.drop_eq_getElem_cons hl]
 rfl
theorem US {W:World}{v:Value}{l:List ByteArray} (h:tc W v l.length (dR l)) (x:ByteArray):Calls Tryz.prog 69 #[.string x,v] W fun e w=>e=.returned (.bool (CF x l))∧w=W:=by
 obtain ⟨a,c,rfl,hc,h3⟩:=h
 have H3:=ab h3
 clear h3
 unfold maxLen at hc
 go_enter Tryz.func69,Tryz.ntmps69
 go_wp2
 go_loopg [5] l.length (fun gk v5 wr=>∃(i:Nat),v5=.int .i64 (i:Int)∧gk=l.length-i∧i≤l.length∧wr=W∧Hid (CF x (l.drop i)=CF x l))
 case atStart=>exact ⟨0,rfl,rfl,by omega,rfl,rfl⟩
 case round =>
  obtain ⟨i,rfl,eG,hi,rfl,HI⟩:=hrel
  have jw:=ab eG
  clear eG
  by_cases dB:i<l.length
  ·obtain ⟨t,ht⟩:∃t,l[i]?=some t:=⟨_,List.getElem?_eq_getElem dB⟩
   obtain ⟨g,rfl,hg,hx⟩:=aa H3 (by omega)
   have x1:=hx _ _ (Bl l i t ht)
   have i0:(0:Int)≤(i:Int):=zH _
   have i1:(i:Int)<(l.length:Int):=by omega
   have hs:=NU (x:=x) ht
   obtain ⟨q,hq⟩:∃q,(t.toList==x.toList)=q:=⟨_,rfl⟩
   rw[hq] at hs
   have HS:=ab hs
   clear hx ht hs
   cases q with
   |true =>
    go_wp2
    go_ret
    refine ⟨?_,rfl⟩
    rw[←aa HI,aa HS]
    rfl
   |false =>
    go_wp2
    go_roundg (l.length-(i+1))
    case measure=>have:=aa jw;omega
    case rel=>exact ⟨i+1,by go_num,rfl,by omega,rfl,by show _=_;rw[←aa HI,aa HS];rfl⟩
  ·obtain rfl:i=l.length:=by omega
   go_wp2
   go_ret
   refine ⟨?_,rfl⟩
   rw[←aa HI,List.drop_length]
   rfl
def Q7 (l:List ByteArray):ZX→ZX
 |.ok s=>if s.here.kind=1∧CF s.here.text l=true then .error (52,s.here.spot) else .ok s
 |.error y=>.error y
theorem Bf {W:World}{lo b:Nat}{X:ZX}{v:Value}{l:List ByteArray} (h:Zd lo W b X) (hv:tc W v l.length (dR l)):Calls Tryz.prog 35 #[.pointer (some ⟨b,0,none⟩),v] W (Zn lo b W (Q7 l X)):=by
 have H:=ab h
 have HV:=ab hv
 obtain ⟨va,vc,rfl,_,_⟩:=hv
 go_enter Tryz.func35,Tryz.ntmps35
 go_wp2_with fail
 refine (kH h).mono ?_
 rintro e w1 ⟨⟨kd,sp,tx⟩,rfl,hb,hp⟩
 have br:=hb.alloc hb.size (.cells #[.int .i64 kd,.int .i64 sp,.string tx] 38)
 have HB:=ab br
 have HZ:=ab ((aa H).up br)
 have HP:=ab hp
 have HO:=ab (US ((aa HV).up br) tx)
 unfold Tk.val
 clear hp hb h br
 by_cases h1:kd=1
 ·obtain rfl:=h1
  go_wp2_with fail
  refine (aa HO).mono ?_
  rintro e w2 ⟨rfl,hw⟩
  subst hw
  obtain ⟨q,hq⟩:∃q,CF tx l=q:=⟨_,rfl⟩
  rw[hq]
  have HQ:=ab hq
  clear hq HO
  cases q with
  |true =>
   go_wp2_with fail
   refine (ep (aa HZ) 52 sp (by decide)).mono ?_
   rintro e w3 ⟨rfl,cN,qH⟩
   have dg:Hid (Zn lo b W (Q7 l X) (.returned (.tuple #[])) w3):=by
    refine ⟨rfl,b9 (aa HB) cN,?_⟩
    match X,aa HP,qH with
    |.ok s,hp,qH =>
     have e1:s.here=⟨1,sp,tx⟩:=hp.symm
     show Zd lo w3 b (if s.here.kind=1∧CF s.here.text l=true then .error (52,s.here.spot) else .ok s)
     rw[e1,if_pos ⟨rfl,aa HQ⟩]
     exact qH
    |.error y,_,qH=>exact qH
   clear cN qH HZ HP HB H HQ HV
   go_wp2
   go_end0
   exact aa dg
  |false =>
   have dg:Hid (Zn lo b W (Q7 l X) (.returned (.tuple #[])) (w1.alloc (.cells #[.int .i64 1,.int .i64 sp,.string tx] 38))):=by
    refine ⟨rfl,aO (aa HB) _,?_⟩
    match X,aa HP,aa HZ with
    |.ok s,hp,qH =>
     have e1:s.here=⟨1,sp,tx⟩:=hp.symm
     show Zd lo _ b (if s.here.kind=1∧CF s.here.text l=true then .error (52,s.here.spot) else .ok s)
     rw[e1,if_neg (fun q=>by rw[aa HQ] at q;exact Bool.false_ne_true q.2)]
     exact qH
    |.error y,_,qH=>exact qH
   clear HZ HP HB H HQ HV
   go_wp2
   go_end0
   exact aa dg
 ·have e1:(kd==1)=false:=by simpa using h1
  have dg:Hid (Zn lo b W (Q7 l X) (.returned (.tuple #[])) (w1.alloc (.cells #[.int .i64 kd,.int .i64 sp,.string tx] 38))):=by
   refine ⟨rfl,aO (aa HB) _,?_⟩
   match X,aa HP,aa HZ with
   |.ok s,hp,qH =>
    have e1:s.here=⟨kd,sp,tx⟩:=hp.symm
    show Zd lo _ b (if s.here.kind=1∧CF s.here.text l=true then .error (52,s.here.spot) else .ok s)
    rw[e1,if_neg (fun q=>h1 q.1)]
    exact qH
   |.error y,_,qH=>exact qH
  clear HZ HP HB H HV HO h1
  go_wp2
  go_end0
  exact aa dg
def isStr (v:Value):Prop:=∃x:ByteArray,v=.string x∧x.size≤140737488355327
def my:ZX→Except (Int×Int) (ByteArray×ZS)
 |.ok s=>if s.here.kind=1 then (if 255<s.here.text.size then .error (2,s.here.spot) else if fw s.here.text=true then .ok (s.here.text,s.XX) else .error (50,s.here.spot)) else .error (jW s)
 |.error y=>.error y
theorem jJ {w1 w2:World}{b:Nat}{kd sp:Int}{tx:ByteArray} (hg:(w1.alloc (.cells #[.int .i64 kd,.int .i64 sp,.string tx] 38)).grownBy w2 (some b)) (dV:b<w1.heap.size) (j:Nat):w2.cell? ⟨w1.heap.size,j,none⟩=(#[.int .i64 kd,.int .i64 sp,.string tx]:Array Value)[j]?:=by
 rw[World.cell?_of_block (a:=⟨w1.heap.size,j,none⟩) (hg.block w1.heap.size (by rw[zJ];omega) (by simp;omega))]
 exact World.cell?_alloc_at _ _ _ _ rfl
theorem oY (er sp:Int) (y:Int×Int):OR er sp (.error y)=.error y:=rfl
theorem Jv {W:World}{lo b:Nat}{X:ZX} (h:Zd lo W b X) (fJ:∀t,PkX X t→t.text.size≤140737488355327):Calls Tryz.prog 71 #[.pointer (some ⟨b,0,none⟩)] W (ZP lo b W Value.string isStr (my X)):=by
 have H:=ab h
 go_enter Tryz.func71,Tryz.ntmps71
 go_wp2_with fail
 refine (kH h).mono ?_
 rintro e w1 ⟨⟨kd,sp,tx⟩,rfl,hb,hp⟩
 have br:=hb.alloc hb.size (.cells #[.int .i64 kd,.int .i64 sp,.string tx] 38)
 have HB:=ab br
 have HZ:=ab ((aa H).up br)
 have HP:=ab hp
 have HT:Hid (tx.size≤140737488355327):=fJ _ hp
 clear fJ
 have Qx:=ab ((aa H).up hb)
 have lO:=ab hb
 have yO:b<w1.heap.size:=by have:=h.1;have:=hb.size;omega
 unfold Tk.val
 clear hp hb h br H
 by_cases h1:kd=1
 ·obtain rfl:=h1
  match X,aa HP,HZ,Qx with
  |.error y,hp,_,_=>exact absurd (show (1:Int)=5 from hp.1) (by decide)
  |.ok s,hp,HZ,Qx =>
   have e1:s.here=⟨1,sp,tx⟩:=hp.symm
   by_cases hs:255<tx.size
   ·have e2:decide ((255:Int)<(tx.size:Int))=true:=by simp;omega
    have HY:Hid (my (.ok s)=.error (2,sp)):=by show (if _ then _ else _)=_;rw[e1,if_pos rfl,if_pos hs]
    go_wp2_with fail
    refine (ep (aa HZ) 2 sp (by decide)).mono ?_
    rintro e w2 ⟨rfl,hg,hz⟩
    have CT:=jJ hg yO
    have HG:=ab hg
    have HE:Hid (Zd lo w2 b (.error (2,sp))):=hz
    clear hg hz e1 hp
    go_wp2_with fail
    refine (mg w2 tx).mono ?_
    rintro e w3 ⟨rfl,hw⟩
    subst hw
    obtain ⟨q,hq⟩:∃q,fw tx=q:=⟨_,rfl⟩
    rw[hq]
    clear hq
    cases q with
    |true =>
     obtain ⟨i,c1,f1,bD,-⟩:=(aa HE).next (fun s' e=>by cases e)
     have dg:Hid (∀z,ZP lo b W Value.string isStr (my (.ok s)) (.returned (.string tx)) (w3.setCell ⟨b,1,none⟩ (.int .i64 z))):=by
      intro z
      obtain ⟨g1,z1⟩:=bD z (fun s' e=>by cases e)
      refine ⟨(b9 (aa HB) (aa HG)).trans g1,?_⟩
      rw[aa HY]
      exact ⟨⟨_,rfl,_,rfl,aa HT⟩,z1⟩
     have dV:w1.heap.size≠b:=by omega
     have Yi:∀z j,(w3.setCell ⟨b,1,none⟩ z).cell? ⟨w1.heap.size,j,none⟩=(#[.int .i64 1,.int .i64 sp,.string tx]:Array Value)[j]?:=fun z j=>(World.cell?_of_block (a:=⟨w1.heap.size,j,none⟩) (Below.heap_setCell _ _ _ _ (by exact dV))).trans (CT j)
     clear bD HG HE HB HY
     go_wp2
     go_ret
     exact aa dg _
    |false =>
     go_wp2_with fail
     refine (ep (aa HE) 50 sp (by decide)).mono ?_
     rintro e w4 ⟨rfl,hg,hz⟩
     have BW:=(aa HG).trans hg
     have CT:=jJ BW yO
     have HG:=ab BW
     have HE:=ab hz
     rw[oY] at HE
     clear hg hz BW
     obtain ⟨i,c1,f1,bD,-⟩:=(aa HE).next (fun s' e=>by cases e)
     have dg:Hid (∀z,ZP lo b W Value.string isStr (my (.ok s)) (.returned (.string tx)) (w4.setCell ⟨b,1,none⟩ (.int .i64 z))):=by
      intro z
      obtain ⟨g1,z1⟩:=bD z (fun s' e=>by cases e)
      refine ⟨(b9 (aa HB) (aa HG)).trans g1,?_⟩
      rw[aa HY]
      exact ⟨⟨_,rfl,_,rfl,aa HT⟩,z1⟩
     have dV:w1.heap.size≠b:=by omega
     have Yi:∀z j,(w4.setCell ⟨b,1,none⟩ z).cell? ⟨w1.heap.size,j,none⟩=(#[.int .i64 1,.int .i64 sp,.string tx]:Array Value)[j]?:=fun z j=>(World.cell?_of_block (a:=⟨w1.heap.size,j,none⟩) (Below.heap_setCell _ _ _ _ (by exact dV))).trans (CT j)
     clear bD HG HE HB HY
     go_wp2
     go_ret
     exact aa dg _
   ·have e2:decide ((255:Int)<(tx.size:Int))=false:=by simp;omega
    go_wp2_with fail
    refine (mg _ tx).mono ?_
    rintro e w2 ⟨rfl,hw⟩
    subst hw
    obtain ⟨q,hq⟩:∃q,fw tx=q:=⟨_,rfl⟩
    rw[hq]
    cases q with
    |true =>
     have hz:=aa Qx
     have hY:my (.ok s)=.ok (tx,s.XX):=by show (if _ then _ else _)=_;rw[e1,if_pos rfl,if_neg hs,if_pos hq]
     have hk:0<s.ts.length:=by
      cases hl:s.ts with
      |nil=>unfold ZS.here at e1;rw[hl] at e1;cases e1
      |cons a r=>simp
     obtain ⟨i,c1,f1,bD,hi⟩:=hz.next (fun s' e=>by cases e;exact hk)
     obtain ⟨i0,i1⟩:=hi s rfl
     obtain ⟨g1,z1⟩:=bD (i+1) (fun _ _=>rfl)
     have dg:Hid (ZP lo b W Value.string isStr (my (.ok s)) (.returned (.string tx)) ((w1.setCell ⟨b,1,none⟩ (.int .i64 (i+1))).alloc (.cells #[.int .i64 1,.int .i64 sp,.string tx] 38))):=by
      have ha:=(zE (w1.setCell ⟨b,1,none⟩ (.int .i64 (i+1))).heap.size (w1.setCell ⟨b,1,none⟩ (.int .i64 (i+1)))).alloc (zD _) (.cells #[.int .i64 1,.int .i64 sp,.string tx] 38)
      refine ⟨b9 (aa lO) (g1.trans (aO ha _)),?_⟩
      rw[hY]
      exact ⟨rfl,z1.up ha⟩
     have dV:w1.heap.size≠b:=by omega
     clear bD hi g1 z1 hz hY hk e1 hp hq HB HZ HP
     go_wp2
     go_ret
     exact aa dg
    |false =>
     have HY:Hid (my (.ok s)=.error (50,sp)):=by show (if _ then _ else _)=_;rw[e1,if_pos rfl,if_neg hs,if_neg (by rw[hq];decide)]
     go_wp2_with fail
     refine (ep (aa HZ) 50 sp (by decide)).mono ?_
     rintro e w3 ⟨rfl,hg,hz⟩
     have CT:=jJ hg yO
     have HG:=ab hg
     have HE:Hid (Zd lo w3 b (.error (50,sp))):=hz
     clear hg hz e1 hp hq
     obtain ⟨i,c1,f1,bD,-⟩:=(aa HE).next (fun s' e=>by cases e)
     have dg:Hid (∀z,ZP lo b W Value.string isStr (my (.ok s)) (.returned (.string tx)) (w3.setCell ⟨b,1,none⟩ (.int .i64 z))):=by
      intro z
      obtain ⟨g1,z1⟩:=bD z (fun s' e=>by cases e)
      refine ⟨(b9 (aa HB) (aa HG)).trans g1,?_⟩
      rw[aa HY]
      exact ⟨⟨_,rfl,_,rfl,aa HT⟩,z1⟩
     have dV:w1.heap.size≠b:=by omega
     have Yi:∀z j,(w3.setCell ⟨b,1,none⟩ z).cell? ⟨w1.heap.size,j,none⟩=(#[.int .i64 1,.int .i64 sp,.string tx]:Array Value)[j]?:=fun z j=>(World.cell?_of_block (a:=⟨w1.heap.size,j,none⟩) (Below.heap_setCell _ _ _ _ (by exact dV))).trans (CT j)
     clear bD HG HE HB HY
     go_wp2
     go_ret
     exact aa dg _
 ·have e1:(kd != 1)=true:=by simpa using h1
  have HYX:Hid (∃y,pW X=.error y∧my X=.error y):=by
   match X,aa HP with
   |.error y,_=>exact ⟨y,rfl,rfl⟩
   |.ok s,hp =>
    have e1:s.here=⟨kd,sp,tx⟩:=hp.symm
    exact ⟨jW s,rfl,by show (if _ then _ else _)=_;rw[e1,if_neg h1]⟩
  go_wp2_with fail
  refine (mQ (aa HZ)).mono ?_
  rintro e w2 ⟨rfl,hg,hz⟩
  obtain ⟨y,Y1,BR⟩:=aa HYX
  rw[Y1] at hz
  have CT:=jJ hg yO
  have HG:=ab hg
  have HE:=ab hz
  have HY:=ab BR
  clear hg hz Y1 BR HYX HP
  by_cases hs:255<tx.size
  ·have e2:decide ((255:Int)<(tx.size:Int))=true:=by simp;omega
   go_wp2_with fail
   refine (ep (aa HE) 2 sp (by decide)).mono ?_
   rintro e w3 ⟨rfl,hg,hz⟩
   have BW:=(aa HG).trans hg
   have CT:=jJ BW yO
   have HG:=ab BW
   have HE:=ab hz
   rw[oY] at HE
   clear hg hz BW
   go_wp2_with fail
   refine (mg w3 tx).mono ?_
   rintro e w4 ⟨rfl,hw⟩
   subst hw
   obtain ⟨q,hq⟩:∃q,fw tx=q:=⟨_,rfl⟩
   rw[hq]
   clear hq
   cases q with
   |true =>
    obtain ⟨i,c1,f1,bD,-⟩:=(aa HE).next (fun s' e=>by cases e)
    have dg:Hid (∀z,ZP lo b W Value.string isStr (my X) (.returned (.string tx)) (w4.setCell ⟨b,1,none⟩ (.int .i64 z))):=by
     intro z
     obtain ⟨g1,z1⟩:=bD z (fun s' e=>by cases e)
     refine ⟨(b9 (aa HB) (aa HG)).trans g1,?_⟩
     rw[aa HY]
     exact ⟨⟨_,rfl,_,rfl,aa HT⟩,z1⟩
    have dV:w1.heap.size≠b:=by omega
    have Yi:∀z j,(w4.setCell ⟨b,1,none⟩ z).cell? ⟨w1.heap.size,j,none⟩=(#[.int .i64 kd,.int .i64 sp,.string tx]:Array Value)[j]?:=fun z j=>(World.cell?_of_block (a:=⟨w1.heap.size,j,none⟩) (Below.heap_setCell _ _ _ _ (by exact dV))).trans (CT j)
    clear bD HG HE HB HY
    go_wp2
    go_ret
    exact aa dg _
   |false =>
    go_wp2_with fail
    refine (ep (aa HE) 50 sp (by decide)).mono ?_
    rintro e w5 ⟨rfl,hg,hz⟩
    have BW:=(aa HG).trans hg
    have CT:=jJ BW yO
    have HG:=ab BW
    have HE:=ab hz
    rw[oY] at HE
    clear hg hz BW
    obtain ⟨i,c1,f1,bD,-⟩:=(aa HE).next (fun s' e=>by cases e)
    have dg:Hid (∀z,ZP lo b W Value.string isStr (my X) (.returned (.string tx)) (w5.setCell ⟨b,1,none⟩ (.int .i64 z))):=by
     intro z
     obtain ⟨g1,z1⟩:=bD z (fun s' e=>by cases e)
     refine ⟨(b9 (aa HB) (aa HG)).trans g1,?_⟩
     rw[aa HY]
     exact ⟨⟨_,rfl,_,rfl,aa HT⟩,z1⟩
    have dV:w1.heap.size≠b:=by omega
    have Yi:∀z j,(w5.setCell ⟨b,1,none⟩ z).cell? ⟨w1.heap.size,j,none⟩=(#[.int .i64 kd,.int .i64 sp,.string tx]:Array Value)[j]?:=fun z j=>(World.cell?_of_block (a:=⟨w1.heap.size,j,none⟩) (Below.heap_setCell _ _ _ _ (by exact dV))).trans (CT j)
    clear bD HG HE HB HY
    go_wp2
    go_ret
    exact aa dg _
  ·have e2:decide ((255:Int)<(tx.size:Int))=false:=by simp;omega
   go_wp2_with fail
   refine (mg w2 tx).mono ?_
   rintro e w3 ⟨rfl,hw⟩
   subst hw
   obtain ⟨q,hq⟩:∃q,fw tx=q:=⟨_,rfl⟩
   rw[hq]
   clear hq
   cases q with
   |true =>
    obtain ⟨i,c1,f1,bD,-⟩:=(aa HE).next (fun s' e=>by cases e)
    have dg:Hid (∀z,ZP lo b W Value.string isStr (my X) (.returned (.string tx)) (w3.setCell ⟨b,1,none⟩ (.int .i64 z))):=by
     intro z
     obtain ⟨g1,z1⟩:=bD z (fun s' e=>by cases e)
     refine ⟨(b9 (aa HB) (aa HG)).trans g1,?_⟩
     rw[aa HY]
     exact ⟨⟨_,rfl,_,rfl,aa HT⟩,z1⟩
    have dV:w1.heap.size≠b:=by omega
    have Yi:∀z j,(w3.setCell ⟨b,1,none⟩ z).cell? ⟨w1.heap.size,j,none⟩=(#[.int .i64 kd,.int .i64 sp,.string tx]:Array Value)[j]?:=fun z j=>(World.cell?_of_block (a:=⟨w1.heap.size,j,none⟩) (Below.heap_setCell _ _ _ _ (by exact dV))).trans (CT j)
    clear bD HG HE HB HY
    go_wp2
    go_ret
    exact aa dg _
   |false =>
    go_wp2_with fail
    refine (ep (aa HE) 50 sp (by decide)).mono ?_
    rintro e w4 ⟨rfl,hg,hz⟩
    have BW:=(aa HG).trans hg
    have CT:=jJ BW yO
    have HG:=ab BW
    have HE:=ab hz
    rw[oY] at HE
    clear hg hz BW
    obtain ⟨i,c1,f1,bD,-⟩:=(aa HE).next (fun s' e=>by cases e)
    have dg:Hid (∀z,ZP lo b W Value.string isStr (my X) (.returned (.string tx)) (w4.setCell ⟨b,1,none⟩ (.int .i64 z))):=by
     intro z
     obtain ⟨g1,z1⟩:=bD z (fun s' e=>by cases e)
     refine ⟨(b9 (aa HB) (aa HG)).trans g1,?_⟩
     rw[aa HY]
     exact ⟨⟨_,rfl,_,rfl,aa HT⟩,z1⟩
    have dV:w1.heap.size≠b:=by omega
    have Yi:∀z j,(w4.setCell ⟨b,1,none⟩ z).cell? ⟨w1.heap.size,j,none⟩=(#[.int .i64 kd,.int .i64 sp,.string tx]:Array Value)[j]?:=fun z j=>(World.cell?_of_block (a:=⟨w1.heap.size,j,none⟩) (Below.heap_setCell _ _ _ _ (by exact dV))).trans (CT j)
    clear bD HG HE HB HY
    go_wp2
    go_ret
    exact aa dg _
def OX:ZX→ZX
 |.ok s=>if aJ s.here 4 ⟨#[91]⟩=true then .error (52,s.here.spot) else oe 4 ⟨#[59]⟩ (.ok s)
 |.error y=>.error y
theorem Jy {W:World}{lo b:Nat}{X:ZX} (h:Zd lo W b X):Calls Tryz.prog 75 #[.pointer (some ⟨b,0,none⟩)] W (Zn lo b W (OX X)):=by
 have H:=ab h
 go_enter Tryz.func75,Tryz.ntmps75
 go_wp2_with fail
 refine (kH h).mono ?_
 rintro e w1 ⟨⟨kd,sp,tx⟩,rfl,hb,hp⟩
 have br:=hb.alloc hb.size (.cells #[.int .i64 kd,.int .i64 sp,.string tx] 38)
 have HB:=ab br
 have HZ:=ab ((aa H).up br)
 have HP:=ab hp
 have yO:b<w1.heap.size:=by have:=h.1;have:=hb.size;omega
 unfold Tk.val
 clear hp hb h br H
 go_wp2_with fail
 refine (xa (aa HZ) 4 ⟨#[91]⟩).mono ?_
 rintro e w2 ⟨t,rfl,qM,Qk⟩
 have CJ:=ab ((aa HZ).up qM)
 have CT:=jJ (aO qM (some b)) yO
 have jm:=ab ((aa HB).trans (qM.mono (aa HB).size))
 have HP3:=ab Qk
 obtain ⟨q,hq⟩:∃q,aJ t 4 ⟨#[91]⟩=q:=⟨_,rfl⟩
 rw[hq]
 have HQ:=ab hq
 clear qM Qk hq HZ HB
 cases q with
 |true =>
  go_wp2_with fail
  refine (ep (aa CJ) 52 sp (by decide)).mono ?_
  rintro e w3 ⟨rfl,cN,qH⟩
  have xM:=ab (b9 (aa jm) cN)
  have WK:=ab qH
  clear cN qH CT
  go_wp2_with fail
  refine (sh (aa WK) ⟨#[59]⟩).mono ?_
  rintro e w4 ⟨rfl,ld,Kr⟩
  have dg:Hid (Zn lo b W (OX X) (.returned (.tuple #[])) w4):=by
   refine ⟨rfl,(aa xM).trans ld,?_⟩
   match X,aa HP,aa HP3,Kr with
   |.ok s,hp,Qk,Kr =>
    have e1:s.here=⟨kd,sp,tx⟩:=hp.symm
    obtain rfl:t=s.here:=Qk
    show Zd lo w4 b (if aJ s.here 4 ⟨#[91]⟩=true then .error (52,s.here.spot) else oe 4 ⟨#[59]⟩ (.ok s))
    rw[if_pos (aa HQ),e1]
    exact Kr
   |.error y,_,_,Kr=>exact Kr
  clear ld Kr xM WK CJ HP HP3 HQ jm
  go_wp2
  go_end0
  exact aa dg
 |false =>
  go_wp2_with fail
  refine (sh (aa CJ) ⟨#[59]⟩).mono ?_
  rintro e w4 ⟨rfl,ld,Kr⟩
  have dg:Hid (Zn lo b W (OX X) (.returned (.tuple #[])) w4):=by
   refine ⟨rfl,b9 (aa jm) ld,?_⟩
   match X,aa HP3,Kr with
   |.ok s,Qk,Kr =>
    obtain rfl:t=s.here:=Qk
    show Zd lo w4 b (if aJ s.here 4 ⟨#[91]⟩=true then .error (52,s.here.spot) else oe 4 ⟨#[59]⟩ (.ok s))
    rw[if_neg (by rw[aa HQ];decide)]
    exact Kr
   |.error y,_,Kr=>exact Kr
  clear ld Kr CJ HP HP3 HQ jm CT
  go_wp2
  go_end0
  exact aa dg
end Go.Proofs.YtjophoclfccmcaaGreatDoor
