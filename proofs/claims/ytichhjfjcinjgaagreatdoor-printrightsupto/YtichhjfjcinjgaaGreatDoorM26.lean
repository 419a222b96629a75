import Derived.Test.YtichhjfjcinjgaaGreatDoorM25
import Derived.WalkMore
import Derived.Shelf.Pu.Clone
set_option maxHeartbeats 8000000
set_option maxRecDepth 100000
namespace Go.Proofs.YtichhjfjcinjgaaGreatDoor
open Go.RowKit
attribute [local go_sem ↓] Go.wp_at_zero Go.wp_at_succ
theorem zW {P:Program}{ops:Array Oper}{o:Oper}{a:Act}{w:World}{K:Act→World→Prop}{Q:Exit→Act→World→Prop}{E:Prop} (x:Tmp) (hx:o.dst=some x) (Bz:o.guard=none) (f:FuncId) (CK:∀vs,(callFunc f vs).run P w=.ok (.enter f vs) w) (fo:Operand) (args:Array Operand) (F7:Array TypeId)
  (ho:o.op=.call { callee:=.value fo,args:=args,argTypes:=F7 }) (dZ:a.eval fo=.func (.func f) #[] #[]) (vs:Array Value) (hv:args.map a.eval=vs) {R:Ending→World→Prop} (hc:Calls P f vs w R) (hK:∀e w',R e w'→∃v,e=.returned v∧K (a.put (some x) v) w') :
  if Region.wanted o (yielded ops a.tmps)=true then Oper.wp P o a w K Q else E:=by
 have hw:Region.wanted o (yielded ops a.tmps)=true:=by simp[Region.wanted,Bz]
 rw[if_pos hw]
 have h2:Oper.wp P o a w K Q=o.upon P a K Q (.ok (.enter f vs) w):=by
  unfold Oper.wp
  simp[execOp,ho,resolve,invoke,←hv,dZ,Deferred.ofValue,CK]
 rw[h2,Oper.upon_enter]
 refine hc.mono ?_
 intro e w' hr
 obtain ⟨v,rfl,hk⟩:=hK e w' hr
 rw[hx]
 exact hk
theorem DC {B B':Nat}{W:World}{e:TypeId}{z m:Nat}{v:Value}{xs:List Value} (h:W.ownsRow B e z v m xs) (hb:B'≤B):W.ownsRow B' e z v m xs:=by
 obtain ⟨h1,⟨rfl,h0⟩|⟨g,c,cur,rfl,h2,h3⟩⟩:=h
 ·exact ⟨h1,.inl ⟨rfl,h0⟩⟩
 ·exact ⟨h1,.inr ⟨g,c,cur,rfl,Nat.le_trans hb h2,h3⟩⟩
def Xy (s:ByteArray) (b:Nat) (n0:Nat) (w:World) (e:Ending):List Tok ⊕ (Nat×Nat)→Prop
 |.inl ts=>e=.returned (.int .i64 0)∧∃(k:Nat) (v':Value),cN w b s k v'∧w.ownsRow n0 107 3 v' ts.length (dY ts)
 |.inr (k,c)=>c≠0∧e=.returned (.int .i64 (c:Int))∧∃v',cN w b s k v'
def LY (s:ByteArray) (b:Nat) (W:World) (e:Ending) (w:World):Prop:=BX W.heap.size b W w∧Xy s b W.heap.size w e (tk s 0 0)
theorem LY.ret {s:ByteArray}{b:Nat}{W w:World}{e:Ending} (h:LY s b W e w):∃c:Int,e=.returned (.int .i64 c):=by
 have h2:=h.2
 cases hr:tk s 0 0 with
 |inl ts=>rw[hr] at h2;exact ⟨0,h2.1⟩
 |inr p=>obtain ⟨k,c⟩:=p;rw[hr] at h2;exact ⟨(c:Int),h2.2.1⟩
theorem BX.mono {B B' b:Nat}{u w:World} (h:BX B b u w) (hB:B'≤B):BX B' b u w:=⟨h.os,h.tape,h.output,h.size,fun q hq hb=>h.block q (by omega) hb⟩
theorem CT (p q:List Tok) (x:List Tok ⊕ (Nat×Nat)):ij p (ij q x)=ij (p++q) x:=by
 cases x with
 |inl l=>simp[ij]
 |inr e=>rfl
theorem oF {W:World}{B n:Nat}{e:TypeId}{z:Nat}{v:Value}{xs:List Value} (h:W.ownsRow B e z v n xs):∃a c,v=.slice a n c:=by
 obtain ⟨_,⟨e,h0⟩|⟨g,c,_,e,_⟩⟩:=h
 ·exact ⟨none,0,by rw[e,h0]⟩
 ·exact ⟨_,_,e⟩
theorem EN {W:World}{B b g c n i:Nat}{e:TypeId}{xs:List Value}{u:Value} (CI:g≠b) (h:W.ownsRow B e 3 (.slice (some ⟨g,0,none⟩) n c) n xs):(W.setCell ⟨b,i,none⟩ u).ownsRow B e 3 (.slice (some ⟨g,0,none⟩) n c) n xs:=by
 obtain ⟨h1,⟨q,_⟩|⟨g',cap,cur,e1,h3,h4,h5⟩⟩:=h
 ·cases q
 ·refine ⟨h1,.inr ⟨g',cap,cur,e1,h3,?_,h5⟩⟩
  have eg:g'=g:=by injection e1 with e1;injection e1 with e1;injection e1 with e1;exact e1.symm
  subst eg
  exact (heap_setCell_other W ⟨b,i,none⟩ g' u (by simpa using CI)).trans h4
theorem KO {W0 W:World}{b:Nat}{s:ByteArray} (hE:jM W0) (hM:gX W0) (h0:Below W0.heap.size W0 W) (hb:W0.heap.size≤b) (h:cN W b s 0 (.slice none 0 0)) (hs:s.size≤65536) :
  Calls Tryz.prog 48 #[.pointer (some ⟨b,0,none⟩)] W (LY s b W):=by
 obtain ⟨i0,hi,fU,dS,da⟩:=info_parts Tryz.yj
 have xg:=h.lt
 have Hh:=al h
 have HE:=al hE
 have HM:=al hM
 have H0:=al h0
 clear h hE hM h0
 go_enter Tryz.func48,Tryz.ntmps48
 go_wp2
 go_step3
 go_wp2_with fail
 refine (EG W).mono ?_
 rintro e w1 ⟨rfl,aX⟩
 have hX:=aX.size
 have Yb:Hid (Below W.heap.size W ((w1.alloc (.cells #[.nilFunc,.nilFunc,.nilFunc,.nilFunc,.nilFunc,.nilFunc,.nilFunc] 137)).setCells w1.heap.size 0 bS)):=ka hX _ _ _ (aX.alloc hX _)
 have yT:=al (IP w1)
 have RE:((w1.alloc (.cells #[.nilFunc,.nilFunc,.nilFunc,.nilFunc,.nilFunc,.nilFunc,.nilFunc] 137)).setCells w1.heap.size 0 bS).heap.size=w1.heap.size+1:=by rw[nv,zJ]
 have O6:=al RE
 have RC:=GB w1
 obtain ⟨A,hA,Ol⟩:∃A,bS.toArray=A∧Tab A:=⟨_,rfl,KG⟩
 have hAl:A.toList=bS:=by rw[←hA]
 rw[hA] at RC ⊢
 rw[←hAl] at Yb yT O6
 have ZQ:=Ol.info
 have nn:=Ol.one
 clear aX hA hAl RE Ol
 go_wp2_with (refine wpList_store_mid rfl 137 (.tmp 3) (.tmp 4) rfl w1.heap.size 0 A rfl rfl RC ZQ nn ?_)
 generalize (w1.alloc (.cells #[.nilFunc,.nilFunc,.nilFunc,.nilFunc,.nilFunc,.nilFunc,.nilFunc] 137)).setCells w1.heap.size 0 A.toList=X at *
 obtain ⟨tb,RD⟩:∃tb,w1.heap.size=tb:=⟨_,rfl⟩
 rw[RD] at yT O6 hX ⊢
 clear RC ZQ nn RD
 have hBX:X.heap.size=tb+1:=ab O6
 have Er:Hid (cN X b s 0 (.slice none 0 0)):=(ab Hh).up (ab Yb)
 have Bj:Hid (X.ownsRow X.heap.size 107 3 (.slice none 0 0) 0 (dY [])):=⟨rfl,.inl ⟨rfl,rfl⟩⟩
 have Lq:∀w,BX X.heap.size b X w→BX W.heap.size b W w:=fun w hw=>(BX.of (ab Yb) (zD _)).trans (hw.mono (by omega))
 have Hge:=al Lq
 have Zh:∀w,BX X.heap.size b X w→Below W0.heap.size W0 w:=fun w hw=>(ab H0).trans ((Lq w hw).below hb (by omega))
 have Hup:=al Zh
 clear Lq Zh
 go_wp2
 go_step3
 go_wp2
 simp only[Act.put]
 go_loopg [2] s.size (fun gk v2 wr=>∃(k n:Nat) (pre:List Tok) (va:Option Addr) (vc:Nat),v2=.int .i64 0∧gk=s.size-k∧k≤s.size∧n=pre.length∧n≤16383∧Hid (cN wr b s k (.slice va n vc))∧Hid (wr.ownsRow X.heap.size 107 3 (.slice va n vc) n (dY pre))∧Hid (tk s 0 0=ij pre (tk s k n))∧Hid (BX X.heap.size b X wr))
 case atStart=>exact ⟨0,0,[],none,0,rfl,rfl,by omega,rfl,by omega,Er,Bj,(lI _).symm,BX.refl _ _ _⟩
 case round =>
  obtain ⟨k,n,pre,va,vc,rfl,aW,hk,hn,DV,HS,HR,Hq,HB⟩:=hrel
  have bz:=al aW
  have Hn:=al hn
  clear aW hn Er Bj
  have c0:=(ab HS).c0
  have c1:=(ab HS).c1
  have Qc:b<wr.heap.size:=(ab HS).lt
  have Sv:L6 wr tb:=((ab HB).block tb (by omega) (by omega)).trans (ab yT)
  have HTw:=al Sv
  clear Sv
  have WQ:X.heap.size≤wr.heap.size:=(ab HB).size
  by_cases aM:k<s.size
  ·have qk:((k:Int)==(s.size:Int))=false:=beq_eq_false_iff_ne.2 (by omega)
   obtain ⟨x,hx⟩:∃x:Nat,s[k].toNat=x:=⟨_,rfl⟩
   have dP:aD s k=x:=(dr s k aM).trans hx
   have c8:x<256:=by rw[←dP];exact dy s k
   have k0:(0:Int)≤(k:Int):=zH _
   have k1:(k:Int)<(s.size:Int):=by omega
   have kJ:Hid (∀m,Calls Tryz.prog (BO (cls (aD s k))) #[.pointer (some ⟨b,0,none⟩)] (wr.drewN m) (gz X.heap.size b s k n (dY pre) (wr.drewN m))):=fun m=>EI ((ab HE).up (below_drewN (ab Hup wr (ab HB)) m)) ((ab HM).up (below_drewN (ab Hup wr (ab HB)) m) (ab HM).1) ⟨ab HS,by omega,WQ,ab HR,aM,hs,DV⟩
   have Oe:∀m,Calls Tryz.prog 95 #[.int .u8 (x:Int)] (wr.drewN m) fun e w=>e=.returned (.int .i64 (cls x:Int))∧w=wr.drewN m:=fun m=>iM _ x c8
   have tI:=al Oe
   have TX:=OL x
   rw[dP] at kJ
   obtain ⟨c,hc⟩:∃c,cls x=c:=⟨_,rfl⟩
   rw[hc] at kJ tI TX
   have MD:=(ab HTw).cell c TX
   have cc0:(0:Int)≤(c:Int):=zH _
   have cc1:(c:Int)<7:=by omega
   have Hc7:=al TX
   clear Oe dP hc TX
   go_wp2
   go_quiet (fail)
   go_wp2_with fail
   go_region_law (first|(refine tV 38 rfl rfl 95 (FJ _) #[.tmp 37] #[5] rfl #[.int .u8 (x:Int)] (by first|rfl|simp[Act.eval]) (ab tI _) ?_;rintro o7 w7 ⟨rfl,rfl⟩;refine ⟨_,rfl,?_⟩)|(refine zW 42 rfl rfl (BO c) (fun vs=>FH _ vs c (ab Hc7)) (.tmp 40) #[.tmp 41] #[134] rfl (by first|rfl|simp[Act.eval]) #[.pointer (some ⟨b,0,none⟩)] (by first|rfl|simp[Act.eval]) (ab kJ _) ?_;intro o9 w9 RO;obtain ⟨z9,rfl⟩:=RO.ret;refine ⟨_,rfl,?_⟩;have XM:=al RO;clear RO))
   all_goals (
    rcases ab XM with ⟨Ls,⟨e9,k',ts,v',s1,s2,s3,s4,s5,s6⟩|⟨c',v',n9,e9,s1,s2⟩⟩
    ·obtain rfl:z9=0:=by injection e9 with e9;injection e9
     obtain ⟨a',c',rfl⟩:=oF s2
     have vM:Hid (BX X.heap.size b X w9):=(ab HB).trans ((BX.of (below_drewN (zE wr.heap.size wr) _) WQ).trans Ls)
     have HS9:=al s1
     have FY:Hid (w9.ownsRow X.heap.size 107 3 (.slice a' (n+ts.length) c') (n+ts.length) (dY (pre++ts))):=by rw[lz];exact s2
     have Hq0:Hid (tk s 0 0=ij (pre++ts) (tk s k' (n+ts.length))):=by show _=_;rw[ab Hq,s6,CT]
     clear e9 s1 s2 s6 Ls XM HB HS HR Hq
     go_wp2
     go_roundg (s.size-k')
     case measure=>have:=ab bz;omega
     case rel=>exact ⟨k',n+ts.length,pre++ts,a',c',rfl,rfl,s4,by have:=ab Hn;rw[zK,this],s5,HS9,FY,Hq0,vM⟩
    ·obtain rfl:z9=(c':Int):=by injection e9 with e9;injection e9
     have vM:Hid (BX X.heap.size b X w9):=(ab HB).trans ((BX.of (below_drewN (zE wr.heap.size wr) _) WQ).trans Ls)
     have qx:Hid (LY s b W (.returned (.int .i64 (c':Int))) w9):=⟨ab Hge _ (ab vM),by rw[ab Hq,s2];exact ⟨n9,rfl,v',s1⟩⟩
     have q9:((c':Int) != 0)=true:=by simp;omega
     clear e9 s1 s2 Ls XM HB HS HR Hq vM
     go_wp2
     try rw[Exit.noGoto_ret]
     go_ret
     exact ab qx)
  ·obtain rfl:k=s.size:=by omega
   have qk:((s.size:Int)==(s.size:Int))=true:=by simp
   have WL:∀(n':Nat) (ob:Obj),((wr.drewN n').alloc ob).cell? ⟨b,2,none⟩=some (.slice va n vc):=fun n' ob=>cN.c2 (s:=s) (k:=s.size) ((Below.heap_alloc wr ob b Qc).trans (ab HS))
   have c2:=(ab HS).c2
   have fJ:∀(n':Nat) (ob:Obj),((wr.drewN n').alloc ob).heap.size=wr.heap.size+1:=fun n' ob=>zJ _ _
   have vz:=al fJ
   have O1:Hid (n+1≤maxLen):=by show _≤_;unfold maxLen;omega
   have O2:Hid ((n+1)*32≤140737488355328):=by show _≤_;omega
   have Rz:(Value.slice va n vc).ownBlock≠some b:=fun e=>by have:=((ab HR).lt b e).1;omega
   have Htk:Hid (tk s 0 0=.inl (pre++[⟨5,s.size,⟨#[]⟩⟩])):=by show _=_;rw[ab Hq,Ni];rfl
   clear fJ Hq HTw aM
   go_wp2
   go_quiet (fail)
   go_wp2_with fail
   go_region_law (first|(refine step_append_lies _ rfl (.tmp 19) (.tmp 25) 51 rfl X.heap.size 107 i0 (.agg #[.int .i64 0,.int .i64 0,.string ⟨#[]⟩]) 3 32 Tryz.underlying51 hi fU dS da rfl (by decide) (.slice va n vc) n (dY pre) (by first|rfl|simp[Act.eval]) ((ab HR).alloc _) ⟨wr.heap.size,0,none⟩ 1 1 [.int .i64 5,.int .i64 (s.size:Int),.string ⟨#[]⟩] (by first|rfl|simp[Act.eval]) rfl (fun j u hj=>Aw _ #[.int .i64 5,.int .i64 (s.size:Int),.string ⟨#[]⟩] 107 j u hj) (by simp[Value.oneCell']) (by decide) (ab O1) (ab O2) (by rw[ab vz];omega) (wr.heap.size+1) (ab vz _ _) ?_;intro g9 c9 w9 AQ nN IN Wz;have j7:w9.heap[b]?=wr.heap[b]?:=(nN.block b (by rw[ab vz];omega) (fun e=>Rz e.symm)).trans (Below.heap_alloc wr _ b Qc);have Ip:cN w9 b s s.size (.slice va n vc):=j7.trans (ab HS);have c29:=Ip.c2;have f29:=iC 2 Ip;have gb:g9≠b:=(fun e=>IN.elim (fun q=>Rz (by rw[q,e])) (fun q=>by omega));have XL:=al Ip;have iN:=al AQ;have vM:Hid (BX X.heap.size b X w9):=(ab HB).trans ⟨nN.os,nN.tape,nN.output,(by have:=nN.size;rw[ab vz] at this;omega),fun q hq _=>(nN.block q (by rw[ab vz];omega) (fun e=>by have:=((ab HR).lt q e.symm).1;omega)).trans (Below.heap_alloc wr _ q (by omega))⟩;clear AQ nN IN j7 Ip))
   all_goals go_wp2
   all_goals try rw[Exit.noGoto_ret]
   all_goals go_ret
   all_goals refine ⟨ab Hge _ ((ab vM).set 2 _),?_⟩
   all_goals rw[ab Htk]
   all_goals refine ⟨rfl,s.size,.slice (some ⟨g9,0,none⟩) (n+1) c9,heap_setCell_same _ b 2 _ _ _ (ab XL),?_⟩
   all_goals rw[lz,zK,←ab Hn]
   all_goals exact DC (EN gb (ab iN)) (by omega)
end Go.Proofs.YtichhjfjcinjgaaGreatDoor
namespace Go.Proofs
open Go.Shelf
def Tryz.yg:Go.Shelf.Ren:=⟨fun|25=>93|n=>n,fun|9=>9|3=>3|4=>4|37=>58|0=>0|47=>162|5=>5|n=>n,fun|n=>n⟩
theorem Tryz.Ic:Go.Proofs.LaysPu.n25 Tryz.prog Tryz.yg:={
 mixed:=by kernel_rfl
 f25:=Tryz.func93.trans (congrArg some (by kernel_rfl))
 t0:=Tryz.underlying0
 a0:=Tryz.isAgg0
 z0:=Tryz.sizeOf0
 v0:=Tryz.zeroValue0
 i0:=by kernel_rfl
 t3:=Tryz.underlying3
 a3:=Tryz.isAgg3
 z3:=Tryz.sizeOf3
 v3:=Tryz.zeroValue3
 i3:=by kernel_rfl
 t4:=Tryz.underlying4
 a4:=Tryz.isAgg4
 z4:=Tryz.sizeOf4
 v4:=Tryz.zeroValue4
 i4:=by kernel_rfl
 t5:=Tryz.underlying5
 a5:=Tryz.isAgg5
 z5:=Tryz.sizeOf5
 v5:=Tryz.zeroValue5
 i5:=by kernel_rfl
 t9:=Tryz.underlying9
 a9:=Tryz.isAgg9
 z9:=Tryz.sizeOf9
 v9:=Tryz.zeroValue9
 i9:=by kernel_rfl
 t37:=Tryz.underlying58
 a37:=Tryz.isAgg58
 z37:=Tryz.sizeOf58
 v37:=Tryz.zeroValue58
 i37:=by kernel_rfl
 t47:=Tryz.underlying162
 a47:=Tryz.isAgg162
 z47:=Tryz.sizeOf162
 v47:=Tryz.zeroValue162
 i47:=by kernel_rfl }
end Go.Proofs
namespace Go.Proofs.YtichhjfjcinjgaaGreatDoor
open Go.RowKit
attribute [local go_sem ↓] Go.wp_at_zero Go.wp_at_succ
theorem C5 (W:World) (s:ByteArray) (h:s.size≤281474976710656):Calls Tryz.prog 93 #[.string s] W fun e w=>e=.returned (.string s)∧Below W.heap.size W w:=AnyPu.stringslite_Clone Tryz.Ic s W h
theorem FE (W:World) (s:ByteArray) (h:s.size≤281474976710656):Calls Tryz.prog 47 #[.string s] W fun e w=>e=.returned (.string s)∧Below W.heap.size W w:=by
 go_enter Tryz.func47,Tryz.ntmps47
 go_wp2_with fail
 refine (C5 W s h).mono ?_
 rintro e w ⟨rfl,hb⟩
 have Hb:=al hb
 clear hb
 go_wp2
 go_ret
 exact ⟨rfl,ab Hb⟩
def vw (n0:Nat) (w:World) (e:Ending):List Tok ⊕ (Nat×Nat)→Prop
 |.inl ts=>∃v,e=.returned (.tuple #[v,.int .i64 0,.int .i64 0])∧w.ownsRow n0 107 3 v ts.length (dY ts)
 |.inr (k,c)=>c≠0∧e=.returned (.tuple #[.slice none 0 0,.int .i64 (k:Int),.int .i64 (c:Int)])
def JB (s:ByteArray) (W:World) (e:Ending) (w:World):Prop:=Below W.heap.size W w∧vw W.heap.size w e (jQ s)
theorem pN {s:ByteArray} (h:65536<s.size):jQ s=.inr (0,2):=by unfold jQ;rw[if_pos h]
theorem zS {s:ByteArray} (h:¬65536<s.size) (h2:0≤cZ s 0):jQ s=.inr ((cZ s 0).toNat,44):=by unfold jQ;rw[if_neg h,if_pos h2]
theorem Dm {s:ByteArray} (h:¬65536<s.size) (h2:¬0≤cZ s 0):jQ s=tk s 0 0:=by unfold jQ;rw[if_neg h,if_neg h2]
theorem BL {W:World} (hF:ir W) (hE:jM W) (hM:gX W) (s:ByteArray):Calls Tryz.prog 21 #[.string s] W (JB s W):=by
 have bG:=zE W.heap.size W
 by_cases h0:65536<s.size
 ·have Hr:=al (pN h0)
  have e0:=Rm (a:=s.size) (k:=65536) (by omega)
  clear h0
  go_enter Tryz.func21,Tryz.ntmps21
  go_wp2
  go_ret3
  exact ⟨bG,by rw[ab Hr];exact ⟨by decide,rfl⟩⟩
 ·have e0:=Rn (a:=s.size) (k:=65536) (by omega)
  have hs:s.size≤65536:=by omega
  have H0:=al h0
  clear h0
  go_enter Tryz.func21,Tryz.ntmps21
  go_wp2_with fail
  refine (zy hF s (by omega)).mono ?_
  rintro e w1 ⟨rfl,aX⟩
  have yS:=al aX
  clear aX bG
  by_cases h1:0≤cZ s 0
  ·have Hr:=al (zS (ab H0) h1)
   obtain ⟨u,hu⟩:∃u:Nat,cZ s 0=(u:Int):=⟨(cZ s 0).toNat,by omega⟩
   rw[hu] at Hr ⊢
   have e1:decide (0≤(u:Int))=true:=by simp
   clear hu h1
   go_wp2
   go_ret3
   exact ⟨ab yS,by rw[ab Hr];exact ⟨by decide,rfl⟩⟩
  ·have Hr:=al (Dm (ab H0) h1)
   obtain ⟨u,hu⟩:∃u,u=cZ s 0:=⟨_,rfl⟩
   rw[←hu] at h1 ⊢
   have e1:decide (0≤u)=false:=by simp;omega
   have HE:=al hE
   have HM:=al hM
   clear hu h1 hE hM
   go_wp2_with fail
   refine (FE w1 s (by omega)).mono ?_
   rintro e w2 ⟨rfl,bd⟩
   have vJ:Hid (Below W.heap.size W w2):=(ab yS).trans (bd.mono (ab yS).size)
   clear bd
   go_wp2_with fail
   have hr:=KO (W0:=W) (W:=w2.alloc (.cells #[.string s,.int .i64 0,.slice none 0 0] 94)) (b:=w2.heap.size) (s:=s) (ab HE) (ab HM) ((ab vJ).alloc (ab vJ).size _) (ab vJ).size (aJ w2 _) hs
   have XJ:=al (zJ w2 (.cells #[.string s,.int .i64 0,.slice none 0 0] 94))
   have iR:Hid (Below W.heap.size W (w2.alloc (.cells #[.string s,.int .i64 0,.slice none 0 0] 94))):=(ab vJ).alloc (ab vJ).size _
   have hle:=(ab vJ).size
   have hb:∃b,w2.heap.size=b:=⟨_,rfl⟩
   obtain ⟨b,hb⟩:=hb
   rw[hb] at hr XJ hle ⊢
   generalize w2.alloc (.cells #[.string s,.int .i64 0,.slice none 0 0] 94)=V at *
   clear hb vJ
   refine hr.mono ?_
   rintro e w3 ⟨hx,hq⟩
   have SD:Below W.heap.size W w3:=(ab iR).trans (hx.below hle (ab iR).size)
   have eh:=al SD
   have Oj:V.heap.size=b+1:=ab XJ
   cases ht:tk s 0 0 with
   |inl ts =>
    rw[ht] at hq
    obtain ⟨rfl,k,v',h1,h2⟩:=hq
    have c2:=h1.c2
    have qx:Hid (vw W.heap.size w3 (.returned (.tuple #[v',.int .i64 0,.int .i64 0])) (jQ s)):=by
     show vw _ _ _ _
     rw[ab Hr,ht]
     exact ⟨v',rfl,DC h2 (by omega)⟩
    obtain ⟨va,vc,rfl⟩:=oF h2
    clear h1 h2 hx SD ht Hr hr
    go_wp2
    go_ret3
    exact ⟨ab eh,ab qx⟩
   |inr p =>
    obtain ⟨k,c⟩:=p
    rw[ht] at hq
    obtain ⟨hc,rfl,v',h1⟩:=hq
    have c1:=h1.c1
    have qx:Hid (vw W.heap.size w3 (.returned (.tuple #[.slice none 0 0,.int .i64 (k:Int),.int .i64 (c:Int)])) (jQ s)):=by
     show vw _ _ _ _
     rw[ab Hr,ht]
     exact ⟨hc,rfl⟩
    have q9:((c:Int) != 0)=true:=by simp;omega
    clear h1 hx SD ht Hr hr hc
    go_wp2
    go_quiet (fail)
    go_wp2
    go_ret3
    exact ⟨below_drewN (ab eh) _,ab qx⟩
noncomputable def fO (F:Fl):ByteArray×Int:=if (lU F).isSome then (match jQ (gE (fG F)) with
  |.inl _=>(gE (fG F),0)
  |.inr _=>(⟨#[]⟩,2))
 else (⟨#[]⟩,60)
theorem kK {W:World}{v vi vm ve:Value}{F:Fl}{cm ce:List Value} (hM:gX W) (hE:jM W) (hP:il W) (hF:ir W) (qW:xE W v F vi vm ve cm ce) (kI:∀m ∈ F.ms,tG 32 m) :
  Calls Tryz.prog 8 #[v] W fun e w=>e=.returned (.tuple #[.string (fO F).1,.int .i64 (fO F).2])∧Below W.heap.size W w:=by
 have bG:Below W.heap.size W (W.alloc (.cells #[.string F.jr,vi,vm,ve] 26)):=(zE _ _).alloc (zD _) _
 have k0:=aJ W (.cells #[.string F.jr,vi,vm,ve] 26)
 obtain ⟨V,hV⟩:∃V,W.alloc (.cells #[.string F.jr,vi,vm,ve] 26)=V:=⟨_,rfl⟩
 rw[hV] at bG k0
 have HR:=al (vT (hM.up bG hM.1) (qW.up bG) kI)
 have hv:=qW.is
 subst hv
 have HW:Hid ((lU F).isSome=true→∀w1,Below V.heap.size V w1→Calls Tryz.prog 20 #[.agg #[.string F.jr,vi,vm,ve]] w1 fun e w=>e=.returned (.string (gE (fG F)))∧Below w1.heap.size w1 w):=by
  intro h w1 hb
  obtain ⟨-,c1,c2,c3,c4,c5⟩:=xq h
  exact zv ((hP.up bG).up hb) ((hF.up bG).up hb) ((qW.up bG).up hb) c1 c2 c3 c4 c5 (xr F)
 have HT:Hid (∀w1,Below V.heap.size V w1→Calls Tryz.prog 21 #[.string (gE (fG F))] w1 (JB (gE (fG F)) w1)):=fun w1 hb =>
  BL ((hF.up bG).up hb) ((hE.up bG).up hb) ((hM.up bG hM.1).up hb (hM.up bG hM.1).1) _
 have HB:=al bG
 have HK:=al k0
 obtain ⟨ai,ci,rfl,RU,-⟩:=qW.hi
 obtain ⟨am,dk,rfl,IC,-⟩:=qW.hm
 obtain ⟨ae,dc,rfl,iP,-⟩:=qW.he
 have c0:V.cell? ⟨W.heap.size,0,none⟩=some (.string F.jr):=cell_of_row _ _ _ _ _ _ k0
 have c1:V.cell? ⟨W.heap.size,1,none⟩=some (.slice ai F.cX.length ci):=cell_of_row _ _ _ _ _ _ k0
 have c2:V.cell? ⟨W.heap.size,2,none⟩=some (.slice am F.ms.length dk):=cell_of_row _ _ _ _ _ _ k0
 have c3:V.cell? ⟨W.heap.size,3,none⟩=some (.slice ae F.es.length dc):=cell_of_row _ _ _ _ _ _ k0
 unfold fO
 obtain ⟨q,hq⟩:∃q,(lU F).isSome=q:=⟨_,rfl⟩
 obtain ⟨t,ht⟩:∃t,jQ (gE (fG F))=t:=⟨_,rfl⟩
 obtain ⟨T,hT⟩:∃T,gE (fG F)=T:=⟨_,rfl⟩
 rw[hT] at HW HT ht
 rw[hq] at HR HW
 rw[hq,hT,ht]
 have Ht:=al ht
 have bu:=al (show W.heap.size<V.heap.size by rw[←hV,zJ];omega)
 clear hq hT ht hM hE hP hF qW kI bG k0
 cases q with
 |false =>
  clear HW HT Ht
  go_enter Tryz.func8,Tryz.ntmps8
  go_wp2_with fail
  refine (ab HR).mono ?_
  rintro e w1 ⟨rfl,aX⟩
  have HE:=al ((ab HB).trans (aX.mono (ab HB).size))
  clear aX HR HB
  go_wp2
  go_ret2
  exact ⟨rfl,ab HE⟩
 |true =>
  go_enter Tryz.func8,Tryz.ntmps8
  go_wp2_with fail
  refine (ab HR).mono ?_
  rintro e w1 ⟨rfl,aX⟩
  have hd:=(aX.block _ (ab bu)).trans (ab HK)
  have d0:w1.cell? ⟨W.heap.size,0,none⟩=some (.string F.jr):=cell_of_row _ _ _ _ _ _ hd
  have d1:w1.cell? ⟨W.heap.size,1,none⟩=some (.slice ai F.cX.length ci):=cell_of_row _ _ _ _ _ _ hd
  have d2:w1.cell? ⟨W.heap.size,2,none⟩=some (.slice am F.ms.length dk):=cell_of_row _ _ _ _ _ _ hd
  have d3:w1.cell? ⟨W.heap.size,3,none⟩=some (.slice ae F.es.length dc):=cell_of_row _ _ _ _ _ _ hd
  have sE:=al (ab HW trivial w1 aX)
  have cO:=al aX
  clear aX HR HW hd c0 c1 c2 c3
  go_wp2_with fail
  refine (ab sE).mono ?_
  rintro e w2 ⟨rfl,bd⟩
  have bd:=(ab cO).trans (bd.mono (ab cO).size)
  have ox:=al (ab HT w2 bd)
  have cS:=al bd
  clear bd HT sE cO d0 d1 d2 d3
  go_wp2_with fail
  refine (ab ox).mono ?_
  rintro e w3 ⟨cz,hA⟩
  have HE:=al ((ab HB).trans (((ab cS).trans (cz.mono (ab cS).size)).mono (ab HB).size))
  rw[ab Ht] at hA
  clear cz HB cS ox
  cases t with
  |inl ts =>
   obtain ⟨x,rfl,-⟩:=hA
   go_wp2
   go_ret2
   exact ⟨rfl,ab HE⟩
  |inr r =>
   obtain ⟨k,c⟩:=r
   obtain ⟨hc,rfl⟩:=hA
   have n0:((c:Int)==0)=false:=by simp;omega
   have n1:((c:Int) != 0)=true:=by simp;omega
   have n2:¬(c:Int)=0:=by omega
   go_wp2
   go_ret2
   exact ⟨rfl,ab HE⟩
theorem NL:(Tryz.prog.info? 111).map (fun i=>(i.zero,i.size,i.bytes))=some (some (.agg #[.int .i64 0,.int .i64 0]),2,16):=by kernel_rfl
theorem KD {l:List (Int×Int)}{i:Nat}{x:Int×Int} (h:l[i]?=some x):lj (l.take (i+1))=lj (l.take i)++[.int .i64 x.1,.int .i64 x.2]:=by
 rw[bM h]
 unfold lj
 rw[List.flatMap_append]
 simp
theorem xC (w:World) (x y:Value) (t:TypeId):∀j u,[x,y][j]?=some u→(w.alloc (.cells #[x,y] t)).cell? ((⟨w.heap.size,0,none⟩:Addr).add j)=some u:=by
 intro j u h
 match j with
 |0=>rw[show (⟨w.heap.size,0,none⟩:Addr).add 0=⟨w.heap.size,0,none⟩ from rfl,cell_of_row _ _ _ _ _ _ (aJ w _)];exact h
 |1=>rw[show (⟨w.heap.size,0,none⟩:Addr).add 1=⟨w.heap.size,1,none⟩ from rfl,cell_of_row _ _ _ _ _ _ (aJ w _)];exact h
 |j+2=>simp at h
theorem KC {l:List ByteArray}{i:Nat}{x:ByteArray} (h:l[i]?=some x):cc (l.take (i+1))=cc (l.take i)++[.string x]:=by
 rw[bM h]
 unfold cc
 simp
theorem mL {W:World}{v:Value}{l:List ByteArray} (hv:Rl W v l.length (cc l)) (hl:l.length*16≤140737488355328) (w0:World) (hw:Below W.heap.size W w0) :
  Calls Tryz.prog 16 #[v] w0 fun e w=>∃u,e=.returned u∧w.ownsRow w0.heap.size 9 1 u l.length (cc l)∧Below w0.heap.size w0 w:=by
 obtain ⟨a,c,rfl,hn,h2⟩:=hv
 obtain ⟨i0,hi,fU,dS,da⟩:=info_parts Ct
 have H2:=al h2
 have HW:=al hw
 have Hl:=al hl
 clear h2 hw hl
 go_enter Tryz.func16,Tryz.ntmps16
 go_wp2
 go_loopg [3,4] l.length (fun gk v3 v4 wr=>∃(i:Nat),v4=.int .i64 (i:Int)∧gk=l.length-i∧i≤l.length∧Hid (wr.ownsRow w0.heap.size 9 1 v3 i (cc (l.take i)))∧Hid (Below w0.heap.size w0 wr))
 case atStart=>exact ⟨0,rfl,rfl,by omega,⟨rfl,.inl ⟨rfl,rfl⟩⟩,zE _ _⟩
 case round =>
  obtain ⟨i,rfl,aW,eV,HO,HB⟩:=hrel
  have bz:=al aW
  clear aW
  by_cases aM:i<l.length
  ·obtain ⟨g,o,rfl,hg,hc⟩:=ab H2 (by omega)
   have hr:=List.getElem?_eq_getElem aM
   obtain ⟨r,uO⟩:∃r,l[i]=r:=⟨_,rfl⟩
   rw[uO] at hr
   have gV:=al (show Below W.heap.size W wr from (ab HW).trans ((ab HB).mono (ab HW).size))
   have x0:=((ab gV).cell (p:=⟨g,o+i,none⟩) hg).trans (hc _ _ (dT hr))
   have HT:=al (KC hr)
   have Mr:(0:Int)≤(i:Int):=zH _
   have i1:(i:Int)<(l.length:Int):=by omega
   have bu:=al aM
   have iQ:=al (ab HB).size
   clear hc hr uO gV aM
   go_wp2_with (at_builtin;refine wpList_append_own_at _ rfl _ _ 22 rfl w0.heap.size 9 i0 (.string ByteArray.empty) 1 16 Tryz.underlying22 hi fU dS da rfl (by decide) _ _ _ rfl ((ab HO).alloc _) ⟨wr.heap.size,0,none⟩ 1 1 [.string r] rfl rfl (cell_one_new _ _ _) (by simp[Value.oneCell']) (by have:=ab bu;unfold maxLen;omega) (by have:=ab bu;have:=ab Hl;omega) (by rw[zJ];have:=ab iQ;omega) ?_;intro v' w2 ho ep _ _;have mb:=al ho;have cS:=al (((ab HB).alloc (ab HB).size _).grown ep (by rw[zJ];have:=ab iQ;omega) (fun k e=>((ab HO).lt k e).1));clear ho ep)
   rw[←ab HT] at mb
   go_roundg (l.length-(i+1))
   case measure=>have:=ab bz;have:=ab bu;omega
   case rel=>exact ⟨i+1,by go_num,rfl,ab bu,mb,cS⟩
  ·obtain rfl:i=l.length:=by omega
   have hO:=ab HO
   rw[List.take_length] at hO
   have mb:=al hO
   clear hO
   go_wp2
   go_ret
   exact ⟨_,rfl,ab mb,ab HB⟩
theorem uw {W:World}{v:Value}{l:List (Int×Int)} (hv:Rl W v l.length (lj l)) (hl:l.length*16≤140737488355328) (w0:World) (hw:Below W.heap.size W w0) :
  Calls Tryz.prog 33 #[v] w0 fun e w=>∃u,e=.returned u∧w.ownsRow w0.heap.size 111 2 u l.length (lj l)∧Below w0.heap.size w0 w:=by
 obtain ⟨a,c,rfl,hn,h2⟩:=hv
 obtain ⟨i0,hi,fU,dS,da⟩:=info_parts NL
 have H2:=al h2
 have HW:=al hw
 have Hl:=al hl
 clear h2 hw hl
 go_enter Tryz.func33,Tryz.ntmps33
 go_wp2
 go_loopg [3,4] l.length (fun gk v3 v4 wr=>∃(i:Nat),v4=.int .i64 (i:Int)∧gk=l.length-i∧i≤l.length∧Hid (wr.ownsRow w0.heap.size 111 2 v3 i (lj (l.take i)))∧Hid (Below w0.heap.size w0 wr))
 case atStart=>exact ⟨0,rfl,rfl,by omega,⟨rfl,.inl ⟨rfl,rfl⟩⟩,zE _ _⟩
 case round =>
  obtain ⟨i,rfl,aW,eV,HO,HB⟩:=hrel
  have bz:=al aW
  clear aW
  by_cases aM:i<l.length
  ·obtain ⟨g,o,rfl,hg,hc⟩:=ab H2 (by omega)
   have hr:=List.getElem?_eq_getElem aM
   obtain ⟨r,uO⟩:∃r,l[i]=r:=⟨_,rfl⟩
   rw[uO] at hr
   have gV:=al (show Below W.heap.size W wr from (ab HW).trans ((ab HB).mono (ab HW).size))
   have x0:=((ab gV).cell (p:=⟨g,o+(i*2+0),none⟩) hg).trans (hc _ _ (gI hr (j:=0) (by decide)))
   have x1:=((ab gV).cell (p:=⟨g,o+(i*2+1),none⟩) hg).trans (hc _ _ (gI hr (j:=1) (by decide)))
   rw[Nat.add_zero] at x0
   rw[←Nat.add_assoc] at x1
   have HT:=al (KD hr)
   have Mr:(0:Int)≤(i:Int):=zH _
   have i1:(i:Int)<(l.length:Int):=by omega
   have bu:=al aM
   have iQ:=al (ab HB).size
   clear hc hr uO gV aM
   go_wp2_with (at_builtin;refine wpList_append_own_at _ rfl _ _ 44 rfl w0.heap.size 111 i0 (.agg #[.int .i64 0,.int .i64 0]) 2 16 Tryz.underlying44 hi fU dS da rfl (by decide) _ _ _ rfl ((ab HO).alloc _) ⟨wr.heap.size,0,none⟩ 1 1 [.int .i64 r.1,.int .i64 r.2] rfl rfl (xC _ _ _ _) (by simp[Value.oneCell']) (by have:=ab bu;unfold maxLen;omega) (by have:=ab bu;have:=ab Hl;omega) (by rw[zJ];have:=ab iQ;omega) ?_;intro v' w2 ho ep _ _;have mb:=al ho;have cS:=al (((ab HB).alloc (ab HB).size _).grown ep (by rw[zJ];have:=ab iQ;omega) (fun k e=>((ab HO).lt k e).1));clear ho ep)
   rw[←ab HT] at mb
   go_roundg (l.length-(i+1))
   case measure=>have:=ab bz;have:=ab bu;omega
   case rel=>exact ⟨i+1,by go_num,rfl,ab bu,mb,cS⟩
  ·obtain rfl:i=l.length:=by omega
   have hO:=ab HO
   rw[List.take_length] at hO
   have mb:=al hO
   clear hO
   go_wp2
   go_ret
   exact ⟨_,rfl,ab mb,ab HB⟩
end Go.Proofs.YtichhjfjcinjgaaGreatDoor
namespace Go.Proofs.YtichhjfjcinjgaaGreatDoor
open Go.RowKit
def gU (R:Nat→Prop) (w:World) (e:TypeId) (size:Nat) (v:Value) (n:Nat) (xs:List Value):Prop :=
 xs.length=n*size∧n≤140737488355328∧((v=.slice none 0 0∧n=0)∨∃g cap cur,v=.slice (some ⟨g,0,none⟩) n cap∧R g∧w.heap[g]?=some (.cells cur e (0,0))∧n≤cap∧cap≤maxLen∧cur.size=cap*size∧cur.toList.take (n*size)=xs)
def gR (R R':Nat→Prop) (w w':World):Prop:=∀g,R g→g<w.heap.size→w'.heap[g]?=w.heap[g]?∧R' g
theorem gR.trans {R R' R'':Nat→Prop}{u v w:World} (h:gR R R' u v) (k:gR R' R'' v w) (hs:u.heap.size≤v.heap.size):gR R R'' u w:=fun g hg hl =>
 ⟨(k g (h g hg hl).2 (Nat.lt_of_lt_of_le hl hs)).1.trans (h g hg hl).1,(k g (h g hg hl).2 (Nat.lt_of_lt_of_le hl hs)).2⟩
theorem gU.mono {R R':Nat→Prop}{w w':World}{e size n:Nat}{v:Value}{xs:List Value} (h:gU R w e size v n xs) (hs:gR R R' w w'):gU R' w' e size v n xs:=by
 obtain ⟨h1,h0,h|⟨g,cap,cur,rfl,h2,h3,h4⟩⟩:=h
 ·exact ⟨h1,h0,.inl h⟩
 ·have:=hs g h2 (zA h3).1
  exact ⟨h1,h0,.inr ⟨g,cap,cur,rfl,this.2,this.1.trans h3,h4⟩⟩
theorem gU.rl {R:Nat→Prop}{w:World}{e size n:Nat}{v:Value}{xs:List Value} (h:gU R w e size v n xs):Rl w v n xs:=by
 obtain ⟨h1,h0,⟨rfl,rfl⟩|⟨g,cap,cur,rfl,h2,h3,h4,h5,h6,h7⟩⟩:=h
 ·exact ⟨none,0,rfl,h0,fun h=>absurd h (by omega)⟩
 ·refine ⟨_,cap,rfl,h0,fun _=>⟨g,0,rfl,(zA h3).1,fun j x hx=>?_⟩⟩
  rw[Nat.zero_add,cell_of_row _ _ _ _ _ _ h3,←Array.getElem?_toList]
  rw[←h7,List.getElem?_take] at hx
  split at hx
  ·exact hx
  ·cases hx
theorem cB {B:Nat}{w:World}{e size n:Nat}{v:Value}{xs:List Value} (h:w.ownsRow B e size v n xs) (hn:n≤140737488355328):gU (fun g=>B≤g) w e size v n xs:=by
 obtain ⟨h1,h|⟨g,cap,cur,rfl,h2⟩⟩:=h
 ·exact ⟨h1,hn,.inl h⟩
 ·exact ⟨h1,hn,.inr ⟨g,cap,cur,rfl,h2⟩⟩
inductive pJ (R:Nat→Prop) (w:World):List Value→List En→Prop
 |nil:pJ R w [] []
 |cons {e:En} {vv vr vg:Value} {rest:List Value} {l:List En} (hv:gU R w 74 2 vv e.aR.length (rn e.aR)) (hr:gU R w 111 2 vr e.res.length (lj e.res)) (hg:gU R w 9 1 vg e.gone.length (cc e.gone)) (ht:pJ R w rest l):pJ R w (.string e.name::vv::vr::vg::rest) (e::l)
theorem pJ.mono {R R':Nat→Prop}{w w':World}{cs:List Value}{l:List En} (h:pJ R w cs l) (hs:gR R R' w w'):pJ R' w' cs l:=by
 induction h with
 |nil=>exact .nil
 |cons hv hr hg _ ih=>exact .cons (hv.mono hs) (hr.mono hs) (hg.mono hs) ih
theorem pJ.oE {R:Nat→Prop}{w:World}{cs:List Value}{l:List En} (h:pJ R w cs l):vO w cs l:=by
 induction h with
 |nil=>exact .nil
 |cons hv hr hg _ ih=>exact .cons hv.rl hr.rl hg.rl ih
theorem pJ.app {R:Nat→Prop}{w:World}{cs iU:List Value}{l l':List En} (h:pJ R w cs l) (k:pJ R w iU l'):pJ R w (cs++iU) (l++l'):=by
 induction h with
 |nil=>exact k
 |cons hv hr hg _ ih=>exact .cons hv hr hg ih
inductive pG (R:Nat→Prop) (w:World):List Value→List Ms→Prop
 |nil:pG R w [] []
 |cons {nm:ByteArray} {fs:List Fd} {os:List ByteArray} {ms:List Ms} {es:List En} {rs:List (Int×Int)} {gs:List ByteArray} {vf vo vm ve vr vg:Value} {cm ce rest:List Value} {l:List Ms}
   (hf:gU R w 42 6 vf fs.length (fB fs)) (ho:gU R w 9 1 vo os.length (cc os)) (hm:gU R w 46 7 vm ms.length cm) (eo:pG R w cm ms) (he:gU R w 67 4 ve es.length ce) (fA:pJ R w ce es)
   (hr:gU R w 111 2 vr rs.length (lj rs)) (hg:gU R w 9 1 vg gs.length (cc gs)) (ht:pG R w rest l):pG R w (.string nm::vf::vo::vm::ve::vr::vg::rest) (.mk nm fs os ms es rs gs::l)
theorem pG.mono {R R':Nat→Prop}{w w':World}{cs:List Value}{l:List Ms} (h:pG R w cs l) (hs:gR R R' w w'):pG R' w' cs l:=by
 induction h with
 |nil=>exact .nil
 |cons hf ho hm _ he fA hr hg _ Cv AJ=>exact .cons (hf.mono hs) (ho.mono hs) (hm.mono hs) Cv (he.mono hs) (fA.mono hs) (hr.mono hs) (hg.mono hs) AJ
theorem pG.oE {R:Nat→Prop}{w:World}{cs:List Value}{l:List Ms} (h:pG R w cs l):tH w cs l:=by
 induction h with
 |nil=>exact .nil
 |cons hf ho hm _ he fA hr hg _ Cv AJ=>exact .cons hf.rl ho.rl hm.rl Cv he.rl fA.oE hr.rl hg.rl AJ
theorem pG.app {R:Nat→Prop}{w:World}{cs iU:List Value}{l l':List Ms} (h:pG R w cs l) (k:pG R w iU l'):pG R w (cs++iU) (l++l'):=by
 induction h with
 |nil=>exact k
 |cons hf ho hm eo he fA hr hg _ _ AJ=>exact .cons hf ho hm eo he fA hr hg AJ
theorem aB {R:Nat→Prop}{w w':World} (hb:Below w.heap.size w w'):gR R R w w':=fun g hg hl=>⟨hb.block g hl,hg⟩
theorem gr {R:Nat→Prop}{w w':World}{k:Option Nat} (hg:w.grownBy w' k) (hk:∀g,R g→k≠some g):gR R R w w':=fun g h hl=>⟨hg.block g hl (fun e=>hk g h e.symm),h⟩
theorem lB {P:Program}{w:World}{ops:Array Oper}{o:Oper}{a:Act}{K:Act→World→Prop}{Q:Exit→Act→World→Prop}{E:Prop} (x0:Tmp) (Cx:o.dst=some x0) (Bz:o.guard=none) (s x:Operand) (t:TypeId)
  (ho:o.op=.call { callee:=.builtin .append,args:=#[s,x],argTypes:=#[t,t] })
  (base:Nat) (e:TypeId) (i:TypeInfo) (z:Value) (size bytes:Nat) (ht:P.underlying t=some (.slice e)) (hi:P.info? e=some i) (hz:i.zero=some z)
  (uM:i.size=size) (ey:i.bytes=bytes) (hzs:z.cells.size=size) (kI:0<size)
  (v:Value) (n:Nat) (xs:List Value) (hs:a.eval s=v) (gJ:w.ownsRow base e size v n xs)
  (ad:Addr) (m c:Nat) (news:List Value) (hx:a.eval x=.slice (some ad) m c) (hl:news.length=m*size) (RW:∀j u,news[j]?=some u→w.cell? (ad.add j)=some u) (h1:∀u ∈ news,u.oneCell'=true)
  (Qe:n+m≤maxLen) (uS:(n+m)*bytes≤140737488355328) (AT:base≤w.heap.size)
  (h:∀v' w',w'.ownsRow base e size v' (n+m) (xs++news)→w.grownBy w' v.ownBlock→(v'.ownBlock=v.ownBlock∨v'.ownBlock=some w.heap.size)→K (a.put (some x0) v') w') :
  if Region.wanted o (yielded ops a.tmps)=true then Oper.wp P o a w K Q else E:=by
 rw[←Cx] at h
 have hw:Region.wanted o (yielded ops a.tmps)=true:=by simp[Region.wanted,Bz]
 rw[if_pos hw]
 obtain ⟨v',w',hr,h2,h3,h4,h5⟩:=run_append_own_at (P:=P) w base t o.type e i z size bytes ht hi hz uM ey hzs kI v n xs gJ ad m c news hl RW h1 Qe uS AT
 unfold Oper.wp execOp
 simp only[ho,resolve,invoke,builtin,Sem.run_bind,Sem.run_pure,Result.andThen_ok,List.map_toArray,List.map_cons,List.map_nil,hs,hx,hr]
 exact h v' w' h2 h3 h5
end Go.Proofs.YtichhjfjcinjgaaGreatDoor
