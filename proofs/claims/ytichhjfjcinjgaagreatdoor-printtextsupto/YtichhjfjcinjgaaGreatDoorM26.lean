import Derived.Test.YtichhjfjcinjgaaGreatDoorM25
import Derived.WalkMore
import Derived.Shelf.Pu.Clone
set_option maxHeartbeats 8000000
set_option maxRecDepth 100000
namespace Go.Proofs.YtichhjfjcinjgaaGreatDoor
open Go.RowKit
attribute [local go_sem ↓] Go.wp_at_zero Go.wp_at_succ
theorem yR {P:Program}{ops:Array Oper}{o:Oper}{a:Act}{w:World}{K:Act→World→Prop}{Q:Exit→Act→World→Prop}{E:Prop} (x:Tmp) (hx:o.dst=some x) (A2:o.guard=none) (f:FuncId) (EE:∀vs,(callFunc f vs).run P w=.ok (.enter f vs) w) (fo:Operand) (args:Array Operand) (Fo:Array TypeId)
  (ho:o.op=.call { callee:=.value fo,args:=args,argTypes:=Fo }) (dT:a.eval fo=.func (.func f) #[] #[]) (vs:Array Value) (hv:args.map a.eval=vs) {R:Ending→World→Prop} (hc:Calls P f vs w R) (hK:∀e w',R e w'→∃v,e=.returned v∧K (a.put (some x) v) w') :
  if Region.wanted o (yielded ops a.tmps)=true then Oper.wp P o a w K Q else E:=by
 have hw:Region.wanted o (yielded ops a.tmps)=true:=by simp[Region.wanted,A2]
 rw[if_pos hw]
 have h2:Oper.wp P o a w K Q=o.upon P a K Q (.ok (.enter f vs) w):=by
  unfold Oper.wp
  simp[execOp,ho,resolve,invoke,←hv,dT,Deferred.ofValue,EE]
 rw[h2,Oper.upon_enter]
 refine hc.mono ?_
 intro e w' hr
 obtain ⟨v,rfl,hk⟩:=hK e w' hr
 rw[hx]
 exact hk
theorem C0 {B B':Nat}{W:World}{e:TypeId}{z m:Nat}{v:Value}{xs:List Value} (h:W.ownsRow B e z v m xs) (hb:B'≤B):W.ownsRow B' e z v m xs:=by
 obtain ⟨h1,⟨rfl,h0⟩|⟨g,c,cur,rfl,h2,h3⟩⟩:=h
 ·exact ⟨h1,.inl ⟨rfl,h0⟩⟩
 ·exact ⟨h1,.inr ⟨g,c,cur,rfl,Nat.le_trans hb h2,h3⟩⟩
def WY (s:ByteArray) (b:Nat) (n0:Nat) (w:World) (e:Ending):List Tok ⊕ (Nat×Nat)→Prop
 |.inl ts=>e=.returned (.int .i64 0)∧∃(k:Nat) (v':Value),cK w b s k v'∧w.ownsRow n0 107 3 v' ts.length (dS ts)
 |.inr (k,c)=>c≠0∧e=.returned (.int .i64 (c:Int))∧∃v',cK w b s k v'
def Lk (s:ByteArray) (b:Nat) (W:World) (e:Ending) (w:World):Prop:=BX W.heap.size b W w∧WY s b W.heap.size w e (tk s 0 0)
theorem Lk.ret {s:ByteArray}{b:Nat}{W w:World}{e:Ending} (h:Lk s b W e w):∃c:Int,e=.returned (.int .i64 c):=by
 have h2:=h.2
 cases hr:tk s 0 0 with
 |inl ts=>rw[hr] at h2;exact ⟨0,h2.1⟩
 |inr p=>obtain ⟨k,c⟩:=p;rw[hr] at h2;exact ⟨(c:Int),h2.2.1⟩
theorem BX.mono {B B' b:Nat}{u w:World} (h:BX B b u w) (hB:B'≤B):BX B' b u w:=⟨h.os,h.tape,h.output,h.size,fun q hq hb=>h.block q (by omega) hb⟩
theorem Cl (p q:List Tok) (x:List Tok ⊕ (Nat×Nat)):gY p (gY q x)=gY (p++q) x:=by
 cases x with
 |inl l=>simp[gY]
 |inr e=>rfl
theorem nT {W:World}{B n:Nat}{e:TypeId}{z:Nat}{v:Value}{xs:List Value} (h:W.ownsRow B e z v n xs):∃a c,v=.slice a n c:=by
 obtain ⟨_,⟨e,h0⟩|⟨g,c,_,e,_⟩⟩:=h
 ·exact ⟨none,0,by rw[e,h0]⟩
 ·exact ⟨_,_,e⟩
theorem D7 {W:World}{B b g c n i:Nat}{e:TypeId}{xs:List Value}{u:Value} (Cb:g≠b) (h:W.ownsRow B e 3 (.slice (some ⟨g,0,none⟩) n c) n xs):(W.setCell ⟨b,i,none⟩ u).ownsRow B e 3 (.slice (some ⟨g,0,none⟩) n c) n xs:=by
 obtain ⟨h1,⟨q,_⟩|⟨g',cap,cur,e1,h3,h4,h5⟩⟩:=h
 ·cases q
 ·refine ⟨h1,.inr ⟨g',cap,cur,e1,h3,?_,h5⟩⟩
  have eg:g'=g:=by injection e1 with e1;injection e1 with e1;injection e1 with e1;exact e1.symm
  subst eg
  exact (heap_setCell_other W ⟨b,i,none⟩ g' u (by simpa using Cb)).trans h4
theorem J4 {W0 W:World}{b:Nat}{s:ByteArray} (hE:jW W0) (hM:iB W0) (h0:Below W0.heap.size W0 W) (hb:W0.heap.size≤b) (h:cK W b s 0 (.slice none 0 0)) (hs:s.size≤65536) :
  Calls Tryz.prog 48 #[.pointer (some ⟨b,0,none⟩)] W (Lk s b W):=by
 obtain ⟨i0,hi,gf,fX,dY⟩:=info_parts Tryz.xG
 have wu:=h.lt
 have Hh:=al h
 have HE:=al hE
 have HM:=al hM
 have H0:=al h0
 clear h hE hM h0
 go_enter Tryz.func48,Tryz.ntmps48
 go_wp2
 go_step3
 go_wp2_with fail
 refine (D1 W).mono ?_
 rintro e w1 ⟨rfl,aY⟩
 have hX:=aY.size
 have Xy:Hid (Below W.heap.size W ((w1.alloc (.cells #[.nilFunc,.nilFunc,.nilFunc,.nilFunc,.nilFunc,.nilFunc,.nilFunc] 137)).setCells w1.heap.size 0 bQ)):=jQ hX _ _ _ (aY.alloc hX _)
 have ym:=al (Hk w1)
 have Q0:((w1.alloc (.cells #[.nilFunc,.nilFunc,.nilFunc,.nilFunc,.nilFunc,.nilFunc,.nilFunc] 137)).setCells w1.heap.size 0 bQ).heap.size=w1.heap.size+1:=by rw[mP,zJ]
 have Ot:=al Q0
 have QY:=FU w1
 obtain ⟨A,hA,NI⟩:∃A,bQ.toArray=A∧Z1 A:=⟨_,rfl,JV⟩
 have ZK:A.toList=bQ:=by rw[←hA]
 rw[hA] at QY ⊢
 rw[←ZK] at Xy ym Ot
 have Zn:=NI.info
 have mJ:=NI.one
 clear aY hA ZK Q0 NI
 go_wp2_with (refine wpList_store_mid rfl 137 (.tmp 3) (.tmp 4) rfl w1.heap.size 0 A rfl rfl QY Zn mJ ?_)
 generalize (w1.alloc (.cells #[.nilFunc,.nilFunc,.nilFunc,.nilFunc,.nilFunc,.nilFunc,.nilFunc] 137)).setCells w1.heap.size 0 A.toList=X at *
 obtain ⟨tb,QZ⟩:∃tb,w1.heap.size=tb:=⟨_,rfl⟩
 rw[QZ] at ym Ot hX ⊢
 clear QY Zn mJ QZ
 have hBX:X.heap.size=tb+1:=ab Ot
 have DM:Hid (cK X b s 0 (.slice none 0 0)):=(ab Hh).up (ab Xy)
 have AM:Hid (X.ownsRow X.heap.size 107 3 (.slice none 0 0) 0 (dS [])):=⟨rfl,.inl ⟨rfl,rfl⟩⟩
 have KK:∀w,BX X.heap.size b X w→BX W.heap.size b W w:=fun w hw=>(BX.of (ab Xy) (zD _)).trans (hw.mono (by omega))
 have Hge:=al KK
 have YJ:∀w,BX X.heap.size b X w→Below W0.heap.size W0 w:=fun w hw=>(ab H0).trans ((KK w hw).below hb (by omega))
 have Z7:=al YJ
 clear KK YJ
 go_wp2
 go_step3
 go_wp2
 simp only[Act.put]
 go_loopg [2] s.size (fun gk v2 wr=>∃(k n:Nat) (pre:List Tok) (va:Option Addr) (vc:Nat),v2=.int .i64 0∧gk=s.size-k∧k≤s.size∧n=pre.length∧n≤16383∧Hid (cK wr b s k (.slice va n vc))∧Hid (wr.ownsRow X.heap.size 107 3 (.slice va n vc) n (dS pre))∧Hid (tk s 0 0=gY pre (tk s k n))∧Hid (BX X.heap.size b X wr))
 case atStart=>exact ⟨0,0,[],none,0,rfl,rfl,by omega,rfl,by omega,DM,AM,(lb _).symm,BX.refl _ _ _⟩
 case round =>
  obtain ⟨k,n,pre,va,vc,rfl,aU,hk,hn,Dj,HS,HR,Hq,HB⟩:=hrel
  have bz:=al aU
  have Hn:=al hn
  clear aU hn DM AM
  have c0:=(ab HS).c0
  have c1:=(ab HS).c1
  have Pz:b<wr.heap.size:=(ab HS).lt
  have RO:Lr wr tb:=((ab HB).block tb (by omega) (by omega)).trans (ab ym)
  have HTw:=al RO
  clear RO
  have Wg:X.heap.size≤wr.heap.size:=(ab HB).size
  by_cases aM:k<s.size
  ·have qk:((k:Int)==(s.size:Int))=false:=beq_eq_false_iff_ne.2 (by omega)
   obtain ⟨x,hx⟩:∃x:Nat,s[k].toNat=x:=⟨_,rfl⟩
   have dL:aD s k=x:=(df s k aM).trans hx
   have cY:x<256:=by rw[←dL];exact du s k
   have k0:(0:Int)≤(k:Int):=zH _
   have k1:(k:Int)<(s.size:Int):=by omega
   have kk:Hid (∀m,Calls Tryz.prog (Bh (cls (aD s k))) #[.pointer (some ⟨b,0,none⟩)] (wr.drewN m) (fZ X.heap.size b s k n (dS pre) (wr.drewN m))):=fun m=>D3 ((ab HE).up (below_drewN (ab Z7 wr (ab HB)) m)) ((ab HM).up (below_drewN (ab Z7 wr (ab HB)) m) (ab HM).1) ⟨ab HS,by omega,Wg,ab HR,aM,hs,Dj⟩
   have ND:∀m,Calls Tryz.prog 95 #[.int .u8 (x:Int)] (wr.drewN m) fun e w=>e=.returned (.int .i64 (cls x:Int))∧w=wr.drewN m:=fun m=>iz _ x cY
   have PY:=al ND
   have Tp:=N6 x
   rw[dL] at kk
   obtain ⟨c,hc⟩:∃c,cls x=c:=⟨_,rfl⟩
   rw[hc] at kk PY Tp
   have LZ:=(ab HTw).cell c Tp
   have cc0:(0:Int)≤(c:Int):=zH _
   have cc1:(c:Int)<7:=by omega
   have Hc7:=al Tp
   clear ND dL hc Tp
   go_wp2
   go_quiet (fail)
   go_wp2_with fail
   go_region_law (first|(refine tu 38 rfl rfl 95 (E1 _) #[.tmp 37] #[5] rfl #[.int .u8 (x:Int)] (by first|rfl|simp[Act.eval]) (ab PY _) ?_;rintro o7 w7 ⟨rfl,rfl⟩;refine ⟨_,rfl,?_⟩)|(refine yR 42 rfl rfl (Bh c) (fun vs=>EZ _ vs c (ab Hc7)) (.tmp 40) #[.tmp 41] #[134] rfl (by first|rfl|simp[Act.eval]) #[.pointer (some ⟨b,0,none⟩)] (by first|rfl|simp[Act.eval]) (ab kk _) ?_;intro o9 w9 Rb;obtain ⟨z9,rfl⟩:=Rb.ret;refine ⟨_,rfl,?_⟩;have Xe:=al Rb;clear Rb))
   all_goals (
    rcases ab Xe with ⟨KM,⟨e9,k',ts,v',s1,s2,s3,s4,s5,s6⟩|⟨c',v',n9,e9,s1,s2⟩⟩
    ·obtain rfl:z9=0:=by injection e9 with e9;injection e9
     obtain ⟨a',c',rfl⟩:=nT s2
     have uZ:Hid (BX X.heap.size b X w9):=(ab HB).trans ((BX.of (below_drewN (zE wr.heap.size wr) _) Wg).trans KM)
     have HS9:=al s1
     have Fe:Hid (w9.ownsRow X.heap.size 107 3 (.slice a' (n+ts.length) c') (n+ts.length) (dS (pre++ts))):=by rw[kU];exact s2
     have Hq0:Hid (tk s 0 0=gY (pre++ts) (tk s k' (n+ts.length))):=by show _=_;rw[ab Hq,s6,Cl]
     clear e9 s1 s2 s6 KM Xe HB HS HR Hq
     go_wp2
     go_roundg (s.size-k')
     case measure=>have:=ab bz;omega
     case rel=>exact ⟨k',n+ts.length,pre++ts,a',c',rfl,rfl,s4,by have:=ab Hn;rw[zK,this],s5,HS9,Fe,Hq0,uZ⟩
    ·obtain rfl:z9=(c':Int):=by injection e9 with e9;injection e9
     have uZ:Hid (BX X.heap.size b X w9):=(ab HB).trans ((BX.of (below_drewN (zE wr.heap.size wr) _) Wg).trans KM)
     have pR:Hid (Lk s b W (.returned (.int .i64 (c':Int))) w9):=⟨ab Hge _ (ab uZ),by rw[ab Hq,s2];exact ⟨n9,rfl,v',s1⟩⟩
     have q9:((c':Int) != 0)=true:=by simp;omega
     clear e9 s1 s2 KM Xe HB HS HR Hq uZ
     go_wp2
     try rw[Exit.noGoto_ret]
     go_ret
     exact ab pR)
  ·obtain rfl:k=s.size:=by omega
   have qk:((s.size:Int)==(s.size:Int))=true:=by simp
   have Wc:∀(n':Nat) (ob:Obj),((wr.drewN n').alloc ob).cell? ⟨b,2,none⟩=some (.slice va n vc):=fun n' ob=>cK.c2 (s:=s) (k:=s.size) ((Below.heap_alloc wr ob b Pz).trans (ab HS))
   have c2:=(ab HS).c2
   have fB:∀(n':Nat) (ob:Obj),((wr.drewN n').alloc ob).heap.size=wr.heap.size+1:=fun n' ob=>zJ _ _
   have uL:=al fB
   have O1:Hid (n+1≤maxLen):=by show _≤_;unfold maxLen;omega
   have O2:Hid ((n+1)*32≤140737488355328):=by show _≤_;omega
   have QV:(Value.slice va n vc).ownBlock≠some b:=fun e=>by have:=((ab HR).lt b e).1;omega
   have Htk:Hid (tk s 0 0=.inl (pre++[⟨5,s.size,⟨#[]⟩⟩])):=by show _=_;rw[ab Hq,MG];rfl
   clear fB Hq HTw aM
   go_wp2
   go_quiet (fail)
   go_wp2_with fail
   go_region_law (first|(refine step_append_lies _ rfl (.tmp 19) (.tmp 25) 51 rfl X.heap.size 107 i0 (.agg #[.int .i64 0,.int .i64 0,.string ⟨#[]⟩]) 3 32 Tryz.underlying51 hi gf fX dY rfl (by decide) (.slice va n vc) n (dS pre) (by first|rfl|simp[Act.eval]) ((ab HR).alloc _) ⟨wr.heap.size,0,none⟩ 1 1 [.int .i64 5,.int .i64 (s.size:Int),.string ⟨#[]⟩] (by first|rfl|simp[Act.eval]) rfl (fun j u hj=>zy _ #[.int .i64 5,.int .i64 (s.size:Int),.string ⟨#[]⟩] 107 j u hj) (by simp[Value.oneCell']) (by decide) (ab O1) (ab O2) (by rw[ab uL];omega) (wr.heap.size+1) (ab uL _ _) ?_;intro g9 c9 w9 Af ni G9 VX;have l9:w9.heap[b]?=wr.heap[b]?:=(ni.block b (by rw[ab uL];omega) (fun e=>QV e.symm)).trans (Below.heap_alloc wr _ b Pz);have GM:cK w9 b s s.size (.slice va n vc):=l9.trans (ab HS);have c29:=GM.c2;have f29:=ig 2 GM;have gb:g9≠b:=(fun e=>G9.elim (fun q=>QV (by rw[q,e])) (fun q=>by omega));have Xd:=al GM;have iA:=al Af;have uZ:Hid (BX X.heap.size b X w9):=(ab HB).trans ⟨ni.os,ni.tape,ni.output,(by have:=ni.size;rw[ab uL] at this;omega),fun q hq _=>(ni.block q (by rw[ab uL];omega) (fun e=>by have:=((ab HR).lt q e.symm).1;omega)).trans (Below.heap_alloc wr _ q (by omega))⟩;clear Af ni G9 l9 GM))
   all_goals go_wp2
   all_goals try rw[Exit.noGoto_ret]
   all_goals go_ret
   all_goals refine ⟨ab Hge _ ((ab uZ).set 2 _),?_⟩
   all_goals rw[ab Htk]
   all_goals refine ⟨rfl,s.size,.slice (some ⟨g9,0,none⟩) (n+1) c9,heap_setCell_same _ b 2 _ _ _ (ab Xd),?_⟩
   all_goals rw[kU,zK,←ab Hn]
   all_goals exact C0 (D7 gb (ab iA)) (by omega)
end Go.Proofs.YtichhjfjcinjgaaGreatDoor
namespace Go.Proofs
open Go.Shelf
def Tryz.xD:Go.Shelf.Ren:=⟨fun|25=>93|n=>n,fun|9=>9|3=>3|4=>4|37=>58|0=>0|47=>162|5=>5|n=>n,fun|n=>n⟩
theorem Tryz.GA:Go.Proofs.LaysPu.n25 Tryz.prog Tryz.xD:={
 mixed:=by kernel_rfl
 f25:=Tryz.func93.trans (congrArg some (by kernel_rfl))
 t0:=Tryz.underlying0
 a0:=Tryz.isAgg0
 z0:=Tryz.sizeOf0
 v0:=Tryz.zeroValue0
 i0:=by kernel_rfl
 t3:=Tryz.underlying3
 a3:=Tryz.isAgg3
 z3:=Tryz.sizeOf3
 v3:=Tryz.zeroValue3
 i3:=by kernel_rfl
 t4:=Tryz.underlying4
 a4:=Tryz.isAgg4
 z4:=Tryz.sizeOf4
 v4:=Tryz.zeroValue4
 i4:=by kernel_rfl
 t5:=Tryz.underlying5
 a5:=Tryz.isAgg5
 z5:=Tryz.sizeOf5
 v5:=Tryz.zeroValue5
 i5:=by kernel_rfl
 t9:=Tryz.underlying9
 a9:=Tryz.isAgg9
 z9:=Tryz.sizeOf9
 v9:=Tryz.zeroValue9
 i9:=by kernel_rfl
 t37:=Tryz.underlying58
 a37:=Tryz.isAgg58
 z37:=Tryz.sizeOf58
 v37:=Tryz.zeroValue58
 i37:=by kernel_rfl
 t47:=Tryz.underlying162
 a47:=Tryz.isAgg162
 z47:=Tryz.sizeOf162
 v47:=Tryz.zeroValue162
 i47:=by kernel_rfl }
end Go.Proofs
namespace Go.Proofs.YtichhjfjcinjgaaGreatDoor
open Go.RowKit
attribute [local go_sem ↓] Go.wp_at_zero Go.wp_at_succ
theorem Ct (W:World) (s:ByteArray) (h:s.size≤281474976710656):Calls Tryz.prog 93 #[.string s] W fun e w=>e=.returned (.string s)∧Below W.heap.size W w:=AnyPu.stringslite_Clone Tryz.GA s W h
theorem EW (W:World) (s:ByteArray) (h:s.size≤281474976710656):Calls Tryz.prog 47 #[.string s] W fun e w=>e=.returned (.string s)∧Below W.heap.size W w:=by
 go_enter Tryz.func47,Tryz.ntmps47
 go_wp2_with fail
 refine (Ct W s h).mono ?_
 rintro e w ⟨rfl,hb⟩
 have Hb:=al hb
 clear hb
 go_wp2
 go_ret
 exact ⟨rfl,ab Hb⟩
def uI (n0:Nat) (w:World) (e:Ending):List Tok ⊕ (Nat×Nat)→Prop
 |.inl ts=>∃v,e=.returned (.tuple #[v,.int .i64 0,.int .i64 0])∧w.ownsRow n0 107 3 v ts.length (dS ts)
 |.inr (k,c)=>c≠0∧e=.returned (.tuple #[.slice none 0 0,.int .i64 (k:Int),.int .i64 (c:Int)])
def IU (s:ByteArray) (W:World) (e:Ending) (w:World):Prop:=Below W.heap.size W w∧uI W.heap.size w e (jA s)
theorem pn {s:ByteArray} (h:65536<s.size):jA s=.inr (0,2):=by unfold jA;rw[if_pos h]
theorem yM {s:ByteArray} (h:¬65536<s.size) (h2:0≤cW s 0):jA s=.inr ((cW s 0).toNat,44):=by unfold jA;rw[if_neg h,if_pos h2]
theorem CJ {s:ByteArray} (h:¬65536<s.size) (h2:¬0≤cW s 0):jA s=tk s 0 0:=by unfold jA;rw[if_neg h,if_neg h2]
theorem Be {W:World} (hF:jw W) (hE:jW W) (hM:iB W) (s:ByteArray):Calls Tryz.prog 21 #[.string s] W (IU s W):=by
 have bJ:=zE W.heap.size W
 by_cases h0:65536<s.size
 ·have Hr:=al (pn h0)
  have e0:=QJ (a:=s.size) (k:=65536) (by omega)
  clear h0
  go_enter Tryz.func21,Tryz.ntmps21
  go_wp2
  go_ret3
  exact ⟨bJ,by rw[ab Hr];exact ⟨by decide,rfl⟩⟩
 ·have e0:=QK (a:=s.size) (k:=65536) (by omega)
  have hs:s.size≤65536:=by omega
  have H0:=al h0
  clear h0
  go_enter Tryz.func21,Tryz.ntmps21
  go_wp2_with fail
  refine (yI hF s (by omega)).mono ?_
  rintro e w1 ⟨rfl,aY⟩
  have yk:=al aY
  clear aY bJ
  by_cases h1:0≤cW s 0
  ·have Hr:=al (yM (ab H0) h1)
   obtain ⟨u,hu⟩:∃u:Nat,cW s 0=(u:Int):=⟨(cW s 0).toNat,by omega⟩
   rw[hu] at Hr ⊢
   have e1:decide (0≤(u:Int))=true:=by simp
   clear hu h1
   go_wp2
   go_ret3
   exact ⟨ab yk,by rw[ab Hr];exact ⟨by decide,rfl⟩⟩
  ·have Hr:=al (CJ (ab H0) h1)
   obtain ⟨u,hu⟩:∃u,u=cW s 0:=⟨_,rfl⟩
   rw[←hu] at h1 ⊢
   have e1:decide (0≤u)=false:=by simp;omega
   have HE:=al hE
   have HM:=al hM
   clear hu h1 hE hM
   go_wp2_with fail
   refine (EW w1 s (by omega)).mono ?_
   rintro e w2 ⟨rfl,bd⟩
   have uV:Hid (Below W.heap.size W w2):=(ab yk).trans (bd.mono (ab yk).size)
   clear bd
   go_wp2_with fail
   have hr:=J4 (W0:=W) (W:=w2.alloc (.cells #[.string s,.int .i64 0,.slice none 0 0] 94)) (b:=w2.heap.size) (s:=s) (ab HE) (ab HM) ((ab uV).alloc (ab uV).size _) (ab uV).size (aK w2 _) hs
   have Xb:=al (zJ w2 (.cells #[.string s,.int .i64 0,.slice none 0 0] 94))
   have iE:Hid (Below W.heap.size W (w2.alloc (.cells #[.string s,.int .i64 0,.slice none 0 0] 94))):=(ab uV).alloc (ab uV).size _
   have hle:=(ab uV).size
   have hb:∃b,w2.heap.size=b:=⟨_,rfl⟩
   obtain ⟨b,hb⟩:=hb
   rw[hb] at hr Xb hle ⊢
   generalize w2.alloc (.cells #[.string s,.int .i64 0,.slice none 0 0] 94)=V at *
   clear hb uV
   refine hr.mono ?_
   rintro e w3 ⟨hx,hq⟩
   have RX:Below W.heap.size W w3:=(ab iE).trans (hx.below hle (ab iE).size)
   have dX:=al RX
   have NH:V.heap.size=b+1:=ab Xb
   cases ht:tk s 0 0 with
   |inl ts =>
    rw[ht] at hq
    obtain ⟨rfl,k,v',h1,h2⟩:=hq
    have c2:=h1.c2
    have pR:Hid (uI W.heap.size w3 (.returned (.tuple #[v',.int .i64 0,.int .i64 0])) (jA s)):=by
     show uI _ _ _ _
     rw[ab Hr,ht]
     exact ⟨v',rfl,C0 h2 (by omega)⟩
    obtain ⟨va,vc,rfl⟩:=nT h2
    clear h1 h2 hx RX ht Hr hr
    go_wp2
    go_ret3
    exact ⟨ab dX,ab pR⟩
   |inr p =>
    obtain ⟨k,c⟩:=p
    rw[ht] at hq
    obtain ⟨hc,rfl,v',h1⟩:=hq
    have c1:=h1.c1
    have pR:Hid (uI W.heap.size w3 (.returned (.tuple #[.slice none 0 0,.int .i64 (k:Int),.int .i64 (c:Int)])) (jA s)):=by
     show uI _ _ _ _
     rw[ab Hr,ht]
     exact ⟨hc,rfl⟩
    have q9:((c:Int) != 0)=true:=by simp;omega
    clear h1 hx RX ht Hr hr hc
    go_wp2
    go_quiet (fail)
    go_wp2
    go_ret3
    exact ⟨below_drewN (ab dX) _,ab pR⟩
noncomputable def kl (F:Fl):ByteArray×Int:=if (lB F).isSome then (match jA (gp (fx F)) with
  |.inl _=>(gp (fx F),0)
  |.inr _=>(⟨#[]⟩,2))
 else (⟨#[]⟩,60)
theorem lS {W:World}{v vi vm ve:Value}{F:Fl}{cm ce:List Value} (hM:iB W) (hE:jW W) (hP:iY W) (hF:jw W) (A5:A6 W v F vi vm ve cm ce) (lz:∀m ∈ F.ms,wV 32 m) :
  Calls Tryz.prog 8 #[v] W fun e w=>e=.returned (.tuple #[.string (kl F).1,.int .i64 (kl F).2])∧Below W.heap.size W w:=by
 have bJ:Below W.heap.size W (W.alloc (.cells #[.string F.kz,vi,vm,ve] 26)):=(zE _ _).alloc (zD _) _
 have k0:=aK W (.cells #[.string F.kz,vi,vm,ve] 26)
 obtain ⟨V,hV⟩:∃V,W.alloc (.cells #[.string F.kz,vi,vm,ve] 26)=V:=⟨_,rfl⟩
 rw[hV] at bJ k0
 have HR:=al (vk (hM.up bJ hM.1) (A5.up bJ) lz)
 have hv:=A5.is
 subst hv
 have HW:Hid ((lB F).isSome=true→∀w1,Below V.heap.size V w1→Calls Tryz.prog 20 #[.agg #[.string F.kz,vi,vm,ve]] w1 fun e w=>e=.returned (.string (gp (fx F)))∧Below w1.heap.size w1 w):=by
  intro h w1 hb
  obtain ⟨-,c1,c2,c3,c4,c5⟩:=wJ h
  exact yG ((hP.up bJ).up hb) ((hF.up bJ).up hb) ((A5.up bJ).up hb) c1 c2 c3 c4 c5 (wK F)
 have HT:Hid (∀w1,Below V.heap.size V w1→Calls Tryz.prog 21 #[.string (gp (fx F))] w1 (IU (gp (fx F)) w1)):=fun w1 hb =>
  Be ((hF.up bJ).up hb) ((hE.up bJ).up hb) ((hM.up bJ hM.1).up hb (hM.up bJ hM.1).1) _
 have HB:=al bJ
 have HK:=al k0
 obtain ⟨ai,ci,rfl,Th,-⟩:=A5.hi
 obtain ⟨am,dh,rfl,Jp,-⟩:=A5.hm
 obtain ⟨ae,dc,rfl,iG,-⟩:=A5.he
 have c0:V.cell? ⟨W.heap.size,0,none⟩=some (.string F.kz):=cell_of_row _ _ _ _ _ _ k0
 have c1:V.cell? ⟨W.heap.size,1,none⟩=some (.slice ai F.cT.length ci):=cell_of_row _ _ _ _ _ _ k0
 have c2:V.cell? ⟨W.heap.size,2,none⟩=some (.slice am F.ms.length dh):=cell_of_row _ _ _ _ _ _ k0
 have c3:V.cell? ⟨W.heap.size,3,none⟩=some (.slice ae F.es.length dc):=cell_of_row _ _ _ _ _ _ k0
 unfold kl
 obtain ⟨q,hq⟩:∃q,(lB F).isSome=q:=⟨_,rfl⟩
 obtain ⟨t,ht⟩:∃t,jA (gp (fx F))=t:=⟨_,rfl⟩
 obtain ⟨T,hT⟩:∃T,gp (fx F)=T:=⟨_,rfl⟩
 rw[hT] at HW HT ht
 rw[hq] at HR HW
 rw[hq,hT,ht]
 have Ht:=al ht
 have bu:=al (show W.heap.size<V.heap.size by rw[←hV,zJ];omega)
 clear hq hT ht hM hE hP hF A5 lz bJ k0
 cases q with
 |false =>
  clear HW HT Ht
  go_enter Tryz.func8,Tryz.ntmps8
  go_wp2_with fail
  refine (ab HR).mono ?_
  rintro e w1 ⟨rfl,aY⟩
  have HE:=al ((ab HB).trans (aY.mono (ab HB).size))
  clear aY HR HB
  go_wp2
  go_ret2
  exact ⟨rfl,ab HE⟩
 |true =>
  go_enter Tryz.func8,Tryz.ntmps8
  go_wp2_with fail
  refine (ab HR).mono ?_
  rintro e w1 ⟨rfl,aY⟩
  have hd:=(aY.block _ (ab bu)).trans (ab HK)
  have d0:w1.cell? ⟨W.heap.size,0,none⟩=some (.string F.kz):=cell_of_row _ _ _ _ _ _ hd
  have d1:w1.cell? ⟨W.heap.size,1,none⟩=some (.slice ai F.cT.length ci):=cell_of_row _ _ _ _ _ _ hd
  have d2:w1.cell? ⟨W.heap.size,2,none⟩=some (.slice am F.ms.length dh):=cell_of_row _ _ _ _ _ _ hd
  have d3:w1.cell? ⟨W.heap.size,3,none⟩=some (.slice ae F.es.length dc):=cell_of_row _ _ _ _ _ _ hd
  have sa:=al (ab HW trivial w1 aY)
  have cM:=al aY
  clear aY HR HW hd c0 c1 c2 c3
  go_wp2_with fail
  refine (ab sa).mono ?_
  rintro e w2 ⟨rfl,bd⟩
  have bd:=(ab cM).trans (bd.mono (ab cM).size)
  have nN:=al (ab HT w2 bd)
  have cP:=al bd
  clear bd HT sa cM d0 d1 d2 d3
  go_wp2_with fail
  refine (ab nN).mono ?_
  rintro e w3 ⟨cC,hA⟩
  have HE:=al ((ab HB).trans (((ab cP).trans (cC.mono (ab cP).size)).mono (ab HB).size))
  rw[ab Ht] at hA
  clear cC HB cP nN
  cases t with
  |inl ts =>
   obtain ⟨x,rfl,-⟩:=hA
   go_wp2
   go_ret2
   exact ⟨rfl,ab HE⟩
  |inr r =>
   obtain ⟨k,c⟩:=r
   obtain ⟨hc,rfl⟩:=hA
   have n0:((c:Int)==0)=false:=by simp;omega
   have n1:((c:Int) != 0)=true:=by simp;omega
   have n2:¬(c:Int)=0:=by omega
   go_wp2
   go_ret2
   exact ⟨rfl,ab HE⟩
theorem M9:(Tryz.prog.info? 111).map (fun i=>(i.zero,i.size,i.bytes))=some (some (.agg #[.int .i64 0,.int .i64 0]),2,16):=by kernel_rfl
theorem JS {l:List (Int×Int)}{i:Nat}{x:Int×Int} (h:l[i]?=some x):kO (l.take (i+1))=kO (l.take i)++[.int .i64 x.1,.int .i64 x.2]:=by
 rw[bL h]
 unfold kO
 rw[List.flatMap_append]
 simp
theorem wU (w:World) (x y:Value) (t:TypeId):∀j u,[x,y][j]?=some u→(w.alloc (.cells #[x,y] t)).cell? ((⟨w.heap.size,0,none⟩:Addr).add j)=some u:=by
 intro j u h
 match j with
 |0=>rw[show (⟨w.heap.size,0,none⟩:Addr).add 0=⟨w.heap.size,0,none⟩ from rfl,cell_of_row _ _ _ _ _ _ (aK w _)];exact h
 |1=>rw[show (⟨w.heap.size,0,none⟩:Addr).add 1=⟨w.heap.size,1,none⟩ from rfl,cell_of_row _ _ _ _ _ _ (aK w _)];exact h
 |j+2=>simp at h
theorem JR {l:List ByteArray}{i:Nat}{x:ByteArray} (h:l[i]?=some x):bY (l.take (i+1))=bY (l.take i)++[.string x]:=by
 rw[bL h]
 unfold bY
 simp
theorem mr {W:World}{v:Value}{l:List ByteArray} (hv:Rl W v l.length (bY l)) (hl:l.length*16≤140737488355328) (w0:World) (hw:Below W.heap.size W w0) :
  Calls Tryz.prog 16 #[v] w0 fun e w=>∃u,e=.returned u∧w.ownsRow w0.heap.size 9 1 u l.length (bY l)∧Below w0.heap.size w0 w:=by
 obtain ⟨a,c,rfl,hn,h2⟩:=hv
 obtain ⟨i0,hi,gf,fX,dY⟩:=info_parts BV
 have H2:=al h2
 have HW:=al hw
 have Hl:=al hl
 clear h2 hw hl
 go_enter Tryz.func16,Tryz.ntmps16
 go_wp2
 go_loopg [3,4] l.length (fun gk v3 v4 wr=>∃(i:Nat),v4=.int .i64 (i:Int)∧gk=l.length-i∧i≤l.length∧Hid (wr.ownsRow w0.heap.size 9 1 v3 i (bY (l.take i)))∧Hid (Below w0.heap.size w0 wr))
 case atStart=>exact ⟨0,rfl,rfl,by omega,⟨rfl,.inl ⟨rfl,rfl⟩⟩,zE _ _⟩
 case round =>
  obtain ⟨i,rfl,aU,eO,HO,HB⟩:=hrel
  have bz:=al aU
  clear aU
  by_cases aM:i<l.length
  ·obtain ⟨g,o,rfl,hg,hc⟩:=ab H2 (by omega)
   have hr:=List.getElem?_eq_getElem aM
   obtain ⟨r,tT⟩:∃r,l[i]=r:=⟨_,rfl⟩
   rw[tT] at hr
   have gN:=al (show Below W.heap.size W wr from (ab HW).trans ((ab HB).mono (ab HW).size))
   have x0:=((ab gN).cell (p:=⟨g,o+i,none⟩) hg).trans (hc _ _ (dO hr))
   have HT:=al (JR hr)
   have LM:(0:Int)≤(i:Int):=zH _
   have i1:(i:Int)<(l.length:Int):=by omega
   have bu:=al aM
   have iD:=al (ab HB).size
   clear hc hr tT gN aM
   go_wp2_with (at_builtin;refine wpList_append_own_at _ rfl _ _ 22 rfl w0.heap.size 9 i0 (.string ByteArray.empty) 1 16 Tryz.underlying22 hi gf fX dY rfl (by decide) _ _ _ rfl ((ab HO).alloc _) ⟨wr.heap.size,0,none⟩ 1 1 [.string r] rfl rfl (cell_one_new _ _ _) (by simp[Value.oneCell']) (by have:=ab bu;unfold maxLen;omega) (by have:=ab bu;have:=ab Hl;omega) (by rw[zJ];have:=ab iD;omega) ?_;intro v' w2 ho ed _ _;have lM:=al ho;have cP:=al (((ab HB).alloc (ab HB).size _).grown ed (by rw[zJ];have:=ab iD;omega) (fun k e=>((ab HO).lt k e).1));clear ho ed)
   rw[←ab HT] at lM
   go_roundg (l.length-(i+1))
   case measure=>have:=ab bz;have:=ab bu;omega
   case rel=>exact ⟨i+1,by go_num,rfl,ab bu,lM,cP⟩
  ·obtain rfl:i=l.length:=by omega
   have hO:=ab HO
   rw[List.take_length] at hO
   have lM:=al hO
   clear hO
   go_wp2
   go_ret
   exact ⟨_,rfl,ab lM,ab HB⟩
theorem tD {W:World}{v:Value}{l:List (Int×Int)} (hv:Rl W v l.length (kO l)) (hl:l.length*16≤140737488355328) (w0:World) (hw:Below W.heap.size W w0) :
  Calls Tryz.prog 33 #[v] w0 fun e w=>∃u,e=.returned u∧w.ownsRow w0.heap.size 111 2 u l.length (kO l)∧Below w0.heap.size w0 w:=by
 obtain ⟨a,c,rfl,hn,h2⟩:=hv
 obtain ⟨i0,hi,gf,fX,dY⟩:=info_parts M9
 have H2:=al h2
 have HW:=al hw
 have Hl:=al hl
 clear h2 hw hl
 go_enter Tryz.func33,Tryz.ntmps33
 go_wp2
 go_loopg [3,4] l.length (fun gk v3 v4 wr=>∃(i:Nat),v4=.int .i64 (i:Int)∧gk=l.length-i∧i≤l.length∧Hid (wr.ownsRow w0.heap.size 111 2 v3 i (kO (l.take i)))∧Hid (Below w0.heap.size w0 wr))
 case atStart=>exact ⟨0,rfl,rfl,by omega,⟨rfl,.inl ⟨rfl,rfl⟩⟩,zE _ _⟩
 case round =>
  obtain ⟨i,rfl,aU,eO,HO,HB⟩:=hrel
  have bz:=al aU
  clear aU
  by_cases aM:i<l.length
  ·obtain ⟨g,o,rfl,hg,hc⟩:=ab H2 (by omega)
   have hr:=List.getElem?_eq_getElem aM
   obtain ⟨r,tT⟩:∃r,l[i]=r:=⟨_,rfl⟩
   rw[tT] at hr
   have gN:=al (show Below W.heap.size W wr from (ab HW).trans ((ab HB).mono (ab HW).size))
   have x0:=((ab gN).cell (p:=⟨g,o+(i*2+0),none⟩) hg).trans (hc _ _ (gz hr (j:=0) (by decide)))
   have x1:=((ab gN).cell (p:=⟨g,o+(i*2+1),none⟩) hg).trans (hc _ _ (gz hr (j:=1) (by decide)))
   rw[Nat.add_zero] at x0
   rw[←Nat.add_assoc] at x1
   have HT:=al (JS hr)
   have LM:(0:Int)≤(i:Int):=zH _
   have i1:(i:Int)<(l.length:Int):=by omega
   have bu:=al aM
   have iD:=al (ab HB).size
   clear hc hr tT gN aM
   go_wp2_with (at_builtin;refine wpList_append_own_at _ rfl _ _ 44 rfl w0.heap.size 111 i0 (.agg #[.int .i64 0,.int .i64 0]) 2 16 Tryz.underlying44 hi gf fX dY rfl (by decide) _ _ _ rfl ((ab HO).alloc _) ⟨wr.heap.size,0,none⟩ 1 1 [.int .i64 r.1,.int .i64 r.2] rfl rfl (wU _ _ _ _) (by simp[Value.oneCell']) (by have:=ab bu;unfold maxLen;omega) (by have:=ab bu;have:=ab Hl;omega) (by rw[zJ];have:=ab iD;omega) ?_;intro v' w2 ho ed _ _;have lM:=al ho;have cP:=al (((ab HB).alloc (ab HB).size _).grown ed (by rw[zJ];have:=ab iD;omega) (fun k e=>((ab HO).lt k e).1));clear ho ed)
   rw[←ab HT] at lM
   go_roundg (l.length-(i+1))
   case measure=>have:=ab bz;have:=ab bu;omega
   case rel=>exact ⟨i+1,by go_num,rfl,ab bu,lM,cP⟩
  ·obtain rfl:i=l.length:=by omega
   have hO:=ab HO
   rw[List.take_length] at hO
   have lM:=al hO
   clear hO
   go_wp2
   go_ret
   exact ⟨_,rfl,ab lM,ab HB⟩
end Go.Proofs.YtichhjfjcinjgaaGreatDoor
namespace Go.Proofs.YtichhjfjcinjgaaGreatDoor
open Go.RowKit
def gM (R:Nat→Prop) (w:World) (e:TypeId) (size:Nat) (v:Value) (n:Nat) (xs:List Value):Prop :=
 xs.length=n*size∧n≤140737488355328∧((v=.slice none 0 0∧n=0)∨∃g cap cur,v=.slice (some ⟨g,0,none⟩) n cap∧R g∧w.heap[g]?=some (.cells cur e (0,0))∧n≤cap∧cap≤maxLen∧cur.size=cap*size∧cur.toList.take (n*size)=xs)
def gK (R R':Nat→Prop) (w w':World):Prop:=∀g,R g→g<w.heap.size→w'.heap[g]?=w.heap[g]?∧R' g
theorem gK.trans {R R' R'':Nat→Prop}{u v w:World} (h:gK R R' u v) (k:gK R' R'' v w) (hs:u.heap.size≤v.heap.size):gK R R'' u w:=fun g hg hl =>
 ⟨(k g (h g hg hl).2 (Nat.lt_of_lt_of_le hl hs)).1.trans (h g hg hl).1,(k g (h g hg hl).2 (Nat.lt_of_lt_of_le hl hs)).2⟩
theorem gM.mono {R R':Nat→Prop}{w w':World}{e size n:Nat}{v:Value}{xs:List Value} (h:gM R w e size v n xs) (hs:gK R R' w w'):gM R' w' e size v n xs:=by
 obtain ⟨h1,h0,h|⟨g,cap,cur,rfl,h2,h3,h4⟩⟩:=h
 ·exact ⟨h1,h0,.inl h⟩
 ·have:=hs g h2 (zA h3).1
  exact ⟨h1,h0,.inr ⟨g,cap,cur,rfl,this.2,this.1.trans h3,h4⟩⟩
theorem gM.rl {R:Nat→Prop}{w:World}{e size n:Nat}{v:Value}{xs:List Value} (h:gM R w e size v n xs):Rl w v n xs:=by
 obtain ⟨h1,h0,⟨rfl,rfl⟩|⟨g,cap,cur,rfl,h2,h3,h4,h5,h6,h7⟩⟩:=h
 ·exact ⟨none,0,rfl,h0,fun h=>absurd h (by omega)⟩
 ·refine ⟨_,cap,rfl,h0,fun _=>⟨g,0,rfl,(zA h3).1,fun j x hx=>?_⟩⟩
  rw[Nat.zero_add,cell_of_row _ _ _ _ _ _ h3,←Array.getElem?_toList]
  rw[←h7,List.getElem?_take] at hx
  split at hx
  ·exact hx
  ·cases hx
theorem cy {B:Nat}{w:World}{e size n:Nat}{v:Value}{xs:List Value} (h:w.ownsRow B e size v n xs) (hn:n≤140737488355328):gM (fun g=>B≤g) w e size v n xs:=by
 obtain ⟨h1,h|⟨g,cap,cur,rfl,h2⟩⟩:=h
 ·exact ⟨h1,hn,.inl h⟩
 ·exact ⟨h1,hn,.inr ⟨g,cap,cur,rfl,h2⟩⟩
inductive pd (R:Nat→Prop) (w:World):List Value→List En→Prop
 |nil:pd R w [] []
 |cons {e:En} {vv vr vg:Value} {rest:List Value} {l:List En} (hv:gM R w 74 2 vv e.aQ.length (qM e.aQ)) (hr:gM R w 111 2 vr e.res.length (kO e.res)) (hg:gM R w 9 1 vg e.gone.length (bY e.gone)) (ht:pd R w rest l):pd R w (.string e.name::vv::vr::vg::rest) (e::l)
theorem pd.mono {R R':Nat→Prop}{w w':World}{cs:List Value}{l:List En} (h:pd R w cs l) (hs:gK R R' w w'):pd R' w' cs l:=by
 induction h with
 |nil=>exact .nil
 |cons hv hr hg _ ih=>exact .cons (hv.mono hs) (hr.mono hs) (hg.mono hs) ih
theorem pd.yN {R:Nat→Prop}{w:World}{cs:List Value}{l:List En} (h:pd R w cs l):u9 w cs l:=by
 induction h with
 |nil=>exact .nil
 |cons hv hr hg _ ih=>exact .cons hv.rl hr.rl hg.rl ih
theorem pd.app {R:Nat→Prop}{w:World}{cs iH:List Value}{l l':List En} (h:pd R w cs l) (k:pd R w iH l'):pd R w (cs++iH) (l++l'):=by
 induction h with
 |nil=>exact k
 |cons hv hr hg _ ih=>exact .cons hv hr hg ih
inductive pa (R:Nat→Prop) (w:World):List Value→List Ms→Prop
 |nil:pa R w [] []
 |cons {nm:ByteArray} {fs:List Fd} {os:List ByteArray} {ms:List Ms} {es:List En} {rs:List (Int×Int)} {gs:List ByteArray} {vf vo vm ve vr vg:Value} {cm ce rest:List Value} {l:List Ms}
   (hf:gM R w 42 6 vf fs.length (fp fs)) (ho:gM R w 9 1 vo os.length (bY os)) (hm:gM R w 46 7 vm ms.length cm) (ej:pa R w cm ms) (he:gM R w 67 4 ve es.length ce) (fl:pd R w ce es)
   (hr:gM R w 111 2 vr rs.length (kO rs)) (hg:gM R w 9 1 vg gs.length (bY gs)) (ht:pa R w rest l):pa R w (.string nm::vf::vo::vm::ve::vr::vg::rest) (.mk nm fs os ms es rs gs::l)
theorem pa.mono {R R':Nat→Prop}{w w':World}{cs:List Value}{l:List Ms} (h:pa R w cs l) (hs:gK R R' w w'):pa R' w' cs l:=by
 induction h with
 |nil=>exact .nil
 |cons hf ho hm _ he fl hr hg _ BY z'=>exact .cons (hf.mono hs) (ho.mono hs) (hm.mono hs) BY (he.mono hs) (fl.mono hs) (hr.mono hs) (hg.mono hs) z'
theorem pa.yN {R:Nat→Prop}{w:World}{cs:List Value}{l:List Ms} (h:pa R w cs l):s8 w cs l:=by
 induction h with
 |nil=>exact .nil
 |cons hf ho hm _ he fl hr hg _ BY z'=>exact .cons hf.rl ho.rl hm.rl BY he.rl fl.yN hr.rl hg.rl z'
theorem pa.app {R:Nat→Prop}{w:World}{cs iH:List Value}{l l':List Ms} (h:pa R w cs l) (k:pa R w iH l'):pa R w (cs++iH) (l++l'):=by
 induction h with
 |nil=>exact k
 |cons hf ho hm ej he fl hr hg _ _ z'=>exact .cons hf ho hm ej he fl hr hg z'
theorem aC {R:Nat→Prop}{w w':World} (hb:Below w.heap.size w w'):gK R R w w':=fun g hg hl=>⟨hb.block g hl,hg⟩
theorem j3 {R:Nat→Prop}{w w':World}{k:Option Nat} (hg:w.grownBy w' k) (hk:∀g,R g→k≠some g):gK R R w w':=fun g h hl=>⟨hg.block g hl (fun e=>hk g h e.symm),h⟩
theorem kW {P:Program}{w:World}{ops:Array Oper}{o:Oper}{a:Act}{K:Act→World→Prop}{Q:Exit→Act→World→Prop}{E:Prop} (x0:Tmp) (B0:o.dst=some x0) (A2:o.guard=none) (s x:Operand) (t:TypeId)
  (ho:o.op=.call { callee:=.builtin .append,args:=#[s,x],argTypes:=#[t,t] })
  (base:Nat) (e:TypeId) (i:TypeInfo) (z:Value) (size bytes:Nat) (ht:P.underlying t=some (.slice e)) (hi:P.info? e=some i) (hz:i.zero=some z)
  (tS:i.size=size) (eo:i.bytes=bytes) (hzs:z.cells.size=size) (lz:0<size)
  (v:Value) (n:Nat) (xs:List Value) (hs:a.eval s=v) (gB:w.ownsRow base e size v n xs)
  (ad:Addr) (m c:Nat) (news:List Value) (hx:a.eval x=.slice (some ad) m c) (hl:news.length=m*size) (Ri:∀j u,news[j]?=some u→w.cell? (ad.add j)=some u) (h1:∀u ∈ news,u.oneCell'=true)
  (PB:n+m≤maxLen) (tX:(n+m)*bytes≤140737488355328) (Aj:base≤w.heap.size)
  (h:∀v' w',w'.ownsRow base e size v' (n+m) (xs++news)→w.grownBy w' v.ownBlock→(v'.ownBlock=v.ownBlock∨v'.ownBlock=some w.heap.size)→K (a.put (some x0) v') w') :
  if Region.wanted o (yielded ops a.tmps)=true then Oper.wp P o a w K Q else E:=by
 rw[←B0] at h
 have hw:Region.wanted o (yielded ops a.tmps)=true:=by simp[Region.wanted,A2]
 rw[if_pos hw]
 obtain ⟨v',w',hr,h2,h3,h4,h5⟩:=run_append_own_at (P:=P) w base t o.type e i z size bytes ht hi hz tS eo hzs lz v n xs gB ad m c news hl Ri h1 PB tX Aj
 unfold Oper.wp execOp
 simp only[ho,resolve,invoke,builtin,Sem.run_bind,Sem.run_pure,Result.andThen_ok,List.map_toArray,List.map_cons,List.map_nil,hs,hx,hr]
 exact h v' w' h2 h3 h5
end Go.Proofs.YtichhjfjcinjgaaGreatDoor
