import Derived.Test.YtjophoclfccmcaaGreatDoorM06
import Derived.WalkMore
import Derived.Shelf.Pu.Clone
set_option maxHeartbeats 8000000
set_option maxRecDepth 100000
namespace Go.Proofs.YtjophoclfccmcaaGreatDoor
open Go.RowKit
attribute [local go_sem ↓] Go.wp_at_zero Go.wp_at_succ
theorem Fo {P:Program}{ops:Array Oper}{o:Oper}{a:Act}{w:World}{K:Act→World→Prop}{Q:Exit→Act→World→Prop}{E:Prop} (x:Tmp) (hx:o.dst=some x) (sb:o.guard=none) (f:FuncId) (qJ:∀vs,(callFunc f vs).run P w=.ok (.enter f vs) w) (fo:Operand) (args:Array Operand) (Lv:Array TypeId)
  (ho:o.op=.call { callee:=.value fo,args:=args,argTypes:=Lv }) (hfo:a.eval fo=.func (.func f) #[] #[]) (vs:Array Value) (hv:args.map a.eval=vs) {R:Ending→World→Prop} (hc:Calls P f vs w R) (hK:∀e w',R e w'→∃v,e=.returned v∧K (a.put (some x) v) w') :
  if Region.wanted o (yielded ops a.tmps)=true then Oper.wp P o a w K Q else E:=by
 have hw:Region.wanted o (yielded ops a.tmps)=true:=by simp[Region.wanted,sb]
 rw[if_pos hw]
 have h2:Oper.wp P o a w K Q=o.upon P a K Q (.ok (.enter f vs) w):=by
  unfold Oper.wp
  simp[execOp,ho,resolve,invoke,←hv,hfo,Deferred.ofValue,qJ]
 rw[h2,Oper.upon_enter]
 refine hc.mono ?_
 intro e w' hr
 obtain ⟨v,rfl,hk⟩:=hK e w' hr
 rw[hx]
 exact hk
theorem Im {B B':Nat}{W:World}{e:TypeId}{z m:Nat}{v:Value}{xs:List Value} (h:W.ownsRow B e z v m xs) (hb:B'≤B):W.ownsRow B' e z v m xs:=by
 obtain ⟨h1,⟨rfl,h0⟩|⟨g,c,cur,rfl,h2,h3⟩⟩:=h
 ·exact ⟨h1,.inl ⟨rfl,h0⟩⟩
 ·exact ⟨h1,.inr ⟨g,c,cur,rfl,Nat.le_trans hb h2,h3⟩⟩
def acB (s:ByteArray) (b:Nat) (n0:Nat) (w:World) (e:Ending):List Tok ⊕ (Nat×Nat)→Prop
 |.inl ts=>e=.returned (.int .i64 0)∧∃(k:Nat) (v':Value),cW w b s k v'∧w.ownsRow n0 38 3 v' ts.length (fp ts)
 |.inr (k,c)=>c≠0∧e=.returned (.int .i64 (c:Int))∧∃v',cW w b s k v'
def SP (s:ByteArray) (b:Nat) (W:World) (e:Ending) (w:World):Prop:=BX W.heap.size b W w∧acB s b W.heap.size w e (tk s 0 0)
theorem SP.ret {s:ByteArray}{b:Nat}{W w:World}{e:Ending} (h:SP s b W e w):∃c:Int,e=.returned (.int .i64 c):=by
 have h2:=h.2
 cases hr:tk s 0 0 with
 |inl ts=>rw[hr] at h2;exact ⟨0,h2.1⟩
 |inr p=>obtain ⟨k,c⟩:=p;rw[hr] at h2;exact ⟨(c:Int),h2.2.1⟩
theorem BX.mono {B B' b:Nat}{u w:World} (h:BX B b u w) (hB:B'≤B):BX B' b u w:=⟨h.os,h.tape,h.output,h.size,fun q hq hb=>h.block q (by omega) hb⟩
theorem Gi (p q:List Tok) (x:List Tok ⊕ (Nat×Nat)):oB p (oB q x)=oB (p++q) x:=by
 cases x with
 |inl l=>simp[oB]
 |inr e=>rfl
theorem Dn {W:World}{B n:Nat}{e:TypeId}{z:Nat}{v:Value}{xs:List Value} (h:W.ownsRow B e z v n xs):∃a c,v=.slice a n c:=by
 obtain ⟨_,⟨e,h0⟩|⟨g,c,_,e,_⟩⟩:=h
 ·exact ⟨none,0,by rw[e,h0]⟩
 ·exact ⟨_,_,e⟩
theorem JU {W:World}{B b g c n i:Nat}{e:TypeId}{xs:List Value}{u:Value} (XC:g≠b) (h:W.ownsRow B e 3 (.slice (some ⟨g,0,none⟩) n c) n xs):(W.setCell ⟨b,i,none⟩ u).ownsRow B e 3 (.slice (some ⟨g,0,none⟩) n c) n xs:=by
 obtain ⟨h1,⟨q,_⟩|⟨g',cap,cur,e1,h3,h4,h5⟩⟩:=h
 ·cases q
 ·refine ⟨h1,.inr ⟨g',cap,cur,e1,h3,?_,h5⟩⟩
  have eg:g'=g:=by injection e1 with e1;injection e1 with e1;injection e1 with e1;exact e1.symm
  subst eg
  exact (heap_setCell_other W ⟨b,i,none⟩ g' u (by simpa using XC)).trans h4
theorem Q0 {W0 W:World}{b:Nat}{s:ByteArray} (hE:gU W0) (hM:oO W0) (h0:Below W0.heap.size W0 W) (hb:W0.heap.size≤b) (h:cW W b s 0 (.slice none 0 0)) (hs:s.size≤65536) :
  Calls Tryz.prog 26 #[.pointer (some ⟨b,0,none⟩)] W (SP s b W):=by
 obtain ⟨i0,hi,zy,zx,jK⟩:=info_parts Tryz.ru
 have yO:=h.lt
 have Hh:=ab h
 have HE:=ab hE
 have HM:=ab hM
 have H0:=ab h0
 clear h hE hM h0
 go_enter Tryz.func26,Tryz.ntmps26
 go_wp2
 go_step3
 go_wp2_with fail
 refine (JO W).mono ?_
 rintro e w1 ⟨rfl,bQ⟩
 have hX:=bQ.size
 have X9:Hid (Below W.heap.size W ((w1.alloc (.cells #[.nilFunc,.nilFunc,.nilFunc,.nilFunc,.nilFunc,.nilFunc,.nilFunc] 90)).setCells w1.heap.size 0 cw)):=ln hX _ _ _ (bQ.alloc hX _)
 have oP:=ab (Ou w1)
 have pn:((w1.alloc (.cells #[.nilFunc,.nilFunc,.nilFunc,.nilFunc,.nilFunc,.nilFunc,.nilFunc] 90)).setCells w1.heap.size 0 cw).heap.size=w1.heap.size+1:=by rw[pF,zJ]
 have WG:=ab pn
 have Zh:=Mf w1
 obtain ⟨A,hA,VS⟩:∃A,cw.toArray=A∧Tab A:=⟨_,rfl,QQ⟩
 have hAl:A.toList=cw:=by rw[←hA]
 rw[hA] at Zh ⊢
 rw[←hAl] at X9 oP WG
 have hif:=VS.info
 have iW:=VS.one
 clear bQ hA hAl pn VS
 go_wp2_with (refine wpList_store_mid rfl 90 (.tmp 3) (.tmp 4) rfl w1.heap.size 0 A rfl rfl Zh hif iW ?_)
 generalize (w1.alloc (.cells #[.nilFunc,.nilFunc,.nilFunc,.nilFunc,.nilFunc,.nilFunc,.nilFunc] 90)).setCells w1.heap.size 0 A.toList=X at *
 obtain ⟨tb,htb⟩:∃tb,w1.heap.size=tb:=⟨_,rfl⟩
 rw[htb] at oP WG hX ⊢
 clear Zh hif iW htb
 have XM:X.heap.size=tb+1:=aa WG
 have HS0:Hid (cW X b s 0 (.slice none 0 0)):=(aa Hh).up (aa X9)
 have EL:Hid (X.ownsRow X.heap.size 38 3 (.slice none 0 0) 0 (fp [])):=⟨rfl,.inl ⟨rfl,rfl⟩⟩
 have VF:∀w,BX X.heap.size b X w→BX W.heap.size b W w:=fun w hw=>(BX.of (aa X9) (zD _)).trans (hw.mono (by omega))
 have Hge:=ab VF
 have hup:∀w,BX X.heap.size b X w→Below W0.heap.size W0 w:=fun w hw=>(aa H0).trans ((VF w hw).below hb (by omega))
 have Hup:=ab hup
 clear VF hup
 go_wp2
 go_step3
 go_wp2
 simp only[Act.put]
 go_loopg [2] s.size (fun gk v2 wr=>∃(k n:Nat) (pre:List Tok) (va:Option Addr) (vc:Nat),v2=.int .i64 0∧gk=s.size-k∧k≤s.size∧n=pre.length∧n≤16383∧Hid (cW wr b s k (.slice va n vc))∧Hid (wr.ownsRow X.heap.size 38 3 (.slice va n vc) n (fp pre))∧Hid (tk s 0 0=oB pre (tk s k n))∧Hid (BX X.heap.size b X wr))
 case atStart=>exact ⟨0,0,[],none,0,rfl,rfl,by omega,rfl,by omega,HS0,EL,(qq _).symm,BX.refl _ _ _⟩
 case round =>
  obtain ⟨k,n,pre,va,vc,rfl,eG,hk,hn,Oi,HS,HR,Hq,HB⟩:=hrel
  have jw:=ab eG
  have Hn:=ab hn
  clear eG hn HS0 EL
  have c0:=(aa HS).c0
  have c1:=(aa HS).c1
  have TH:b<wr.heap.size:=(aa HS).lt
  have hTw:SV wr tb:=((aa HB).block tb (by omega) (by omega)).trans (aa oP)
  have HTw:=ab hTw
  clear hTw
  have hXw:X.heap.size≤wr.heap.size:=(aa HB).size
  by_cases dB:k<s.size
  ·have qk:((k:Int)==(s.size:Int))=false:=beq_eq_false_iff_ne.2 (by omega)
   obtain ⟨x,hx⟩:∃x:Nat,s[k].toNat=x:=⟨_,rfl⟩
   have oU:aE s k=x:=(fb s k dB).trans hx
   have eL:x<256:=by rw[←oU];exact iD s k
   have k0:(0:Int)≤(k:Int):=zH _
   have k1:(k:Int)<(s.size:Int):=by omega
   have Hst:Hid (∀m,Calls Tryz.prog (Fk (cls (aE s k))) #[.pointer (some ⟨b,0,none⟩)] (wr.drewN m) (iE X.heap.size b s k n (fp pre) (wr.drewN m))):=fun m=>JQ ((aa HE).up (below_drewN (aa Hup wr (aa HB)) m)) ((aa HM).up (below_drewN (aa Hup wr (aa HB)) m) (aa HM).1) ⟨aa HS,by omega,hXw,aa HR,dB,hs,Oi⟩
   have iL:∀m,Calls Tryz.prog 43 #[.int .u8 (x:Int)] (wr.drewN m) fun e w=>e=.returned (.int .i64 (cls x:Int))∧w=wr.drewN m:=fun m=>jS _ x eL
   have SU:=ab iL
   have XI:=Wq x
   rw[oU] at Hst
   obtain ⟨c,hc⟩:∃c,cls x=c:=⟨_,rfl⟩
   rw[hc] at Hst SU XI
   have dD:=(aa HTw).cell c XI
   have cc0:(0:Int)≤(c:Int):=zH _
   have cc1:(c:Int)<7:=by omega
   have Hc7:=ab XI
   clear iL oU hc XI
   go_wp2
   go_quiet (fail)
   go_wp2_with fail
   go_region_law (first|(refine xV 38 rfl rfl 43 (Le _) #[.tmp 37] #[5] rfl #[.int .u8 (x:Int)] (by first|rfl|simp[Act.eval]) (aa SU _) ?_;rintro o7 w7 ⟨rfl,rfl⟩;refine ⟨_,rfl,?_⟩)|(refine Fo 42 rfl rfl (Fk c) (fun vs=>Lc _ vs c (aa Hc7)) (.tmp 40) #[.tmp 41] #[87] rfl (by first|rfl|simp[Act.eval]) #[.pointer (some ⟨b,0,none⟩)] (by first|rfl|simp[Act.eval]) (aa Hst _) ?_;intro o9 w9 hq9;obtain ⟨z9,rfl⟩:=hq9.ret;refine ⟨_,rfl,?_⟩;have Hq9:=ab hq9;clear hq9))
   all_goals (
    rcases aa Hq9 with ⟨R9,⟨e9,k',ts,v',s1,s2,s3,s4,s5,s6⟩|⟨c',v',n9,e9,s1,s2⟩⟩
    ·obtain rfl:z9=0:=by injection e9 with e9;injection e9
     obtain ⟨a',c',rfl⟩:=Dn s2
     have LR:Hid (BX X.heap.size b X w9):=(aa HB).trans ((BX.of (below_drewN (zE wr.heap.size wr) _) hXw).trans R9)
     have HS9:=ab s1
     have S0:Hid (w9.ownsRow X.heap.size 38 3 (.slice a' (n+ts.length) c') (n+ts.length) (fp (pre++ts))):=by rw[xS];exact s2
     have Hq0:Hid (tk s 0 0=oB (pre++ts) (tk s k' (n+ts.length))):=by show _=_;rw[aa Hq,s6,Gi]
     clear e9 s1 s2 s6 R9 Hq9 HB HS HR Hq
     go_wp2
     go_roundg (s.size-k')
     case measure=>have:=aa jw;omega
     case rel=>exact ⟨k',n+ts.length,pre++ts,a',c',rfl,rfl,s4,by have:=aa Hn;rw[zK,this],s5,HS9,S0,Hq0,LR⟩
    ·obtain rfl:z9=(c':Int):=by injection e9 with e9;injection e9
     have LR:Hid (BX X.heap.size b X w9):=(aa HB).trans ((BX.of (below_drewN (zE wr.heap.size wr) _) hXw).trans R9)
     have dg:Hid (SP s b W (.returned (.int .i64 (c':Int))) w9):=⟨aa Hge _ (aa LR),by rw[aa Hq,s2];exact ⟨n9,rfl,v',s1⟩⟩
     have q9:((c':Int) != 0)=true:=by simp;omega
     clear e9 s1 s2 R9 Hq9 HB HS HR Hq LR
     go_wp2
     try rw[Exit.noGoto_ret]
     go_ret
     exact aa dg)
  ·obtain rfl:k=s.size:=by omega
   have qk:((s.size:Int)==(s.size:Int))=true:=by simp
   have abN:∀(n':Nat) (ob:Obj),((wr.drewN n').alloc ob).cell? ⟨b,2,none⟩=some (.slice va n vc):=fun n' ob=>cW.c2 (s:=s) (k:=s.size) ((Below.heap_alloc wr ob b TH).trans (aa HS))
   have c2:=(aa HS).c2
   have sM:∀(n':Nat) (ob:Obj),((wr.drewN n').alloc ob).heap.size=wr.heap.size+1:=fun n' ob=>zJ _ _
   have zo:=ab sM
   have O1:Hid (n+1≤maxLen):=by show _≤_;unfold maxLen;omega
   have O2:Hid ((n+1)*32≤140737488355328):=by show _≤_;omega
   have Y':(Value.slice va n vc).ownBlock≠some b:=fun e=>by have:=((aa HR).lt b e).1;omega
   have Htk:Hid (tk s 0 0=.inl (pre++[⟨5,s.size,⟨#[]⟩⟩])):=by show _=_;rw[aa Hq,UB];rfl
   clear sM Hq HTw dB
   go_wp2
   go_quiet (fail)
   go_wp2_with fail
   go_region_law (first|(refine step_append_lies _ rfl (.tmp 19) (.tmp 25) 36 rfl X.heap.size 38 i0 (.agg #[.int .i64 0,.int .i64 0,.string ⟨#[]⟩]) 3 32 Tryz.underlying36 hi zy zx jK rfl (by decide) (.slice va n vc) n (fp pre) (by first|rfl|simp[Act.eval]) ((aa HR).alloc _) ⟨wr.heap.size,0,none⟩ 1 1 [.int .i64 5,.int .i64 (s.size:Int),.string ⟨#[]⟩] (by first|rfl|simp[Act.eval]) rfl (fun j u hj=>DE _ #[.int .i64 5,.int .i64 (s.size:Int),.string ⟨#[]⟩] 38 j u hj) (by simp[Value.oneCell']) (by decide) (aa O1) (aa O2) (by rw[aa zo];omega) (wr.heap.size+1) (aa zo _ _) ?_;intro g9 c9 w9 DU tN Ot abJ;have Af:w9.heap[b]?=wr.heap[b]?:=(tN.block b (by rw[aa zo];omega) (fun e=>Y' e.symm)).trans (Below.heap_alloc wr _ b TH);have N9:cW w9 b s s.size (.slice va n vc):=Af.trans (aa HS);have c29:=N9.c2;have f29:=jE 2 N9;have gb:g9≠b:=(fun e=>Ot.elim (fun q=>Y' (by rw[q,e])) (fun q=>by omega));have Hs9:=ab N9;have Cz:=ab DU;have LR:Hid (BX X.heap.size b X w9):=(aa HB).trans ⟨tN.os,tN.tape,tN.output,(by have:=tN.size;rw[aa zo] at this;omega),fun q hq _=>(tN.block q (by rw[aa zo];omega) (fun e=>by have:=((aa HR).lt q e.symm).1;omega)).trans (Below.heap_alloc wr _ q (by omega))⟩;clear DU tN Ot Af N9))
   all_goals go_wp2
   all_goals try rw[Exit.noGoto_ret]
   all_goals go_ret
   all_goals refine ⟨aa Hge _ ((aa LR).set 2 _),?_⟩
   all_goals rw[aa Htk]
   all_goals refine ⟨rfl,s.size,.slice (some ⟨g9,0,none⟩) (n+1) c9,heap_setCell_same _ b 2 _ _ _ (aa Hs9),?_⟩
   all_goals rw[xS,zK,←aa Hn]
   all_goals exact Im (JU gb (aa Cz)) (by omega)
end Go.Proofs.YtjophoclfccmcaaGreatDoor
namespace Go.Proofs
open Go.Shelf
def Tryz.BM:Go.Shelf.Ren:=⟨fun|25=>48|n=>n,fun|9=>9|3=>3|4=>4|37=>94|0=>0|47=>125|5=>5|n=>n,fun|n=>n⟩
theorem Tryz.NK:Go.Proofs.LaysPu.n25 Tryz.prog Tryz.BM:={
 mixed:=by kernel_rfl
 f25:=Tryz.func48.trans (congrArg some (by kernel_rfl))
 t0:=Tryz.underlying0
 a0:=Tryz.isAgg0
 z0:=Tryz.sizeOf0
 v0:=Tryz.zeroValue0
 i0:=by kernel_rfl
 t3:=Tryz.underlying3
 a3:=Tryz.isAgg3
 z3:=Tryz.sizeOf3
 v3:=Tryz.zeroValue3
 i3:=by kernel_rfl
 t4:=Tryz.underlying4
 a4:=Tryz.isAgg4
 z4:=Tryz.sizeOf4
 v4:=Tryz.zeroValue4
 i4:=by kernel_rfl
 t5:=Tryz.underlying5
 a5:=Tryz.isAgg5
 z5:=Tryz.sizeOf5
 v5:=Tryz.zeroValue5
 i5:=by kernel_rfl
 t9:=Tryz.underlying9
 a9:=Tryz.isAgg9
 z9:=Tryz.sizeOf9
 v9:=Tryz.zeroValue9
 i9:=by kernel_rfl
 t37:=Tryz.underlying94
 a37:=Tryz.isAgg94
 z37:=Tryz.sizeOf94
 v37:=Tryz.zeroValue94
 i37:=by kernel_rfl
 t47:=Tryz.underlying125
 a47:=Tryz.isAgg125
 z47:=Tryz.sizeOf125
 v47:=Tryz.zeroValue125
 i47:=by kernel_rfl }
end Go.Proofs
namespace Go.Proofs.YtjophoclfccmcaaGreatDoor
open Go.RowKit
attribute [local go_sem ↓] Go.wp_at_zero Go.wp_at_succ
theorem Gz (W:World) (s:ByteArray) (h:s.size≤281474976710656):Calls Tryz.prog 48 #[.string s] W fun e w=>e=.returned (.string s)∧Below W.heap.size W w:=AnyPu.stringslite_Clone Tryz.NK s W h
theorem A7 (W:World) (s:ByteArray) (h:s.size≤281474976710656):Calls Tryz.prog 25 #[.string s] W fun e w=>e=.returned (.string s)∧Below W.heap.size W w:=by
 go_enter Tryz.func25,Tryz.ntmps25
 go_wp2_with fail
 refine (Gz W s h).mono ?_
 rintro e w ⟨rfl,hb⟩
 have Hb:=ab hb
 clear hb
 go_wp2
 go_ret
 exact ⟨rfl,aa Hb⟩
def PT (n0:Nat) (w:World) (e:Ending):List Tok ⊕ (Nat×Nat)→Prop
 |.inl ts=>∃v,e=.returned (.tuple #[v,.int .i64 0,.int .i64 0])∧w.ownsRow n0 38 3 v ts.length (fp ts)
 |.inr (k,c)=>c≠0∧e=.returned (.tuple #[.slice none 0 0,.int .i64 (k:Int),.int .i64 (c:Int)])
def WB (s:ByteArray) (W:World) (e:Ending) (w:World):Prop:=Below W.heap.size W w∧PT W.heap.size w e (nC s)
theorem JH {s:ByteArray} (h:65536<s.size):nC s=.inr (0,2):=by unfold nC;rw[if_pos h]
theorem Ma {s:ByteArray} (h:¬65536<s.size) (h2:0≤cQ s 0):nC s=.inr ((cQ s 0).toNat,44):=by unfold nC;rw[if_neg h,if_pos h2]
theorem QO {s:ByteArray} (h:¬65536<s.size) (h2:¬0≤cQ s 0):nC s=tk s 0 0:=by unfold nC;rw[if_neg h,if_neg h2]
theorem Fi {W:World} (hF:nG W) (hE:gU W) (hM:oO W) (s:ByteArray):Calls Tryz.prog 15 #[.string s] W (WB s W):=by
 have eK:=zE W.heap.size W
 by_cases h0:65536<s.size
 ·have Hr:=ab (JH h0)
  have e0:=Tl (a:=s.size) (k:=65536) (by omega)
  clear h0
  go_enter Tryz.func15,Tryz.ntmps15
  go_wp2
  go_ret3
  exact ⟨eK,by rw[aa Hr];exact ⟨by decide,rfl⟩⟩
 ·have e0:=Tm (a:=s.size) (k:=65536) (by omega)
  have hs:s.size≤65536:=by omega
  have H0:=ab h0
  clear h0
  go_enter Tryz.func15,Tryz.ntmps15
  go_wp2_with fail
  refine (C7 hF s (by omega)).mono ?_
  rintro e w1 ⟨rfl,bQ⟩
  have ko:=ab bQ
  clear bQ eK
  by_cases h1:0≤cQ s 0
  ·have Hr:=ab (Ma (aa H0) h1)
   obtain ⟨u,hu⟩:∃u:Nat,cQ s 0=(u:Int):=⟨(cQ s 0).toNat,by omega⟩
   rw[hu] at Hr ⊢
   have e1:decide (0≤(u:Int))=true:=by simp
   clear hu h1
   go_wp2
   go_ret3
   exact ⟨aa ko,by rw[aa Hr];exact ⟨by decide,rfl⟩⟩
  ·have Hr:=ab (QO (aa H0) h1)
   obtain ⟨u,hu⟩:∃u,u=cQ s 0:=⟨_,rfl⟩
   rw[←hu] at h1 ⊢
   have e1:decide (0≤u)=false:=by simp;omega
   have HE:=ab hE
   have HM:=ab hM
   clear hu h1 hE hM
   go_wp2_with fail
   refine (A7 w1 s (by omega)).mono ?_
   rintro e w2 ⟨rfl,br⟩
   have zt:Hid (Below W.heap.size W w2):=(aa ko).trans (br.mono (aa ko).size)
   clear br
   go_wp2_with fail
   have hr:=Q0 (W0:=W) (W:=w2.alloc (.cells #[.string s,.int .i64 0,.slice none 0 0] 62)) (b:=w2.heap.size) (s:=s) (aa HE) (aa HM) ((aa zt).alloc (aa zt).size _) (aa zt).size (aH w2 _) hs
   have Lp:=ab (zJ w2 (.cells #[.string s,.int .i64 0,.slice none 0 0] 62))
   have HB0:Hid (Below W.heap.size W (w2.alloc (.cells #[.string s,.int .i64 0,.slice none 0 0] 62))):=(aa zt).alloc (aa zt).size _
   have hle:=(aa zt).size
   have hb:∃b,w2.heap.size=b:=⟨_,rfl⟩
   obtain ⟨b,hb⟩:=hb
   rw[hb] at hr Lp hle ⊢
   generalize w2.alloc (.cells #[.string s,.int .i64 0,.slice none 0 0] 62)=V at *
   clear hb zt
   refine hr.mono ?_
   rintro e w3 ⟨hx,hq⟩
   have hB3:Below W.heap.size W w3:=(aa HB0).trans (hx.below hle (aa HB0).size)
   have Us:=ab hB3
   have hVs:V.heap.size=b+1:=aa Lp
   cases ht:tk s 0 0 with
   |inl ts =>
    rw[ht] at hq
    obtain ⟨rfl,k,v',h1,h2⟩:=hq
    have c2:=h1.c2
    have dg:Hid (PT W.heap.size w3 (.returned (.tuple #[v',.int .i64 0,.int .i64 0])) (nC s)):=by
     show PT _ _ _ _
     rw[aa Hr,ht]
     exact ⟨v',rfl,Im h2 (by omega)⟩
    obtain ⟨va,vc,rfl⟩:=Dn h2
    clear h1 h2 hx hB3 ht Hr hr
    go_wp2
    go_ret3
    exact ⟨aa Us,aa dg⟩
   |inr p =>
    obtain ⟨k,c⟩:=p
    rw[ht] at hq
    obtain ⟨hc,rfl,v',h1⟩:=hq
    have c1:=h1.c1
    have dg:Hid (PT W.heap.size w3 (.returned (.tuple #[.slice none 0 0,.int .i64 (k:Int),.int .i64 (c:Int)])) (nC s)):=by
     show PT _ _ _ _
     rw[aa Hr,ht]
     exact ⟨hc,rfl⟩
    have q9:((c:Int) != 0)=true:=by simp;omega
    clear h1 hx hB3 ht Hr hr hc
    go_wp2
    go_quiet (fail)
    go_wp2
    go_ret3
    exact ⟨below_drewN (aa Us) _,aa dg⟩
def Ji (W:World) (p:Prop) (e:Ending) (w:World):Prop:=∃b:Bool,e=.returned (.bool b)∧w=W∧(b=true↔p)
theorem x8 {W:World}{p:Prop} (b:Bool) (h:b=true↔p):Ji W p (.returned (.bool b)) W:=⟨b,rfl,rfl,h⟩
theorem tr (W:World) (c:Nat) (hc:c<256) :
  Calls Tryz.prog 45 #[.int .u8 (c:Int)] W (Ji W (isLet c)):=by
 go_enter Tryz.func45,Tryz.ntmps45
 go_wp2
 all_goals (go_ret;refine x8 _ ?_;simp[isLet];omega)
theorem Fc (W:World) (c:Nat) (hc:c<256) :
  Calls Tryz.prog 46 #[.int .u8 (c:Int),.int .u8 10] W (Ji W (eD c)):=by
 go_enter Tryz.func46,Tryz.ntmps46
 go_wp2
 all_goals (go_ret;refine x8 _ ?_;simp[eD];omega)
end Go.Proofs.YtjophoclfccmcaaGreatDoor
