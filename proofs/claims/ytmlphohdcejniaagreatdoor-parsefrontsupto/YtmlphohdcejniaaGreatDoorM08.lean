import Derived.Test.YtmlphohdcejniaaGreatDoorM07
import Derived.WalkMore
import Derived.Shelf.Pu.Clone
import Derived.Shelf.Vars
import Derived.Test.YtmlphohdcejniaaGreatDoorRows
import Derived.ProofKit
import Derived.OpenShut
import Derived.ShutString
import Derived.SizedLaws
import Derived.SliceStrings
import Derived.ArgAppend
import Derived.Deep.DeepAppendRoom
set_option maxHeartbeats 8000000
set_option maxRecDepth 100000
namespace Go.Proofs.YtmlphohdcejniaaGreatDoor
open Go.RowKit
attribute [local go_sem ↓] Go.wp_at_zero Go.wp_at_succ
theorem C0 {P:Program}{ops:Array Oper}{o:Oper}{a:Act}{w:World}{K:Act→World→Prop}{Q:Exit→Act→World→Prop}{E:Prop} (x:Tmp) (hx:o.dst=some x) (Ih:o.guard=none) (f:FuncId) (y9:∀vs,(callFunc f vs).run P w=.ok (.enter f vs) w) (fo:Operand) (args:Array Operand) (KJ:Array TypeId)
  (ho:o.op=.call { callee:=.value fo,args:=args,argTypes:=KJ }) (UL:a.eval fo=.func (.func f) #[] #[]) (vs:Array Value) (hv:args.map a.eval=vs) {R:Ending→World→Prop} (hc:Calls P f vs w R) (hK:∀e w',R e w'→∃v,e=.returned v∧K (a.put (some x) v) w') :
  if Region.wanted o (yielded ops a.tmps)=true then Oper.wp P o a w K Q else E:=by
 have hw:Region.wanted o (yielded ops a.tmps)=true:=by simp[Region.wanted,Ih]
 rw[if_pos hw]
 have h2:Oper.wp P o a w K Q=o.upon P a K Q (.ok (.enter f vs) w):=by
  unfold Oper.wp
  simp[execOp,ho,resolve,invoke,←hv,UL,Deferred.ofValue,y9]
 rw[h2,Oper.upon_enter]
 refine hc.mono ?_
 intro e w' hr
 obtain ⟨v,rfl,hk⟩:=hK e w' hr
 rw[hx]
 exact hk
theorem G0 {B B':Nat}{W:World}{e:TypeId}{z m:Nat}{v:Value}{xs:List Value} (h:W.ownsRow B e z v m xs) (hb:B'≤B):W.ownsRow B' e z v m xs:=by
 obtain ⟨h1,⟨rfl,h0⟩|⟨g,c,cur,rfl,h2,h3⟩⟩:=h
 ·exact ⟨h1,.inl ⟨rfl,h0⟩⟩
 ·exact ⟨h1,.inr ⟨g,c,cur,rfl,Nat.le_trans hb h2,h3⟩⟩
def abn (s:ByteArray) (b:Nat) (n0:Nat) (w:World) (e:Ending):List Tok ⊕ (Nat×Nat)→Prop
 |.inl ts=>e=.returned (.int .i64 0)∧∃(k:Nat) (v':Value),cL w b s k v'∧w.ownsRow n0 44 3 v' ts.length (cI ts)
 |.inr (k,c)=>c≠0∧e=.returned (.int .i64 (c:Int))∧∃v',cL w b s k v'
def R3 (s:ByteArray) (b:Nat) (W:World) (e:Ending) (w:World):Prop:=BX W.heap.size b W w∧abn s b W.heap.size w e (tk s 0 0)
theorem R3.ret {s:ByteArray}{b:Nat}{W w:World}{e:Ending} (h:R3 s b W e w):∃c:Int,e=.returned (.int .i64 c):=by
 have h2:=h.2
 cases hr:tk s 0 0 with
 |inl ts=>rw[hr] at h2;exact ⟨0,h2.1⟩
 |inr p=>obtain ⟨k,c⟩:=p;rw[hr] at h2;exact ⟨(c:Int),h2.2.1⟩
theorem BX.mono {B B' b:Nat}{u w:World} (h:BX B b u w) (hB:B'≤B):BX B' b u w:=⟨h.os,h.tape,h.output,h.size,fun q hq hb=>h.block q (by omega) hb⟩
theorem F4 (p q:List Tok) (x:List Tok ⊕ (Nat×Nat)):nN p (nN q x)=nN (p++q) x:=by
 cases x with
 |inl l=>simp[nN]
 |inr e=>rfl
theorem Db {W:World}{B n:Nat}{e:TypeId}{z:Nat}{v:Value}{xs:List Value} (h:W.ownsRow B e z v n xs):∃a c,v=.slice a n c:=by
 obtain ⟨_,⟨e,h0⟩|⟨g,c,_,e,_⟩⟩:=h
 ·exact ⟨none,0,by rw[e,h0]⟩
 ·exact ⟨_,_,e⟩
theorem Jo {W:World}{B b g c n i:Nat}{e:TypeId}{xs:List Value}{u:Value} (UH:g≠b) (h:W.ownsRow B e 3 (.slice (some ⟨g,0,none⟩) n c) n xs):(W.setCell ⟨b,i,none⟩ u).ownsRow B e 3 (.slice (some ⟨g,0,none⟩) n c) n xs:=by
 obtain ⟨h1,⟨q,_⟩|⟨g',cap,cur,e1,h3,h4,h5⟩⟩:=h
 ·cases q
 ·refine ⟨h1,.inr ⟨g',cap,cur,e1,h3,?_,h5⟩⟩
  have eg:g'=g:=by injection e1 with e1;injection e1 with e1;injection e1 with e1;exact e1.symm
  subst eg
  exact (heap_setCell_other W ⟨b,i,none⟩ g' u (by simpa using UH)).trans h4
theorem Qe {W0 W:World}{b:Nat}{s:ByteArray} (hE:gM W0) (hM:gY W0) (h0:Below W0.heap.size W0 W) (hb:W0.heap.size≤b) (h:cL W b s 0 (.slice none 0 0)) (hs:s.size≤65536) :
  Calls Tryz.prog 29 #[.pointer (some ⟨b,0,none⟩)] W (R3 s b W):=by
 obtain ⟨i0,hi,oH,oG,pQ⟩:=info_parts Tryz.BG
 have xQ:=h.lt
 have Hh:=aj h
 have HE:=aj hE
 have HM:=aj hM
 have H0:=aj h0
 clear h hE hM h0
 go_enter Tryz.func29,Tryz.ntmps29
 go_wp2
 go_step3
 go_wp2_with fail
 refine (Jf W).mono ?_
 rintro e w1 ⟨rfl,bF⟩
 have hX:=bF.size
 have HX0:Hid (Below W.heap.size W ((w1.alloc (.cells #[.nilFunc,.nilFunc,.nilFunc,.nilFunc,.nilFunc,.nilFunc,.nilFunc] 103)).setCells w1.heap.size 0 bY)):=kQ hX _ _ _ (bF.alloc hX _)
 have yQ:=aj (Ny w1)
 have qx:((w1.alloc (.cells #[.nilFunc,.nilFunc,.nilFunc,.nilFunc,.nilFunc,.nilFunc,.nilFunc] 103)).setCells w1.heap.size 0 bY).heap.size=w1.heap.size+1:=by rw[oS,zJ]
 have VS:=aj qx
 have Yg:=Lw w1
 obtain ⟨A,hA,UY⟩:∃A,bY.toArray=A∧Tab A:=⟨_,rfl,P2⟩
 have hAl:A.toList=bY:=by rw[←hA]
 rw[hA] at Yg ⊢
 rw[←hAl] at HX0 yQ VS
 have hif:=UY.info
 have eH:=UY.one
 clear bF hA hAl qx UY
 go_wp2_with (refine wpList_store_mid rfl 103 (.tmp 3) (.tmp 4) rfl w1.heap.size 0 A rfl rfl Yg hif eH ?_)
 generalize (w1.alloc (.cells #[.nilFunc,.nilFunc,.nilFunc,.nilFunc,.nilFunc,.nilFunc,.nilFunc] 103)).setCells w1.heap.size 0 A.toList=X at *
 obtain ⟨tb,htb⟩:∃tb,w1.heap.size=tb:=⟨_,rfl⟩
 rw[htb] at yQ VS hX ⊢
 clear Yg hif eH htb
 have hBX:X.heap.size=tb+1:=aa VS
 have Te:Hid (cL X b s 0 (.slice none 0 0)):=(aa Hh).up (aa HX0)
 have EF:Hid (X.ownsRow X.heap.size 44 3 (.slice none 0 0) 0 (cI [])):=⟨rfl,.inl ⟨rfl,rfl⟩⟩
 have QW:∀w,BX X.heap.size b X w→BX W.heap.size b W w:=fun w hw=>(BX.of (aa HX0) (zD _)).trans (hw.mono (by omega))
 have Hge:=aj QW
 have hup:∀w,BX X.heap.size b X w→Below W0.heap.size W0 w:=fun w hw=>(aa H0).trans ((QW w hw).below hb (by omega))
 have Hup:=aj hup
 clear QW hup
 go_wp2
 go_step3
 go_wp2
 simp only[Act.put]
 go_loopg [2] s.size (fun gk v2 wr=>∃(k n:Nat) (pre:List Tok) (va:Option Addr) (vc:Nat),v2=.int .i64 0∧gk=s.size-k∧k≤s.size∧n=pre.length∧n≤16383∧Hid (cL wr b s k (.slice va n vc))∧Hid (wr.ownsRow X.heap.size 44 3 (.slice va n vc) n (cI pre))∧Hid (tk s 0 0=nN pre (tk s k n))∧Hid (BX X.heap.size b X wr))
 case atStart=>exact ⟨0,0,[],none,0,rfl,rfl,by omega,rfl,by omega,Te,EF,(pH _).symm,BX.refl _ _ _⟩
 case round =>
  obtain ⟨k,n,pre,va,vc,rfl,fi,hk,hn,kK,HS,HR,Hq,HB⟩:=hrel
  have gA:=aj fi
  have Hn:=aj hn
  clear fi hn Te EF
  have c0:=(aa HS).c0
  have c1:=(aa HS).c1
  have SZ:b<wr.heap.size:=(aa HS).lt
  have hTw:Sb wr tb:=((aa HB).block tb (by omega) (by omega)).trans (aa yQ)
  have HTw:=aj hTw
  clear hTw
  have hXw:X.heap.size≤wr.heap.size:=(aa HB).size
  by_cases cw:k<s.size
  ·have qk:((k:Int)==(s.size:Int))=false:=beq_eq_false_iff_ne.2 (by omega)
   obtain ⟨x,hx⟩:∃x:Nat,s[k].toNat=x:=⟨_,rfl⟩
   have At:ax s k=x:=(ku s k cw).trans hx
   have fO:x<256:=by rw[←At];exact mv s k
   have k0:(0:Int)≤(k:Int):=zH _
   have k1:(k:Int)<(s.size:Int):=by omega
   have Hst:Hid (∀m,Calls Tryz.prog (Fa (cls (ax s k))) #[.pointer (some ⟨b,0,none⟩)] (wr.drewN m) (ig X.heap.size b s k n (cI pre) (wr.drewN m))):=fun m=>Jh ((aa HE).up (below_drewN (aa Hup wr (aa HB)) m)) ((aa HM).up (below_drewN (aa Hup wr (aa HB)) m) (aa HM).1) ⟨aa HS,by omega,hXw,aa HR,cw,hs,kK⟩
   have gE:∀m,Calls Tryz.prog 47 #[.int .u8 (x:Int)] (wr.drewN m) fun e w=>e=.returned (.int .i64 (cls x:Int))∧w=wr.drewN m:=fun m=>jv _ x fO
   have ZY:=aj gE
   have WL:=VA x
   rw[At] at Hst
   obtain ⟨c,hc⟩:∃c,cls x=c:=⟨_,rfl⟩
   rw[hc] at Hst ZY WL
   have dY:=(aa HTw).cell c WL
   have cc0:(0:Int)≤(c:Int):=zH _
   have cc1:(c:Int)<7:=by omega
   have Hc7:=aj WL
   clear gE At hc WL
   go_wp2
   go_quiet (fail)
   go_wp2_with fail
   go_region_law (first|(refine wQ 38 rfl rfl 47 (Kq _) #[.tmp 37] #[5] rfl #[.int .u8 (x:Int)] (by first|rfl|simp[Act.eval]) (aa ZY _) ?_;rintro o7 w7 ⟨rfl,rfl⟩;refine ⟨_,rfl,?_⟩)|(refine C0 42 rfl rfl (Fa c) (fun vs=>Ko _ vs c (aa Hc7)) (.tmp 40) #[.tmp 41] #[100] rfl (by first|rfl|simp[Act.eval]) #[.pointer (some ⟨b,0,none⟩)] (by first|rfl|simp[Act.eval]) (aa Hst _) ?_;intro o9 w9 oK;obtain ⟨z9,rfl⟩:=oK.ret;refine ⟨_,rfl,?_⟩;have Hq9:=aj oK;clear oK))
   all_goals (
    rcases aa Hq9 with ⟨QY,⟨e9,k',ts,v',s1,s2,s3,s4,s5,s6⟩|⟨c',v',n9,e9,s1,s2⟩⟩
    ·obtain rfl:z9=0:=by injection e9 with e9;injection e9
     obtain ⟨a',c',rfl⟩:=Db s2
     have PK:Hid (BX X.heap.size b X w9):=(aa HB).trans ((BX.of (below_drewN (zE wr.heap.size wr) _) hXw).trans QY)
     have HS9:=aj s1
     have HR9:Hid (w9.ownsRow X.heap.size 44 3 (.slice a' (n+ts.length) c') (n+ts.length) (cI (pre++ts))):=by rw[pw];exact s2
     have Hq0:Hid (tk s 0 0=nN (pre++ts) (tk s k' (n+ts.length))):=by show _=_;rw[aa Hq,s6,F4]
     clear e9 s1 s2 s6 QY Hq9 HB HS HR Hq
     go_wp2
     go_roundg (s.size-k')
     case measure=>have:=aa gA;omega
     case rel=>exact ⟨k',n+ts.length,pre++ts,a',c',rfl,rfl,s4,by have:=aa Hn;rw[zK,this],s5,HS9,HR9,Hq0,PK⟩
    ·obtain rfl:z9=(c':Int):=by injection e9 with e9;injection e9
     have PK:Hid (BX X.heap.size b X w9):=(aa HB).trans ((BX.of (below_drewN (zE wr.heap.size wr) _) hXw).trans QY)
     have yB:Hid (R3 s b W (.returned (.int .i64 (c':Int))) w9):=⟨aa Hge _ (aa PK),by rw[aa Hq,s2];exact ⟨n9,rfl,v',s1⟩⟩
     have q9:((c':Int) != 0)=true:=by simp;omega
     clear e9 s1 s2 QY Hq9 HB HS HR Hq PK
     go_wp2
     try rw[Exit.noGoto_ret]
     go_ret
     exact aa yB)
  ·obtain rfl:k=s.size:=by omega
   have qk:((s.size:Int)==(s.size:Int))=true:=by simp
   have aa6:∀(n':Nat) (ob:Obj),((wr.drewN n').alloc ob).cell? ⟨b,2,none⟩=some (.slice va n vc):=fun n' ob=>cL.c2 (s:=s) (k:=s.size) ((Below.heap_alloc wr ob b SZ).trans (aa HS))
   have c2:=(aa HS).c2
   have mM:∀(n':Nat) (ob:Obj),((wr.drewN n').alloc ob).heap.size=wr.heap.size+1:=fun n' ob=>zJ _ _
   have yA:=aj mM
   have O1:Hid (n+1≤maxLen):=by show _≤_;unfold maxLen;omega
   have O2:Hid ((n+1)*32≤140737488355328):=by show _≤_;omega
   have vG:(Value.slice va n vc).ownBlock≠some b:=fun e=>by have:=((aa HR).lt b e).1;omega
   have Htk:Hid (tk s 0 0=.inl (pre++[⟨5,s.size,⟨#[]⟩⟩])):=by show _=_;rw[aa Hq,Lu];rfl
   clear mM Hq HTw cw
   go_wp2
   go_quiet (fail)
   go_wp2_with fail
   go_region_law (first|(refine step_append_lies _ rfl (.tmp 19) (.tmp 25) 38 rfl X.heap.size 44 i0 (.agg #[.int .i64 0,.int .i64 0,.string ⟨#[]⟩]) 3 32 Tryz.underlying38 hi oH oG pQ rfl (by decide) (.slice va n vc) n (cI pre) (by first|rfl|simp[Act.eval]) ((aa HR).alloc _) ⟨wr.heap.size,0,none⟩ 1 1 [.int .i64 5,.int .i64 (s.size:Int),.string ⟨#[]⟩] (by first|rfl|simp[Act.eval]) rfl (fun j u hj=>DA _ #[.int .i64 5,.int .i64 (s.size:Int),.string ⟨#[]⟩] 44 j u hj) (by simp[Value.oneCell']) (by decide) (aa O1) (aa O2) (by rw[aa yA];omega) (wr.heap.size+1) (aa yA _ _) ?_;intro g9 c9 w9 DQ yM Nx aa2;have Pv:w9.heap[b]?=wr.heap[b]?:=(yM.block b (by rw[aa yA];omega) (fun e=>vG e.symm)).trans (Below.heap_alloc wr _ b SZ);have M5:cL w9 b s s.size (.slice va n vc):=Pv.trans (aa HS);have c29:=M5.c2;have f29:=jc 2 M5;have gb:g9≠b:=(fun e=>Nx.elim (fun q=>vG (by rw[q,e])) (fun q=>by omega));have Hs9:=aj M5;have Cp:=aj DQ;have PK:Hid (BX X.heap.size b X w9):=(aa HB).trans ⟨yM.os,yM.tape,yM.output,(by have:=yM.size;rw[aa yA] at this;omega),fun q hq _=>(yM.block q (by rw[aa yA];omega) (fun e=>by have:=((aa HR).lt q e.symm).1;omega)).trans (Below.heap_alloc wr _ q (by omega))⟩;clear DQ yM Nx Pv M5))
   all_goals go_wp2
   all_goals try rw[Exit.noGoto_ret]
   all_goals go_ret
   all_goals refine ⟨aa Hge _ ((aa PK).set 2 _),?_⟩
   all_goals rw[aa Htk]
   all_goals refine ⟨rfl,s.size,.slice (some ⟨g9,0,none⟩) (n+1) c9,heap_setCell_same _ b 2 _ _ _ (aa Hs9),?_⟩
   all_goals rw[pw,zK,←aa Hn]
   all_goals exact G0 (Jo gb (aa Cp)) (by omega)
end Go.Proofs.YtmlphohdcejniaaGreatDoor
namespace Go.Proofs
open Go.Shelf
def Tryz.BB:Go.Shelf.Ren:=⟨fun|25=>45|n=>n,fun|9=>9|3=>3|4=>4|37=>54|0=>0|47=>118|5=>5|n=>n,fun|n=>n⟩
theorem Tryz.MR:Go.Proofs.LaysPu.n25 Tryz.prog Tryz.BB:={
 mixed:=by kernel_rfl
 f25:=Tryz.func45.trans (congrArg some (by kernel_rfl))
 t0:=Tryz.underlying0
 a0:=Tryz.isAgg0
 z0:=Tryz.sizeOf0
 v0:=Tryz.zeroValue0
 i0:=by kernel_rfl
 t3:=Tryz.underlying3
 a3:=Tryz.isAgg3
 z3:=Tryz.sizeOf3
 v3:=Tryz.zeroValue3
 i3:=by kernel_rfl
 t4:=Tryz.underlying4
 a4:=Tryz.isAgg4
 z4:=Tryz.sizeOf4
 v4:=Tryz.zeroValue4
 i4:=by kernel_rfl
 t5:=Tryz.underlying5
 a5:=Tryz.isAgg5
 z5:=Tryz.sizeOf5
 v5:=Tryz.zeroValue5
 i5:=by kernel_rfl
 t9:=Tryz.underlying9
 a9:=Tryz.isAgg9
 z9:=Tryz.sizeOf9
 v9:=Tryz.zeroValue9
 i9:=by kernel_rfl
 t37:=Tryz.underlying54
 a37:=Tryz.isAgg54
 z37:=Tryz.sizeOf54
 v37:=Tryz.zeroValue54
 i37:=by kernel_rfl
 t47:=Tryz.underlying118
 a47:=Tryz.isAgg118
 z47:=Tryz.sizeOf118
 v47:=Tryz.zeroValue118
 i47:=by kernel_rfl }
end Go.Proofs
namespace Go.Proofs.YtmlphohdcejniaaGreatDoor
open Go.RowKit
attribute [local go_sem ↓] Go.wp_at_zero Go.wp_at_succ
theorem Gf (W:World) (s:ByteArray) (h:s.size≤281474976710656):Calls Tryz.prog 45 #[.string s] W fun e w=>e=.returned (.string s)∧Below W.heap.size W w:=AnyPu.stringslite_Clone Tryz.MR s W h
theorem AN (W:World) (s:ByteArray) (h:s.size≤281474976710656):Calls Tryz.prog 28 #[.string s] W fun e w=>e=.returned (.string s)∧Below W.heap.size W w:=by
 go_enter Tryz.func28,Tryz.ntmps28
 go_wp2_with fail
 refine (Gf W s h).mono ?_
 rintro e w ⟨rfl,hb⟩
 have Hb:=aj hb
 clear hb
 go_wp2
 go_ret
 exact ⟨rfl,aa Hb⟩
def OT (n0:Nat) (w:World) (e:Ending):List Tok ⊕ (Nat×Nat)→Prop
 |.inl ts=>∃v,e=.returned (.tuple #[v,.int .i64 0,.int .i64 0])∧w.ownsRow n0 44 3 v ts.length (cI ts)
 |.inr (k,c)=>c≠0∧e=.returned (.tuple #[.slice none 0 0,.int .i64 (k:Int),.int .i64 (c:Int)])
def RZ (s:ByteArray) (W:World) (e:Ending) (w:World):Prop:=Below W.heap.size W w∧OT W.heap.size w e (lP s)
theorem I8 {s:ByteArray} (h:65536<s.size):lP s=.inr (0,2):=by unfold lP;rw[if_pos h]
theorem Lq {s:ByteArray} (h:¬65536<s.size) (h2:0≤dq s 0):lP s=.inr ((dq s 0).toNat,44):=by unfold lP;rw[if_neg h,if_pos h2]
theorem A7 {s:ByteArray} (h:¬65536<s.size) (h2:¬0≤dq s 0):lP s=tk s 0 0:=by unfold lP;rw[if_neg h,if_neg h2]
theorem wL {W:World} (hF:nn W) (hE:gM W) (hM:gY W) (s:ByteArray):Calls Tryz.prog 10 #[.string s] W (RZ s W):=by
 have dZ:=zE W.heap.size W
 by_cases h0:65536<s.size
 ·have Hr:=aj (I8 h0)
  have e0:=ltT (a:=s.size) (k:=65536) (by omega)
  clear h0
  go_enter Tryz.func10,Tryz.ntmps10
  go_wp2
  go_ret3
  exact ⟨dZ,by rw[aa Hr];exact ⟨by decide,rfl⟩⟩
 ·have e0:=ltF (a:=s.size) (k:=65536) (by omega)
  have hs:s.size≤65536:=by omega
  have H0:=aj h0
  clear h0
  go_enter Tryz.func10,Tryz.ntmps10
  go_wp2_with fail
  refine (CM hF s (by omega)).mono ?_
  rintro e w1 ⟨rfl,bF⟩
  have kv:=aj bF
  clear bF dZ
  by_cases h1:0≤dq s 0
  ·have Hr:=aj (Lq (aa H0) h1)
   obtain ⟨u,hu⟩:∃u:Nat,dq s 0=(u:Int):=⟨(dq s 0).toNat,by omega⟩
   rw[hu] at Hr ⊢
   have e1:decide (0≤(u:Int))=true:=by simp
   clear hu h1
   go_wp2
   go_ret3
   exact ⟨aa kv,by rw[aa Hr];exact ⟨by decide,rfl⟩⟩
  ·have Hr:=aj (A7 (aa H0) h1)
   obtain ⟨u,hu⟩:∃u,u=dq s 0:=⟨_,rfl⟩
   rw[←hu] at h1 ⊢
   have e1:decide (0≤u)=false:=by simp;omega
   have HE:=aj hE
   have HM:=aj hM
   clear hu h1 hE hM
   go_wp2_with fail
   refine (AN w1 s (by omega)).mono ?_
   rintro e w2 ⟨rfl,bJ⟩
   have AW:Hid (Below W.heap.size W w2):=(aa kv).trans (bJ.mono (aa kv).size)
   clear bJ
   go_wp2_with fail
   have hr:=Qe (W0:=W) (W:=w2.alloc (.cells #[.string s,.int .i64 0,.slice none 0 0] 75)) (b:=w2.heap.size) (s:=s) (aa HE) (aa HM) ((aa AW).alloc (aa AW).size _) (aa AW).size (aC w2 _) hs
   have EW:=aj (zJ w2 (.cells #[.string s,.int .i64 0,.slice none 0 0] 75))
   have Tn:Hid (Below W.heap.size W (w2.alloc (.cells #[.string s,.int .i64 0,.slice none 0 0] 75))):=(aa AW).alloc (aa AW).size _
   have hle:=(aa AW).size
   have hb:∃b,w2.heap.size=b:=⟨_,rfl⟩
   obtain ⟨b,hb⟩:=hb
   rw[hb] at hr EW hle ⊢
   generalize w2.alloc (.cells #[.string s,.int .i64 0,.slice none 0 0] 75)=V at *
   clear hb AW
   refine hr.mono ?_
   rintro e w3 ⟨hx,hq⟩
   have D0:Below W.heap.size W w3:=(aa Tn).trans (hx.below hle (aa Tn).size)
   have E0:=aj D0
   have hVs:V.heap.size=b+1:=aa EW
   cases ht:tk s 0 0 with
   |inl ts =>
    rw[ht] at hq
    obtain ⟨rfl,k,v',h1,h2⟩:=hq
    have c2:=h1.c2
    have yB:Hid (OT W.heap.size w3 (.returned (.tuple #[v',.int .i64 0,.int .i64 0])) (lP s)):=by
     show OT _ _ _ _
     rw[aa Hr,ht]
     exact ⟨v',rfl,G0 h2 (by omega)⟩
    obtain ⟨va,vc,rfl⟩:=Db h2
    clear h1 h2 hx D0 ht Hr hr
    go_wp2
    go_ret3
    exact ⟨aa E0,aa yB⟩
   |inr p =>
    obtain ⟨k,c⟩:=p
    rw[ht] at hq
    obtain ⟨hc,rfl,v',h1⟩:=hq
    have c1:=h1.c1
    have yB:Hid (OT W.heap.size w3 (.returned (.tuple #[.slice none 0 0,.int .i64 (k:Int),.int .i64 (c:Int)])) (lP s)):=by
     show OT _ _ _ _
     rw[aa Hr,ht]
     exact ⟨hc,rfl⟩
    have q9:((c:Int) != 0)=true:=by simp;omega
    clear h1 hx D0 ht Hr hr hc
    go_wp2
    go_quiet (fail)
    go_wp2
    go_ret3
    exact ⟨below_drewN (aa E0) _,aa yB⟩
end Go.Proofs.YtmlphohdcejniaaGreatDoor
namespace Go.Proofs.YtmlphohdcejniaaGreatDoor
open Go.RowKit Go.Lib
attribute [local go_sem ↓] Go.wp_at_zero Go.wp_at_succ
def VB (B j v:Nat):Prop:=v<B ^ j
theorem VB.next {B j v d:Nat} (h:VB B j v) (hd:d<B):VB B (j+1) (v*B+d):=by
 unfold VB at *
 rw[Nat.pow_succ]
 have:(v+1)*B≤B ^ j*B:=Nat.mul_le_mul_right B h
 rw[Nat.add_mul,Nat.one_mul] at this
 omega
theorem Bytes.drew {base:Nat}{W:World}{v:Value}{l:List Nat} (h:Bytes base W v l) (n:Nat):Bytes base (W.drewN n) v l:=h
end Go.Proofs.YtmlphohdcejniaaGreatDoor
namespace Go.Proofs.YtmlphohdcejniaaGreatDoor
open Go.RowKit
attribute [local go_sem ↓] Go.wp_at_zero Go.wp_at_succ
def sx (W:World) (v:Value) (ts:List Tok):Prop:=∃(a:Option Addr) (c:Nat),v=.slice a ts.length c∧ts.length≤c∧(0<ts.length→∃g,a=some ⟨g,0,none⟩∧g<W.heap.size∧∀i t,ts[i]?=some t→W.cell? ⟨g,i*3,none⟩=some (.int .i64 (t.kind:Int))∧W.cell? ⟨g,i*3+1,none⟩=some (.int .i64 (t.place:Int))∧W.cell? ⟨g,i*3+2,none⟩=some (.string t.text))
theorem xR (W:World):sx W (.slice none 0 0) []:=⟨none,0,rfl,zD _,fun h=>by simp at h⟩
theorem sx.up {W w:World}{v:Value}{ts:List Tok} (h:sx W v ts) (hb:Below W.heap.size W w):sx w v ts:=by
 obtain ⟨a,c,rfl,hc,h3⟩:=h
 refine ⟨a,c,rfl,hc,fun hp=>?_⟩
 obtain ⟨g,rfl,h4,h5⟩:=h3 hp
 exact ⟨g,rfl,Nat.lt_of_lt_of_le h4 hb.size,fun i t ht=>⟨(hb.cell (p:=⟨g,i*3,none⟩) h4).trans (h5 i t ht).1,(hb.cell (p:=⟨g,i*3+1,none⟩) h4).trans (h5 i t ht).2.1,(hb.cell (p:=⟨g,i*3+2,none⟩) h4).trans (h5 i t ht).2.2⟩⟩
theorem nW:∀(ts:List Tok) (i:Nat) (t:Tok),ts[i]?=some t→(cI ts)[i*3]?=some (.int .i64 (t.kind:Int))∧(cI ts)[i*3+1]?=some (.int .i64 (t.place:Int))∧(cI ts)[i*3+2]?=some (.string t.text)
 |[],i,t,h=>by simp at h
 |x::r,0,t,h=>by
  obtain rfl:x=t:=by simpa using h
  exact ⟨rfl,rfl,rfl⟩
 |x::r,i+1,t,h=>by
  have:=nW r i t (by simpa using h)
  rw[show (i+1)*3=i*3+3 by omega]
  exact this
theorem J3 {W:World}{B:Nat}{v:Value}{ts:List Tok} (h:W.ownsRow B 44 3 v ts.length (cI ts)):sx W v ts:=by
 obtain ⟨h1,⟨rfl,h0⟩|⟨g,c,cur,rfl,h2,h3,h4,h5,h6,h7⟩⟩:=h
 ·obtain rfl:=List.eq_nil_of_length_eq_zero h0
  exact xR W
 ·refine ⟨_,c,rfl,h4,fun hp=>⟨g,rfl,(zA h3).1,fun i t ht=>?_⟩⟩
  have pS:∀(j:Nat) (u:Value),(cI ts)[j]?=some u→W.cell? ⟨g,j,none⟩=some u:=fun j u hj=>by
   rw[cell_of_row _ _ _ _ _ _ h3,←Array.getElem?_toList]
   rw[←h7,List.getElem?_take] at hj
   split at hj
   ·exact hj
   ·cases hj
  obtain ⟨e1,e2,e3⟩:=nW ts i t ht
  exact ⟨pS _ _ e1,pS _ _ e2,pS _ _ e3⟩
theorem RZ.ret {s:ByteArray}{W w:World}{e:Ending} (h:RZ s W e w):∃(v:Value) (k c:Nat) (ts:List Tok),e=.returned (.tuple #[v,.int .i64 (k:Int),.int .i64 (c:Int)])∧sx w v ts∧((c=0∧k=0∧lP s=.inl ts)∨(c≠0∧ts=[]∧v=.slice none 0 0∧lP s=.inr (k,c))):=by
 obtain ⟨_,h2⟩:=h
 cases ht:lP s with
 |inl ts =>
  rw[ht] at h2
  obtain ⟨v,rfl,h3⟩:=h2
  exact ⟨v,0,0,ts,rfl,J3 h3,.inl ⟨rfl,rfl,rfl⟩⟩
 |inr p =>
  obtain ⟨k,c⟩:=p
  rw[ht] at h2
  obtain ⟨hc,rfl⟩:=h2
  exact ⟨_,k,c,[],rfl,xR w,.inr ⟨hc,rfl,rfl,rfl⟩⟩
theorem Lr (s:ByteArray):∀(f k n:Nat) (ts:List Tok),n≤16383→jV s f k n=.inl ts→n+ts.length≤16384:=by
 intro f
 induction f with
 |zero=>intro k n ts _ h;cases h
 |succ f ih =>
  intro k n ts hn h
  rw[jV] at h
  split at h
  ·cases h
  ·split at h
   ·have:=Sum.inl.inj h
    rw[←this]
    simp
    omega
   ·split at h
    ·cases h
    ·split at h
     ·cases hr:jV s f (cJ s (bA s s.size k).1).2.1 (n+1) with
      |inl l =>
       rw[hr] at h
       have:=Sum.inl.inj h
       have h2:=ih _ _ l (by omega) hr
       rw[←this,List.length_cons]
       omega
      |inr e=>rw[hr] at h;cases h
     ·cases h
theorem Lo {s:ByteArray}{ts:List Tok} (h:lP s=.inl ts):ts.length≤16384:=by
 unfold lP at h
 split at h
 ·cases h
 ·split at h
  ·cases h
  ·have:=Lr s _ 0 0 ts (by omega) h
   omega
theorem Q5 {W:World} (h:W.ShapedOpen Tryz.prog):gY W:=by
 obtain ⟨m,hm⟩:=cell_of_shapedOpen_int (P:=Tryz.prog) (g:=1) (t:=3) (zero:=#[.int .i64 0]) h (of_decide_eq_true (by kernel_rfl)) (by kernel_rfl) rfl (by kernel_rfl) (by kernel_rfl) Tryz.underlying3
 exact ⟨World.block_lt_of_cell? W _ hm,m,hm⟩
end Go.Proofs.YtmlphohdcejniaaGreatDoor
namespace Go.Proofs.YtmlphohdcejniaaGreatDoor
open Go.ChangeShapes Go.WideShapes Go.ChangeAt Go.RowKit
def VY (W:World) (v:Value) (l:List ByteArray):Prop:=∃a c,v=.slice a l.length c∧(l.length≤c∧c≤maxLen∧(a=none→c=0))∧(0<l.length→∃g off,a=some ⟨g,off,none⟩∧g<W.heap.size∧∀i s,l[i]?=some s→W.cell? ⟨g,off+i,none⟩=some (.string s))
theorem VY.up {W w:World}{v:Value}{l:List ByteArray} (h:VY W v l) (hb:Below W.heap.size W w):VY w v l:=by
 obtain ⟨a,c,rfl,hm,h3⟩:=h
 refine ⟨a,c,rfl,hm,fun hp=>?_⟩
 obtain ⟨g,off,rfl,h4,h5⟩:=h3 hp
 exact ⟨g,off,rfl,Nat.lt_of_lt_of_le h4 hb.size,fun i k hk=>(hb.cell (p:=⟨g,off+i,none⟩) h4).trans (h5 i k hk)⟩
end Go.Proofs.YtmlphohdcejniaaGreatDoor
namespace Go.Proofs.YtmlphohdcejniaaGreatDoor
open Go.RowKit Go.Lib
theorem I2 {s:ByteArray} (h:∀k,k<s.size→ax s k<128):∀(m k:Nat),s.size-k≤m→dq s k=-1:=by
 intro m
 induction m with
 |zero=>intro k hm;exact A5 (by omega)
 |succ m ih =>
  intro k hm
  by_cases hk:k<s.size
  ·have hc:=Ot hk (h k hk)
   rw[CL hk (by omega),hc]
   exact ih (k+1) (by omega)
  ·exact A5 hk
end Go.Proofs.YtmlphohdcejniaaGreatDoor
namespace Go.Proofs.YtmlphohdcejniaaGreatDoor
open Go.RowKit
attribute [local go_sem ↓] Go.wp_at_zero Go.wp_at_succ
end Go.Proofs.YtmlphohdcejniaaGreatDoor
namespace Go.Proofs.YtmlphohdcejniaaGreatDoor
open Go.RowKit
structure Tk where
 kind:Int
 spot:Int
 text:ByteArray
def Tk.cells (t:Tk):List Value:=[.int .i64 t.kind,.int .i64 t.spot,.string t.text]
def fe:List Tk→List Value
 |[]=>[]
 |t::r=>.int .i64 t.kind::.int .i64 t.spot::.string t.text::fe r
theorem xF:∀l:List Tk,(fe l).length=l.length*3
 |[]=>rfl
 |t::r=>by
  have:=xF r
  simp only[fe,List.length_cons,this]
  omega
theorem Am:∀(l:List Tk) (i:Nat) (t:Tk),l[i]?=some t→(fe l)[i*3]?=some (.int .i64 t.kind)∧(fe l)[i*3+1]?=some (.int .i64 t.spot)∧(fe l)[i*3+2]?=some (.string t.text)
 |[],i,t,h=>by simp at h
 |x::r,0,t,h=>by
  obtain rfl:x=t:=by simpa using h
  exact ⟨rfl,rfl,rfl⟩
 |x::r,i+1,t,h=>by
  have:=Am r i t (by simpa using h)
  rw[show (i+1)*3=i*3+3 by omega]
  exact this
theorem xE:∀(l:List Tk),∀u ∈ fe l,u.oneCell'=true
 |[],u,h=>by simp[fe] at h
 |x::r,u,h=>by
  simp only[fe,List.mem_cons] at h
  rcases h with rfl|rfl|rfl|h
  ·rfl
  ·rfl
  ·rfl
  ·exact xE r u h
theorem xD:∀(l:List Tk) (i:Nat) (t:Tk),fe (l.set i t)=(((fe l).set (i*3) (.int .i64 t.kind)).set (i*3+1) (.int .i64 t.spot)).set (i*3+2) (.string t.text)
 |[],i,t=>by simp[fe]
 |x::r,0,t=>rfl
 |x::r,i+1,t=>by
  rw[zN,show (i+1)*3=i*3+3 by omega]
  simp only[fe,xD r i t]
  rfl
def Tok.tk (t:Tok):Tk:=⟨(t.kind:Int),(t.place:Int),t.text⟩
theorem rB:∀ts:List Tok,cI ts=fe (ts.map Tok.tk)
 |[]=>rfl
 |t::r=>by
  have:=rB r
  simp only[List.map_cons,fe,←this]
  rfl
def iK (bs:Nat) (W:World) (v:Value) (l:List Tk):Prop:=W.ownsRow bs 44 3 v l.length (fe l)
theorem iK.cap {bs:Nat}{W:World}{a:Option Addr}{n c:Nat}{l:List Tk} (h:iK bs W (.slice a n c) l):n=l.length∧l.length≤c:=by
 rcases h.2 with ⟨e,h0⟩|⟨g,cap,_,e,_,_,h4,_⟩
 ·cases e
  exact ⟨h0.symm,by omega⟩
 ·cases e
  exact ⟨rfl,h4⟩
theorem iK.at' {bs:Nat}{W:World}{g n c:Nat}{l:List Tk} (h:iK bs W (.slice (some ⟨g,0,none⟩) n c) l) {j:Nat}{u:Value} (hj:(fe l)[j]?=some u):W.cell? ⟨g,j,none⟩=some u:=by
 obtain ⟨rfl,_⟩:=h.cap
 rw[World.ownsRow.cellAt h j (by rw[←xF];exact (zB hj).1),hj]
theorem iK.cell {bs:Nat}{W:World}{g n c:Nat}{l:List Tk} (h:iK bs W (.slice (some ⟨g,0,none⟩) n c) l) {i:Nat}{t:Tk} (hi:l[i]?=some t) :
  W.cell? ⟨g,i*3,none⟩=some (.int .i64 t.kind)∧W.cell? ⟨g,i*3+1,none⟩=some (.int .i64 t.spot)∧W.cell? ⟨g,i*3+2,none⟩=some (.string t.text):=by
 obtain ⟨a,b,c'⟩:=Am l i t hi
 exact ⟨h.at' a,h.at' b,h.at' c'⟩
theorem iK.frozenAt {bs:Nat}{W:World}{g n c:Nat}{l:List Tk} (h:iK bs W (.slice (some ⟨g,0,none⟩) n c) l) (j:Nat):W.frozen? ⟨g,j,none⟩=false:=by
 obtain ⟨rfl,_⟩:=h.cap
 exact World.ownsRow.frozenAt h j
theorem iK.lt {bs:Nat}{W:World}{g n c:Nat}{l:List Tk} (h:iK bs W (.slice (some ⟨g,0,none⟩) n c) l):bs≤g∧g<W.heap.size:=World.ownsRow.lt h g rfl
theorem iK.set {bs:Nat}{W:World}{g n c:Nat}{l:List Tk} (h:iK bs W (.slice (some ⟨g,0,none⟩) n c) l) (i:Nat) (t:Tk) :
  iK bs (((W.setCell ⟨g,i*3,none⟩ (.int .i64 t.kind)).setCell ⟨g,i*3+1,none⟩ (.int .i64 t.spot)).setCell ⟨g,i*3+2,none⟩ (.string t.text)) (.slice (some ⟨g,0,none⟩) n c) (l.set i t) ∧
   W.grownBy (((W.setCell ⟨g,i*3,none⟩ (.int .i64 t.kind)).setCell ⟨g,i*3+1,none⟩ (.int .i64 t.spot)).setCell ⟨g,i*3+2,none⟩ (.string t.text)) (some g):=by
 obtain ⟨rfl,_⟩:=h.cap
 obtain ⟨h1,g1⟩:=World.ownsRow.stored h (i*3) (.int .i64 t.kind)
 obtain ⟨h2,g2⟩:=World.ownsRow.stored h1 (i*3+1) (.int .i64 t.spot)
 obtain ⟨h3,g3⟩:=World.ownsRow.stored h2 (i*3+2) (.string t.text)
 refine ⟨?_,(g1.trans g2).trans g3⟩
 unfold iK
 rw[xD,List.length_set]
 exact h3
theorem iK.kept {bs:Nat}{W W':World}{v:Value}{l:List Tk} (h:iK bs W v l) {row:Option Nat} (hg:W.grownBy W' row) (eo:v.ownBlock=none∨v.ownBlock≠row):iK bs W' v l:=World.ownsRow.kept h hg eo
theorem gQ {bs:Nat}{W w:World}{e size n:Nat}{v:Value}{xs:List Value} (h:W.ownsRow bs e size v n xs) (hb:Below W.heap.size W w):w.ownsRow bs e size v n xs:=by
 refine ⟨h.1,?_⟩
 rcases h.2 with h1|⟨g',cap,cur,e,bF,hc,rest⟩
 ·exact .inl h1
 ·refine .inr ⟨g',cap,cur,e,bF,?_,rest⟩
  rw[hb.block g' (zA hc).1]
  exact hc
theorem jZ {W:World}{bs bs' e size n:Nat}{v:Value}{xs:List Value} (h:W.ownsRow bs e size v n xs) (hb:bs'≤bs):W.ownsRow bs' e size v n xs:=by
 refine ⟨h.1,?_⟩
 rcases h.2 with h1|⟨g',cap,cur,e,bF,rest⟩
 ·exact .inl h1
 ·exact .inr ⟨g',cap,cur,e,Nat.le_trans hb bF,rest⟩
theorem iK.up {bs:Nat}{W w:World}{v:Value}{l:List Tk} (h:iK bs W v l) (hb:Below W.heap.size W w):iK bs w v l:=gQ h hb
theorem iK.mono {bs bs':Nat}{W:World}{v:Value}{l:List Tk} (h:iK bs W v l) (hb:bs'≤bs):iK bs' W v l:=jZ h hb
section
variable {P : Program}
end
end Go.Proofs.YtmlphohdcejniaaGreatDoor
