import Derived.Test.YtichhjfjcinjgaaGreatDoorM15
import Derived.Shelf.Strings.OnBuilder
set_option maxHeartbeats 4000000
set_option maxRecDepth 100000
namespace Go.Proofs.YtichhjfjcinjgaaGreatDoor
open Go.RowKit
attribute [local go_sem ↓] Go.wp_at_zero Go.wp_at_succ
def lL (gs:List (List Fd)) (d:Fd):Bool:=match gs[gs.length-1]? with
 |some (a::_)=>tR a d
 |_=>false
def mN (gs:List (List Fd)) (d:Fd):List (List Fd):=if lL gs d then gs.set (gs.length-1) (gs.getD (gs.length-1) []++[d]) else gs++[([d])]
def ck (l:List Fd):List (List Fd):=l.foldl mN []
theorem gZ {l:List Fd}{i:Nat}{d:Fd} (h:l[i]?=some d):ck (l.take (i+1))=mN (ck (l.take i)) d:=by
 rw[bL h]
 unfold ck
 rw[List.foldl_append]
 rfl
theorem K9 (gs:List (List Fd)) (d:Fd):(mN gs d).length≤gs.length+1:=by
 unfold mN
 split
 ·rw[List.length_set];omega
 ·rw[zK];simp
theorem xX (l:List Fd):∀(i:Nat),i≤l.length→(ck (l.take i)).length≤i∧∀G ∈ ck (l.take i),G.length≤i:=by
 intro i
 induction i with
 |zero=>intro _;simp[ck]
 |succ i ih =>
  intro h
  obtain ⟨h1,h2⟩:=ih (by omega)
  rw[gZ (List.getElem?_eq_getElem (show i<l.length by omega))]
  refine ⟨Nat.le_trans (K9 _ _) (Nat.succ_le_succ h1),fun G hG=>?_⟩
  unfold mN at hG
  split at hG
  ·rcases List.mem_or_eq_of_mem_set hG with z|rfl
   ·exact Nat.le_succ_of_le (h2 G z)
   ·rw[zK,List.getD_eq_getElem?_getD]
    cases e:(ck (l.take i))[(ck (l.take i)).length-1]? with
    |none=>simp
    |some K=>have:=h2 K (List.mem_of_getElem? e);simpa using this
  ·rcases List.mem_append.1 hG with z|z
   ·exact Nat.le_succ_of_le (h2 G z)
   ·simp at z;subst z;simp
theorem tD {B n t:Nat}{w:World}{q c:Nat}{xs:List Value} (h:w.ownsRow B t 1 (.slice (some ⟨q,0,none⟩) n c) n xs) {k:Nat}{x:Value} (hk:xs[k]?=some x):w.cell? ⟨q,k,none⟩=some x∧w.frozen? ⟨q,k,none⟩=false:=by
 rcases h.2 with ⟨e,_⟩|⟨q',c',cur,e,hB,hh,h3,h4,h5,h6⟩
 ·cases e
 ·obtain ⟨rfl,rfl⟩:q=q'∧c=c':=by simpa using e
  refine ⟨?_,by simp[World.frozen?,hh]⟩
  rw[cell_of_row _ _ _ _ _ _ hh,←Array.getElem?_toList]
  rw[←h6,List.getElem?_take] at hk
  split at hk
  ·exact hk
  ·cases hk
theorem B1 {w0:World}{va:Value}{l:List Fd}{gA:List Nat}{lo:Nat} (ha:Al lo w0 va l gA) (dD:lo≤w0.heap.size) (hl:l.length≤4096):Calls Tryz.prog 176 #[va,.func (.func 177) #[] #[]] w0 fun e w=>∃v us,e=.returned v∧Jn lo w0.heap.size w0 w va v l gA l.length (ck l) us:=by
 obtain ⟨i0,hi,gj,dR,c7⟩:=info_parts Ae
 have S9:Hid (Jn lo w0.heap.size w0 w0 va (.slice none 0 0) l gA 0 [] []):=⟨zE _ _,zD _,dD,ha.row,fun k e=>(ha.row.lt k e).2,ha.len,fun g hg=>⟨ha.low g hg,ha.lt hg⟩,ha.nd,fun j d g _ h1 h2=>ha.dq j d g h1 h2,⟨rfl,.inl ⟨rfl,rfl⟩⟩,rfl,fun k G u h=>by simp at h,fun G h=>by simp at h,fun k k' u u' b _ h=>by simp at h,fun k j u b g _ h=>by simp at h⟩
 have Hal:=al ha.len
 have hva:∃a c,va=.slice a l.length c:=by
  rcases ha.row.2 with ⟨rfl,h2⟩|⟨q,c,cur,rfl,_⟩
  ·exact ⟨none,0,by rw[h2]⟩
  ·exact ⟨_,_,rfl⟩
 obtain ⟨aa,ac,rfl⟩:=hva
 have HL:=al hl
 clear ha dD
 go_enter Tryz.func176,Tryz.ntmps176
 go_wp2
 go_loopg [5,7,8,9,10,13] l.length (fun gk v5 _ _ _ _ ML wr=>∃(i:Nat) (us:List Value),ML=.int .i64 (i:Int)∧gk=l.length-i∧i≤l.length∧Hid (Jn lo w0.heap.size w0 wr (.slice aa l.length ac) v5 l gA i (ck (l.take i)) us))
 case atStart=>exact ⟨0,[],rfl,rfl,by omega,S9⟩
 case round =>
  obtain ⟨i,us,rfl,aU,eS,HJ⟩:=hrel
  have HN:=al (xX l i eS).1
  have HNg:=al (xX l i eS).2
  have bz:=al aU
  clear aU S9
  by_cases aM:i<l.length
  ·obtain ⟨d,hd⟩:∃d,l[i]?=some d:=⟨_,List.getElem?_eq_getElem aM⟩
   obtain ⟨g,hg⟩:∃g,gA[i]?=some g:=⟨_,List.getElem?_eq_getElem (by rw[ab Hal];exact aM)⟩
   obtain ⟨ah,rfl⟩:∃ah,aa=some ⟨ah,0,none⟩:=by
    rcases (ab HJ).Sr.2 with ⟨e,h2⟩|⟨q,c,cur,e,_⟩
    ·omega
    ·cases e;exact ⟨_,rfl⟩
   have x0:=(tD (ab HJ).Sr (k:=i) (x:=og g) (by rw[List.getElem?_map,hg];rfl)).1
   unfold og at x0
   have HT:=al (gZ hd)
   have Hd:=al hd
   have Hg:=al hg
   have LW:(0:Int)≤(i:Int):=zH _
   have i1:(i:Int)<(l.length:Int):=by omega
   have bu:=al aM
   obtain ⟨gs,NL⟩:∃gs,ck (l.take i)=gs:=⟨_,rfl⟩
   rw[NL] at HJ HT HN HNg
   clear hd hg NL aM
   rcases (ab HJ).row.2 with ⟨VY,hz⟩|⟨q,c,cur,dU,-⟩
   ·obtain rfl:=VY
    have SH:=al (show lL gs d=false by unfold lL;rw[List.getElem?_eq_none (by omega)])
    clear hz
    have CK:=al (ab HJ).row
    go_wp2_with (at_builtin;refine wpList_append_own_at _ rfl _ _ 164 rfl w0.heap.size 43 i0 (.slice none 0 0) 1 24 Tryz.underlying164 hi gj dR c7 rfl (by decide) _ _ _ rfl ((ab CK).alloc _) ⟨wr.heap.size,0,none⟩ 1 1 [.slice (some ⟨g,0,none⟩) 1 1] rfl rfl (cell_one_new _ _ _) (by simp[Value.oneCell']) (by have:=ab HN;have:=ab bu;have:=ab HL;unfold maxLen;omega) (by have:=ab HN;have:=ab bu;have:=ab HL;omega) (by rw[zJ];have:=(ab HJ).FB;omega) ?_;intro v' w9 ho nk _ _;have ME:=al ((ab HJ).app (ab Hd) (ab Hg) ho ((World.grownBy_alloc _ _ _).trans nk));clear ho nk)
    have Fu:=al (show Jn lo w0.heap.size w0 w9 _ v' l gA (i+1) (ck (l.take (i+1))) _ by rw[ab HT];unfold mN;rw[ab SH];exact ab ME)
    clear ME
    go_roundg (l.length-(i+1))
    case measure=>have:=ab bz;have:=ab bu;omega
    case rel=>exact ⟨i+1,_,by go_num,rfl,ab bu,Fu⟩
   ·obtain rfl:=dU
    have hnb:gs.length≤4096:=by have:=ab HN;have:=ab bu;omega
    by_cases xN:0<gs.length
    ·obtain ⟨m,hm⟩:∃m,gs.length=m+1:=⟨gs.length-1,by omega⟩
     obtain ⟨G,hG⟩:∃G,gs[m]?=some G:=⟨_,List.getElem?_eq_getElem (by omega)⟩
     obtain ⟨u,hu⟩:∃u,us[m]?=some u:=⟨_,List.getElem?_eq_getElem (by rw[(ab HJ).len];omega)⟩
     have ZL:=(ab HJ).ne G (List.mem_of_getElem? hG)
     obtain ⟨a,r,rfl⟩:∃a r,G=a::r:=by
      cases G with
      |nil=>simp at ZL
      |cons a r=>exact ⟨a,r,rfl⟩
     have Tu:lL gs d=tR a d:=by unfold lL;rw[show gs.length-1=m by omega,hG]
     have y0:=(tD (ab HJ).row hu).1
     have T6:=al (show (a::r).length≤4096 by have:=ab HNg _ (List.mem_of_getElem? hG);have:=ab bu;omega)
     have HC:=al (IU (d1:=a) (d:=d) ((ab HJ).Iq m _ u hG hu) rfl (ab T6) ((ab HJ).dq i d g (zD _) (ab Hd) (ab Hg)) (Nat.le_trans (ab HJ).low (ab HJ).FB))
     have e1:(gs.length:Int)-1=(m:Int):=by omega
     have m0:(0:Int)≤(m:Int):=zH _
     have m1:(m:Int)<(gs.length:Int):=by omega
     have Hm:=al hm
     have HG:=al hG
     have Hu:=al hu
     have TW:=al Tu
     obtain ⟨ua,ul,uc,rfl⟩:∃a l c,u=.slice a l c:=by
      rcases ((ab HJ).Iq m _ u hG hu).2 with ⟨rfl,_⟩|⟨_,_,_,rfl,_⟩<;>exact ⟨_,_,_,rfl⟩
     clear hm hG hu ZL Tu xN
     go_wp2_with fail
     refine (ab HC).mono ?_
     intro e w1 hq
     unfold Xa at hq
     cases hj:tR a d with
     |true =>
      rw[hj,if_pos rfl] at hq
      obtain ⟨u',rfl,dP,dM,RZ⟩:=hq
      have G1:=(ab HJ).Kv (ab HG) (ab Hu) dM
      obtain ⟨z0,z1⟩:=tD G1 (ab Hu)
      have CL:=al ((ab HJ).join (m:=m) (d:=d) (ab Hm).symm (ab HG) (ab Hu) dP dM RZ)
      have HgS:=al (show mN gs d=gs.set m ((a::r)++[d]) by
       unfold mN
       rw[ab TW,hj,if_pos rfl,show gs.length-1=m by have:=ab Hm;omega,List.getD_eq_getElem?_getD,ab HG]
       rfl)
      obtain ⟨A0,vl',AZ,rfl⟩:∃a l c,u'=.slice a l c:=by
       rcases dP.2 with ⟨rfl,_⟩|⟨_,_,_,rfl,_⟩<;>exact ⟨_,_,_,rfl⟩
      clear dP dM RZ G1 HC hj
      go_wp2
      go_roundg (l.length-(i+1))
      case measure=>have:=ab bz;have:=ab bu;omega
      case rel=>exact ⟨i+1,_,by go_num,rfl,ab bu,by rw[ab HT,ab HgS];exact CL⟩
     |false =>
      rw[hj] at hq
      obtain ⟨rfl,aW⟩:=hq
      have qI:=al ((ab HJ).up aW)
      have SH:=al (show lL gs d=false from (ab TW).trans hj)
      clear aW hj HC
      have CK:=al (ab qI).row
      go_wp2_with (at_builtin;refine wpList_append_own_at _ rfl _ _ 164 rfl w0.heap.size 43 i0 (.slice none 0 0) 1 24 Tryz.underlying164 hi gj dR c7 rfl (by decide) _ _ _ rfl ((ab CK).alloc _) ⟨w1.heap.size,0,none⟩ 1 1 [.slice (some ⟨g,0,none⟩) 1 1] rfl rfl (cell_one_new _ _ _) (by simp[Value.oneCell']) (by have:=ab HN;have:=ab bu;have:=ab HL;unfold maxLen;omega) (by have:=ab HN;have:=ab bu;have:=ab HL;omega) (by rw[zJ];have:=(ab qI).FB;omega) ?_;intro v' w9 ho nk _ _;have ME:=al ((ab qI).app (ab Hd) (ab Hg) ho ((World.grownBy_alloc _ _ _).trans nk));clear ho nk)
      have Fu:=al (show Jn lo w0.heap.size w0 w9 _ v' l gA (i+1) (ck (l.take (i+1))) _ by rw[ab HT];unfold mN;rw[ab SH];exact ab ME)
      clear ME
      go_roundg (l.length-(i+1))
      case measure=>have:=ab bz;have:=ab bu;omega
      case rel=>exact ⟨i+1,_,by go_num,rfl,ab bu,Fu⟩
    ·have SH:=al (show lL gs d=false by unfold lL;rw[List.getElem?_eq_none (by omega)])
     have e1:gs.length=0:=by omega
     clear xN
     have CK:=al (ab HJ).row
     go_wp2_with (at_builtin;refine wpList_append_own_at _ rfl _ _ 164 rfl w0.heap.size 43 i0 (.slice none 0 0) 1 24 Tryz.underlying164 hi gj dR c7 rfl (by decide) _ _ _ rfl ((ab CK).alloc _) ⟨wr.heap.size,0,none⟩ 1 1 [.slice (some ⟨g,0,none⟩) 1 1] rfl rfl (cell_one_new _ _ _) (by simp[Value.oneCell']) (by have:=ab HN;have:=ab bu;have:=ab HL;unfold maxLen;omega) (by have:=ab HN;have:=ab bu;have:=ab HL;omega) (by rw[zJ];have:=(ab HJ).FB;omega) ?_;intro v' w9 ho nk _ _;have ME:=al ((ab HJ).app (ab Hd) (ab Hg) ho ((World.grownBy_alloc _ _ _).trans nk));clear ho nk)
     have Fu:=al (show Jn lo w0.heap.size w0 w9 _ v' l gA (i+1) (ck (l.take (i+1))) _ by rw[ab HT];unfold mN;rw[ab SH];exact ab ME)
     clear ME
     go_roundg (l.length-(i+1))
     case measure=>have:=ab bz;have:=ab bu;omega
     case rel=>exact ⟨i+1,_,by go_num,rfl,ab bu,Fu⟩
  ·obtain rfl:i=l.length:=by omega
   have hO:=ab HJ
   rw[List.take_length] at hO
   have lO:=al hO
   clear hO
   go_wp2
   go_ret
   exact ⟨_,us,rfl,ab lO⟩
structure Gr (lo:Nat) (w:World) (v:Value) (gs:List (List Fd)) (us:List Value):Prop where
 row:∃B,lo≤B∧w.ownsRow B 43 1 v gs.length us
 len:us.length=gs.length
 Iq:∀(k:Nat) (G:List Fd) (u:Value),gs[k]?=some G→us[k]?=some u→w.ownsRow lo 42 6 u G.length (fw G)
theorem CH {W:World}{v:Value}{l:List Fd} (hv:Rl W v l.length (fw l)) (hl:l.length≤4096) (w0:World) (hw:Below W.heap.size W w0):Calls Tryz.prog 131 #[v] w0 fun e w=>∃u us,e=.returned u∧Gr w0.heap.size w u (ck l) us∧Below w0.heap.size w0 w:=by
 have HE:=al (E4 hv hl w0 hw)
 obtain ⟨a,c,rfl,-,-⟩:=hv
 have Hl:=al hl
 clear hw hl
 go_enter Tryz.func131,Tryz.ntmps131
 go_wp2_with fail
 refine (ab HE).mono ?_
 rintro e w1 ⟨u1,gA,rfl,ha,aW⟩
 have HJ:=al (B1 ha aW.size (ab Hl))
 have HB:=al aW
 obtain ⟨a1,l1,c1,rfl⟩:∃a l c,u1=.slice a l c:=by
  rcases ha.row.2 with ⟨rfl,_⟩|⟨_,_,_,rfl,_⟩<;>exact ⟨_,_,_,rfl⟩
 clear ha aW HE
 go_wp2_with fail
 refine (ab HJ).mono ?_
 rintro e w2 ⟨u2,us,rfl,hj⟩
 have HG:=al (show Gr w0.heap.size w2 u2 (ck l) us from ⟨⟨_,(ab HB).size,hj.row⟩,hj.len,hj.Iq⟩)
 have cR:=al ((ab HB).trans hj.bW)
 obtain ⟨a2,l2,c2,rfl⟩:∃a l c,u2=.slice a l c:=by
  rcases hj.row.2 with ⟨rfl,_⟩|⟨_,_,_,rfl,_⟩<;>exact ⟨_,_,_,rfl⟩
 clear hj HJ HB
 go_wp2
 go_ret
 exact ⟨_,us,rfl,ab HG,ab cR⟩
end Go.Proofs.YtichhjfjcinjgaaGreatDoor
namespace Go.Proofs
open Go.Shelf
def Tryz.mW:Go.Shelf.Ren:=⟨fun|156=>169|165=>127|166=>81|169=>85|240=>124|241=>167|276=>163|277=>189|n=>n,fun|31=>22|9=>9|3=>3|4=>4|0=>0|20=>20|72=>125|76=>128|70=>123|37=>58|75=>127|127=>162|164=>184|5=>5|80=>87|n=>n,fun|n=>n⟩
theorem Tryz.EA:Go.Proofs.Lays.n156 Tryz.prog Tryz.mW:={
 mixed:=by kernel_rfl
 f156:=Tryz.func169.trans (congrArg some (by kernel_rfl))
 f165:=Tryz.func127.trans (congrArg some (by kernel_rfl))
 f166:=Tryz.func81.trans (congrArg some (by kernel_rfl))
 f169:=Tryz.func85.trans (congrArg some (by kernel_rfl))
 f240:=Tryz.func124.trans (congrArg some (by kernel_rfl))
 f241:=Tryz.func167.trans (congrArg some (by kernel_rfl))
 f276:=Tryz.func163.trans (congrArg some (by kernel_rfl))
 f277:=Tryz.func189.trans (congrArg some (by kernel_rfl))
 t0:=Tryz.underlying0
 a0:=Tryz.isAgg0
 z0:=Tryz.sizeOf0
 v0:=Tryz.zeroValue0
 t3:=Tryz.underlying3
 a3:=Tryz.isAgg3
 z3:=Tryz.sizeOf3
 v3:=Tryz.zeroValue3
 t4:=Tryz.underlying4
 a4:=Tryz.isAgg4
 z4:=Tryz.sizeOf4
 v4:=Tryz.zeroValue4
 t9:=Tryz.underlying9
 a9:=Tryz.isAgg9
 z9:=Tryz.sizeOf9
 v9:=Tryz.zeroValue9
 t20:=Tryz.underlying20
 a20:=Tryz.isAgg20
 z20:=Tryz.sizeOf20
 v20:=Tryz.zeroValue20
 t31:=Tryz.underlying22
 a31:=Tryz.isAgg22
 z31:=Tryz.sizeOf22
 v31:=Tryz.zeroValue22
 t37:=Tryz.underlying58
 a37:=Tryz.isAgg58
 z37:=Tryz.sizeOf58
 v37:=Tryz.zeroValue58
 t70:=Tryz.underlying123
 a70:=Tryz.isAgg123
 z70:=Tryz.sizeOf123
 v70:=Tryz.zeroValue123
 t72:=Tryz.underlying125
 a72:=Tryz.isAgg125
 z72:=Tryz.sizeOf125
 v72:=Tryz.zeroValue125
 t75:=Tryz.underlying127
 a75:=Tryz.isAgg127
 z75:=Tryz.sizeOf127
 v75:=Tryz.zeroValue127
 t76:=Tryz.underlying128
 a76:=Tryz.isAgg128
 z76:=Tryz.sizeOf128
 v76:=Tryz.zeroValue128
 t127:=Tryz.underlying162
 a127:=Tryz.isAgg162
 z127:=Tryz.sizeOf162
 v127:=Tryz.zeroValue162
 t164:=Tryz.underlying184
 a164:=Tryz.isAgg184
 z164:=Tryz.sizeOf184
 v164:=Tryz.zeroValue184 }
end Go.Proofs
namespace Go.Proofs.YtichhjfjcinjgaaGreatDoor
open Go.RowKit Go.Lib
attribute [local go_sem ↓] Go.wp_at_zero Go.wp_at_succ
theorem wb {W:World} (h:iG W) (s:ByteArray) (hs:s.size≤1048576) :
  Calls Tryz.prog 44 #[.string s] W fun e w=>e=.returned (.string (gr (34::jK s 0++[34])))∧Below W.heap.size W w:=by
 obtain ⟨i0,hi,gj,dR,c7⟩:=info_parts Tryz.infoByte
 have YL:Bytes W.heap.size (W.alloc (.cells #[.int .u8 34] 5)) (.slice (some ⟨W.heap.size,0,none⟩) 1 1) ([34]++[]):=Fb W 34
 have Jb:=al YL
 have iK:Hid (Below W.heap.size W (W.alloc (.cells #[.int .u8 34] 5))):=(zE _ _).alloc (zD _) _
 clear YL
 go_enter Tryz.func44,Tryz.ntmps44
 go_wp2
 go_loopg [3,4,5] s.size (fun gk v3 v4 _ wr=>∃(k:Nat) (pre:List Nat) (va:Option Addr) (vn vc:Nat),v3=.slice va vn vc∧v4=.int .i64 (k:Int)∧gk=s.size-k∧k≤s.size∧pre.length≤4*k∧Hid (Bytes W.heap.size wr (.slice va vn vc) ([34]++pre))∧Hid (mO pre)∧Hid (jK s 0=pre++jK s k)∧Hid (Below W.heap.size W wr))
 case atStart=>exact ⟨0,[],_,_,_,rfl,rfl,rfl,by omega,by simp,Jb,fun x hx=>by simp at hx,rfl,iK⟩
 case round =>
  obtain ⟨k,pre,va,vn,vc,rfl,rfl,aU,hk,EK,HY,Jh,Hq,HB⟩:=hrel
  have bz:=al aU
  clear aU Jb iK
  by_cases aM:k<s.size
  ·have hz:=extract_size s k s.size (zD _)
   have fl:=pA aM
   have Rm:=@BD s k
   have EI:=Gu s k
   have na:=LQ aM
   have YZ:=BE s k
   have PH:=zv aM
   have Rq:pre.length+(qs s k).length≤4*(k+qn s k):=by omega
   have cF:Hid (jK s 0=(pre++qs s k)++jK s (k+qn s k)):=by
    show jK s 0=(pre++qs s k)++jK s (k+qn s k)
    rw[ab Hq,fl,List.append_assoc]
   have fk:Hid (mO (pre++qs s k)):=(ab Jh).append EI
   have uP:=al Rq
   have Hqn:=al na
   have Hqp:=al YZ
   clear fl Rm EI Rq na YZ Hq
   go_wp2_with fail
   refine (Em (h.up (ab HB)) (s.extract k s.size) (by omega) (by omega)).mono ?_
   rintro e w2 ⟨rfl,bd⟩
   rw[PH]
   have cR:Hid (Below W.heap.size W w2):=(ab HB).trans (bd.mono (ab HB).size)
   have JK:Hid (Bytes W.heap.size w2 (.slice va vn vc) ([34]++pre)):=(ab HY).up bd
   have fE:W.heap.size≤w2.heap.size:=(ab cR).size
   have lF:=al PH
   clear PH hz HY HB bd
   by_cases h0:dc s k=0
   ·obtain ⟨x,hx⟩:∃x:Nat,s[k].toNat=x:=⟨_,rfl⟩
    have dO:aC s k=x:=(dk s k aM).trans hx
    have cZ:x<256:=by rw[←dO];exact dw s k
    have gN:qs s k=mE x:=by unfold qs;rw[if_pos h0,dO]
    have G2:qn s k=1:=by unfold qn;rw[if_pos h0]
    rw[h0]
    rw[gN,G2] at cF uP
    rw[gN] at fk
    have k0:(0:Int)≤(k:Int):=zH _
    have k1:(k:Int)<(s.size:Int):=by omega
    clear dO gN G2 h0 Hqn Hqp
    go_wp2_with fail
    refine (vy (ab JK) fE (by simp;omega) x cZ).mono ?_
    rintro e w3 ⟨v',rfl,eu,dV⟩
    obtain ⟨A0,Bh,AZ,rfl⟩:=eu.shape
    have ed:Hid (Below W.heap.size W w3):=(ab cR).trans (dV.below fE (ab JK).eJ)
    have pX:Hid (Bytes W.heap.size w3 (.slice A0 Bh AZ) ([34]++(pre++mE x))):=by rw[←List.append_assoc];exact eu
    clear eu dV
    go_wp2
    go_roundg (s.size-(k+1))
    case measure=>have:=ab bz;omega
    case rel=>exact ⟨k+1,pre++mE x,_,_,_,rfl,by go_num,rfl,by omega,by have:=ab uP;simp only[zK];omega,pX,fk,cF,ed⟩
   ·obtain ⟨n,hn⟩:∃n,n=dc s k:=⟨_,rfl⟩
    have gN:qs s k=sub s k n:=by unfold qs;rw[if_neg h0,hn]
    have G2:qn s k=n:=by unfold qn;rw[if_neg h0,hn]
    have hle:=we aM
    rw[gN,G2] at cF uP
    rw[gN] at fk
    rw[←hn] at hle h0 ⊢
    obtain ⟨RA,aan⟩:=hle
    have e0:((n:Int)==0)=false:=by simp;omega
    have GV:=qi s k n
    have dU:=C0 RA
    have B8:=extract_size s k (k+n) RA
    have o1:([34]++pre).length+(s.extract k (k+n)).size≤maxLen:=by rw[B8];unfold maxLen;simp;omega
    have o2:([34]++pre).length+(s.extract k (k+n)).size≤140737488355328:=by rw[B8];simp;omega
    have k0:(0:Int)≤(k:Int):=zH _
    have OF:=al GV
    have Xg:=al dU
    have O1:=al o1
    have O2:=al o2
    clear gN G2 Hqn Hqp hn GV dU o1 o2
    go_wp2_with (at_builtin;refine bV rfl _ _ 58 9 rfl W.heap.size 5 i0 Tryz.underlying58 Tryz.underlying9 hi gj dR c7 _ _ _ rfl (ab JK) (s.extract k (k+n)) rfl (ab O1) (ab O2) fE ?_;intro v4 w4 bJ ba cJ;have iE:=al bJ;have kc:=al ba;have DV:=al cJ;clear bJ ba cJ)
    obtain ⟨v5,kH,eu,dV⟩:=iu (ys:=sub s k n) (ab iE) (by have:=ab Xg;omega) ((ez _).trans (by rw[ab OF])) (ab kc) (ab DV)
    obtain rfl:v4=v5:=by simpa using kH
    obtain ⟨A0,Bh,AZ,rfl⟩:=eu.shape
    have ed:Hid (Below W.heap.size W w4):=(ab cR).trans (dV.below fE (ab JK).eJ)
    have pX:Hid (Bytes W.heap.size w4 (.slice A0 Bh AZ) ([34]++(pre++sub s k n))):=by rw[←List.append_assoc];exact eu
    clear eu dV iE kc DV kH
    go_roundg (s.size-(k+n))
    case measure=>have:=ab bz;omega
    case rel=>exact ⟨k+n,pre++sub s k n,_,_,_,rfl,by go_num,rfl,by omega,by have:=ab uP;simp only[zK];omega,pX,fk,cF,ed⟩
  ·have hq:=ab Hq
   rw[n8 aM,List.append_nil] at hq
   have DU:=al hq
   obtain rfl:k=s.size:=by omega
   have fE:W.heap.size≤wr.heap.size:=(ab HB).size
   have o1:([34]++pre).length+1≤maxLen:=by unfold maxLen;simp;omega
   have o2:(([34]++pre).length+1)*1≤140737488355328:=by simp;omega
   have O1:=al o1
   have O2:=al o2
   have lJ:∀(w:World) (v:Value) (l:List Nat),pW w v l→mO l→(convert 58 9 v).run Tryz.prog w=.ok (.string (gr l)) w:=fun w v l q1 q2=>kL q1 q2
   have Hcv:=al lJ
   clear hq Hq o1 o2 lJ
   go_wp2_with (at_builtin;refine wpList_append_own_at _ rfl _ _ 58 rfl W.heap.size 5 i0 (.int .u8 0) 1 1 Tryz.underlying58 hi gj dR c7 rfl (by decide) _ _ _ rfl ((ab HY).alloc _) ⟨wr.heap.size,0,none⟩ 1 1 [.int .u8 34] rfl rfl (dj _ _ _) (by simp[Value.oneCell']) (ab O1) (ab O2) (by rw[zJ];omega) ?_;intro v4 w4 bJ ba _ cJ;obtain ⟨v5,kH,eu,dV⟩:=eL (ys:=[34]) bJ rfl rfl ba cJ;obtain rfl:v4=v5:=(by simpa using kH);have CN:Hid (Below W.heap.size W w4):=(ab HB).trans (dV.below fE (ab HY).eJ);have aap:=ab Hcv w4 v4 _ eu.has ((IS.append (ab Jh)).append IS);clear bJ ba cJ eu dV kH Hcv)
   go_ret
   refine ⟨?_,ab CN⟩
   rw[ab DU]
   rfl
end Go.Proofs.YtichhjfjcinjgaaGreatDoor
