import Derived.Test.YtichhjfjcinjgaaGreatDoorM15
import Derived.Shelf.Strings.OnBuilder
set_option maxHeartbeats 4000000
set_option maxRecDepth 100000
namespace Go.Proofs.YtichhjfjcinjgaaGreatDoor
open Go.RowKit
attribute [local go_sem ↓] Go.wp_at_zero Go.wp_at_succ
def l9 (gs:List (List Fd)) (d:Fd):Bool:=match gs[gs.length-1]? with
 |some (a::_)=>uI a d
 |_=>false
def np (gs:List (List Fd)) (d:Fd):List (List Fd):=if l9 gs d then gs.set (gs.length-1) (gs.getD (gs.length-1) []++[d]) else gs++[([d])]
def cl (l:List Fd):List (List Fd):=l.foldl np []
theorem ig {l:List Fd}{i:Nat}{d:Fd} (h:l[i]?=some d):cl (l.take (i+1))=np (cl (l.take i)) d:=by
 rw[bM h]
 unfold cl
 rw[List.foldl_append]
 rfl
theorem Lz (gs:List (List Fd)) (d:Fd):(np gs d).length≤gs.length+1:=by
 unfold np
 split
 ·rw[List.length_set];omega
 ·rw[zK];simp
theorem yA (l:List Fd):∀(i:Nat),i≤l.length→(cl (l.take i)).length≤i∧∀G ∈ cl (l.take i),G.length≤i:=by
 intro i
 induction i with
 |zero=>intro _;simp[cl]
 |succ i ih =>
  intro h
  obtain ⟨h1,h2⟩:=ih (by omega)
  rw[ig (List.getElem?_eq_getElem (show i<l.length by omega))]
  refine ⟨Nat.le_trans (Lz _ _) (Nat.succ_le_succ h1),fun G hG=>?_⟩
  unfold np at hG
  split at hG
  ·rcases List.mem_or_eq_of_mem_set hG with z|rfl
   ·exact Nat.le_succ_of_le (h2 G z)
   ·rw[zK,List.getD_eq_getElem?_getD]
    cases e:(cl (l.take i))[(cl (l.take i)).length-1]? with
    |none=>simp
    |some K=>have:=h2 K (List.mem_of_getElem? e);simpa using this
  ·rcases List.mem_append.1 hG with z|z
   ·exact Nat.le_succ_of_le (h2 G z)
   ·simp at z;subst z;simp
theorem uk {B n t:Nat}{w:World}{q c:Nat}{xs:List Value} (h:w.ownsRow B t 1 (.slice (some ⟨q,0,none⟩) n c) n xs) {k:Nat}{x:Value} (hk:xs[k]?=some x):w.cell? ⟨q,k,none⟩=some x∧w.frozen? ⟨q,k,none⟩=false:=by
 rcases h.2 with ⟨e,_⟩|⟨q',c',cur,e,hB,hh,h3,h4,h5,h6⟩
 ·cases e
 ·obtain ⟨rfl,rfl⟩:q=q'∧c=c':=by simpa using e
  refine ⟨?_,by simp[World.frozen?,hh]⟩
  rw[cell_of_row _ _ _ _ _ _ hh,←Array.getElem?_toList]
  rw[←h6,List.getElem?_take] at hk
  split at hk
  ·exact hk
  ·cases hk
theorem Cq {w0:World}{va:Value}{l:List Fd}{gA:List Nat}{lo:Nat} (ha:Al lo w0 va l gA) (dF:lo≤w0.heap.size) (hl:l.length≤4096):Calls Tryz.prog 176 #[va,.func (.func 177) #[] #[]] w0 fun e w=>∃v us,e=.returned v∧Jn lo w0.heap.size w0 w va v l gA l.length (cl l) us:=by
 obtain ⟨i0,hi,fU,dS,da⟩:=info_parts AH
 have Ty:Hid (Jn lo w0.heap.size w0 w0 va (.slice none 0 0) l gA 0 [] []):=⟨zE _ _,zD _,dF,ha.row,fun k e=>(ha.row.lt k e).2,ha.len,fun g hg=>⟨ha.low g hg,ha.lt hg⟩,ha.nd,fun j d g _ h1 h2=>ha.dt j d g h1 h2,⟨rfl,.inl ⟨rfl,rfl⟩⟩,rfl,fun k G u h=>by simp at h,fun G h=>by simp at h,fun k k' u u' b _ h=>by simp at h,fun k j u b g _ h=>by simp at h⟩
 have Hal:=al ha.len
 have hva:∃a c,va=.slice a l.length c:=by
  rcases ha.row.2 with ⟨rfl,h2⟩|⟨q,c,cur,rfl,_⟩
  ·exact ⟨none,0,by rw[h2]⟩
  ·exact ⟨_,_,rfl⟩
 obtain ⟨aa,ac,rfl⟩:=hva
 have HL:=al hl
 clear ha dF
 go_enter Tryz.func176,Tryz.ntmps176
 go_wp2
 go_loopg [5,7,8,9,10,13] l.length (fun gk v5 _ _ _ _ Nb wr=>∃(i:Nat) (us:List Value),Nb=.int .i64 (i:Int)∧gk=l.length-i∧i≤l.length∧Hid (Jn lo w0.heap.size w0 wr (.slice aa l.length ac) v5 l gA i (cl (l.take i)) us))
 case atStart=>exact ⟨0,[],rfl,rfl,by omega,Ty⟩
 case round =>
  obtain ⟨i,us,rfl,aW,eV,HJ⟩:=hrel
  have HN:=al (yA l i eV).1
  have HNg:=al (yA l i eV).2
  have bz:=al aW
  clear aW Ty
  by_cases aM:i<l.length
  ·obtain ⟨d,hd⟩:∃d,l[i]?=some d:=⟨_,List.getElem?_eq_getElem aM⟩
   obtain ⟨g,hg⟩:∃g,gA[i]?=some g:=⟨_,List.getElem?_eq_getElem (by rw[ab Hal];exact aM)⟩
   obtain ⟨ah,rfl⟩:∃ah,aa=some ⟨ah,0,none⟩:=by
    rcases (ab HJ).SS.2 with ⟨e,h2⟩|⟨q,c,cur,e,_⟩
    ·omega
    ·cases e;exact ⟨_,rfl⟩
   have x0:=(uk (ab HJ).SS (k:=i) (x:=oN g) (by rw[List.getElem?_map,hg];rfl)).1
   unfold oN at x0
   have HT:=al (ig hd)
   have Hd:=al hd
   have Hg:=al hg
   have Mr:(0:Int)≤(i:Int):=zH _
   have i1:(i:Int)<(l.length:Int):=by omega
   have bu:=al aM
   obtain ⟨gs,Oa⟩:∃gs,cl (l.take i)=gs:=⟨_,rfl⟩
   rw[Oa] at HJ HT HN HNg
   clear hd hg Oa aM
   rcases (ab HJ).row.2 with ⟨Wv,hz⟩|⟨q,c,cur,dV,-⟩
   ·obtain rfl:=Wv
    have S8:=al (show l9 gs d=false by unfold l9;rw[List.getElem?_eq_none (by omega)])
    clear hz
    have Dc:=al (ab HJ).row
    go_wp2_with (at_builtin;refine wpList_append_own_at _ rfl _ _ 164 rfl w0.heap.size 43 i0 (.slice none 0 0) 1 24 Tryz.underlying164 hi fU dS da rfl (by decide) _ _ _ rfl ((ab Dc).alloc _) ⟨wr.heap.size,0,none⟩ 1 1 [.slice (some ⟨g,0,none⟩) 1 1] rfl rfl (cell_one_new _ _ _) (by simp[Value.oneCell']) (by have:=ab HN;have:=ab bu;have:=ab HL;unfold maxLen;omega) (by have:=ab HN;have:=ab bu;have:=ab HL;omega) (by rw[zJ];have:=(ab HJ).F8;omega) ?_;intro v' w9 ho nN _ _;have M5:=al ((ab HJ).app (ab Hd) (ab Hg) ho ((World.grownBy_alloc _ _ _).trans nN));clear ho nN)
    have F2:=al (show Jn lo w0.heap.size w0 w9 _ v' l gA (i+1) (cl (l.take (i+1))) _ by rw[ab HT];unfold np;rw[ab S8];exact ab M5)
    clear M5
    go_roundg (l.length-(i+1))
    case measure=>have:=ab bz;have:=ab bu;omega
    case rel=>exact ⟨i+1,_,by go_num,rfl,ab bu,F2⟩
   ·obtain rfl:=dV
    have hnb:gs.length≤4096:=by have:=ab HN;have:=ab bu;omega
    by_cases yp:0<gs.length
    ·obtain ⟨m,hm⟩:∃m,gs.length=m+1:=⟨gs.length-1,by omega⟩
     obtain ⟨G,hG⟩:∃G,gs[m]?=some G:=⟨_,List.getElem?_eq_getElem (by omega)⟩
     obtain ⟨u,hu⟩:∃u,us[m]?=some u:=⟨_,List.getElem?_eq_getElem (by rw[(ab HJ).len];omega)⟩
     have Z9:=(ab HJ).ne G (List.mem_of_getElem? hG)
     obtain ⟨a,r,rfl⟩:∃a r,G=a::r:=by
      cases G with
      |nil=>simp at Z9
      |cons a r=>exact ⟨a,r,rfl⟩
     have TT:l9 gs d=uI a d:=by unfold l9;rw[show gs.length-1=m by omega,hG]
     have y0:=(uk (ab HJ).row hu).1
     have Uw:=al (show (a::r).length≤4096 by have:=ab HNg _ (List.mem_of_getElem? hG);have:=ab bu;omega)
     have HC:=al (Jp (d1:=a) (d:=d) ((ab HJ).IZ m _ u hG hu) rfl (ab Uw) ((ab HJ).dt i d g (zD _) (ab Hd) (ab Hg)) (Nat.le_trans (ab HJ).low (ab HJ).F8))
     have e1:(gs.length:Int)-1=(m:Int):=by omega
     have m0:(0:Int)≤(m:Int):=zH _
     have m1:(m:Int)<(gs.length:Int):=by omega
     have Hm:=al hm
     have HG:=al hG
     have Hu:=al hu
     have Ul:=al TT
     obtain ⟨ua,ul,uc,rfl⟩:∃a l c,u=.slice a l c:=by
      rcases ((ab HJ).IZ m _ u hG hu).2 with ⟨rfl,_⟩|⟨_,_,_,rfl,_⟩<;>exact ⟨_,_,_,rfl⟩
     clear hm hG hu Z9 TT yp
     go_wp2_with fail
     refine (ab HC).mono ?_
     intro e w1 hq
     unfold XE at hq
     cases hj:uI a d with
     |true =>
      rw[hj,if_pos rfl] at hq
      obtain ⟨u',rfl,dQ,dO,Su⟩:=hq
      have Ir:=(ab HJ).KZ (ab HG) (ab Hu) dO
      obtain ⟨z0,z1⟩:=uk Ir (ab Hu)
      have De:=al ((ab HJ).join (m:=m) (d:=d) (ab Hm).symm (ab HG) (ab Hu) dQ dO Su)
      have HgS:=al (show np gs d=gs.set m ((a::r)++[d]) by
       unfold np
       rw[ab Ul,hj,if_pos rfl,show gs.length-1=m by have:=ab Hm;omega,List.getD_eq_getElem?_getD,ab HG]
       rfl)
      obtain ⟨Bp,vl',Bo,rfl⟩:∃a l c,u'=.slice a l c:=by
       rcases dQ.2 with ⟨rfl,_⟩|⟨_,_,_,rfl,_⟩<;>exact ⟨_,_,_,rfl⟩
      clear dQ dO Su Ir HC hj
      go_wp2
      go_roundg (l.length-(i+1))
      case measure=>have:=ab bz;have:=ab bu;omega
      case rel=>exact ⟨i+1,_,by go_num,rfl,ab bu,by rw[ab HT,ab HgS];exact De⟩
     |false =>
      rw[hj] at hq
      obtain ⟨rfl,aX⟩:=hq
      have rb:=al ((ab HJ).up aX)
      have S8:=al (show l9 gs d=false from (ab Ul).trans hj)
      clear aX hj HC
      have Dc:=al (ab rb).row
      go_wp2_with (at_builtin;refine wpList_append_own_at _ rfl _ _ 164 rfl w0.heap.size 43 i0 (.slice none 0 0) 1 24 Tryz.underlying164 hi fU dS da rfl (by decide) _ _ _ rfl ((ab Dc).alloc _) ⟨w1.heap.size,0,none⟩ 1 1 [.slice (some ⟨g,0,none⟩) 1 1] rfl rfl (cell_one_new _ _ _) (by simp[Value.oneCell']) (by have:=ab HN;have:=ab bu;have:=ab HL;unfold maxLen;omega) (by have:=ab HN;have:=ab bu;have:=ab HL;omega) (by rw[zJ];have:=(ab rb).F8;omega) ?_;intro v' w9 ho nN _ _;have M5:=al ((ab rb).app (ab Hd) (ab Hg) ho ((World.grownBy_alloc _ _ _).trans nN));clear ho nN)
      have F2:=al (show Jn lo w0.heap.size w0 w9 _ v' l gA (i+1) (cl (l.take (i+1))) _ by rw[ab HT];unfold np;rw[ab S8];exact ab M5)
      clear M5
      go_roundg (l.length-(i+1))
      case measure=>have:=ab bz;have:=ab bu;omega
      case rel=>exact ⟨i+1,_,by go_num,rfl,ab bu,F2⟩
    ·have S8:=al (show l9 gs d=false by unfold l9;rw[List.getElem?_eq_none (by omega)])
     have e1:gs.length=0:=by omega
     clear yp
     have Dc:=al (ab HJ).row
     go_wp2_with (at_builtin;refine wpList_append_own_at _ rfl _ _ 164 rfl w0.heap.size 43 i0 (.slice none 0 0) 1 24 Tryz.underlying164 hi fU dS da rfl (by decide) _ _ _ rfl ((ab Dc).alloc _) ⟨wr.heap.size,0,none⟩ 1 1 [.slice (some ⟨g,0,none⟩) 1 1] rfl rfl (cell_one_new _ _ _) (by simp[Value.oneCell']) (by have:=ab HN;have:=ab bu;have:=ab HL;unfold maxLen;omega) (by have:=ab HN;have:=ab bu;have:=ab HL;omega) (by rw[zJ];have:=(ab HJ).F8;omega) ?_;intro v' w9 ho nN _ _;have M5:=al ((ab HJ).app (ab Hd) (ab Hg) ho ((World.grownBy_alloc _ _ _).trans nN));clear ho nN)
     have F2:=al (show Jn lo w0.heap.size w0 w9 _ v' l gA (i+1) (cl (l.take (i+1))) _ by rw[ab HT];unfold np;rw[ab S8];exact ab M5)
     clear M5
     go_roundg (l.length-(i+1))
     case measure=>have:=ab bz;have:=ab bu;omega
     case rel=>exact ⟨i+1,_,by go_num,rfl,ab bu,F2⟩
  ·obtain rfl:i=l.length:=by omega
   have hO:=ab HJ
   rw[List.take_length] at hO
   have mb:=al hO
   clear hO
   go_wp2
   go_ret
   exact ⟨_,us,rfl,ab mb⟩
structure Gr (lo:Nat) (w:World) (v:Value) (gs:List (List Fd)) (us:List Value):Prop where
 row:∃B,lo≤B∧w.ownsRow B 43 1 v gs.length us
 len:us.length=gs.length
 IZ:∀(k:Nat) (G:List Fd) (u:Value),gs[k]?=some G→us[k]?=some u→w.ownsRow lo 42 6 u G.length (fB G)
theorem C' {W:World}{v:Value}{l:List Fd} (hv:Rl W v l.length (fB l)) (hl:l.length≤4096) (w0:World) (hw:Below W.heap.size W w0):Calls Tryz.prog 131 #[v] w0 fun e w=>∃u us,e=.returned u∧Gr w0.heap.size w u (cl l) us∧Below w0.heap.size w0 w:=by
 have HE:=al (FC hv hl w0 hw)
 obtain ⟨a,c,rfl,-,-⟩:=hv
 have Hl:=al hl
 clear hw hl
 go_enter Tryz.func131,Tryz.ntmps131
 go_wp2_with fail
 refine (ab HE).mono ?_
 rintro e w1 ⟨u1,gA,rfl,ha,aX⟩
 have HJ:=al (Cq ha aX.size (ab Hl))
 have HB:=al aX
 obtain ⟨a1,l1,c1,rfl⟩:∃a l c,u1=.slice a l c:=by
  rcases ha.row.2 with ⟨rfl,_⟩|⟨_,_,_,rfl,_⟩<;>exact ⟨_,_,_,rfl⟩
 clear ha aX HE
 go_wp2_with fail
 refine (ab HJ).mono ?_
 rintro e w2 ⟨u2,us,rfl,hj⟩
 have HG:=al (show Gr w0.heap.size w2 u2 (cl l) us from ⟨⟨_,(ab HB).size,hj.row⟩,hj.len,hj.IZ⟩)
 have cS:=al ((ab HB).trans hj.bU)
 obtain ⟨a2,l2,c2,rfl⟩:∃a l c,u2=.slice a l c:=by
  rcases hj.row.2 with ⟨rfl,_⟩|⟨_,_,_,rfl,_⟩<;>exact ⟨_,_,_,rfl⟩
 clear hj HJ HB
 go_wp2
 go_ret
 exact ⟨_,us,rfl,ab HG,ab cS⟩
end Go.Proofs.YtichhjfjcinjgaaGreatDoor
namespace Go.Proofs
open Go.Shelf
def Tryz.nB:Go.Shelf.Ren:=⟨fun|156=>169|165=>127|166=>81|169=>85|240=>124|241=>167|276=>163|277=>189|n=>n,fun|31=>22|9=>9|3=>3|4=>4|0=>0|20=>20|72=>125|76=>128|70=>123|37=>58|75=>127|127=>162|164=>184|5=>5|80=>87|n=>n,fun|n=>n⟩
theorem Tryz.E4:Go.Proofs.Lays.n156 Tryz.prog Tryz.nB:={
 mixed:=by kernel_rfl
 f156:=Tryz.func169.trans (congrArg some (by kernel_rfl))
 f165:=Tryz.func127.trans (congrArg some (by kernel_rfl))
 f166:=Tryz.func81.trans (congrArg some (by kernel_rfl))
 f169:=Tryz.func85.trans (congrArg some (by kernel_rfl))
 f240:=Tryz.func124.trans (congrArg some (by kernel_rfl))
 f241:=Tryz.func167.trans (congrArg some (by kernel_rfl))
 f276:=Tryz.func163.trans (congrArg some (by kernel_rfl))
 f277:=Tryz.func189.trans (congrArg some (by kernel_rfl))
 t0:=Tryz.underlying0
 a0:=Tryz.isAgg0
 z0:=Tryz.sizeOf0
 v0:=Tryz.zeroValue0
 t3:=Tryz.underlying3
 a3:=Tryz.isAgg3
 z3:=Tryz.sizeOf3
 v3:=Tryz.zeroValue3
 t4:=Tryz.underlying4
 a4:=Tryz.isAgg4
 z4:=Tryz.sizeOf4
 v4:=Tryz.zeroValue4
 t9:=Tryz.underlying9
 a9:=Tryz.isAgg9
 z9:=Tryz.sizeOf9
 v9:=Tryz.zeroValue9
 t20:=Tryz.underlying20
 a20:=Tryz.isAgg20
 z20:=Tryz.sizeOf20
 v20:=Tryz.zeroValue20
 t31:=Tryz.underlying22
 a31:=Tryz.isAgg22
 z31:=Tryz.sizeOf22
 v31:=Tryz.zeroValue22
 t37:=Tryz.underlying58
 a37:=Tryz.isAgg58
 z37:=Tryz.sizeOf58
 v37:=Tryz.zeroValue58
 t70:=Tryz.underlying123
 a70:=Tryz.isAgg123
 z70:=Tryz.sizeOf123
 v70:=Tryz.zeroValue123
 t72:=Tryz.underlying125
 a72:=Tryz.isAgg125
 z72:=Tryz.sizeOf125
 v72:=Tryz.zeroValue125
 t75:=Tryz.underlying127
 a75:=Tryz.isAgg127
 z75:=Tryz.sizeOf127
 v75:=Tryz.zeroValue127
 t76:=Tryz.underlying128
 a76:=Tryz.isAgg128
 z76:=Tryz.sizeOf128
 v76:=Tryz.zeroValue128
 t127:=Tryz.underlying162
 a127:=Tryz.isAgg162
 z127:=Tryz.sizeOf162
 v127:=Tryz.zeroValue162
 t164:=Tryz.underlying184
 a164:=Tryz.isAgg184
 z164:=Tryz.sizeOf184
 v164:=Tryz.zeroValue184 }
end Go.Proofs
namespace Go.Proofs.YtichhjfjcinjgaaGreatDoor
open Go.RowKit Go.Lib
attribute [local go_sem ↓] Go.wp_at_zero Go.wp_at_succ
theorem wQ {W:World} (h:ir W) (s:ByteArray) (hs:s.size≤1048576) :
  Calls Tryz.prog 44 #[.string s] W fun e w=>e=.returned (.string (gE (34::jY s 0++[34])))∧Below W.heap.size W w:=by
 obtain ⟨i0,hi,fU,dS,da⟩:=info_parts Tryz.infoByte
 have Ze:Bytes W.heap.size (W.alloc (.cells #[.int .u8 34] 5)) (.slice (some ⟨W.heap.size,0,none⟩) 1 1) ([34]++[]):=FK W 34
 have JJ:=al Ze
 have iR:Hid (Below W.heap.size W (W.alloc (.cells #[.int .u8 34] 5))):=(zE _ _).alloc (zD _) _
 clear Ze
 go_enter Tryz.func44,Tryz.ntmps44
 go_wp2
 go_loopg [3,4,5] s.size (fun gk v3 v4 _ wr=>∃(k:Nat) (pre:List Nat) (va:Option Addr) (vn vc:Nat),v3=.slice va vn vc∧v4=.int .i64 (k:Int)∧gk=s.size-k∧k≤s.size∧pre.length≤4*k∧Hid (Bytes W.heap.size wr (.slice va vn vc) ([34]++pre))∧Hid (ns pre)∧Hid (jY s 0=pre++jY s k)∧Hid (Below W.heap.size W wr))
 case atStart=>exact ⟨0,[],_,_,_,rfl,rfl,rfl,by omega,by simp,JJ,fun x hx=>by simp at hx,rfl,iR⟩
 case round =>
  obtain ⟨k,pre,va,vn,vc,rfl,rfl,aW,hk,Fc,HY,JQ,Hq,HB⟩:=hrel
  have bz:=al aW
  clear aW JJ iR
  by_cases aM:k<s.size
  ·have hz:=extract_size s k s.size (zD _)
   have fv:=pS aM
   have RM:=@B6 s k
   have Fa:=G3 s k
   have nG:=Ml aM
   have Zs:=B7 s k
   have P9:=Am aM
   have RQ:pre.length+(qs s k).length≤4*(k+qn s k):=by omega
   have cG:Hid (jY s 0=(pre++qs s k)++jY s (k+qn s k)):=by
    show jY s 0=(pre++qs s k)++jY s (k+qn s k)
    rw[ab Hq,fv,List.append_assoc]
   have fu:Hid (ns (pre++qs s k)):=(ab JQ).append Fa
   have vA:=al RQ
   have Hqn:=al nG
   have Hqp:=al Zs
   clear fv RM Fa RQ nG Zs Hq
   go_wp2_with fail
   refine (ET (h.up (ab HB)) (s.extract k s.size) (by omega) (by omega)).mono ?_
   rintro e w2 ⟨rfl,bd⟩
   rw[P9]
   have cS:Hid (Below W.heap.size W w2):=(ab HB).trans (bd.mono (ab HB).size)
   have Kk:Hid (Bytes W.heap.size w2 (.slice va vn vc) ([34]++pre)):=(ab HY).up bd
   have fJ:W.heap.size≤w2.heap.size:=(ab cS).size
   have lW:=al P9
   clear P9 hz HY HB bd
   by_cases h0:dh s k=0
   ·obtain ⟨x,hx⟩:∃x:Nat,s[k].toNat=x:=⟨_,rfl⟩
    have dP:aD s k=x:=(dr s k aM).trans hx
    have c8:x<256:=by rw[←dP];exact dy s k
    have gS:qs s k=mU x:=by unfold qs;rw[if_pos h0,dP]
    have It:qn s k=1:=by unfold qn;rw[if_pos h0]
    rw[h0]
    rw[gS,It] at cG vA
    rw[gS] at fu
    have k0:(0:Int)≤(k:Int):=zH _
    have k1:(k:Int)<(s.size:Int):=by omega
    clear dP gS It h0 Hqn Hqp
    go_wp2_with fail
    refine (vU (ab Kk) fJ (by simp;omega) x c8).mono ?_
    rintro e w3 ⟨v',rfl,ey,dX⟩
    obtain ⟨Bp,BH,Bo,rfl⟩:=ey.shape
    have eh:Hid (Below W.heap.size W w3):=(ab cS).trans (dX.below fJ (ab Kk).eL)
    have qB:Hid (Bytes W.heap.size w3 (.slice Bp BH Bo) ([34]++(pre++mU x))):=by rw[←List.append_assoc];exact ey
    clear ey dX
    go_wp2
    go_roundg (s.size-(k+1))
    case measure=>have:=ab bz;omega
    case rel=>exact ⟨k+1,pre++mU x,_,_,_,rfl,by go_num,rfl,by omega,by have:=ab vA;simp only[zK];omega,qB,fu,cG,eh⟩
   ·obtain ⟨n,hn⟩:∃n,n=dh s k:=⟨_,rfl⟩
    have gS:qs s k=sub s k n:=by unfold qs;rw[if_neg h0,hn]
    have It:qn s k=n:=by unfold qn;rw[if_neg h0,hn]
    have hle:=wR aM
    rw[gS,It] at cG vA
    rw[gS] at fu
    rw[←hn] at hle h0 ⊢
    obtain ⟨R4,aar⟩:=hle
    have e0:((n:Int)==0)=false:=by simp;omega
    have Il:=qL s k n
    have dV:=Ds R4
    have Cw:=extract_size s k (k+n) R4
    have o1:([34]++pre).length+(s.extract k (k+n)).size≤maxLen:=by rw[Cw];unfold maxLen;simp;omega
    have o2:([34]++pre).length+(s.extract k (k+n)).size≤140737488355328:=by rw[Cw];simp;omega
    have k0:(0:Int)≤(k:Int):=zH _
    have O7:=al Il
    have XK:=al dV
    have O1:=al o1
    have O2:=al o2
    clear gS It Hqn Hqp hn Il dV o1 o2
    go_wp2_with (at_builtin;refine bX rfl _ _ 58 9 rfl W.heap.size 5 i0 Tryz.underlying58 Tryz.underlying9 hi fU dS da _ _ _ rfl (ab Kk) (s.extract k (k+n)) rfl (ab O1) (ab O2) fJ ?_;intro v4 w4 bK ba cK;have iN:=al bK;have kz:=al ba;have Ep:=al cK;clear bK ba cK)
    obtain ⟨v5,kX,ey,dX⟩:=iD (ys:=sub s k n) (ab iN) (by have:=ab XK;omega) ((eB _).trans (by rw[ab O7])) (ab kz) (ab Ep)
    obtain rfl:v4=v5:=by simpa using kX
    obtain ⟨Bp,BH,Bo,rfl⟩:=ey.shape
    have eh:Hid (Below W.heap.size W w4):=(ab cS).trans (dX.below fJ (ab Kk).eL)
    have qB:Hid (Bytes W.heap.size w4 (.slice Bp BH Bo) ([34]++(pre++sub s k n))):=by rw[←List.append_assoc];exact ey
    clear ey dX iN kz Ep kX
    go_roundg (s.size-(k+n))
    case measure=>have:=ab bz;omega
    case rel=>exact ⟨k+n,pre++sub s k n,_,_,_,rfl,by go_num,rfl,by omega,by have:=ab vA;simp only[zK];omega,qB,fu,cG,eh⟩
  ·have hq:=ab Hq
   rw[oJ aM,List.append_nil] at hq
   have Eo:=al hq
   obtain rfl:k=s.size:=by omega
   have fJ:W.heap.size≤wr.heap.size:=(ab HB).size
   have o1:([34]++pre).length+1≤maxLen:=by unfold maxLen;simp;omega
   have o2:(([34]++pre).length+1)*1≤140737488355328:=by simp;omega
   have O1:=al o1
   have O2:=al o2
   have l7:∀(w:World) (v:Value) (l:List Nat),qA w v l→ns l→(convert 58 9 v).run Tryz.prog w=.ok (.string (gE l)) w:=fun w v l q1 q2=>k9 q1 q2
   have Hcv:=al l7
   clear hq Hq o1 o2 l7
   go_wp2_with (at_builtin;refine wpList_append_own_at _ rfl _ _ 58 rfl W.heap.size 5 i0 (.int .u8 0) 1 1 Tryz.underlying58 hi fU dS da rfl (by decide) _ _ _ rfl ((ab HY).alloc _) ⟨wr.heap.size,0,none⟩ 1 1 [.int .u8 34] rfl rfl (dq _ _ _) (by simp[Value.oneCell']) (ab O1) (ab O2) (by rw[zJ];omega) ?_;intro v4 w4 bK ba _ cK;obtain ⟨v5,kX,ey,dX⟩:=eN (ys:=[34]) bK rfl rfl ba cK;obtain rfl:v4=v5:=(by simpa using kX);have Dg:Hid (Below W.heap.size W w4):=(ab HB).trans (dX.below fJ (ab HY).eL);have aat:=ab Hcv w4 v4 _ ey.has ((Jm.append (ab JQ)).append Jm);clear bK ba cK ey dX kX Hcv)
   go_ret
   refine ⟨?_,ab Dg⟩
   rw[ab Eo]
   rfl
end Go.Proofs.YtichhjfjcinjgaaGreatDoor
