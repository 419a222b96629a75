import Derived.Test.YtichhjfjcinjgaaGreatDoorM15
import Derived.Shelf.Strings.OnBuilder
set_option maxHeartbeats 4000000
set_option maxRecDepth 100000
namespace Go.Proofs.YtichhjfjcinjgaaGreatDoor
open Go.RowKit
attribute [local go_sem ↓] Go.wp_at_zero Go.wp_at_succ
def lJ (gs:List (List Fd)) (d:Fd):Bool:=match gs[gs.length-1]? with
 |some (a::_)=>tO a d
 |_=>false
def mK (gs:List (List Fd)) (d:Fd):List (List Fd):=if lJ gs d then gs.set (gs.length-1) (gs.getD (gs.length-1) []++[d]) else gs++[([d])]
def cj (l:List Fd):List (List Fd):=l.foldl mK []
theorem gX {l:List Fd}{i:Nat}{d:Fd} (h:l[i]?=some d):cj (l.take (i+1))=mK (cj (l.take i)) d:=by
 rw[bL h]
 unfold cj
 rw[List.foldl_append]
 rfl
theorem KW (gs:List (List Fd)) (d:Fd):(mK gs d).length≤gs.length+1:=by
 unfold mK
 split
 ·rw[List.length_set];omega
 ·rw[zK];simp
theorem xV (l:List Fd):∀(i:Nat),i≤l.length→(cj (l.take i)).length≤i∧∀G ∈ cj (l.take i),G.length≤i:=by
 intro i
 induction i with
 |zero=>intro _;simp[cj]
 |succ i ih =>
  intro h
  obtain ⟨h1,h2⟩:=ih (by omega)
  rw[gX (List.getElem?_eq_getElem (show i<l.length by omega))]
  refine ⟨Nat.le_trans (KW _ _) (Nat.succ_le_succ h1),fun G hG=>?_⟩
  unfold mK at hG
  split at hG
  ·rcases List.mem_or_eq_of_mem_set hG with z|rfl
   ·exact Nat.le_succ_of_le (h2 G z)
   ·rw[zK,List.getD_eq_getElem?_getD]
    cases e:(cj (l.take i))[(cj (l.take i)).length-1]? with
    |none=>simp
    |some K=>have:=h2 K (List.mem_of_getElem? e);simpa using this
  ·rcases List.mem_append.1 hG with z|z
   ·exact Nat.le_succ_of_le (h2 G z)
   ·simp at z;subst z;simp
theorem tA {B n t:Nat}{w:World}{q c:Nat}{xs:List Value} (h:w.ownsRow B t 1 (.slice (some ⟨q,0,none⟩) n c) n xs) {k:Nat}{x:Value} (hk:xs[k]?=some x):w.cell? ⟨q,k,none⟩=some x∧w.frozen? ⟨q,k,none⟩=false:=by
 rcases h.2 with ⟨e,_⟩|⟨q',c',cur,e,hB,hh,h3,h4,h5,h6⟩
 ·cases e
 ·obtain ⟨rfl,rfl⟩:q=q'∧c=c':=by simpa using e
  refine ⟨?_,by simp[World.frozen?,hh]⟩
  rw[cell_of_row _ _ _ _ _ _ hh,←Array.getElem?_toList]
  rw[←h6,List.getElem?_take] at hk
  split at hk
  ·exact hk
  ·cases hk
theorem BS {w0:World}{va:Value}{l:List Fd}{gA:List Nat}{lo:Nat} (ha:Al lo w0 va l gA) (dB:lo≤w0.heap.size) (hl:l.length≤4096):Calls Tryz.prog 176 #[va,.func (.func 177) #[] #[]] w0 fun e w=>∃v us,e=.returned v∧Jn lo w0.heap.size w0 w va v l gA l.length (cj l) us:=by
 obtain ⟨i0,hi,gf,fX,dY⟩:=info_parts zZ
 have SY:Hid (Jn lo w0.heap.size w0 w0 va (.slice none 0 0) l gA 0 [] []):=⟨zE _ _,zD _,dB,ha.row,fun k e=>(ha.row.lt k e).2,ha.len,fun g hg=>⟨ha.low g hg,ha.lt hg⟩,ha.nd,fun j d g _ h1 h2=>ha.dj j d g h1 h2,⟨rfl,.inl ⟨rfl,rfl⟩⟩,rfl,fun k G u h=>by simp at h,fun G h=>by simp at h,fun k k' u u' b _ h=>by simp at h,fun k j u b g _ h=>by simp at h⟩
 have Hal:=al ha.len
 have hva:∃a c,va=.slice a l.length c:=by
  rcases ha.row.2 with ⟨rfl,h2⟩|⟨q,c,cur,rfl,_⟩
  ·exact ⟨none,0,by rw[h2]⟩
  ·exact ⟨_,_,rfl⟩
 obtain ⟨aa,ac,rfl⟩:=hva
 have HL:=al hl
 clear ha dB
 go_enter Tryz.func176,Tryz.ntmps176
 go_wp2
 go_loopg [5,7,8,9,10,13] l.length (fun gk v5 _ _ _ _ MA wr=>∃(i:Nat) (us:List Value),MA=.int .i64 (i:Int)∧gk=l.length-i∧i≤l.length∧Hid (Jn lo w0.heap.size w0 wr (.slice aa l.length ac) v5 l gA i (cj (l.take i)) us))
 case atStart=>exact ⟨0,[],rfl,rfl,by omega,SY⟩
 case round =>
  obtain ⟨i,us,rfl,aU,eO,HJ⟩:=hrel
  have HN:=al (xV l i eO).1
  have HNg:=al (xV l i eO).2
  have bz:=al aU
  clear aU SY
  by_cases aM:i<l.length
  ·obtain ⟨d,hd⟩:∃d,l[i]?=some d:=⟨_,List.getElem?_eq_getElem aM⟩
   obtain ⟨g,hg⟩:∃g,gA[i]?=some g:=⟨_,List.getElem?_eq_getElem (by rw[ab Hal];exact aM)⟩
   obtain ⟨ah,rfl⟩:∃ah,aa=some ⟨ah,0,none⟩:=by
    rcases (ab HJ).Se.2 with ⟨e,h2⟩|⟨q,c,cur,e,_⟩
    ·omega
    ·cases e;exact ⟨_,rfl⟩
   have x0:=(tA (ab HJ).Se (k:=i) (x:=oa g) (by rw[List.getElem?_map,hg];rfl)).1
   unfold oa at x0
   have HT:=al (gX hd)
   have Hd:=al hd
   have Hg:=al hg
   have LM:(0:Int)≤(i:Int):=zH _
   have i1:(i:Int)<(l.length:Int):=by omega
   have bu:=al aM
   obtain ⟨gs,Nz⟩:∃gs,cj (l.take i)=gs:=⟨_,rfl⟩
   rw[Nz] at HJ HT HN HNg
   clear hd hg Nz aM
   rcases (ab HJ).row.2 with ⟨VU,hz⟩|⟨q,c,cur,dQ,-⟩
   ·obtain rfl:=VU
    have Sw:=al (show lJ gs d=false by unfold lJ;rw[List.getElem?_eq_none (by omega)])
    clear hz
    have CA:=al (ab HJ).row
    go_wp2_with (at_builtin;refine wpList_append_own_at _ rfl _ _ 164 rfl w0.heap.size 43 i0 (.slice none 0 0) 1 24 Tryz.underlying164 hi gf fX dY rfl (by decide) _ _ _ rfl ((ab CA).alloc _) ⟨wr.heap.size,0,none⟩ 1 1 [.slice (some ⟨g,0,none⟩) 1 1] rfl rfl (cell_one_new _ _ _) (by simp[Value.oneCell']) (by have:=ab HN;have:=ab bu;have:=ab HL;unfold maxLen;omega) (by have:=ab HN;have:=ab bu;have:=ab HL;omega) (by rw[zJ];have:=(ab HJ).Fp;omega) ?_;intro v' w9 ho ni _ _;have Mu:=al ((ab HJ).app (ab Hd) (ab Hg) ho ((World.grownBy_alloc _ _ _).trans ni));clear ho ni)
    have Fh:=al (show Jn lo w0.heap.size w0 w9 _ v' l gA (i+1) (cj (l.take (i+1))) _ by rw[ab HT];unfold mK;rw[ab Sw];exact ab Mu)
    clear Mu
    go_roundg (l.length-(i+1))
    case measure=>have:=ab bz;have:=ab bu;omega
    case rel=>exact ⟨i+1,_,by go_num,rfl,ab bu,Fh⟩
   ·obtain rfl:=dQ
    have hnb:gs.length≤4096:=by have:=ab HN;have:=ab bu;omega
    by_cases xL:0<gs.length
    ·obtain ⟨m,hm⟩:∃m,gs.length=m+1:=⟨gs.length-1,by omega⟩
     obtain ⟨G,hG⟩:∃G,gs[m]?=some G:=⟨_,List.getElem?_eq_getElem (by omega)⟩
     obtain ⟨u,hu⟩:∃u,us[m]?=some u:=⟨_,List.getElem?_eq_getElem (by rw[(ab HJ).len];omega)⟩
     have ZF:=(ab HJ).ne G (List.mem_of_getElem? hG)
     obtain ⟨a,r,rfl⟩:∃a r,G=a::r:=by
      cases G with
      |nil=>simp at ZF
      |cons a r=>exact ⟨a,r,rfl⟩
     have Tl:lJ gs d=tO a d:=by unfold lJ;rw[show gs.length-1=m by omega,hG]
     have y0:=(tA (ab HJ).row hu).1
     have T0:=al (show (a::r).length≤4096 by have:=ab HNg _ (List.mem_of_getElem? hG);have:=ab bu;omega)
     have HC:=al (IG (d1:=a) (d:=d) ((ab HJ).Ib m _ u hG hu) rfl (ab T0) ((ab HJ).dj i d g (zD _) (ab Hd) (ab Hg)) (Nat.le_trans (ab HJ).low (ab HJ).Fp))
     have e1:(gs.length:Int)-1=(m:Int):=by omega
     have m0:(0:Int)≤(m:Int):=zH _
     have m1:(m:Int)<(gs.length:Int):=by omega
     have Hm:=al hm
     have HG:=al hG
     have Hu:=al hu
     have TQ:=al Tl
     obtain ⟨ua,ul,uc,rfl⟩:∃a l c,u=.slice a l c:=by
      rcases ((ab HJ).Ib m _ u hG hu).2 with ⟨rfl,_⟩|⟨_,_,_,rfl,_⟩<;>exact ⟨_,_,_,rfl⟩
     clear hm hG hu ZF Tl xL
     go_wp2_with fail
     refine (ab HC).mono ?_
     intro e w1 hq
     unfold W6 at hq
     cases hj:tO a d with
     |true =>
      rw[hj,if_pos rfl] at hq
      obtain ⟨u',rfl,dM,dK,RN⟩:=hq
      have GP:=(ab HJ).Ki (ab HG) (ab Hu) dK
      obtain ⟨z0,z1⟩:=tA GP (ab Hu)
      have CB:=al ((ab HJ).join (m:=m) (d:=d) (ab Hm).symm (ab HG) (ab Hu) dM dK RN)
      have HgS:=al (show mK gs d=gs.set m ((a::r)++[d]) by
       unfold mK
       rw[ab TQ,hj,if_pos rfl,show gs.length-1=m by have:=ab Hm;omega,List.getD_eq_getElem?_getD,ab HG]
       rfl)
      obtain ⟨AS,vl',AR,rfl⟩:∃a l c,u'=.slice a l c:=by
       rcases dM.2 with ⟨rfl,_⟩|⟨_,_,_,rfl,_⟩<;>exact ⟨_,_,_,rfl⟩
      clear dM dK RN GP HC hj
      go_wp2
      go_roundg (l.length-(i+1))
      case measure=>have:=ab bz;have:=ab bu;omega
      case rel=>exact ⟨i+1,_,by go_num,rfl,ab bu,by rw[ab HT,ab HgS];exact CB⟩
     |false =>
      rw[hj] at hq
      obtain ⟨rfl,aY⟩:=hq
      have qF:=al ((ab HJ).up aY)
      have Sw:=al (show lJ gs d=false from (ab TQ).trans hj)
      clear aY hj HC
      have CA:=al (ab qF).row
      go_wp2_with (at_builtin;refine wpList_append_own_at _ rfl _ _ 164 rfl w0.heap.size 43 i0 (.slice none 0 0) 1 24 Tryz.underlying164 hi gf fX dY rfl (by decide) _ _ _ rfl ((ab CA).alloc _) ⟨w1.heap.size,0,none⟩ 1 1 [.slice (some ⟨g,0,none⟩) 1 1] rfl rfl (cell_one_new _ _ _) (by simp[Value.oneCell']) (by have:=ab HN;have:=ab bu;have:=ab HL;unfold maxLen;omega) (by have:=ab HN;have:=ab bu;have:=ab HL;omega) (by rw[zJ];have:=(ab qF).Fp;omega) ?_;intro v' w9 ho ni _ _;have Mu:=al ((ab qF).app (ab Hd) (ab Hg) ho ((World.grownBy_alloc _ _ _).trans ni));clear ho ni)
      have Fh:=al (show Jn lo w0.heap.size w0 w9 _ v' l gA (i+1) (cj (l.take (i+1))) _ by rw[ab HT];unfold mK;rw[ab Sw];exact ab Mu)
      clear Mu
      go_roundg (l.length-(i+1))
      case measure=>have:=ab bz;have:=ab bu;omega
      case rel=>exact ⟨i+1,_,by go_num,rfl,ab bu,Fh⟩
    ·have Sw:=al (show lJ gs d=false by unfold lJ;rw[List.getElem?_eq_none (by omega)])
     have e1:gs.length=0:=by omega
     clear xL
     have CA:=al (ab HJ).row
     go_wp2_with (at_builtin;refine wpList_append_own_at _ rfl _ _ 164 rfl w0.heap.size 43 i0 (.slice none 0 0) 1 24 Tryz.underlying164 hi gf fX dY rfl (by decide) _ _ _ rfl ((ab CA).alloc _) ⟨wr.heap.size,0,none⟩ 1 1 [.slice (some ⟨g,0,none⟩) 1 1] rfl rfl (cell_one_new _ _ _) (by simp[Value.oneCell']) (by have:=ab HN;have:=ab bu;have:=ab HL;unfold maxLen;omega) (by have:=ab HN;have:=ab bu;have:=ab HL;omega) (by rw[zJ];have:=(ab HJ).Fp;omega) ?_;intro v' w9 ho ni _ _;have Mu:=al ((ab HJ).app (ab Hd) (ab Hg) ho ((World.grownBy_alloc _ _ _).trans ni));clear ho ni)
     have Fh:=al (show Jn lo w0.heap.size w0 w9 _ v' l gA (i+1) (cj (l.take (i+1))) _ by rw[ab HT];unfold mK;rw[ab Sw];exact ab Mu)
     clear Mu
     go_roundg (l.length-(i+1))
     case measure=>have:=ab bz;have:=ab bu;omega
     case rel=>exact ⟨i+1,_,by go_num,rfl,ab bu,Fh⟩
  ·obtain rfl:i=l.length:=by omega
   have hO:=ab HJ
   rw[List.take_length] at hO
   have lM:=al hO
   clear hO
   go_wp2
   go_ret
   exact ⟨_,us,rfl,ab lM⟩
structure Gr (lo:Nat) (w:World) (v:Value) (gs:List (List Fd)) (us:List Value):Prop where
 row:∃B,lo≤B∧w.ownsRow B 43 1 v gs.length us
 len:us.length=gs.length
 Ib:∀(k:Nat) (G:List Fd) (u:Value),gs[k]?=some G→us[k]?=some u→w.ownsRow lo 42 6 u G.length (fp G)
theorem Cy {W:World}{v:Value}{l:List Fd} (hv:Rl W v l.length (fp l)) (hl:l.length≤4096) (w0:World) (hw:Below W.heap.size W w0):Calls Tryz.prog 131 #[v] w0 fun e w=>∃u us,e=.returned u∧Gr w0.heap.size w u (cj l) us∧Below w0.heap.size w0 w:=by
 have HE:=al (EU hv hl w0 hw)
 obtain ⟨a,c,rfl,-,-⟩:=hv
 have Hl:=al hl
 clear hw hl
 go_enter Tryz.func131,Tryz.ntmps131
 go_wp2_with fail
 refine (ab HE).mono ?_
 rintro e w1 ⟨u1,gA,rfl,ha,aY⟩
 have HJ:=al (BS ha aY.size (ab Hl))
 have HB:=al aY
 obtain ⟨a1,l1,c1,rfl⟩:∃a l c,u1=.slice a l c:=by
  rcases ha.row.2 with ⟨rfl,_⟩|⟨_,_,_,rfl,_⟩<;>exact ⟨_,_,_,rfl⟩
 clear ha aY HE
 go_wp2_with fail
 refine (ab HJ).mono ?_
 rintro e w2 ⟨u2,us,rfl,hj⟩
 have HG:=al (show Gr w0.heap.size w2 u2 (cj l) us from ⟨⟨_,(ab HB).size,hj.row⟩,hj.len,hj.Ib⟩)
 have cP:=al ((ab HB).trans hj.bV)
 obtain ⟨a2,l2,c2,rfl⟩:∃a l c,u2=.slice a l c:=by
  rcases hj.row.2 with ⟨rfl,_⟩|⟨_,_,_,rfl,_⟩<;>exact ⟨_,_,_,rfl⟩
 clear hj HJ HB
 go_wp2
 go_ret
 exact ⟨_,us,rfl,ab HG,ab cP⟩
end Go.Proofs.YtichhjfjcinjgaaGreatDoor
namespace Go.Proofs
open Go.Shelf
def Tryz.mU:Go.Shelf.Ren:=⟨fun|156=>169|165=>127|166=>81|169=>85|240=>124|241=>167|276=>163|277=>189|n=>n,fun|31=>22|9=>9|3=>3|4=>4|0=>0|20=>20|72=>125|76=>128|70=>123|37=>58|75=>127|127=>162|164=>184|5=>5|80=>87|n=>n,fun|n=>n⟩
theorem Tryz.Eo:Go.Proofs.Lays.n156 Tryz.prog Tryz.mU:={
 mixed:=by kernel_rfl
 f156:=Tryz.func169.trans (congrArg some (by kernel_rfl))
 f165:=Tryz.func127.trans (congrArg some (by kernel_rfl))
 f166:=Tryz.func81.trans (congrArg some (by kernel_rfl))
 f169:=Tryz.func85.trans (congrArg some (by kernel_rfl))
 f240:=Tryz.func124.trans (congrArg some (by kernel_rfl))
 f241:=Tryz.func167.trans (congrArg some (by kernel_rfl))
 f276:=Tryz.func163.trans (congrArg some (by kernel_rfl))
 f277:=Tryz.func189.trans (congrArg some (by kernel_rfl))
 t0:=Tryz.underlying0
 a0:=Tryz.isAgg0
 z0:=Tryz.sizeOf0
 v0:=Tryz.zeroValue0
 t3:=Tryz.underlying3
 a3:=Tryz.isAgg3
 z3:=Tryz.sizeOf3
 v3:=Tryz.zeroValue3
 t4:=Tryz.underlying4
 a4:=Tryz.isAgg4
 z4:=Tryz.sizeOf4
 v4:=Tryz.zeroValue4
 t9:=Tryz.underlying9
 a9:=Tryz.isAgg9
 z9:=Tryz.sizeOf9
 v9:=Tryz.zeroValue9
 t20:=Tryz.underlying20
 a20:=Tryz.isAgg20
 z20:=Tryz.sizeOf20
 v20:=Tryz.zeroValue20
 t31:=Tryz.underlying22
 a31:=Tryz.isAgg22
 z31:=Tryz.sizeOf22
 v31:=Tryz.zeroValue22
 t37:=Tryz.underlying58
 a37:=Tryz.isAgg58
 z37:=Tryz.sizeOf58
 v37:=Tryz.zeroValue58
 t70:=Tryz.underlying123
 a70:=Tryz.isAgg123
 z70:=Tryz.sizeOf123
 v70:=Tryz.zeroValue123
 t72:=Tryz.underlying125
 a72:=Tryz.isAgg125
 z72:=Tryz.sizeOf125
 v72:=Tryz.zeroValue125
 t75:=Tryz.underlying127
 a75:=Tryz.isAgg127
 z75:=Tryz.sizeOf127
 v75:=Tryz.zeroValue127
 t76:=Tryz.underlying128
 a76:=Tryz.isAgg128
 z76:=Tryz.sizeOf128
 v76:=Tryz.zeroValue128
 t127:=Tryz.underlying162
 a127:=Tryz.isAgg162
 z127:=Tryz.sizeOf162
 v127:=Tryz.zeroValue162
 t164:=Tryz.underlying184
 a164:=Tryz.isAgg184
 z164:=Tryz.sizeOf184
 v164:=Tryz.zeroValue184 }
end Go.Proofs
namespace Go.Proofs.YtichhjfjcinjgaaGreatDoor
open Go.RowKit Go.Lib
attribute [local go_sem ↓] Go.wp_at_zero Go.wp_at_succ
theorem vU {W:World} (h:jw W) (s:ByteArray) (hs:s.size≤1048576) :
  Calls Tryz.prog 44 #[.string s] W fun e w=>e=.returned (.string (gp (34::jH s 0++[34])))∧Below W.heap.size W w:=by
 obtain ⟨i0,hi,gf,fX,dY⟩:=info_parts Tryz.infoByte
 have YG:Bytes W.heap.size (W.alloc (.cells #[.int .u8 34] 5)) (.slice (some ⟨W.heap.size,0,none⟩) 1 1) ([34]++[]):=E2 W 34
 have I0:=al YG
 have iE:Hid (Below W.heap.size W (W.alloc (.cells #[.int .u8 34] 5))):=(zE _ _).alloc (zD _) _
 clear YG
 go_enter Tryz.func44,Tryz.ntmps44
 go_wp2
 go_loopg [3,4,5] s.size (fun gk v3 v4 _ wr=>∃(k:Nat) (pre:List Nat) (va:Option Addr) (vn vc:Nat),v3=.slice va vn vc∧v4=.int .i64 (k:Int)∧gk=s.size-k∧k≤s.size∧pre.length≤4*k∧Hid (Bytes W.heap.size wr (.slice va vn vc) ([34]++pre))∧Hid (mM pre)∧Hid (jH s 0=pre++jH s k)∧Hid (Below W.heap.size W wr))
 case atStart=>exact ⟨0,[],_,_,_,rfl,rfl,rfl,by omega,by simp,I0,fun x hx=>by simp at hx,rfl,iE⟩
 case round =>
  obtain ⟨k,pre,va,vn,vc,rfl,rfl,aU,hk,Ez,HY,I4,Hq,HB⟩:=hrel
  have bz:=al aU
  clear aU I0 iE
  by_cases aM:k<s.size
  ·have hz:=extract_size s k s.size (zD _)
   have ff:=pw aM
   have Q':=@By s k
   have Ex:=Gh s k
   have mY:=LH aM
   have YU:=Bz s k
   have Ps:=zf aM
   have Rd:pre.length+(qs s k).length≤4*(k+qn s k):=by omega
   have cD:Hid (jH s 0=(pre++qs s k)++jH s (k+qn s k)):=by
    show jH s 0=(pre++qs s k)++jH s (k+qn s k)
    rw[ab Hq,ff,List.append_assoc]
   have fc:Hid (mM (pre++qs s k)):=(ab I4).append Ex
   have uM:=al Rd
   have Hqn:=al mY
   have Z':=al YU
   clear ff Q' Ex Rd mY YU Hq
   go_wp2_with fail
   refine (Eb (h.up (ab HB)) (s.extract k s.size) (by omega) (by omega)).mono ?_
   rintro e w2 ⟨rfl,bd⟩
   rw[Ps]
   have cP:Hid (Below W.heap.size W w2):=(ab HB).trans (bd.mono (ab HB).size)
   have JB:Hid (Bytes W.heap.size w2 (.slice va vn vc) ([34]++pre)):=(ab HY).up bd
   have fB:W.heap.size≤w2.heap.size:=(ab cP).size
   have lD:=al Ps
   clear Ps hz HY HB bd
   by_cases h0:c8 s k=0
   ·obtain ⟨x,hx⟩:∃x:Nat,s[k].toNat=x:=⟨_,rfl⟩
    have dL:aD s k=x:=(df s k aM).trans hx
    have cY:x<256:=by rw[←dL];exact du s k
    have gL:qs s k=mB x:=by unfold qs;rw[if_pos h0,dL]
    have GQ:qn s k=1:=by unfold qn;rw[if_pos h0]
    rw[h0]
    rw[gL,GQ] at cD uM
    rw[gL] at fc
    have k0:(0:Int)≤(k:Int):=zH _
    have k1:(k:Int)<(s.size:Int):=by omega
    clear dL gL GQ h0 Hqn Z'
    go_wp2_with fail
    refine (vl (ab JB) fB (by simp;omega) x cY).mono ?_
    rintro e w3 ⟨v',rfl,eo,dR⟩
    obtain ⟨AS,Bb,AR,rfl⟩:=eo.shape
    have dX:Hid (Below W.heap.size W w3):=(ab cP).trans (dR.below fB (ab JB).eF)
    have pU:Hid (Bytes W.heap.size w3 (.slice AS Bb AR) ([34]++(pre++mB x))):=by rw[←List.append_assoc];exact eo
    clear eo dR
    go_wp2
    go_roundg (s.size-(k+1))
    case measure=>have:=ab bz;omega
    case rel=>exact ⟨k+1,pre++mB x,_,_,_,rfl,by go_num,rfl,by omega,by have:=ab uM;simp only[zK];omega,pU,fc,cD,dX⟩
   ·obtain ⟨n,hn⟩:∃n,n=c8 s k:=⟨_,rfl⟩
    have gL:qs s k=sub s k n:=by unfold qs;rw[if_neg h0,hn]
    have GQ:qn s k=n:=by unfold qn;rw[if_neg h0,hn]
    have hle:=vV aM
    rw[gL,GQ] at cD uM
    rw[gL] at fc
    rw[←hn] at hle h0 ⊢
    obtain ⟨Rn,aan⟩:=hle
    have e0:((n:Int)==0)=false:=by simp;omega
    have GJ:=qd s k n
    have dQ:=CP Rn
    have BZ:=extract_size s k (k+n) Rn
    have o1:([34]++pre).length+(s.extract k (k+n)).size≤maxLen:=by rw[BZ];unfold maxLen;simp;omega
    have o2:([34]++pre).length+(s.extract k (k+n)).size≤140737488355328:=by rw[BZ];simp;omega
    have k0:(0:Int)≤(k:Int):=zH _
    have Ou:=al GJ
    have Xc:=al dQ
    have O1:=al o1
    have O2:=al o2
    clear gL GQ Hqn Z' hn GJ dQ o1 o2
    go_wp2_with (at_builtin;refine bU rfl _ _ 58 9 rfl W.heap.size 5 i0 Tryz.underlying58 Tryz.underlying9 hi gf fX dY _ _ _ rfl (ab JB) (s.extract k (k+n)) rfl (ab O1) (ab O2) fB ?_;intro v4 w4 bI ba cH;have iA:=al bI;have j8:=al ba;have DL:=al cH;clear bI ba cH)
    obtain ⟨v5,kG,eo,dR⟩:=ij (ys:=sub s k n) (ab iA) (by have:=ab Xc;omega) ((eu _).trans (by rw[ab Ou])) (ab j8) (ab DL)
    obtain rfl:v4=v5:=by simpa using kG
    obtain ⟨AS,Bb,AR,rfl⟩:=eo.shape
    have dX:Hid (Below W.heap.size W w4):=(ab cP).trans (dR.below fB (ab JB).eF)
    have pU:Hid (Bytes W.heap.size w4 (.slice AS Bb AR) ([34]++(pre++sub s k n))):=by rw[←List.append_assoc];exact eo
    clear eo dR iA j8 DL kG
    go_roundg (s.size-(k+n))
    case measure=>have:=ab bz;omega
    case rel=>exact ⟨k+n,pre++sub s k n,_,_,_,rfl,by go_num,rfl,by omega,by have:=ab uM;simp only[zK];omega,pU,fc,cD,dX⟩
  ·have hq:=ab Hq
   rw[nX aM,List.append_nil] at hq
   have DK:=al hq
   obtain rfl:k=s.size:=by omega
   have fB:W.heap.size≤wr.heap.size:=(ab HB).size
   have o1:([34]++pre).length+1≤maxLen:=by unfold maxLen;simp;omega
   have o2:(([34]++pre).length+1)*1≤140737488355328:=by simp;omega
   have O1:=al o1
   have O2:=al o2
   have lH:∀(w:World) (v:Value) (l:List Nat),pT w v l→mM l→(convert 58 9 v).run Tryz.prog w=.ok (.string (gp l)) w:=fun w v l q1 q2=>kJ q1 q2
   have Hcv:=al lH
   clear hq Hq o1 o2 lH
   go_wp2_with (at_builtin;refine wpList_append_own_at _ rfl _ _ 58 rfl W.heap.size 5 i0 (.int .u8 0) 1 1 Tryz.underlying58 hi gf fX dY rfl (by decide) _ _ _ rfl ((ab HY).alloc _) ⟨wr.heap.size,0,none⟩ 1 1 [.int .u8 34] rfl rfl (db _ _ _) (by simp[Value.oneCell']) (ab O1) (ab O2) (by rw[zJ];omega) ?_;intro v4 w4 bI ba _ cH;obtain ⟨v5,kG,eo,dR⟩:=eH (ys:=[34]) bI rfl rfl ba cH;obtain rfl:v4=v5:=(by simpa using kG);have CD:Hid (Below W.heap.size W w4):=(ab HB).trans (dR.below fB (ab HY).eF);have aap:=ab Hcv w4 v4 _ eo.has ((IE.append (ab I4)).append IE);clear bI ba cH eo dR kG Hcv)
   go_ret
   refine ⟨?_,ab CD⟩
   rw[ab DK]
   rfl
end Go.Proofs.YtichhjfjcinjgaaGreatDoor
