import Derived.Test.YtghioefalckgoaaGreatDoorM23
import Derived.Shelf.Strings.OnBuilder
set_option maxHeartbeats 4000000
set_option maxRecDepth 100000
namespace Go.Proofs.YtghioefalckgoaaGreatDoor
open Go.RowKit
attribute [local go_sem ↓] Go.wp_at_zero Go.wp_at_succ
def yX (gs:List (List Fd)) (d:Fd):Bool:=match gs[gs.length-1]? with
 |some (a::_)=>AW a d
 |_=>false
def rh (gs:List (List Fd)) (d:Fd):List (List Fd):=if yX gs d then gs.set (gs.length-1) (gs.getD (gs.length-1) []++[d]) else gs++[([d])]
def ck (l:List Fd):List (List Fd):=l.foldl rh []
theorem mI {l:List Fd}{i:Nat}{d:Fd} (h:l[i]?=some d):ck (l.take (i+1))=rh (ck (l.take i)) d:=by
 rw[dB h]
 unfold ck
 rw[List.foldl_append]
 rfl
theorem NA (gs:List (List Fd)) (d:Fd):(rh gs d).length≤gs.length+1:=by
 unfold rh
 split
 ·rw[List.length_set];omega
 ·rw[zK];simp
theorem o0 (l:List Fd):∀(i:Nat),i≤l.length→(ck (l.take i)).length≤i∧∀G ∈ ck (l.take i),G.length≤i:=by
 intro i
 induction i with
 |zero=>intro _;simp[ck]
 |succ i ih =>
  intro h
  obtain ⟨h1,h2⟩:=ih (by omega)
  rw[mI (List.getElem?_eq_getElem (show i<l.length by omega))]
  refine ⟨Nat.le_trans (NA _ _) (Nat.succ_le_succ h1),fun G hG=>?_⟩
  unfold rh at hG
  split at hG
  ·rcases List.mem_or_eq_of_mem_set hG with z|rfl
   ·exact Nat.le_succ_of_le (h2 G z)
   ·rw[zK,List.getD_eq_getElem?_getD]
    cases e:(ck (l.take i))[(ck (l.take i)).length-1]? with
    |none=>simp
    |some K=>have:=h2 K (List.mem_of_getElem? e);simpa using this
  ·rcases List.mem_append.1 hG with z|z
   ·exact Nat.le_succ_of_le (h2 G z)
   ·simp at z;subst z;simp
theorem uL {B n t:Nat}{w:World}{q c:Nat}{xs:List Value} (h:w.ownsRow B t 1 (.slice (some ⟨q,0,none⟩) n c) n xs) {k:Nat}{x:Value} (hk:xs[k]?=some x):w.cell? ⟨q,k,none⟩=some x∧w.frozen? ⟨q,k,none⟩=false:=by
 rcases h.2 with ⟨e,_⟩|⟨q',c',cur,e,hB,hh,h3,h4,h5,h6⟩
 ·cases e
 ·obtain ⟨rfl,rfl⟩:q=q'∧c=c':=by simpa using e
  refine ⟨?_,by simp[World.frozen?,hh]⟩
  rw[cell_of_row _ _ _ _ _ _ hh,←Array.getElem?_toList]
  rw[←h6,List.getElem?_take] at hk
  split at hk
  ·exact hk
  ·cases hk
theorem CC {w0:World}{va:Value}{l:List Fd}{gA:List Nat}{lo:Nat} (ha:Al lo w0 va l gA) (cK:lo≤w0.heap.size) (hl:l.length≤4096):Calls Tryz.prog 229 #[va,.func (.func 230) #[] #[]] w0 fun e w=>∃v us,e=.returned v∧Jn lo w0.heap.size w0 w va v l gA l.length (ck l) us:=by
 obtain ⟨i0,hi,fX,gp,fJ⟩:=info_parts A2
 have Xh:Hid (Jn lo w0.heap.size w0 w0 va (.slice none 0 0) l gA 0 [] []):=⟨zE _ _,zD _,cK,ha.row,fun k e=>(ha.row.lt k e).2,ha.len,fun g hg=>⟨ha.low g hg,ha.lt hg⟩,ha.nd,fun j d g _ h1 h2=>ha.cH j d g h1 h2,⟨rfl,.inl ⟨rfl,rfl⟩⟩,rfl,fun k G u h=>by simp at h,fun G h=>by simp at h,fun k k' u u' b _ h=>by simp at h,fun k j u b g _ h=>by simp at h⟩
 have Hal:=ak ha.len
 have hva:∃a c,va=.slice a l.length c:=by
  rcases ha.row.2 with ⟨rfl,h2⟩|⟨q,c,cur,rfl,_⟩
  ·exact ⟨none,0,by rw[h2]⟩
  ·exact ⟨_,_,rfl⟩
 obtain ⟨aa,ac,rfl⟩:=hva
 have HL:=ak hl
 clear ha cK
 go_enter Tryz.func229,Tryz.ntmps229
 go_wp2
 go_loopg [5,7,8,9,10,13] l.length (fun gk v5 _ _ _ _ H' wr=>∃(i:Nat) (us:List Value),H'=.int .i64 (i:Int)∧gk=l.length-i∧i≤l.length∧Hid (Jn lo w0.heap.size w0 wr (.slice aa l.length ac) v5 l gA i (ck (l.take i)) us))
 case atStart=>exact ⟨0,[],rfl,rfl,by omega,Xh⟩
 case round =>
  obtain ⟨i,us,rfl,bd,fY,HJ⟩:=hrel
  have HN:=ak (o0 l i fY).1
  have HNg:=ak (o0 l i fY).2
  have bH:=ak bd
  clear bd Xh
  by_cases aU:i<l.length
  ·obtain ⟨d,hd⟩:∃d,l[i]?=some d:=⟨_,List.getElem?_eq_getElem aU⟩
   obtain ⟨g,hg⟩:∃g,gA[i]?=some g:=⟨_,List.getElem?_eq_getElem (by rw[ab Hal];exact aU)⟩
   obtain ⟨ah,rfl⟩:∃ah,aa=some ⟨ah,0,none⟩:=by
    rcases (ab HJ).Ww.2 with ⟨e,h2⟩|⟨q,c,cur,e,_⟩
    ·omega
    ·cases e;exact ⟨_,rfl⟩
   have x0:=(uL (ab HJ).Ww (k:=i) (x:=oL g) (by rw[List.getElem?_map,hg];rfl)).1
   unfold oL at x0
   have HT:=ak (mI hd)
   have Hd:=ak hd
   have Hg:=ak hg
   have Fo:(0:Int)≤(i:Int):=zH _
   have i1:(i:Int)<(l.length:Int):=by omega
   have bn:=ak aU
   obtain ⟨gs,GM⟩:∃gs,ck (l.take i)=gs:=⟨_,rfl⟩
   rw[GM] at HJ HT HN HNg
   clear hd hg GM aU
   rcases (ab HJ).row.2 with ⟨Ft,hz⟩|⟨q,c,cur,gD,-⟩
   ·obtain rfl:=Ft
    have WX:=ak (show yX gs d=false by unfold yX;rw[List.getElem?_eq_none (by omega)])
    clear hz
    have Dm:=ak (ab HJ).row
    go_wp2_with (at_builtin;refine wpList_append_own_at _ rfl _ _ 86 rfl w0.heap.size 54 i0 (.slice none 0 0) 1 24 Tryz.underlying86 hi fX gp fJ rfl (by decide) _ _ _ rfl ((ab Dm).alloc _) ⟨wr.heap.size,0,none⟩ 1 1 [.slice (some ⟨g,0,none⟩) 1 1] rfl rfl (cell_one_new _ _ _) (by simp[Value.oneCell']) (by have:=ab HN;have:=ab bn;have:=ab HL;unfold maxLen;omega) (by have:=ab HN;have:=ab bn;have:=ab HL;omega) (by rw[zJ];have:=(ab HJ).GA;omega) ?_;intro v' w9 ho np _ _;have PR:=ak ((ab HJ).app (ab Hd) (ab Hg) ho ((World.grownBy_alloc _ _ _).trans np));clear ho np)
    have Gu:=ak (show Jn lo w0.heap.size w0 w9 _ v' l gA (i+1) (ck (l.take (i+1))) _ by rw[ab HT];unfold rh;rw[ab WX];exact ab PR)
    clear PR
    go_roundg (l.length-(i+1))
    case measure=>have:=ab bH;have:=ab bn;omega
    case rel=>exact ⟨i+1,_,by go_num,rfl,ab bn,Gu⟩
   ·obtain rfl:=gD
    have hnb:gs.length≤4096:=by have:=ab HN;have:=ab bn;omega
    by_cases QZ:0<gs.length
    ·obtain ⟨m,hm⟩:∃m,gs.length=m+1:=⟨gs.length-1,by omega⟩
     obtain ⟨G,hG⟩:∃G,gs[m]?=some G:=⟨_,List.getElem?_eq_getElem (by omega)⟩
     obtain ⟨u,hu⟩:∃u,us[m]?=some u:=⟨_,List.getElem?_eq_getElem (by rw[(ab HJ).len];omega)⟩
     have hGp:=(ab HJ).ne G (List.mem_of_getElem? hG)
     obtain ⟨a,r,rfl⟩:∃a r,G=a::r:=by
      cases G with
      |nil=>simp at hGp
      |cons a r=>exact ⟨a,r,rfl⟩
     have hgc:yX gs d=AW a d:=by unfold yX;rw[show gs.length-1=m by omega,hG]
     have y0:=(uL (ab HJ).row hu).1
     have YG:=ak (show (a::r).length≤4096 by have:=ab HNg _ (List.mem_of_getElem? hG);have:=ab bn;omega)
     have HC:=ak (KI (d1:=a) (d:=d) ((ab HJ).GS m _ u hG hu) rfl (ab YG) ((ab HJ).cH i d g (zD _) (ab Hd) (ab Hg)) (Nat.le_trans (ab HJ).low (ab HJ).GA))
     have e1:(gs.length:Int)-1=(m:Int):=by omega
     have m0:(0:Int)≤(m:Int):=zH _
     have m1:(m:Int)<(gs.length:Int):=by omega
     have Hm:=ak hm
     have HG:=ak hG
     have Hu:=ak hu
     have Yz:=ak hgc
     obtain ⟨ua,ul,uc,rfl⟩:∃a l c,u=.slice a l c:=by
      rcases ((ab HJ).GS m _ u hG hu).2 with ⟨rfl,_⟩|⟨_,_,_,rfl,_⟩<;>exact ⟨_,_,_,rfl⟩
     clear hm hG hu hGp hgc QZ
     go_wp2_with fail
     refine (ab HC).mono ?_
     intro e w1 hq
     unfold JoQ at hq
     cases hj:AW a d with
     |true =>
      rw[hj,if_pos rfl] at hq
      obtain ⟨u',rfl,cT,bG,VK⟩:=hq
      have O0:=(ab HJ).MP (ab HG) (ab Hu) bG
      obtain ⟨z0,z1⟩:=uL O0 (ab Hu)
      have BH:=ak ((ab HJ).join (m:=m) (d:=d) (ab Hm).symm (ab HG) (ab Hu) cT bG VK)
      have HgS:=ak (show rh gs d=gs.set m ((a::r)++[d]) by
       unfold rh
       rw[ab Yz,hj,if_pos rfl,show gs.length-1=m by have:=ab Hm;omega,List.getD_eq_getElem?_getD,ab HG]
       rfl)
      obtain ⟨Un,vl',Um,rfl⟩:∃a l c,u'=.slice a l c:=by
       rcases cT.2 with ⟨rfl,_⟩|⟨_,_,_,rfl,_⟩<;>exact ⟨_,_,_,rfl⟩
      clear cT bG VK O0 HC hj
      go_wp2
      go_roundg (l.length-(i+1))
      case measure=>have:=ab bH;have:=ab bn;omega
      case rel=>exact ⟨i+1,_,by go_num,rfl,ab bn,by rw[ab HT,ab HgS];exact BH⟩
     |false =>
      rw[hj] at hq
      obtain ⟨rfl,aY⟩:=hq
      have pF:=ak ((ab HJ).up aY)
      have WX:=ak (show yX gs d=false from (ab Yz).trans hj)
      clear aY hj HC
      have Dm:=ak (ab pF).row
      go_wp2_with (at_builtin;refine wpList_append_own_at _ rfl _ _ 86 rfl w0.heap.size 54 i0 (.slice none 0 0) 1 24 Tryz.underlying86 hi fX gp fJ rfl (by decide) _ _ _ rfl ((ab Dm).alloc _) ⟨w1.heap.size,0,none⟩ 1 1 [.slice (some ⟨g,0,none⟩) 1 1] rfl rfl (cell_one_new _ _ _) (by simp[Value.oneCell']) (by have:=ab HN;have:=ab bn;have:=ab HL;unfold maxLen;omega) (by have:=ab HN;have:=ab bn;have:=ab HL;omega) (by rw[zJ];have:=(ab pF).GA;omega) ?_;intro v' w9 ho np _ _;have PR:=ak ((ab pF).app (ab Hd) (ab Hg) ho ((World.grownBy_alloc _ _ _).trans np));clear ho np)
      have Gu:=ak (show Jn lo w0.heap.size w0 w9 _ v' l gA (i+1) (ck (l.take (i+1))) _ by rw[ab HT];unfold rh;rw[ab WX];exact ab PR)
      clear PR
      go_roundg (l.length-(i+1))
      case measure=>have:=ab bH;have:=ab bn;omega
      case rel=>exact ⟨i+1,_,by go_num,rfl,ab bn,Gu⟩
    ·have WX:=ak (show yX gs d=false by unfold yX;rw[List.getElem?_eq_none (by omega)])
     have e1:gs.length=0:=by omega
     clear QZ
     have Dm:=ak (ab HJ).row
     go_wp2_with (at_builtin;refine wpList_append_own_at _ rfl _ _ 86 rfl w0.heap.size 54 i0 (.slice none 0 0) 1 24 Tryz.underlying86 hi fX gp fJ rfl (by decide) _ _ _ rfl ((ab Dm).alloc _) ⟨wr.heap.size,0,none⟩ 1 1 [.slice (some ⟨g,0,none⟩) 1 1] rfl rfl (cell_one_new _ _ _) (by simp[Value.oneCell']) (by have:=ab HN;have:=ab bn;have:=ab HL;unfold maxLen;omega) (by have:=ab HN;have:=ab bn;have:=ab HL;omega) (by rw[zJ];have:=(ab HJ).GA;omega) ?_;intro v' w9 ho np _ _;have PR:=ak ((ab HJ).app (ab Hd) (ab Hg) ho ((World.grownBy_alloc _ _ _).trans np));clear ho np)
     have Gu:=ak (show Jn lo w0.heap.size w0 w9 _ v' l gA (i+1) (ck (l.take (i+1))) _ by rw[ab HT];unfold rh;rw[ab WX];exact ab PR)
     clear PR
     go_roundg (l.length-(i+1))
     case measure=>have:=ab bH;have:=ab bn;omega
     case rel=>exact ⟨i+1,_,by go_num,rfl,ab bn,Gu⟩
  ·obtain rfl:i=l.length:=by omega
   have hO:=ab HJ
   rw[List.take_length] at hO
   have jj:=ak hO
   clear hO
   go_wp2
   go_ret
   exact ⟨_,us,rfl,ab jj⟩
structure Gr (lo:Nat) (w:World) (v:Value) (gs:List (List Fd)) (us:List Value):Prop where
 row:∃B,lo≤B∧w.ownsRow B 54 1 v gs.length us
 len:us.length=gs.length
 GS:∀(k:Nat) (G:List Fd) (u:Value),gs[k]?=some G→us[k]?=some u→w.ownsRow lo 53 6 u G.length (cC G)
theorem vN {W:World}{v:Value}{l:List Fd} (hv:Rl W v l.length (cC l)) (hl:l.length≤4096) (w0:World) (hw:Below W.heap.size W w0):Calls Tryz.prog 157 #[v] w0 fun e w=>∃u us,e=.returned u∧Gr w0.heap.size w u (ck l) us∧Below w0.heap.size w0 w:=by
 have HE:=ak (FW hv hl w0 hw)
 obtain ⟨a,c,rfl,-,-⟩:=hv
 have Hl:=ak hl
 clear hw hl
 go_enter Tryz.func157,Tryz.ntmps157
 go_wp2_with fail
 refine (ab HE).mono ?_
 rintro e w1 ⟨u1,gA,rfl,ha,aY⟩
 have HJ:=ak (CC ha aY.size (ab Hl))
 have HB:=ak aY
 obtain ⟨a1,l1,c1,rfl⟩:∃a l c,u1=.slice a l c:=by
  rcases ha.row.2 with ⟨rfl,_⟩|⟨_,_,_,rfl,_⟩<;>exact ⟨_,_,_,rfl⟩
 clear ha aY HE
 go_wp2_with fail
 refine (ab HJ).mono ?_
 rintro e w2 ⟨u2,us,rfl,hj⟩
 have HG:=ak (show Gr w0.heap.size w2 u2 (ck l) us from ⟨⟨_,(ab HB).size,hj.row⟩,hj.len,hj.GS⟩)
 have dF:=ak ((ab HB).trans hj.bh)
 obtain ⟨a2,l2,c2,rfl⟩:∃a l c,u2=.slice a l c:=by
  rcases hj.row.2 with ⟨rfl,_⟩|⟨_,_,_,rfl,_⟩<;>exact ⟨_,_,_,rfl⟩
 clear hj HJ HB
 go_wp2
 go_ret
 exact ⟨_,us,rfl,ab HG,ab dF⟩
end Go.Proofs.YtghioefalckgoaaGreatDoor
namespace Go.Proofs
open Go.Shelf
def Tryz.nc:Go.Shelf.Ren:=⟨fun|156=>223|165=>153|166=>100|169=>104|240=>150|241=>221|276=>217|277=>270|n=>n,fun|31=>22|9=>9|3=>3|4=>4|0=>0|20=>20|72=>139|76=>142|70=>136|37=>137|75=>141|127=>165|164=>231|5=>5|80=>99|n=>n,fun|n=>n⟩
theorem Tryz.Fg:Go.Proofs.Lays.n156 Tryz.prog Tryz.nc:={
 mixed:=by kernel_rfl
 f156:=Tryz.func223.trans (congrArg some (by kernel_rfl))
 f165:=Tryz.func153.trans (congrArg some (by kernel_rfl))
 f166:=Tryz.func100.trans (congrArg some (by kernel_rfl))
 f169:=Tryz.func104.trans (congrArg some (by kernel_rfl))
 f240:=Tryz.func150.trans (congrArg some (by kernel_rfl))
 f241:=Tryz.func221.trans (congrArg some (by kernel_rfl))
 f276:=Tryz.func217.trans (congrArg some (by kernel_rfl))
 f277:=Tryz.func270.trans (congrArg some (by kernel_rfl))
 t0:=Tryz.underlying0
 a0:=Tryz.isAgg0
 z0:=Tryz.sizeOf0
 v0:=Tryz.zeroValue0
 t3:=Tryz.underlying3
 a3:=Tryz.isAgg3
 z3:=Tryz.sizeOf3
 v3:=Tryz.zeroValue3
 t4:=Tryz.underlying4
 a4:=Tryz.isAgg4
 z4:=Tryz.sizeOf4
 v4:=Tryz.zeroValue4
 t9:=Tryz.underlying9
 a9:=Tryz.isAgg9
 z9:=Tryz.sizeOf9
 v9:=Tryz.zeroValue9
 t20:=Tryz.underlying20
 a20:=Tryz.isAgg20
 z20:=Tryz.sizeOf20
 v20:=Tryz.zeroValue20
 t31:=Tryz.underlying22
 a31:=Tryz.isAgg22
 z31:=Tryz.sizeOf22
 v31:=Tryz.zeroValue22
 t37:=Tryz.underlying137
 a37:=Tryz.isAgg137
 z37:=Tryz.sizeOf137
 v37:=Tryz.zeroValue137
 t70:=Tryz.underlying136
 a70:=Tryz.isAgg136
 z70:=Tryz.sizeOf136
 v70:=Tryz.zeroValue136
 t72:=Tryz.underlying139
 a72:=Tryz.isAgg139
 z72:=Tryz.sizeOf139
 v72:=Tryz.zeroValue139
 t75:=Tryz.underlying141
 a75:=Tryz.isAgg141
 z75:=Tryz.sizeOf141
 v75:=Tryz.zeroValue141
 t76:=Tryz.underlying142
 a76:=Tryz.isAgg142
 z76:=Tryz.sizeOf142
 v76:=Tryz.zeroValue142
 t127:=Tryz.underlying165
 a127:=Tryz.isAgg165
 z127:=Tryz.sizeOf165
 v127:=Tryz.zeroValue165
 t164:=Tryz.underlying231
 a164:=Tryz.isAgg231
 z164:=Tryz.sizeOf231
 v164:=Tryz.zeroValue231 }
end Go.Proofs
namespace Go.Proofs.YtghioefalckgoaaGreatDoor
open Go.RowKit Go.Lib
attribute [local go_sem ↓] Go.wp_at_zero Go.wp_at_succ
theorem xw {W:World} (h:jS W) (s:ByteArray) (hs:s.size≤1048576) :
  Calls Tryz.prog 61 #[.string s] W fun e w=>e=.returned (.string (zS (34::nF s 0++[34])))∧Below W.heap.size W w:=by
 obtain ⟨i0,hi,fX,gp,fJ⟩:=info_parts Tryz.infoByte
 have QR:Bytes W.heap.size (W.alloc (.cells #[.int .u8 34] 5)) (.slice (some ⟨W.heap.size,0,none⟩) 1 1) ([34]++[]):=Gg W 34
 have WJ:=ak QR
 have wH:Hid (Below W.heap.size W (W.alloc (.cells #[.int .u8 34] 5))):=(zE _ _).alloc (zD _) _
 clear QR
 go_enter Tryz.func61,Tryz.ntmps61
 go_wp2
 go_loopg [3,4,5] s.size (fun gk v3 v4 _ wr=>∃(k:Nat) (pre:List Nat) (va:Option Addr) (vn vc:Nat),v3=.slice va vn vc∧v4=.int .i64 (k:Int)∧gk=s.size-k∧k≤s.size∧pre.length≤4*k∧Hid (Bytes W.heap.size wr (.slice va vn vc) ([34]++pre))∧Hid (pz pre)∧Hid (nF s 0=pre++nF s k)∧Hid (Below W.heap.size W wr))
 case atStart=>exact ⟨0,[],_,_,_,rfl,rfl,rfl,by omega,by simp,WJ,fun x hx=>by simp at hx,rfl,wH⟩
 case round =>
  obtain ⟨k,pre,va,vn,vc,rfl,rfl,bd,hk,hpl,HY,WY,Hq,HB⟩:=hrel
  have bH:=ak bd
  clear bd WJ wH
  by_cases aU:k<s.size
  ·have hz:=extract_size s k s.size (zD _)
   have gM:=xx aU
   have hql:=@IP s k
   have Vb:=Qm s k
   have Tk:=OI aU
   have hqp:=Cq s k
   have Tt:=AM aU
   have hpn:pre.length+(qs s k).length≤4*(k+qn s k):=by omega
   have jL:Hid (nF s 0=(pre++qs s k)++nF s (k+qn s k)):=by
    show nF s 0=(pre++qs s k)++nF s (k+qn s k)
    rw[ab Hq,gM,List.append_assoc]
   have Ez:Hid (pz (pre++qs s k)):=(ab WY).append Vb
   have Ys:=ak hpn
   have Hqn:=ak Tk
   have Hqp:=ak hqp
   clear gM hql Vb hpn Tk hqp Hq
   go_wp2_with fail
   refine (E4 (h.up (ab HB)) (s.extract k s.size) (by omega) (by omega)).mono ?_
   rintro e w2 ⟨rfl,b9⟩
   rw[Tt]
   have dF:Hid (Below W.heap.size W w2):=(ab HB).trans (b9.mono (ab HB).size)
   have SL:Hid (Bytes W.heap.size w2 (.slice va vn vc) ([34]++pre)):=(ab HY).up b9
   have oV:W.heap.size≤w2.heap.size:=(ab dF).size
   have x7:=ak Tt
   clear Tt hz HY HB b9
   by_cases h0:eH s k=0
   ·obtain ⟨x,hx⟩:∃x:Nat,s[k].toNat=x:=⟨_,rfl⟩
    have iH:aF s k=x:=(fE s k aU).trans hx
    have dr:x<256:=by rw[←iH];exact fD s k
    have QX:qs s k=wX x:=by unfold qs;rw[if_pos h0,iH]
    have JE:qn s k=1:=by unfold qn;rw[if_pos h0]
    rw[h0]
    rw[QX,JE] at jL Ys
    rw[QX] at Ez
    have k0:(0:Int)≤(k:Int):=zH _
    have k1:(k:Int)<(s.size:Int):=by omega
    clear iH QX JE h0 Hqn Hqp
    go_wp2_with fail
    refine (wN (ab SL) oV (by simp;omega) x dr).mono ?_
    rintro e w3 ⟨v',rfl,jD,vy⟩
    obtain ⟨Un,XC,Um,rfl⟩:=jD.shape
    have lG:Hid (Below W.heap.size W w3):=(ab dF).trans (vy.below oV (ab SL).tD)
    have W3:Hid (Bytes W.heap.size w3 (.slice Un XC Um) ([34]++(pre++wX x))):=by rw[←List.append_assoc];exact jD
    clear jD vy
    go_wp2
    go_roundg (s.size-(k+1))
    case measure=>have:=ab bH;omega
    case rel=>exact ⟨k+1,pre++wX x,_,_,_,rfl,by go_num,rfl,by omega,by have:=ab Ys;simp only[zK];omega,W3,Ez,jL,lG⟩
   ·obtain ⟨n,hn⟩:∃n,n=eH s k:=⟨_,rfl⟩
    have QX:qs s k=sub s k n:=by unfold qs;rw[if_neg h0,hn]
    have JE:qn s k=n:=by unfold qn;rw[if_neg h0,hn]
    have hle:=xy aU
    rw[QX,JE] at jL Ys
    rw[QX] at Ez
    rw[←hn] at hle h0 ⊢
    obtain ⟨Vo,abp⟩:=hle
    have e0:((n:Int)==0)=false:=by simp;omega
    have U7:=Am s k n
    have gD:=Mr Vo
    have Lt:=extract_size s k (k+n) Vo
    have o1:([34]++pre).length+(s.extract k (k+n)).size≤maxLen:=by rw[Lt];unfold maxLen;simp;omega
    have o2:([34]++pre).length+(s.extract k (k+n)).size≤140737488355328:=by rw[Lt];simp;omega
    have k0:(0:Int)≤(k:Int):=zH _
    have aaS:=ak U7
    have Hsl:=ak gD
    have O1:=ak o1
    have O2:=ak o2
    clear QX JE Hqn Hqp hn U7 gD o1 o2
    go_wp2_with (at_builtin;refine cW rfl _ _ 137 9 rfl W.heap.size 5 i0 Tryz.underlying137 Tryz.underlying9 hi fX gp fJ _ _ _ rfl (ab SL) (s.extract k (k+n)) rfl (ab O1) (ab O2) oV ?_;intro v4 w4 dI cB gT;have gW:=ak dI;have kd:=ak cB;have EA:=ak gT;clear dI cB gT)
    obtain ⟨v5,OW,jD,vy⟩:=oJ (ys:=sub s k n) (ab gW) (by have:=ab Hsl;omega) ((jU _).trans (by rw[ab aaS])) (ab kd) (ab EA)
    obtain rfl:v4=v5:=by simpa using OW
    obtain ⟨Un,XC,Um,rfl⟩:=jD.shape
    have lG:Hid (Below W.heap.size W w4):=(ab dF).trans (vy.below oV (ab SL).tD)
    have W3:Hid (Bytes W.heap.size w4 (.slice Un XC Um) ([34]++(pre++sub s k n))):=by rw[←List.append_assoc];exact jD
    clear jD vy gW kd EA OW
    go_roundg (s.size-(k+n))
    case measure=>have:=ab bH;omega
    case rel=>exact ⟨k+n,pre++sub s k n,_,_,_,rfl,by go_num,rfl,by omega,by have:=ab Ys;simp only[zK];omega,W3,Ez,jL,lG⟩
  ·have hq:=ab Hq
   rw[uN aU,List.append_nil] at hq
   have LL:=ak hq
   obtain rfl:k=s.size:=by omega
   have oV:W.heap.size≤wr.heap.size:=(ab HB).size
   have o1:([34]++pre).length+1≤maxLen:=by unfold maxLen;simp;omega
   have o2:(([34]++pre).length+1)*1≤140737488355328:=by simp;omega
   have O1:=ak o1
   have O2:=ak o2
   have p8:∀(w:World) (v:Value) (l:List Nat),zx w v l→pz l→(convert 137 9 v).run Tryz.prog w=.ok (.string (zS l)) w:=fun w v l q1 q2=>Kx q1 q2
   have Hcv:=ak p8
   clear hq Hq o1 o2 p8
   go_wp2_with (at_builtin;refine wpList_append_own_at _ rfl _ _ 137 rfl W.heap.size 5 i0 (.int .u8 0) 1 1 Tryz.underlying137 hi fX gp fJ rfl (by decide) _ _ _ rfl ((ab HY).alloc _) ⟨wr.heap.size,0,none⟩ 1 1 [.int .u8 34] rfl rfl (kU _ _ _) (by simp[Value.oneCell']) (ab O1) (ab O2) (by rw[zJ];omega) ?_;intro v4 w4 dI cB _ gT;obtain ⟨v5,OW,jD,vy⟩:=lY (ys:=[34]) dI rfl rfl cB gT;obtain rfl:v4=v5:=(by simpa using OW);have SS:Hid (Below W.heap.size W w4):=(ab HB).trans (vy.below oV (ab HY).tD);have abv:=ab Hcv w4 v4 _ jD.has ((KG.append (ab WY)).append KG);clear dI cB gT jD vy OW Hcv)
   go_ret
   refine ⟨?_,ab SS⟩
   rw[ab LL]
   rfl
end Go.Proofs.YtghioefalckgoaaGreatDoor
