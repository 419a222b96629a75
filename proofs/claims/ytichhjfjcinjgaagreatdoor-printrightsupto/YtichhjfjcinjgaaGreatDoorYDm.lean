import Derived.Test.YtichhjfjcinjgaaGreatDoorYDl
import Derived.Test.YtichhjfjcinjgaaGreatDoorSX
set_option maxHeartbeats 8000000
set_option maxRecDepth 100000
namespace Go.Proofs.YtichhjfjcinjgaaGreatDoor
open Go.RowKit
attribute [local go_sem ↓] Go.wp_at_zero Go.wp_at_succ
theorem tU (sep t:List UInt8):∀(l:List (List UInt8)),l≠[]→sep.intercalate (l++[t])=sep.intercalate l++(sep++t)
 |[],h=>absurd rfl h
 |[a],_=>by simp[List.intercalate]
 |a::b::r,_=>by
  have ih:=tU sep t (b::r) (by simp)
  rw[List.cons_append,List.cons_append,List.intercalate_cons_cons,List.intercalate_cons_cons,←List.cons_append,ih]
  simp
theorem wB (l:List ByteArray) (t:ByteArray) (h:l≠[]):bP (l++[t])=bP l++Eh++t:=by
 apply ByteArray.ext
 apply Array.toList_inj.1
 unfold bP Lib.join
 rw[List.map_append,List.map_cons,List.map_nil]
 simp only[ByteArray.data_append,Array.toList_append]
 rw[tU _ _ _ (by simpa using h),List.append_assoc]
 rfl
theorem join_one (t:ByteArray):bP [t]=t:=by
 apply ByteArray.ext
 apply Array.toList_inj.1
 simp[bP,Lib.join]
theorem CF (a:ByteArray):a++(⟨#[]⟩:ByteArray)=a:=by
 apply ByteArray.ext
 simp
theorem AI (a b c:ByteArray):a++b++c=a++(b++c):=by
 apply ByteArray.ext
 simp
theorem sk:cD++bP []=cD:=CF _
theorem tE {ts:List ByteArray}{i:Nat}{t:ByteArray} (h:ts[i]?=some t):cD++bP (ts.take (i+1))=if i=0 then (cD++bP (ts.take i))++t else (cD++bP (ts.take i))++⟨#[44,32]⟩++t:=by
 rw[bL h]
 split
 ·rename_i h0
  subst h0
  rw[List.take_zero,List.nil_append,join_one,sk]
 ·rename_i h0
  have hi:=(zB h).1
  rw[wB _ _ (fun e=>by have:=congrArg List.length e;rw[List.length_take,List.length_nil] at this;omega)]
  show _=cD++bP (ts.take i)++Eh++t
  simp only[AI]
theorem lb (ts:List ByteArray):∀(i:Nat),(bP (ts.take i)).size≤(bP ts).size:=by
 have step:∀i,(bP (ts.take i)).size≤(bP (ts.take (i+1))).size:=by
  intro i
  by_cases hi:i<ts.length
  ·rw[bL (List.getElem?_eq_getElem hi)]
   by_cases h0:ts.take i=[]
   ·rw[h0];exact Nat.zero_le _
   ·rw[wB _ _ h0,ByteArray.size_append,ByteArray.size_append];omega
  ·rw[List.take_of_length_le (by omega),List.take_of_length_le (by omega)];exact zD _
 have all:∀k i,(bP (ts.take i)).size≤(bP (ts.take (i+k))).size:=by
  intro k
  induction k with
  |zero=>intro i;exact zD _
  |succ k ih=>intro i;exact Nat.le_trans (ih i) (step (i+k))
 intro i
 have h:=all ts.length i
 rwa [List.take_of_length_le (l:=ts) (i:=i+ts.length) (by omega)] at h
theorem xt (n:Nat) (ts:List ByteArray) (h:0<ts.length):aV n [cD++bP ts++bC]=eC n ts:=by
 unfold eC
 rw[if_pos h]
 unfold aV
 simp[ku]
theorem tH {s:ByteArray} (h:s.size≤1048576):(bA s).size≤4194306:=by
 unfold bA
 rw[jN]
 have:=zt s _ 0 (zD _)
 simp only[zK,List.length_cons,List.length_nil]
 omega
theorem Kd {most a b:Int} (ha:-2147483648≤a∧a≤2147483647) (hb:-2147483648≤b∧b≤2147483647):(eK most (a,b)).size≤100:=by
 have za:=cS (n:=a) (by omega) (by omega)
 have zb:=cS (n:=b) (by omega) (by omega)
 have e1:mU.size=4:=rfl
 have e2:tC.size=7:=rfl
 unfold eK
 split
 ·simp only;omega
 ·split
  ·rw[ByteArray.size_append];simp only;omega
  ·rw[ByteArray.size_append,ByteArray.size_append];simp only;omega
theorem Aw {W w:World}{pg:Nat}{L:List Nat}{v:Value} (h:Pg W pg L v w) (hF:iG W) (n:Nat) (hn:n≤500) {vr vg:Value}{rs:List (Int×Int)}{gs:List ByteArray}{most:Int} (hr:Rl W vr rs.length (kQ rs)) (hg:Rl W vg gs.length (bZ gs)) (oD:∀r ∈ rs,(-2147483648≤r.1∧r.1≤2147483647)∧(-2147483648≤r.2∧r.2≤2147483647)) (ei:∀s ∈ gs,s.size≤1048576) (hl:L.length+(fa n most rs gs).length≤1099511627776) :
  Calls Tryz.prog 57 #[.pointer (some ⟨pg,0,none⟩),.int .i64 (n:Int),vr,vg,.int .i64 most] w (Lv W pg (L++fa n most rs gs) w):=by
 obtain ⟨ar,cr,rfl,Tq,lr⟩:=hr
 obtain ⟨ag,cg,rfl,Tr,lg⟩:=hg
 have X4:=al lr
 have SX:=al lg
 have HF:=al hF
 have TU:=al oD
 have TX:=al ei
 have qA:L.length+(eC n (rs.map (eK most))).length+(eC n (gs.map bA)).length≤1099511627776:=by unfold fa at hl;rw[zK] at hl;omega
 have LD:Hid (0<rs.length→L.length+2*n+(bP (rs.map (eK most))).size+11≤1099511627776):=fun h0=>by
  have e:=eR n [cD,bP (rs.map (eK most)),bC]
  unfold eC at qA
  rw[if_pos (by rw[List.length_map];exact h0),e] at qA
  simp only[List.map_cons,List.map_nil,List.sum_cons,List.sum_nil] at qA
  have:cD.size=9:=rfl
  have:bC.size=1:=rfl
  omega
 have AS:Hid (0<gs.length→L.length+(eC n (rs.map (eK most))).length+2*n+(bP (gs.map bA)).size+11≤1099511627776):=fun h0=>by
  have e:=eR n [cD,bP (gs.map bA),bC]
  have e2:(eC n (gs.map bA)).length=2*n+(cD.size+(bP (gs.map bA)).size+bC.size)+1:=by
   unfold eC
   rw[if_pos (by rw[List.length_map];exact h0),e]
   simp only[List.map_cons,List.map_nil,List.sum_cons,List.sum_nil]
   omega
  have:cD.size=9:=rfl
  have:bC.size=1:=rfl
  omega
 have HZg:=AS
 have Jk:Hid (∃v,Pg W pg L v w):=⟨v,h⟩
 have CJ:=al h.bW
 have kd:Hid (Kp pg w w):=Kp.refl _ _
 unfold fa
 clear lr lg hF oD ei qA hl h AS HF
 by_cases r0:rs.length=0
 ·have re:eC n (rs.map (eK most))=[]:=by unfold eC;rw[if_neg (by rw[List.length_map];omega)]
  have e0:decide (0<rs.length)=false:=decide_eq_false (by omega)
  have Hre:=al re
  clear r0 re
  go_enter Tryz.func57,Tryz.ntmps57
  by_cases g0:gs.length=0
  ·have e1:decide (0<gs.length)=false:=decide_eq_false (by omega)
   have DX:Hid (L++(eC n (rs.map (eK most))++eC n (gs.map bA))=L):=by show _=_;rw[show eC n (gs.map bA)=[] by unfold eC;rw[if_neg (by rw[List.length_map];omega)]];simp[ab Hre]
   clear g0
   go_wp2
   go_end0
   exact ⟨rfl,by rw[ab DX];exact ab Jk,ab kd⟩
  ·have e1:decide (0<gs.length)=true:=decide_eq_true (by omega)
   have p1:0<gs.length:=by omega
   have AS:Hid (L.length+2*n+(bP (gs.map bA)).size+11≤1099511627776):=by have h:=ab HZg (by omega);show _≤_;omega
   have SI:=al g0
   clear g0
   go_wp2
   go_loopg [12,13] gs.length (fun gk v12 ML wr=>∃(i:Nat),v12=.string (cD++bP ((gs.map bA).take i))∧ML=.int .i64 (i:Int)∧gk=gs.length-i∧i≤gs.length∧Hid (Below w.heap.size w wr))
   case atStart=>exact ⟨0,by rw[List.take_zero,sk];rfl,rfl,rfl,by omega,zE _ _⟩
   case round =>
    obtain ⟨i,rfl,rfl,aU,eS,nv⟩:=hrel
    have bz:=al aU
    clear aU
    have FO:(cD++bP ((gs.map bA).take i)).size≤1099511627776:=by have h1:=lb (gs.map bA) i;have h2:=ab AS;rw[ByteArray.size_append];have:cD.size=9:=rfl;omega
    by_cases aM:i<gs.length
    ·have aS:Below W.heap.size W wr:=(ab CJ).trans ((ab nv).mono (ab CJ).size)
     obtain ⟨g,o,rfl,hg,hc⟩:=ab SX (by omega)
     have hl:=List.getElem?_eq_getElem aM
     obtain ⟨s,hs⟩:∃d,gs[i]=d:=⟨_,rfl⟩
     rw[hs] at hl
     have x0:=(aS.cell (p:=⟨g,o+i,none⟩) hg).trans (hc _ _ (dS hl))
     clear hc hs
     have ht:(gs.map bA)[i]?=some (bA s):=by rw[List.getElem?_map,hl];rfl
     obtain ⟨A,hA⟩:∃A,cD++bP ((gs.map bA).take i)=A:=⟨_,rfl⟩
     have fl:=tE ht
     rw[hA] at FO fl ⊢
     obtain ⟨B,hB⟩:∃B,bA s=B:=⟨_,rfl⟩
     rw[hB] at fl
     have HC:=al (nw wr s (ab TX s (List.mem_of_getElem? hl)))
     change Hid (Calls _ _ _ _ fun e w=>e=.returned (.string (bA s))∧_) at HC
     rw[hB] at HC
     have Yo:B.size≤1099511627776:=by rw[←hB];exact Nat.le_trans (tH (ab TX s (List.mem_of_getElem? hl))) (by omega)
     have i0:(0:Int)≤(i:Int):=zH _
     have i1:(i:Int)<(gs.length:Int):=by omega
     have bu:=al aM
     have ks:=al fl
     clear hl aS aM ht hA hB fl
     by_cases z0:i=0
     ·have e0:decide ((0:Int)<(i:Int))=false:=decide_eq_false (by omega)
      have Sk:decide (0<i)=false:=decide_eq_false (by omega)
      have mr:Hid (cD++bP ((gs.map bA).take (i+1))=A++B):=by have h:=ab ks;rw[if_pos z0] at h;exact h
      clear ks
      have ks:=mr
      clear mr z0
      go_wp2_with fail
      refine (ab HC).mono ?_
      rintro e w2 ⟨rfl,bd⟩
      have kh:=al ((ab nv).trans (bd.mono (ab nv).size))
      clear bd HC nv
      go_wp2
      go_roundg (gs.length-(i+1))
      case measure=>have:=ab bz;have:=ab bu;omega
      case rel=>exact ⟨i+1,by rw[ab ks],by go_num,rfl,ab bu,kh⟩
     ·have e0:decide ((0:Int)<(i:Int))=true:=decide_eq_true (by omega)
      have Sk:decide (0<i)=true:=decide_eq_true (by omega)
      have ip:0<i:=by omega
      have Yn:(A++⟨#[44,32]⟩).size≤1099511627800:=by rw[ByteArray.size_append];have:(⟨#[44,32]⟩:ByteArray).size=2:=rfl;omega
      have mr:Hid (cD++bP ((gs.map bA).take (i+1))=A++⟨#[44,32]⟩++B):=by have h:=ab ks;rw[if_neg z0] at h;exact h
      clear ks
      have ks:=mr
      clear mr z0
      go_wp2_with fail
      refine (ab HC).mono ?_
      rintro e w2 ⟨rfl,bd⟩
      have kh:=al ((ab nv).trans (bd.mono (ab nv).size))
      clear bd HC nv
      go_wp2
      go_roundg (gs.length-(i+1))
      case measure=>have:=ab bz;have:=ab bu;omega
      case rel=>exact ⟨i+1,by rw[ab ks],by go_num,rfl,ab bu,kh⟩
    ·obtain rfl:i=gs.length:=by omega
     rw[List.take_of_length_le (by rw[List.length_map];omega)]
     rw[List.take_of_length_le (by rw[List.length_map];omega)] at FO
     obtain ⟨u,hP⟩:=ab Jk
     have lK:=hP.below (ab nv)
     have SZ:Hid (Kp pg w wr):=(ab kd).trans (Kp.below (ab nv))
     have l9:=df lK n (cD++bP (gs.map bA)++bC) hn (by have:=ab AS;rw[ByteArray.size_append,ByteArray.size_append];have:cD.size=9:=rfl;have:bC.size=1:=rfl;omega)
     rw[xt n _ (by rw[List.length_map];have:=ab SI;omega)] at l9
     have HG:=al l9
     obtain ⟨A,hA⟩:∃A,cD++bP (gs.map bA)=A:=⟨_,rfl⟩
     rw[hA] at FO HG ⊢
     unfold bC at HG
     clear l9 hP lK nv hA
     go_wp2_with fail
     refine (ab HG).mono ?_
     rintro e w1 ⟨rfl,Dy,sx⟩
     have vd:=al Dy
     have iH:=al ((ab SZ).trans sx)
     have yo:Hid (Below W.heap.size W w1):=by obtain ⟨_,h⟩:=Dy;exact h.bW
     clear Dy sx HG
     have DX:Hid (L++(eC n (rs.map (eK most))++eC n (gs.map bA))=L++eC n (gs.map bA)):=by show _=_;simp[ab Hre]
     go_wp2
     go_end0
     exact ⟨rfl,by rw[ab DX];exact ab vd,ab iH⟩
 ·have e0:decide (0<rs.length)=true:=decide_eq_true (by omega)
  have p0:0<rs.length:=by omega
  have HZr:=LD
  have LD:Hid (L.length+2*n+(bP (rs.map (eK most))).size+11≤1099511627776):=ab HZr (by omega)
  have SI:=al r0
  clear r0 HZr
  go_enter Tryz.func57,Tryz.ntmps57
  go_wp2
  go_loopg [10,11] rs.length (fun gk v10 v11 wr=>∃(i:Nat),v10=.string (cD++bP ((rs.map (eK most)).take i))∧v11=.int .i64 (i:Int)∧gk=rs.length-i∧i≤rs.length∧Hid (Below w.heap.size w wr))
  case atStart=>exact ⟨0,by rw[List.take_zero,sk];rfl,rfl,rfl,by omega,zE _ _⟩
  case round =>
   obtain ⟨i,rfl,rfl,aU,eS,nv⟩:=hrel
   have bz:=al aU
   clear aU
   have FO:(cD++bP ((rs.map (eK most)).take i)).size≤1099511627776:=by have h1:=lb (rs.map (eK most)) i;have h2:=ab LD;rw[ByteArray.size_append];have:cD.size=9:=rfl;omega
   by_cases aM:i<rs.length
   ·have aS:Below W.heap.size W wr:=(ab CJ).trans ((ab nv).mono (ab CJ).size)
    obtain ⟨g,o,rfl,hg,hc⟩:=ab X4 (by omega)
    have hl:=List.getElem?_eq_getElem aM
    obtain ⟨⟨p,q⟩,hs⟩:∃d,rs[i]=d:=⟨_,rfl⟩
    rw[hs] at hl
    have x0:=(aS.cell (p:=⟨g,o+(i*2+0),none⟩) hg).trans (hc _ _ (gB hl (j:=0) (by decide)))
    have x1:=(aS.cell (p:=⟨g,o+(i*2+1),none⟩) hg).trans (hc _ _ (gB hl (j:=1) (by decide)))
    rw[Nat.add_zero] at x0
    rw[←Nat.add_assoc] at x1
    clear hc hs
    have ht:(rs.map (eK most))[i]?=some (eK most (p,q)):=by rw[List.getElem?_map,hl];rfl
    obtain ⟨A,hA⟩:∃A,cD++bP ((rs.map (eK most)).take i)=A:=⟨_,rfl⟩
    have fl:=tE ht
    rw[hA] at FO fl ⊢
    obtain ⟨B,hB⟩:∃B,eK most (p,q)=B:=⟨_,rfl⟩
    rw[hB] at fl
    have HC:=al (Gn wr (most:=most) (ab TU (p,q) (List.mem_of_getElem? hl)).1 (ab TU (p,q) (List.mem_of_getElem? hl)).2)
    change Hid (Calls _ _ _ _ fun e w=>e=.returned (.string (eK most (p,q)))∧_) at HC
    rw[hB] at HC
    have Yo:B.size≤1099511627776:=by rw[←hB];exact Nat.le_trans (Kd (ab TU (p,q) (List.mem_of_getElem? hl)).1 (ab TU (p,q) (List.mem_of_getElem? hl)).2) (by omega)
    have i0:(0:Int)≤(i:Int):=zH _
    have i1:(i:Int)<(rs.length:Int):=by omega
    have bu:=al aM
    have ks:=al fl
    clear hl aS aM ht hA hB fl
    by_cases z0:i=0
    ·have e0:decide ((0:Int)<(i:Int))=false:=decide_eq_false (by omega)
     have Sk:decide (0<i)=false:=decide_eq_false (by omega)
     have mr:Hid (cD++bP ((rs.map (eK most)).take (i+1))=A++B):=by have h:=ab ks;rw[if_pos z0] at h;exact h
     clear ks
     have ks:=mr
     clear mr z0
     go_wp2_with fail
     refine (ab HC).mono ?_
     rintro e w2 ⟨rfl,bd⟩
     have kh:=al ((ab nv).trans (bd.mono (ab nv).size))
     clear bd HC nv
     go_wp2
     go_roundg (rs.length-(i+1))
     case measure=>have:=ab bz;have:=ab bu;omega
     case rel=>exact ⟨i+1,by rw[ab ks],by go_num,rfl,ab bu,kh⟩
    ·have e0:decide ((0:Int)<(i:Int))=true:=decide_eq_true (by omega)
     have Sk:decide (0<i)=true:=decide_eq_true (by omega)
     have ip:0<i:=by omega
     have Yn:(A++⟨#[44,32]⟩).size≤1099511627800:=by rw[ByteArray.size_append];have:(⟨#[44,32]⟩:ByteArray).size=2:=rfl;omega
     have mr:Hid (cD++bP ((rs.map (eK most)).take (i+1))=A++⟨#[44,32]⟩++B):=by have h:=ab ks;rw[if_neg z0] at h;exact h
     clear ks
     have ks:=mr
     clear mr z0
     go_wp2_with fail
     refine (ab HC).mono ?_
     rintro e w2 ⟨rfl,bd⟩
     have kh:=al ((ab nv).trans (bd.mono (ab nv).size))
     clear bd HC nv
     go_wp2
     go_roundg (rs.length-(i+1))
     case measure=>have:=ab bz;have:=ab bu;omega
     case rel=>exact ⟨i+1,by rw[ab ks],by go_num,rfl,ab bu,kh⟩
   ·obtain rfl:i=rs.length:=by omega
    rw[List.take_of_length_le (by rw[List.length_map];omega)]
    rw[List.take_of_length_le (by rw[List.length_map];omega)] at FO
    obtain ⟨u,hP⟩:=ab Jk
    have lK:=hP.below (ab nv)
    have SZ:Hid (Kp pg w wr):=(ab kd).trans (Kp.below (ab nv))
    have l9:=df lK n (cD++bP (rs.map (eK most))++bC) hn (by have:=ab LD;rw[ByteArray.size_append,ByteArray.size_append];have:cD.size=9:=rfl;have:bC.size=1:=rfl;omega)
    rw[xt n _ (by rw[List.length_map];have:=ab SI;omega)] at l9
    have HG:=al l9
    obtain ⟨A,hA⟩:∃A,cD++bP (rs.map (eK most))=A:=⟨_,rfl⟩
    rw[hA] at FO HG ⊢
    unfold bC at HG
    clear l9 hP lK nv hA
    go_wp2_with fail
    refine (ab HG).mono ?_
    rintro e w1 ⟨rfl,Dy,sx⟩
    have vd:=al Dy
    have iH:=al ((ab SZ).trans sx)
    have yo:Hid (Below W.heap.size W w1):=by obtain ⟨_,h⟩:=Dy;exact h.bW
    clear Dy sx HG
    by_cases g0:gs.length=0
    ·have e1:decide (0<gs.length)=false:=decide_eq_false (by omega)
     have DX:Hid (L++(eC n (rs.map (eK most))++eC n (gs.map bA))=(L++eC n (rs.map (eK most)))):=by show _=_;rw[show eC n (gs.map bA)=[] by unfold eC;rw[if_neg (by rw[List.length_map];omega)]];simp
     clear g0
     go_wp2
     go_end0
     exact ⟨rfl,by rw[ab DX];exact ab vd,ab iH⟩
    ·have e1:decide (0<gs.length)=true:=decide_eq_true (by omega)
     have p1:0<gs.length:=by omega
     have AS:Hid ((L++eC n (rs.map (eK most))).length+2*n+(bP (gs.map bA)).size+11≤1099511627776):=by have h:=ab HZg (by omega);show _≤_;rw[zK];omega
     have SI:=al g0
     clear g0
     go_wp2
     go_loopg [12,13] gs.length (fun gk v12 ML wr=>∃(i:Nat),v12=.string (cD++bP ((gs.map bA).take i))∧ML=.int .i64 (i:Int)∧gk=gs.length-i∧i≤gs.length∧Hid (Below w1.heap.size w1 wr))
     case atStart=>exact ⟨0,by rw[List.take_zero,sk];rfl,rfl,rfl,by omega,zE _ _⟩
     case round =>
      obtain ⟨i,rfl,rfl,aU,eS,nv⟩:=hrel
      have bz:=al aU
      clear aU
      have FO:(cD++bP ((gs.map bA).take i)).size≤1099511627776:=by have h1:=lb (gs.map bA) i;have h2:=ab AS;rw[ByteArray.size_append];have:cD.size=9:=rfl;omega
      by_cases aM:i<gs.length
      ·have aS:Below W.heap.size W wr:=(ab yo).trans ((ab nv).mono (ab yo).size)
       obtain ⟨g,o,rfl,hg,hc⟩:=ab SX (by omega)
       have hl:=List.getElem?_eq_getElem aM
       obtain ⟨s,hs⟩:∃d,gs[i]=d:=⟨_,rfl⟩
       rw[hs] at hl
       have x0:=(aS.cell (p:=⟨g,o+i,none⟩) hg).trans (hc _ _ (dS hl))
       clear hc hs
       have ht:(gs.map bA)[i]?=some (bA s):=by rw[List.getElem?_map,hl];rfl
       obtain ⟨A,hA⟩:∃A,cD++bP ((gs.map bA).take i)=A:=⟨_,rfl⟩
       have fl:=tE ht
       rw[hA] at FO fl ⊢
       obtain ⟨B,hB⟩:∃B,bA s=B:=⟨_,rfl⟩
       rw[hB] at fl
       have HC:=al (nw wr s (ab TX s (List.mem_of_getElem? hl)))
       change Hid (Calls _ _ _ _ fun e w=>e=.returned (.string (bA s))∧_) at HC
       rw[hB] at HC
       have Yo:B.size≤1099511627776:=by rw[←hB];exact Nat.le_trans (tH (ab TX s (List.mem_of_getElem? hl))) (by omega)
       have i0:(0:Int)≤(i:Int):=zH _
       have i1:(i:Int)<(gs.length:Int):=by omega
       have bu:=al aM
       have ks:=al fl
       clear hl aS aM ht hA hB fl
       by_cases z0:i=0
       ·have e0:decide ((0:Int)<(i:Int))=false:=decide_eq_false (by omega)
        have Sk:decide (0<i)=false:=decide_eq_false (by omega)
        have mr:Hid (cD++bP ((gs.map bA).take (i+1))=A++B):=by have h:=ab ks;rw[if_pos z0] at h;exact h
        clear ks
        have ks:=mr
        clear mr z0
        go_wp2_with fail
        refine (ab HC).mono ?_
        rintro e w2 ⟨rfl,bd⟩
        have kh:=al ((ab nv).trans (bd.mono (ab nv).size))
        clear bd HC nv
        go_wp2
        go_roundg (gs.length-(i+1))
        case measure=>have:=ab bz;have:=ab bu;omega
        case rel=>exact ⟨i+1,by rw[ab ks],by go_num,rfl,ab bu,kh⟩
       ·have e0:decide ((0:Int)<(i:Int))=true:=decide_eq_true (by omega)
        have Sk:decide (0<i)=true:=decide_eq_true (by omega)
        have ip:0<i:=by omega
        have Yn:(A++⟨#[44,32]⟩).size≤1099511627800:=by rw[ByteArray.size_append];have:(⟨#[44,32]⟩:ByteArray).size=2:=rfl;omega
        have mr:Hid (cD++bP ((gs.map bA).take (i+1))=A++⟨#[44,32]⟩++B):=by have h:=ab ks;rw[if_neg z0] at h;exact h
        clear ks
        have ks:=mr
        clear mr z0
        go_wp2_with fail
        refine (ab HC).mono ?_
        rintro e w2 ⟨rfl,bd⟩
        have kh:=al ((ab nv).trans (bd.mono (ab nv).size))
        clear bd HC nv
        go_wp2
        go_roundg (gs.length-(i+1))
        case measure=>have:=ab bz;have:=ab bu;omega
        case rel=>exact ⟨i+1,by rw[ab ks],by go_num,rfl,ab bu,kh⟩
      ·obtain rfl:i=gs.length:=by omega
       rw[List.take_of_length_le (by rw[List.length_map];omega)]
       rw[List.take_of_length_le (by rw[List.length_map];omega)] at FO
       obtain ⟨u,hP⟩:=ab vd
       have lK:=hP.below (ab nv)
       have SZ:Hid (Kp pg w wr):=(ab iH).trans (Kp.below (ab nv))
       have l9:=df lK n (cD++bP (gs.map bA)++bC) hn (by have:=ab AS;rw[ByteArray.size_append,ByteArray.size_append];have:cD.size=9:=rfl;have:bC.size=1:=rfl;omega)
       rw[xt n _ (by rw[List.length_map];have:=ab SI;omega)] at l9
       have HG:=al l9
       obtain ⟨A,hA⟩:∃A,cD++bP (gs.map bA)=A:=⟨_,rfl⟩
       rw[hA] at FO HG ⊢
       unfold bC at HG
       clear l9 hP lK nv hA
       go_wp2_with fail
       refine (ab HG).mono ?_
       rintro e w2 ⟨rfl,Dy,sx⟩
       have fC:=al Dy
       have fD:=al ((ab SZ).trans sx)
       have HW2:Hid (Below W.heap.size W w2):=by obtain ⟨_,h⟩:=Dy;exact h.bW
       clear Dy sx HG
       have DX:Hid (L++(eC n (rs.map (eK most))++eC n (gs.map bA))=(L++eC n (rs.map (eK most)))++eC n (gs.map bA)):=by show _=_;simp
       go_wp2
       go_end0
       exact ⟨rfl,by rw[ab DX];exact ab fC,ab fD⟩
end Go.Proofs.YtichhjfjcinjgaaGreatDoor
