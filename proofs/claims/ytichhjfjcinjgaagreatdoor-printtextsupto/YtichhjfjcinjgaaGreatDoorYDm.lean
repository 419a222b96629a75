import Derived.Test.YtichhjfjcinjgaaGreatDoorYDl
import Derived.Test.YtichhjfjcinjgaaGreatDoorSX
set_option maxHeartbeats 8000000
set_option maxRecDepth 100000
namespace Go.Proofs.YtichhjfjcinjgaaGreatDoor
open Go.RowKit
attribute [local go_sem ↓] Go.wp_at_zero Go.wp_at_succ
theorem tR (sep t:List UInt8):∀(l:List (List UInt8)),l≠[]→sep.intercalate (l++[t])=sep.intercalate l++(sep++t)
 |[],h=>absurd rfl h
 |[a],_=>by simp[List.intercalate]
 |a::b::r,_=>by
  have ih:=tR sep t (b::r) (by simp)
  rw[List.cons_append,List.cons_append,List.intercalate_cons_cons,List.intercalate_cons_cons,←List.cons_append,ih]
  simp
theorem wg (l:List ByteArray) (t:ByteArray) (h:l≠[]):bO (l++[t])=bO l++D8++t:=by
 apply ByteArray.ext
 apply Array.toList_inj.1
 unfold bO Lib.join
 rw[List.map_append,List.map_cons,List.map_nil]
 simp only[ByteArray.data_append,Array.toList_append]
 rw[tR _ _ _ (by simpa using h),List.append_assoc]
 rfl
theorem join_one (t:ByteArray):bO [t]=t:=by
 apply ByteArray.ext
 apply Array.toList_inj.1
 simp[bO,Lib.join]
theorem Cw (a:ByteArray):a++(⟨#[]⟩:ByteArray)=a:=by
 apply ByteArray.ext
 simp
theorem Az (a b c:ByteArray):a++b++c=a++(b++c):=by
 apply ByteArray.ext
 simp
theorem si:cB++bO []=cB:=Cw _
theorem tB {ts:List ByteArray}{i:Nat}{t:ByteArray} (h:ts[i]?=some t):cB++bO (ts.take (i+1))=if i=0 then (cB++bO (ts.take i))++t else (cB++bO (ts.take i))++⟨#[44,32]⟩++t:=by
 rw[bL h]
 split
 ·rename_i h0
  subst h0
  rw[List.take_zero,List.nil_append,join_one,si]
 ·rename_i h0
  have hi:=(zB h).1
  rw[wg _ _ (fun e=>by have:=congrArg List.length e;rw[List.length_take,List.length_nil] at this;omega)]
  show _=cB++bO (ts.take i)++D8++t
  simp only[Az]
theorem k9 (ts:List ByteArray):∀(i:Nat),(bO (ts.take i)).size≤(bO ts).size:=by
 have step:∀i,(bO (ts.take i)).size≤(bO (ts.take (i+1))).size:=by
  intro i
  by_cases hi:i<ts.length
  ·rw[bL (List.getElem?_eq_getElem hi)]
   by_cases h0:ts.take i=[]
   ·rw[h0];exact Nat.zero_le _
   ·rw[wg _ _ h0,ByteArray.size_append,ByteArray.size_append];omega
  ·rw[List.take_of_length_le (by omega),List.take_of_length_le (by omega)];exact zD _
 have all:∀k i,(bO (ts.take i)).size≤(bO (ts.take (i+k))).size:=by
  intro k
  induction k with
  |zero=>intro i;exact zD _
  |succ k ih=>intro i;exact Nat.le_trans (ih i) (step (i+k))
 intro i
 have h:=all ts.length i
 rwa [List.take_of_length_le (l:=ts) (i:=i+ts.length) (by omega)] at h
theorem xq (n:Nat) (ts:List ByteArray) (h:0<ts.length):aV n [cB++bO ts++bC]=ez n ts:=by
 unfold ez
 rw[if_pos h]
 unfold aV
 simp[ks]
theorem tE {s:ByteArray} (h:s.size≤1048576):(bA s).size≤4194306:=by
 unfold bA
 rw[jJ]
 have:=ze s _ 0 (zD _)
 simp only[zK,List.length_cons,List.length_nil]
 omega
theorem J5 {most a b:Int} (ha:-2147483648≤a∧a≤2147483647) (hb:-2147483648≤b∧b≤2147483647):(eG most (a,b)).size≤100:=by
 have za:=cQ (n:=a) (by omega) (by omega)
 have zb:=cQ (n:=b) (by omega) (by omega)
 have e1:mS.size=4:=rfl
 have e2:tz.size=7:=rfl
 unfold eG
 split
 ·simp only;omega
 ·split
  ·rw[ByteArray.size_append];simp only;omega
  ·rw[ByteArray.size_append,ByteArray.size_append];simp only;omega
theorem Ao {W w:World}{pg:Nat}{L:List Nat}{v:Value} (h:Pg W pg L v w) (hF:jw W) (n:Nat) (hn:n≤500) {vr vg:Value}{rs:List (Int×Int)}{gs:List ByteArray}{most:Int} (hr:Rl W vr rs.length (kO rs)) (hg:Rl W vg gs.length (bY gs)) (oA:∀r ∈ rs,(-2147483648≤r.1∧r.1≤2147483647)∧(-2147483648≤r.2∧r.2≤2147483647)) (ed:∀s ∈ gs,s.size≤1048576) (hl:L.length+(eW n most rs gs).length≤1099511627776) :
  Calls Tryz.prog 57 #[.pointer (some ⟨pg,0,none⟩),.int .i64 (n:Int),vr,vg,.int .i64 most] w (Lm W pg (L++eW n most rs gs) w):=by
 obtain ⟨ar,cr,rfl,Tg,lr⟩:=hr
 obtain ⟨ag,cg,rfl,Ti,lg⟩:=hg
 have XW:=al lr
 have SL:=al lg
 have HF:=al hF
 have TO:=al oA
 have TR:=al ed
 have qw:L.length+(ez n (rs.map (eG most))).length+(ez n (gs.map bA)).length≤1099511627776:=by unfold eW at hl;rw[zK] at hl;omega
 have Ls:Hid (0<rs.length→L.length+2*n+(bO (rs.map (eG most))).size+11≤1099511627776):=fun h0=>by
  have e:=eN n [cB,bO (rs.map (eG most)),bC]
  unfold ez at qw
  rw[if_pos (by rw[List.length_map];exact h0),e] at qw
  simp only[List.map_cons,List.map_nil,List.sum_cons,List.sum_nil] at qw
  have:cB.size=9:=rfl
  have:bC.size=1:=rfl
  omega
 have AK:Hid (0<gs.length→L.length+(ez n (rs.map (eG most))).length+2*n+(bO (gs.map bA)).size+11≤1099511627776):=fun h0=>by
  have e:=eN n [cB,bO (gs.map bA),bC]
  have e2:(ez n (gs.map bA)).length=2*n+(cB.size+(bO (gs.map bA)).size+bC.size)+1:=by
   unfold ez
   rw[if_pos (by rw[List.length_map];exact h0),e]
   simp only[List.map_cons,List.map_nil,List.sum_cons,List.sum_nil]
   omega
  have:cB.size=9:=rfl
  have:bC.size=1:=rfl
  omega
 have HZg:=AK
 have I7:Hid (∃v,Pg W pg L v w):=⟨v,h⟩
 have yl:=al h.bV
 have j9:Hid (Kp pg w w):=Kp.refl _ _
 unfold eW
 clear lr lg hF oA ed qw hl h AK HF
 by_cases r0:rs.length=0
 ·have re:ez n (rs.map (eG most))=[]:=by unfold ez;rw[if_neg (by rw[List.length_map];omega)]
  have e0:decide (0<rs.length)=false:=decide_eq_false (by omega)
  have Z9:=al re
  clear r0 re
  go_enter Tryz.func57,Tryz.ntmps57
  by_cases g0:gs.length=0
  ·have e1:decide (0<gs.length)=false:=decide_eq_false (by omega)
   have DN:Hid (L++(ez n (rs.map (eG most))++ez n (gs.map bA))=L):=by show _=_;rw[show ez n (gs.map bA)=[] by unfold ez;rw[if_neg (by rw[List.length_map];omega)]];simp[ab Z9]
   clear g0
   go_wp2
   go_end0
   exact ⟨rfl,by rw[ab DN];exact ab I7,ab j9⟩
  ·have e1:decide (0<gs.length)=true:=decide_eq_true (by omega)
   have p1:0<gs.length:=by omega
   have AK:Hid (L.length+2*n+(bO (gs.map bA)).size+11≤1099511627776):=by have h:=ab HZg (by omega);show _≤_;omega
   have Sx:=al g0
   clear g0
   go_wp2
   go_loopg [12,13] gs.length (fun gk v12 MA wr=>∃(i:Nat),v12=.string (cB++bO ((gs.map bA).take i))∧MA=.int .i64 (i:Int)∧gk=gs.length-i∧i≤gs.length∧Hid (Below w.heap.size w wr))
   case atStart=>exact ⟨0,by rw[List.take_zero,si];rfl,rfl,rfl,by omega,zE _ _⟩
   case round =>
    obtain ⟨i,rfl,rfl,aU,eO,nt⟩:=hrel
    have bz:=al aU
    clear aU
    have FD:(cB++bO ((gs.map bA).take i)).size≤1099511627776:=by have h1:=k9 (gs.map bA) i;have h2:=ab AK;rw[ByteArray.size_append];have:cB.size=9:=rfl;omega
    by_cases aM:i<gs.length
    ·have aS:Below W.heap.size W wr:=(ab yl).trans ((ab nt).mono (ab yl).size)
     obtain ⟨g,o,rfl,hg,hc⟩:=ab SL (by omega)
     have hl:=List.getElem?_eq_getElem aM
     obtain ⟨s,hs⟩:∃d,gs[i]=d:=⟨_,rfl⟩
     rw[hs] at hl
     have x0:=(aS.cell (p:=⟨g,o+i,none⟩) hg).trans (hc _ _ (dO hl))
     clear hc hs
     have ht:(gs.map bA)[i]?=some (bA s):=by rw[List.getElem?_map,hl];rfl
     obtain ⟨A,hA⟩:∃A,cB++bO ((gs.map bA).take i)=A:=⟨_,rfl⟩
     have ff:=tB ht
     rw[hA] at FD ff ⊢
     obtain ⟨B,hB⟩:∃B,bA s=B:=⟨_,rfl⟩
     rw[hB] at ff
     have HC:=al (nu wr s (ab TR s (List.mem_of_getElem? hl)))
     change Hid (Calls _ _ _ _ fun e w=>e=.returned (.string (bA s))∧_) at HC
     rw[hB] at HC
     have Yj:B.size≤1099511627776:=by rw[←hB];exact Nat.le_trans (tE (ab TR s (List.mem_of_getElem? hl))) (by omega)
     have i0:(0:Int)≤(i:Int):=zH _
     have i1:(i:Int)<(gs.length:Int):=by omega
     have bu:=al aM
     have kk:=al ff
     clear hl aS aM ht hA hB ff
     by_cases z0:i=0
     ·have e0:decide ((0:Int)<(i:Int))=false:=decide_eq_false (by omega)
      have R9:decide (0<i)=false:=decide_eq_false (by omega)
      have mo:Hid (cB++bO ((gs.map bA).take (i+1))=A++B):=by have h:=ab kk;rw[if_pos z0] at h;exact h
      clear kk
      have kk:=mo
      clear mo z0
      go_wp2_with fail
      refine (ab HC).mono ?_
      rintro e w2 ⟨rfl,bd⟩
      have j':=al ((ab nt).trans (bd.mono (ab nt).size))
      clear bd HC nt
      go_wp2
      go_roundg (gs.length-(i+1))
      case measure=>have:=ab bz;have:=ab bu;omega
      case rel=>exact ⟨i+1,by rw[ab kk],by go_num,rfl,ab bu,j'⟩
     ·have e0:decide ((0:Int)<(i:Int))=true:=decide_eq_true (by omega)
      have R9:decide (0<i)=true:=decide_eq_true (by omega)
      have ip:0<i:=by omega
      have Yi:(A++⟨#[44,32]⟩).size≤1099511627800:=by rw[ByteArray.size_append];have:(⟨#[44,32]⟩:ByteArray).size=2:=rfl;omega
      have mo:Hid (cB++bO ((gs.map bA).take (i+1))=A++⟨#[44,32]⟩++B):=by have h:=ab kk;rw[if_neg z0] at h;exact h
      clear kk
      have kk:=mo
      clear mo z0
      go_wp2_with fail
      refine (ab HC).mono ?_
      rintro e w2 ⟨rfl,bd⟩
      have j':=al ((ab nt).trans (bd.mono (ab nt).size))
      clear bd HC nt
      go_wp2
      go_roundg (gs.length-(i+1))
      case measure=>have:=ab bz;have:=ab bu;omega
      case rel=>exact ⟨i+1,by rw[ab kk],by go_num,rfl,ab bu,j'⟩
    ·obtain rfl:i=gs.length:=by omega
     rw[List.take_of_length_le (by rw[List.length_map];omega)]
     rw[List.take_of_length_le (by rw[List.length_map];omega)] at FD
     obtain ⟨u,hP⟩:=ab I7
     have lI:=hP.below (ab nt)
     have SN:Hid (Kp pg w wr):=(ab j9).trans (Kp.below (ab nt))
     have l8:=da lI n (cB++bO (gs.map bA)++bC) hn (by have:=ab AK;rw[ByteArray.size_append,ByteArray.size_append];have:cB.size=9:=rfl;have:bC.size=1:=rfl;omega)
     rw[xq n _ (by rw[List.length_map];have:=ab Sx;omega)] at l8
     have HG:=al l8
     obtain ⟨A,hA⟩:∃A,cB++bO (gs.map bA)=A:=⟨_,rfl⟩
     rw[hA] at FD HG ⊢
     unfold bC at HG
     clear l8 hP lI nt hA
     go_wp2_with fail
     refine (ab HG).mono ?_
     rintro e w1 ⟨rfl,Dn,sv⟩
     have uX:=al Dn
     have iC:=al ((ab SN).trans sv)
     have sa:Hid (Below W.heap.size W w1):=by obtain ⟨_,h⟩:=Dn;exact h.bV
     clear Dn sv HG
     have DN:Hid (L++(ez n (rs.map (eG most))++ez n (gs.map bA))=L++ez n (gs.map bA)):=by show _=_;simp[ab Z9]
     go_wp2
     go_end0
     exact ⟨rfl,by rw[ab DN];exact ab uX,ab iC⟩
 ·have e0:decide (0<rs.length)=true:=decide_eq_true (by omega)
  have p0:0<rs.length:=by omega
  have HZr:=Ls
  have Ls:Hid (L.length+2*n+(bO (rs.map (eG most))).size+11≤1099511627776):=ab HZr (by omega)
  have Sx:=al r0
  clear r0 HZr
  go_enter Tryz.func57,Tryz.ntmps57
  go_wp2
  go_loopg [10,11] rs.length (fun gk v10 v11 wr=>∃(i:Nat),v10=.string (cB++bO ((rs.map (eG most)).take i))∧v11=.int .i64 (i:Int)∧gk=rs.length-i∧i≤rs.length∧Hid (Below w.heap.size w wr))
  case atStart=>exact ⟨0,by rw[List.take_zero,si];rfl,rfl,rfl,by omega,zE _ _⟩
  case round =>
   obtain ⟨i,rfl,rfl,aU,eO,nt⟩:=hrel
   have bz:=al aU
   clear aU
   have FD:(cB++bO ((rs.map (eG most)).take i)).size≤1099511627776:=by have h1:=k9 (rs.map (eG most)) i;have h2:=ab Ls;rw[ByteArray.size_append];have:cB.size=9:=rfl;omega
   by_cases aM:i<rs.length
   ·have aS:Below W.heap.size W wr:=(ab yl).trans ((ab nt).mono (ab yl).size)
    obtain ⟨g,o,rfl,hg,hc⟩:=ab XW (by omega)
    have hl:=List.getElem?_eq_getElem aM
    obtain ⟨⟨p,q⟩,hs⟩:∃d,rs[i]=d:=⟨_,rfl⟩
    rw[hs] at hl
    have x0:=(aS.cell (p:=⟨g,o+(i*2+0),none⟩) hg).trans (hc _ _ (gz hl (j:=0) (by decide)))
    have x1:=(aS.cell (p:=⟨g,o+(i*2+1),none⟩) hg).trans (hc _ _ (gz hl (j:=1) (by decide)))
    rw[Nat.add_zero] at x0
    rw[←Nat.add_assoc] at x1
    clear hc hs
    have ht:(rs.map (eG most))[i]?=some (eG most (p,q)):=by rw[List.getElem?_map,hl];rfl
    obtain ⟨A,hA⟩:∃A,cB++bO ((rs.map (eG most)).take i)=A:=⟨_,rfl⟩
    have ff:=tB ht
    rw[hA] at FD ff ⊢
    obtain ⟨B,hB⟩:∃B,eG most (p,q)=B:=⟨_,rfl⟩
    rw[hB] at ff
    have HC:=al (Gc wr (most:=most) (ab TO (p,q) (List.mem_of_getElem? hl)).1 (ab TO (p,q) (List.mem_of_getElem? hl)).2)
    change Hid (Calls _ _ _ _ fun e w=>e=.returned (.string (eG most (p,q)))∧_) at HC
    rw[hB] at HC
    have Yj:B.size≤1099511627776:=by rw[←hB];exact Nat.le_trans (J5 (ab TO (p,q) (List.mem_of_getElem? hl)).1 (ab TO (p,q) (List.mem_of_getElem? hl)).2) (by omega)
    have i0:(0:Int)≤(i:Int):=zH _
    have i1:(i:Int)<(rs.length:Int):=by omega
    have bu:=al aM
    have kk:=al ff
    clear hl aS aM ht hA hB ff
    by_cases z0:i=0
    ·have e0:decide ((0:Int)<(i:Int))=false:=decide_eq_false (by omega)
     have R9:decide (0<i)=false:=decide_eq_false (by omega)
     have mo:Hid (cB++bO ((rs.map (eG most)).take (i+1))=A++B):=by have h:=ab kk;rw[if_pos z0] at h;exact h
     clear kk
     have kk:=mo
     clear mo z0
     go_wp2_with fail
     refine (ab HC).mono ?_
     rintro e w2 ⟨rfl,bd⟩
     have j':=al ((ab nt).trans (bd.mono (ab nt).size))
     clear bd HC nt
     go_wp2
     go_roundg (rs.length-(i+1))
     case measure=>have:=ab bz;have:=ab bu;omega
     case rel=>exact ⟨i+1,by rw[ab kk],by go_num,rfl,ab bu,j'⟩
    ·have e0:decide ((0:Int)<(i:Int))=true:=decide_eq_true (by omega)
     have R9:decide (0<i)=true:=decide_eq_true (by omega)
     have ip:0<i:=by omega
     have Yi:(A++⟨#[44,32]⟩).size≤1099511627800:=by rw[ByteArray.size_append];have:(⟨#[44,32]⟩:ByteArray).size=2:=rfl;omega
     have mo:Hid (cB++bO ((rs.map (eG most)).take (i+1))=A++⟨#[44,32]⟩++B):=by have h:=ab kk;rw[if_neg z0] at h;exact h
     clear kk
     have kk:=mo
     clear mo z0
     go_wp2_with fail
     refine (ab HC).mono ?_
     rintro e w2 ⟨rfl,bd⟩
     have j':=al ((ab nt).trans (bd.mono (ab nt).size))
     clear bd HC nt
     go_wp2
     go_roundg (rs.length-(i+1))
     case measure=>have:=ab bz;have:=ab bu;omega
     case rel=>exact ⟨i+1,by rw[ab kk],by go_num,rfl,ab bu,j'⟩
   ·obtain rfl:i=rs.length:=by omega
    rw[List.take_of_length_le (by rw[List.length_map];omega)]
    rw[List.take_of_length_le (by rw[List.length_map];omega)] at FD
    obtain ⟨u,hP⟩:=ab I7
    have lI:=hP.below (ab nt)
    have SN:Hid (Kp pg w wr):=(ab j9).trans (Kp.below (ab nt))
    have l8:=da lI n (cB++bO (rs.map (eG most))++bC) hn (by have:=ab Ls;rw[ByteArray.size_append,ByteArray.size_append];have:cB.size=9:=rfl;have:bC.size=1:=rfl;omega)
    rw[xq n _ (by rw[List.length_map];have:=ab Sx;omega)] at l8
    have HG:=al l8
    obtain ⟨A,hA⟩:∃A,cB++bO (rs.map (eG most))=A:=⟨_,rfl⟩
    rw[hA] at FD HG ⊢
    unfold bC at HG
    clear l8 hP lI nt hA
    go_wp2_with fail
    refine (ab HG).mono ?_
    rintro e w1 ⟨rfl,Dn,sv⟩
    have uX:=al Dn
    have iC:=al ((ab SN).trans sv)
    have sa:Hid (Below W.heap.size W w1):=by obtain ⟨_,h⟩:=Dn;exact h.bV
    clear Dn sv HG
    by_cases g0:gs.length=0
    ·have e1:decide (0<gs.length)=false:=decide_eq_false (by omega)
     have DN:Hid (L++(ez n (rs.map (eG most))++ez n (gs.map bA))=(L++ez n (rs.map (eG most)))):=by show _=_;rw[show ez n (gs.map bA)=[] by unfold ez;rw[if_neg (by rw[List.length_map];omega)]];simp
     clear g0
     go_wp2
     go_end0
     exact ⟨rfl,by rw[ab DN];exact ab uX,ab iC⟩
    ·have e1:decide (0<gs.length)=true:=decide_eq_true (by omega)
     have p1:0<gs.length:=by omega
     have AK:Hid ((L++ez n (rs.map (eG most))).length+2*n+(bO (gs.map bA)).size+11≤1099511627776):=by have h:=ab HZg (by omega);show _≤_;rw[zK];omega
     have Sx:=al g0
     clear g0
     go_wp2
     go_loopg [12,13] gs.length (fun gk v12 MA wr=>∃(i:Nat),v12=.string (cB++bO ((gs.map bA).take i))∧MA=.int .i64 (i:Int)∧gk=gs.length-i∧i≤gs.length∧Hid (Below w1.heap.size w1 wr))
     case atStart=>exact ⟨0,by rw[List.take_zero,si];rfl,rfl,rfl,by omega,zE _ _⟩
     case round =>
      obtain ⟨i,rfl,rfl,aU,eO,nt⟩:=hrel
      have bz:=al aU
      clear aU
      have FD:(cB++bO ((gs.map bA).take i)).size≤1099511627776:=by have h1:=k9 (gs.map bA) i;have h2:=ab AK;rw[ByteArray.size_append];have:cB.size=9:=rfl;omega
      by_cases aM:i<gs.length
      ·have aS:Below W.heap.size W wr:=(ab sa).trans ((ab nt).mono (ab sa).size)
       obtain ⟨g,o,rfl,hg,hc⟩:=ab SL (by omega)
       have hl:=List.getElem?_eq_getElem aM
       obtain ⟨s,hs⟩:∃d,gs[i]=d:=⟨_,rfl⟩
       rw[hs] at hl
       have x0:=(aS.cell (p:=⟨g,o+i,none⟩) hg).trans (hc _ _ (dO hl))
       clear hc hs
       have ht:(gs.map bA)[i]?=some (bA s):=by rw[List.getElem?_map,hl];rfl
       obtain ⟨A,hA⟩:∃A,cB++bO ((gs.map bA).take i)=A:=⟨_,rfl⟩
       have ff:=tB ht
       rw[hA] at FD ff ⊢
       obtain ⟨B,hB⟩:∃B,bA s=B:=⟨_,rfl⟩
       rw[hB] at ff
       have HC:=al (nu wr s (ab TR s (List.mem_of_getElem? hl)))
       change Hid (Calls _ _ _ _ fun e w=>e=.returned (.string (bA s))∧_) at HC
       rw[hB] at HC
       have Yj:B.size≤1099511627776:=by rw[←hB];exact Nat.le_trans (tE (ab TR s (List.mem_of_getElem? hl))) (by omega)
       have i0:(0:Int)≤(i:Int):=zH _
       have i1:(i:Int)<(gs.length:Int):=by omega
       have bu:=al aM
       have kk:=al ff
       clear hl aS aM ht hA hB ff
       by_cases z0:i=0
       ·have e0:decide ((0:Int)<(i:Int))=false:=decide_eq_false (by omega)
        have R9:decide (0<i)=false:=decide_eq_false (by omega)
        have mo:Hid (cB++bO ((gs.map bA).take (i+1))=A++B):=by have h:=ab kk;rw[if_pos z0] at h;exact h
        clear kk
        have kk:=mo
        clear mo z0
        go_wp2_with fail
        refine (ab HC).mono ?_
        rintro e w2 ⟨rfl,bd⟩
        have j':=al ((ab nt).trans (bd.mono (ab nt).size))
        clear bd HC nt
        go_wp2
        go_roundg (gs.length-(i+1))
        case measure=>have:=ab bz;have:=ab bu;omega
        case rel=>exact ⟨i+1,by rw[ab kk],by go_num,rfl,ab bu,j'⟩
       ·have e0:decide ((0:Int)<(i:Int))=true:=decide_eq_true (by omega)
        have R9:decide (0<i)=true:=decide_eq_true (by omega)
        have ip:0<i:=by omega
        have Yi:(A++⟨#[44,32]⟩).size≤1099511627800:=by rw[ByteArray.size_append];have:(⟨#[44,32]⟩:ByteArray).size=2:=rfl;omega
        have mo:Hid (cB++bO ((gs.map bA).take (i+1))=A++⟨#[44,32]⟩++B):=by have h:=ab kk;rw[if_neg z0] at h;exact h
        clear kk
        have kk:=mo
        clear mo z0
        go_wp2_with fail
        refine (ab HC).mono ?_
        rintro e w2 ⟨rfl,bd⟩
        have j':=al ((ab nt).trans (bd.mono (ab nt).size))
        clear bd HC nt
        go_wp2
        go_roundg (gs.length-(i+1))
        case measure=>have:=ab bz;have:=ab bu;omega
        case rel=>exact ⟨i+1,by rw[ab kk],by go_num,rfl,ab bu,j'⟩
      ·obtain rfl:i=gs.length:=by omega
       rw[List.take_of_length_le (by rw[List.length_map];omega)]
       rw[List.take_of_length_le (by rw[List.length_map];omega)] at FD
       obtain ⟨u,hP⟩:=ab uX
       have lI:=hP.below (ab nt)
       have SN:Hid (Kp pg w wr):=(ab iC).trans (Kp.below (ab nt))
       have l8:=da lI n (cB++bO (gs.map bA)++bC) hn (by have:=ab AK;rw[ByteArray.size_append,ByteArray.size_append];have:cB.size=9:=rfl;have:bC.size=1:=rfl;omega)
       rw[xq n _ (by rw[List.length_map];have:=ab Sx;omega)] at l8
       have HG:=al l8
       obtain ⟨A,hA⟩:∃A,cB++bO (gs.map bA)=A:=⟨_,rfl⟩
       rw[hA] at FD HG ⊢
       unfold bC at HG
       clear l8 hP lI nt hA
       go_wp2_with fail
       refine (ab HG).mono ?_
       rintro e w2 ⟨rfl,Dn,sv⟩
       have fz:=al Dn
       have fA:=al ((ab SN).trans sv)
       have HW2:Hid (Below W.heap.size W w2):=by obtain ⟨_,h⟩:=Dn;exact h.bV
       clear Dn sv HG
       have DN:Hid (L++(ez n (rs.map (eG most))++ez n (gs.map bA))=(L++ez n (rs.map (eG most)))++ez n (gs.map bA)):=by show _=_;simp
       go_wp2
       go_end0
       exact ⟨rfl,by rw[ab DN];exact ab fz,ab fA⟩
end Go.Proofs.YtichhjfjcinjgaaGreatDoor
