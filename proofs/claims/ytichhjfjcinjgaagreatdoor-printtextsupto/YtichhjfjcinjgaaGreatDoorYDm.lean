import Derived.Test.YtichhjfjcinjgaaGreatDoorYDl
import Derived.Test.YtichhjfjcinjgaaGreatDoorSX
set_option maxHeartbeats 8000000
set_option maxRecDepth 100000
namespace Go.Proofs.YtichhjfjcinjgaaGreatDoor
open Go.RowKit
attribute [local go_sem ↓] Go.wp_at_zero Go.wp_at_succ
theorem uL (sep t:List UInt8):∀(l:List (List UInt8)),l≠[]→sep.intercalate (l++[t])=sep.intercalate l++(sep++t)
 |[],h=>absurd rfl h
 |[a],_=>by simp[List.intercalate]
 |a::b::r,_=>by
  have ih:=uL sep t (b::r) (by simp)
  rw[List.cons_append,List.cons_append,List.intercalate_cons_cons,List.intercalate_cons_cons,←List.cons_append,ih]
  simp
theorem xa (l:List ByteArray) (t:ByteArray) (h:l≠[]):bQ (l++[t])=bQ l++EO++t:=by
 apply ByteArray.ext
 apply Array.toList_inj.1
 unfold bQ Lib.join
 rw[List.map_append,List.map_cons,List.map_nil]
 simp only[ByteArray.data_append,Array.toList_append]
 rw[uL _ _ _ (by simpa using h),List.append_assoc]
 rfl
theorem join_one (t:ByteArray):bQ [t]=t:=by
 apply ByteArray.ext
 apply Array.toList_inj.1
 simp[bQ,Lib.join]
theorem C8 (a:ByteArray):a++(⟨#[]⟩:ByteArray)=a:=by
 apply ByteArray.ext
 simp
theorem A7 (a b c:ByteArray):a++b++c=a++(b++c):=by
 apply ByteArray.ext
 simp
theorem sM:cF++bQ []=cF:=C8 _
theorem uq {ts:List ByteArray}{i:Nat}{t:ByteArray} (h:ts[i]?=some t):cF++bQ (ts.take (i+1))=if i=0 then (cF++bQ (ts.take i))++t else (cF++bQ (ts.take i))++⟨#[44,32]⟩++t:=by
 rw[bM h]
 split
 ·rename_i h0
  subst h0
  rw[List.take_zero,List.nil_append,join_one,sM]
 ·rename_i h0
  have hi:=(zB h).1
  rw[xa _ _ (fun e=>by have:=congrArg List.length e;rw[List.length_take,List.length_nil] at this;omega)]
  show _=cF++bQ (ts.take i)++EO++t
  simp only[A7]
theorem lG (ts:List ByteArray):∀(i:Nat),(bQ (ts.take i)).size≤(bQ ts).size:=by
 have step:∀i,(bQ (ts.take i)).size≤(bQ (ts.take (i+1))).size:=by
  intro i
  by_cases hi:i<ts.length
  ·rw[bM (List.getElem?_eq_getElem hi)]
   by_cases h0:ts.take i=[]
   ·rw[h0];exact Nat.zero_le _
   ·rw[xa _ _ h0,ByteArray.size_append,ByteArray.size_append];omega
  ·rw[List.take_of_length_le (by omega),List.take_of_length_le (by omega)];exact zD _
 have all:∀k i,(bQ (ts.take i)).size≤(bQ (ts.take (i+k))).size:=by
  intro k
  induction k with
  |zero=>intro i;exact zD _
  |succ k ih=>intro i;exact Nat.le_trans (ih i) (step (i+k))
 intro i
 have h:=all ts.length i
 rwa [List.take_of_length_le (l:=ts) (i:=i+ts.length) (by omega)] at h
theorem xU (n:Nat) (ts:List ByteArray) (h:0<ts.length):aY n [cF++bQ ts++bC]=eF n ts:=by
 unfold eF
 rw[if_pos h]
 unfold aY
 simp[kM]
theorem ux {s:ByteArray} (h:s.size≤1048576):(bA s).size≤4194306:=by
 unfold bA
 rw[j3]
 have:=Ak s _ 0 (zD _)
 simp only[zK,List.length_cons,List.length_nil]
 omega
theorem KP {most a b:Int} (ha:-2147483648≤a∧a≤2147483647) (hb:-2147483648≤b∧b≤2147483647):(eM most (a,b)).size≤100:=by
 have za:=cU (n:=a) (by omega) (by omega)
 have zb:=cU (n:=b) (by omega) (by omega)
 have e1:nz.size=4:=rfl
 have e2:uj.size=7:=rfl
 unfold eM
 split
 ·simp only;omega
 ·split
  ·rw[ByteArray.size_append];simp only;omega
  ·rw[ByteArray.size_append,ByteArray.size_append];simp only;omega
theorem AW {W w:World}{pg:Nat}{L:List Nat}{v:Value} (h:Pg W pg L v w) (hF:ir W) (n:Nat) (hn:n≤500) {vr vg:Value}{rs:List (Int×Int)}{gs:List ByteArray}{most:Int} (hr:Rl W vr rs.length (lj rs)) (hg:Rl W vg gs.length (cc gs)) (oV:∀r ∈ rs,(-2147483648≤r.1∧r.1≤2147483647)∧(-2147483648≤r.2∧r.2≤2147483647)) (ep:∀s ∈ gs,s.size≤1048576) (hl:L.length+(fg n most rs gs).length≤1099511627776) :
  Calls Tryz.prog 57 #[.pointer (some ⟨pg,0,none⟩),.int .i64 (n:Int),vr,vg,.int .i64 most] w (LZ W pg (L++fg n most rs gs) w):=by
 obtain ⟨ar,cr,rfl,TP,lr⟩:=hr
 obtain ⟨ag,cg,rfl,TQ,lg⟩:=hg
 have Yw:=al lr
 have Tm:=al lg
 have HF:=al hF
 have Uj:=al oV
 have Um:=al ep
 have qS:L.length+(eF n (rs.map (eM most))).length+(eF n (gs.map bA)).length≤1099511627776:=by unfold fg at hl;rw[zK] at hl;omega
 have L7:Hid (0<rs.length→L.length+2*n+(bQ (rs.map (eM most))).size+11≤1099511627776):=fun h0=>by
  have e:=eT n [cF,bQ (rs.map (eM most)),bC]
  unfold eF at qS
  rw[if_pos (by rw[List.length_map];exact h0),e] at qS
  simp only[List.map_cons,List.map_nil,List.sum_cons,List.sum_nil] at qS
  have:cF.size=9:=rfl
  have:bC.size=1:=rfl
  omega
 have Bg:Hid (0<gs.length→L.length+(eF n (rs.map (eM most))).length+2*n+(bQ (gs.map bA)).size+11≤1099511627776):=fun h0=>by
  have e:=eT n [cF,bQ (gs.map bA),bC]
  have e2:(eF n (gs.map bA)).length=2*n+(cF.size+(bQ (gs.map bA)).size+bC.size)+1:=by
   unfold eF
   rw[if_pos (by rw[List.length_map];exact h0),e]
   simp only[List.map_cons,List.map_nil,List.sum_cons,List.sum_nil]
   omega
  have:cF.size=9:=rfl
  have:bC.size=1:=rfl
  omega
 have HZg:=Bg
 have JT:Hid (∃v,Pg W pg L v w):=⟨v,h⟩
 have oD:=al h.bU
 have kA:Hid (Kp pg w w):=Kp.refl _ _
 unfold fg
 clear lr lg hF oV ep qS hl h Bg HF
 by_cases r0:rs.length=0
 ·have re:eF n (rs.map (eM most))=[]:=by unfold eF;rw[if_neg (by rw[List.length_map];omega)]
  have e0:decide (0<rs.length)=false:=decide_eq_false (by omega)
  have Hre:=al re
  clear r0 re
  go_enter Tryz.func57,Tryz.ntmps57
  by_cases g0:gs.length=0
  ·have e1:decide (0<gs.length)=false:=decide_eq_false (by omega)
   have Es:Hid (L++(eF n (rs.map (eM most))++eF n (gs.map bA))=L):=by show _=_;rw[show eF n (gs.map bA)=[] by unfold eF;rw[if_neg (by rw[List.length_map];omega)]];simp[ab Hre]
   clear g0
   go_wp2
   go_end0
   exact ⟨rfl,by rw[ab Es];exact ab JT,ab kA⟩
  ·have e1:decide (0<gs.length)=true:=decide_eq_true (by omega)
   have p1:0<gs.length:=by omega
   have Bg:Hid (L.length+2*n+(bQ (gs.map bA)).size+11≤1099511627776):=by have h:=ab HZg (by omega);show _≤_;omega
   have S9:=al g0
   clear g0
   go_wp2
   go_loopg [12,13] gs.length (fun gk v12 Nb wr=>∃(i:Nat),v12=.string (cF++bQ ((gs.map bA).take i))∧Nb=.int .i64 (i:Int)∧gk=gs.length-i∧i≤gs.length∧Hid (Below w.heap.size w wr))
   case atStart=>exact ⟨0,by rw[List.take_zero,sM];rfl,rfl,rfl,by omega,zE _ _⟩
   case round =>
    obtain ⟨i,rfl,rfl,aW,eV,nT⟩:=hrel
    have bz:=al aW
    clear aW
    have Gk:(cF++bQ ((gs.map bA).take i)).size≤1099511627776:=by have h1:=lG (gs.map bA) i;have h2:=ab Bg;rw[ByteArray.size_append];have:cF.size=9:=rfl;omega
    by_cases aM:i<gs.length
    ·have aT:Below W.heap.size W wr:=(ab oD).trans ((ab nT).mono (ab oD).size)
     obtain ⟨g,o,rfl,hg,hc⟩:=ab Tm (by omega)
     have hl:=List.getElem?_eq_getElem aM
     obtain ⟨s,hs⟩:∃d,gs[i]=d:=⟨_,rfl⟩
     rw[hs] at hl
     have x0:=(aT.cell (p:=⟨g,o+i,none⟩) hg).trans (hc _ _ (dT hl))
     clear hc hs
     have ht:(gs.map bA)[i]?=some (bA s):=by rw[List.getElem?_map,hl];rfl
     obtain ⟨A,hA⟩:∃A,cF++bQ ((gs.map bA).take i)=A:=⟨_,rfl⟩
     have fv:=uq ht
     rw[hA] at Gk fv ⊢
     obtain ⟨B,hB⟩:∃B,bA s=B:=⟨_,rfl⟩
     rw[hB] at fv
     have HC:=al (nU wr s (ab Um s (List.mem_of_getElem? hl)))
     change Hid (Calls _ _ _ _ fun e w=>e=.returned (.string (bA s))∧_) at HC
     rw[hB] at HC
     have YO:B.size≤1099511627776:=by rw[←hB];exact Nat.le_trans (ux (ab Um s (List.mem_of_getElem? hl))) (by omega)
     have i0:(0:Int)≤(i:Int):=zH _
     have i1:(i:Int)<(gs.length:Int):=by omega
     have bu:=al aM
     have kJ:=al fv
     clear hl aT aM ht hA hB fv
     by_cases z0:i=0
     ·have e0:decide ((0:Int)<(i:Int))=false:=decide_eq_false (by omega)
      have SM:decide (0<i)=false:=decide_eq_false (by omega)
      have mJ:Hid (cF++bQ ((gs.map bA).take (i+1))=A++B):=by have h:=ab kJ;rw[if_pos z0] at h;exact h
      clear kJ
      have kJ:=mJ
      clear mJ z0
      go_wp2_with fail
      refine (ab HC).mono ?_
      rintro e w2 ⟨rfl,bd⟩
      have kB:=al ((ab nT).trans (bd.mono (ab nT).size))
      clear bd HC nT
      go_wp2
      go_roundg (gs.length-(i+1))
      case measure=>have:=ab bz;have:=ab bu;omega
      case rel=>exact ⟨i+1,by rw[ab kJ],by go_num,rfl,ab bu,kB⟩
     ·have e0:decide ((0:Int)<(i:Int))=true:=decide_eq_true (by omega)
      have SM:decide (0<i)=true:=decide_eq_true (by omega)
      have ip:0<i:=by omega
      have YN:(A++⟨#[44,32]⟩).size≤1099511627800:=by rw[ByteArray.size_append];have:(⟨#[44,32]⟩:ByteArray).size=2:=rfl;omega
      have mJ:Hid (cF++bQ ((gs.map bA).take (i+1))=A++⟨#[44,32]⟩++B):=by have h:=ab kJ;rw[if_neg z0] at h;exact h
      clear kJ
      have kJ:=mJ
      clear mJ z0
      go_wp2_with fail
      refine (ab HC).mono ?_
      rintro e w2 ⟨rfl,bd⟩
      have kB:=al ((ab nT).trans (bd.mono (ab nT).size))
      clear bd HC nT
      go_wp2
      go_roundg (gs.length-(i+1))
      case measure=>have:=ab bz;have:=ab bu;omega
      case rel=>exact ⟨i+1,by rw[ab kJ],by go_num,rfl,ab bu,kB⟩
    ·obtain rfl:i=gs.length:=by omega
     rw[List.take_of_length_le (by rw[List.length_map];omega)]
     rw[List.take_of_length_le (by rw[List.length_map];omega)] at Gk
     obtain ⟨u,hP⟩:=ab JT
     have l8:=hP.below (ab nT)
     have To:Hid (Kp pg w wr):=(ab kA).trans (Kp.below (ab nT))
     have mA:=dj l8 n (cF++bQ (gs.map bA)++bC) hn (by have:=ab Bg;rw[ByteArray.size_append,ByteArray.size_append];have:cF.size=9:=rfl;have:bC.size=1:=rfl;omega)
     rw[xU n _ (by rw[List.length_map];have:=ab S9;omega)] at mA
     have HG:=al mA
     obtain ⟨A,hA⟩:∃A,cF++bQ (gs.map bA)=A:=⟨_,rfl⟩
     rw[hA] at Gk HG ⊢
     unfold bC at HG
     clear mA hP l8 nT hA
     go_wp2_with fail
     refine (ab HG).mono ?_
     rintro e w1 ⟨rfl,D1,sU⟩
     have vK:=al D1
     have iO:=al ((ab To).trans sU)
     have sE:Hid (Below W.heap.size W w1):=by obtain ⟨_,h⟩:=D1;exact h.bU
     clear D1 sU HG
     have Es:Hid (L++(eF n (rs.map (eM most))++eF n (gs.map bA))=L++eF n (gs.map bA)):=by show _=_;simp[ab Hre]
     go_wp2
     go_end0
     exact ⟨rfl,by rw[ab Es];exact ab vK,ab iO⟩
 ·have e0:decide (0<rs.length)=true:=decide_eq_true (by omega)
  have p0:0<rs.length:=by omega
  have HZr:=L7
  have L7:Hid (L.length+2*n+(bQ (rs.map (eM most))).size+11≤1099511627776):=ab HZr (by omega)
  have S9:=al r0
  clear r0 HZr
  go_enter Tryz.func57,Tryz.ntmps57
  go_wp2
  go_loopg [10,11] rs.length (fun gk v10 v11 wr=>∃(i:Nat),v10=.string (cF++bQ ((rs.map (eM most)).take i))∧v11=.int .i64 (i:Int)∧gk=rs.length-i∧i≤rs.length∧Hid (Below w.heap.size w wr))
  case atStart=>exact ⟨0,by rw[List.take_zero,sM];rfl,rfl,rfl,by omega,zE _ _⟩
  case round =>
   obtain ⟨i,rfl,rfl,aW,eV,nT⟩:=hrel
   have bz:=al aW
   clear aW
   have Gk:(cF++bQ ((rs.map (eM most)).take i)).size≤1099511627776:=by have h1:=lG (rs.map (eM most)) i;have h2:=ab L7;rw[ByteArray.size_append];have:cF.size=9:=rfl;omega
   by_cases aM:i<rs.length
   ·have aT:Below W.heap.size W wr:=(ab oD).trans ((ab nT).mono (ab oD).size)
    obtain ⟨g,o,rfl,hg,hc⟩:=ab Yw (by omega)
    have hl:=List.getElem?_eq_getElem aM
    obtain ⟨⟨p,q⟩,hs⟩:∃d,rs[i]=d:=⟨_,rfl⟩
    rw[hs] at hl
    have x0:=(aT.cell (p:=⟨g,o+(i*2+0),none⟩) hg).trans (hc _ _ (gI hl (j:=0) (by decide)))
    have x1:=(aT.cell (p:=⟨g,o+(i*2+1),none⟩) hg).trans (hc _ _ (gI hl (j:=1) (by decide)))
    rw[Nat.add_zero] at x0
    rw[←Nat.add_assoc] at x1
    clear hc hs
    have ht:(rs.map (eM most))[i]?=some (eM most (p,q)):=by rw[List.getElem?_map,hl];rfl
    obtain ⟨A,hA⟩:∃A,cF++bQ ((rs.map (eM most)).take i)=A:=⟨_,rfl⟩
    have fv:=uq ht
    rw[hA] at Gk fv ⊢
    obtain ⟨B,hB⟩:∃B,eM most (p,q)=B:=⟨_,rfl⟩
    rw[hB] at fv
    have HC:=al (GY wr (most:=most) (ab Uj (p,q) (List.mem_of_getElem? hl)).1 (ab Uj (p,q) (List.mem_of_getElem? hl)).2)
    change Hid (Calls _ _ _ _ fun e w=>e=.returned (.string (eM most (p,q)))∧_) at HC
    rw[hB] at HC
    have YO:B.size≤1099511627776:=by rw[←hB];exact Nat.le_trans (KP (ab Uj (p,q) (List.mem_of_getElem? hl)).1 (ab Uj (p,q) (List.mem_of_getElem? hl)).2) (by omega)
    have i0:(0:Int)≤(i:Int):=zH _
    have i1:(i:Int)<(rs.length:Int):=by omega
    have bu:=al aM
    have kJ:=al fv
    clear hl aT aM ht hA hB fv
    by_cases z0:i=0
    ·have e0:decide ((0:Int)<(i:Int))=false:=decide_eq_false (by omega)
     have SM:decide (0<i)=false:=decide_eq_false (by omega)
     have mJ:Hid (cF++bQ ((rs.map (eM most)).take (i+1))=A++B):=by have h:=ab kJ;rw[if_pos z0] at h;exact h
     clear kJ
     have kJ:=mJ
     clear mJ z0
     go_wp2_with fail
     refine (ab HC).mono ?_
     rintro e w2 ⟨rfl,bd⟩
     have kB:=al ((ab nT).trans (bd.mono (ab nT).size))
     clear bd HC nT
     go_wp2
     go_roundg (rs.length-(i+1))
     case measure=>have:=ab bz;have:=ab bu;omega
     case rel=>exact ⟨i+1,by rw[ab kJ],by go_num,rfl,ab bu,kB⟩
    ·have e0:decide ((0:Int)<(i:Int))=true:=decide_eq_true (by omega)
     have SM:decide (0<i)=true:=decide_eq_true (by omega)
     have ip:0<i:=by omega
     have YN:(A++⟨#[44,32]⟩).size≤1099511627800:=by rw[ByteArray.size_append];have:(⟨#[44,32]⟩:ByteArray).size=2:=rfl;omega
     have mJ:Hid (cF++bQ ((rs.map (eM most)).take (i+1))=A++⟨#[44,32]⟩++B):=by have h:=ab kJ;rw[if_neg z0] at h;exact h
     clear kJ
     have kJ:=mJ
     clear mJ z0
     go_wp2_with fail
     refine (ab HC).mono ?_
     rintro e w2 ⟨rfl,bd⟩
     have kB:=al ((ab nT).trans (bd.mono (ab nT).size))
     clear bd HC nT
     go_wp2
     go_roundg (rs.length-(i+1))
     case measure=>have:=ab bz;have:=ab bu;omega
     case rel=>exact ⟨i+1,by rw[ab kJ],by go_num,rfl,ab bu,kB⟩
   ·obtain rfl:i=rs.length:=by omega
    rw[List.take_of_length_le (by rw[List.length_map];omega)]
    rw[List.take_of_length_le (by rw[List.length_map];omega)] at Gk
    obtain ⟨u,hP⟩:=ab JT
    have l8:=hP.below (ab nT)
    have To:Hid (Kp pg w wr):=(ab kA).trans (Kp.below (ab nT))
    have mA:=dj l8 n (cF++bQ (rs.map (eM most))++bC) hn (by have:=ab L7;rw[ByteArray.size_append,ByteArray.size_append];have:cF.size=9:=rfl;have:bC.size=1:=rfl;omega)
    rw[xU n _ (by rw[List.length_map];have:=ab S9;omega)] at mA
    have HG:=al mA
    obtain ⟨A,hA⟩:∃A,cF++bQ (rs.map (eM most))=A:=⟨_,rfl⟩
    rw[hA] at Gk HG ⊢
    unfold bC at HG
    clear mA hP l8 nT hA
    go_wp2_with fail
    refine (ab HG).mono ?_
    rintro e w1 ⟨rfl,D1,sU⟩
    have vK:=al D1
    have iO:=al ((ab To).trans sU)
    have sE:Hid (Below W.heap.size W w1):=by obtain ⟨_,h⟩:=D1;exact h.bU
    clear D1 sU HG
    by_cases g0:gs.length=0
    ·have e1:decide (0<gs.length)=false:=decide_eq_false (by omega)
     have Es:Hid (L++(eF n (rs.map (eM most))++eF n (gs.map bA))=(L++eF n (rs.map (eM most)))):=by show _=_;rw[show eF n (gs.map bA)=[] by unfold eF;rw[if_neg (by rw[List.length_map];omega)]];simp
     clear g0
     go_wp2
     go_end0
     exact ⟨rfl,by rw[ab Es];exact ab vK,ab iO⟩
    ·have e1:decide (0<gs.length)=true:=decide_eq_true (by omega)
     have p1:0<gs.length:=by omega
     have Bg:Hid ((L++eF n (rs.map (eM most))).length+2*n+(bQ (gs.map bA)).size+11≤1099511627776):=by have h:=ab HZg (by omega);show _≤_;rw[zK];omega
     have S9:=al g0
     clear g0
     go_wp2
     go_loopg [12,13] gs.length (fun gk v12 Nb wr=>∃(i:Nat),v12=.string (cF++bQ ((gs.map bA).take i))∧Nb=.int .i64 (i:Int)∧gk=gs.length-i∧i≤gs.length∧Hid (Below w1.heap.size w1 wr))
     case atStart=>exact ⟨0,by rw[List.take_zero,sM];rfl,rfl,rfl,by omega,zE _ _⟩
     case round =>
      obtain ⟨i,rfl,rfl,aW,eV,nT⟩:=hrel
      have bz:=al aW
      clear aW
      have Gk:(cF++bQ ((gs.map bA).take i)).size≤1099511627776:=by have h1:=lG (gs.map bA) i;have h2:=ab Bg;rw[ByteArray.size_append];have:cF.size=9:=rfl;omega
      by_cases aM:i<gs.length
      ·have aT:Below W.heap.size W wr:=(ab sE).trans ((ab nT).mono (ab sE).size)
       obtain ⟨g,o,rfl,hg,hc⟩:=ab Tm (by omega)
       have hl:=List.getElem?_eq_getElem aM
       obtain ⟨s,hs⟩:∃d,gs[i]=d:=⟨_,rfl⟩
       rw[hs] at hl
       have x0:=(aT.cell (p:=⟨g,o+i,none⟩) hg).trans (hc _ _ (dT hl))
       clear hc hs
       have ht:(gs.map bA)[i]?=some (bA s):=by rw[List.getElem?_map,hl];rfl
       obtain ⟨A,hA⟩:∃A,cF++bQ ((gs.map bA).take i)=A:=⟨_,rfl⟩
       have fv:=uq ht
       rw[hA] at Gk fv ⊢
       obtain ⟨B,hB⟩:∃B,bA s=B:=⟨_,rfl⟩
       rw[hB] at fv
       have HC:=al (nU wr s (ab Um s (List.mem_of_getElem? hl)))
       change Hid (Calls _ _ _ _ fun e w=>e=.returned (.string (bA s))∧_) at HC
       rw[hB] at HC
       have YO:B.size≤1099511627776:=by rw[←hB];exact Nat.le_trans (ux (ab Um s (List.mem_of_getElem? hl))) (by omega)
       have i0:(0:Int)≤(i:Int):=zH _
       have i1:(i:Int)<(gs.length:Int):=by omega
       have bu:=al aM
       have kJ:=al fv
       clear hl aT aM ht hA hB fv
       by_cases z0:i=0
       ·have e0:decide ((0:Int)<(i:Int))=false:=decide_eq_false (by omega)
        have SM:decide (0<i)=false:=decide_eq_false (by omega)
        have mJ:Hid (cF++bQ ((gs.map bA).take (i+1))=A++B):=by have h:=ab kJ;rw[if_pos z0] at h;exact h
        clear kJ
        have kJ:=mJ
        clear mJ z0
        go_wp2_with fail
        refine (ab HC).mono ?_
        rintro e w2 ⟨rfl,bd⟩
        have kB:=al ((ab nT).trans (bd.mono (ab nT).size))
        clear bd HC nT
        go_wp2
        go_roundg (gs.length-(i+1))
        case measure=>have:=ab bz;have:=ab bu;omega
        case rel=>exact ⟨i+1,by rw[ab kJ],by go_num,rfl,ab bu,kB⟩
       ·have e0:decide ((0:Int)<(i:Int))=true:=decide_eq_true (by omega)
        have SM:decide (0<i)=true:=decide_eq_true (by omega)
        have ip:0<i:=by omega
        have YN:(A++⟨#[44,32]⟩).size≤1099511627800:=by rw[ByteArray.size_append];have:(⟨#[44,32]⟩:ByteArray).size=2:=rfl;omega
        have mJ:Hid (cF++bQ ((gs.map bA).take (i+1))=A++⟨#[44,32]⟩++B):=by have h:=ab kJ;rw[if_neg z0] at h;exact h
        clear kJ
        have kJ:=mJ
        clear mJ z0
        go_wp2_with fail
        refine (ab HC).mono ?_
        rintro e w2 ⟨rfl,bd⟩
        have kB:=al ((ab nT).trans (bd.mono (ab nT).size))
        clear bd HC nT
        go_wp2
        go_roundg (gs.length-(i+1))
        case measure=>have:=ab bz;have:=ab bu;omega
        case rel=>exact ⟨i+1,by rw[ab kJ],by go_num,rfl,ab bu,kB⟩
      ·obtain rfl:i=gs.length:=by omega
       rw[List.take_of_length_le (by rw[List.length_map];omega)]
       rw[List.take_of_length_le (by rw[List.length_map];omega)] at Gk
       obtain ⟨u,hP⟩:=ab vK
       have l8:=hP.below (ab nT)
       have To:Hid (Kp pg w wr):=(ab iO).trans (Kp.below (ab nT))
       have mA:=dj l8 n (cF++bQ (gs.map bA)++bC) hn (by have:=ab Bg;rw[ByteArray.size_append,ByteArray.size_append];have:cF.size=9:=rfl;have:bC.size=1:=rfl;omega)
       rw[xU n _ (by rw[List.length_map];have:=ab S9;omega)] at mA
       have HG:=al mA
       obtain ⟨A,hA⟩:∃A,cF++bQ (gs.map bA)=A:=⟨_,rfl⟩
       rw[hA] at Gk HG ⊢
       unfold bC at HG
       clear mA hP l8 nT hA
       go_wp2_with fail
       refine (ab HG).mono ?_
       rintro e w2 ⟨rfl,D1,sU⟩
       have fH:=al D1
       have fI:=al ((ab To).trans sU)
       have HW2:Hid (Below W.heap.size W w2):=by obtain ⟨_,h⟩:=D1;exact h.bU
       clear D1 sU HG
       have Es:Hid (L++(eF n (rs.map (eM most))++eF n (gs.map bA))=(L++eF n (rs.map (eM most)))++eF n (gs.map bA)):=by show _=_;simp
       go_wp2
       go_end0
       exact ⟨rfl,by rw[ab Es];exact ab fH,ab fI⟩
end Go.Proofs.YtichhjfjcinjgaaGreatDoor
