import Derived.Test.YtmlphohdcejniaaGreatDoorM03
import Derived.Deep.CutBlock
import Derived.Shelf.Pu.ToError
import Derived.Shelf.Pu.ToErrorRange
set_option maxHeartbeats 40000000
set_option maxRecDepth 100000
namespace Go.Proofs.YtmlphohdcejniaaGreatDoor
open Go.RowKit
attribute [local go_sem ↓] Go.wp_at_zero Go.wp_at_succ
def PBx (Bi bi Ci Mi:Int) (B M:Nat):Prop:=(Bi=16∧bi=63∧Ci=1152921504606846976∧Mi=9223372036854775807∧B=16∧M=9223372036854775807)∨(Bi=10∧bi=63∧Ci=1844674407370955162∧Mi=9223372036854775807∧B=10∧M=9223372036854775807)∨(Bi=8∧bi=63∧Ci=2305843009213693952∧Mi=9223372036854775807∧B=8∧M=9223372036854775807)∨(Bi=16∧bi=8∧Ci=1152921504606846976∧Mi=255∧B=16∧M=255)∨(Bi=8∧bi=8∧Ci=2305843009213693952∧Mi=255∧B=8∧M=255)
structure PKx (Bi Ci Mi:Int) (B M:Nat):Prop where
 k1:∀d:Nat,d<B→(d:Int)<Bi∧decide (Bi≤(d:Int))=false
 k2:∀d:Nat,¬d<B→Bi≤(d:Int)∧decide (Bi≤(d:Int))=true
 k3:∀(a:Int) (acc d:Nat),a=(acc:Int)→Ci≤a∧¬acc*B+d≤M∨a<Ci
 k5:∀(a:Int) (acc d:Nat),a=(acc:Int)→a<Ci→d<36→(18446744073709551616≤a*Bi+(d:Int)∧IntKind.u64.wrap (a*Bi+(d:Int))=a*Bi+(d:Int)-18446744073709551616∧¬acc*B+d≤M)∨a*Bi+(d:Int)<18446744073709551616
 k6:∀(a:Int) (acc d:Nat),a=(acc:Int)→a*Bi+(d:Int)=((acc*B+d:Nat):Int)
 k7:∀(a:Int) (acc d:Nat),a=(acc:Int)→(a*Bi+(d:Int)≤Mi∧acc*B+d≤M)∨(Mi<a*Bi+(d:Int)∧¬acc*B+d≤M)
 k8:∀(a:Int) (acc:Nat),a=(acc:Int)→acc≤M→a≤Mi
theorem PBx.pk {Bi bi Ci Mi:Int}{B M:Nat} (h:PBx Bi bi Ci Mi B M):PKx Bi Ci Mi B M:=by
 rcases h with ⟨rfl,rfl,rfl,rfl,rfl,rfl⟩|⟨rfl,rfl,rfl,rfl,rfl,rfl⟩|⟨rfl,rfl,rfl,rfl,rfl,rfl⟩|⟨rfl,rfl,rfl,rfl,rfl,rfl⟩|⟨rfl,rfl,rfl,rfl,rfl,rfl⟩
 all_goals
  refine ⟨fun d h=>⟨by omega,by simp;omega⟩,fun d h=>⟨by omega,by simp;omega⟩,fun a acc d h=>by omega,fun a acc d h h2 h3=>?_,fun a acc d h=>by omega,fun a acc d h=>?_,fun a acc h h2=>by omega⟩
  ·rw[IntKind.wrap_u64]
   by_cases q:18446744073709551616≤acc*16+d
   ·omega
   ·omega
  ·omega
theorem xb {Bi bi Ci Mi:Int}{B M:Nat} (hb:PBx Bi bi Ci Mi B M) (W:World) (s:ByteArray) (hs:s.size≤65536):Calls Tryz.prog 114 #[.string s,.int .i64 Bi,.int .i64 bi] W (PU W B M s):=by
 by_cases h0:s.size=0
 ·obtain rfl:=xH h0
  rcases hb with ⟨rfl,rfl,rfl,rfl,-,-⟩|⟨rfl,rfl,rfl,rfl,-,-⟩|⟨rfl,rfl,rfl,rfl,-,-⟩|⟨rfl,rfl,rfl,rfl,-,-⟩|⟨rfl,rfl,rfl,rfl,-,-⟩
  all_goals
   go_enter Tryz.func114,Tryz.ntmps114
   go_wp2
   go_ret2
   exact PU.bad _ 2 (zE _ _) (.inr rfl) (.inl h0)
 have HK:=aj hb.pk
 have e0:=qw h0
 have FQ:=Lib.run_convert_string_bytes (P:=Tryz.prog) W 9 54 5 s (u:=.string) Tryz.underlying9 Tryz.underlying54 Tryz.underlying5
 have hB:∀(j x:Nat),(aH s)[j]?=some x→(Lib.bytesWorld W 5 s).cell? ⟨W.heap.size,j,none⟩=some (.int .u8 (x:Int)):=fun j x hx=>by
  rw[Lib.bytesWorld_cell W 5 s j (by have:=(zB hx).1;rwa [bk] at this),Je s j x hx]
 have DX:Below W.heap.size W (Lib.bytesWorld W 5 s):=Lib.bytesWorld_below W 5 s
 obtain ⟨W1,ET⟩:∃W1,W1=Lib.bytesWorld W 5 s:=⟨_,rfl⟩
 rw[←ET] at FQ hB DX
 have yC:=aj DX
 have HB:=aj hB
 clear ET DX hB
 rcases hb with ⟨rfl,rfl,rfl,rfl,-,-⟩|⟨rfl,rfl,rfl,rfl,-,-⟩|⟨rfl,rfl,rfl,rfl,-,-⟩|⟨rfl,rfl,rfl,rfl,-,-⟩|⟨rfl,rfl,rfl,rfl,-,-⟩
 all_goals
  go_enter Tryz.func114,Tryz.ntmps114
  go_wp2
  clear FQ
  go_loopg [12,13,15,16,17,101] s.size (fun gk v12 v13 _ _ _ Tt wr=>∃(k acc:Nat) (a:Int),v12=.bool false∧v13=.int .u64 a∧Tt=.int .i64 (k:Int)∧k≤s.size∧gk=s.size-k∧wr=W1∧Hid (a=(acc:Int)∧acc≤M∧cK B M (aH s) 0=cK B M ((aH s).drop k) acc))
  case atStart=>exact ⟨0,0,0,rfl,rfl,rfl,by omega,rfl,rfl,rfl,by omega,rfl⟩
  case round =>
   obtain ⟨k,acc,a,rfl,rfl,rfl,hk,fi,rfl,hh⟩:=hrel
   obtain ⟨ha,DZ,kW⟩:=aa hh
   have gA:=aj fi
   clear hh fi
   have a0:0≤a:=by omega
   have a1:=(aa HK).k8 a acc ha DZ
   by_cases hkn:k<s.size
   ·obtain ⟨x,hx,fO,gx⟩:=iV s k hkn
    have dY:=aa HB k x hx
    have sL:(aH s).drop k=x::(aH s).drop (k+1):=by
     obtain ⟨hl,rS⟩:=zB hx
     rw[List.drop_eq_getElem_cons hl,rS]
    rw[sL] at kW
    clear sL hx gx
    have VW:=aj kW
    clear kW
    go_upto_block 5 with fail
    go_cut [12,16,101] from 101 to 163 (fun v12 v16 Tt wc=>∃dn:Nat,v12=.bool false∧v16=.int .u8 (dn:Int)∧Tt=.int .i64 (k:Int)∧wc=wr∧dn<36∧Hid (Eg x=some dn))
    case first =>
     clear ha DZ a0 a1
     by_cases hd:48≤x∧x≤57
     ·have Hv:Hid (Eg x=some (x-48)):=by unfold Eg;rw[if_pos hd];rfl
      obtain ⟨d1,d2⟩:=hd
      have Wq:=rk (c:=x) (k:=95) (by omega);have b1:=nc (c:=x) (k:=48) (by omega);have b2:=Ws (c:=x) (k:=57) (by omega)
      go_wp2
      go_meet
      case rel=>exact ⟨x-48,rfl,by go_num,rfl,rfl,by omega,Hv⟩
     ·obtain ⟨lx,FO⟩:∃lx,lx=low x:=⟨_,rfl⟩
      have eQ:=fun w=>JM w x fO
      simp only[←FO] at eQ
      by_cases hu:65≤x∧x≤90
      ·have Hv:Hid (Eg x=some (x-55)):=by unfold Eg;rw[if_neg hd,if_pos hu];rfl
       have dI:=T' hu.1 hu.2
       rw[←FO] at dI
       obtain ⟨u1,u2⟩:=hu
       have Wq:=rk (c:=x) (k:=95) (by omega);have b1:=nc (c:=x) (k:=48) (by omega);have b2:=oW (c:=x) (k:=57) (by omega)
       have l1:=nc (c:=lx) (k:=97) (by omega);have l2:=Ws (c:=lx) (k:=122) (by omega)
       have l3:97≤lx:=by omega
       have l4:lx≤122:=by omega
       clear FO hd
       go_wp2_with (go_at_call 139;refine (eQ _).mono ?_;rintro e w' ⟨rfl,rfl⟩)
       go_meet
       case rel=>exact ⟨x-55,rfl,by congr 1;omega,rfl,rfl,by omega,Hv⟩
      ·by_cases hl:97≤x∧x≤122
       ·have Hv:Hid (Eg x=some (x-87)):=by unfold Eg;rw[if_neg hd,if_neg hu,if_pos hl];rfl
        have dI:=MN hl.1 hl.2
        rw[←FO] at dI
        obtain ⟨u1,u2⟩:=hl
        have Wq:=rk (c:=x) (k:=95) (by omega);have b1:=nc (c:=x) (k:=48) (by omega);have b2:=oW (c:=x) (k:=57) (by omega)
        have l1:=nc (c:=lx) (k:=97) (by omega);have l2:=Ws (c:=lx) (k:=122) (by omega)
        have l3:97≤lx:=by omega
        have l4:lx≤122:=by omega
        clear FO hd hu
        go_wp2_with (go_at_call 139;refine (eQ _).mono ?_;rintro e w' ⟨rfl,rfl⟩)
        go_meet
        case rel=>exact ⟨x-87,rfl,by congr 1;omega,rfl,rfl,by omega,Hv⟩
       ·have hv:Eg x=none:=by unfold Eg;rw[if_neg hd,if_neg hu,if_neg hl]
        have dI:=MM fO hu hl
        rw[←FO] at dI
        have hn:cK B M (aH s) 0=none:=by rw[aa VW];simp only[cK,hv]
        have Hn:=aj hn
        clear hn
        have UN:x<48∨57<x:=by omega
        clear FO hd hu hl hv
        by_cases x95:x=95
        ·have Wq:((x:Int)==95)=true:=by simp;omega
         have b1:=nc (c:=x) (k:=48) (by omega);have b2:=oW (c:=x) (k:=57) (by omega)
         clear UN x95
         rcases dI with dI|dI
         ·have l1:=qD (c:=lx) (k:=97) (by omega)
          go_wp2_with (go_at_call 139;refine (eQ _).mono ?_;rintro e w' ⟨rfl,rfl⟩)
          go_ret2
          exact PU.bad _ 2 (aa yC) (.inr rfl) (.inr (aa Hn))
         ·have l1:=nc (c:=lx) (k:=97) (by omega);have l2:=oW (c:=lx) (k:=122) (by omega)
          go_wp2_with (go_at_call 139;refine (eQ _).mono ?_;rintro e w' ⟨rfl,rfl⟩)
          go_ret2
          exact PU.bad _ 2 (aa yC) (.inr rfl) (.inr (aa Hn))
        ·have Wq:=rk (c:=x) (k:=95) (by omega)
         rcases UN with UN|UN
         ·have b1:=qD (c:=x) (k:=48) (by omega)
          rcases dI with dI|dI
          ·have l1:=qD (c:=lx) (k:=97) (by omega)
           go_wp2_with (go_at_call 139;refine (eQ _).mono ?_;rintro e w' ⟨rfl,rfl⟩)
           go_ret2
           exact PU.bad _ 2 (aa yC) (.inr rfl) (.inr (aa Hn))
          ·have l1:=nc (c:=lx) (k:=97) (by omega);have l2:=oW (c:=lx) (k:=122) (by omega)
           go_wp2_with (go_at_call 139;refine (eQ _).mono ?_;rintro e w' ⟨rfl,rfl⟩)
           go_ret2
           exact PU.bad _ 2 (aa yC) (.inr rfl) (.inr (aa Hn))
         ·have b1:=nc (c:=x) (k:=48) (by omega);have b2:=oW (c:=x) (k:=57) (by omega)
          rcases dI with dI|dI
          ·have l1:=qD (c:=lx) (k:=97) (by omega)
           go_wp2_with (go_at_call 139;refine (eQ _).mono ?_;rintro e w' ⟨rfl,rfl⟩)
           go_ret2
           exact PU.bad _ 2 (aa yC) (.inr rfl) (.inr (aa Hn))
          ·have l1:=nc (c:=lx) (k:=97) (by omega);have l2:=oW (c:=lx) (k:=122) (by omega)
           go_wp2_with (go_at_call 139;refine (eQ _).mono ?_;rintro e w' ⟨rfl,rfl⟩)
           go_ret2
           exact PU.bad _ 2 (aa yC) (.inr rfl) (.inr (aa Hn))
    case rest =>
     obtain ⟨dn,rfl,rfl,rfl,rfl,hdn,Hv⟩:=hcut
     have kW:=aa VW
     have hv:=aa Hv
     simp only[cK,hv] at kW
     clear VW Hv
     by_cases h8:dn<B
     ·obtain ⟨i8,i9⟩:=(aa HK).k1 dn h8
      rcases (aa HK).k3 a acc dn ha with ⟨XZ,rb⟩|XZ
      ·first
       |(exfalso;omega)
       |(rw[if_neg (fun q=>rb q.2)] at kW
         have Hn:=aj kW
         clear kW ha DZ hv rb h8
         go_wp2
         go_ret2
         exact PU.bad _ 1 (aa yC) (.inl rfl) (.inr (aa Hn)))
      rcases (aa HK).k5 a acc dn ha XZ hdn with ⟨iov,hwr,rb⟩|iov
      ·first
       |(exfalso;omega)
       |(rw[if_neg (fun q=>rb q.2)] at kW
         have Hn:=aj kW
         clear kW ha DZ hv rb h8
         go_wp2
         go_ret2
         exact PU.bad _ 1 (aa yC) (.inl rfl) (.inr (aa Hn)))
      rcases (aa HK).k7 a acc dn ha with ⟨imx,QO⟩|⟨imx,rb⟩
      ·have HN:=aj (show _∧_∧cK B M (aH s) 0=cK B M ((aH s).drop (k+1)) (acc*B+dn) from ⟨(aa HK).k6 a acc dn ha,QO,by rw[kW,if_pos ⟨h8,QO⟩]⟩)
       clear kW ha DZ hv QO h8
       go_wp2
       go_roundg (s.size-(k+1))
       case measure=>have:=aa gA;omega
       case rel=>exact ⟨k+1,acc*B+dn,_,rfl,by go_num,by go_num,by omega,rfl,rfl,HN⟩
      ·rw[if_neg (fun q=>rb q.2)] at kW
       have Hn:=aj kW
       clear kW ha DZ hv rb h8
       go_wp2
       go_ret2
       exact PU.bad _ 1 (aa yC) (.inl rfl) (.inr (aa Hn))
     ·obtain ⟨i8,i9⟩:=(aa HK).k2 dn h8
      rw[if_neg (fun q=>h8 q.1)] at kW
      have Hn:=aj kW
      clear kW ha DZ hv h8
      go_wp2
      go_ret2
      exact PU.bad _ 2 (aa yC) (.inr rfl) (.inr (aa Hn))
   ·obtain rfl:k=s.size:=by omega
    have Cz:(aH s).drop s.size=[]:=List.drop_eq_nil_of_le (by rw[bk];omega)
    rw[Cz] at kW
    have Hd:Hid (cK B M (aH s) 0=some acc):=kW
    have Ha:=aj ha
    clear kW Cz ha DZ
    go_wp2
    go_ret2
    rw[aa Ha]
    exact PU.aa9 acc (aa yC) (by omega) (aa Hd)
end Go.Proofs.YtmlphohdcejniaaGreatDoor
namespace Go.Proofs
open Go.Shelf
def Tryz.BA:Go.Shelf.Ren:=⟨fun|17=>115|21=>141|22=>142|23=>143|24=>144|25=>45|27=>41|26=>168|28=>57|29=>85|30=>110|31=>111|32=>112|33=>113|35=>135|34=>134|36=>136|37=>137|38=>138|39=>166|40=>167|n=>n,fun|9=>9|3=>3|24=>143|34=>180|4=>4|39=>182|44=>210|37=>54|0=>0|47=>118|50=>219|48=>217|2=>2|52=>158|22=>141|5=>5|55=>161|59=>175|60=>176|20=>20|61=>177|36=>173|65=>215|66=>216|67=>120|n=>n,fun|0=>5|1=>6|2=>2|3=>7|4=>8|n=>n⟩
theorem Tryz.DI:Go.Proofs.LaysPu.n17 Tryz.prog Tryz.BA:={
 mixed:=by kernel_rfl
 f17:=Tryz.func115.trans (congrArg some (by kernel_rfl))
 f21:=Tryz.func141.trans (congrArg some (by kernel_rfl))
 f22:=Tryz.func142.trans (congrArg some (by kernel_rfl))
 f23:=Tryz.func143.trans (congrArg some (by kernel_rfl))
 f24:=Tryz.func144.trans (congrArg some (by kernel_rfl))
 f25:=Tryz.func45.trans (congrArg some (by kernel_rfl))
 f26:=Tryz.func168.trans (congrArg some (by kernel_rfl))
 f27:=Tryz.func41.trans (congrArg some (by kernel_rfl))
 f28:=Tryz.func57.trans (congrArg some (by kernel_rfl))
 f29:=Tryz.func85.trans (congrArg some (by kernel_rfl))
 f30:=Tryz.func110.trans (congrArg some (by kernel_rfl))
 f31:=Tryz.func111.trans (congrArg some (by kernel_rfl))
 f32:=Tryz.func112.trans (congrArg some (by kernel_rfl))
 f33:=Tryz.func113.trans (congrArg some (by kernel_rfl))
 f34:=Tryz.func134.trans (congrArg some (by kernel_rfl))
 f35:=Tryz.func135.trans (congrArg some (by kernel_rfl))
 f36:=Tryz.func136.trans (congrArg some (by kernel_rfl))
 f37:=Tryz.func137.trans (congrArg some (by kernel_rfl))
 f38:=Tryz.func138.trans (congrArg some (by kernel_rfl))
 f39:=Tryz.func166.trans (congrArg some (by kernel_rfl))
 f40:=Tryz.func167.trans (congrArg some (by kernel_rfl))
 t0:=Tryz.underlying0
 a0:=Tryz.isAgg0
 z0:=Tryz.sizeOf0
 v0:=Tryz.zeroValue0
 i0:=by kernel_rfl
 t2:=Tryz.underlying2
 a2:=Tryz.isAgg2
 z2:=Tryz.sizeOf2
 v2:=Tryz.zeroValue2
 i2:=by kernel_rfl
 t3:=Tryz.underlying3
 a3:=Tryz.isAgg3
 z3:=Tryz.sizeOf3
 v3:=Tryz.zeroValue3
 i3:=by kernel_rfl
 t4:=Tryz.underlying4
 a4:=Tryz.isAgg4
 z4:=Tryz.sizeOf4
 v4:=Tryz.zeroValue4
 i4:=by kernel_rfl
 t5:=Tryz.underlying5
 a5:=Tryz.isAgg5
 z5:=Tryz.sizeOf5
 v5:=Tryz.zeroValue5
 i5:=by kernel_rfl
 t9:=Tryz.underlying9
 a9:=Tryz.isAgg9
 z9:=Tryz.sizeOf9
 v9:=Tryz.zeroValue9
 i9:=by kernel_rfl
 t20:=Tryz.underlying20
 a20:=Tryz.isAgg20
 z20:=Tryz.sizeOf20
 v20:=Tryz.zeroValue20
 i20:=by kernel_rfl
 t22:=Tryz.underlying141
 a22:=Tryz.isAgg141
 z22:=Tryz.sizeOf141
 v22:=Tryz.zeroValue141
 i22:=by kernel_rfl
 t24:=Tryz.underlying143
 a24:=Tryz.isAgg143
 z24:=Tryz.sizeOf143
 v24:=Tryz.zeroValue143
 i24:=by kernel_rfl
 t34:=Tryz.underlying180
 a34:=Tryz.isAgg180
 z34:=Tryz.sizeOf180
 v34:=Tryz.zeroValue180
 i34:=by kernel_rfl
 c34:=by kernel_rfl
 t36:=Tryz.underlying173
 a36:=Tryz.isAgg173
 z36:=Tryz.sizeOf173
 v36:=Tryz.zeroValue173
 i36:=by kernel_rfl
 t37:=Tryz.underlying54
 a37:=Tryz.isAgg54
 z37:=Tryz.sizeOf54
 v37:=Tryz.zeroValue54
 i37:=by kernel_rfl
 t39:=Tryz.underlying182
 a39:=Tryz.isAgg182
 z39:=Tryz.sizeOf182
 v39:=Tryz.zeroValue182
 i39:=by kernel_rfl
 t44:=Tryz.underlying210
 a44:=Tryz.isAgg210
 z44:=Tryz.sizeOf210
 v44:=Tryz.zeroValue210
 i44:=by kernel_rfl
 t47:=Tryz.underlying118
 a47:=Tryz.isAgg118
 z47:=Tryz.sizeOf118
 v47:=Tryz.zeroValue118
 i47:=by kernel_rfl
 t48:=Tryz.underlying217
 a48:=Tryz.isAgg217
 z48:=Tryz.sizeOf217
 v48:=Tryz.zeroValue217
 i48:=by kernel_rfl
 t50:=Tryz.underlying219
 a50:=Tryz.isAgg219
 z50:=Tryz.sizeOf219
 v50:=Tryz.zeroValue219
 i50:=by kernel_rfl
 t52:=Tryz.underlying158
 a52:=Tryz.isAgg158
 z52:=Tryz.sizeOf158
 v52:=Tryz.zeroValue158
 i52:=by kernel_rfl
 t55:=Tryz.underlying161
 a55:=Tryz.isAgg161
 z55:=Tryz.sizeOf161
 v55:=Tryz.zeroValue161
 i55:=by kernel_rfl
 t59:=Tryz.underlying175
 a59:=Tryz.isAgg175
 z59:=Tryz.sizeOf175
 v59:=Tryz.zeroValue175
 i59:=by kernel_rfl
 t60:=Tryz.underlying176
 a60:=Tryz.isAgg176
 z60:=Tryz.sizeOf176
 v60:=Tryz.zeroValue176
 i60:=by kernel_rfl
 t61:=Tryz.underlying177
 a61:=Tryz.isAgg177
 z61:=Tryz.sizeOf177
 t65:=Tryz.underlying215
 a65:=Tryz.isAgg215
 z65:=Tryz.sizeOf215
 v65:=Tryz.zeroValue215
 i65:=by kernel_rfl
 t66:=Tryz.underlying216
 a66:=Tryz.isAgg216
 z66:=Tryz.sizeOf216
 v66:=Tryz.zeroValue216
 i66:=by kernel_rfl
 t67:=Tryz.underlying120
 a67:=Tryz.isAgg120
 z67:=Tryz.sizeOf120
 v67:=Tryz.zeroValue120
 i67:=by kernel_rfl
 g0:=by kernel_rfl
 m0:=by kernel_rfl
 g1:=by kernel_rfl
 m1:=by kernel_rfl
 g2:=by kernel_rfl
 m2:=by kernel_rfl
 g3:=by kernel_rfl
 m3:=by kernel_rfl
 g4:=by kernel_rfl
 m4:=by kernel_rfl }
end Go.Proofs
namespace Go.Proofs.YtmlphohdcejniaaGreatDoor
open Go.RowKit
attribute [local go_sem ↓] Go.wp_at_zero Go.wp_at_succ
def KD (W:World) (g:Nat):Prop:=g<W.heap.size∧∃ev,W.cell? ⟨g,0,none⟩=some ev∧(ev=.nilIface∨∃te pe,ev=.iface te pe)
def gM (W:World):Prop:=KD W 5∧KD W 6
theorem KD.up {W w:World}{g:Nat} (h:KD W g) (hb:Below W.heap.size W w):KD w g:=by
 obtain ⟨h1,ev,h2,h3⟩:=h
 exact ⟨Nat.lt_of_lt_of_le h1 hb.size,ev,(hb.cell (p:=⟨g,0,none⟩) h1).trans h2,h3⟩
theorem gM.up {W w:World} (h:gM W) (hb:Below W.heap.size W w):gM w:=⟨h.1.up hb,h.2.up hb⟩
def WV (W:World) (B M:Nat) (s:ByteArray) (e:Ending) (w:World):Prop:=Below W.heap.size W w ∧
 ((∃u:Nat,e=.returned (.tuple #[.int .u64 (u:Int),.nilIface])∧0<s.size∧cK B M (aH s) 0=some u) ∨
  (∃(u:Int) (p:Value),e=.returned (.tuple #[.int .u64 u,.iface 182 p])∧(s.size=0∨cK B M (aH s) 0=none)))
theorem Ja {W:World} (h:gM W) (s:ByteArray) (hs:s.size≤65536) (b t c:Int) (hc:c=1∨c=2) (fn:ByteArray) :
  Calls Tryz.prog 115 #[.string fn,.string s,.int .i64 b,.int .i64 t,.iface 180 (.int .i64 c)] W fun e w=>∃p,e=.returned (.iface 182 p)∧Below W.heap.size W w:=by
 rcases hc with rfl|rfl
 ·obtain ⟨_,ev,h2,h3⟩:=h.2
  refine (AnyPu.strconv_toError_range Tryz.DI fn s b t ev W (by omega) h2 h3).mono ?_
  rintro e w ⟨n,he,_,_,hb⟩
  exact ⟨_,he,hb⟩
 ·obtain ⟨_,ev,h2,h3⟩:=h.1
  refine (AnyPu.strconv_toError_syntax Tryz.DI fn s b t ev W (by omega) h2 h3).mono ?_
  rintro e w ⟨n,he,_,_,hb⟩
  exact ⟨_,he,hb⟩
theorem kC {W:World} (h:gM W) (s:ByteArray) (hs:s.size≤65536) (B M:Nat) (b t:Int)
  (KO:Calls Tryz.prog 114 #[.string s,.int .i64 b,.int .i64 t] W (PU W B M s)) :
  Calls Tryz.prog 86 #[.string s,.int .i64 b,.int .i64 t] W (WV W B M s):=by
 have dZ:=zE W.heap.size W
 go_enter Tryz.func86,Tryz.ntmps86
 go_wp2_with fail
 refine KO.mono ?_
 rintro e w1 ⟨bF,⟨u,rfl,hu⟩|⟨u,c,rfl,hc,hu⟩⟩
 ·have Hb:=aj bF
  have Hu:=aj hu
  clear bF hu KO
  go_wp2
  go_ret2
  exact ⟨aa Hb,.inl ⟨u,rfl,aa Hu⟩⟩
 ·have Hb:=aj bF
  have Hu:=aj hu
  have Hc:=aj hc
  clear bF hu KO hc
  go_wp2_with fail
  refine (Ja (h.up (aa Hb)) s hs b t c (aa Hc) _).mono ?_
  rintro e w2 ⟨p,rfl,bJ⟩
  have Zb:Below W.heap.size W w2:=(aa Hb).trans (bJ.mono (aa Hb).size)
  have AW:=aj Zb
  clear bJ Zb
  go_wp2
  go_ret2
  exact ⟨aa AW,.inr ⟨u,p,rfl,aa Hu⟩⟩
end Go.Proofs.YtmlphohdcejniaaGreatDoor
namespace Go.Proofs.YtmlphohdcejniaaGreatDoor
open Go.RowKit
def KC (l:List Nat) (n c:Int):Prop:=(∃u:Nat,wv l=some u∧n=(u:Int)∧c=0)∨(wv l=none∧n=0∧c=41)
def OR (W:World) (l:List Nat) (e:Ending) (w:World):Prop:=Below W.heap.size W w∧∃n c:Int,e=.returned (.tuple #[.int .i64 n,.int .i64 c])∧KC l n c
end Go.Proofs.YtmlphohdcejniaaGreatDoor
namespace Go.Proofs.YtmlphohdcejniaaGreatDoor
open Go.RowKit
attribute [local go_sem ↓] Go.wp_at_zero Go.wp_at_succ
theorem GV {W:World} (h:gM W) (s:ByteArray) (hs:s.size≤65536) :
  Calls Tryz.prog 86 #[.string s,.int .i64 16,.int .i64 63] W (WV W 16 9223372036854775807 s) ∧
  Calls Tryz.prog 86 #[.string s,.int .i64 10,.int .i64 63] W (WV W 10 9223372036854775807 s) ∧
  Calls Tryz.prog 86 #[.string s,.int .i64 8,.int .i64 63] W (WV W 8 9223372036854775807 s):=by
 exact ⟨kC h s hs _ _ _ _ (xb (Or.inl ⟨rfl,rfl,rfl,rfl,rfl,rfl⟩) W s hs),kC h s hs _ _ _ _ (xb (Or.inr (Or.inl ⟨rfl,rfl,rfl,rfl,rfl,rfl⟩)) W s hs),kC h s hs _ _ _ _ (xb (Or.inr (Or.inr (Or.inl ⟨rfl,rfl,rfl,rfl,rfl,rfl⟩))) W s hs)⟩
theorem hJ {W w:World}{l:List Nat} (n c:Int) (hb:Below W.heap.size W w) (h:KC l n c):OR W l (.returned (.tuple #[.int .i64 n,.int .i64 c])) w:=⟨hb,n,c,rfl,h⟩
theorem TN (s p:ByteArray) {l:List Nat} (hp:aH p=l) (hn:p.size=l.length):Cn s p↔(aH s).take l.length=l:=by
 unfold Cn
 rw[hp,hn]
theorem zx {W:World} (h:gM W) (s:ByteArray) (hs:s.size≤65536):Calls Tryz.prog 66 #[.string s] W (OR W (aH s)):=by
 have q1:Cn s ⟨#[48,120]⟩↔(aH s).take 2=[48,120]:=TN s ⟨#[48,120]⟩ (l:=[48,120]) rfl rfl
 have q2:Cn s ⟨#[48,88]⟩↔(aH s).take 2=[48,88]:=TN s ⟨#[48,88]⟩ (l:=[48,88]) rfl rfl
 have q3:Cn s ⟨#[48]⟩↔(aH s).take 1=[48]:=TN s ⟨#[48]⟩ (l:=[48]) rfl rfl
 have Q1:=aj q1
 have Q2:=aj q2
 have Q3:=aj q3
 clear q1 q2 q3
 go_enter Tryz.func66,Tryz.ntmps66
 go_wp2_with fail
 refine (gK W s _).mono ?_
 rintro e w' ⟨rfl,he⟩
 obtain rfl:W=w':=he.symm
 by_cases c1:Cn s ⟨#[48,120]⟩
 ·rw[Ju c1]
  have l1:=(aa Q1).1 c1
  have yL:2≤s.size:=by have:=congrArg List.length l1;rw[List.length_take,bk] at this;simp at this;omega
  have FJ:wv (aH s)=if s.size=2 then none else cK 16 9223372036854775807 ((aH s).drop 2) 0:=by unfold wv;rw[if_pos (.inl l1),bk]
  have hx:=bc s 2 s.size
  have Po:(s.extract 2 s.size).size=s.size-2:=by rw[←bk,hx,List.length_take,List.length_drop,bk];omega
  have fO:aH (s.extract 2 s.size)=(aH s).drop 2:=by rw[hx,List.take_of_length_le (by rw[List.length_drop,bk];omega)]
  have hg:∀u,0<(s.extract 2 s.size).size→cK 16 9223372036854775807 (aH (s.extract 2 s.size)) 0=some u→wv (aH s)=some u:=fun u h1 h2=>by rw[FJ,if_neg (by omega),←fO,h2]
  have pF:((s.extract 2 s.size).size=0∨cK 16 9223372036854775807 (aH (s.extract 2 s.size)) 0=none)→wv (aH s)=none:=fun hh=>by
   rw[FJ]
   split
   ·rfl
   ·rcases hh with hh|hh
    ·omega
    ·rw[←fO,hh]
  clear hx fO FJ l1
  go_wp2_with fail
  refine ((GV h _ (by omega)).1).mono ?_
  rintro e w1 ⟨bF,⟨u,rfl,hz,hu⟩|⟨u,p,rfl,hu⟩⟩
  ·have hw:=hg u hz hu
   have hle:=CF hw
   have Hw:=aj hw
   have Hb:=aj bF
   clear hw hu hz bF hg pF
   go_wp2
   go_ret2
   exact hJ _ _ (aa Hb) (.inl ⟨u,aa Hw,by go_num,rfl⟩)
  ·have hw:=pF hu
   have Hw:=aj hw
   have Hb:=aj bF
   clear hw hu bF hg pF
   go_wp2
   go_ret2
   exact hJ _ _ (aa Hb) (.inr ⟨aa Hw,rfl,rfl⟩)
 ·rw[Fo c1]
  go_wp2_with fail
  refine (gK W s _).mono ?_
  rintro e w' ⟨rfl,he⟩
  obtain rfl:W=w':=he.symm
  by_cases c2:Cn s ⟨#[48,88]⟩
  ·rw[Ju c2]
   have l1:=(aa Q2).1 c2
   have yL:2≤s.size:=by have:=congrArg List.length l1;rw[List.length_take,bk] at this;simp at this;omega
   have FJ:wv (aH s)=if s.size=2 then none else cK 16 9223372036854775807 ((aH s).drop 2) 0:=by unfold wv;rw[if_pos (.inr l1),bk]
   have hx:=bc s 2 s.size
   have Po:(s.extract 2 s.size).size=s.size-2:=by rw[←bk,hx,List.length_take,List.length_drop,bk];omega
   have fO:aH (s.extract 2 s.size)=(aH s).drop 2:=by rw[hx,List.take_of_length_le (by rw[List.length_drop,bk];omega)]
   have hg:∀u,0<(s.extract 2 s.size).size→cK 16 9223372036854775807 (aH (s.extract 2 s.size)) 0=some u→wv (aH s)=some u:=fun u h1 h2=>by rw[FJ,if_neg (by omega),←fO,h2]
   have pF:((s.extract 2 s.size).size=0∨cK 16 9223372036854775807 (aH (s.extract 2 s.size)) 0=none)→wv (aH s)=none:=fun hh=>by
    rw[FJ]
    split
    ·rfl
    ·rcases hh with hh|hh
     ·omega
     ·rw[←fO,hh]
   clear hx fO FJ l1
   go_wp2_with fail
   refine ((GV h _ (by omega)).1).mono ?_
   rintro e w1 ⟨bF,⟨u,rfl,hz,hu⟩|⟨u,p,rfl,hu⟩⟩
   ·have hw:=hg u hz hu
    have hle:=CF hw
    have Hw:=aj hw
    have Hb:=aj bF
    clear hw hu hz bF hg pF
    go_wp2
    go_ret2
    exact hJ _ _ (aa Hb) (.inl ⟨u,aa Hw,by go_num,rfl⟩)
   ·have hw:=pF hu
    have Hw:=aj hw
    have Hb:=aj bF
    clear hw hu bF hg pF
    go_wp2
    go_ret2
    exact hJ _ _ (aa Hb) (.inr ⟨aa Hw,rfl,rfl⟩)
  ·rw[Fo c2]
   have n1:=mt (aa Q1).2 c1
   have n2:=mt (aa Q2).2 c2
   go_wp2_with fail
   refine (gK W s _).mono ?_
   rintro e w' ⟨rfl,he⟩
   obtain rfl:W=w':=he.symm
   by_cases c3:Cn s ⟨#[48]⟩
   ·rw[Ju c3]
    have l3:=(aa Q3).1 c3
    have FJ:wv (aH s)=cK 8 9223372036854775807 (aH s) 0:=by unfold wv;rw[if_neg (fun o=>o.elim n1 n2),if_pos l3]
    have DS:1≤s.size:=by have:=congrArg List.length l3;rw[List.length_take,bk] at this;simp at this;omega
    have hg:∀u,0<s.size→cK 8 9223372036854775807 (aH s) 0=some u→wv (aH s)=some u:=fun u _ h2=>by rw[FJ,h2]
    have pF:(s.size=0∨cK 8 9223372036854775807 (aH s) 0=none)→wv (aH s)=none:=fun hh=>by
     rcases hh with hh|hh
     ·omega
     ·rw[FJ,hh]
    clear FJ n1 n2 l3
    go_wp2_with fail
    refine ((GV h s hs).2.2).mono ?_
    rintro e w1 ⟨bF,⟨u,rfl,hz,hu⟩|⟨u,p,rfl,hu⟩⟩
    ·have hw:=hg u hz hu
     have hle:=CF hw
     have Hw:=aj hw
     have Hb:=aj bF
     clear hw hu hz bF hg pF
     go_wp2
     go_ret2
     exact hJ _ _ (aa Hb) (.inl ⟨u,aa Hw,by go_num,rfl⟩)
    ·have hw:=pF hu
     have Hw:=aj hw
     have Hb:=aj bF
     clear hw hu bF hg pF
     go_wp2
     go_ret2
     exact hJ _ _ (aa Hb) (.inr ⟨aa Hw,rfl,rfl⟩)
   ·rw[Fo c3]
    have n3:=mt (aa Q3).2 c3
    have FJ:wv (aH s)=if aH s=[] then none else cK 10 9223372036854775807 (aH s) 0:=by unfold wv;rw[if_neg (fun o=>o.elim n1 n2),if_neg n3]
    have hg:∀u,0<s.size→cK 10 9223372036854775807 (aH s) 0=some u→wv (aH s)=some u:=fun u h1 h2=>by
     have eo:¬aH s=[]:=fun e=>by
      have h9:(aH s).length=0:=by rw[e];rfl
      rw[bk] at h9
      omega
     rw[FJ,if_neg eo,h2]
    have pF:(s.size=0∨cK 10 9223372036854775807 (aH s) 0=none)→wv (aH s)=none:=fun hh=>by
     rw[FJ]
     split
     ·rfl
     ·rename_i eo
      rcases hh with hh|hh
      ·exact absurd (List.eq_nil_of_length_eq_zero (by rw[bk];exact hh)) eo
      ·exact hh
    clear FJ n1 n2 n3
    go_wp2_with fail
    refine ((GV h s hs).2.1).mono ?_
    rintro e w1 ⟨bF,⟨u,rfl,hz,hu⟩|⟨u,p,rfl,hu⟩⟩
    ·have hw:=hg u hz hu
     have hle:=CF hw
     have Hw:=aj hw
     have Hb:=aj bF
     clear hw hu hz bF hg pF
     go_wp2
     go_ret2
     exact hJ _ _ (aa Hb) (.inl ⟨u,aa Hw,by go_num,rfl⟩)
    ·have hw:=pF hu
     have Hw:=aj hw
     have Hb:=aj bF
     clear hw hu bF hg pF
     go_wp2
     go_ret2
     exact hJ _ _ (aa Hb) (.inr ⟨aa Hw,rfl,rfl⟩)
theorem KC.same {l:List Nat}{n c m d:Int} (h:KC l n c) (k:KC l m d):n=m∧c=d:=by
 rcases h with ⟨u,h1,rfl,rfl⟩|⟨h1,rfl,rfl⟩<;>rcases k with ⟨v,k1,rfl,rfl⟩|⟨k1,rfl,rfl⟩
 ·rw[h1] at k1;obtain rfl:=zC k1;exact ⟨rfl,rfl⟩
 ·rw[h1] at k1;cases k1
 ·rw[h1] at k1;cases k1
 ·exact ⟨rfl,rfl⟩
end Go.Proofs.YtmlphohdcejniaaGreatDoor
