import Derived.Test.YtjophoclfccmcaaGreatDoorM02
import Derived.Deep.CutBlock
import Derived.Shelf.Pu.ToError
import Derived.Shelf.Pu.ToErrorRange
set_option maxHeartbeats 40000000
set_option maxRecDepth 100000
namespace Go.Proofs.YtjophoclfccmcaaGreatDoor
open Go.RowKit
attribute [local go_sem ↓] Go.wp_at_zero Go.wp_at_succ
def PBx (Bi bi Ci Mi:Int) (B M:Nat):Prop:=(Bi=16∧bi=63∧Ci=1152921504606846976∧Mi=9223372036854775807∧B=16∧M=9223372036854775807)∨(Bi=10∧bi=63∧Ci=1844674407370955162∧Mi=9223372036854775807∧B=10∧M=9223372036854775807)∨(Bi=8∧bi=63∧Ci=2305843009213693952∧Mi=9223372036854775807∧B=8∧M=9223372036854775807)∨(Bi=16∧bi=8∧Ci=1152921504606846976∧Mi=255∧B=16∧M=255)∨(Bi=8∧bi=8∧Ci=2305843009213693952∧Mi=255∧B=8∧M=255)
structure PKx (Bi Ci Mi:Int) (B M:Nat):Prop where
 k1:∀d:Nat,d<B→(d:Int)<Bi∧decide (Bi≤(d:Int))=false
 k2:∀d:Nat,¬d<B→Bi≤(d:Int)∧decide (Bi≤(d:Int))=true
 k3:∀(a:Int) (acc d:Nat),a=(acc:Int)→Ci≤a∧¬acc*B+d≤M∨a<Ci
 k5:∀(a:Int) (acc d:Nat),a=(acc:Int)→a<Ci→d<36→(18446744073709551616≤a*Bi+(d:Int)∧IntKind.u64.wrap (a*Bi+(d:Int))=a*Bi+(d:Int)-18446744073709551616∧¬acc*B+d≤M)∨a*Bi+(d:Int)<18446744073709551616
 k6:∀(a:Int) (acc d:Nat),a=(acc:Int)→a*Bi+(d:Int)=((acc*B+d:Nat):Int)
 k7:∀(a:Int) (acc d:Nat),a=(acc:Int)→(a*Bi+(d:Int)≤Mi∧acc*B+d≤M)∨(Mi<a*Bi+(d:Int)∧¬acc*B+d≤M)
 k8:∀(a:Int) (acc:Nat),a=(acc:Int)→acc≤M→a≤Mi
theorem PBx.pk {Bi bi Ci Mi:Int}{B M:Nat} (h:PBx Bi bi Ci Mi B M):PKx Bi Ci Mi B M:=by
 rcases h with ⟨rfl,rfl,rfl,rfl,rfl,rfl⟩|⟨rfl,rfl,rfl,rfl,rfl,rfl⟩|⟨rfl,rfl,rfl,rfl,rfl,rfl⟩|⟨rfl,rfl,rfl,rfl,rfl,rfl⟩|⟨rfl,rfl,rfl,rfl,rfl,rfl⟩
 all_goals
  refine ⟨fun d h=>⟨by omega,by simp;omega⟩,fun d h=>⟨by omega,by simp;omega⟩,fun a acc d h=>by omega,fun a acc d h h2 h3=>?_,fun a acc d h=>by omega,fun a acc d h=>?_,fun a acc h h2=>by omega⟩
  ·rw[IntKind.wrap_u64]
   by_cases q:18446744073709551616≤acc*16+d
   ·omega
   ·omega
  ·omega
theorem yj {Bi bi Ci Mi:Int}{B M:Nat} (hb:PBx Bi bi Ci Mi B M) (W:World) (s:ByteArray) (hs:s.size≤65536):Calls Tryz.prog 135 #[.string s,.int .i64 Bi,.int .i64 bi] W (PU W B M s):=by
 by_cases h0:s.size=0
 ·obtain rfl:=rp h0
  rcases hb with ⟨rfl,rfl,rfl,rfl,-,-⟩|⟨rfl,rfl,rfl,rfl,-,-⟩|⟨rfl,rfl,rfl,rfl,-,-⟩|⟨rfl,rfl,rfl,rfl,-,-⟩|⟨rfl,rfl,rfl,rfl,-,-⟩
  all_goals
   go_enter Tryz.func135,Tryz.ntmps135
   go_wp2
   go_ret2
   exact PU.bad _ 2 (zE _ _) (.inr rfl) (.inl h0)
 have HK:=ab hb.pk
 have e0:=rq h0
 have Z0:=Lib.run_convert_string_bytes (P:=Tryz.prog) W 9 94 5 s (u:=.string) Tryz.underlying9 Tryz.underlying94 Tryz.underlying5
 have hB:∀(j x:Nat),(aI s)[j]?=some x→(Lib.bytesWorld W 5 s).cell? ⟨W.heap.size,j,none⟩=some (.int .u8 (x:Int)):=fun j x hx=>by
  rw[Lib.bytesWorld_cell W 5 s j (by have:=(zB hx).1;rwa [bG] at this),JN s j x hx]
 have DZ:Below W.heap.size W (Lib.bytesWorld W 5 s):=Lib.bytesWorld_below W 5 s
 obtain ⟨W1,hW1⟩:∃W1,W1=Lib.bytesWorld W 5 s:=⟨_,rfl⟩
 rw[←hW1] at Z0 hB DZ
 have zq:=ab DZ
 have HB:=ab hB
 clear hW1 DZ hB
 rcases hb with ⟨rfl,rfl,rfl,rfl,-,-⟩|⟨rfl,rfl,rfl,rfl,-,-⟩|⟨rfl,rfl,rfl,rfl,-,-⟩|⟨rfl,rfl,rfl,rfl,-,-⟩|⟨rfl,rfl,rfl,rfl,-,-⟩
 all_goals
  go_enter Tryz.func135,Tryz.ntmps135
  go_wp2
  clear Z0
  go_loopg [12,13,15,16,17,101] s.size (fun gk v12 v13 _ _ _ Uu wr=>∃(k acc:Nat) (a:Int),v12=.bool false∧v13=.int .u64 a∧Uu=.int .i64 (k:Int)∧k≤s.size∧gk=s.size-k∧wr=W1∧Hid (a=(acc:Int)∧acc≤M∧cz B M (aI s) 0=cz B M ((aI s).drop k) acc))
  case atStart=>exact ⟨0,0,0,rfl,rfl,rfl,by omega,rfl,rfl,rfl,by omega,rfl⟩
  case round =>
   obtain ⟨k,acc,a,rfl,rfl,rfl,hk,eG,rfl,hh⟩:=hrel
   obtain ⟨ha,ik,bP⟩:=aa hh
   have jw:=ab eG
   clear hh eG
   have a0:0≤a:=by omega
   have a1:=(aa HK).k8 a acc ha ik
   by_cases ID:k<s.size
   ·obtain ⟨x,hx,eL,gx⟩:=cS s k ID
    have dD:=aa HB k x hx
    have fV:(aI s).drop k=x::(aI s).drop (k+1):=by
     obtain ⟨hl,gI⟩:=zB hx
     rw[List.drop_eq_getElem_cons hl,gI]
    rw[fV] at bP
    clear fV hx gx
    have jf:=ab bP
    clear bP
    go_upto_block 5 with fail
    go_cut [12,16,101] from 101 to 163 (fun v12 v16 Uu wc=>∃dn:Nat,v12=.bool false∧v16=.int .u8 (dn:Int)∧Uu=.int .i64 (k:Int)∧wc=wr∧dn<36∧Hid (Ce x=some dn))
    case first =>
     clear ha ik a0 a1
     by_cases hd:48≤x∧x≤57
     ·have Hv:Hid (Ce x=some (x-48)):=by unfold Ce;rw[if_pos hd];rfl
      obtain ⟨d1,d2⟩:=hd
      have Xp:=kL (c:=x) (k:=95) (by omega);have b1:=gd (c:=x) (k:=48) (by omega);have b2:=DK (c:=x) (k:=57) (by omega)
      go_wp2
      go_meet
      case rel=>exact ⟨x-48,rfl,by go_num,rfl,rfl,by omega,Hv⟩
     ·obtain ⟨lx,F6⟩:∃lx,lx=low x:=⟨_,rfl⟩
      have cB:=fun w=>Kh w x eL
      simp only[←F6] at cB
      by_cases hu:65≤x∧x≤90
      ·have Hv:Hid (Ce x=some (x-55)):=by unfold Ce;rw[if_neg hd,if_pos hu];rfl
       have ji:=U6 hu.1 hu.2
       rw[←F6] at ji
       obtain ⟨u1,u2⟩:=hu
       have Xp:=kL (c:=x) (k:=95) (by omega);have b1:=gd (c:=x) (k:=48) (by omega);have b2:=jI (c:=x) (k:=57) (by omega)
       have l1:=gd (c:=lx) (k:=97) (by omega);have l2:=DK (c:=lx) (k:=122) (by omega)
       have l3:97≤lx:=by omega
       have l4:lx≤122:=by omega
       clear F6 hd
       go_wp2_with (go_at_call 158;refine (cB _).mono ?_;rintro e w' ⟨rfl,rfl⟩)
       go_meet
       case rel=>exact ⟨x-55,rfl,by congr 1;omega,rfl,rfl,by omega,Hv⟩
      ·by_cases hl:97≤x∧x≤122
       ·have Hv:Hid (Ce x=some (x-87)):=by unfold Ce;rw[if_neg hd,if_neg hu,if_pos hl];rfl
        have ji:=NG hl.1 hl.2
        rw[←F6] at ji
        obtain ⟨u1,u2⟩:=hl
        have Xp:=kL (c:=x) (k:=95) (by omega);have b1:=gd (c:=x) (k:=48) (by omega);have b2:=jI (c:=x) (k:=57) (by omega)
        have l1:=gd (c:=lx) (k:=97) (by omega);have l2:=DK (c:=lx) (k:=122) (by omega)
        have l3:97≤lx:=by omega
        have l4:lx≤122:=by omega
        clear F6 hd hu
        go_wp2_with (go_at_call 158;refine (cB _).mono ?_;rintro e w' ⟨rfl,rfl⟩)
        go_meet
        case rel=>exact ⟨x-87,rfl,by congr 1;omega,rfl,rfl,by omega,Hv⟩
       ·have hv:Ce x=none:=by unfold Ce;rw[if_neg hd,if_neg hu,if_neg hl]
        have ji:=ND eL hu hl
        rw[←F6] at ji
        have hn:cz B M (aI s) 0=none:=by rw[aa jf];simp only[cz,hv]
        have Hn:=ab hn
        clear hn
        have hdd:x<48∨57<x:=by omega
        clear F6 hd hu hl hv
        by_cases x95:x=95
        ·have Xp:((x:Int)==95)=true:=by simp;omega
         have b1:=gd (c:=x) (k:=48) (by omega);have b2:=jI (c:=x) (k:=57) (by omega)
         clear hdd x95
         rcases ji with ji|ji
         ·have l1:=nj (c:=lx) (k:=97) (by omega)
          go_wp2_with (go_at_call 158;refine (cB _).mono ?_;rintro e w' ⟨rfl,rfl⟩)
          go_ret2
          exact PU.bad _ 2 (aa zq) (.inr rfl) (.inr (aa Hn))
         ·have l1:=gd (c:=lx) (k:=97) (by omega);have l2:=jI (c:=lx) (k:=122) (by omega)
          go_wp2_with (go_at_call 158;refine (cB _).mono ?_;rintro e w' ⟨rfl,rfl⟩)
          go_ret2
          exact PU.bad _ 2 (aa zq) (.inr rfl) (.inr (aa Hn))
        ·have Xp:=kL (c:=x) (k:=95) (by omega)
         rcases hdd with hdd|hdd
         ·have b1:=nj (c:=x) (k:=48) (by omega)
          rcases ji with ji|ji
          ·have l1:=nj (c:=lx) (k:=97) (by omega)
           go_wp2_with (go_at_call 158;refine (cB _).mono ?_;rintro e w' ⟨rfl,rfl⟩)
           go_ret2
           exact PU.bad _ 2 (aa zq) (.inr rfl) (.inr (aa Hn))
          ·have l1:=gd (c:=lx) (k:=97) (by omega);have l2:=jI (c:=lx) (k:=122) (by omega)
           go_wp2_with (go_at_call 158;refine (cB _).mono ?_;rintro e w' ⟨rfl,rfl⟩)
           go_ret2
           exact PU.bad _ 2 (aa zq) (.inr rfl) (.inr (aa Hn))
         ·have b1:=gd (c:=x) (k:=48) (by omega);have b2:=jI (c:=x) (k:=57) (by omega)
          rcases ji with ji|ji
          ·have l1:=nj (c:=lx) (k:=97) (by omega)
           go_wp2_with (go_at_call 158;refine (cB _).mono ?_;rintro e w' ⟨rfl,rfl⟩)
           go_ret2
           exact PU.bad _ 2 (aa zq) (.inr rfl) (.inr (aa Hn))
          ·have l1:=gd (c:=lx) (k:=97) (by omega);have l2:=jI (c:=lx) (k:=122) (by omega)
           go_wp2_with (go_at_call 158;refine (cB _).mono ?_;rintro e w' ⟨rfl,rfl⟩)
           go_ret2
           exact PU.bad _ 2 (aa zq) (.inr rfl) (.inr (aa Hn))
    case rest =>
     obtain ⟨dn,rfl,rfl,rfl,rfl,hdn,Hv⟩:=hcut
     have bP:=aa jf
     have hv:=aa Hv
     simp only[cz,hv] at bP
     clear jf Hv
     by_cases h8:dn<B
     ·obtain ⟨i8,i9⟩:=(aa HK).k1 dn h8
      rcases (aa HK).k3 a acc dn ha with ⟨YZ,pM⟩|YZ
      ·first
       |(exfalso;omega)
       |(rw[if_neg (fun q=>pM q.2)] at bP
         have Hn:=ab bP
         clear bP ha ik hv pM h8
         go_wp2
         go_ret2
         exact PU.bad _ 1 (aa zq) (.inl rfl) (.inr (aa Hn)))
      rcases (aa HK).k5 a acc dn ha YZ hdn with ⟨iov,AQ,pM⟩|iov
      ·first
       |(exfalso;omega)
       |(rw[if_neg (fun q=>pM q.2)] at bP
         have Hn:=ab bP
         clear bP ha ik hv pM h8
         go_wp2
         go_ret2
         exact PU.bad _ 1 (aa zq) (.inl rfl) (.inr (aa Hn)))
      rcases (aa HK).k7 a acc dn ha with ⟨imx,RU⟩|⟨imx,pM⟩
      ·have HN:=ab (show _∧_∧cz B M (aI s) 0=cz B M ((aI s).drop (k+1)) (acc*B+dn) from ⟨(aa HK).k6 a acc dn ha,RU,by rw[bP,if_pos ⟨h8,RU⟩]⟩)
       clear bP ha ik hv RU h8
       go_wp2
       go_roundg (s.size-(k+1))
       case measure=>have:=aa jw;omega
       case rel=>exact ⟨k+1,acc*B+dn,_,rfl,by go_num,by go_num,by omega,rfl,rfl,HN⟩
      ·rw[if_neg (fun q=>pM q.2)] at bP
       have Hn:=ab bP
       clear bP ha ik hv pM h8
       go_wp2
       go_ret2
       exact PU.bad _ 1 (aa zq) (.inl rfl) (.inr (aa Hn))
     ·obtain ⟨i8,i9⟩:=(aa HK).k2 dn h8
      rw[if_neg (fun q=>h8 q.1)] at bP
      have Hn:=ab bP
      clear bP ha ik hv h8
      go_wp2
      go_ret2
      exact PU.bad _ 2 (aa zq) (.inr rfl) (.inr (aa Hn))
   ·obtain rfl:k=s.size:=by omega
    have Ae:(aI s).drop s.size=[]:=List.drop_eq_nil_of_le (by rw[bG];omega)
    rw[Ae] at bP
    have Hd:Hid (cz B M (aI s) 0=some acc):=bP
    have Ha:=ab ha
    clear bP Ae ha ik
    go_wp2
    go_ret2
    rw[aa Ha]
    exact PU.abP acc (aa zq) (by omega) (aa Hd)
end Go.Proofs.YtjophoclfccmcaaGreatDoor
namespace Go.Proofs
open Go.Shelf
def Tryz.BL:Go.Shelf.Ren:=⟨fun|17=>136|21=>160|22=>161|23=>162|24=>163|25=>48|27=>178|26=>177|28=>183|29=>184|30=>185|31=>186|32=>187|33=>188|35=>190|34=>189|36=>191|37=>192|38=>193|39=>194|40=>195|n=>n,fun|9=>9|3=>3|24=>150|34=>179|4=>4|39=>182|44=>190|37=>94|0=>0|47=>125|50=>200|48=>198|2=>2|52=>202|22=>148|5=>5|55=>205|59=>208|60=>193|20=>20|61=>209|36=>181|65=>213|66=>214|67=>80|n=>n,fun|0=>2|1=>3|2=>4|3=>5|4=>6|n=>n⟩
theorem Tryz.DM:Go.Proofs.LaysPu.n17 Tryz.prog Tryz.BL:={
 mixed:=by kernel_rfl
 f17:=Tryz.func136.trans (congrArg some (by kernel_rfl))
 f21:=Tryz.func160.trans (congrArg some (by kernel_rfl))
 f22:=Tryz.func161.trans (congrArg some (by kernel_rfl))
 f23:=Tryz.func162.trans (congrArg some (by kernel_rfl))
 f24:=Tryz.func163.trans (congrArg some (by kernel_rfl))
 f25:=Tryz.func48.trans (congrArg some (by kernel_rfl))
 f26:=Tryz.func177.trans (congrArg some (by kernel_rfl))
 f27:=Tryz.func178.trans (congrArg some (by kernel_rfl))
 f28:=Tryz.func183.trans (congrArg some (by kernel_rfl))
 f29:=Tryz.func184.trans (congrArg some (by kernel_rfl))
 f30:=Tryz.func185.trans (congrArg some (by kernel_rfl))
 f31:=Tryz.func186.trans (congrArg some (by kernel_rfl))
 f32:=Tryz.func187.trans (congrArg some (by kernel_rfl))
 f33:=Tryz.func188.trans (congrArg some (by kernel_rfl))
 f34:=Tryz.func189.trans (congrArg some (by kernel_rfl))
 f35:=Tryz.func190.trans (congrArg some (by kernel_rfl))
 f36:=Tryz.func191.trans (congrArg some (by kernel_rfl))
 f37:=Tryz.func192.trans (congrArg some (by kernel_rfl))
 f38:=Tryz.func193.trans (congrArg some (by kernel_rfl))
 f39:=Tryz.func194.trans (congrArg some (by kernel_rfl))
 f40:=Tryz.func195.trans (congrArg some (by kernel_rfl))
 t0:=Tryz.underlying0
 a0:=Tryz.isAgg0
 z0:=Tryz.sizeOf0
 v0:=Tryz.zeroValue0
 i0:=by kernel_rfl
 t2:=Tryz.underlying2
 a2:=Tryz.isAgg2
 z2:=Tryz.sizeOf2
 v2:=Tryz.zeroValue2
 i2:=by kernel_rfl
 t3:=Tryz.underlying3
 a3:=Tryz.isAgg3
 z3:=Tryz.sizeOf3
 v3:=Tryz.zeroValue3
 i3:=by kernel_rfl
 t4:=Tryz.underlying4
 a4:=Tryz.isAgg4
 z4:=Tryz.sizeOf4
 v4:=Tryz.zeroValue4
 i4:=by kernel_rfl
 t5:=Tryz.underlying5
 a5:=Tryz.isAgg5
 z5:=Tryz.sizeOf5
 v5:=Tryz.zeroValue5
 i5:=by kernel_rfl
 t9:=Tryz.underlying9
 a9:=Tryz.isAgg9
 z9:=Tryz.sizeOf9
 v9:=Tryz.zeroValue9
 i9:=by kernel_rfl
 t20:=Tryz.underlying20
 a20:=Tryz.isAgg20
 z20:=Tryz.sizeOf20
 v20:=Tryz.zeroValue20
 i20:=by kernel_rfl
 t22:=Tryz.underlying148
 a22:=Tryz.isAgg148
 z22:=Tryz.sizeOf148
 v22:=Tryz.zeroValue148
 i22:=by kernel_rfl
 t24:=Tryz.underlying150
 a24:=Tryz.isAgg150
 z24:=Tryz.sizeOf150
 v24:=Tryz.zeroValue150
 i24:=by kernel_rfl
 t34:=Tryz.underlying179
 a34:=Tryz.isAgg179
 z34:=Tryz.sizeOf179
 v34:=Tryz.zeroValue179
 i34:=by kernel_rfl
 c34:=by kernel_rfl
 t36:=Tryz.underlying181
 a36:=Tryz.isAgg181
 z36:=Tryz.sizeOf181
 v36:=Tryz.zeroValue181
 i36:=by kernel_rfl
 t37:=Tryz.underlying94
 a37:=Tryz.isAgg94
 z37:=Tryz.sizeOf94
 v37:=Tryz.zeroValue94
 i37:=by kernel_rfl
 t39:=Tryz.underlying182
 a39:=Tryz.isAgg182
 z39:=Tryz.sizeOf182
 v39:=Tryz.zeroValue182
 i39:=by kernel_rfl
 t44:=Tryz.underlying190
 a44:=Tryz.isAgg190
 z44:=Tryz.sizeOf190
 v44:=Tryz.zeroValue190
 i44:=by kernel_rfl
 t47:=Tryz.underlying125
 a47:=Tryz.isAgg125
 z47:=Tryz.sizeOf125
 v47:=Tryz.zeroValue125
 i47:=by kernel_rfl
 t48:=Tryz.underlying198
 a48:=Tryz.isAgg198
 z48:=Tryz.sizeOf198
 v48:=Tryz.zeroValue198
 i48:=by kernel_rfl
 t50:=Tryz.underlying200
 a50:=Tryz.isAgg200
 z50:=Tryz.sizeOf200
 v50:=Tryz.zeroValue200
 i50:=by kernel_rfl
 t52:=Tryz.underlying202
 a52:=Tryz.isAgg202
 z52:=Tryz.sizeOf202
 v52:=Tryz.zeroValue202
 i52:=by kernel_rfl
 t55:=Tryz.underlying205
 a55:=Tryz.isAgg205
 z55:=Tryz.sizeOf205
 v55:=Tryz.zeroValue205
 i55:=by kernel_rfl
 t59:=Tryz.underlying208
 a59:=Tryz.isAgg208
 z59:=Tryz.sizeOf208
 v59:=Tryz.zeroValue208
 i59:=by kernel_rfl
 t60:=Tryz.underlying193
 a60:=Tryz.isAgg193
 z60:=Tryz.sizeOf193
 v60:=Tryz.zeroValue193
 i60:=by kernel_rfl
 t61:=Tryz.underlying209
 a61:=Tryz.isAgg209
 z61:=Tryz.sizeOf209
 t65:=Tryz.underlying213
 a65:=Tryz.isAgg213
 z65:=Tryz.sizeOf213
 v65:=Tryz.zeroValue213
 i65:=by kernel_rfl
 t66:=Tryz.underlying214
 a66:=Tryz.isAgg214
 z66:=Tryz.sizeOf214
 v66:=Tryz.zeroValue214
 i66:=by kernel_rfl
 t67:=Tryz.underlying80
 a67:=Tryz.isAgg80
 z67:=Tryz.sizeOf80
 v67:=Tryz.zeroValue80
 i67:=by kernel_rfl
 g0:=by kernel_rfl
 m0:=by kernel_rfl
 g1:=by kernel_rfl
 m1:=by kernel_rfl
 g2:=by kernel_rfl
 m2:=by kernel_rfl
 g3:=by kernel_rfl
 m3:=by kernel_rfl
 g4:=by kernel_rfl
 m4:=by kernel_rfl }
end Go.Proofs
namespace Go.Proofs.YtjophoclfccmcaaGreatDoor
open Go.RowKit
attribute [local go_sem ↓] Go.wp_at_zero Go.wp_at_succ
def Lq (W:World) (g:Nat):Prop:=g<W.heap.size∧∃ev,W.cell? ⟨g,0,none⟩=some ev∧(ev=.nilIface∨∃te pe,ev=.iface te pe)
def gU (W:World):Prop:=Lq W 2∧Lq W 3
theorem Lq.up {W w:World}{g:Nat} (h:Lq W g) (hb:Below W.heap.size W w):Lq w g:=by
 obtain ⟨h1,ev,h2,h3⟩:=h
 exact ⟨Nat.lt_of_lt_of_le h1 hb.size,ev,(hb.cell (p:=⟨g,0,none⟩) h1).trans h2,h3⟩
theorem gU.up {W w:World} (h:gU W) (hb:Below W.heap.size W w):gU w:=⟨h.1.up hb,h.2.up hb⟩
def XZ (W:World) (B M:Nat) (s:ByteArray) (e:Ending) (w:World):Prop:=Below W.heap.size W w ∧
 ((∃u:Nat,e=.returned (.tuple #[.int .u64 (u:Int),.nilIface])∧0<s.size∧cz B M (aI s) 0=some u) ∨
  (∃(u:Int) (p:Value),e=.returned (.tuple #[.int .u64 u,.iface 182 p])∧(s.size=0∨cz B M (aI s) 0=none)))
theorem JK {W:World} (h:gU W) (s:ByteArray) (hs:s.size≤65536) (b t c:Int) (hc:c=1∨c=2) (fn:ByteArray) :
  Calls Tryz.prog 136 #[.string fn,.string s,.int .i64 b,.int .i64 t,.iface 179 (.int .i64 c)] W fun e w=>∃p,e=.returned (.iface 182 p)∧Below W.heap.size W w:=by
 rcases hc with rfl|rfl
 ·obtain ⟨_,ev,h2,h3⟩:=h.2
  refine (AnyPu.strconv_toError_range Tryz.DM fn s b t ev W (by omega) h2 h3).mono ?_
  rintro e w ⟨n,he,_,_,hb⟩
  exact ⟨_,he,hb⟩
 ·obtain ⟨_,ev,h2,h3⟩:=h.1
  refine (AnyPu.strconv_toError_syntax Tryz.DM fn s b t ev W (by omega) h2 h3).mono ?_
  rintro e w ⟨n,he,_,_,hb⟩
  exact ⟨_,he,hb⟩
theorem kQ {W:World} (h:gU W) (s:ByteArray) (hs:s.size≤65536) (B M:Nat) (b t:Int)
  (TD:Calls Tryz.prog 135 #[.string s,.int .i64 b,.int .i64 t] W (PU W B M s)) :
  Calls Tryz.prog 116 #[.string s,.int .i64 b,.int .i64 t] W (XZ W B M s):=by
 have eK:=zE W.heap.size W
 go_enter Tryz.func116,Tryz.ntmps116
 go_wp2_with fail
 refine TD.mono ?_
 rintro e w1 ⟨bQ,⟨u,rfl,hu⟩|⟨u,c,rfl,hc,hu⟩⟩
 ·have Hb:=ab bQ
  have Hu:=ab hu
  clear bQ hu TD
  go_wp2
  go_ret2
  exact ⟨aa Hb,.inl ⟨u,rfl,aa Hu⟩⟩
 ·have Hb:=ab bQ
  have Hu:=ab hu
  have Hc:=ab hc
  clear bQ hu TD hc
  go_wp2_with fail
  refine (JK (h.up (aa Hb)) s hs b t c (aa Hc) _).mono ?_
  rintro e w2 ⟨p,rfl,br⟩
  have Z2:Below W.heap.size W w2:=(aa Hb).trans (br.mono (aa Hb).size)
  have zt:=ab Z2
  clear br Z2
  go_wp2
  go_ret2
  exact ⟨aa zt,.inr ⟨u,p,rfl,aa Hu⟩⟩
end Go.Proofs.YtjophoclfccmcaaGreatDoor
namespace Go.Proofs.YtjophoclfccmcaaGreatDoor
open Go.RowKit
def Lo (l:List Nat) (n c:Int):Prop:=(∃u:Nat,wv l=some u∧n=(u:Int)∧c=0)∨(wv l=none∧n=0∧c=41)
def PQ (W:World) (l:List Nat) (e:Ending) (w:World):Prop:=Below W.heap.size W w∧∃n c:Int,e=.returned (.tuple #[.int .i64 n,.int .i64 c])∧Lo l n c
end Go.Proofs.YtjophoclfccmcaaGreatDoor
namespace Go.Proofs.YtjophoclfccmcaaGreatDoor
open Go.RowKit
attribute [local go_sem ↓] Go.wp_at_zero Go.wp_at_succ
theorem Ij {W:World} (h:gU W) (s:ByteArray) (hs:s.size≤65536) :
  Calls Tryz.prog 116 #[.string s,.int .i64 16,.int .i64 63] W (XZ W 16 9223372036854775807 s) ∧
  Calls Tryz.prog 116 #[.string s,.int .i64 10,.int .i64 63] W (XZ W 10 9223372036854775807 s) ∧
  Calls Tryz.prog 116 #[.string s,.int .i64 8,.int .i64 63] W (XZ W 8 9223372036854775807 s):=by
 exact ⟨kQ h s hs _ _ _ _ (yj (Or.inl ⟨rfl,rfl,rfl,rfl,rfl,rfl⟩) W s hs),kQ h s hs _ _ _ _ (yj (Or.inr (Or.inl ⟨rfl,rfl,rfl,rfl,rfl,rfl⟩)) W s hs),kQ h s hs _ _ _ _ (yj (Or.inr (Or.inr (Or.inl ⟨rfl,rfl,rfl,rfl,rfl,rfl⟩))) W s hs)⟩
theorem iz {W w:World}{l:List Nat} (n c:Int) (hb:Below W.heap.size W w) (h:Lo l n c):PQ W l (.returned (.tuple #[.int .i64 n,.int .i64 c])) w:=⟨hb,n,c,rfl,h⟩
theorem UN (s p:ByteArray) {l:List Nat} (hp:aI p=l) (hn:p.size=l.length):Cx s p↔(aI s).take l.length=l:=by
 unfold Cx
 rw[hp,hn]
theorem Aw {W:World} (h:gU W) (s:ByteArray) (hs:s.size≤65536):Calls Tryz.prog 84 #[.string s] W (PQ W (aI s)):=by
 have q1:Cx s ⟨#[48,120]⟩↔(aI s).take 2=[48,120]:=UN s ⟨#[48,120]⟩ (l:=[48,120]) rfl rfl
 have q2:Cx s ⟨#[48,88]⟩↔(aI s).take 2=[48,88]:=UN s ⟨#[48,88]⟩ (l:=[48,88]) rfl rfl
 have q3:Cx s ⟨#[48]⟩↔(aI s).take 1=[48]:=UN s ⟨#[48]⟩ (l:=[48]) rfl rfl
 have Q1:=ab q1
 have Q2:=ab q2
 have Q3:=ab q3
 clear q1 q2 q3
 go_enter Tryz.func84,Tryz.ntmps84
 go_wp2_with fail
 refine (gS W s _).mono ?_
 rintro e w' ⟨rfl,he⟩
 obtain rfl:W=w':=he.symm
 by_cases c1:Cx s ⟨#[48,120]⟩
 ·rw[J1 c1]
  have l1:=(aa Q1).1 c1
  have rA:2≤s.size:=by have:=congrArg List.length l1;rw[List.length_take,bG] at this;simp at this;omega
  have EU:wv (aI s)=if s.size=2 then none else cz 16 9223372036854775807 ((aI s).drop 2) 0:=by unfold wv;rw[if_pos (.inl l1),bG]
  have hx:=bA s 2 s.size
  have hxs:(s.extract 2 s.size).size=s.size-2:=by rw[←bG,hx,List.length_take,List.length_drop,bG];omega
  have eL:aI (s.extract 2 s.size)=(aI s).drop 2:=by rw[hx,List.take_of_length_le (by rw[List.length_drop,bG];omega)]
  have hg:∀u,0<(s.extract 2 s.size).size→cz 16 9223372036854775807 (aI (s.extract 2 s.size)) 0=some u→wv (aI s)=some u:=fun u h1 h2=>by rw[EU,if_neg (by omega),←eL,h2]
  have qj:((s.extract 2 s.size).size=0∨cz 16 9223372036854775807 (aI (s.extract 2 s.size)) 0=none)→wv (aI s)=none:=fun hh=>by
   rw[EU]
   split
   ·rfl
   ·rcases hh with hh|hh
    ·omega
    ·rw[←eL,hh]
  clear hx eL EU l1
  go_wp2_with fail
  refine ((Ij h _ (by omega)).1).mono ?_
  rintro e w1 ⟨bQ,⟨u,rfl,hz,hu⟩|⟨u,p,rfl,hu⟩⟩
  ·have hw:=hg u hz hu
   have hle:=C3 hw
   have Hw:=ab hw
   have Hb:=ab bQ
   clear hw hu hz bQ hg qj
   go_wp2
   go_ret2
   exact iz _ _ (aa Hb) (.inl ⟨u,aa Hw,by go_num,rfl⟩)
  ·have hw:=qj hu
   have Hw:=ab hw
   have Hb:=ab bQ
   clear hw hu bQ hg qj
   go_wp2
   go_ret2
   exact iz _ _ (aa Hb) (.inr ⟨aa Hw,rfl,rfl⟩)
 ·rw[FC c1]
  go_wp2_with fail
  refine (gS W s _).mono ?_
  rintro e w' ⟨rfl,he⟩
  obtain rfl:W=w':=he.symm
  by_cases c2:Cx s ⟨#[48,88]⟩
  ·rw[J1 c2]
   have l1:=(aa Q2).1 c2
   have rA:2≤s.size:=by have:=congrArg List.length l1;rw[List.length_take,bG] at this;simp at this;omega
   have EU:wv (aI s)=if s.size=2 then none else cz 16 9223372036854775807 ((aI s).drop 2) 0:=by unfold wv;rw[if_pos (.inr l1),bG]
   have hx:=bA s 2 s.size
   have hxs:(s.extract 2 s.size).size=s.size-2:=by rw[←bG,hx,List.length_take,List.length_drop,bG];omega
   have eL:aI (s.extract 2 s.size)=(aI s).drop 2:=by rw[hx,List.take_of_length_le (by rw[List.length_drop,bG];omega)]
   have hg:∀u,0<(s.extract 2 s.size).size→cz 16 9223372036854775807 (aI (s.extract 2 s.size)) 0=some u→wv (aI s)=some u:=fun u h1 h2=>by rw[EU,if_neg (by omega),←eL,h2]
   have qj:((s.extract 2 s.size).size=0∨cz 16 9223372036854775807 (aI (s.extract 2 s.size)) 0=none)→wv (aI s)=none:=fun hh=>by
    rw[EU]
    split
    ·rfl
    ·rcases hh with hh|hh
     ·omega
     ·rw[←eL,hh]
   clear hx eL EU l1
   go_wp2_with fail
   refine ((Ij h _ (by omega)).1).mono ?_
   rintro e w1 ⟨bQ,⟨u,rfl,hz,hu⟩|⟨u,p,rfl,hu⟩⟩
   ·have hw:=hg u hz hu
    have hle:=C3 hw
    have Hw:=ab hw
    have Hb:=ab bQ
    clear hw hu hz bQ hg qj
    go_wp2
    go_ret2
    exact iz _ _ (aa Hb) (.inl ⟨u,aa Hw,by go_num,rfl⟩)
   ·have hw:=qj hu
    have Hw:=ab hw
    have Hb:=ab bQ
    clear hw hu bQ hg qj
    go_wp2
    go_ret2
    exact iz _ _ (aa Hb) (.inr ⟨aa Hw,rfl,rfl⟩)
  ·rw[FC c2]
   have n1:=mt (aa Q1).2 c1
   have n2:=mt (aa Q2).2 c2
   go_wp2_with fail
   refine (gS W s _).mono ?_
   rintro e w' ⟨rfl,he⟩
   obtain rfl:W=w':=he.symm
   by_cases c3:Cx s ⟨#[48]⟩
   ·rw[J1 c3]
    have l3:=(aa Q3).1 c3
    have EU:wv (aI s)=cz 8 9223372036854775807 (aI s) 0:=by unfold wv;rw[if_neg (fun o=>o.elim n1 n2),if_pos l3]
    have hl1:1≤s.size:=by have:=congrArg List.length l3;rw[List.length_take,bG] at this;simp at this;omega
    have hg:∀u,0<s.size→cz 8 9223372036854775807 (aI s) 0=some u→wv (aI s)=some u:=fun u _ h2=>by rw[EU,h2]
    have qj:(s.size=0∨cz 8 9223372036854775807 (aI s) 0=none)→wv (aI s)=none:=fun hh=>by
     rcases hh with hh|hh
     ·omega
     ·rw[EU,hh]
    clear EU n1 n2 l3
    go_wp2_with fail
    refine ((Ij h s hs).2.2).mono ?_
    rintro e w1 ⟨bQ,⟨u,rfl,hz,hu⟩|⟨u,p,rfl,hu⟩⟩
    ·have hw:=hg u hz hu
     have hle:=C3 hw
     have Hw:=ab hw
     have Hb:=ab bQ
     clear hw hu hz bQ hg qj
     go_wp2
     go_ret2
     exact iz _ _ (aa Hb) (.inl ⟨u,aa Hw,by go_num,rfl⟩)
    ·have hw:=qj hu
     have Hw:=ab hw
     have Hb:=ab bQ
     clear hw hu bQ hg qj
     go_wp2
     go_ret2
     exact iz _ _ (aa Hb) (.inr ⟨aa Hw,rfl,rfl⟩)
   ·rw[FC c3]
    have n3:=mt (aa Q3).2 c3
    have EU:wv (aI s)=if aI s=[] then none else cz 10 9223372036854775807 (aI s) 0:=by unfold wv;rw[if_neg (fun o=>o.elim n1 n2),if_neg n3]
    have hg:∀u,0<s.size→cz 10 9223372036854775807 (aI s) 0=some u→wv (aI s)=some u:=fun u h1 h2=>by
     have dV:¬aI s=[]:=fun e=>by
      have h9:(aI s).length=0:=by rw[e];rfl
      rw[bG] at h9
      omega
     rw[EU,if_neg dV,h2]
    have qj:(s.size=0∨cz 10 9223372036854775807 (aI s) 0=none)→wv (aI s)=none:=fun hh=>by
     rw[EU]
     split
     ·rfl
     ·rename_i dV
      rcases hh with hh|hh
      ·exact absurd (List.eq_nil_of_length_eq_zero (by rw[bG];exact hh)) dV
      ·exact hh
    clear EU n1 n2 n3
    go_wp2_with fail
    refine ((Ij h s hs).2.1).mono ?_
    rintro e w1 ⟨bQ,⟨u,rfl,hz,hu⟩|⟨u,p,rfl,hu⟩⟩
    ·have hw:=hg u hz hu
     have hle:=C3 hw
     have Hw:=ab hw
     have Hb:=ab bQ
     clear hw hu hz bQ hg qj
     go_wp2
     go_ret2
     exact iz _ _ (aa Hb) (.inl ⟨u,aa Hw,by go_num,rfl⟩)
    ·have hw:=qj hu
     have Hw:=ab hw
     have Hb:=ab bQ
     clear hw hu bQ hg qj
     go_wp2
     go_ret2
     exact iz _ _ (aa Hb) (.inr ⟨aa Hw,rfl,rfl⟩)
theorem Lo.same {l:List Nat}{n c m d:Int} (h:Lo l n c) (k:Lo l m d):n=m∧c=d:=by
 rcases h with ⟨u,h1,rfl,rfl⟩|⟨h1,rfl,rfl⟩<;>rcases k with ⟨v,k1,rfl,rfl⟩|⟨k1,rfl,rfl⟩
 ·rw[h1] at k1;obtain rfl:=zC k1;exact ⟨rfl,rfl⟩
 ·rw[h1] at k1;cases k1
 ·rw[h1] at k1;cases k1
 ·exact ⟨rfl,rfl⟩
end Go.Proofs.YtjophoclfccmcaaGreatDoor
