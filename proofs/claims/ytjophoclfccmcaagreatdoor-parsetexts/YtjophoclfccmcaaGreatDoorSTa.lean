import Derived.Test.YtjophoclfccmcaaGreatDoorM03
set_option maxHeartbeats 4000000
set_option maxRecDepth 100000
namespace Go.Proofs.YtjophoclfccmcaaGreatDoor
open Go.RowKit
attribute [local go_sem ↓] Go.wp_at_zero Go.wp_at_succ
def rp (x:Nat):Int:=if 48≤x∧x≤57 then (x:Int)-48 else if 97≤x∧x≤102 then (x:Int)-87 else if 65≤x∧x≤70 then (x:Int)-55 else -1
theorem jq (x:Nat):(rp x=-1∧(∀d,Ck x=some d→16≤d))∨(∃d:Nat,rp x=(d:Int)∧Ck x=some d∧d<16):=by
 unfold rp Ck
 by_cases h1:48≤x∧x≤57
 ·rw[if_pos h1,if_pos h1];exact .inr ⟨x-48,by omega,rfl,by omega⟩
 ·rw[if_neg h1,if_neg h1]
  by_cases h2:97≤x∧x≤102
  ·rw[if_pos h2,if_neg (by omega),if_pos (by omega)];exact .inr ⟨x-87,by omega,rfl,by omega⟩
  ·rw[if_neg h2]
   by_cases h3:65≤x∧x≤70
   ·rw[if_pos h3,if_pos (by omega)];exact .inr ⟨x-55,by omega,rfl,by omega⟩
   ·rw[if_neg h3]
    refine .inl ⟨rfl,fun d hd=>?_⟩
    split at hd
    ·have:=zC hd;omega
    ·split at hd
     ·have:=zC hd;omega
     ·cases hd
theorem iK (W:World) (x:Nat) (hx:x<256):Calls Tryz.prog 89 #[.int .u8 (x:Int)] W fun e w=>e=.returned (.int .i64 (rp x))∧w=W:=by
 by_cases h1:48≤x∧x≤57
 ·have hk:rp x=(x:Int)-48:=by unfold rp;rw[if_pos h1]
  rw[hk]
  obtain ⟨h2,h3⟩:=h1
  have b1:=gl (c:=x) (k:=48) (by omega);have b2:=DR (c:=x) (k:=57) (by omega)
  go_enter Tryz.func89,Tryz.ntmps89
  go_wp2
  go_ret
  exact ⟨by first|rfl|(congr 2;omega),rfl⟩
 ·obtain VG:x<48∨57<x:=by omega
  by_cases h2:97≤x∧x≤102
  ·have hk:rp x=(x:Int)-97+10:=by unfold rp;rw[if_neg h1,if_pos h2];omega
   rw[hk]
   obtain ⟨h3,h4⟩:=h2
   have b1:=gl (c:=x) (k:=48) (by omega);have b2:=jK (c:=x) (k:=57) (by omega);have b3:=gl (c:=x) (k:=97) (by omega);have b4:=DR (c:=x) (k:=102) (by omega)
   clear h1 VG
   go_enter Tryz.func89,Tryz.ntmps89
   go_wp2
   go_ret
   exact ⟨by first|rfl|(congr 2;omega),rfl⟩
  ·by_cases h3:65≤x∧x≤70
   ·have hk:rp x=(x:Int)-65+10:=by unfold rp;rw[if_neg h1,if_neg h2,if_pos h3];omega
    rw[hk]
    obtain ⟨h4,h5⟩:=h3
    have b1:=gl (c:=x) (k:=48) (by omega);have b2:=jK (c:=x) (k:=57) (by omega);have b3:=nf (c:=x) (k:=97) (by omega);have b5:=gl (c:=x) (k:=65) (by omega);have b6:=DR (c:=x) (k:=70) (by omega)
    clear h1 VG h2
    go_enter Tryz.func89,Tryz.ntmps89
    go_wp2
    go_ret
    exact ⟨by first|rfl|(congr 2;omega),rfl⟩
   ·have hk:rp x=-1:=by unfold rp;rw[if_neg h1,if_neg h2,if_neg h3]
    rw[hk]
    obtain hh:x<48∨(57<x∧x<65)∨(70<x∧x<97)∨102<x:=by omega
    clear h1 VG h2 h3 hk
    rcases hh with hh|⟨hh,hi⟩|⟨hh,hi⟩|hh
    ·have b1:=nf (c:=x) (k:=48) (by omega);have b3:=nf (c:=x) (k:=97) (by omega);have b5:=nf (c:=x) (k:=65) (by omega)
     go_enter Tryz.func89,Tryz.ntmps89
     go_wp2
     go_ret
     exact ⟨rfl,rfl⟩
    ·have b1:=gl (c:=x) (k:=48) (by omega);have b2:=jK (c:=x) (k:=57) (by omega);have b3:=nf (c:=x) (k:=97) (by omega);have b5:=nf (c:=x) (k:=65) (by omega)
     go_enter Tryz.func89,Tryz.ntmps89
     go_wp2
     go_ret
     exact ⟨rfl,rfl⟩
    ·have b1:=gl (c:=x) (k:=48) (by omega);have b2:=jK (c:=x) (k:=57) (by omega);have b3:=nf (c:=x) (k:=97) (by omega);have b5:=gl (c:=x) (k:=65) (by omega);have b6:=jK (c:=x) (k:=70) (by omega)
     go_enter Tryz.func89,Tryz.ntmps89
     go_wp2
     go_ret
     exact ⟨rfl,rfl⟩
    ·have b1:=gl (c:=x) (k:=48) (by omega);have b2:=jK (c:=x) (k:=57) (by omega);have b3:=gl (c:=x) (k:=97) (by omega);have b4:=jK (c:=x) (k:=102) (by omega);have b5:=gl (c:=x) (k:=65) (by omega);have b6:=jK (c:=x) (k:=70) (by omega)
     go_enter Tryz.func89,Tryz.ntmps89
     go_wp2
     go_ret
     exact ⟨rfl,rfl⟩
def WQ (W:World) (l:List Nat) (e:Ending) (w:World):Prop:=w=W∧((∃u:Nat,e=.returned (.tuple #[.int .i64 (u:Int),.bool true])∧wv l=some u)∨(e=.returned (.tuple #[.int .i64 0,.bool false])∧wv l=none))
theorem gL {W:World}{l:List Nat} (h:wv l=none):WQ W l (.returned (.tuple #[.int .i64 0,.bool false])) W:=⟨rfl,.inr ⟨rfl,h⟩⟩
theorem rE {W:World}{l:List Nat}{u:Nat} (h:wv l=some u):WQ W l (.returned (.tuple #[.int .i64 (u:Int),.bool true])) W:=⟨rfl,.inl ⟨u,rfl,h⟩⟩
theorem nK (W:World) (s:ByteArray) (hs:s.size≤65536):Calls Tryz.prog 52 #[.string s] W (WQ W (aG s)):=by
 by_cases h0:s.size=0
 ·have Hn:Hid (wv (aG s)=none):=by
   rw[List.eq_nil_of_length_eq_zero (by rw[bI];exact h0:(aG s).length=0)]
   show wv []=none
   decide
  obtain rfl:=rh h0
  go_enter Tryz.func52,Tryz.ntmps52
  go_wp2
  go_ret2
  exact gL (aa Hn)
 ·obtain ⟨x0,PZ,ac7,gx0⟩:=cS s 0 (by omega)
  by_cases h1:s.size=1
  ·have TT:Hid (wv (aG s)=cA 10 9223372036854775807 ((aG s).drop 0) 0):=by
    obtain ⟨c,hc⟩:∃c,aG s=[c]:=List.length_eq_one_iff.1 (by rw[bI];exact h1)
    rw[hc]
    show wv [c]=cA 10 9223372036854775807 [c] 0
    unfold wv
    rw[if_neg (by simp)]
    by_cases Xw:c=48
    ·subst Xw;decide
    ·rw[if_neg (by simpa using Xw),if_neg (by simp)]
   have e1:=Rq (a:=s.size) (k:=1) (by omega)
   clear PZ gx0
   go_enter Tryz.func52,Tryz.ntmps52
   go_wp2
   go_loopg [6,7,8] (s.size-0) (fun gk v6 v7 _ wr=>∃(k acc:Nat) (a:Int),v6=.int .i64 a∧v7=.int .i64 (k:Int)∧k≤s.size∧gk=s.size-k∧wr=W∧Hid (a=(acc:Int)∧acc≤9223372036854775807∧wv (aG s)=cA 10 9223372036854775807 ((aG s).drop k) acc))
   case atStart=>exact ⟨0,0,0,rfl,rfl,by omega,rfl,rfl,rfl,by omega,aa TT⟩
   case round =>
    obtain ⟨k,acc,a,rfl,rfl,hk,dY,rfl,hh⟩:=hrel
    obtain ⟨ha,ik,bR⟩:=aa hh
    have gF:=ab dY
    have a0:0≤a:=by omega
    have a1:a≤9223372036854775807:=by omega
    clear hh dY
    by_cases IH:k<s.size
    ·obtain ⟨x,hx,ew,gx⟩:=cS s k IH
     have gf:(aG s).drop k=x::(aG s).drop (k+1):=by
      obtain ⟨hl,pF⟩:=zB hx
      rw[List.drop_eq_getElem_cons hl,pF]
     rw[gf] at bR
     have je:=ab bR
     have Ha:=ab ha
     clear gf hx bR ha
     go_wp2_with fail
     refine (iK wr x ew).mono ?_
     rintro e w' ⟨rfl,he⟩
     obtain rfl:wr=w':=he.symm
     rcases jq x with ⟨hI,hD⟩|⟨d,hI,hD,hd⟩
     ·rw[hI]
      have hn:wv (aG s)=none:=by
       rw[aa je]
       simp only[cA]
       split
       ·rfl
       ·rename_i d hd
        rw[if_neg (by have:=hD d hd;omega)]
      have Hn:=ab hn
      clear hn hD hI je
      go_wp2
      go_ret2
      exact gL (aa Hn)
     ·rw[hI]
      have bR:=aa je
      simp only[cA,hD] at bR
      have d0:decide ((d:Int)<0)=false:=by simp
      clear je hI gx
      by_cases h8:d<10
      ·have i9:decide ((10:Int)≤(d:Int))=false:=by simp;omega
       obtain ⟨q,hq⟩:∃q:Nat,q=(9223372036854775807-d) / 10:=⟨_,rfl⟩
       have lF:(9223372036854775807-(d:Int)).tdiv 10=(q:Int):=by rw[Int.tdiv_eq_ediv_of_nonneg (by omega)];omega
       have hqb:q≤1152921504606846976:=by omega
       by_cases hm:acc*10+d≤9223372036854775807
       ·rw[if_pos ⟨by omega,hm⟩] at bR
        have ha:=aa Ha
        have iq:decide ((q:Int)<a)=false:=by simp;omega
        have im:a*10+(d:Int)≤9223372036854775807:=by omega
        have HN:Hid (a*10+(d:Int)=((acc*10+d:Nat):Int)∧acc*10+d≤9223372036854775807∧wv (aG s)=cA 10 9223372036854775807 ((aG s).drop (k+1)) (acc*10+d)):=⟨by omega,hm,bR⟩
        clear bR ha ik hm hq Ha
        go_wp2
        go_roundg (s.size-(k+1))
        case measure=>have:=aa gF;omega
        case rel=>exact ⟨k+1,acc*10+d,a*10+(d:Int),by go_num,by go_num,by omega,rfl,rfl,HN⟩
       ·rw[if_neg (by omega)] at bR
        have ha:=aa Ha
        have iq:decide ((q:Int)<a)=true:=by simp;omega
        have Hn:=ab bR
        clear bR ha ik hm hq Ha
        go_wp2
        go_ret2
        exact gL (aa Hn)
      ·have i9:decide ((10:Int)≤(d:Int))=true:=by simp;omega
       rw[if_neg (by omega)] at bR
       have Hn:=ab bR
       clear bR ik Ha h8
       go_wp2
       go_ret2
       exact gL (aa Hn)
    ·obtain rfl:k=s.size:=by omega
     rw[List.drop_eq_nil_of_le (by rw[bI];omega)] at bR
     have Hd:Hid (wv (aG s)=some acc):=bR
     have Ha:=ab ha
     clear bR ha ik
     go_wp2
     go_ret2
     rw[aa Ha]
     exact rE (aa Hd)
  ·obtain ⟨x1,iZ,ac6,gx1⟩:=cS s 1 (by omega)
   have hl:aG s=x0::x1::(aG s).drop 2:=by
    obtain ⟨hl0,hh0⟩:=zB PZ
    obtain ⟨hl1,hh1⟩:=zB iZ
    have q0:=List.drop_eq_getElem_cons hl0
    have q1:=List.drop_eq_getElem_cons hl1
    rw[hh0,List.drop_zero] at q0
    rw[hh1] at q1
    rw[←q1]
    exact q0
   have e1:=Rp (a:=s.size) (k:=1) (by omega)
   by_cases Xw:x0=48
   ·by_cases hX:x1=120∨x1=88
    ·have ua:wv (aG s)=if s.size=2 then none else cA 16 9223372036854775807 ((aG s).drop 2) 0:=by
      unfold wv
      rw[if_pos (by rw[hl,Xw];rcases hX with rfl|rfl<;>simp),bI]
     clear hl PZ iZ
     by_cases h2:s.size=2
     ·rw[if_pos h2] at ua
      have Hn:=ab ua
      clear ua
      have e0:((x0:Int)==48)=true:=by simp;omega
      rcases hX with hX|hX
      ·have e2:((x1:Int)==120)=true:=by simp;omega
       go_enter Tryz.func52,Tryz.ntmps52
       go_wp2
       go_ret2
       exact gL (aa Hn)
      ·have e2:=kJ (c:=x1) (k:=120) (by omega)
       have e3:((x1:Int)==88)=true:=by simp;omega
       go_enter Tryz.func52,Tryz.ntmps52
       go_wp2
       go_ret2
       exact gL (aa Hn)
     ·rw[if_neg h2] at ua
      have TT:=ab ua
      clear ua
      have e0:((x0:Int)==48)=true:=by simp;omega
      have e4:decide ((s.size:Int)≤2)=false:=by simp;omega
      rcases hX with hX|hX
      ·have e2:((x1:Int)==120)=true:=by simp;omega
       go_enter Tryz.func52,Tryz.ntmps52
       go_wp2
       go_loopg [6,7,8] (s.size-2) (fun gk v6 v7 _ wr=>∃(k acc:Nat) (a:Int),v6=.int .i64 a∧v7=.int .i64 (k:Int)∧k≤s.size∧gk=s.size-k∧wr=W∧Hid (a=(acc:Int)∧acc≤9223372036854775807∧wv (aG s)=cA 16 9223372036854775807 ((aG s).drop k) acc))
       case atStart=>exact ⟨2,0,0,rfl,rfl,by omega,rfl,rfl,rfl,by omega,aa TT⟩
       case round =>
        obtain ⟨k,acc,a,rfl,rfl,hk,dY,rfl,hh⟩:=hrel
        obtain ⟨ha,ik,bR⟩:=aa hh
        have gF:=ab dY
        have a0:0≤a:=by omega
        have a1:a≤9223372036854775807:=by omega
        clear hh dY
        by_cases IH:k<s.size
        ·obtain ⟨x,hx,ew,gx⟩:=cS s k IH
         have gf:(aG s).drop k=x::(aG s).drop (k+1):=by
          obtain ⟨hl,pF⟩:=zB hx
          rw[List.drop_eq_getElem_cons hl,pF]
         rw[gf] at bR
         have je:=ab bR
         have Ha:=ab ha
         clear gf hx bR ha
         go_wp2_with fail
         refine (iK wr x ew).mono ?_
         rintro e w' ⟨rfl,he⟩
         obtain rfl:wr=w':=he.symm
         rcases jq x with ⟨hI,hD⟩|⟨d,hI,hD,hd⟩
         ·rw[hI]
          have hn:wv (aG s)=none:=by
           rw[aa je]
           simp only[cA]
           split
           ·rfl
           ·rename_i d hd
            rw[if_neg (by have:=hD d hd;omega)]
          have Hn:=ab hn
          clear hn hD hI je
          go_wp2
          go_ret2
          exact gL (aa Hn)
         ·rw[hI]
          have bR:=aa je
          simp only[cA,hD] at bR
          have d0:decide ((d:Int)<0)=false:=by simp
          clear je hI gx
          have i9:decide ((16:Int)≤(d:Int))=false:=by simp;omega
          obtain ⟨q,hq⟩:∃q:Nat,q=(9223372036854775807-d) / 16:=⟨_,rfl⟩
          have lF:(9223372036854775807-(d:Int)).tdiv 16=(q:Int):=by rw[Int.tdiv_eq_ediv_of_nonneg (by omega)];omega
          have hqb:q≤1152921504606846976:=by omega
          by_cases hm:acc*16+d≤9223372036854775807
          ·rw[if_pos ⟨by omega,hm⟩] at bR
           have ha:=aa Ha
           have iq:decide ((q:Int)<a)=false:=by simp;omega
           have im:a*16+(d:Int)≤9223372036854775807:=by omega
           have HN:Hid (a*16+(d:Int)=((acc*16+d:Nat):Int)∧acc*16+d≤9223372036854775807∧wv (aG s)=cA 16 9223372036854775807 ((aG s).drop (k+1)) (acc*16+d)):=⟨by omega,hm,bR⟩
           clear bR ha ik hm hq Ha
           go_wp2
           go_roundg (s.size-(k+1))
           case measure=>have:=aa gF;omega
           case rel=>exact ⟨k+1,acc*16+d,a*16+(d:Int),by go_num,by go_num,by omega,rfl,rfl,HN⟩
          ·rw[if_neg (by omega)] at bR
           have ha:=aa Ha
           have iq:decide ((q:Int)<a)=true:=by simp;omega
           have Hn:=ab bR
           clear bR ha ik hm hq Ha
           go_wp2
           go_ret2
           exact gL (aa Hn)
        ·obtain rfl:k=s.size:=by omega
         rw[List.drop_eq_nil_of_le (by rw[bI];omega)] at bR
         have Hd:Hid (wv (aG s)=some acc):=bR
         have Ha:=ab ha
         clear bR ha ik
         go_wp2
         go_ret2
         rw[aa Ha]
         exact rE (aa Hd)
      ·have e2:=kJ (c:=x1) (k:=120) (by omega)
       have e3:((x1:Int)==88)=true:=by simp;omega
       go_enter Tryz.func52,Tryz.ntmps52
       go_wp2
       go_loopg [6,7,8] (s.size-2) (fun gk v6 v7 _ wr=>∃(k acc:Nat) (a:Int),v6=.int .i64 a∧v7=.int .i64 (k:Int)∧k≤s.size∧gk=s.size-k∧wr=W∧Hid (a=(acc:Int)∧acc≤9223372036854775807∧wv (aG s)=cA 16 9223372036854775807 ((aG s).drop k) acc))
       case atStart=>exact ⟨2,0,0,rfl,rfl,by omega,rfl,rfl,rfl,by omega,aa TT⟩
       case round =>
        obtain ⟨k,acc,a,rfl,rfl,hk,dY,rfl,hh⟩:=hrel
        obtain ⟨ha,ik,bR⟩:=aa hh
        have gF:=ab dY
        have a0:0≤a:=by omega
        have a1:a≤9223372036854775807:=by omega
        clear hh dY
        by_cases IH:k<s.size
        ·obtain ⟨x,hx,ew,gx⟩:=cS s k IH
         have gf:(aG s).drop k=x::(aG s).drop (k+1):=by
          obtain ⟨hl,pF⟩:=zB hx
          rw[List.drop_eq_getElem_cons hl,pF]
         rw[gf] at bR
         have je:=ab bR
         have Ha:=ab ha
         clear gf hx bR ha
         go_wp2_with fail
         refine (iK wr x ew).mono ?_
         rintro e w' ⟨rfl,he⟩
         obtain rfl:wr=w':=he.symm
         rcases jq x with ⟨hI,hD⟩|⟨d,hI,hD,hd⟩
         ·rw[hI]
          have hn:wv (aG s)=none:=by
           rw[aa je]
           simp only[cA]
           split
           ·rfl
           ·rename_i d hd
            rw[if_neg (by have:=hD d hd;omega)]
          have Hn:=ab hn
          clear hn hD hI je
          go_wp2
          go_ret2
          exact gL (aa Hn)
         ·rw[hI]
          have bR:=aa je
          simp only[cA,hD] at bR
          have d0:decide ((d:Int)<0)=false:=by simp
          clear je hI gx
          have i9:decide ((16:Int)≤(d:Int))=false:=by simp;omega
          obtain ⟨q,hq⟩:∃q:Nat,q=(9223372036854775807-d) / 16:=⟨_,rfl⟩
          have lF:(9223372036854775807-(d:Int)).tdiv 16=(q:Int):=by rw[Int.tdiv_eq_ediv_of_nonneg (by omega)];omega
          have hqb:q≤1152921504606846976:=by omega
          by_cases hm:acc*16+d≤9223372036854775807
          ·rw[if_pos ⟨by omega,hm⟩] at bR
           have ha:=aa Ha
           have iq:decide ((q:Int)<a)=false:=by simp;omega
           have im:a*16+(d:Int)≤9223372036854775807:=by omega
           have HN:Hid (a*16+(d:Int)=((acc*16+d:Nat):Int)∧acc*16+d≤9223372036854775807∧wv (aG s)=cA 16 9223372036854775807 ((aG s).drop (k+1)) (acc*16+d)):=⟨by omega,hm,bR⟩
           clear bR ha ik hm hq Ha
           go_wp2
           go_roundg (s.size-(k+1))
           case measure=>have:=aa gF;omega
           case rel=>exact ⟨k+1,acc*16+d,a*16+(d:Int),by go_num,by go_num,by omega,rfl,rfl,HN⟩
          ·rw[if_neg (by omega)] at bR
           have ha:=aa Ha
           have iq:decide ((q:Int)<a)=true:=by simp;omega
           have Hn:=ab bR
           clear bR ha ik hm hq Ha
           go_wp2
           go_ret2
           exact gL (aa Hn)
        ·obtain rfl:k=s.size:=by omega
         rw[List.drop_eq_nil_of_le (by rw[bI];omega)] at bR
         have Hd:Hid (wv (aG s)=some acc):=bR
         have Ha:=ab ha
         clear bR ha ik
         go_wp2
         go_ret2
         rw[aa Ha]
         exact rE (aa Hd)
    ·have ua:wv (aG s)=cA 8 9223372036854775807 ((aG s).drop 1) 0:=by
      unfold wv
      rw[hl]
      rw[if_neg (by simp;omega),if_pos (by simp[Xw]),Xw]
      show cA 8 _ (48::x1::_) 0=cA 8 _ (x1::_) 0
      simp only[cA,show Ck 48=some 0 from rfl]
      simp
     have TT:=ab ua
     have e0:((x0:Int)==48)=true:=by simp;omega
     have e2:=kJ (c:=x1) (k:=120) (by omega)
     have e3:=kJ (c:=x1) (k:=88) (by omega)
     clear ua hl PZ iZ hX
     have e4:decide ((s.size:Int)≤1)=false:=by simp;omega
     go_enter Tryz.func52,Tryz.ntmps52
     go_wp2
     go_loopg [6,7,8] (s.size-1) (fun gk v6 v7 _ wr=>∃(k acc:Nat) (a:Int),v6=.int .i64 a∧v7=.int .i64 (k:Int)∧k≤s.size∧gk=s.size-k∧wr=W∧Hid (a=(acc:Int)∧acc≤9223372036854775807∧wv (aG s)=cA 8 9223372036854775807 ((aG s).drop k) acc))
     case atStart=>exact ⟨1,0,0,rfl,rfl,by omega,rfl,rfl,rfl,by omega,aa TT⟩
     case round =>
      obtain ⟨k,acc,a,rfl,rfl,hk,dY,rfl,hh⟩:=hrel
      obtain ⟨ha,ik,bR⟩:=aa hh
      have gF:=ab dY
      have a0:0≤a:=by omega
      have a1:a≤9223372036854775807:=by omega
      clear hh dY
      by_cases IH:k<s.size
      ·obtain ⟨x,hx,ew,gx⟩:=cS s k IH
       have gf:(aG s).drop k=x::(aG s).drop (k+1):=by
        obtain ⟨hl,pF⟩:=zB hx
        rw[List.drop_eq_getElem_cons hl,pF]
       rw[gf] at bR
       have je:=ab bR
       have Ha:=ab ha
       clear gf hx bR ha
       go_wp2_with fail
       refine (iK wr x ew).mono ?_
       rintro e w' ⟨rfl,he⟩
       obtain rfl:wr=w':=he.symm
       rcases jq x with ⟨hI,hD⟩|⟨d,hI,hD,hd⟩
       ·rw[hI]
        have hn:wv (aG s)=none:=by
         rw[aa je]
         simp only[cA]
         split
         ·rfl
         ·rename_i d hd
          rw[if_neg (by have:=hD d hd;omega)]
        have Hn:=ab hn
        clear hn hD hI je
        go_wp2
        go_ret2
        exact gL (aa Hn)
       ·rw[hI]
        have bR:=aa je
        simp only[cA,hD] at bR
        have d0:decide ((d:Int)<0)=false:=by simp
        clear je hI gx
        by_cases h8:d<8
        ·have i9:decide ((8:Int)≤(d:Int))=false:=by simp;omega
         obtain ⟨q,hq⟩:∃q:Nat,q=(9223372036854775807-d) / 8:=⟨_,rfl⟩
         have lF:(9223372036854775807-(d:Int)).tdiv 8=(q:Int):=by rw[Int.tdiv_eq_ediv_of_nonneg (by omega)];omega
         have hqb:q≤1152921504606846976:=by omega
         by_cases hm:acc*8+d≤9223372036854775807
         ·rw[if_pos ⟨by omega,hm⟩] at bR
          have ha:=aa Ha
          have iq:decide ((q:Int)<a)=false:=by simp;omega
          have im:a*8+(d:Int)≤9223372036854775807:=by omega
          have HN:Hid (a*8+(d:Int)=((acc*8+d:Nat):Int)∧acc*8+d≤9223372036854775807∧wv (aG s)=cA 8 9223372036854775807 ((aG s).drop (k+1)) (acc*8+d)):=⟨by omega,hm,bR⟩
          clear bR ha ik hm hq Ha
          go_wp2
          go_roundg (s.size-(k+1))
          case measure=>have:=aa gF;omega
          case rel=>exact ⟨k+1,acc*8+d,a*8+(d:Int),by go_num,by go_num,by omega,rfl,rfl,HN⟩
         ·rw[if_neg (by omega)] at bR
          have ha:=aa Ha
          have iq:decide ((q:Int)<a)=true:=by simp;omega
          have Hn:=ab bR
          clear bR ha ik hm hq Ha
          go_wp2
          go_ret2
          exact gL (aa Hn)
        ·have i9:decide ((8:Int)≤(d:Int))=true:=by simp;omega
         rw[if_neg (by omega)] at bR
         have Hn:=ab bR
         clear bR ik Ha h8
         go_wp2
         go_ret2
         exact gL (aa Hn)
      ·obtain rfl:k=s.size:=by omega
       rw[List.drop_eq_nil_of_le (by rw[bI];omega)] at bR
       have Hd:Hid (wv (aG s)=some acc):=bR
       have Ha:=ab ha
       clear bR ha ik
       go_wp2
       go_ret2
       rw[aa Ha]
       exact rE (aa Hd)
   ·have ua:wv (aG s)=cA 10 9223372036854775807 ((aG s).drop 0) 0:=by
     unfold wv
     rw[List.drop_zero,hl]
     rw[if_neg (by simp;omega),if_neg (by simp;omega),if_neg (by simp)]
    have TT:=ab ua
    have e0:=kJ (c:=x0) (k:=48) (by omega)
    clear ua hl PZ iZ
    go_enter Tryz.func52,Tryz.ntmps52
    go_wp2
    go_loopg [6,7,8] (s.size-0) (fun gk v6 v7 _ wr=>∃(k acc:Nat) (a:Int),v6=.int .i64 a∧v7=.int .i64 (k:Int)∧k≤s.size∧gk=s.size-k∧wr=W∧Hid (a=(acc:Int)∧acc≤9223372036854775807∧wv (aG s)=cA 10 9223372036854775807 ((aG s).drop k) acc))
    case atStart=>exact ⟨0,0,0,rfl,rfl,by omega,rfl,rfl,rfl,by omega,aa TT⟩
    case round =>
     obtain ⟨k,acc,a,rfl,rfl,hk,dY,rfl,hh⟩:=hrel
     obtain ⟨ha,ik,bR⟩:=aa hh
     have gF:=ab dY
     have a0:0≤a:=by omega
     have a1:a≤9223372036854775807:=by omega
     clear hh dY
     by_cases IH:k<s.size
     ·obtain ⟨x,hx,ew,gx⟩:=cS s k IH
      have gf:(aG s).drop k=x::(aG s).drop (k+1):=by
       obtain ⟨hl,pF⟩:=zB hx
       rw[List.drop_eq_getElem_cons hl,pF]
      rw[gf] at bR
      have je:=ab bR
      have Ha:=ab ha
      clear gf hx bR ha
      go_wp2_with fail
      refine (iK wr x ew).mono ?_
      rintro e w' ⟨rfl,he⟩
      obtain rfl:wr=w':=he.symm
      rcases jq x with ⟨hI,hD⟩|⟨d,hI,hD,hd⟩
      ·rw[hI]
       have hn:wv (aG s)=none:=by
        rw[aa je]
        simp only[cA]
        split
        ·rfl
        ·rename_i d hd
         rw[if_neg (by have:=hD d hd;omega)]
       have Hn:=ab hn
       clear hn hD hI je
       go_wp2
       go_ret2
       exact gL (aa Hn)
      ·rw[hI]
       have bR:=aa je
       simp only[cA,hD] at bR
       have d0:decide ((d:Int)<0)=false:=by simp
       clear je hI gx
       by_cases h8:d<10
       ·have i9:decide ((10:Int)≤(d:Int))=false:=by simp;omega
        obtain ⟨q,hq⟩:∃q:Nat,q=(9223372036854775807-d) / 10:=⟨_,rfl⟩
        have lF:(9223372036854775807-(d:Int)).tdiv 10=(q:Int):=by rw[Int.tdiv_eq_ediv_of_nonneg (by omega)];omega
        have hqb:q≤1152921504606846976:=by omega
        by_cases hm:acc*10+d≤9223372036854775807
        ·rw[if_pos ⟨by omega,hm⟩] at bR
         have ha:=aa Ha
         have iq:decide ((q:Int)<a)=false:=by simp;omega
         have im:a*10+(d:Int)≤9223372036854775807:=by omega
         have HN:Hid (a*10+(d:Int)=((acc*10+d:Nat):Int)∧acc*10+d≤9223372036854775807∧wv (aG s)=cA 10 9223372036854775807 ((aG s).drop (k+1)) (acc*10+d)):=⟨by omega,hm,bR⟩
         clear bR ha ik hm hq Ha
         go_wp2
         go_roundg (s.size-(k+1))
         case measure=>have:=aa gF;omega
         case rel=>exact ⟨k+1,acc*10+d,a*10+(d:Int),by go_num,by go_num,by omega,rfl,rfl,HN⟩
        ·rw[if_neg (by omega)] at bR
         have ha:=aa Ha
         have iq:decide ((q:Int)<a)=true:=by simp;omega
         have Hn:=ab bR
         clear bR ha ik hm hq Ha
         go_wp2
         go_ret2
         exact gL (aa Hn)
       ·have i9:decide ((10:Int)≤(d:Int))=true:=by simp;omega
        rw[if_neg (by omega)] at bR
        have Hn:=ab bR
        clear bR ik Ha h8
        go_wp2
        go_ret2
        exact gL (aa Hn)
     ·obtain rfl:k=s.size:=by omega
      rw[List.drop_eq_nil_of_le (by rw[bI];omega)] at bR
      have Hd:Hid (wv (aG s)=some acc):=bR
      have Ha:=ab ha
      clear bR ha ik
      go_wp2
      go_ret2
      rw[aa Ha]
      exact rE (aa Hd)
end Go.Proofs.YtjophoclfccmcaaGreatDoor
