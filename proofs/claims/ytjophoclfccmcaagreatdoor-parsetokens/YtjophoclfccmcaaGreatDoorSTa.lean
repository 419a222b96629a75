import Derived.Test.YtjophoclfccmcaaGreatDoorM03
set_option maxHeartbeats 4000000
set_option maxRecDepth 100000
namespace Go.Proofs.YtjophoclfccmcaaGreatDoor
open Go.RowKit
attribute [local go_sem ↓] Go.wp_at_zero Go.wp_at_succ
def rD (x:Nat):Int:=if 48≤x∧x≤57 then (x:Int)-48 else if 97≤x∧x≤102 then (x:Int)-87 else if 65≤x∧x≤70 then (x:Int)-55 else -1
theorem jr (x:Nat):(rD x=-1∧(∀d,Ce x=some d→16≤d))∨(∃d:Nat,rD x=(d:Int)∧Ce x=some d∧d<16):=by
 unfold rD Ce
 by_cases h1:48≤x∧x≤57
 ·rw[if_pos h1,if_pos h1];exact .inr ⟨x-48,by omega,rfl,by omega⟩
 ·rw[if_neg h1,if_neg h1]
  by_cases h2:97≤x∧x≤102
  ·rw[if_pos h2,if_neg (by omega),if_pos (by omega)];exact .inr ⟨x-87,by omega,rfl,by omega⟩
  ·rw[if_neg h2]
   by_cases h3:65≤x∧x≤70
   ·rw[if_pos h3,if_pos (by omega)];exact .inr ⟨x-55,by omega,rfl,by omega⟩
   ·rw[if_neg h3]
    refine .inl ⟨rfl,fun d hd=>?_⟩
    split at hd
    ·have:=zC hd;omega
    ·split at hd
     ·have:=zC hd;omega
     ·cases hd
theorem iN (W:World) (x:Nat) (hx:x<256):Calls Tryz.prog 89 #[.int .u8 (x:Int)] W fun e w=>e=.returned (.int .i64 (rD x))∧w=W:=by
 by_cases h1:48≤x∧x≤57
 ·have hk:rD x=(x:Int)-48:=by unfold rD;rw[if_pos h1]
  rw[hk]
  obtain ⟨h2,h3⟩:=h1
  have b1:=gd (c:=x) (k:=48) (by omega);have b2:=DK (c:=x) (k:=57) (by omega)
  go_enter Tryz.func89,Tryz.ntmps89
  go_wp2
  go_ret
  exact ⟨by first|rfl|(congr 2;omega),rfl⟩
 ·obtain VY:x<48∨57<x:=by omega
  by_cases h2:97≤x∧x≤102
  ·have hk:rD x=(x:Int)-97+10:=by unfold rD;rw[if_neg h1,if_pos h2];omega
   rw[hk]
   obtain ⟨h3,h4⟩:=h2
   have b1:=gd (c:=x) (k:=48) (by omega);have b2:=jI (c:=x) (k:=57) (by omega);have b3:=gd (c:=x) (k:=97) (by omega);have b4:=DK (c:=x) (k:=102) (by omega)
   clear h1 VY
   go_enter Tryz.func89,Tryz.ntmps89
   go_wp2
   go_ret
   exact ⟨by first|rfl|(congr 2;omega),rfl⟩
  ·by_cases h3:65≤x∧x≤70
   ·have hk:rD x=(x:Int)-65+10:=by unfold rD;rw[if_neg h1,if_neg h2,if_pos h3];omega
    rw[hk]
    obtain ⟨h4,h5⟩:=h3
    have b1:=gd (c:=x) (k:=48) (by omega);have b2:=jI (c:=x) (k:=57) (by omega);have b3:=nj (c:=x) (k:=97) (by omega);have b5:=gd (c:=x) (k:=65) (by omega);have b6:=DK (c:=x) (k:=70) (by omega)
    clear h1 VY h2
    go_enter Tryz.func89,Tryz.ntmps89
    go_wp2
    go_ret
    exact ⟨by first|rfl|(congr 2;omega),rfl⟩
   ·have hk:rD x=-1:=by unfold rD;rw[if_neg h1,if_neg h2,if_neg h3]
    rw[hk]
    obtain hh:x<48∨(57<x∧x<65)∨(70<x∧x<97)∨102<x:=by omega
    clear h1 VY h2 h3 hk
    rcases hh with hh|⟨hh,hi⟩|⟨hh,hi⟩|hh
    ·have b1:=nj (c:=x) (k:=48) (by omega);have b3:=nj (c:=x) (k:=97) (by omega);have b5:=nj (c:=x) (k:=65) (by omega)
     go_enter Tryz.func89,Tryz.ntmps89
     go_wp2
     go_ret
     exact ⟨rfl,rfl⟩
    ·have b1:=gd (c:=x) (k:=48) (by omega);have b2:=jI (c:=x) (k:=57) (by omega);have b3:=nj (c:=x) (k:=97) (by omega);have b5:=nj (c:=x) (k:=65) (by omega)
     go_enter Tryz.func89,Tryz.ntmps89
     go_wp2
     go_ret
     exact ⟨rfl,rfl⟩
    ·have b1:=gd (c:=x) (k:=48) (by omega);have b2:=jI (c:=x) (k:=57) (by omega);have b3:=nj (c:=x) (k:=97) (by omega);have b5:=gd (c:=x) (k:=65) (by omega);have b6:=jI (c:=x) (k:=70) (by omega)
     go_enter Tryz.func89,Tryz.ntmps89
     go_wp2
     go_ret
     exact ⟨rfl,rfl⟩
    ·have b1:=gd (c:=x) (k:=48) (by omega);have b2:=jI (c:=x) (k:=57) (by omega);have b3:=gd (c:=x) (k:=97) (by omega);have b4:=jI (c:=x) (k:=102) (by omega);have b5:=gd (c:=x) (k:=65) (by omega);have b6:=jI (c:=x) (k:=70) (by omega)
     go_enter Tryz.func89,Tryz.ntmps89
     go_wp2
     go_ret
     exact ⟨rfl,rfl⟩
def Xi (W:World) (l:List Nat) (e:Ending) (w:World):Prop:=w=W∧((∃u:Nat,e=.returned (.tuple #[.int .i64 (u:Int),.bool true])∧wv l=some u)∨(e=.returned (.tuple #[.int .i64 0,.bool false])∧wv l=none))
theorem gH {W:World}{l:List Nat} (h:wv l=none):Xi W l (.returned (.tuple #[.int .i64 0,.bool false])) W:=⟨rfl,.inr ⟨rfl,h⟩⟩
theorem rM {W:World}{l:List Nat}{u:Nat} (h:wv l=some u):Xi W l (.returned (.tuple #[.int .i64 (u:Int),.bool true])) W:=⟨rfl,.inl ⟨u,rfl,h⟩⟩
theorem C0 (W:World) (s:ByteArray) (hs:s.size≤65536):Calls Tryz.prog 52 #[.string s] W (Xi W (aI s)):=by
 by_cases h0:s.size=0
 ·have Hn:Hid (wv (aI s)=none):=by
   rw[List.eq_nil_of_length_eq_zero (by rw[bG];exact h0:(aI s).length=0)]
   show wv []=none
   decide
  obtain rfl:=rp h0
  go_enter Tryz.func52,Tryz.ntmps52
  go_wp2
  go_ret2
  exact gH (aa Hn)
 ·obtain ⟨x0,Y7,adq,gx0⟩:=cS s 0 (by omega)
  by_cases h1:s.size=1
  ·have Ub:Hid (wv (aI s)=cz 10 9223372036854775807 ((aI s).drop 0) 0):=by
    obtain ⟨c,hc⟩:∃c,aI s=[c]:=List.length_eq_one_iff.1 (by rw[bG];exact h1)
    rw[hc]
    show wv [c]=cz 10 9223372036854775807 [c] 0
    unfold wv
    rw[if_neg (by simp)]
    by_cases XO:c=48
    ·subst XO;decide
    ·rw[if_neg (by simpa using XO),if_neg (by simp)]
   have e1:=Tm (a:=s.size) (k:=1) (by omega)
   clear Y7 gx0
   go_enter Tryz.func52,Tryz.ntmps52
   go_wp2
   go_loopg [6,7,8] (s.size-0) (fun gk v6 v7 _ wr=>∃(k acc:Nat) (a:Int),v6=.int .i64 a∧v7=.int .i64 (k:Int)∧k≤s.size∧gk=s.size-k∧wr=W∧Hid (a=(acc:Int)∧acc≤9223372036854775807∧wv (aI s)=cz 10 9223372036854775807 ((aI s).drop k) acc))
   case atStart=>exact ⟨0,0,0,rfl,rfl,by omega,rfl,rfl,rfl,by omega,aa Ub⟩
   case round =>
    obtain ⟨k,acc,a,rfl,rfl,hk,eG,rfl,hh⟩:=hrel
    obtain ⟨ha,ik,bP⟩:=aa hh
    have jw:=ab eG
    have a0:0≤a:=by omega
    have a1:a≤9223372036854775807:=by omega
    clear hh eG
    by_cases ID:k<s.size
    ·obtain ⟨x,hx,eL,gx⟩:=cS s k ID
     have fV:(aI s).drop k=x::(aI s).drop (k+1):=by
      obtain ⟨hl,gI⟩:=zB hx
      rw[List.drop_eq_getElem_cons hl,gI]
     rw[fV] at bP
     have jf:=ab bP
     have Ha:=ab ha
     clear fV hx bP ha
     go_wp2_with fail
     refine (iN wr x eL).mono ?_
     rintro e w' ⟨rfl,he⟩
     obtain rfl:wr=w':=he.symm
     rcases jr x with ⟨hI,hD⟩|⟨d,hI,hD,hd⟩
     ·rw[hI]
      have hn:wv (aI s)=none:=by
       rw[aa jf]
       simp only[cz]
       split
       ·rfl
       ·rename_i d hd
        rw[if_neg (by have:=hD d hd;omega)]
      have Hn:=ab hn
      clear hn hD hI jf
      go_wp2
      go_ret2
      exact gH (aa Hn)
     ·rw[hI]
      have bP:=aa jf
      simp only[cz,hD] at bP
      have d0:decide ((d:Int)<0)=false:=by simp
      clear jf hI gx
      by_cases h8:d<10
      ·have i9:decide ((10:Int)≤(d:Int))=false:=by simp;omega
       obtain ⟨q,hq⟩:∃q:Nat,q=(9223372036854775807-d) / 10:=⟨_,rfl⟩
       have lG:(9223372036854775807-(d:Int)).tdiv 10=(q:Int):=by rw[Int.tdiv_eq_ediv_of_nonneg (by omega)];omega
       have hqb:q≤1152921504606846976:=by omega
       by_cases hm:acc*10+d≤9223372036854775807
       ·rw[if_pos ⟨by omega,hm⟩] at bP
        have ha:=aa Ha
        have iq:decide ((q:Int)<a)=false:=by simp;omega
        have im:a*10+(d:Int)≤9223372036854775807:=by omega
        have HN:Hid (a*10+(d:Int)=((acc*10+d:Nat):Int)∧acc*10+d≤9223372036854775807∧wv (aI s)=cz 10 9223372036854775807 ((aI s).drop (k+1)) (acc*10+d)):=⟨by omega,hm,bP⟩
        clear bP ha ik hm hq Ha
        go_wp2
        go_roundg (s.size-(k+1))
        case measure=>have:=aa jw;omega
        case rel=>exact ⟨k+1,acc*10+d,a*10+(d:Int),by go_num,by go_num,by omega,rfl,rfl,HN⟩
       ·rw[if_neg (by omega)] at bP
        have ha:=aa Ha
        have iq:decide ((q:Int)<a)=true:=by simp;omega
        have Hn:=ab bP
        clear bP ha ik hm hq Ha
        go_wp2
        go_ret2
        exact gH (aa Hn)
      ·have i9:decide ((10:Int)≤(d:Int))=true:=by simp;omega
       rw[if_neg (by omega)] at bP
       have Hn:=ab bP
       clear bP ik Ha h8
       go_wp2
       go_ret2
       exact gH (aa Hn)
    ·obtain rfl:k=s.size:=by omega
     rw[List.drop_eq_nil_of_le (by rw[bG];omega)] at bP
     have Hd:Hid (wv (aI s)=some acc):=bP
     have Ha:=ab ha
     clear bP ha ik
     go_wp2
     go_ret2
     rw[aa Ha]
     exact rM (aa Hd)
  ·obtain ⟨x1,jo,adp,gx1⟩:=cS s 1 (by omega)
   have hl:aI s=x0::x1::(aI s).drop 2:=by
    obtain ⟨hl0,hh0⟩:=zB Y7
    obtain ⟨hl1,hh1⟩:=zB jo
    have q0:=List.drop_eq_getElem_cons hl0
    have q1:=List.drop_eq_getElem_cons hl1
    rw[hh0,List.drop_zero] at q0
    rw[hh1] at q1
    rw[←q1]
    exact q0
   have e1:=Tl (a:=s.size) (k:=1) (by omega)
   by_cases XO:x0=48
   ·by_cases hX:x1=120∨x1=88
    ·have ue:wv (aI s)=if s.size=2 then none else cz 16 9223372036854775807 ((aI s).drop 2) 0:=by
      unfold wv
      rw[if_pos (by rw[hl,XO];rcases hX with rfl|rfl<;>simp),bG]
     clear hl Y7 jo
     by_cases h2:s.size=2
     ·rw[if_pos h2] at ue
      have Hn:=ab ue
      clear ue
      have e0:((x0:Int)==48)=true:=by simp;omega
      rcases hX with hX|hX
      ·have e2:((x1:Int)==120)=true:=by simp;omega
       go_enter Tryz.func52,Tryz.ntmps52
       go_wp2
       go_ret2
       exact gH (aa Hn)
      ·have e2:=kL (c:=x1) (k:=120) (by omega)
       have e3:((x1:Int)==88)=true:=by simp;omega
       go_enter Tryz.func52,Tryz.ntmps52
       go_wp2
       go_ret2
       exact gH (aa Hn)
     ·rw[if_neg h2] at ue
      have Ub:=ab ue
      clear ue
      have e0:((x0:Int)==48)=true:=by simp;omega
      have e4:decide ((s.size:Int)≤2)=false:=by simp;omega
      rcases hX with hX|hX
      ·have e2:((x1:Int)==120)=true:=by simp;omega
       go_enter Tryz.func52,Tryz.ntmps52
       go_wp2
       go_loopg [6,7,8] (s.size-2) (fun gk v6 v7 _ wr=>∃(k acc:Nat) (a:Int),v6=.int .i64 a∧v7=.int .i64 (k:Int)∧k≤s.size∧gk=s.size-k∧wr=W∧Hid (a=(acc:Int)∧acc≤9223372036854775807∧wv (aI s)=cz 16 9223372036854775807 ((aI s).drop k) acc))
       case atStart=>exact ⟨2,0,0,rfl,rfl,by omega,rfl,rfl,rfl,by omega,aa Ub⟩
       case round =>
        obtain ⟨k,acc,a,rfl,rfl,hk,eG,rfl,hh⟩:=hrel
        obtain ⟨ha,ik,bP⟩:=aa hh
        have jw:=ab eG
        have a0:0≤a:=by omega
        have a1:a≤9223372036854775807:=by omega
        clear hh eG
        by_cases ID:k<s.size
        ·obtain ⟨x,hx,eL,gx⟩:=cS s k ID
         have fV:(aI s).drop k=x::(aI s).drop (k+1):=by
          obtain ⟨hl,gI⟩:=zB hx
          rw[List.drop_eq_getElem_cons hl,gI]
         rw[fV] at bP
         have jf:=ab bP
         have Ha:=ab ha
         clear fV hx bP ha
         go_wp2_with fail
         refine (iN wr x eL).mono ?_
         rintro e w' ⟨rfl,he⟩
         obtain rfl:wr=w':=he.symm
         rcases jr x with ⟨hI,hD⟩|⟨d,hI,hD,hd⟩
         ·rw[hI]
          have hn:wv (aI s)=none:=by
           rw[aa jf]
           simp only[cz]
           split
           ·rfl
           ·rename_i d hd
            rw[if_neg (by have:=hD d hd;omega)]
          have Hn:=ab hn
          clear hn hD hI jf
          go_wp2
          go_ret2
          exact gH (aa Hn)
         ·rw[hI]
          have bP:=aa jf
          simp only[cz,hD] at bP
          have d0:decide ((d:Int)<0)=false:=by simp
          clear jf hI gx
          have i9:decide ((16:Int)≤(d:Int))=false:=by simp;omega
          obtain ⟨q,hq⟩:∃q:Nat,q=(9223372036854775807-d) / 16:=⟨_,rfl⟩
          have lG:(9223372036854775807-(d:Int)).tdiv 16=(q:Int):=by rw[Int.tdiv_eq_ediv_of_nonneg (by omega)];omega
          have hqb:q≤1152921504606846976:=by omega
          by_cases hm:acc*16+d≤9223372036854775807
          ·rw[if_pos ⟨by omega,hm⟩] at bP
           have ha:=aa Ha
           have iq:decide ((q:Int)<a)=false:=by simp;omega
           have im:a*16+(d:Int)≤9223372036854775807:=by omega
           have HN:Hid (a*16+(d:Int)=((acc*16+d:Nat):Int)∧acc*16+d≤9223372036854775807∧wv (aI s)=cz 16 9223372036854775807 ((aI s).drop (k+1)) (acc*16+d)):=⟨by omega,hm,bP⟩
           clear bP ha ik hm hq Ha
           go_wp2
           go_roundg (s.size-(k+1))
           case measure=>have:=aa jw;omega
           case rel=>exact ⟨k+1,acc*16+d,a*16+(d:Int),by go_num,by go_num,by omega,rfl,rfl,HN⟩
          ·rw[if_neg (by omega)] at bP
           have ha:=aa Ha
           have iq:decide ((q:Int)<a)=true:=by simp;omega
           have Hn:=ab bP
           clear bP ha ik hm hq Ha
           go_wp2
           go_ret2
           exact gH (aa Hn)
        ·obtain rfl:k=s.size:=by omega
         rw[List.drop_eq_nil_of_le (by rw[bG];omega)] at bP
         have Hd:Hid (wv (aI s)=some acc):=bP
         have Ha:=ab ha
         clear bP ha ik
         go_wp2
         go_ret2
         rw[aa Ha]
         exact rM (aa Hd)
      ·have e2:=kL (c:=x1) (k:=120) (by omega)
       have e3:((x1:Int)==88)=true:=by simp;omega
       go_enter Tryz.func52,Tryz.ntmps52
       go_wp2
       go_loopg [6,7,8] (s.size-2) (fun gk v6 v7 _ wr=>∃(k acc:Nat) (a:Int),v6=.int .i64 a∧v7=.int .i64 (k:Int)∧k≤s.size∧gk=s.size-k∧wr=W∧Hid (a=(acc:Int)∧acc≤9223372036854775807∧wv (aI s)=cz 16 9223372036854775807 ((aI s).drop k) acc))
       case atStart=>exact ⟨2,0,0,rfl,rfl,by omega,rfl,rfl,rfl,by omega,aa Ub⟩
       case round =>
        obtain ⟨k,acc,a,rfl,rfl,hk,eG,rfl,hh⟩:=hrel
        obtain ⟨ha,ik,bP⟩:=aa hh
        have jw:=ab eG
        have a0:0≤a:=by omega
        have a1:a≤9223372036854775807:=by omega
        clear hh eG
        by_cases ID:k<s.size
        ·obtain ⟨x,hx,eL,gx⟩:=cS s k ID
         have fV:(aI s).drop k=x::(aI s).drop (k+1):=by
          obtain ⟨hl,gI⟩:=zB hx
          rw[List.drop_eq_getElem_cons hl,gI]
         rw[fV] at bP
         have jf:=ab bP
         have Ha:=ab ha
         clear fV hx bP ha
         go_wp2_with fail
         refine (iN wr x eL).mono ?_
         rintro e w' ⟨rfl,he⟩
         obtain rfl:wr=w':=he.symm
         rcases jr x with ⟨hI,hD⟩|⟨d,hI,hD,hd⟩
         ·rw[hI]
          have hn:wv (aI s)=none:=by
           rw[aa jf]
           simp only[cz]
           split
           ·rfl
           ·rename_i d hd
            rw[if_neg (by have:=hD d hd;omega)]
          have Hn:=ab hn
          clear hn hD hI jf
          go_wp2
          go_ret2
          exact gH (aa Hn)
         ·rw[hI]
          have bP:=aa jf
          simp only[cz,hD] at bP
          have d0:decide ((d:Int)<0)=false:=by simp
          clear jf hI gx
          have i9:decide ((16:Int)≤(d:Int))=false:=by simp;omega
          obtain ⟨q,hq⟩:∃q:Nat,q=(9223372036854775807-d) / 16:=⟨_,rfl⟩
          have lG:(9223372036854775807-(d:Int)).tdiv 16=(q:Int):=by rw[Int.tdiv_eq_ediv_of_nonneg (by omega)];omega
          have hqb:q≤1152921504606846976:=by omega
          by_cases hm:acc*16+d≤9223372036854775807
          ·rw[if_pos ⟨by omega,hm⟩] at bP
           have ha:=aa Ha
           have iq:decide ((q:Int)<a)=false:=by simp;omega
           have im:a*16+(d:Int)≤9223372036854775807:=by omega
           have HN:Hid (a*16+(d:Int)=((acc*16+d:Nat):Int)∧acc*16+d≤9223372036854775807∧wv (aI s)=cz 16 9223372036854775807 ((aI s).drop (k+1)) (acc*16+d)):=⟨by omega,hm,bP⟩
           clear bP ha ik hm hq Ha
           go_wp2
           go_roundg (s.size-(k+1))
           case measure=>have:=aa jw;omega
           case rel=>exact ⟨k+1,acc*16+d,a*16+(d:Int),by go_num,by go_num,by omega,rfl,rfl,HN⟩
          ·rw[if_neg (by omega)] at bP
           have ha:=aa Ha
           have iq:decide ((q:Int)<a)=true:=by simp;omega
           have Hn:=ab bP
           clear bP ha ik hm hq Ha
           go_wp2
           go_ret2
           exact gH (aa Hn)
        ·obtain rfl:k=s.size:=by omega
         rw[List.drop_eq_nil_of_le (by rw[bG];omega)] at bP
         have Hd:Hid (wv (aI s)=some acc):=bP
         have Ha:=ab ha
         clear bP ha ik
         go_wp2
         go_ret2
         rw[aa Ha]
         exact rM (aa Hd)
    ·have ue:wv (aI s)=cz 8 9223372036854775807 ((aI s).drop 1) 0:=by
      unfold wv
      rw[hl]
      rw[if_neg (by simp;omega),if_pos (by simp[XO]),XO]
      show cz 8 _ (48::x1::_) 0=cz 8 _ (x1::_) 0
      simp only[cz,show Ce 48=some 0 from rfl]
      simp
     have Ub:=ab ue
     have e0:((x0:Int)==48)=true:=by simp;omega
     have e2:=kL (c:=x1) (k:=120) (by omega)
     have e3:=kL (c:=x1) (k:=88) (by omega)
     clear ue hl Y7 jo hX
     have e4:decide ((s.size:Int)≤1)=false:=by simp;omega
     go_enter Tryz.func52,Tryz.ntmps52
     go_wp2
     go_loopg [6,7,8] (s.size-1) (fun gk v6 v7 _ wr=>∃(k acc:Nat) (a:Int),v6=.int .i64 a∧v7=.int .i64 (k:Int)∧k≤s.size∧gk=s.size-k∧wr=W∧Hid (a=(acc:Int)∧acc≤9223372036854775807∧wv (aI s)=cz 8 9223372036854775807 ((aI s).drop k) acc))
     case atStart=>exact ⟨1,0,0,rfl,rfl,by omega,rfl,rfl,rfl,by omega,aa Ub⟩
     case round =>
      obtain ⟨k,acc,a,rfl,rfl,hk,eG,rfl,hh⟩:=hrel
      obtain ⟨ha,ik,bP⟩:=aa hh
      have jw:=ab eG
      have a0:0≤a:=by omega
      have a1:a≤9223372036854775807:=by omega
      clear hh eG
      by_cases ID:k<s.size
      ·obtain ⟨x,hx,eL,gx⟩:=cS s k ID
       have fV:(aI s).drop k=x::(aI s).drop (k+1):=by
        obtain ⟨hl,gI⟩:=zB hx
        rw[List.drop_eq_getElem_cons hl,gI]
       rw[fV] at bP
       have jf:=ab bP
       have Ha:=ab ha
       clear fV hx bP ha
       go_wp2_with fail
       refine (iN wr x eL).mono ?_
       rintro e w' ⟨rfl,he⟩
       obtain rfl:wr=w':=he.symm
       rcases jr x with ⟨hI,hD⟩|⟨d,hI,hD,hd⟩
       ·rw[hI]
        have hn:wv (aI s)=none:=by
         rw[aa jf]
         simp only[cz]
         split
         ·rfl
         ·rename_i d hd
          rw[if_neg (by have:=hD d hd;omega)]
        have Hn:=ab hn
        clear hn hD hI jf
        go_wp2
        go_ret2
        exact gH (aa Hn)
       ·rw[hI]
        have bP:=aa jf
        simp only[cz,hD] at bP
        have d0:decide ((d:Int)<0)=false:=by simp
        clear jf hI gx
        by_cases h8:d<8
        ·have i9:decide ((8:Int)≤(d:Int))=false:=by simp;omega
         obtain ⟨q,hq⟩:∃q:Nat,q=(9223372036854775807-d) / 8:=⟨_,rfl⟩
         have lG:(9223372036854775807-(d:Int)).tdiv 8=(q:Int):=by rw[Int.tdiv_eq_ediv_of_nonneg (by omega)];omega
         have hqb:q≤1152921504606846976:=by omega
         by_cases hm:acc*8+d≤9223372036854775807
         ·rw[if_pos ⟨by omega,hm⟩] at bP
          have ha:=aa Ha
          have iq:decide ((q:Int)<a)=false:=by simp;omega
          have im:a*8+(d:Int)≤9223372036854775807:=by omega
          have HN:Hid (a*8+(d:Int)=((acc*8+d:Nat):Int)∧acc*8+d≤9223372036854775807∧wv (aI s)=cz 8 9223372036854775807 ((aI s).drop (k+1)) (acc*8+d)):=⟨by omega,hm,bP⟩
          clear bP ha ik hm hq Ha
          go_wp2
          go_roundg (s.size-(k+1))
          case measure=>have:=aa jw;omega
          case rel=>exact ⟨k+1,acc*8+d,a*8+(d:Int),by go_num,by go_num,by omega,rfl,rfl,HN⟩
         ·rw[if_neg (by omega)] at bP
          have ha:=aa Ha
          have iq:decide ((q:Int)<a)=true:=by simp;omega
          have Hn:=ab bP
          clear bP ha ik hm hq Ha
          go_wp2
          go_ret2
          exact gH (aa Hn)
        ·have i9:decide ((8:Int)≤(d:Int))=true:=by simp;omega
         rw[if_neg (by omega)] at bP
         have Hn:=ab bP
         clear bP ik Ha h8
         go_wp2
         go_ret2
         exact gH (aa Hn)
      ·obtain rfl:k=s.size:=by omega
       rw[List.drop_eq_nil_of_le (by rw[bG];omega)] at bP
       have Hd:Hid (wv (aI s)=some acc):=bP
       have Ha:=ab ha
       clear bP ha ik
       go_wp2
       go_ret2
       rw[aa Ha]
       exact rM (aa Hd)
   ·have ue:wv (aI s)=cz 10 9223372036854775807 ((aI s).drop 0) 0:=by
     unfold wv
     rw[List.drop_zero,hl]
     rw[if_neg (by simp;omega),if_neg (by simp;omega),if_neg (by simp)]
    have Ub:=ab ue
    have e0:=kL (c:=x0) (k:=48) (by omega)
    clear ue hl Y7 jo
    go_enter Tryz.func52,Tryz.ntmps52
    go_wp2
    go_loopg [6,7,8] (s.size-0) (fun gk v6 v7 _ wr=>∃(k acc:Nat) (a:Int),v6=.int .i64 a∧v7=.int .i64 (k:Int)∧k≤s.size∧gk=s.size-k∧wr=W∧Hid (a=(acc:Int)∧acc≤9223372036854775807∧wv (aI s)=cz 10 9223372036854775807 ((aI s).drop k) acc))
    case atStart=>exact ⟨0,0,0,rfl,rfl,by omega,rfl,rfl,rfl,by omega,aa Ub⟩
    case round =>
     obtain ⟨k,acc,a,rfl,rfl,hk,eG,rfl,hh⟩:=hrel
     obtain ⟨ha,ik,bP⟩:=aa hh
     have jw:=ab eG
     have a0:0≤a:=by omega
     have a1:a≤9223372036854775807:=by omega
     clear hh eG
     by_cases ID:k<s.size
     ·obtain ⟨x,hx,eL,gx⟩:=cS s k ID
      have fV:(aI s).drop k=x::(aI s).drop (k+1):=by
       obtain ⟨hl,gI⟩:=zB hx
       rw[List.drop_eq_getElem_cons hl,gI]
      rw[fV] at bP
      have jf:=ab bP
      have Ha:=ab ha
      clear fV hx bP ha
      go_wp2_with fail
      refine (iN wr x eL).mono ?_
      rintro e w' ⟨rfl,he⟩
      obtain rfl:wr=w':=he.symm
      rcases jr x with ⟨hI,hD⟩|⟨d,hI,hD,hd⟩
      ·rw[hI]
       have hn:wv (aI s)=none:=by
        rw[aa jf]
        simp only[cz]
        split
        ·rfl
        ·rename_i d hd
         rw[if_neg (by have:=hD d hd;omega)]
       have Hn:=ab hn
       clear hn hD hI jf
       go_wp2
       go_ret2
       exact gH (aa Hn)
      ·rw[hI]
       have bP:=aa jf
       simp only[cz,hD] at bP
       have d0:decide ((d:Int)<0)=false:=by simp
       clear jf hI gx
       by_cases h8:d<10
       ·have i9:decide ((10:Int)≤(d:Int))=false:=by simp;omega
        obtain ⟨q,hq⟩:∃q:Nat,q=(9223372036854775807-d) / 10:=⟨_,rfl⟩
        have lG:(9223372036854775807-(d:Int)).tdiv 10=(q:Int):=by rw[Int.tdiv_eq_ediv_of_nonneg (by omega)];omega
        have hqb:q≤1152921504606846976:=by omega
        by_cases hm:acc*10+d≤9223372036854775807
        ·rw[if_pos ⟨by omega,hm⟩] at bP
         have ha:=aa Ha
         have iq:decide ((q:Int)<a)=false:=by simp;omega
         have im:a*10+(d:Int)≤9223372036854775807:=by omega
         have HN:Hid (a*10+(d:Int)=((acc*10+d:Nat):Int)∧acc*10+d≤9223372036854775807∧wv (aI s)=cz 10 9223372036854775807 ((aI s).drop (k+1)) (acc*10+d)):=⟨by omega,hm,bP⟩
         clear bP ha ik hm hq Ha
         go_wp2
         go_roundg (s.size-(k+1))
         case measure=>have:=aa jw;omega
         case rel=>exact ⟨k+1,acc*10+d,a*10+(d:Int),by go_num,by go_num,by omega,rfl,rfl,HN⟩
        ·rw[if_neg (by omega)] at bP
         have ha:=aa Ha
         have iq:decide ((q:Int)<a)=true:=by simp;omega
         have Hn:=ab bP
         clear bP ha ik hm hq Ha
         go_wp2
         go_ret2
         exact gH (aa Hn)
       ·have i9:decide ((10:Int)≤(d:Int))=true:=by simp;omega
        rw[if_neg (by omega)] at bP
        have Hn:=ab bP
        clear bP ik Ha h8
        go_wp2
        go_ret2
        exact gH (aa Hn)
     ·obtain rfl:k=s.size:=by omega
      rw[List.drop_eq_nil_of_le (by rw[bG];omega)] at bP
      have Hd:Hid (wv (aI s)=some acc):=bP
      have Ha:=ab ha
      clear bP ha ik
      go_wp2
      go_ret2
      rw[aa Ha]
      exact rM (aa Hd)
end Go.Proofs.YtjophoclfccmcaaGreatDoor
