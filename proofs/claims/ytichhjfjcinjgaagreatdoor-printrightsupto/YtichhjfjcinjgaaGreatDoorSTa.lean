import Derived.Test.YtichhjfjcinjgaaGreatDoorM09
set_option maxHeartbeats 4000000
set_option maxRecDepth 100000
namespace Go.Proofs.YtichhjfjcinjgaaGreatDoor
open Go.RowKit
attribute [local go_sem ↓] Go.wp_at_zero Go.wp_at_succ
def o4 (x:Nat):Int:=if 48≤x∧x≤57 then (x:Int)-48 else if 97≤x∧x≤102 then (x:Int)-87 else if 65≤x∧x≤70 then (x:Int)-55 else -1
theorem ie (x:Nat):(o4 x=-1∧(∀d,yH x=some d→16≤d))∨(∃d:Nat,o4 x=(d:Int)∧yH x=some d∧d<16):=by
 unfold o4 yH
 by_cases h1:48≤x∧x≤57
 ·rw[if_pos h1,if_pos h1];exact .inr ⟨x-48,by omega,rfl,by omega⟩
 ·rw[if_neg h1,if_neg h1]
  by_cases h2:97≤x∧x≤102
  ·rw[if_pos h2,if_neg (by omega),if_pos (by omega)];exact .inr ⟨x-87,by omega,rfl,by omega⟩
  ·rw[if_neg h2]
   by_cases h3:65≤x∧x≤70
   ·rw[if_pos h3,if_pos (by omega)];exact .inr ⟨x-55,by omega,rfl,by omega⟩
   ·rw[if_neg h3]
    refine .inl ⟨rfl,fun d hd=>?_⟩
    split at hd
    ·have:=zC hd;omega
    ·split at hd
     ·have:=zC hd;omega
     ·cases hd
theorem gF (W:World) (x:Nat) (hx:x<256):Calls Tryz.prog 152 #[.int .u8 (x:Int)] W fun e w=>e=.returned (.int .i64 (o4 x))∧w=W:=by
 by_cases h1:48≤x∧x≤57
 ·have hk:o4 x=(x:Int)-48:=by unfold o4;rw[if_pos h1]
  rw[hk]
  obtain ⟨h2,h3⟩:=h1
  have b1:=fl (c:=x) (k:=48) (by omega);have b2:=AD (c:=x) (k:=57) (by omega)
  go_enter Tryz.func152,Tryz.ntmps152
  go_wp2
  go_ret
  exact ⟨by first|rfl|(congr 2;omega),rfl⟩
 ·obtain W7:x<48∨57<x:=by omega
  by_cases h2:97≤x∧x≤102
  ·have hk:o4 x=(x:Int)-97+10:=by unfold o4;rw[if_neg h1,if_pos h2];omega
   rw[hk]
   obtain ⟨h3,h4⟩:=h2
   have b1:=fl (c:=x) (k:=48) (by omega);have b2:=iH (c:=x) (k:=57) (by omega);have b3:=fl (c:=x) (k:=97) (by omega);have b4:=AD (c:=x) (k:=102) (by omega)
   clear h1 W7
   go_enter Tryz.func152,Tryz.ntmps152
   go_wp2
   go_ret
   exact ⟨by first|rfl|(congr 2;omega),rfl⟩
  ·by_cases h3:65≤x∧x≤70
   ·have hk:o4 x=(x:Int)-65+10:=by unfold o4;rw[if_neg h1,if_neg h2,if_pos h3];omega
    rw[hk]
    obtain ⟨h4,h5⟩:=h3
    have b1:=fl (c:=x) (k:=48) (by omega);have b2:=iH (c:=x) (k:=57) (by omega);have b3:=ln (c:=x) (k:=97) (by omega);have b5:=fl (c:=x) (k:=65) (by omega);have b6:=AD (c:=x) (k:=70) (by omega)
    clear h1 W7 h2
    go_enter Tryz.func152,Tryz.ntmps152
    go_wp2
    go_ret
    exact ⟨by first|rfl|(congr 2;omega),rfl⟩
   ·have hk:o4 x=-1:=by unfold o4;rw[if_neg h1,if_neg h2,if_neg h3]
    rw[hk]
    obtain hh:x<48∨(57<x∧x<65)∨(70<x∧x<97)∨102<x:=by omega
    clear h1 W7 h2 h3 hk
    rcases hh with hh|⟨hh,hi⟩|⟨hh,hi⟩|hh
    ·have b1:=ln (c:=x) (k:=48) (by omega);have b3:=ln (c:=x) (k:=97) (by omega);have b5:=ln (c:=x) (k:=65) (by omega)
     go_enter Tryz.func152,Tryz.ntmps152
     go_wp2
     go_ret
     exact ⟨rfl,rfl⟩
    ·have b1:=fl (c:=x) (k:=48) (by omega);have b2:=iH (c:=x) (k:=57) (by omega);have b3:=ln (c:=x) (k:=97) (by omega);have b5:=ln (c:=x) (k:=65) (by omega)
     go_enter Tryz.func152,Tryz.ntmps152
     go_wp2
     go_ret
     exact ⟨rfl,rfl⟩
    ·have b1:=fl (c:=x) (k:=48) (by omega);have b2:=iH (c:=x) (k:=57) (by omega);have b3:=ln (c:=x) (k:=97) (by omega);have b5:=fl (c:=x) (k:=65) (by omega);have b6:=iH (c:=x) (k:=70) (by omega)
     go_enter Tryz.func152,Tryz.ntmps152
     go_wp2
     go_ret
     exact ⟨rfl,rfl⟩
    ·have b1:=fl (c:=x) (k:=48) (by omega);have b2:=iH (c:=x) (k:=57) (by omega);have b3:=fl (c:=x) (k:=97) (by omega);have b4:=iH (c:=x) (k:=102) (by omega);have b5:=fl (c:=x) (k:=65) (by omega);have b6:=iH (c:=x) (k:=70) (by omega)
     go_enter Tryz.func152,Tryz.ntmps152
     go_wp2
     go_ret
     exact ⟨rfl,rfl⟩
def PG (W:World) (l:List Nat) (e:Ending) (w:World):Prop:=w=W∧((∃u:Nat,e=.returned (.tuple #[.int .i64 (u:Int),.bool true])∧wv l=some u)∨(e=.returned (.tuple #[.int .i64 0,.bool false])∧wv l=none))
theorem fM {W:World}{l:List Nat} (h:wv l=none):PG W l (.returned (.tuple #[.int .i64 0,.bool false])) W:=⟨rfl,.inr ⟨rfl,h⟩⟩
theorem pj {W:World}{l:List Nat}{u:Nat} (h:wv l=some u):PG W l (.returned (.tuple #[.int .i64 (u:Int),.bool true])) W:=⟨rfl,.inl ⟨u,rfl,h⟩⟩
theorem qE (W:World) (s:ByteArray) (hs:s.size≤65536):Calls Tryz.prog 104 #[.string s] W (PG W (aI s)):=by
 by_cases h0:s.size=0
 ·have Hn:Hid (wv (aI s)=none):=by
   rw[List.eq_nil_of_length_eq_zero (by rw[aZ];exact h0:(aI s).length=0)]
   show wv []=none
   decide
  obtain rfl:=uJ h0
  go_enter Tryz.func104,Tryz.ntmps104
  go_wp2
  go_ret2
  exact fM (ab Hn)
 ·obtain ⟨x0,Cx,aap,gx0⟩:=cj s 0 (by omega)
  by_cases h1:s.size=1
  ·have MQ:Hid (wv (aI s)=bV 10 9223372036854775807 ((aI s).drop 0) 0):=by
    obtain ⟨c,hc⟩:∃c,aI s=[c]:=List.length_eq_one_iff.1 (by rw[aZ];exact h1)
    rw[hc]
    show wv [c]=bV 10 9223372036854775807 [c] 0
    unfold wv
    rw[if_neg (by simp)]
    by_cases Qf:c=48
    ·subst Qf;decide
    ·rw[if_neg (by simpa using Qf),if_neg (by simp)]
   have e1:=Rn (a:=s.size) (k:=1) (by omega)
   clear Cx gx0
   go_enter Tryz.func104,Tryz.ntmps104
   go_wp2
   go_loopg [6,7,8] (s.size-0) (fun gk v6 v7 _ wr=>∃(k acc:Nat) (a:Int),v6=.int .i64 a∧v7=.int .i64 (k:Int)∧k≤s.size∧gk=s.size-k∧wr=W∧Hid (a=(acc:Int)∧acc≤9223372036854775807∧wv (aI s)=bV 10 9223372036854775807 ((aI s).drop k) acc))
   case atStart=>exact ⟨0,0,0,rfl,rfl,by omega,rfl,rfl,rfl,by omega,ab MQ⟩
   case round =>
    obtain ⟨k,acc,a,rfl,rfl,hk,aW,rfl,hh⟩:=hrel
    obtain ⟨ha,fW,bF⟩:=ab hh
    have bz:=al aW
    have a0:0≤a:=by omega
    have a1:a≤9223372036854775807:=by omega
    clear hh aW
    by_cases IE:k<s.size
    ·obtain ⟨x,hx,c8,gx⟩:=cj s k IE
     have fk:(aI s).drop k=x::(aI s).drop (k+1):=by
      obtain ⟨hl,mc⟩:=zB hx
      rw[List.drop_eq_getElem_cons hl,mc]
     rw[fk] at bF
     have gW:=al bF
     have Ha:=al ha
     clear fk hx bF ha
     go_wp2_with fail
     refine (gF wr x c8).mono ?_
     rintro e w' ⟨rfl,he⟩
     obtain rfl:wr=w':=he.symm
     rcases ie x with ⟨hI,hD⟩|⟨d,hI,hD,hd⟩
     ·rw[hI]
      have hn:wv (aI s)=none:=by
       rw[ab gW]
       simp only[bV]
       split
       ·rfl
       ·rename_i d hd
        rw[if_neg (by have:=hD d hd;omega)]
      have Hn:=al hn
      clear hn hD hI gW
      go_wp2
      go_ret2
      exact fM (ab Hn)
     ·rw[hI]
      have bF:=ab gW
      simp only[bV,hD] at bF
      have d0:decide ((d:Int)<0)=false:=by simp
      clear gW hI gx
      by_cases h8:d<10
      ·have i9:decide ((10:Int)≤(d:Int))=false:=by simp;omega
       obtain ⟨q,hq⟩:∃q:Nat,q=(9223372036854775807-d) / 10:=⟨_,rfl⟩
       have gT:(9223372036854775807-(d:Int)).tdiv 10=(q:Int):=by rw[Int.tdiv_eq_ediv_of_nonneg (by omega)];omega
       have Fa:q≤1152921504606846976:=by omega
       by_cases hm:acc*10+d≤9223372036854775807
       ·rw[if_pos ⟨by omega,hm⟩] at bF
        have ha:=ab Ha
        have iq:decide ((q:Int)<a)=false:=by simp;omega
        have im:a*10+(d:Int)≤9223372036854775807:=by omega
        have HN:Hid (a*10+(d:Int)=((acc*10+d:Nat):Int)∧acc*10+d≤9223372036854775807∧wv (aI s)=bV 10 9223372036854775807 ((aI s).drop (k+1)) (acc*10+d)):=⟨by omega,hm,bF⟩
        clear bF ha fW hm hq Ha
        go_wp2
        go_roundg (s.size-(k+1))
        case measure=>have:=ab bz;omega
        case rel=>exact ⟨k+1,acc*10+d,a*10+(d:Int),by go_num,by go_num,by omega,rfl,rfl,HN⟩
       ·rw[if_neg (by omega)] at bF
        have ha:=ab Ha
        have iq:decide ((q:Int)<a)=true:=by simp;omega
        have Hn:=al bF
        clear bF ha fW hm hq Ha
        go_wp2
        go_ret2
        exact fM (ab Hn)
      ·have i9:decide ((10:Int)≤(d:Int))=true:=by simp;omega
       rw[if_neg (by omega)] at bF
       have Hn:=al bF
       clear bF fW Ha h8
       go_wp2
       go_ret2
       exact fM (ab Hn)
    ·obtain rfl:k=s.size:=by omega
     rw[List.drop_eq_nil_of_le (by rw[aZ];omega)] at bF
     have Hd:Hid (wv (aI s)=some acc):=bF
     have Ha:=al ha
     clear bF ha fW
     go_wp2
     go_ret2
     rw[ab Ha]
     exact pj (ab Hd)
  ·obtain ⟨x1,F',aao,gx1⟩:=cj s 1 (by omega)
   have hl:aI s=x0::x1::(aI s).drop 2:=by
    obtain ⟨R6,hh0⟩:=zB Cx
    obtain ⟨R5,hh1⟩:=zB F'
    have q0:=List.drop_eq_getElem_cons R6
    have q1:=List.drop_eq_getElem_cons R5
    rw[hh0,List.drop_zero] at q0
    rw[hh1] at q1
    rw[←q1]
    exact q0
   have e1:=Rm (a:=s.size) (k:=1) (by omega)
   by_cases Qf:x0=48
   ·by_cases hX:x1=120∨x1=88
    ·have rj:wv (aI s)=if s.size=2 then none else bV 16 9223372036854775807 ((aI s).drop 2) 0:=by
      unfold wv
      rw[if_pos (by rw[hl,Qf];rcases hX with rfl|rfl<;>simp),aZ]
     clear hl Cx F'
     by_cases h2:s.size=2
     ·rw[if_pos h2] at rj
      have Hn:=al rj
      clear rj
      have e0:((x0:Int)==48)=true:=by simp;omega
      rcases hX with hX|hX
      ·have e2:((x1:Int)==120)=true:=by simp;omega
       go_enter Tryz.func104,Tryz.ntmps104
       go_wp2
       go_ret2
       exact fM (ab Hn)
      ·have e2:=gw (c:=x1) (k:=120) (by omega)
       have e3:((x1:Int)==88)=true:=by simp;omega
       go_enter Tryz.func104,Tryz.ntmps104
       go_wp2
       go_ret2
       exact fM (ab Hn)
     ·rw[if_neg h2] at rj
      have MQ:=al rj
      clear rj
      have e0:((x0:Int)==48)=true:=by simp;omega
      have e4:decide ((s.size:Int)≤2)=false:=by simp;omega
      rcases hX with hX|hX
      ·have e2:((x1:Int)==120)=true:=by simp;omega
       go_enter Tryz.func104,Tryz.ntmps104
       go_wp2
       go_loopg [6,7,8] (s.size-2) (fun gk v6 v7 _ wr=>∃(k acc:Nat) (a:Int),v6=.int .i64 a∧v7=.int .i64 (k:Int)∧k≤s.size∧gk=s.size-k∧wr=W∧Hid (a=(acc:Int)∧acc≤9223372036854775807∧wv (aI s)=bV 16 9223372036854775807 ((aI s).drop k) acc))
       case atStart=>exact ⟨2,0,0,rfl,rfl,by omega,rfl,rfl,rfl,by omega,ab MQ⟩
       case round =>
        obtain ⟨k,acc,a,rfl,rfl,hk,aW,rfl,hh⟩:=hrel
        obtain ⟨ha,fW,bF⟩:=ab hh
        have bz:=al aW
        have a0:0≤a:=by omega
        have a1:a≤9223372036854775807:=by omega
        clear hh aW
        by_cases IE:k<s.size
        ·obtain ⟨x,hx,c8,gx⟩:=cj s k IE
         have fk:(aI s).drop k=x::(aI s).drop (k+1):=by
          obtain ⟨hl,mc⟩:=zB hx
          rw[List.drop_eq_getElem_cons hl,mc]
         rw[fk] at bF
         have gW:=al bF
         have Ha:=al ha
         clear fk hx bF ha
         go_wp2_with fail
         refine (gF wr x c8).mono ?_
         rintro e w' ⟨rfl,he⟩
         obtain rfl:wr=w':=he.symm
         rcases ie x with ⟨hI,hD⟩|⟨d,hI,hD,hd⟩
         ·rw[hI]
          have hn:wv (aI s)=none:=by
           rw[ab gW]
           simp only[bV]
           split
           ·rfl
           ·rename_i d hd
            rw[if_neg (by have:=hD d hd;omega)]
          have Hn:=al hn
          clear hn hD hI gW
          go_wp2
          go_ret2
          exact fM (ab Hn)
         ·rw[hI]
          have bF:=ab gW
          simp only[bV,hD] at bF
          have d0:decide ((d:Int)<0)=false:=by simp
          clear gW hI gx
          have i9:decide ((16:Int)≤(d:Int))=false:=by simp;omega
          obtain ⟨q,hq⟩:∃q:Nat,q=(9223372036854775807-d) / 16:=⟨_,rfl⟩
          have gT:(9223372036854775807-(d:Int)).tdiv 16=(q:Int):=by rw[Int.tdiv_eq_ediv_of_nonneg (by omega)];omega
          have Fa:q≤1152921504606846976:=by omega
          by_cases hm:acc*16+d≤9223372036854775807
          ·rw[if_pos ⟨by omega,hm⟩] at bF
           have ha:=ab Ha
           have iq:decide ((q:Int)<a)=false:=by simp;omega
           have im:a*16+(d:Int)≤9223372036854775807:=by omega
           have HN:Hid (a*16+(d:Int)=((acc*16+d:Nat):Int)∧acc*16+d≤9223372036854775807∧wv (aI s)=bV 16 9223372036854775807 ((aI s).drop (k+1)) (acc*16+d)):=⟨by omega,hm,bF⟩
           clear bF ha fW hm hq Ha
           go_wp2
           go_roundg (s.size-(k+1))
           case measure=>have:=ab bz;omega
           case rel=>exact ⟨k+1,acc*16+d,a*16+(d:Int),by go_num,by go_num,by omega,rfl,rfl,HN⟩
          ·rw[if_neg (by omega)] at bF
           have ha:=ab Ha
           have iq:decide ((q:Int)<a)=true:=by simp;omega
           have Hn:=al bF
           clear bF ha fW hm hq Ha
           go_wp2
           go_ret2
           exact fM (ab Hn)
        ·obtain rfl:k=s.size:=by omega
         rw[List.drop_eq_nil_of_le (by rw[aZ];omega)] at bF
         have Hd:Hid (wv (aI s)=some acc):=bF
         have Ha:=al ha
         clear bF ha fW
         go_wp2
         go_ret2
         rw[ab Ha]
         exact pj (ab Hd)
      ·have e2:=gw (c:=x1) (k:=120) (by omega)
       have e3:((x1:Int)==88)=true:=by simp;omega
       go_enter Tryz.func104,Tryz.ntmps104
       go_wp2
       go_loopg [6,7,8] (s.size-2) (fun gk v6 v7 _ wr=>∃(k acc:Nat) (a:Int),v6=.int .i64 a∧v7=.int .i64 (k:Int)∧k≤s.size∧gk=s.size-k∧wr=W∧Hid (a=(acc:Int)∧acc≤9223372036854775807∧wv (aI s)=bV 16 9223372036854775807 ((aI s).drop k) acc))
       case atStart=>exact ⟨2,0,0,rfl,rfl,by omega,rfl,rfl,rfl,by omega,ab MQ⟩
       case round =>
        obtain ⟨k,acc,a,rfl,rfl,hk,aW,rfl,hh⟩:=hrel
        obtain ⟨ha,fW,bF⟩:=ab hh
        have bz:=al aW
        have a0:0≤a:=by omega
        have a1:a≤9223372036854775807:=by omega
        clear hh aW
        by_cases IE:k<s.size
        ·obtain ⟨x,hx,c8,gx⟩:=cj s k IE
         have fk:(aI s).drop k=x::(aI s).drop (k+1):=by
          obtain ⟨hl,mc⟩:=zB hx
          rw[List.drop_eq_getElem_cons hl,mc]
         rw[fk] at bF
         have gW:=al bF
         have Ha:=al ha
         clear fk hx bF ha
         go_wp2_with fail
         refine (gF wr x c8).mono ?_
         rintro e w' ⟨rfl,he⟩
         obtain rfl:wr=w':=he.symm
         rcases ie x with ⟨hI,hD⟩|⟨d,hI,hD,hd⟩
         ·rw[hI]
          have hn:wv (aI s)=none:=by
           rw[ab gW]
           simp only[bV]
           split
           ·rfl
           ·rename_i d hd
            rw[if_neg (by have:=hD d hd;omega)]
          have Hn:=al hn
          clear hn hD hI gW
          go_wp2
          go_ret2
          exact fM (ab Hn)
         ·rw[hI]
          have bF:=ab gW
          simp only[bV,hD] at bF
          have d0:decide ((d:Int)<0)=false:=by simp
          clear gW hI gx
          have i9:decide ((16:Int)≤(d:Int))=false:=by simp;omega
          obtain ⟨q,hq⟩:∃q:Nat,q=(9223372036854775807-d) / 16:=⟨_,rfl⟩
          have gT:(9223372036854775807-(d:Int)).tdiv 16=(q:Int):=by rw[Int.tdiv_eq_ediv_of_nonneg (by omega)];omega
          have Fa:q≤1152921504606846976:=by omega
          by_cases hm:acc*16+d≤9223372036854775807
          ·rw[if_pos ⟨by omega,hm⟩] at bF
           have ha:=ab Ha
           have iq:decide ((q:Int)<a)=false:=by simp;omega
           have im:a*16+(d:Int)≤9223372036854775807:=by omega
           have HN:Hid (a*16+(d:Int)=((acc*16+d:Nat):Int)∧acc*16+d≤9223372036854775807∧wv (aI s)=bV 16 9223372036854775807 ((aI s).drop (k+1)) (acc*16+d)):=⟨by omega,hm,bF⟩
           clear bF ha fW hm hq Ha
           go_wp2
           go_roundg (s.size-(k+1))
           case measure=>have:=ab bz;omega
           case rel=>exact ⟨k+1,acc*16+d,a*16+(d:Int),by go_num,by go_num,by omega,rfl,rfl,HN⟩
          ·rw[if_neg (by omega)] at bF
           have ha:=ab Ha
           have iq:decide ((q:Int)<a)=true:=by simp;omega
           have Hn:=al bF
           clear bF ha fW hm hq Ha
           go_wp2
           go_ret2
           exact fM (ab Hn)
        ·obtain rfl:k=s.size:=by omega
         rw[List.drop_eq_nil_of_le (by rw[aZ];omega)] at bF
         have Hd:Hid (wv (aI s)=some acc):=bF
         have Ha:=al ha
         clear bF ha fW
         go_wp2
         go_ret2
         rw[ab Ha]
         exact pj (ab Hd)
    ·have rj:wv (aI s)=bV 8 9223372036854775807 ((aI s).drop 1) 0:=by
      unfold wv
      rw[hl]
      rw[if_neg (by simp;omega),if_pos (by simp[Qf]),Qf]
      show bV 8 _ (48::x1::_) 0=bV 8 _ (x1::_) 0
      simp only[bV,show yH 48=some 0 from rfl]
      simp
     have MQ:=al rj
     have e0:((x0:Int)==48)=true:=by simp;omega
     have e2:=gw (c:=x1) (k:=120) (by omega)
     have e3:=gw (c:=x1) (k:=88) (by omega)
     clear rj hl Cx F' hX
     have e4:decide ((s.size:Int)≤1)=false:=by simp;omega
     go_enter Tryz.func104,Tryz.ntmps104
     go_wp2
     go_loopg [6,7,8] (s.size-1) (fun gk v6 v7 _ wr=>∃(k acc:Nat) (a:Int),v6=.int .i64 a∧v7=.int .i64 (k:Int)∧k≤s.size∧gk=s.size-k∧wr=W∧Hid (a=(acc:Int)∧acc≤9223372036854775807∧wv (aI s)=bV 8 9223372036854775807 ((aI s).drop k) acc))
     case atStart=>exact ⟨1,0,0,rfl,rfl,by omega,rfl,rfl,rfl,by omega,ab MQ⟩
     case round =>
      obtain ⟨k,acc,a,rfl,rfl,hk,aW,rfl,hh⟩:=hrel
      obtain ⟨ha,fW,bF⟩:=ab hh
      have bz:=al aW
      have a0:0≤a:=by omega
      have a1:a≤9223372036854775807:=by omega
      clear hh aW
      by_cases IE:k<s.size
      ·obtain ⟨x,hx,c8,gx⟩:=cj s k IE
       have fk:(aI s).drop k=x::(aI s).drop (k+1):=by
        obtain ⟨hl,mc⟩:=zB hx
        rw[List.drop_eq_getElem_cons hl,mc]
       rw[fk] at bF
       have gW:=al bF
       have Ha:=al ha
       clear fk hx bF ha
       go_wp2_with fail
       refine (gF wr x c8).mono ?_
       rintro e w' ⟨rfl,he⟩
       obtain rfl:wr=w':=he.symm
       rcases ie x with ⟨hI,hD⟩|⟨d,hI,hD,hd⟩
       ·rw[hI]
        have hn:wv (aI s)=none:=by
         rw[ab gW]
         simp only[bV]
         split
         ·rfl
         ·rename_i d hd
          rw[if_neg (by have:=hD d hd;omega)]
        have Hn:=al hn
        clear hn hD hI gW
        go_wp2
        go_ret2
        exact fM (ab Hn)
       ·rw[hI]
        have bF:=ab gW
        simp only[bV,hD] at bF
        have d0:decide ((d:Int)<0)=false:=by simp
        clear gW hI gx
        by_cases h8:d<8
        ·have i9:decide ((8:Int)≤(d:Int))=false:=by simp;omega
         obtain ⟨q,hq⟩:∃q:Nat,q=(9223372036854775807-d) / 8:=⟨_,rfl⟩
         have gT:(9223372036854775807-(d:Int)).tdiv 8=(q:Int):=by rw[Int.tdiv_eq_ediv_of_nonneg (by omega)];omega
         have Fa:q≤1152921504606846976:=by omega
         by_cases hm:acc*8+d≤9223372036854775807
         ·rw[if_pos ⟨by omega,hm⟩] at bF
          have ha:=ab Ha
          have iq:decide ((q:Int)<a)=false:=by simp;omega
          have im:a*8+(d:Int)≤9223372036854775807:=by omega
          have HN:Hid (a*8+(d:Int)=((acc*8+d:Nat):Int)∧acc*8+d≤9223372036854775807∧wv (aI s)=bV 8 9223372036854775807 ((aI s).drop (k+1)) (acc*8+d)):=⟨by omega,hm,bF⟩
          clear bF ha fW hm hq Ha
          go_wp2
          go_roundg (s.size-(k+1))
          case measure=>have:=ab bz;omega
          case rel=>exact ⟨k+1,acc*8+d,a*8+(d:Int),by go_num,by go_num,by omega,rfl,rfl,HN⟩
         ·rw[if_neg (by omega)] at bF
          have ha:=ab Ha
          have iq:decide ((q:Int)<a)=true:=by simp;omega
          have Hn:=al bF
          clear bF ha fW hm hq Ha
          go_wp2
          go_ret2
          exact fM (ab Hn)
        ·have i9:decide ((8:Int)≤(d:Int))=true:=by simp;omega
         rw[if_neg (by omega)] at bF
         have Hn:=al bF
         clear bF fW Ha h8
         go_wp2
         go_ret2
         exact fM (ab Hn)
      ·obtain rfl:k=s.size:=by omega
       rw[List.drop_eq_nil_of_le (by rw[aZ];omega)] at bF
       have Hd:Hid (wv (aI s)=some acc):=bF
       have Ha:=al ha
       clear bF ha fW
       go_wp2
       go_ret2
       rw[ab Ha]
       exact pj (ab Hd)
   ·have rj:wv (aI s)=bV 10 9223372036854775807 ((aI s).drop 0) 0:=by
     unfold wv
     rw[List.drop_zero,hl]
     rw[if_neg (by simp;omega),if_neg (by simp;omega),if_neg (by simp)]
    have MQ:=al rj
    have e0:=gw (c:=x0) (k:=48) (by omega)
    clear rj hl Cx F'
    go_enter Tryz.func104,Tryz.ntmps104
    go_wp2
    go_loopg [6,7,8] (s.size-0) (fun gk v6 v7 _ wr=>∃(k acc:Nat) (a:Int),v6=.int .i64 a∧v7=.int .i64 (k:Int)∧k≤s.size∧gk=s.size-k∧wr=W∧Hid (a=(acc:Int)∧acc≤9223372036854775807∧wv (aI s)=bV 10 9223372036854775807 ((aI s).drop k) acc))
    case atStart=>exact ⟨0,0,0,rfl,rfl,by omega,rfl,rfl,rfl,by omega,ab MQ⟩
    case round =>
     obtain ⟨k,acc,a,rfl,rfl,hk,aW,rfl,hh⟩:=hrel
     obtain ⟨ha,fW,bF⟩:=ab hh
     have bz:=al aW
     have a0:0≤a:=by omega
     have a1:a≤9223372036854775807:=by omega
     clear hh aW
     by_cases IE:k<s.size
     ·obtain ⟨x,hx,c8,gx⟩:=cj s k IE
      have fk:(aI s).drop k=x::(aI s).drop (k+1):=by
       obtain ⟨hl,mc⟩:=zB hx
       rw[List.drop_eq_getElem_cons hl,mc]
      rw[fk] at bF
      have gW:=al bF
      have Ha:=al ha
      clear fk hx bF ha
      go_wp2_with fail
      refine (gF wr x c8).mono ?_
      rintro e w' ⟨rfl,he⟩
      obtain rfl:wr=w':=he.symm
      rcases ie x with ⟨hI,hD⟩|⟨d,hI,hD,hd⟩
      ·rw[hI]
       have hn:wv (aI s)=none:=by
        rw[ab gW]
        simp only[bV]
        split
        ·rfl
        ·rename_i d hd
         rw[if_neg (by have:=hD d hd;omega)]
       have Hn:=al hn
       clear hn hD hI gW
       go_wp2
       go_ret2
       exact fM (ab Hn)
      ·rw[hI]
       have bF:=ab gW
       simp only[bV,hD] at bF
       have d0:decide ((d:Int)<0)=false:=by simp
       clear gW hI gx
       by_cases h8:d<10
       ·have i9:decide ((10:Int)≤(d:Int))=false:=by simp;omega
        obtain ⟨q,hq⟩:∃q:Nat,q=(9223372036854775807-d) / 10:=⟨_,rfl⟩
        have gT:(9223372036854775807-(d:Int)).tdiv 10=(q:Int):=by rw[Int.tdiv_eq_ediv_of_nonneg (by omega)];omega
        have Fa:q≤1152921504606846976:=by omega
        by_cases hm:acc*10+d≤9223372036854775807
        ·rw[if_pos ⟨by omega,hm⟩] at bF
         have ha:=ab Ha
         have iq:decide ((q:Int)<a)=false:=by simp;omega
         have im:a*10+(d:Int)≤9223372036854775807:=by omega
         have HN:Hid (a*10+(d:Int)=((acc*10+d:Nat):Int)∧acc*10+d≤9223372036854775807∧wv (aI s)=bV 10 9223372036854775807 ((aI s).drop (k+1)) (acc*10+d)):=⟨by omega,hm,bF⟩
         clear bF ha fW hm hq Ha
         go_wp2
         go_roundg (s.size-(k+1))
         case measure=>have:=ab bz;omega
         case rel=>exact ⟨k+1,acc*10+d,a*10+(d:Int),by go_num,by go_num,by omega,rfl,rfl,HN⟩
        ·rw[if_neg (by omega)] at bF
         have ha:=ab Ha
         have iq:decide ((q:Int)<a)=true:=by simp;omega
         have Hn:=al bF
         clear bF ha fW hm hq Ha
         go_wp2
         go_ret2
         exact fM (ab Hn)
       ·have i9:decide ((10:Int)≤(d:Int))=true:=by simp;omega
        rw[if_neg (by omega)] at bF
        have Hn:=al bF
        clear bF fW Ha h8
        go_wp2
        go_ret2
        exact fM (ab Hn)
     ·obtain rfl:k=s.size:=by omega
      rw[List.drop_eq_nil_of_le (by rw[aZ];omega)] at bF
      have Hd:Hid (wv (aI s)=some acc):=bF
      have Ha:=al ha
      clear bF ha fW
      go_wp2
      go_ret2
      rw[ab Ha]
      exact pj (ab Hd)
end Go.Proofs.YtichhjfjcinjgaaGreatDoor
