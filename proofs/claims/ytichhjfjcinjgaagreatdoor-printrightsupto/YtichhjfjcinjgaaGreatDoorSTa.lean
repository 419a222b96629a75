import Derived.Test.YtichhjfjcinjgaaGreatDoorM09
set_option maxHeartbeats 4000000
set_option maxRecDepth 100000
namespace Go.Proofs.YtichhjfjcinjgaaGreatDoor
open Go.RowKit
attribute [local go_sem ↓] Go.wp_at_zero Go.wp_at_succ
def oJ (x:Nat):Int:=if 48≤x∧x≤57 then (x:Int)-48 else if 97≤x∧x≤102 then (x:Int)-87 else if 65≤x∧x≤70 then (x:Int)-55 else -1
theorem gY (x:Nat):(oJ x=-1∧(∀d,yb x=some d→16≤d))∨(∃d:Nat,oJ x=(d:Int)∧yb x=some d∧d<16):=by
 unfold oJ yb
 by_cases h1:48≤x∧x≤57
 ·rw[if_pos h1,if_pos h1];exact .inr ⟨x-48,by omega,rfl,by omega⟩
 ·rw[if_neg h1,if_neg h1]
  by_cases h2:97≤x∧x≤102
  ·rw[if_pos h2,if_neg (by omega),if_pos (by omega)];exact .inr ⟨x-87,by omega,rfl,by omega⟩
  ·rw[if_neg h2]
   by_cases h3:65≤x∧x≤70
   ·rw[if_pos h3,if_pos (by omega)];exact .inr ⟨x-55,by omega,rfl,by omega⟩
   ·rw[if_neg h3]
    refine .inl ⟨rfl,fun d hd=>?_⟩
    split at hd
    ·have:=zC hd;omega
    ·split at hd
     ·have:=zC hd;omega
     ·cases hd
theorem gu (W:World) (x:Nat) (hx:x<256):Calls Tryz.prog 152 #[.int .u8 (x:Int)] W fun e w=>e=.returned (.int .i64 (oJ x))∧w=W:=by
 by_cases h1:48≤x∧x≤57
 ·have hk:oJ x=(x:Int)-48:=by unfold oJ;rw[if_pos h1]
  rw[hk]
  obtain ⟨h2,h3⟩:=h1
  have b1:=fg (c:=x) (k:=48) (by omega);have b2:=Aa (c:=x) (k:=57) (by omega)
  go_enter Tryz.func152,Tryz.ntmps152
  go_wp2
  go_ret
  exact ⟨by first|rfl|(congr 2;omega),rfl⟩
 ·obtain WA:x<48∨57<x:=by omega
  by_cases h2:97≤x∧x≤102
  ·have hk:oJ x=(x:Int)-97+10:=by unfold oJ;rw[if_neg h1,if_pos h2];omega
   rw[hk]
   obtain ⟨h3,h4⟩:=h2
   have b1:=fg (c:=x) (k:=48) (by omega);have b2:=iz (c:=x) (k:=57) (by omega);have b3:=fg (c:=x) (k:=97) (by omega);have b4:=Aa (c:=x) (k:=102) (by omega)
   clear h1 WA
   go_enter Tryz.func152,Tryz.ntmps152
   go_wp2
   go_ret
   exact ⟨by first|rfl|(congr 2;omega),rfl⟩
  ·by_cases h3:65≤x∧x≤70
   ·have hk:oJ x=(x:Int)-65+10:=by unfold oJ;rw[if_neg h1,if_neg h2,if_pos h3];omega
    rw[hk]
    obtain ⟨h4,h5⟩:=h3
    have b1:=fg (c:=x) (k:=48) (by omega);have b2:=iz (c:=x) (k:=57) (by omega);have b3:=kS (c:=x) (k:=97) (by omega);have b5:=fg (c:=x) (k:=65) (by omega);have b6:=Aa (c:=x) (k:=70) (by omega)
    clear h1 WA h2
    go_enter Tryz.func152,Tryz.ntmps152
    go_wp2
    go_ret
    exact ⟨by first|rfl|(congr 2;omega),rfl⟩
   ·have hk:oJ x=-1:=by unfold oJ;rw[if_neg h1,if_neg h2,if_neg h3]
    rw[hk]
    obtain hh:x<48∨(57<x∧x<65)∨(70<x∧x<97)∨102<x:=by omega
    clear h1 WA h2 h3 hk
    rcases hh with hh|⟨hh,hi⟩|⟨hh,hi⟩|hh
    ·have b1:=kS (c:=x) (k:=48) (by omega);have b3:=kS (c:=x) (k:=97) (by omega);have b5:=kS (c:=x) (k:=65) (by omega)
     go_enter Tryz.func152,Tryz.ntmps152
     go_wp2
     go_ret
     exact ⟨rfl,rfl⟩
    ·have b1:=fg (c:=x) (k:=48) (by omega);have b2:=iz (c:=x) (k:=57) (by omega);have b3:=kS (c:=x) (k:=97) (by omega);have b5:=kS (c:=x) (k:=65) (by omega)
     go_enter Tryz.func152,Tryz.ntmps152
     go_wp2
     go_ret
     exact ⟨rfl,rfl⟩
    ·have b1:=fg (c:=x) (k:=48) (by omega);have b2:=iz (c:=x) (k:=57) (by omega);have b3:=kS (c:=x) (k:=97) (by omega);have b5:=fg (c:=x) (k:=65) (by omega);have b6:=iz (c:=x) (k:=70) (by omega)
     go_enter Tryz.func152,Tryz.ntmps152
     go_wp2
     go_ret
     exact ⟨rfl,rfl⟩
    ·have b1:=fg (c:=x) (k:=48) (by omega);have b2:=iz (c:=x) (k:=57) (by omega);have b3:=fg (c:=x) (k:=97) (by omega);have b4:=iz (c:=x) (k:=102) (by omega);have b5:=fg (c:=x) (k:=65) (by omega);have b6:=iz (c:=x) (k:=70) (by omega)
     go_enter Tryz.func152,Tryz.ntmps152
     go_wp2
     go_ret
     exact ⟨rfl,rfl⟩
def O' (W:World) (l:List Nat) (e:Ending) (w:World):Prop:=w=W∧((∃u:Nat,e=.returned (.tuple #[.int .i64 (u:Int),.bool true])∧wv l=some u)∨(e=.returned (.tuple #[.int .i64 0,.bool false])∧wv l=none))
theorem fH {W:World}{l:List Nat} (h:wv l=none):O' W l (.returned (.tuple #[.int .i64 0,.bool false])) W:=⟨rfl,.inr ⟨rfl,h⟩⟩
theorem oS {W:World}{l:List Nat}{u:Nat} (h:wv l=some u):O' W l (.returned (.tuple #[.int .i64 (u:Int),.bool true])) W:=⟨rfl,.inl ⟨u,rfl,h⟩⟩
theorem p7 (W:World) (s:ByteArray) (hs:s.size≤65536):Calls Tryz.prog 104 #[.string s] W (O' W (aI s)):=by
 by_cases h0:s.size=0
 ·have Hn:Hid (wv (aI s)=none):=by
   rw[List.eq_nil_of_length_eq_zero (by rw[aY];exact h0:(aI s).length=0)]
   show wv []=none
   decide
  obtain rfl:=tS h0
  go_enter Tryz.func104,Tryz.ntmps104
  go_wp2
  go_ret2
  exact fH (ab Hn)
 ·obtain ⟨x0,B9,aal,gx0⟩:=cd s 0 (by omega)
  by_cases h1:s.size=1
  ·have Mr:Hid (wv (aI s)=bT 10 9223372036854775807 ((aI s).drop 0) 0):=by
    obtain ⟨c,hc⟩:∃c,aI s=[c]:=List.length_eq_one_iff.1 (by rw[aY];exact h1)
    rw[hc]
    show wv [c]=bT 10 9223372036854775807 [c] 0
    unfold wv
    rw[if_neg (by simp)]
    by_cases PO:c=48
    ·subst PO;decide
    ·rw[if_neg (by simpa using PO),if_neg (by simp)]
   have e1:=QV (a:=s.size) (k:=1) (by omega)
   clear B9 gx0
   go_enter Tryz.func104,Tryz.ntmps104
   go_wp2
   go_loopg [6,7,8] (s.size-0) (fun gk v6 v7 _ wr=>∃(k acc:Nat) (a:Int),v6=.int .i64 a∧v7=.int .i64 (k:Int)∧k≤s.size∧gk=s.size-k∧wr=W∧Hid (a=(acc:Int)∧acc≤9223372036854775807∧wv (aI s)=bT 10 9223372036854775807 ((aI s).drop k) acc))
   case atStart=>exact ⟨0,0,0,rfl,rfl,by omega,rfl,rfl,rfl,by omega,ab Mr⟩
   case round =>
    obtain ⟨k,acc,a,rfl,rfl,hk,aU,rfl,hh⟩:=hrel
    obtain ⟨ha,fQ,bF⟩:=ab hh
    have bz:=al aU
    have a0:0≤a:=by omega
    have a1:a≤9223372036854775807:=by omega
    clear hh aU
    by_cases H6:k<s.size
    ·obtain ⟨x,hx,cZ,gx⟩:=cd s k H6
     have ff:(aI s).drop k=x::(aI s).drop (k+1):=by
      obtain ⟨hl,lP⟩:=zB hx
      rw[List.drop_eq_getElem_cons hl,lP]
     rw[ff] at bF
     have gQ:=al bF
     have Ha:=al ha
     clear ff hx bF ha
     go_wp2_with fail
     refine (gu wr x cZ).mono ?_
     rintro e w' ⟨rfl,he⟩
     obtain rfl:wr=w':=he.symm
     rcases gY x with ⟨hI,hD⟩|⟨d,hI,hD,hd⟩
     ·rw[hI]
      have hn:wv (aI s)=none:=by
       rw[ab gQ]
       simp only[bT]
       split
       ·rfl
       ·rename_i d hd
        rw[if_neg (by have:=hD d hd;omega)]
      have Hn:=al hn
      clear hn hD hI gQ
      go_wp2
      go_ret2
      exact fH (ab Hn)
     ·rw[hI]
      have bF:=ab gQ
      simp only[bT,hD] at bF
      have d0:decide ((d:Int)<0)=false:=by simp
      clear gQ hI gx
      by_cases h8:d<10
      ·have i9:decide ((10:Int)≤(d:Int))=false:=by simp;omega
       obtain ⟨q,hq⟩:∃q:Nat,q=(9223372036854775807-d) / 10:=⟨_,rfl⟩
       have jZ:(9223372036854775807-(d:Int)).tdiv 10=(q:Int):=by rw[Int.tdiv_eq_ediv_of_nonneg (by omega)];omega
       have EI:q≤1152921504606846976:=by omega
       by_cases hm:acc*10+d≤9223372036854775807
       ·rw[if_pos ⟨by omega,hm⟩] at bF
        have ha:=ab Ha
        have iq:decide ((q:Int)<a)=false:=by simp;omega
        have im:a*10+(d:Int)≤9223372036854775807:=by omega
        have HN:Hid (a*10+(d:Int)=((acc*10+d:Nat):Int)∧acc*10+d≤9223372036854775807∧wv (aI s)=bT 10 9223372036854775807 ((aI s).drop (k+1)) (acc*10+d)):=⟨by omega,hm,bF⟩
        clear bF ha fQ hm hq Ha
        go_wp2
        go_roundg (s.size-(k+1))
        case measure=>have:=ab bz;omega
        case rel=>exact ⟨k+1,acc*10+d,a*10+(d:Int),by go_num,by go_num,by omega,rfl,rfl,HN⟩
       ·rw[if_neg (by omega)] at bF
        have ha:=ab Ha
        have iq:decide ((q:Int)<a)=true:=by simp;omega
        have Hn:=al bF
        clear bF ha fQ hm hq Ha
        go_wp2
        go_ret2
        exact fH (ab Hn)
      ·have i9:decide ((10:Int)≤(d:Int))=true:=by simp;omega
       rw[if_neg (by omega)] at bF
       have Hn:=al bF
       clear bF fQ Ha h8
       go_wp2
       go_ret2
       exact fH (ab Hn)
    ·obtain rfl:k=s.size:=by omega
     rw[List.drop_eq_nil_of_le (by rw[aY];omega)] at bF
     have Hd:Hid (wv (aI s)=some acc):=bF
     have Ha:=al ha
     clear bF ha fQ
     go_wp2
     go_ret2
     rw[ab Ha]
     exact oS (ab Hd)
  ·obtain ⟨x1,FD,aak,gx1⟩:=cd s 1 (by omega)
   have hl:aI s=x0::x1::(aI s).drop 2:=by
    obtain ⟨V5,hh0⟩:=zB B9
    obtain ⟨RB,hh1⟩:=zB FD
    have q0:=List.drop_eq_getElem_cons V5
    have q1:=List.drop_eq_getElem_cons RB
    rw[hh0,List.drop_zero] at q0
    rw[hh1] at q1
    rw[←q1]
    exact q0
   have e1:=QU (a:=s.size) (k:=1) (by omega)
   by_cases PO:x0=48
   ·by_cases hX:x1=120∨x1=88
    ·have qM:wv (aI s)=if s.size=2 then none else bT 16 9223372036854775807 ((aI s).drop 2) 0:=by
      unfold wv
      rw[if_pos (by rw[hl,PO];rcases hX with rfl|rfl<;>simp),aY]
     clear hl B9 FD
     by_cases h2:s.size=2
     ·rw[if_pos h2] at qM
      have Hn:=al qM
      clear qM
      have e0:((x0:Int)==48)=true:=by simp;omega
      rcases hX with hX|hX
      ·have e2:((x1:Int)==120)=true:=by simp;omega
       go_enter Tryz.func104,Tryz.ntmps104
       go_wp2
       go_ret2
       exact fH (ab Hn)
      ·have e2:=fZ (c:=x1) (k:=120) (by omega)
       have e3:((x1:Int)==88)=true:=by simp;omega
       go_enter Tryz.func104,Tryz.ntmps104
       go_wp2
       go_ret2
       exact fH (ab Hn)
     ·rw[if_neg h2] at qM
      have Mr:=al qM
      clear qM
      have e0:((x0:Int)==48)=true:=by simp;omega
      have e4:decide ((s.size:Int)≤2)=false:=by simp;omega
      rcases hX with hX|hX
      ·have e2:((x1:Int)==120)=true:=by simp;omega
       go_enter Tryz.func104,Tryz.ntmps104
       go_wp2
       go_loopg [6,7,8] (s.size-2) (fun gk v6 v7 _ wr=>∃(k acc:Nat) (a:Int),v6=.int .i64 a∧v7=.int .i64 (k:Int)∧k≤s.size∧gk=s.size-k∧wr=W∧Hid (a=(acc:Int)∧acc≤9223372036854775807∧wv (aI s)=bT 16 9223372036854775807 ((aI s).drop k) acc))
       case atStart=>exact ⟨2,0,0,rfl,rfl,by omega,rfl,rfl,rfl,by omega,ab Mr⟩
       case round =>
        obtain ⟨k,acc,a,rfl,rfl,hk,aU,rfl,hh⟩:=hrel
        obtain ⟨ha,fQ,bF⟩:=ab hh
        have bz:=al aU
        have a0:0≤a:=by omega
        have a1:a≤9223372036854775807:=by omega
        clear hh aU
        by_cases H6:k<s.size
        ·obtain ⟨x,hx,cZ,gx⟩:=cd s k H6
         have ff:(aI s).drop k=x::(aI s).drop (k+1):=by
          obtain ⟨hl,lP⟩:=zB hx
          rw[List.drop_eq_getElem_cons hl,lP]
         rw[ff] at bF
         have gQ:=al bF
         have Ha:=al ha
         clear ff hx bF ha
         go_wp2_with fail
         refine (gu wr x cZ).mono ?_
         rintro e w' ⟨rfl,he⟩
         obtain rfl:wr=w':=he.symm
         rcases gY x with ⟨hI,hD⟩|⟨d,hI,hD,hd⟩
         ·rw[hI]
          have hn:wv (aI s)=none:=by
           rw[ab gQ]
           simp only[bT]
           split
           ·rfl
           ·rename_i d hd
            rw[if_neg (by have:=hD d hd;omega)]
          have Hn:=al hn
          clear hn hD hI gQ
          go_wp2
          go_ret2
          exact fH (ab Hn)
         ·rw[hI]
          have bF:=ab gQ
          simp only[bT,hD] at bF
          have d0:decide ((d:Int)<0)=false:=by simp
          clear gQ hI gx
          have i9:decide ((16:Int)≤(d:Int))=false:=by simp;omega
          obtain ⟨q,hq⟩:∃q:Nat,q=(9223372036854775807-d) / 16:=⟨_,rfl⟩
          have jZ:(9223372036854775807-(d:Int)).tdiv 16=(q:Int):=by rw[Int.tdiv_eq_ediv_of_nonneg (by omega)];omega
          have EI:q≤1152921504606846976:=by omega
          by_cases hm:acc*16+d≤9223372036854775807
          ·rw[if_pos ⟨by omega,hm⟩] at bF
           have ha:=ab Ha
           have iq:decide ((q:Int)<a)=false:=by simp;omega
           have im:a*16+(d:Int)≤9223372036854775807:=by omega
           have HN:Hid (a*16+(d:Int)=((acc*16+d:Nat):Int)∧acc*16+d≤9223372036854775807∧wv (aI s)=bT 16 9223372036854775807 ((aI s).drop (k+1)) (acc*16+d)):=⟨by omega,hm,bF⟩
           clear bF ha fQ hm hq Ha
           go_wp2
           go_roundg (s.size-(k+1))
           case measure=>have:=ab bz;omega
           case rel=>exact ⟨k+1,acc*16+d,a*16+(d:Int),by go_num,by go_num,by omega,rfl,rfl,HN⟩
          ·rw[if_neg (by omega)] at bF
           have ha:=ab Ha
           have iq:decide ((q:Int)<a)=true:=by simp;omega
           have Hn:=al bF
           clear bF ha fQ hm hq Ha
           go_wp2
           go_ret2
           exact fH (ab Hn)
        ·obtain rfl:k=s.size:=by omega
         rw[List.drop_eq_nil_of_le (by rw[aY];omega)] at bF
         have Hd:Hid (wv (aI s)=some acc):=bF
         have Ha:=al ha
         clear bF ha fQ
         go_wp2
         go_ret2
         rw[ab Ha]
         exact oS (ab Hd)
      ·have e2:=fZ (c:=x1) (k:=120) (by omega)
       have e3:((x1:Int)==88)=true:=by simp;omega
       go_enter Tryz.func104,Tryz.ntmps104
       go_wp2
       go_loopg [6,7,8] (s.size-2) (fun gk v6 v7 _ wr=>∃(k acc:Nat) (a:Int),v6=.int .i64 a∧v7=.int .i64 (k:Int)∧k≤s.size∧gk=s.size-k∧wr=W∧Hid (a=(acc:Int)∧acc≤9223372036854775807∧wv (aI s)=bT 16 9223372036854775807 ((aI s).drop k) acc))
       case atStart=>exact ⟨2,0,0,rfl,rfl,by omega,rfl,rfl,rfl,by omega,ab Mr⟩
       case round =>
        obtain ⟨k,acc,a,rfl,rfl,hk,aU,rfl,hh⟩:=hrel
        obtain ⟨ha,fQ,bF⟩:=ab hh
        have bz:=al aU
        have a0:0≤a:=by omega
        have a1:a≤9223372036854775807:=by omega
        clear hh aU
        by_cases H6:k<s.size
        ·obtain ⟨x,hx,cZ,gx⟩:=cd s k H6
         have ff:(aI s).drop k=x::(aI s).drop (k+1):=by
          obtain ⟨hl,lP⟩:=zB hx
          rw[List.drop_eq_getElem_cons hl,lP]
         rw[ff] at bF
         have gQ:=al bF
         have Ha:=al ha
         clear ff hx bF ha
         go_wp2_with fail
         refine (gu wr x cZ).mono ?_
         rintro e w' ⟨rfl,he⟩
         obtain rfl:wr=w':=he.symm
         rcases gY x with ⟨hI,hD⟩|⟨d,hI,hD,hd⟩
         ·rw[hI]
          have hn:wv (aI s)=none:=by
           rw[ab gQ]
           simp only[bT]
           split
           ·rfl
           ·rename_i d hd
            rw[if_neg (by have:=hD d hd;omega)]
          have Hn:=al hn
          clear hn hD hI gQ
          go_wp2
          go_ret2
          exact fH (ab Hn)
         ·rw[hI]
          have bF:=ab gQ
          simp only[bT,hD] at bF
          have d0:decide ((d:Int)<0)=false:=by simp
          clear gQ hI gx
          have i9:decide ((16:Int)≤(d:Int))=false:=by simp;omega
          obtain ⟨q,hq⟩:∃q:Nat,q=(9223372036854775807-d) / 16:=⟨_,rfl⟩
          have jZ:(9223372036854775807-(d:Int)).tdiv 16=(q:Int):=by rw[Int.tdiv_eq_ediv_of_nonneg (by omega)];omega
          have EI:q≤1152921504606846976:=by omega
          by_cases hm:acc*16+d≤9223372036854775807
          ·rw[if_pos ⟨by omega,hm⟩] at bF
           have ha:=ab Ha
           have iq:decide ((q:Int)<a)=false:=by simp;omega
           have im:a*16+(d:Int)≤9223372036854775807:=by omega
           have HN:Hid (a*16+(d:Int)=((acc*16+d:Nat):Int)∧acc*16+d≤9223372036854775807∧wv (aI s)=bT 16 9223372036854775807 ((aI s).drop (k+1)) (acc*16+d)):=⟨by omega,hm,bF⟩
           clear bF ha fQ hm hq Ha
           go_wp2
           go_roundg (s.size-(k+1))
           case measure=>have:=ab bz;omega
           case rel=>exact ⟨k+1,acc*16+d,a*16+(d:Int),by go_num,by go_num,by omega,rfl,rfl,HN⟩
          ·rw[if_neg (by omega)] at bF
           have ha:=ab Ha
           have iq:decide ((q:Int)<a)=true:=by simp;omega
           have Hn:=al bF
           clear bF ha fQ hm hq Ha
           go_wp2
           go_ret2
           exact fH (ab Hn)
        ·obtain rfl:k=s.size:=by omega
         rw[List.drop_eq_nil_of_le (by rw[aY];omega)] at bF
         have Hd:Hid (wv (aI s)=some acc):=bF
         have Ha:=al ha
         clear bF ha fQ
         go_wp2
         go_ret2
         rw[ab Ha]
         exact oS (ab Hd)
    ·have qM:wv (aI s)=bT 8 9223372036854775807 ((aI s).drop 1) 0:=by
      unfold wv
      rw[hl]
      rw[if_neg (by simp;omega),if_pos (by simp[PO]),PO]
      show bT 8 _ (48::x1::_) 0=bT 8 _ (x1::_) 0
      simp only[bT,show yb 48=some 0 from rfl]
      simp
     have Mr:=al qM
     have e0:((x0:Int)==48)=true:=by simp;omega
     have e2:=fZ (c:=x1) (k:=120) (by omega)
     have e3:=fZ (c:=x1) (k:=88) (by omega)
     clear qM hl B9 FD hX
     have e4:decide ((s.size:Int)≤1)=false:=by simp;omega
     go_enter Tryz.func104,Tryz.ntmps104
     go_wp2
     go_loopg [6,7,8] (s.size-1) (fun gk v6 v7 _ wr=>∃(k acc:Nat) (a:Int),v6=.int .i64 a∧v7=.int .i64 (k:Int)∧k≤s.size∧gk=s.size-k∧wr=W∧Hid (a=(acc:Int)∧acc≤9223372036854775807∧wv (aI s)=bT 8 9223372036854775807 ((aI s).drop k) acc))
     case atStart=>exact ⟨1,0,0,rfl,rfl,by omega,rfl,rfl,rfl,by omega,ab Mr⟩
     case round =>
      obtain ⟨k,acc,a,rfl,rfl,hk,aU,rfl,hh⟩:=hrel
      obtain ⟨ha,fQ,bF⟩:=ab hh
      have bz:=al aU
      have a0:0≤a:=by omega
      have a1:a≤9223372036854775807:=by omega
      clear hh aU
      by_cases H6:k<s.size
      ·obtain ⟨x,hx,cZ,gx⟩:=cd s k H6
       have ff:(aI s).drop k=x::(aI s).drop (k+1):=by
        obtain ⟨hl,lP⟩:=zB hx
        rw[List.drop_eq_getElem_cons hl,lP]
       rw[ff] at bF
       have gQ:=al bF
       have Ha:=al ha
       clear ff hx bF ha
       go_wp2_with fail
       refine (gu wr x cZ).mono ?_
       rintro e w' ⟨rfl,he⟩
       obtain rfl:wr=w':=he.symm
       rcases gY x with ⟨hI,hD⟩|⟨d,hI,hD,hd⟩
       ·rw[hI]
        have hn:wv (aI s)=none:=by
         rw[ab gQ]
         simp only[bT]
         split
         ·rfl
         ·rename_i d hd
          rw[if_neg (by have:=hD d hd;omega)]
        have Hn:=al hn
        clear hn hD hI gQ
        go_wp2
        go_ret2
        exact fH (ab Hn)
       ·rw[hI]
        have bF:=ab gQ
        simp only[bT,hD] at bF
        have d0:decide ((d:Int)<0)=false:=by simp
        clear gQ hI gx
        by_cases h8:d<8
        ·have i9:decide ((8:Int)≤(d:Int))=false:=by simp;omega
         obtain ⟨q,hq⟩:∃q:Nat,q=(9223372036854775807-d) / 8:=⟨_,rfl⟩
         have jZ:(9223372036854775807-(d:Int)).tdiv 8=(q:Int):=by rw[Int.tdiv_eq_ediv_of_nonneg (by omega)];omega
         have EI:q≤1152921504606846976:=by omega
         by_cases hm:acc*8+d≤9223372036854775807
         ·rw[if_pos ⟨by omega,hm⟩] at bF
          have ha:=ab Ha
          have iq:decide ((q:Int)<a)=false:=by simp;omega
          have im:a*8+(d:Int)≤9223372036854775807:=by omega
          have HN:Hid (a*8+(d:Int)=((acc*8+d:Nat):Int)∧acc*8+d≤9223372036854775807∧wv (aI s)=bT 8 9223372036854775807 ((aI s).drop (k+1)) (acc*8+d)):=⟨by omega,hm,bF⟩
          clear bF ha fQ hm hq Ha
          go_wp2
          go_roundg (s.size-(k+1))
          case measure=>have:=ab bz;omega
          case rel=>exact ⟨k+1,acc*8+d,a*8+(d:Int),by go_num,by go_num,by omega,rfl,rfl,HN⟩
         ·rw[if_neg (by omega)] at bF
          have ha:=ab Ha
          have iq:decide ((q:Int)<a)=true:=by simp;omega
          have Hn:=al bF
          clear bF ha fQ hm hq Ha
          go_wp2
          go_ret2
          exact fH (ab Hn)
        ·have i9:decide ((8:Int)≤(d:Int))=true:=by simp;omega
         rw[if_neg (by omega)] at bF
         have Hn:=al bF
         clear bF fQ Ha h8
         go_wp2
         go_ret2
         exact fH (ab Hn)
      ·obtain rfl:k=s.size:=by omega
       rw[List.drop_eq_nil_of_le (by rw[aY];omega)] at bF
       have Hd:Hid (wv (aI s)=some acc):=bF
       have Ha:=al ha
       clear bF ha fQ
       go_wp2
       go_ret2
       rw[ab Ha]
       exact oS (ab Hd)
   ·have qM:wv (aI s)=bT 10 9223372036854775807 ((aI s).drop 0) 0:=by
     unfold wv
     rw[List.drop_zero,hl]
     rw[if_neg (by simp;omega),if_neg (by simp;omega),if_neg (by simp)]
    have Mr:=al qM
    have e0:=fZ (c:=x0) (k:=48) (by omega)
    clear qM hl B9 FD
    go_enter Tryz.func104,Tryz.ntmps104
    go_wp2
    go_loopg [6,7,8] (s.size-0) (fun gk v6 v7 _ wr=>∃(k acc:Nat) (a:Int),v6=.int .i64 a∧v7=.int .i64 (k:Int)∧k≤s.size∧gk=s.size-k∧wr=W∧Hid (a=(acc:Int)∧acc≤9223372036854775807∧wv (aI s)=bT 10 9223372036854775807 ((aI s).drop k) acc))
    case atStart=>exact ⟨0,0,0,rfl,rfl,by omega,rfl,rfl,rfl,by omega,ab Mr⟩
    case round =>
     obtain ⟨k,acc,a,rfl,rfl,hk,aU,rfl,hh⟩:=hrel
     obtain ⟨ha,fQ,bF⟩:=ab hh
     have bz:=al aU
     have a0:0≤a:=by omega
     have a1:a≤9223372036854775807:=by omega
     clear hh aU
     by_cases H6:k<s.size
     ·obtain ⟨x,hx,cZ,gx⟩:=cd s k H6
      have ff:(aI s).drop k=x::(aI s).drop (k+1):=by
       obtain ⟨hl,lP⟩:=zB hx
       rw[List.drop_eq_getElem_cons hl,lP]
      rw[ff] at bF
      have gQ:=al bF
      have Ha:=al ha
      clear ff hx bF ha
      go_wp2_with fail
      refine (gu wr x cZ).mono ?_
      rintro e w' ⟨rfl,he⟩
      obtain rfl:wr=w':=he.symm
      rcases gY x with ⟨hI,hD⟩|⟨d,hI,hD,hd⟩
      ·rw[hI]
       have hn:wv (aI s)=none:=by
        rw[ab gQ]
        simp only[bT]
        split
        ·rfl
        ·rename_i d hd
         rw[if_neg (by have:=hD d hd;omega)]
       have Hn:=al hn
       clear hn hD hI gQ
       go_wp2
       go_ret2
       exact fH (ab Hn)
      ·rw[hI]
       have bF:=ab gQ
       simp only[bT,hD] at bF
       have d0:decide ((d:Int)<0)=false:=by simp
       clear gQ hI gx
       by_cases h8:d<10
       ·have i9:decide ((10:Int)≤(d:Int))=false:=by simp;omega
        obtain ⟨q,hq⟩:∃q:Nat,q=(9223372036854775807-d) / 10:=⟨_,rfl⟩
        have jZ:(9223372036854775807-(d:Int)).tdiv 10=(q:Int):=by rw[Int.tdiv_eq_ediv_of_nonneg (by omega)];omega
        have EI:q≤1152921504606846976:=by omega
        by_cases hm:acc*10+d≤9223372036854775807
        ·rw[if_pos ⟨by omega,hm⟩] at bF
         have ha:=ab Ha
         have iq:decide ((q:Int)<a)=false:=by simp;omega
         have im:a*10+(d:Int)≤9223372036854775807:=by omega
         have HN:Hid (a*10+(d:Int)=((acc*10+d:Nat):Int)∧acc*10+d≤9223372036854775807∧wv (aI s)=bT 10 9223372036854775807 ((aI s).drop (k+1)) (acc*10+d)):=⟨by omega,hm,bF⟩
         clear bF ha fQ hm hq Ha
         go_wp2
         go_roundg (s.size-(k+1))
         case measure=>have:=ab bz;omega
         case rel=>exact ⟨k+1,acc*10+d,a*10+(d:Int),by go_num,by go_num,by omega,rfl,rfl,HN⟩
        ·rw[if_neg (by omega)] at bF
         have ha:=ab Ha
         have iq:decide ((q:Int)<a)=true:=by simp;omega
         have Hn:=al bF
         clear bF ha fQ hm hq Ha
         go_wp2
         go_ret2
         exact fH (ab Hn)
       ·have i9:decide ((10:Int)≤(d:Int))=true:=by simp;omega
        rw[if_neg (by omega)] at bF
        have Hn:=al bF
        clear bF fQ Ha h8
        go_wp2
        go_ret2
        exact fH (ab Hn)
     ·obtain rfl:k=s.size:=by omega
      rw[List.drop_eq_nil_of_le (by rw[aY];omega)] at bF
      have Hd:Hid (wv (aI s)=some acc):=bF
      have Ha:=al ha
      clear bF ha fQ
      go_wp2
      go_ret2
      rw[ab Ha]
      exact oS (ab Hd)
end Go.Proofs.YtichhjfjcinjgaaGreatDoor
