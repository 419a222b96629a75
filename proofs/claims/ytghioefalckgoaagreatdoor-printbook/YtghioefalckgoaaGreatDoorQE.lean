import Derived.Test.YtghioefalckgoaaGreatDoorM17
set_option maxHeartbeats 2000000
set_option maxRecDepth 100000
namespace Go.Proofs.YtghioefalckgoaaGreatDoor
open Go.RowKit
attribute [local go_sem ↓] Go.wp_at_zero Go.wp_at_succ
theorem aag {x:Nat}:uZ 8 x≠none↔48≤x∧x≤55:=by
 unfold uZ El
 by_cases h1:48≤x∧x≤57
 ·rw[if_pos h1]
  show (if x-48<8 then some (x-48) else none)≠none↔_
  split
  ·simp;omega
  ·simp;omega
 ·rw[if_neg h1]
  by_cases h2:65≤x∧x≤90
  ·rw[if_pos h2]
   show (if x-55<8 then some (x-55) else none)≠none↔_
   rw[if_neg (by omega)]
   simp;omega
  ·rw[if_neg h2]
   by_cases h3:97≤x∧x≤122
   ·rw[if_pos h3]
    show (if x-87<8 then some (x-87) else none)≠none↔_
    rw[if_neg (by omega)]
    simp;omega
   ·rw[if_neg h3]
    simp;omega
theorem UO {x:Nat}:uZ 16 x≠none↔(48≤x∧x≤57)∨(97≤x∧x≤102)∨(65≤x∧x≤70):=by
 unfold uZ El
 by_cases h1:48≤x∧x≤57
 ·rw[if_pos h1]
  show (if x-48<16 then some (x-48) else none)≠none↔_
  rw[if_pos (by omega)]
  simp;omega
 ·rw[if_neg h1]
  by_cases h2:65≤x∧x≤90
  ·rw[if_pos h2]
   show (if x-55<16 then some (x-55) else none)≠none↔_
   split
   ·simp;omega
   ·simp;omega
  ·rw[if_neg h2]
   by_cases h3:97≤x∧x≤122
   ·rw[if_pos h3]
    show (if x-87<16 then some (x-87) else none)≠none↔_
    split
    ·simp;omega
    ·simp;omega
   ·rw[if_neg h3]
    simp;omega
def K0 (W:World) (p:Prop) (e:Ending) (w:World):Prop:=∃b:Bool,e=.returned (.bool b)∧w=W∧(b=true↔p)
theorem OH {W:World}{p:Prop} (b:Bool) (h:b=true↔p):K0 W p (.returned (.bool b)) W:=⟨b,rfl,rfl,h⟩
theorem A0 (W:World) (x:Nat) (hx:x<256):Calls Tryz.prog 324 #[.int .u8 (x:Int),.int .i64 8] W (K0 W (uZ 8 x≠none)):=by
 rw[aag]
 go_enter Tryz.func324,Tryz.ntmps324
 go_wp2
 all_goals (go_ret;refine OH _ ?_;simp;omega)
theorem xG (W:World) (x:Nat) (hx:x<256):Calls Tryz.prog 324 #[.int .u8 (x:Int),.int .i64 16] W (K0 W (uZ 16 x≠none)):=by
 rw[UO]
 go_enter Tryz.func324,Tryz.ntmps324
 go_wp2
 all_goals (go_ret;refine OH _ ?_;simp;omega)
theorem Aw {W:World} (h:ji W) (s:ByteArray) (hs:s.size≤65536) :
  Calls Tryz.prog 232 #[.string s,.int .i64 16,.int .i64 8] W (TS W 16 255 s) ∧
  Calls Tryz.prog 232 #[.string s,.int .i64 8,.int .i64 8] W (TS W 8 255 s):=by
 exact ⟨jv h s hs _ _ _ _ (uQ (Or.inr (Or.inr (Or.inr (Or.inl ⟨rfl,rfl,rfl,rfl,rfl,rfl⟩)))) W s hs),jv h s hs _ _ _ _ (uQ (Or.inr (Or.inr (Or.inr (Or.inr ⟨rfl,rfl,rfl,rfl,rfl,rfl⟩)))) W s hs)⟩
def VN (W:World) (o:Option (Nat×Nat)) (e:Ending) (w:World):Prop:=Below W.heap.size W w∧((o=none∧e=.returned (.tuple #[.int .u8 0,.int .i64 0]))∨∃v n:Nat,o=some (v,n)∧e=.returned (.tuple #[.int .u8 (v:Int),.int .i64 (n:Int)]))
theorem js {W w:World}{o:Option (Nat×Nat)} (hb:Below W.heap.size W w) (h:o=none):VN W o (.returned (.tuple #[.int .u8 0,.int .i64 0])) w:=⟨hb,.inl ⟨h,rfl⟩⟩
theorem bV {W w:World}{o:Option (Nat×Nat)}{v n:Nat} (hb:Below W.heap.size W w) (h:o=some (v,n)):VN W o (.returned (.tuple #[.int .u8 (v:Int),.int .i64 (n:Int)])) w:=⟨hb,.inr ⟨v,n,h,rfl⟩⟩
theorem tB {B f:Nat}{l:List Nat} (h:l=[]∨f=0):cJ B f l=0:=by
 rcases h with rfl|rfl
 ·cases f<;>rfl
 ·cases l<;>rfl
theorem pc {B f x:Nat}{r:List Nat} (h:¬uZ B x≠none):cJ B f (x::r)=0:=by
 have h':uZ B x=none:=Classical.not_not.1 h
 cases f with
 |zero=>rfl
 |succ f=>simp[cJ,h']
theorem pb {B f x:Nat}{r:List Nat} (h:uZ B x≠none):cJ B (f+1) (x::r)=cJ B f r+1:=by
 obtain ⟨d,hd⟩:=Option.ne_none_iff_exists'.1 h
 simp[cJ,hd]
theorem gU {B m f u:Nat}{l:List Nat} (hB:1≤B) (h0:0<cJ B m l) (h:cA B 255 (l.take (cJ B m l)) 0=some u):fin (dt B m l 0 0) f=some (u,f+cJ B m l)∧u≤255:=by
 have h1:=qf hB m l 0 0 (by omega)
 have h2:=mg (B:=B) m l 0 0
 rw[h] at h1
 unfold fin
 split at h1
 ·rename_i hle
  have h3:=zC h1
  rw[if_neg (by omega),←h3,h2,Nat.zero_add]
  exact ⟨rfl,by omega⟩
 ·cases h1
theorem j7 {B m f:Nat}{l:List Nat} (hB:1≤B) (h:cJ B m l=0∨cA B 255 (l.take (cJ B m l)) 0=none):fin (dt B m l 0 0) f=none:=by
 have h1:=qf hB m l 0 0 (by omega)
 have h2:=mg (B:=B) m l 0 0
 unfold fin
 rw[if_pos]
 rcases h with h|h
 ·left;omega
 ·right
  rw[h] at h1
  split at h1
  ·cases h1
  ·omega
theorem vM {W:World} (hE:ji W) (s:ByteArray) (hs:s.size≤65536) (VA:2≤s.size) :
  Calls Tryz.prog 303 #[.string s,.int .i64 2,.int .i64 2,.int .i64 16] W (VN W (fin (dt 16 2 ((aO s).drop 2) 0 0) 2)):=by
 go_enter Tryz.func303,Tryz.ntmps303
 go_wp2
 go_loopg [10] 2 (fun gk v10 wr=>∃(j:Nat),v10=.int .i64 ((2+j:Nat):Int)∧gk=2-j∧j≤2∧2+j≤s.size∧wr=W∧Hid (cJ 16 2 ((aO s).drop 2)=j+cJ 16 (2-j) ((aO s).drop (2+j))))
 case atStart=>exact ⟨0,rfl,rfl,by omega,by omega,rfl,by show _=_;simp⟩
 case round =>
  obtain ⟨j,rfl,bd,hj,Nj,rfl,Hd⟩:=hrel
  obtain ⟨p,hp⟩:∃p,p=2+j:=⟨_,rfl⟩
  rw[←hp] at Hd ⊢
  have qG:p≤s.size:=by omega
  have hpf:2≤p:=by omega
  have Hp:=ak hp
  have bH:=ak bd
  have p0:(0:Int)≤(p:Int):=zH _
  clear bd
  by_cases aU:p<s.size
  ·obtain ⟨x,hx,dr,gx⟩:=iI s p aU
   have qJ:(aO s).drop p=x::(aO s).drop (p+1):=by
    obtain ⟨hl,tu⟩:=zB hx
    rw[List.drop_eq_getElem_cons hl,tu]
   have x7:=ak qJ
   have p1:(p:Int)<(s.size:Int):=by omega
   clear qJ hx
   by_cases dC:j<2
   ·have p2:(p:Int)<(4:Int):=by omega
    clear hp Nj
    by_cases hq:(4:Int)<(s.size:Int)
    ·have Q7:min (s.size:Int) 4=4:=by omega
     have d1:decide ((p:Int)<(4:Int))=true:=by simp;omega
     have cP:=ak dC
     clear dC hq
     go_wp2_with fail
     refine (xG _ x dr).mono ?_
     rintro e w' ⟨d,rfl,he,hd⟩
     obtain rfl:wr=w':=he.symm
     cases d with
     |true =>
      have dC:=ab cP
      have hy:uZ 16 x≠none:=hd.1 rfl
      have j6:cJ 16 2 ((aO s).drop 2)=(j+1)+cJ 16 (2-(j+1)) ((aO s).drop (p+1)):=by
       rw[ab Hd,ab x7,show 2-j=(2-(j+1))+1 by omega,pb hy];omega
      have jL:=ak j6
      clear j6 hy hd Hd x7 dC
      go_wp2
      go_roundg (2-(j+1))
      case measure=>have:=ab bH;have:=ab cP;omega
      case rel =>
       have dC:=ab cP
       refine ⟨j+1,?_,rfl,by omega,by have:=ab Hp;omega,rfl,?_⟩
       ·have e:=ab Hp;subst e;go_num
       ·have:=ab jL;rw[ab Hp] at this;exact this
     |false =>
      have dO:cJ 16 2 ((aO s).drop 2)=j:=by
       rw[ab Hd,ab x7,pc (fun q=>by simpa using hd.2 q)];rfl
      clear hd x7 gx
      have cQ:Hid (∀u,0<(s.extract 2 p).size→cA 16 255 (aO (s.extract 2 p)) 0=some u→fin (dt 16 2 ((aO s).drop 2) 0 0) 2=some (u,p)∧u≤255):=fun u h1 h2=>by
       rw[aX] at h2
       have e:=extract_size s 2 p qG;have hp:=ab Hp
       have q:=gU (f:=2) (B:=16) (by decide) (m:=2) (l:=(aO s).drop 2) (u:=u) (by omega) (by rw[dO,show j=p-2 by omega];exact h2)
       rw[dO,←hp] at q
       exact q
      have ft:Hid ((s.extract 2 p).size=0∨cA 16 255 (aO (s.extract 2 p)) 0=none→fin (dt 16 2 ((aO s).drop 2) 0 0) 2=none):=fun h1=>by
       rw[aX] at h1
       have e:=extract_size s 2 p qG;have hp:=ab Hp
       refine j7 (by decide) ?_
       rcases h1 with h1|h1
       ·left;omega
       ·right;rw[dO,show j=p-2 by omega];exact h1
      have Lt:=extract_size s 2 p qG
      have f1:(2:Int)≤(p:Int):=by omega
      have f2:(p:Int)≤(s.size:Int):=by omega
      clear dO Hd
      go_wp2_with fail
      refine ((Aw hE _ (by omega)).1).mono ?_
      rintro e w1 ⟨aY,⟨u,rfl,hz,hu⟩|⟨u,q,rfl,hu⟩⟩
      ·obtain ⟨hw,hle⟩:=ab cQ u hz hu
       have Hw:=ak hw
       have Hb:=ak aY
       clear hw hu hz aY cQ ft
       go_wp2
       go_ret2
       have e1:IntKind.u8.wrap (u:Int)=(u:Int):=by simp[IntKind.wrap,IntKind.bits,IntKind.signed];omega
       first
        |exact bV (ab Hb) (ab Hw)
        |(rw[e1];exact bV (ab Hb) (ab Hw))
      ·have hw:=ab ft hu
       have Hw:=ak hw
       have Hb:=ak aY
       clear hw hu aY cQ ft
       go_wp2
       go_ret2
       exact js (ab Hb) (ab Hw)
    ·have Q7:min (s.size:Int) 4=(s.size:Int):=by omega
     have d1:decide ((p:Int)<(s.size:Int))=true:=by simp;omega
     have cP:=ak dC
     clear dC hq
     go_wp2_with fail
     refine (xG _ x dr).mono ?_
     rintro e w' ⟨d,rfl,he,hd⟩
     obtain rfl:wr=w':=he.symm
     cases d with
     |true =>
      have dC:=ab cP
      have hy:uZ 16 x≠none:=hd.1 rfl
      have j6:cJ 16 2 ((aO s).drop 2)=(j+1)+cJ 16 (2-(j+1)) ((aO s).drop (p+1)):=by
       rw[ab Hd,ab x7,show 2-j=(2-(j+1))+1 by omega,pb hy];omega
      have jL:=ak j6
      clear j6 hy hd Hd x7 dC
      go_wp2
      go_roundg (2-(j+1))
      case measure=>have:=ab bH;have:=ab cP;omega
      case rel =>
       have dC:=ab cP
       refine ⟨j+1,?_,rfl,by omega,by have:=ab Hp;omega,rfl,?_⟩
       ·have e:=ab Hp;subst e;go_num
       ·have:=ab jL;rw[ab Hp] at this;exact this
     |false =>
      have dO:cJ 16 2 ((aO s).drop 2)=j:=by
       rw[ab Hd,ab x7,pc (fun q=>by simpa using hd.2 q)];rfl
      clear hd x7 gx
      have cQ:Hid (∀u,0<(s.extract 2 p).size→cA 16 255 (aO (s.extract 2 p)) 0=some u→fin (dt 16 2 ((aO s).drop 2) 0 0) 2=some (u,p)∧u≤255):=fun u h1 h2=>by
       rw[aX] at h2
       have e:=extract_size s 2 p qG;have hp:=ab Hp
       have q:=gU (f:=2) (B:=16) (by decide) (m:=2) (l:=(aO s).drop 2) (u:=u) (by omega) (by rw[dO,show j=p-2 by omega];exact h2)
       rw[dO,←hp] at q
       exact q
      have ft:Hid ((s.extract 2 p).size=0∨cA 16 255 (aO (s.extract 2 p)) 0=none→fin (dt 16 2 ((aO s).drop 2) 0 0) 2=none):=fun h1=>by
       rw[aX] at h1
       have e:=extract_size s 2 p qG;have hp:=ab Hp
       refine j7 (by decide) ?_
       rcases h1 with h1|h1
       ·left;omega
       ·right;rw[dO,show j=p-2 by omega];exact h1
      have Lt:=extract_size s 2 p qG
      have f1:(2:Int)≤(p:Int):=by omega
      have f2:(p:Int)≤(s.size:Int):=by omega
      clear dO Hd
      go_wp2_with fail
      refine ((Aw hE _ (by omega)).1).mono ?_
      rintro e w1 ⟨aY,⟨u,rfl,hz,hu⟩|⟨u,q,rfl,hu⟩⟩
      ·obtain ⟨hw,hle⟩:=ab cQ u hz hu
       have Hw:=ak hw
       have Hb:=ak aY
       clear hw hu hz aY cQ ft
       go_wp2
       go_ret2
       have e1:IntKind.u8.wrap (u:Int)=(u:Int):=by simp[IntKind.wrap,IntKind.bits,IntKind.signed];omega
       first
        |exact bV (ab Hb) (ab Hw)
        |(rw[e1];exact bV (ab Hb) (ab Hw))
      ·have hw:=ab ft hu
       have Hw:=ak hw
       have Hb:=ak aY
       clear hw hu aY cQ ft
       go_wp2
       go_ret2
       exact js (ab Hb) (ab Hw)
   ·have dO:cJ 16 2 ((aO s).drop 2)=j:=by
     rw[ab Hd,tB (.inr (by omega))];rfl
    have Q7:min (s.size:Int) 4=4:=by omega
    have d1:decide ((p:Int)<(4:Int))=false:=by simp;omega
    clear hp Nj dC
    clear x7 gx
    have cQ:Hid (∀u,0<(s.extract 2 p).size→cA 16 255 (aO (s.extract 2 p)) 0=some u→fin (dt 16 2 ((aO s).drop 2) 0 0) 2=some (u,p)∧u≤255):=fun u h1 h2=>by
     rw[aX] at h2
     have e:=extract_size s 2 p qG;have hp:=ab Hp
     have q:=gU (f:=2) (B:=16) (by decide) (m:=2) (l:=(aO s).drop 2) (u:=u) (by omega) (by rw[dO,show j=p-2 by omega];exact h2)
     rw[dO,←hp] at q
     exact q
    have ft:Hid ((s.extract 2 p).size=0∨cA 16 255 (aO (s.extract 2 p)) 0=none→fin (dt 16 2 ((aO s).drop 2) 0 0) 2=none):=fun h1=>by
     rw[aX] at h1
     have e:=extract_size s 2 p qG;have hp:=ab Hp
     refine j7 (by decide) ?_
     rcases h1 with h1|h1
     ·left;omega
     ·right;rw[dO,show j=p-2 by omega];exact h1
    have Lt:=extract_size s 2 p qG
    have f1:(2:Int)≤(p:Int):=by omega
    have f2:(p:Int)≤(s.size:Int):=by omega
    clear dO Hd
    go_wp2_with fail
    refine ((Aw hE _ (by omega)).1).mono ?_
    rintro e w1 ⟨aY,⟨u,rfl,hz,hu⟩|⟨u,q,rfl,hu⟩⟩
    ·obtain ⟨hw,hle⟩:=ab cQ u hz hu
     have Hw:=ak hw
     have Hb:=ak aY
     clear hw hu hz aY cQ ft
     go_wp2
     go_ret2
     have e1:IntKind.u8.wrap (u:Int)=(u:Int):=by simp[IntKind.wrap,IntKind.bits,IntKind.signed];omega
     first
      |exact bV (ab Hb) (ab Hw)
      |(rw[e1];exact bV (ab Hb) (ab Hw))
    ·have hw:=ab ft hu
     have Hw:=ak hw
     have Hb:=ak aY
     clear hw hu aY cQ ft
     go_wp2
     go_ret2
     exact js (ab Hb) (ab Hw)
  ·have dO:cJ 16 2 ((aO s).drop 2)=j:=by
    rw[ab Hd,tB (.inl (List.drop_eq_nil_of_le (by rw[bg];omega)))];rfl
   have Q7:min (s.size:Int) 4=(s.size:Int):=by omega
   have d1:decide ((p:Int)<(s.size:Int))=false:=by simp;omega
   clear hp Nj
   have cQ:Hid (∀u,0<(s.extract 2 p).size→cA 16 255 (aO (s.extract 2 p)) 0=some u→fin (dt 16 2 ((aO s).drop 2) 0 0) 2=some (u,p)∧u≤255):=fun u h1 h2=>by
    rw[aX] at h2
    have e:=extract_size s 2 p qG;have hp:=ab Hp
    have q:=gU (f:=2) (B:=16) (by decide) (m:=2) (l:=(aO s).drop 2) (u:=u) (by omega) (by rw[dO,show j=p-2 by omega];exact h2)
    rw[dO,←hp] at q
    exact q
   have ft:Hid ((s.extract 2 p).size=0∨cA 16 255 (aO (s.extract 2 p)) 0=none→fin (dt 16 2 ((aO s).drop 2) 0 0) 2=none):=fun h1=>by
    rw[aX] at h1
    have e:=extract_size s 2 p qG;have hp:=ab Hp
    refine j7 (by decide) ?_
    rcases h1 with h1|h1
    ·left;omega
    ·right;rw[dO,show j=p-2 by omega];exact h1
   have Lt:=extract_size s 2 p qG
   have f1:(2:Int)≤(p:Int):=by omega
   have f2:(p:Int)≤(s.size:Int):=by omega
   clear dO Hd
   go_wp2_with fail
   refine ((Aw hE _ (by omega)).1).mono ?_
   rintro e w1 ⟨aY,⟨u,rfl,hz,hu⟩|⟨u,q,rfl,hu⟩⟩
   ·obtain ⟨hw,hle⟩:=ab cQ u hz hu
    have Hw:=ak hw
    have Hb:=ak aY
    clear hw hu hz aY cQ ft
    go_wp2
    go_ret2
    have e1:IntKind.u8.wrap (u:Int)=(u:Int):=by simp[IntKind.wrap,IntKind.bits,IntKind.signed];omega
    first
     |exact bV (ab Hb) (ab Hw)
     |(rw[e1];exact bV (ab Hb) (ab Hw))
   ·have hw:=ab ft hu
    have Hw:=ak hw
    have Hb:=ak aY
    clear hw hu aY cQ ft
    go_wp2
    go_ret2
    exact js (ab Hb) (ab Hw)
theorem Dj {W:World} (hE:ji W) (s:ByteArray) (hs:s.size≤65536) (VA:1≤s.size) :
  Calls Tryz.prog 303 #[.string s,.int .i64 1,.int .i64 3,.int .i64 8] W (VN W (fin (dt 8 3 ((aO s).drop 1) 0 0) 1)):=by
 go_enter Tryz.func303,Tryz.ntmps303
 go_wp2
 go_loopg [10] 3 (fun gk v10 wr=>∃(j:Nat),v10=.int .i64 ((1+j:Nat):Int)∧gk=3-j∧j≤3∧1+j≤s.size∧wr=W∧Hid (cJ 8 3 ((aO s).drop 1)=j+cJ 8 (3-j) ((aO s).drop (1+j))))
 case atStart=>exact ⟨0,rfl,rfl,by omega,by omega,rfl,by show _=_;simp⟩
 case round =>
  obtain ⟨j,rfl,bd,hj,Nj,rfl,Hd⟩:=hrel
  obtain ⟨p,hp⟩:∃p,p=1+j:=⟨_,rfl⟩
  rw[←hp] at Hd ⊢
  have qG:p≤s.size:=by omega
  have hpf:1≤p:=by omega
  have Hp:=ak hp
  have bH:=ak bd
  have p0:(0:Int)≤(p:Int):=zH _
  clear bd
  by_cases aU:p<s.size
  ·obtain ⟨x,hx,dr,gx⟩:=iI s p aU
   have qJ:(aO s).drop p=x::(aO s).drop (p+1):=by
    obtain ⟨hl,tu⟩:=zB hx
    rw[List.drop_eq_getElem_cons hl,tu]
   have x7:=ak qJ
   have p1:(p:Int)<(s.size:Int):=by omega
   clear qJ hx
   by_cases dC:j<3
   ·have p2:(p:Int)<(4:Int):=by omega
    clear hp Nj
    by_cases hq:(4:Int)<(s.size:Int)
    ·have Q7:min (s.size:Int) 4=4:=by omega
     have d1:decide ((p:Int)<(4:Int))=true:=by simp;omega
     have cP:=ak dC
     clear dC hq
     go_wp2_with fail
     refine (A0 _ x dr).mono ?_
     rintro e w' ⟨d,rfl,he,hd⟩
     obtain rfl:wr=w':=he.symm
     cases d with
     |true =>
      have dC:=ab cP
      have hy:uZ 8 x≠none:=hd.1 rfl
      have j6:cJ 8 3 ((aO s).drop 1)=(j+1)+cJ 8 (3-(j+1)) ((aO s).drop (p+1)):=by
       rw[ab Hd,ab x7,show 3-j=(3-(j+1))+1 by omega,pb hy];omega
      have jL:=ak j6
      clear j6 hy hd Hd x7 dC
      go_wp2
      go_roundg (3-(j+1))
      case measure=>have:=ab bH;have:=ab cP;omega
      case rel =>
       have dC:=ab cP
       refine ⟨j+1,?_,rfl,by omega,by have:=ab Hp;omega,rfl,?_⟩
       ·have e:=ab Hp;subst e;go_num
       ·have:=ab jL;rw[ab Hp] at this;exact this
     |false =>
      have dO:cJ 8 3 ((aO s).drop 1)=j:=by
       rw[ab Hd,ab x7,pc (fun q=>by simpa using hd.2 q)];rfl
      clear hd x7 gx
      have cQ:Hid (∀u,0<(s.extract 1 p).size→cA 8 255 (aO (s.extract 1 p)) 0=some u→fin (dt 8 3 ((aO s).drop 1) 0 0) 1=some (u,p)∧u≤255):=fun u h1 h2=>by
       rw[aX] at h2
       have e:=extract_size s 1 p qG;have hp:=ab Hp
       have q:=gU (f:=1) (B:=8) (by decide) (m:=3) (l:=(aO s).drop 1) (u:=u) (by omega) (by rw[dO,show j=p-1 by omega];exact h2)
       rw[dO,←hp] at q
       exact q
      have ft:Hid ((s.extract 1 p).size=0∨cA 8 255 (aO (s.extract 1 p)) 0=none→fin (dt 8 3 ((aO s).drop 1) 0 0) 1=none):=fun h1=>by
       rw[aX] at h1
       have e:=extract_size s 1 p qG;have hp:=ab Hp
       refine j7 (by decide) ?_
       rcases h1 with h1|h1
       ·left;omega
       ·right;rw[dO,show j=p-1 by omega];exact h1
      have Lt:=extract_size s 1 p qG
      have f1:(1:Int)≤(p:Int):=by omega
      have f2:(p:Int)≤(s.size:Int):=by omega
      clear dO Hd
      go_wp2_with fail
      refine ((Aw hE _ (by omega)).2).mono ?_
      rintro e w1 ⟨aY,⟨u,rfl,hz,hu⟩|⟨u,q,rfl,hu⟩⟩
      ·obtain ⟨hw,hle⟩:=ab cQ u hz hu
       have Hw:=ak hw
       have Hb:=ak aY
       clear hw hu hz aY cQ ft
       go_wp2
       go_ret2
       have e1:IntKind.u8.wrap (u:Int)=(u:Int):=by simp[IntKind.wrap,IntKind.bits,IntKind.signed];omega
       first
        |exact bV (ab Hb) (ab Hw)
        |(rw[e1];exact bV (ab Hb) (ab Hw))
      ·have hw:=ab ft hu
       have Hw:=ak hw
       have Hb:=ak aY
       clear hw hu aY cQ ft
       go_wp2
       go_ret2
       exact js (ab Hb) (ab Hw)
    ·have Q7:min (s.size:Int) 4=(s.size:Int):=by omega
     have d1:decide ((p:Int)<(s.size:Int))=true:=by simp;omega
     have cP:=ak dC
     clear dC hq
     go_wp2_with fail
     refine (A0 _ x dr).mono ?_
     rintro e w' ⟨d,rfl,he,hd⟩
     obtain rfl:wr=w':=he.symm
     cases d with
     |true =>
      have dC:=ab cP
      have hy:uZ 8 x≠none:=hd.1 rfl
      have j6:cJ 8 3 ((aO s).drop 1)=(j+1)+cJ 8 (3-(j+1)) ((aO s).drop (p+1)):=by
       rw[ab Hd,ab x7,show 3-j=(3-(j+1))+1 by omega,pb hy];omega
      have jL:=ak j6
      clear j6 hy hd Hd x7 dC
      go_wp2
      go_roundg (3-(j+1))
      case measure=>have:=ab bH;have:=ab cP;omega
      case rel =>
       have dC:=ab cP
       refine ⟨j+1,?_,rfl,by omega,by have:=ab Hp;omega,rfl,?_⟩
       ·have e:=ab Hp;subst e;go_num
       ·have:=ab jL;rw[ab Hp] at this;exact this
     |false =>
      have dO:cJ 8 3 ((aO s).drop 1)=j:=by
       rw[ab Hd,ab x7,pc (fun q=>by simpa using hd.2 q)];rfl
      clear hd x7 gx
      have cQ:Hid (∀u,0<(s.extract 1 p).size→cA 8 255 (aO (s.extract 1 p)) 0=some u→fin (dt 8 3 ((aO s).drop 1) 0 0) 1=some (u,p)∧u≤255):=fun u h1 h2=>by
       rw[aX] at h2
       have e:=extract_size s 1 p qG;have hp:=ab Hp
       have q:=gU (f:=1) (B:=8) (by decide) (m:=3) (l:=(aO s).drop 1) (u:=u) (by omega) (by rw[dO,show j=p-1 by omega];exact h2)
       rw[dO,←hp] at q
       exact q
      have ft:Hid ((s.extract 1 p).size=0∨cA 8 255 (aO (s.extract 1 p)) 0=none→fin (dt 8 3 ((aO s).drop 1) 0 0) 1=none):=fun h1=>by
       rw[aX] at h1
       have e:=extract_size s 1 p qG;have hp:=ab Hp
       refine j7 (by decide) ?_
       rcases h1 with h1|h1
       ·left;omega
       ·right;rw[dO,show j=p-1 by omega];exact h1
      have Lt:=extract_size s 1 p qG
      have f1:(1:Int)≤(p:Int):=by omega
      have f2:(p:Int)≤(s.size:Int):=by omega
      clear dO Hd
      go_wp2_with fail
      refine ((Aw hE _ (by omega)).2).mono ?_
      rintro e w1 ⟨aY,⟨u,rfl,hz,hu⟩|⟨u,q,rfl,hu⟩⟩
      ·obtain ⟨hw,hle⟩:=ab cQ u hz hu
       have Hw:=ak hw
       have Hb:=ak aY
       clear hw hu hz aY cQ ft
       go_wp2
       go_ret2
       have e1:IntKind.u8.wrap (u:Int)=(u:Int):=by simp[IntKind.wrap,IntKind.bits,IntKind.signed];omega
       first
        |exact bV (ab Hb) (ab Hw)
        |(rw[e1];exact bV (ab Hb) (ab Hw))
      ·have hw:=ab ft hu
       have Hw:=ak hw
       have Hb:=ak aY
       clear hw hu aY cQ ft
       go_wp2
       go_ret2
       exact js (ab Hb) (ab Hw)
   ·have dO:cJ 8 3 ((aO s).drop 1)=j:=by
     rw[ab Hd,tB (.inr (by omega))];rfl
    have Q7:min (s.size:Int) 4=4:=by omega
    have d1:decide ((p:Int)<(4:Int))=false:=by simp;omega
    clear hp Nj dC
    clear x7 gx
    have cQ:Hid (∀u,0<(s.extract 1 p).size→cA 8 255 (aO (s.extract 1 p)) 0=some u→fin (dt 8 3 ((aO s).drop 1) 0 0) 1=some (u,p)∧u≤255):=fun u h1 h2=>by
     rw[aX] at h2
     have e:=extract_size s 1 p qG;have hp:=ab Hp
     have q:=gU (f:=1) (B:=8) (by decide) (m:=3) (l:=(aO s).drop 1) (u:=u) (by omega) (by rw[dO,show j=p-1 by omega];exact h2)
     rw[dO,←hp] at q
     exact q
    have ft:Hid ((s.extract 1 p).size=0∨cA 8 255 (aO (s.extract 1 p)) 0=none→fin (dt 8 3 ((aO s).drop 1) 0 0) 1=none):=fun h1=>by
     rw[aX] at h1
     have e:=extract_size s 1 p qG;have hp:=ab Hp
     refine j7 (by decide) ?_
     rcases h1 with h1|h1
     ·left;omega
     ·right;rw[dO,show j=p-1 by omega];exact h1
    have Lt:=extract_size s 1 p qG
    have f1:(1:Int)≤(p:Int):=by omega
    have f2:(p:Int)≤(s.size:Int):=by omega
    clear dO Hd
    go_wp2_with fail
    refine ((Aw hE _ (by omega)).2).mono ?_
    rintro e w1 ⟨aY,⟨u,rfl,hz,hu⟩|⟨u,q,rfl,hu⟩⟩
    ·obtain ⟨hw,hle⟩:=ab cQ u hz hu
     have Hw:=ak hw
     have Hb:=ak aY
     clear hw hu hz aY cQ ft
     go_wp2
     go_ret2
     have e1:IntKind.u8.wrap (u:Int)=(u:Int):=by simp[IntKind.wrap,IntKind.bits,IntKind.signed];omega
     first
      |exact bV (ab Hb) (ab Hw)
      |(rw[e1];exact bV (ab Hb) (ab Hw))
    ·have hw:=ab ft hu
     have Hw:=ak hw
     have Hb:=ak aY
     clear hw hu aY cQ ft
     go_wp2
     go_ret2
     exact js (ab Hb) (ab Hw)
  ·have dO:cJ 8 3 ((aO s).drop 1)=j:=by
    rw[ab Hd,tB (.inl (List.drop_eq_nil_of_le (by rw[bg];omega)))];rfl
   have Q7:min (s.size:Int) 4=(s.size:Int):=by omega
   have d1:decide ((p:Int)<(s.size:Int))=false:=by simp;omega
   clear hp Nj
   have cQ:Hid (∀u,0<(s.extract 1 p).size→cA 8 255 (aO (s.extract 1 p)) 0=some u→fin (dt 8 3 ((aO s).drop 1) 0 0) 1=some (u,p)∧u≤255):=fun u h1 h2=>by
    rw[aX] at h2
    have e:=extract_size s 1 p qG;have hp:=ab Hp
    have q:=gU (f:=1) (B:=8) (by decide) (m:=3) (l:=(aO s).drop 1) (u:=u) (by omega) (by rw[dO,show j=p-1 by omega];exact h2)
    rw[dO,←hp] at q
    exact q
   have ft:Hid ((s.extract 1 p).size=0∨cA 8 255 (aO (s.extract 1 p)) 0=none→fin (dt 8 3 ((aO s).drop 1) 0 0) 1=none):=fun h1=>by
    rw[aX] at h1
    have e:=extract_size s 1 p qG;have hp:=ab Hp
    refine j7 (by decide) ?_
    rcases h1 with h1|h1
    ·left;omega
    ·right;rw[dO,show j=p-1 by omega];exact h1
   have Lt:=extract_size s 1 p qG
   have f1:(1:Int)≤(p:Int):=by omega
   have f2:(p:Int)≤(s.size:Int):=by omega
   clear dO Hd
   go_wp2_with fail
   refine ((Aw hE _ (by omega)).2).mono ?_
   rintro e w1 ⟨aY,⟨u,rfl,hz,hu⟩|⟨u,q,rfl,hu⟩⟩
   ·obtain ⟨hw,hle⟩:=ab cQ u hz hu
    have Hw:=ak hw
    have Hb:=ak aY
    clear hw hu hz aY cQ ft
    go_wp2
    go_ret2
    have e1:IntKind.u8.wrap (u:Int)=(u:Int):=by simp[IntKind.wrap,IntKind.bits,IntKind.signed];omega
    first
     |exact bV (ab Hb) (ab Hw)
     |(rw[e1];exact bV (ab Hb) (ab Hw))
   ·have hw:=ab ft hu
    have Hw:=ak hw
    have Hb:=ak aY
    clear hw hu aY cQ ft
    go_wp2
    go_ret2
    exact js (ab Hb) (ab Hw)
end Go.Proofs.YtghioefalckgoaaGreatDoor
