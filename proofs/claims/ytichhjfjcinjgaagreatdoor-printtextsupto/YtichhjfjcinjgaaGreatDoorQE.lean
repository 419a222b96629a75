import Derived.Test.YtichhjfjcinjgaaGreatDoorM09
set_option maxHeartbeats 2000000
set_option maxRecDepth 100000
namespace Go.Proofs.YtichhjfjcinjgaaGreatDoor
open Go.RowKit
attribute [local go_sem ↓] Go.wp_at_zero Go.wp_at_succ
theorem NI {x:Nat}:nC 8 x≠none↔48≤x∧x≤55:=by
 unfold nC yH
 by_cases h1:48≤x∧x≤57
 ·rw[if_pos h1]
  show (if x-48<8 then some (x-48) else none)≠none↔_
  split
  ·simp;omega
  ·simp;omega
 ·rw[if_neg h1]
  by_cases h2:65≤x∧x≤90
  ·rw[if_pos h2]
   show (if x-55<8 then some (x-55) else none)≠none↔_
   rw[if_neg (by omega)]
   simp;omega
  ·rw[if_neg h2]
   by_cases h3:97≤x∧x≤122
   ·rw[if_pos h3]
    show (if x-87<8 then some (x-87) else none)≠none↔_
    rw[if_neg (by omega)]
    simp;omega
   ·rw[if_neg h3]
    simp;omega
theorem Rq {x:Nat}:nC 16 x≠none↔(48≤x∧x≤57)∨(97≤x∧x≤102)∨(65≤x∧x≤70):=by
 unfold nC yH
 by_cases h1:48≤x∧x≤57
 ·rw[if_pos h1]
  show (if x-48<16 then some (x-48) else none)≠none↔_
  rw[if_pos (by omega)]
  simp;omega
 ·rw[if_neg h1]
  by_cases h2:65≤x∧x≤90
  ·rw[if_pos h2]
   show (if x-55<16 then some (x-55) else none)≠none↔_
   split
   ·simp;omega
   ·simp;omega
  ·rw[if_neg h2]
   by_cases h3:97≤x∧x≤122
   ·rw[if_pos h3]
    show (if x-87<16 then some (x-87) else none)≠none↔_
    split
    ·simp;omega
    ·simp;omega
   ·rw[if_neg h3]
    simp;omega
def Ej (W:World) (p:Prop) (e:Ending) (w:World):Prop:=∃b:Bool,e=.returned (.bool b)∧w=W∧(b=true↔p)
theorem GV {W:World}{p:Prop} (b:Bool) (h:b=true↔p):Ej W p (.returned (.bool b)) W:=⟨b,rfl,rfl,h⟩
theorem AG (W:World) (x:Nat) (hx:x<256):Calls Tryz.prog 217 #[.int .u8 (x:Int),.int .i64 8] W (Ej W (nC 8 x≠none)):=by
 rw[NI]
 go_enter Tryz.func217,Tryz.ntmps217
 go_wp2
 all_goals (go_ret;refine GV _ ?_;simp;omega)
theorem xc (W:World) (x:Nat) (hx:x<256):Calls Tryz.prog 217 #[.int .u8 (x:Int),.int .i64 16] W (Ej W (nC 16 x≠none)):=by
 rw[Rq]
 go_enter Tryz.func217,Tryz.ntmps217
 go_wp2
 all_goals (go_ret;refine GV _ ?_;simp;omega)
theorem z' {W:World} (h:jM W) (s:ByteArray) (hs:s.size≤65536) :
  Calls Tryz.prog 179 #[.string s,.int .i64 16,.int .i64 8] W (Qs W 16 255 s) ∧
  Calls Tryz.prog 179 #[.string s,.int .i64 8,.int .i64 8] W (Qs W 8 255 s):=by
 exact ⟨jT h s hs _ _ _ _ (uz (Or.inr (Or.inr (Or.inr (Or.inl ⟨rfl,rfl,rfl,rfl,rfl,rfl⟩)))) W s hs),jT h s hs _ _ _ _ (uz (Or.inr (Or.inr (Or.inr (Or.inr ⟨rfl,rfl,rfl,rfl,rfl,rfl⟩)))) W s hs)⟩
def VN (W:World) (o:Option (Nat×Nat)) (e:Ending) (w:World):Prop:=Below W.heap.size W w∧((o=none∧e=.returned (.tuple #[.int .u8 0,.int .i64 0]))∨∃v n:Nat,o=some (v,n)∧e=.returned (.tuple #[.int .u8 (v:Int),.int .i64 (n:Int)]))
theorem dJ {W w:World}{o:Option (Nat×Nat)} (hb:Below W.heap.size W w) (h:o=none):VN W o (.returned (.tuple #[.int .u8 0,.int .i64 0])) w:=⟨hb,.inl ⟨h,rfl⟩⟩
theorem bI {W w:World}{o:Option (Nat×Nat)}{v n:Nat} (hb:Below W.heap.size W w) (h:o=some (v,n)):VN W o (.returned (.tuple #[.int .u8 (v:Int),.int .i64 (n:Int)])) w:=⟨hb,.inr ⟨v,n,h,rfl⟩⟩
theorem sW {B f:Nat}{l:List Nat} (h:l=[]∨f=0):dI B f l=0:=by
 rcases h with rfl|rfl
 ·cases f<;>rfl
 ·cases l<;>rfl
theorem po {B f x:Nat}{r:List Nat} (h:¬nC B x≠none):dI B f (x::r)=0:=by
 have h':nC B x=none:=Classical.not_not.1 h
 cases f with
 |zero=>rfl
 |succ f=>simp[dI,h']
theorem pn {B f x:Nat}{r:List Nat} (h:nC B x≠none):dI B (f+1) (x::r)=dI B f r+1:=by
 obtain ⟨d,hd⟩:=Option.ne_none_iff_exists'.1 h
 simp[dI,hd]
theorem iK {B m f u:Nat}{l:List Nat} (hB:1≤B) (h0:0<dI B m l) (h:bV B 255 (l.take (dI B m l)) 0=some u):fin (cE B m l 0 0) f=some (u,f+dI B m l)∧u≤255:=by
 have h1:=qd hB m l 0 0 (by omega)
 have h2:=mC (B:=B) m l 0 0
 rw[h] at h1
 unfold fin
 split at h1
 ·rename_i hle
  have h3:=zC h1
  rw[if_neg (by omega),←h3,h2,Nat.zero_add]
  exact ⟨rfl,by omega⟩
 ·cases h1
theorem kv {B m f:Nat}{l:List Nat} (hB:1≤B) (h:dI B m l=0∨bV B 255 (l.take (dI B m l)) 0=none):fin (cE B m l 0 0) f=none:=by
 have h1:=qd hB m l 0 0 (by omega)
 have h2:=mC (B:=B) m l 0 0
 unfold fin
 rw[if_pos]
 rcases h with h|h
 ·left;omega
 ·right
  rw[h] at h1
  split at h1
  ·cases h1
  ·omega
theorem vt {W:World} (hE:jM W) (s:ByteArray) (hs:s.size≤65536) (Sf:2≤s.size) :
  Calls Tryz.prog 209 #[.string s,.int .i64 2,.int .i64 2,.int .i64 16] W (VN W (fin (cE 16 2 ((aI s).drop 2) 0 0) 2)):=by
 go_enter Tryz.func209,Tryz.ntmps209
 go_wp2
 go_loopg [10] 2 (fun gk v10 wr=>∃(j:Nat),v10=.int .i64 ((2+j:Nat):Int)∧gk=2-j∧j≤2∧2+j≤s.size∧wr=W∧Hid (dI 16 2 ((aI s).drop 2)=j+dI 16 (2-j) ((aI s).drop (2+j))))
 case atStart=>exact ⟨0,rfl,rfl,by omega,by omega,rfl,by show _=_;simp⟩
 case round =>
  obtain ⟨j,rfl,aW,hj,hjs,rfl,Hd⟩:=hrel
  obtain ⟨p,hp⟩:∃p,p=2+j:=⟨_,rfl⟩
  rw[←hp] at Hd ⊢
  have oX:p≤s.size:=by omega
  have hpf:2≤p:=by omega
  have Hp:=al hp
  have bz:=al aW
  have p0:(0:Int)≤(p:Int):=zH _
  clear aW
  by_cases aM:p<s.size
  ·obtain ⟨x,hx,c8,gx⟩:=cj s p aM
   have fk:(aI s).drop p=x::(aI s).drop (p+1):=by
    obtain ⟨hl,mc⟩:=zB hx
    rw[List.drop_eq_getElem_cons hl,mc]
   have lW:=al fk
   have p1:(p:Int)<(s.size:Int):=by omega
   clear fk hx
   by_cases fV:j<2
   ·have p2:(p:Int)<(4:Int):=by omega
    clear hp hjs
    by_cases hq:(4:Int)<(s.size:Int)
    ·have NZ:min (s.size:Int) 4=4:=by omega
     have d1:decide ((p:Int)<(4:Int))=true:=by simp;omega
     have ed:=al fV
     clear fV hq
     go_wp2_with fail
     refine (xc _ x c8).mono ?_
     rintro e w' ⟨d,rfl,he,hd⟩
     obtain rfl:wr=w':=he.symm
     cases d with
     |true =>
      have fV:=ab ed
      have hy:nC 16 x≠none:=hd.1 rfl
      have kt:dI 16 2 ((aI s).drop 2)=(j+1)+dI 16 (2-(j+1)) ((aI s).drop (p+1)):=by
       rw[ab Hd,ab lW,show 2-j=(2-(j+1))+1 by omega,pn hy];omega
      have cG:=al kt
      clear kt hy hd Hd lW fV
      go_wp2
      go_roundg (2-(j+1))
      case measure=>have:=ab bz;have:=ab ed;omega
      case rel =>
       have fV:=ab ed
       refine ⟨j+1,?_,rfl,by omega,by have:=ab Hp;omega,rfl,?_⟩
       ·have e:=ab Hp;subst e;go_num
       ·have:=ab cG;rw[ab Hp] at this;exact this
     |false =>
      have eJ:dI 16 2 ((aI s).drop 2)=j:=by
       rw[ab Hd,ab lW,po (fun q=>by simpa using hd.2 q)];rfl
      clear hd lW gx
      have dN:Hid (∀u,0<(s.extract 2 p).size→bV 16 255 (aI (s.extract 2 p)) 0=some u→fin (cE 16 2 ((aI s).drop 2) 0 0) 2=some (u,p)∧u≤255):=fun u h1 h2=>by
       rw[bw] at h2
       have e:=extract_size s 2 p oX;have hp:=ab Hp
       have q:=iK (f:=2) (B:=16) (by decide) (m:=2) (l:=(aI s).drop 2) (u:=u) (by omega) (by rw[eJ,show j=p-2 by omega];exact h2)
       rw[eJ,←hp] at q
       exact q
      have fZ:Hid ((s.extract 2 p).size=0∨bV 16 255 (aI (s.extract 2 p)) 0=none→fin (cE 16 2 ((aI s).drop 2) 0 0) 2=none):=fun h1=>by
       rw[bw] at h1
       have e:=extract_size s 2 p oX;have hp:=ab Hp
       refine kv (by decide) ?_
       rcases h1 with h1|h1
       ·left;omega
       ·right;rw[eJ,show j=p-2 by omega];exact h1
      have Cw:=extract_size s 2 p oX
      have f1:(2:Int)≤(p:Int):=by omega
      have f2:(p:Int)≤(s.size:Int):=by omega
      clear eJ Hd
      go_wp2_with fail
      refine ((z' hE _ (by omega)).1).mono ?_
      rintro e w1 ⟨aX,⟨u,rfl,hz,hu⟩|⟨u,q,rfl,hu⟩⟩
      ·obtain ⟨hw,hle⟩:=ab dN u hz hu
       have Hw:=al hw
       have Hb:=al aX
       clear hw hu hz aX dN fZ
       go_wp2
       go_ret2
       have e1:IntKind.u8.wrap (u:Int)=(u:Int):=by simp[IntKind.wrap,IntKind.bits,IntKind.signed];omega
       first
        |exact bI (ab Hb) (ab Hw)
        |(rw[e1];exact bI (ab Hb) (ab Hw))
      ·have hw:=ab fZ hu
       have Hw:=al hw
       have Hb:=al aX
       clear hw hu aX dN fZ
       go_wp2
       go_ret2
       exact dJ (ab Hb) (ab Hw)
    ·have NZ:min (s.size:Int) 4=(s.size:Int):=by omega
     have d1:decide ((p:Int)<(s.size:Int))=true:=by simp;omega
     have ed:=al fV
     clear fV hq
     go_wp2_with fail
     refine (xc _ x c8).mono ?_
     rintro e w' ⟨d,rfl,he,hd⟩
     obtain rfl:wr=w':=he.symm
     cases d with
     |true =>
      have fV:=ab ed
      have hy:nC 16 x≠none:=hd.1 rfl
      have kt:dI 16 2 ((aI s).drop 2)=(j+1)+dI 16 (2-(j+1)) ((aI s).drop (p+1)):=by
       rw[ab Hd,ab lW,show 2-j=(2-(j+1))+1 by omega,pn hy];omega
      have cG:=al kt
      clear kt hy hd Hd lW fV
      go_wp2
      go_roundg (2-(j+1))
      case measure=>have:=ab bz;have:=ab ed;omega
      case rel =>
       have fV:=ab ed
       refine ⟨j+1,?_,rfl,by omega,by have:=ab Hp;omega,rfl,?_⟩
       ·have e:=ab Hp;subst e;go_num
       ·have:=ab cG;rw[ab Hp] at this;exact this
     |false =>
      have eJ:dI 16 2 ((aI s).drop 2)=j:=by
       rw[ab Hd,ab lW,po (fun q=>by simpa using hd.2 q)];rfl
      clear hd lW gx
      have dN:Hid (∀u,0<(s.extract 2 p).size→bV 16 255 (aI (s.extract 2 p)) 0=some u→fin (cE 16 2 ((aI s).drop 2) 0 0) 2=some (u,p)∧u≤255):=fun u h1 h2=>by
       rw[bw] at h2
       have e:=extract_size s 2 p oX;have hp:=ab Hp
       have q:=iK (f:=2) (B:=16) (by decide) (m:=2) (l:=(aI s).drop 2) (u:=u) (by omega) (by rw[eJ,show j=p-2 by omega];exact h2)
       rw[eJ,←hp] at q
       exact q
      have fZ:Hid ((s.extract 2 p).size=0∨bV 16 255 (aI (s.extract 2 p)) 0=none→fin (cE 16 2 ((aI s).drop 2) 0 0) 2=none):=fun h1=>by
       rw[bw] at h1
       have e:=extract_size s 2 p oX;have hp:=ab Hp
       refine kv (by decide) ?_
       rcases h1 with h1|h1
       ·left;omega
       ·right;rw[eJ,show j=p-2 by omega];exact h1
      have Cw:=extract_size s 2 p oX
      have f1:(2:Int)≤(p:Int):=by omega
      have f2:(p:Int)≤(s.size:Int):=by omega
      clear eJ Hd
      go_wp2_with fail
      refine ((z' hE _ (by omega)).1).mono ?_
      rintro e w1 ⟨aX,⟨u,rfl,hz,hu⟩|⟨u,q,rfl,hu⟩⟩
      ·obtain ⟨hw,hle⟩:=ab dN u hz hu
       have Hw:=al hw
       have Hb:=al aX
       clear hw hu hz aX dN fZ
       go_wp2
       go_ret2
       have e1:IntKind.u8.wrap (u:Int)=(u:Int):=by simp[IntKind.wrap,IntKind.bits,IntKind.signed];omega
       first
        |exact bI (ab Hb) (ab Hw)
        |(rw[e1];exact bI (ab Hb) (ab Hw))
      ·have hw:=ab fZ hu
       have Hw:=al hw
       have Hb:=al aX
       clear hw hu aX dN fZ
       go_wp2
       go_ret2
       exact dJ (ab Hb) (ab Hw)
   ·have eJ:dI 16 2 ((aI s).drop 2)=j:=by
     rw[ab Hd,sW (.inr (by omega))];rfl
    have NZ:min (s.size:Int) 4=4:=by omega
    have d1:decide ((p:Int)<(4:Int))=false:=by simp;omega
    clear hp hjs fV
    clear lW gx
    have dN:Hid (∀u,0<(s.extract 2 p).size→bV 16 255 (aI (s.extract 2 p)) 0=some u→fin (cE 16 2 ((aI s).drop 2) 0 0) 2=some (u,p)∧u≤255):=fun u h1 h2=>by
     rw[bw] at h2
     have e:=extract_size s 2 p oX;have hp:=ab Hp
     have q:=iK (f:=2) (B:=16) (by decide) (m:=2) (l:=(aI s).drop 2) (u:=u) (by omega) (by rw[eJ,show j=p-2 by omega];exact h2)
     rw[eJ,←hp] at q
     exact q
    have fZ:Hid ((s.extract 2 p).size=0∨bV 16 255 (aI (s.extract 2 p)) 0=none→fin (cE 16 2 ((aI s).drop 2) 0 0) 2=none):=fun h1=>by
     rw[bw] at h1
     have e:=extract_size s 2 p oX;have hp:=ab Hp
     refine kv (by decide) ?_
     rcases h1 with h1|h1
     ·left;omega
     ·right;rw[eJ,show j=p-2 by omega];exact h1
    have Cw:=extract_size s 2 p oX
    have f1:(2:Int)≤(p:Int):=by omega
    have f2:(p:Int)≤(s.size:Int):=by omega
    clear eJ Hd
    go_wp2_with fail
    refine ((z' hE _ (by omega)).1).mono ?_
    rintro e w1 ⟨aX,⟨u,rfl,hz,hu⟩|⟨u,q,rfl,hu⟩⟩
    ·obtain ⟨hw,hle⟩:=ab dN u hz hu
     have Hw:=al hw
     have Hb:=al aX
     clear hw hu hz aX dN fZ
     go_wp2
     go_ret2
     have e1:IntKind.u8.wrap (u:Int)=(u:Int):=by simp[IntKind.wrap,IntKind.bits,IntKind.signed];omega
     first
      |exact bI (ab Hb) (ab Hw)
      |(rw[e1];exact bI (ab Hb) (ab Hw))
    ·have hw:=ab fZ hu
     have Hw:=al hw
     have Hb:=al aX
     clear hw hu aX dN fZ
     go_wp2
     go_ret2
     exact dJ (ab Hb) (ab Hw)
  ·have eJ:dI 16 2 ((aI s).drop 2)=j:=by
    rw[ab Hd,sW (.inl (List.drop_eq_nil_of_le (by rw[aZ];omega)))];rfl
   have NZ:min (s.size:Int) 4=(s.size:Int):=by omega
   have d1:decide ((p:Int)<(s.size:Int))=false:=by simp;omega
   clear hp hjs
   have dN:Hid (∀u,0<(s.extract 2 p).size→bV 16 255 (aI (s.extract 2 p)) 0=some u→fin (cE 16 2 ((aI s).drop 2) 0 0) 2=some (u,p)∧u≤255):=fun u h1 h2=>by
    rw[bw] at h2
    have e:=extract_size s 2 p oX;have hp:=ab Hp
    have q:=iK (f:=2) (B:=16) (by decide) (m:=2) (l:=(aI s).drop 2) (u:=u) (by omega) (by rw[eJ,show j=p-2 by omega];exact h2)
    rw[eJ,←hp] at q
    exact q
   have fZ:Hid ((s.extract 2 p).size=0∨bV 16 255 (aI (s.extract 2 p)) 0=none→fin (cE 16 2 ((aI s).drop 2) 0 0) 2=none):=fun h1=>by
    rw[bw] at h1
    have e:=extract_size s 2 p oX;have hp:=ab Hp
    refine kv (by decide) ?_
    rcases h1 with h1|h1
    ·left;omega
    ·right;rw[eJ,show j=p-2 by omega];exact h1
   have Cw:=extract_size s 2 p oX
   have f1:(2:Int)≤(p:Int):=by omega
   have f2:(p:Int)≤(s.size:Int):=by omega
   clear eJ Hd
   go_wp2_with fail
   refine ((z' hE _ (by omega)).1).mono ?_
   rintro e w1 ⟨aX,⟨u,rfl,hz,hu⟩|⟨u,q,rfl,hu⟩⟩
   ·obtain ⟨hw,hle⟩:=ab dN u hz hu
    have Hw:=al hw
    have Hb:=al aX
    clear hw hu hz aX dN fZ
    go_wp2
    go_ret2
    have e1:IntKind.u8.wrap (u:Int)=(u:Int):=by simp[IntKind.wrap,IntKind.bits,IntKind.signed];omega
    first
     |exact bI (ab Hb) (ab Hw)
     |(rw[e1];exact bI (ab Hb) (ab Hw))
   ·have hw:=ab fZ hu
    have Hw:=al hw
    have Hb:=al aX
    clear hw hu aX dN fZ
    go_wp2
    go_ret2
    exact dJ (ab Hb) (ab Hw)
theorem C9 {W:World} (hE:jM W) (s:ByteArray) (hs:s.size≤65536) (Sf:1≤s.size) :
  Calls Tryz.prog 209 #[.string s,.int .i64 1,.int .i64 3,.int .i64 8] W (VN W (fin (cE 8 3 ((aI s).drop 1) 0 0) 1)):=by
 go_enter Tryz.func209,Tryz.ntmps209
 go_wp2
 go_loopg [10] 3 (fun gk v10 wr=>∃(j:Nat),v10=.int .i64 ((1+j:Nat):Int)∧gk=3-j∧j≤3∧1+j≤s.size∧wr=W∧Hid (dI 8 3 ((aI s).drop 1)=j+dI 8 (3-j) ((aI s).drop (1+j))))
 case atStart=>exact ⟨0,rfl,rfl,by omega,by omega,rfl,by show _=_;simp⟩
 case round =>
  obtain ⟨j,rfl,aW,hj,hjs,rfl,Hd⟩:=hrel
  obtain ⟨p,hp⟩:∃p,p=1+j:=⟨_,rfl⟩
  rw[←hp] at Hd ⊢
  have oX:p≤s.size:=by omega
  have hpf:1≤p:=by omega
  have Hp:=al hp
  have bz:=al aW
  have p0:(0:Int)≤(p:Int):=zH _
  clear aW
  by_cases aM:p<s.size
  ·obtain ⟨x,hx,c8,gx⟩:=cj s p aM
   have fk:(aI s).drop p=x::(aI s).drop (p+1):=by
    obtain ⟨hl,mc⟩:=zB hx
    rw[List.drop_eq_getElem_cons hl,mc]
   have lW:=al fk
   have p1:(p:Int)<(s.size:Int):=by omega
   clear fk hx
   by_cases fV:j<3
   ·have p2:(p:Int)<(4:Int):=by omega
    clear hp hjs
    by_cases hq:(4:Int)<(s.size:Int)
    ·have NZ:min (s.size:Int) 4=4:=by omega
     have d1:decide ((p:Int)<(4:Int))=true:=by simp;omega
     have ed:=al fV
     clear fV hq
     go_wp2_with fail
     refine (AG _ x c8).mono ?_
     rintro e w' ⟨d,rfl,he,hd⟩
     obtain rfl:wr=w':=he.symm
     cases d with
     |true =>
      have fV:=ab ed
      have hy:nC 8 x≠none:=hd.1 rfl
      have kt:dI 8 3 ((aI s).drop 1)=(j+1)+dI 8 (3-(j+1)) ((aI s).drop (p+1)):=by
       rw[ab Hd,ab lW,show 3-j=(3-(j+1))+1 by omega,pn hy];omega
      have cG:=al kt
      clear kt hy hd Hd lW fV
      go_wp2
      go_roundg (3-(j+1))
      case measure=>have:=ab bz;have:=ab ed;omega
      case rel =>
       have fV:=ab ed
       refine ⟨j+1,?_,rfl,by omega,by have:=ab Hp;omega,rfl,?_⟩
       ·have e:=ab Hp;subst e;go_num
       ·have:=ab cG;rw[ab Hp] at this;exact this
     |false =>
      have eJ:dI 8 3 ((aI s).drop 1)=j:=by
       rw[ab Hd,ab lW,po (fun q=>by simpa using hd.2 q)];rfl
      clear hd lW gx
      have dN:Hid (∀u,0<(s.extract 1 p).size→bV 8 255 (aI (s.extract 1 p)) 0=some u→fin (cE 8 3 ((aI s).drop 1) 0 0) 1=some (u,p)∧u≤255):=fun u h1 h2=>by
       rw[bw] at h2
       have e:=extract_size s 1 p oX;have hp:=ab Hp
       have q:=iK (f:=1) (B:=8) (by decide) (m:=3) (l:=(aI s).drop 1) (u:=u) (by omega) (by rw[eJ,show j=p-1 by omega];exact h2)
       rw[eJ,←hp] at q
       exact q
      have fZ:Hid ((s.extract 1 p).size=0∨bV 8 255 (aI (s.extract 1 p)) 0=none→fin (cE 8 3 ((aI s).drop 1) 0 0) 1=none):=fun h1=>by
       rw[bw] at h1
       have e:=extract_size s 1 p oX;have hp:=ab Hp
       refine kv (by decide) ?_
       rcases h1 with h1|h1
       ·left;omega
       ·right;rw[eJ,show j=p-1 by omega];exact h1
      have Cw:=extract_size s 1 p oX
      have f1:(1:Int)≤(p:Int):=by omega
      have f2:(p:Int)≤(s.size:Int):=by omega
      clear eJ Hd
      go_wp2_with fail
      refine ((z' hE _ (by omega)).2).mono ?_
      rintro e w1 ⟨aX,⟨u,rfl,hz,hu⟩|⟨u,q,rfl,hu⟩⟩
      ·obtain ⟨hw,hle⟩:=ab dN u hz hu
       have Hw:=al hw
       have Hb:=al aX
       clear hw hu hz aX dN fZ
       go_wp2
       go_ret2
       have e1:IntKind.u8.wrap (u:Int)=(u:Int):=by simp[IntKind.wrap,IntKind.bits,IntKind.signed];omega
       first
        |exact bI (ab Hb) (ab Hw)
        |(rw[e1];exact bI (ab Hb) (ab Hw))
      ·have hw:=ab fZ hu
       have Hw:=al hw
       have Hb:=al aX
       clear hw hu aX dN fZ
       go_wp2
       go_ret2
       exact dJ (ab Hb) (ab Hw)
    ·have NZ:min (s.size:Int) 4=(s.size:Int):=by omega
     have d1:decide ((p:Int)<(s.size:Int))=true:=by simp;omega
     have ed:=al fV
     clear fV hq
     go_wp2_with fail
     refine (AG _ x c8).mono ?_
     rintro e w' ⟨d,rfl,he,hd⟩
     obtain rfl:wr=w':=he.symm
     cases d with
     |true =>
      have fV:=ab ed
      have hy:nC 8 x≠none:=hd.1 rfl
      have kt:dI 8 3 ((aI s).drop 1)=(j+1)+dI 8 (3-(j+1)) ((aI s).drop (p+1)):=by
       rw[ab Hd,ab lW,show 3-j=(3-(j+1))+1 by omega,pn hy];omega
      have cG:=al kt
      clear kt hy hd Hd lW fV
      go_wp2
      go_roundg (3-(j+1))
      case measure=>have:=ab bz;have:=ab ed;omega
      case rel =>
       have fV:=ab ed
       refine ⟨j+1,?_,rfl,by omega,by have:=ab Hp;omega,rfl,?_⟩
       ·have e:=ab Hp;subst e;go_num
       ·have:=ab cG;rw[ab Hp] at this;exact this
     |false =>
      have eJ:dI 8 3 ((aI s).drop 1)=j:=by
       rw[ab Hd,ab lW,po (fun q=>by simpa using hd.2 q)];rfl
      clear hd lW gx
      have dN:Hid (∀u,0<(s.extract 1 p).size→bV 8 255 (aI (s.extract 1 p)) 0=some u→fin (cE 8 3 ((aI s).drop 1) 0 0) 1=some (u,p)∧u≤255):=fun u h1 h2=>by
       rw[bw] at h2
       have e:=extract_size s 1 p oX;have hp:=ab Hp
       have q:=iK (f:=1) (B:=8) (by decide) (m:=3) (l:=(aI s).drop 1) (u:=u) (by omega) (by rw[eJ,show j=p-1 by omega];exact h2)
       rw[eJ,←hp] at q
       exact q
      have fZ:Hid ((s.extract 1 p).size=0∨bV 8 255 (aI (s.extract 1 p)) 0=none→fin (cE 8 3 ((aI s).drop 1) 0 0) 1=none):=fun h1=>by
       rw[bw] at h1
       have e:=extract_size s 1 p oX;have hp:=ab Hp
       refine kv (by decide) ?_
       rcases h1 with h1|h1
       ·left;omega
       ·right;rw[eJ,show j=p-1 by omega];exact h1
      have Cw:=extract_size s 1 p oX
      have f1:(1:Int)≤(p:Int):=by omega
      have f2:(p:Int)≤(s.size:Int):=by omega
      clear eJ Hd
      go_wp2_with fail
      refine ((z' hE _ (by omega)).2).mono ?_
      rintro e w1 ⟨aX,⟨u,rfl,hz,hu⟩|⟨u,q,rfl,hu⟩⟩
      ·obtain ⟨hw,hle⟩:=ab dN u hz hu
       have Hw:=al hw
       have Hb:=al aX
       clear hw hu hz aX dN fZ
       go_wp2
       go_ret2
       have e1:IntKind.u8.wrap (u:Int)=(u:Int):=by simp[IntKind.wrap,IntKind.bits,IntKind.signed];omega
       first
        |exact bI (ab Hb) (ab Hw)
        |(rw[e1];exact bI (ab Hb) (ab Hw))
      ·have hw:=ab fZ hu
       have Hw:=al hw
       have Hb:=al aX
       clear hw hu aX dN fZ
       go_wp2
       go_ret2
       exact dJ (ab Hb) (ab Hw)
   ·have eJ:dI 8 3 ((aI s).drop 1)=j:=by
     rw[ab Hd,sW (.inr (by omega))];rfl
    have NZ:min (s.size:Int) 4=4:=by omega
    have d1:decide ((p:Int)<(4:Int))=false:=by simp;omega
    clear hp hjs fV
    clear lW gx
    have dN:Hid (∀u,0<(s.extract 1 p).size→bV 8 255 (aI (s.extract 1 p)) 0=some u→fin (cE 8 3 ((aI s).drop 1) 0 0) 1=some (u,p)∧u≤255):=fun u h1 h2=>by
     rw[bw] at h2
     have e:=extract_size s 1 p oX;have hp:=ab Hp
     have q:=iK (f:=1) (B:=8) (by decide) (m:=3) (l:=(aI s).drop 1) (u:=u) (by omega) (by rw[eJ,show j=p-1 by omega];exact h2)
     rw[eJ,←hp] at q
     exact q
    have fZ:Hid ((s.extract 1 p).size=0∨bV 8 255 (aI (s.extract 1 p)) 0=none→fin (cE 8 3 ((aI s).drop 1) 0 0) 1=none):=fun h1=>by
     rw[bw] at h1
     have e:=extract_size s 1 p oX;have hp:=ab Hp
     refine kv (by decide) ?_
     rcases h1 with h1|h1
     ·left;omega
     ·right;rw[eJ,show j=p-1 by omega];exact h1
    have Cw:=extract_size s 1 p oX
    have f1:(1:Int)≤(p:Int):=by omega
    have f2:(p:Int)≤(s.size:Int):=by omega
    clear eJ Hd
    go_wp2_with fail
    refine ((z' hE _ (by omega)).2).mono ?_
    rintro e w1 ⟨aX,⟨u,rfl,hz,hu⟩|⟨u,q,rfl,hu⟩⟩
    ·obtain ⟨hw,hle⟩:=ab dN u hz hu
     have Hw:=al hw
     have Hb:=al aX
     clear hw hu hz aX dN fZ
     go_wp2
     go_ret2
     have e1:IntKind.u8.wrap (u:Int)=(u:Int):=by simp[IntKind.wrap,IntKind.bits,IntKind.signed];omega
     first
      |exact bI (ab Hb) (ab Hw)
      |(rw[e1];exact bI (ab Hb) (ab Hw))
    ·have hw:=ab fZ hu
     have Hw:=al hw
     have Hb:=al aX
     clear hw hu aX dN fZ
     go_wp2
     go_ret2
     exact dJ (ab Hb) (ab Hw)
  ·have eJ:dI 8 3 ((aI s).drop 1)=j:=by
    rw[ab Hd,sW (.inl (List.drop_eq_nil_of_le (by rw[aZ];omega)))];rfl
   have NZ:min (s.size:Int) 4=(s.size:Int):=by omega
   have d1:decide ((p:Int)<(s.size:Int))=false:=by simp;omega
   clear hp hjs
   have dN:Hid (∀u,0<(s.extract 1 p).size→bV 8 255 (aI (s.extract 1 p)) 0=some u→fin (cE 8 3 ((aI s).drop 1) 0 0) 1=some (u,p)∧u≤255):=fun u h1 h2=>by
    rw[bw] at h2
    have e:=extract_size s 1 p oX;have hp:=ab Hp
    have q:=iK (f:=1) (B:=8) (by decide) (m:=3) (l:=(aI s).drop 1) (u:=u) (by omega) (by rw[eJ,show j=p-1 by omega];exact h2)
    rw[eJ,←hp] at q
    exact q
   have fZ:Hid ((s.extract 1 p).size=0∨bV 8 255 (aI (s.extract 1 p)) 0=none→fin (cE 8 3 ((aI s).drop 1) 0 0) 1=none):=fun h1=>by
    rw[bw] at h1
    have e:=extract_size s 1 p oX;have hp:=ab Hp
    refine kv (by decide) ?_
    rcases h1 with h1|h1
    ·left;omega
    ·right;rw[eJ,show j=p-1 by omega];exact h1
   have Cw:=extract_size s 1 p oX
   have f1:(1:Int)≤(p:Int):=by omega
   have f2:(p:Int)≤(s.size:Int):=by omega
   clear eJ Hd
   go_wp2_with fail
   refine ((z' hE _ (by omega)).2).mono ?_
   rintro e w1 ⟨aX,⟨u,rfl,hz,hu⟩|⟨u,q,rfl,hu⟩⟩
   ·obtain ⟨hw,hle⟩:=ab dN u hz hu
    have Hw:=al hw
    have Hb:=al aX
    clear hw hu hz aX dN fZ
    go_wp2
    go_ret2
    have e1:IntKind.u8.wrap (u:Int)=(u:Int):=by simp[IntKind.wrap,IntKind.bits,IntKind.signed];omega
    first
     |exact bI (ab Hb) (ab Hw)
     |(rw[e1];exact bI (ab Hb) (ab Hw))
   ·have hw:=ab fZ hu
    have Hw:=al hw
    have Hb:=al aX
    clear hw hu aX dN fZ
    go_wp2
    go_ret2
    exact dJ (ab Hb) (ab Hw)
end Go.Proofs.YtichhjfjcinjgaaGreatDoor
