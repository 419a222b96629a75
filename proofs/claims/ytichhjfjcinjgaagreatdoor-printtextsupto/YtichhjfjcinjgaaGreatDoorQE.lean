import Derived.Test.YtichhjfjcinjgaaGreatDoorM09
set_option maxHeartbeats 2000000
set_option maxRecDepth 100000
namespace Go.Proofs.YtichhjfjcinjgaaGreatDoor
open Go.RowKit
attribute [local go_sem ↓] Go.wp_at_zero Go.wp_at_succ
theorem M6 {x:Nat}:mV 8 x≠none↔48≤x∧x≤55:=by
 unfold mV x8
 by_cases h1:48≤x∧x≤57
 ·rw[if_pos h1]
  show (if x-48<8 then some (x-48) else none)≠none↔_
  split
  ·simp;omega
  ·simp;omega
 ·rw[if_neg h1]
  by_cases h2:65≤x∧x≤90
  ·rw[if_pos h2]
   show (if x-55<8 then some (x-55) else none)≠none↔_
   rw[if_neg (by omega)]
   simp;omega
  ·rw[if_neg h2]
   by_cases h3:97≤x∧x≤122
   ·rw[if_pos h3]
    show (if x-87<8 then some (x-87) else none)≠none↔_
    rw[if_neg (by omega)]
    simp;omega
   ·rw[if_neg h3]
    simp;omega
theorem QN {x:Nat}:mV 16 x≠none↔(48≤x∧x≤57)∨(97≤x∧x≤102)∨(65≤x∧x≤70):=by
 unfold mV x8
 by_cases h1:48≤x∧x≤57
 ·rw[if_pos h1]
  show (if x-48<16 then some (x-48) else none)≠none↔_
  rw[if_pos (by omega)]
  simp;omega
 ·rw[if_neg h1]
  by_cases h2:65≤x∧x≤90
  ·rw[if_pos h2]
   show (if x-55<16 then some (x-55) else none)≠none↔_
   split
   ·simp;omega
   ·simp;omega
  ·rw[if_neg h2]
   by_cases h3:97≤x∧x≤122
   ·rw[if_pos h3]
    show (if x-87<16 then some (x-87) else none)≠none↔_
    split
    ·simp;omega
    ·simp;omega
   ·rw[if_neg h3]
    simp;omega
def DG (W:World) (p:Prop) (e:Ending) (w:World):Prop:=∃b:Bool,e=.returned (.bool b)∧w=W∧(b=true↔p)
theorem F' {W:World}{p:Prop} (b:Bool) (h:b=true↔p):DG W p (.returned (.bool b)) W:=⟨b,rfl,rfl,h⟩
theorem zX (W:World) (x:Nat) (hx:x<256):Calls Tryz.prog 217 #[.int .u8 (x:Int),.int .i64 8] W (DG W (mV 8 x≠none)):=by
 rw[M6]
 go_enter Tryz.func217,Tryz.ntmps217
 go_wp2
 all_goals (go_ret;refine F' _ ?_;simp;omega)
theorem wj (W:World) (x:Nat) (hx:x<256):Calls Tryz.prog 217 #[.int .u8 (x:Int),.int .i64 16] W (DG W (mV 16 x≠none)):=by
 rw[QN]
 go_enter Tryz.func217,Tryz.ntmps217
 go_wp2
 all_goals (go_ret;refine F' _ ?_;simp;omega)
theorem yV {W:World} (h:jW W) (s:ByteArray) (hs:s.size≤65536) :
  Calls Tryz.prog 179 #[.string s,.int .i64 16,.int .i64 8] W (PQ W 16 255 s) ∧
  Calls Tryz.prog 179 #[.string s,.int .i64 8,.int .i64 8] W (PQ W 8 255 s):=by
 exact ⟨jD h s hs _ _ _ _ (tG (Or.inr (Or.inr (Or.inr (Or.inl ⟨rfl,rfl,rfl,rfl,rfl,rfl⟩)))) W s hs),jD h s hs _ _ _ _ (tG (Or.inr (Or.inr (Or.inr (Or.inr ⟨rfl,rfl,rfl,rfl,rfl,rfl⟩)))) W s hs)⟩
def VN (W:World) (o:Option (Nat×Nat)) (e:Ending) (w:World):Prop:=Below W.heap.size W w∧((o=none∧e=.returned (.tuple #[.int .u8 0,.int .i64 0]))∨∃v n:Nat,o=some (v,n)∧e=.returned (.tuple #[.int .u8 (v:Int),.int .i64 (n:Int)]))
theorem dF {W w:World}{o:Option (Nat×Nat)} (hb:Below W.heap.size W w) (h:o=none):VN W o (.returned (.tuple #[.int .u8 0,.int .i64 0])) w:=⟨hb,.inl ⟨h,rfl⟩⟩
theorem bG {W w:World}{o:Option (Nat×Nat)}{v n:Nat} (hb:Below W.heap.size W w) (h:o=some (v,n)):VN W o (.returned (.tuple #[.int .u8 (v:Int),.int .i64 (n:Int)])) w:=⟨hb,.inr ⟨v,n,h,rfl⟩⟩
theorem sx {B f:Nat}{l:List Nat} (h:l=[]∨f=0):dE B f l=0:=by
 rcases h with rfl|rfl
 ·cases f<;>rfl
 ·cases l<;>rfl
theorem oR {B f x:Nat}{r:List Nat} (h:¬mV B x≠none):dE B f (x::r)=0:=by
 have h':mV B x=none:=Classical.not_not.1 h
 cases f with
 |zero=>rfl
 |succ f=>simp[dE,h']
theorem oQ {B f x:Nat}{r:List Nat} (h:mV B x≠none):dE B (f+1) (x::r)=dE B f r+1:=by
 obtain ⟨d,hd⟩:=Option.ne_none_iff_exists'.1 h
 simp[dE,hd]
theorem iw {B m f u:Nat}{l:List Nat} (hB:1≤B) (h0:0<dE B m l) (h:bS B 255 (l.take (dE B m l)) 0=some u):fin (cA B m l 0 0) f=some (u,f+dE B m l)∧u≤255:=by
 have h1:=pJ hB m l 0 0 (by omega)
 have h2:=mb (B:=B) m l 0 0
 rw[h] at h1
 unfold fin
 split at h1
 ·rename_i hle
  have h3:=zC h1
  rw[if_neg (by omega),←h3,h2,Nat.zero_add]
  exact ⟨rfl,by omega⟩
 ·cases h1
theorem j7 {B m f:Nat}{l:List Nat} (hB:1≤B) (h:dE B m l=0∨bS B 255 (l.take (dE B m l)) 0=none):fin (cA B m l 0 0) f=none:=by
 have h1:=pJ hB m l 0 0 (by omega)
 have h2:=mb (B:=B) m l 0 0
 unfold fin
 rw[if_pos]
 rcases h with h|h
 ·left;omega
 ·right
  rw[h] at h1
  split at h1
  ·cases h1
  ·omega
theorem uG {W:World} (hE:jW W) (s:ByteArray) (hs:s.size≤65536) (Ry:2≤s.size) :
  Calls Tryz.prog 209 #[.string s,.int .i64 2,.int .i64 2,.int .i64 16] W (VN W (fin (cA 16 2 ((aI s).drop 2) 0 0) 2)):=by
 go_enter Tryz.func209,Tryz.ntmps209
 go_wp2
 go_loopg [10] 2 (fun gk v10 wr=>∃(j:Nat),v10=.int .i64 ((2+j:Nat):Int)∧gk=2-j∧j≤2∧2+j≤s.size∧wr=W∧Hid (dE 16 2 ((aI s).drop 2)=j+dE 16 (2-j) ((aI s).drop (2+j))))
 case atStart=>exact ⟨0,rfl,rfl,by omega,by omega,rfl,by show _=_;simp⟩
 case round =>
  obtain ⟨j,rfl,aU,hj,hjs,rfl,Hd⟩:=hrel
  obtain ⟨p,hp⟩:∃p,p=2+j:=⟨_,rfl⟩
  rw[←hp] at Hd ⊢
  have oC:p≤s.size:=by omega
  have hpf:2≤p:=by omega
  have Hp:=al hp
  have bz:=al aU
  have p0:(0:Int)≤(p:Int):=zH _
  clear aU
  by_cases aM:p<s.size
  ·obtain ⟨x,hx,cY,gx⟩:=cc s p aM
   have eZ:(aI s).drop p=x::(aI s).drop (p+1):=by
    obtain ⟨hl,lN⟩:=zB hx
    rw[List.drop_eq_getElem_cons hl,lN]
   have lD:=al eZ
   have p1:(p:Int)<(s.size:Int):=by omega
   clear eZ hx
   by_cases fM:j<2
   ·have p2:(p:Int)<(4:Int):=by omega
    clear hp hjs
    by_cases hq:(4:Int)<(s.size:Int)
    ·have Np:min (s.size:Int) 4=4:=by omega
     have d1:decide ((p:Int)<(4:Int))=true:=by simp;omega
     have dV:=al fM
     clear fM hq
     go_wp2_with fail
     refine (wj _ x cY).mono ?_
     rintro e w' ⟨d,rfl,he,hd⟩
     obtain rfl:wr=w':=he.symm
     cases d with
     |true =>
      have fM:=ab dV
      have hy:mV 16 x≠none:=hd.1 rfl
      have j5:dE 16 2 ((aI s).drop 2)=(j+1)+dE 16 (2-(j+1)) ((aI s).drop (p+1)):=by
       rw[ab Hd,ab lD,show 2-j=(2-(j+1))+1 by omega,oQ hy];omega
      have cD:=al j5
      clear j5 hy hd Hd lD fM
      go_wp2
      go_roundg (2-(j+1))
      case measure=>have:=ab bz;have:=ab dV;omega
      case rel =>
       have fM:=ab dV
       refine ⟨j+1,?_,rfl,by omega,by have:=ab Hp;omega,rfl,?_⟩
       ·have e:=ab Hp;subst e;go_num
       ·have:=ab cD;rw[ab Hp] at this;exact this
     |false =>
      have eD:dE 16 2 ((aI s).drop 2)=j:=by
       rw[ab Hd,ab lD,oR (fun q=>by simpa using hd.2 q)];rfl
      clear hd lD gx
      have dJ:Hid (∀u,0<(s.extract 2 p).size→bS 16 255 (aI (s.extract 2 p)) 0=some u→fin (cA 16 2 ((aI s).drop 2) 0 0) 2=some (u,p)∧u≤255):=fun u h1 h2=>by
       rw[bw] at h2
       have e:=extract_size s 2 p oC;have hp:=ab Hp
       have q:=iw (f:=2) (B:=16) (by decide) (m:=2) (l:=(aI s).drop 2) (u:=u) (by omega) (by rw[eD,show j=p-2 by omega];exact h2)
       rw[eD,←hp] at q
       exact q
      have fQ:Hid ((s.extract 2 p).size=0∨bS 16 255 (aI (s.extract 2 p)) 0=none→fin (cA 16 2 ((aI s).drop 2) 0 0) 2=none):=fun h1=>by
       rw[bw] at h1
       have e:=extract_size s 2 p oC;have hp:=ab Hp
       refine j7 (by decide) ?_
       rcases h1 with h1|h1
       ·left;omega
       ·right;rw[eD,show j=p-2 by omega];exact h1
      have BZ:=extract_size s 2 p oC
      have f1:(2:Int)≤(p:Int):=by omega
      have f2:(p:Int)≤(s.size:Int):=by omega
      clear eD Hd
      go_wp2_with fail
      refine ((yV hE _ (by omega)).1).mono ?_
      rintro e w1 ⟨aY,⟨u,rfl,hz,hu⟩|⟨u,q,rfl,hu⟩⟩
      ·obtain ⟨hw,hle⟩:=ab dJ u hz hu
       have Hw:=al hw
       have Hb:=al aY
       clear hw hu hz aY dJ fQ
       go_wp2
       go_ret2
       have e1:IntKind.u8.wrap (u:Int)=(u:Int):=by simp[IntKind.wrap,IntKind.bits,IntKind.signed];omega
       first
        |exact bG (ab Hb) (ab Hw)
        |(rw[e1];exact bG (ab Hb) (ab Hw))
      ·have hw:=ab fQ hu
       have Hw:=al hw
       have Hb:=al aY
       clear hw hu aY dJ fQ
       go_wp2
       go_ret2
       exact dF (ab Hb) (ab Hw)
    ·have Np:min (s.size:Int) 4=(s.size:Int):=by omega
     have d1:decide ((p:Int)<(s.size:Int))=true:=by simp;omega
     have dV:=al fM
     clear fM hq
     go_wp2_with fail
     refine (wj _ x cY).mono ?_
     rintro e w' ⟨d,rfl,he,hd⟩
     obtain rfl:wr=w':=he.symm
     cases d with
     |true =>
      have fM:=ab dV
      have hy:mV 16 x≠none:=hd.1 rfl
      have j5:dE 16 2 ((aI s).drop 2)=(j+1)+dE 16 (2-(j+1)) ((aI s).drop (p+1)):=by
       rw[ab Hd,ab lD,show 2-j=(2-(j+1))+1 by omega,oQ hy];omega
      have cD:=al j5
      clear j5 hy hd Hd lD fM
      go_wp2
      go_roundg (2-(j+1))
      case measure=>have:=ab bz;have:=ab dV;omega
      case rel =>
       have fM:=ab dV
       refine ⟨j+1,?_,rfl,by omega,by have:=ab Hp;omega,rfl,?_⟩
       ·have e:=ab Hp;subst e;go_num
       ·have:=ab cD;rw[ab Hp] at this;exact this
     |false =>
      have eD:dE 16 2 ((aI s).drop 2)=j:=by
       rw[ab Hd,ab lD,oR (fun q=>by simpa using hd.2 q)];rfl
      clear hd lD gx
      have dJ:Hid (∀u,0<(s.extract 2 p).size→bS 16 255 (aI (s.extract 2 p)) 0=some u→fin (cA 16 2 ((aI s).drop 2) 0 0) 2=some (u,p)∧u≤255):=fun u h1 h2=>by
       rw[bw] at h2
       have e:=extract_size s 2 p oC;have hp:=ab Hp
       have q:=iw (f:=2) (B:=16) (by decide) (m:=2) (l:=(aI s).drop 2) (u:=u) (by omega) (by rw[eD,show j=p-2 by omega];exact h2)
       rw[eD,←hp] at q
       exact q
      have fQ:Hid ((s.extract 2 p).size=0∨bS 16 255 (aI (s.extract 2 p)) 0=none→fin (cA 16 2 ((aI s).drop 2) 0 0) 2=none):=fun h1=>by
       rw[bw] at h1
       have e:=extract_size s 2 p oC;have hp:=ab Hp
       refine j7 (by decide) ?_
       rcases h1 with h1|h1
       ·left;omega
       ·right;rw[eD,show j=p-2 by omega];exact h1
      have BZ:=extract_size s 2 p oC
      have f1:(2:Int)≤(p:Int):=by omega
      have f2:(p:Int)≤(s.size:Int):=by omega
      clear eD Hd
      go_wp2_with fail
      refine ((yV hE _ (by omega)).1).mono ?_
      rintro e w1 ⟨aY,⟨u,rfl,hz,hu⟩|⟨u,q,rfl,hu⟩⟩
      ·obtain ⟨hw,hle⟩:=ab dJ u hz hu
       have Hw:=al hw
       have Hb:=al aY
       clear hw hu hz aY dJ fQ
       go_wp2
       go_ret2
       have e1:IntKind.u8.wrap (u:Int)=(u:Int):=by simp[IntKind.wrap,IntKind.bits,IntKind.signed];omega
       first
        |exact bG (ab Hb) (ab Hw)
        |(rw[e1];exact bG (ab Hb) (ab Hw))
      ·have hw:=ab fQ hu
       have Hw:=al hw
       have Hb:=al aY
       clear hw hu aY dJ fQ
       go_wp2
       go_ret2
       exact dF (ab Hb) (ab Hw)
   ·have eD:dE 16 2 ((aI s).drop 2)=j:=by
     rw[ab Hd,sx (.inr (by omega))];rfl
    have Np:min (s.size:Int) 4=4:=by omega
    have d1:decide ((p:Int)<(4:Int))=false:=by simp;omega
    clear hp hjs fM
    clear lD gx
    have dJ:Hid (∀u,0<(s.extract 2 p).size→bS 16 255 (aI (s.extract 2 p)) 0=some u→fin (cA 16 2 ((aI s).drop 2) 0 0) 2=some (u,p)∧u≤255):=fun u h1 h2=>by
     rw[bw] at h2
     have e:=extract_size s 2 p oC;have hp:=ab Hp
     have q:=iw (f:=2) (B:=16) (by decide) (m:=2) (l:=(aI s).drop 2) (u:=u) (by omega) (by rw[eD,show j=p-2 by omega];exact h2)
     rw[eD,←hp] at q
     exact q
    have fQ:Hid ((s.extract 2 p).size=0∨bS 16 255 (aI (s.extract 2 p)) 0=none→fin (cA 16 2 ((aI s).drop 2) 0 0) 2=none):=fun h1=>by
     rw[bw] at h1
     have e:=extract_size s 2 p oC;have hp:=ab Hp
     refine j7 (by decide) ?_
     rcases h1 with h1|h1
     ·left;omega
     ·right;rw[eD,show j=p-2 by omega];exact h1
    have BZ:=extract_size s 2 p oC
    have f1:(2:Int)≤(p:Int):=by omega
    have f2:(p:Int)≤(s.size:Int):=by omega
    clear eD Hd
    go_wp2_with fail
    refine ((yV hE _ (by omega)).1).mono ?_
    rintro e w1 ⟨aY,⟨u,rfl,hz,hu⟩|⟨u,q,rfl,hu⟩⟩
    ·obtain ⟨hw,hle⟩:=ab dJ u hz hu
     have Hw:=al hw
     have Hb:=al aY
     clear hw hu hz aY dJ fQ
     go_wp2
     go_ret2
     have e1:IntKind.u8.wrap (u:Int)=(u:Int):=by simp[IntKind.wrap,IntKind.bits,IntKind.signed];omega
     first
      |exact bG (ab Hb) (ab Hw)
      |(rw[e1];exact bG (ab Hb) (ab Hw))
    ·have hw:=ab fQ hu
     have Hw:=al hw
     have Hb:=al aY
     clear hw hu aY dJ fQ
     go_wp2
     go_ret2
     exact dF (ab Hb) (ab Hw)
  ·have eD:dE 16 2 ((aI s).drop 2)=j:=by
    rw[ab Hd,sx (.inl (List.drop_eq_nil_of_le (by rw[aX];omega)))];rfl
   have Np:min (s.size:Int) 4=(s.size:Int):=by omega
   have d1:decide ((p:Int)<(s.size:Int))=false:=by simp;omega
   clear hp hjs
   have dJ:Hid (∀u,0<(s.extract 2 p).size→bS 16 255 (aI (s.extract 2 p)) 0=some u→fin (cA 16 2 ((aI s).drop 2) 0 0) 2=some (u,p)∧u≤255):=fun u h1 h2=>by
    rw[bw] at h2
    have e:=extract_size s 2 p oC;have hp:=ab Hp
    have q:=iw (f:=2) (B:=16) (by decide) (m:=2) (l:=(aI s).drop 2) (u:=u) (by omega) (by rw[eD,show j=p-2 by omega];exact h2)
    rw[eD,←hp] at q
    exact q
   have fQ:Hid ((s.extract 2 p).size=0∨bS 16 255 (aI (s.extract 2 p)) 0=none→fin (cA 16 2 ((aI s).drop 2) 0 0) 2=none):=fun h1=>by
    rw[bw] at h1
    have e:=extract_size s 2 p oC;have hp:=ab Hp
    refine j7 (by decide) ?_
    rcases h1 with h1|h1
    ·left;omega
    ·right;rw[eD,show j=p-2 by omega];exact h1
   have BZ:=extract_size s 2 p oC
   have f1:(2:Int)≤(p:Int):=by omega
   have f2:(p:Int)≤(s.size:Int):=by omega
   clear eD Hd
   go_wp2_with fail
   refine ((yV hE _ (by omega)).1).mono ?_
   rintro e w1 ⟨aY,⟨u,rfl,hz,hu⟩|⟨u,q,rfl,hu⟩⟩
   ·obtain ⟨hw,hle⟩:=ab dJ u hz hu
    have Hw:=al hw
    have Hb:=al aY
    clear hw hu hz aY dJ fQ
    go_wp2
    go_ret2
    have e1:IntKind.u8.wrap (u:Int)=(u:Int):=by simp[IntKind.wrap,IntKind.bits,IntKind.signed];omega
    first
     |exact bG (ab Hb) (ab Hw)
     |(rw[e1];exact bG (ab Hb) (ab Hw))
   ·have hw:=ab fQ hu
    have Hw:=al hw
    have Hb:=al aY
    clear hw hu aY dJ fQ
    go_wp2
    go_ret2
    exact dF (ab Hb) (ab Hw)
theorem Cx {W:World} (hE:jW W) (s:ByteArray) (hs:s.size≤65536) (Ry:1≤s.size) :
  Calls Tryz.prog 209 #[.string s,.int .i64 1,.int .i64 3,.int .i64 8] W (VN W (fin (cA 8 3 ((aI s).drop 1) 0 0) 1)):=by
 go_enter Tryz.func209,Tryz.ntmps209
 go_wp2
 go_loopg [10] 3 (fun gk v10 wr=>∃(j:Nat),v10=.int .i64 ((1+j:Nat):Int)∧gk=3-j∧j≤3∧1+j≤s.size∧wr=W∧Hid (dE 8 3 ((aI s).drop 1)=j+dE 8 (3-j) ((aI s).drop (1+j))))
 case atStart=>exact ⟨0,rfl,rfl,by omega,by omega,rfl,by show _=_;simp⟩
 case round =>
  obtain ⟨j,rfl,aU,hj,hjs,rfl,Hd⟩:=hrel
  obtain ⟨p,hp⟩:∃p,p=1+j:=⟨_,rfl⟩
  rw[←hp] at Hd ⊢
  have oC:p≤s.size:=by omega
  have hpf:1≤p:=by omega
  have Hp:=al hp
  have bz:=al aU
  have p0:(0:Int)≤(p:Int):=zH _
  clear aU
  by_cases aM:p<s.size
  ·obtain ⟨x,hx,cY,gx⟩:=cc s p aM
   have eZ:(aI s).drop p=x::(aI s).drop (p+1):=by
    obtain ⟨hl,lN⟩:=zB hx
    rw[List.drop_eq_getElem_cons hl,lN]
   have lD:=al eZ
   have p1:(p:Int)<(s.size:Int):=by omega
   clear eZ hx
   by_cases fM:j<3
   ·have p2:(p:Int)<(4:Int):=by omega
    clear hp hjs
    by_cases hq:(4:Int)<(s.size:Int)
    ·have Np:min (s.size:Int) 4=4:=by omega
     have d1:decide ((p:Int)<(4:Int))=true:=by simp;omega
     have dV:=al fM
     clear fM hq
     go_wp2_with fail
     refine (zX _ x cY).mono ?_
     rintro e w' ⟨d,rfl,he,hd⟩
     obtain rfl:wr=w':=he.symm
     cases d with
     |true =>
      have fM:=ab dV
      have hy:mV 8 x≠none:=hd.1 rfl
      have j5:dE 8 3 ((aI s).drop 1)=(j+1)+dE 8 (3-(j+1)) ((aI s).drop (p+1)):=by
       rw[ab Hd,ab lD,show 3-j=(3-(j+1))+1 by omega,oQ hy];omega
      have cD:=al j5
      clear j5 hy hd Hd lD fM
      go_wp2
      go_roundg (3-(j+1))
      case measure=>have:=ab bz;have:=ab dV;omega
      case rel =>
       have fM:=ab dV
       refine ⟨j+1,?_,rfl,by omega,by have:=ab Hp;omega,rfl,?_⟩
       ·have e:=ab Hp;subst e;go_num
       ·have:=ab cD;rw[ab Hp] at this;exact this
     |false =>
      have eD:dE 8 3 ((aI s).drop 1)=j:=by
       rw[ab Hd,ab lD,oR (fun q=>by simpa using hd.2 q)];rfl
      clear hd lD gx
      have dJ:Hid (∀u,0<(s.extract 1 p).size→bS 8 255 (aI (s.extract 1 p)) 0=some u→fin (cA 8 3 ((aI s).drop 1) 0 0) 1=some (u,p)∧u≤255):=fun u h1 h2=>by
       rw[bw] at h2
       have e:=extract_size s 1 p oC;have hp:=ab Hp
       have q:=iw (f:=1) (B:=8) (by decide) (m:=3) (l:=(aI s).drop 1) (u:=u) (by omega) (by rw[eD,show j=p-1 by omega];exact h2)
       rw[eD,←hp] at q
       exact q
      have fQ:Hid ((s.extract 1 p).size=0∨bS 8 255 (aI (s.extract 1 p)) 0=none→fin (cA 8 3 ((aI s).drop 1) 0 0) 1=none):=fun h1=>by
       rw[bw] at h1
       have e:=extract_size s 1 p oC;have hp:=ab Hp
       refine j7 (by decide) ?_
       rcases h1 with h1|h1
       ·left;omega
       ·right;rw[eD,show j=p-1 by omega];exact h1
      have BZ:=extract_size s 1 p oC
      have f1:(1:Int)≤(p:Int):=by omega
      have f2:(p:Int)≤(s.size:Int):=by omega
      clear eD Hd
      go_wp2_with fail
      refine ((yV hE _ (by omega)).2).mono ?_
      rintro e w1 ⟨aY,⟨u,rfl,hz,hu⟩|⟨u,q,rfl,hu⟩⟩
      ·obtain ⟨hw,hle⟩:=ab dJ u hz hu
       have Hw:=al hw
       have Hb:=al aY
       clear hw hu hz aY dJ fQ
       go_wp2
       go_ret2
       have e1:IntKind.u8.wrap (u:Int)=(u:Int):=by simp[IntKind.wrap,IntKind.bits,IntKind.signed];omega
       first
        |exact bG (ab Hb) (ab Hw)
        |(rw[e1];exact bG (ab Hb) (ab Hw))
      ·have hw:=ab fQ hu
       have Hw:=al hw
       have Hb:=al aY
       clear hw hu aY dJ fQ
       go_wp2
       go_ret2
       exact dF (ab Hb) (ab Hw)
    ·have Np:min (s.size:Int) 4=(s.size:Int):=by omega
     have d1:decide ((p:Int)<(s.size:Int))=true:=by simp;omega
     have dV:=al fM
     clear fM hq
     go_wp2_with fail
     refine (zX _ x cY).mono ?_
     rintro e w' ⟨d,rfl,he,hd⟩
     obtain rfl:wr=w':=he.symm
     cases d with
     |true =>
      have fM:=ab dV
      have hy:mV 8 x≠none:=hd.1 rfl
      have j5:dE 8 3 ((aI s).drop 1)=(j+1)+dE 8 (3-(j+1)) ((aI s).drop (p+1)):=by
       rw[ab Hd,ab lD,show 3-j=(3-(j+1))+1 by omega,oQ hy];omega
      have cD:=al j5
      clear j5 hy hd Hd lD fM
      go_wp2
      go_roundg (3-(j+1))
      case measure=>have:=ab bz;have:=ab dV;omega
      case rel =>
       have fM:=ab dV
       refine ⟨j+1,?_,rfl,by omega,by have:=ab Hp;omega,rfl,?_⟩
       ·have e:=ab Hp;subst e;go_num
       ·have:=ab cD;rw[ab Hp] at this;exact this
     |false =>
      have eD:dE 8 3 ((aI s).drop 1)=j:=by
       rw[ab Hd,ab lD,oR (fun q=>by simpa using hd.2 q)];rfl
      clear hd lD gx
      have dJ:Hid (∀u,0<(s.extract 1 p).size→bS 8 255 (aI (s.extract 1 p)) 0=some u→fin (cA 8 3 ((aI s).drop 1) 0 0) 1=some (u,p)∧u≤255):=fun u h1 h2=>by
       rw[bw] at h2
       have e:=extract_size s 1 p oC;have hp:=ab Hp
       have q:=iw (f:=1) (B:=8) (by decide) (m:=3) (l:=(aI s).drop 1) (u:=u) (by omega) (by rw[eD,show j=p-1 by omega];exact h2)
       rw[eD,←hp] at q
       exact q
      have fQ:Hid ((s.extract 1 p).size=0∨bS 8 255 (aI (s.extract 1 p)) 0=none→fin (cA 8 3 ((aI s).drop 1) 0 0) 1=none):=fun h1=>by
       rw[bw] at h1
       have e:=extract_size s 1 p oC;have hp:=ab Hp
       refine j7 (by decide) ?_
       rcases h1 with h1|h1
       ·left;omega
       ·right;rw[eD,show j=p-1 by omega];exact h1
      have BZ:=extract_size s 1 p oC
      have f1:(1:Int)≤(p:Int):=by omega
      have f2:(p:Int)≤(s.size:Int):=by omega
      clear eD Hd
      go_wp2_with fail
      refine ((yV hE _ (by omega)).2).mono ?_
      rintro e w1 ⟨aY,⟨u,rfl,hz,hu⟩|⟨u,q,rfl,hu⟩⟩
      ·obtain ⟨hw,hle⟩:=ab dJ u hz hu
       have Hw:=al hw
       have Hb:=al aY
       clear hw hu hz aY dJ fQ
       go_wp2
       go_ret2
       have e1:IntKind.u8.wrap (u:Int)=(u:Int):=by simp[IntKind.wrap,IntKind.bits,IntKind.signed];omega
       first
        |exact bG (ab Hb) (ab Hw)
        |(rw[e1];exact bG (ab Hb) (ab Hw))
      ·have hw:=ab fQ hu
       have Hw:=al hw
       have Hb:=al aY
       clear hw hu aY dJ fQ
       go_wp2
       go_ret2
       exact dF (ab Hb) (ab Hw)
   ·have eD:dE 8 3 ((aI s).drop 1)=j:=by
     rw[ab Hd,sx (.inr (by omega))];rfl
    have Np:min (s.size:Int) 4=4:=by omega
    have d1:decide ((p:Int)<(4:Int))=false:=by simp;omega
    clear hp hjs fM
    clear lD gx
    have dJ:Hid (∀u,0<(s.extract 1 p).size→bS 8 255 (aI (s.extract 1 p)) 0=some u→fin (cA 8 3 ((aI s).drop 1) 0 0) 1=some (u,p)∧u≤255):=fun u h1 h2=>by
     rw[bw] at h2
     have e:=extract_size s 1 p oC;have hp:=ab Hp
     have q:=iw (f:=1) (B:=8) (by decide) (m:=3) (l:=(aI s).drop 1) (u:=u) (by omega) (by rw[eD,show j=p-1 by omega];exact h2)
     rw[eD,←hp] at q
     exact q
    have fQ:Hid ((s.extract 1 p).size=0∨bS 8 255 (aI (s.extract 1 p)) 0=none→fin (cA 8 3 ((aI s).drop 1) 0 0) 1=none):=fun h1=>by
     rw[bw] at h1
     have e:=extract_size s 1 p oC;have hp:=ab Hp
     refine j7 (by decide) ?_
     rcases h1 with h1|h1
     ·left;omega
     ·right;rw[eD,show j=p-1 by omega];exact h1
    have BZ:=extract_size s 1 p oC
    have f1:(1:Int)≤(p:Int):=by omega
    have f2:(p:Int)≤(s.size:Int):=by omega
    clear eD Hd
    go_wp2_with fail
    refine ((yV hE _ (by omega)).2).mono ?_
    rintro e w1 ⟨aY,⟨u,rfl,hz,hu⟩|⟨u,q,rfl,hu⟩⟩
    ·obtain ⟨hw,hle⟩:=ab dJ u hz hu
     have Hw:=al hw
     have Hb:=al aY
     clear hw hu hz aY dJ fQ
     go_wp2
     go_ret2
     have e1:IntKind.u8.wrap (u:Int)=(u:Int):=by simp[IntKind.wrap,IntKind.bits,IntKind.signed];omega
     first
      |exact bG (ab Hb) (ab Hw)
      |(rw[e1];exact bG (ab Hb) (ab Hw))
    ·have hw:=ab fQ hu
     have Hw:=al hw
     have Hb:=al aY
     clear hw hu aY dJ fQ
     go_wp2
     go_ret2
     exact dF (ab Hb) (ab Hw)
  ·have eD:dE 8 3 ((aI s).drop 1)=j:=by
    rw[ab Hd,sx (.inl (List.drop_eq_nil_of_le (by rw[aX];omega)))];rfl
   have Np:min (s.size:Int) 4=(s.size:Int):=by omega
   have d1:decide ((p:Int)<(s.size:Int))=false:=by simp;omega
   clear hp hjs
   have dJ:Hid (∀u,0<(s.extract 1 p).size→bS 8 255 (aI (s.extract 1 p)) 0=some u→fin (cA 8 3 ((aI s).drop 1) 0 0) 1=some (u,p)∧u≤255):=fun u h1 h2=>by
    rw[bw] at h2
    have e:=extract_size s 1 p oC;have hp:=ab Hp
    have q:=iw (f:=1) (B:=8) (by decide) (m:=3) (l:=(aI s).drop 1) (u:=u) (by omega) (by rw[eD,show j=p-1 by omega];exact h2)
    rw[eD,←hp] at q
    exact q
   have fQ:Hid ((s.extract 1 p).size=0∨bS 8 255 (aI (s.extract 1 p)) 0=none→fin (cA 8 3 ((aI s).drop 1) 0 0) 1=none):=fun h1=>by
    rw[bw] at h1
    have e:=extract_size s 1 p oC;have hp:=ab Hp
    refine j7 (by decide) ?_
    rcases h1 with h1|h1
    ·left;omega
    ·right;rw[eD,show j=p-1 by omega];exact h1
   have BZ:=extract_size s 1 p oC
   have f1:(1:Int)≤(p:Int):=by omega
   have f2:(p:Int)≤(s.size:Int):=by omega
   clear eD Hd
   go_wp2_with fail
   refine ((yV hE _ (by omega)).2).mono ?_
   rintro e w1 ⟨aY,⟨u,rfl,hz,hu⟩|⟨u,q,rfl,hu⟩⟩
   ·obtain ⟨hw,hle⟩:=ab dJ u hz hu
    have Hw:=al hw
    have Hb:=al aY
    clear hw hu hz aY dJ fQ
    go_wp2
    go_ret2
    have e1:IntKind.u8.wrap (u:Int)=(u:Int):=by simp[IntKind.wrap,IntKind.bits,IntKind.signed];omega
    first
     |exact bG (ab Hb) (ab Hw)
     |(rw[e1];exact bG (ab Hb) (ab Hw))
   ·have hw:=ab fQ hu
    have Hw:=al hw
    have Hb:=al aY
    clear hw hu aY dJ fQ
    go_wp2
    go_ret2
    exact dF (ab Hb) (ab Hw)
end Go.Proofs.YtichhjfjcinjgaaGreatDoor
