import Derived.Test.YtmlphohdcejniaaGreatDoorM04
set_option maxHeartbeats 2000000
set_option maxRecDepth 100000
namespace Go.Proofs.YtmlphohdcejniaaGreatDoor
open Go.RowKit
attribute [local go_sem ↓] Go.wp_at_zero Go.wp_at_succ
theorem aas {x:Nat}:qy 8 x≠none↔48≤x∧x≤55:=by
 unfold qy CF
 by_cases h1:48≤x∧x≤57
 ·rw[if_pos h1]
  show (if x-48<8 then some (x-48) else none)≠none↔_
  split
  ·simp;omega
  ·simp;omega
 ·rw[if_neg h1]
  by_cases h2:65≤x∧x≤90
  ·rw[if_pos h2]
   show (if x-55<8 then some (x-55) else none)≠none↔_
   rw[if_neg (by omega)]
   simp;omega
  ·rw[if_neg h2]
   by_cases h3:97≤x∧x≤122
   ·rw[if_pos h3]
    show (if x-87<8 then some (x-87) else none)≠none↔_
    rw[if_neg (by omega)]
    simp;omega
   ·rw[if_neg h3]
    simp;omega
theorem VY {x:Nat}:qy 16 x≠none↔(48≤x∧x≤57)∨(97≤x∧x≤102)∨(65≤x∧x≤70):=by
 unfold qy CF
 by_cases h1:48≤x∧x≤57
 ·rw[if_pos h1]
  show (if x-48<16 then some (x-48) else none)≠none↔_
  rw[if_pos (by omega)]
  simp;omega
 ·rw[if_neg h1]
  by_cases h2:65≤x∧x≤90
  ·rw[if_pos h2]
   show (if x-55<16 then some (x-55) else none)≠none↔_
   split
   ·simp;omega
   ·simp;omega
  ·rw[if_neg h2]
   by_cases h3:97≤x∧x≤122
   ·rw[if_pos h3]
    show (if x-87<16 then some (x-87) else none)≠none↔_
    split
    ·simp;omega
    ·simp;omega
   ·rw[if_neg h3]
    simp;omega
def M5 (W:World) (p:Prop) (e:Ending) (w:World):Prop:=∃b:Bool,e=.returned (.bool b)∧w=W∧(b=true↔p)
theorem Qp {W:World}{p:Prop} (b:Bool) (h:b=true↔p):M5 W p (.returned (.bool b)) W:=⟨b,rfl,rfl,h⟩
theorem Ca (W:World) (x:Nat) (hx:x<256):Calls Tryz.prog 169 #[.int .u8 (x:Int),.int .i64 8] W (M5 W (qy 8 x≠none)):=by
 rw[aas]
 go_enter Tryz.func169,Tryz.ntmps169
 go_wp2
 all_goals (go_ret;refine Qp _ ?_;simp;omega)
theorem yz (W:World) (x:Nat) (hx:x<256):Calls Tryz.prog 169 #[.int .u8 (x:Int),.int .i64 16] W (M5 W (qy 16 x≠none)):=by
 rw[VY]
 go_enter Tryz.func169,Tryz.ntmps169
 go_wp2
 all_goals (go_ret;refine Qp _ ?_;simp;omega)
theorem Bz {W:World} (h:fZ W) (s:ByteArray) (hs:s.size≤65536) :
  Calls Tryz.prog 86 #[.string s,.int .i64 16,.int .i64 8] W (UY W 16 255 s) ∧
  Calls Tryz.prog 86 #[.string s,.int .i64 8,.int .i64 8] W (UY W 8 255 s):=by
 exact ⟨jY h s hs _ _ _ _ (vu (Or.inr (Or.inr (Or.inr (Or.inl ⟨rfl,rfl,rfl,rfl,rfl,rfl⟩)))) W s hs),jY h s hs _ _ _ _ (vu (Or.inr (Or.inr (Or.inr (Or.inr ⟨rfl,rfl,rfl,rfl,rfl,rfl⟩)))) W s hs)⟩
def VN (W:World) (o:Option (Nat×Nat)) (e:Ending) (w:World):Prop:=Below W.heap.size W w∧((o=none∧e=.returned (.tuple #[.int .u8 0,.int .i64 0]))∨∃v n:Nat,o=some (v,n)∧e=.returned (.tuple #[.int .u8 (v:Int),.int .i64 (n:Int)]))
theorem jV {W w:World}{o:Option (Nat×Nat)} (hb:Below W.heap.size W w) (h:o=none):VN W o (.returned (.tuple #[.int .u8 0,.int .i64 0])) w:=⟨hb,.inl ⟨h,rfl⟩⟩
theorem cG {W w:World}{o:Option (Nat×Nat)}{v n:Nat} (hb:Below W.heap.size W w) (h:o=some (v,n)):VN W o (.returned (.tuple #[.int .u8 (v:Int),.int .i64 (n:Int)])) w:=⟨hb,.inr ⟨v,n,h,rfl⟩⟩
theorem uh {B f:Nat}{l:List Nat} (h:l=[]∨f=0):dJ B f l=0:=by
 rcases h with rfl|rfl
 ·cases f<;>rfl
 ·cases l<;>rfl
theorem pM {B f x:Nat}{r:List Nat} (h:¬qy B x≠none):dJ B f (x::r)=0:=by
 have h':qy B x=none:=Classical.not_not.1 h
 cases f with
 |zero=>rfl
 |succ f=>simp[dJ,h']
theorem pL {B f x:Nat}{r:List Nat} (h:qy B x≠none):dJ B (f+1) (x::r)=dJ B f r+1:=by
 obtain ⟨d,hd⟩:=Option.ne_none_iff_exists'.1 h
 simp[dJ,hd]
theorem iO {B m f u:Nat}{l:List Nat} (hB:1≤B) (h0:0<dJ B m l) (h:cA B 255 (l.take (dJ B m l)) 0=some u):fin (dI B m l 0 0) f=some (u,f+dJ B m l)∧u≤255:=by
 have h1:=qL hB m l 0 0 (by omega)
 have h2:=mZ (B:=B) m l 0 0
 rw[h] at h1
 unfold fin
 split at h1
 ·rename_i hle
  have h3:=zC h1
  rw[if_neg (by omega),←h3,h2,Nat.zero_add]
  exact ⟨rfl,by omega⟩
 ·cases h1
theorem kF {B m f:Nat}{l:List Nat} (hB:1≤B) (h:dJ B m l=0∨cA B 255 (l.take (dJ B m l)) 0=none):fin (dI B m l 0 0) f=none:=by
 have h1:=qL hB m l 0 0 (by omega)
 have h2:=mZ (B:=B) m l 0 0
 unfold fin
 rw[if_pos]
 rcases h with h|h
 ·left;omega
 ·right
  rw[h] at h1
  split at h1
  ·cases h1
  ·omega
theorem wS {W:World} (hE:fZ W) (s:ByteArray) (hs:s.size≤65536) (hfs:2≤s.size) :
  Calls Tryz.prog 145 #[.string s,.int .i64 2,.int .i64 2,.int .i64 16] W (VN W (fin (dI 16 2 ((aG s).drop 2) 0 0) 2)):=by
 go_enter Tryz.func145,Tryz.ntmps145
 go_wp2
 go_loopg [10] 2 (fun gk v10 wr=>∃(j:Nat),v10=.int .i64 ((2+j:Nat):Int)∧gk=2-j∧j≤2∧2+j≤s.size∧wr=W∧Hid (dJ 16 2 ((aG s).drop 2)=j+dJ 16 (2-j) ((aG s).drop (2+j))))
 case atStart=>exact ⟨0,rfl,rfl,by omega,by omega,rfl,by show _=_;simp⟩
 case round =>
  obtain ⟨j,rfl,eN,hj,OW,rfl,Hd⟩:=hrel
  obtain ⟨p,hp⟩:∃p,p=2+j:=⟨_,rfl⟩
  rw[←hp] at Hd ⊢
  have kj:p≤s.size:=by omega
  have hpf:2≤p:=by omega
  have Hp:=aj hp
  have fQ:=aj eN
  have p0:(0:Int)≤(p:Int):=zH _
  clear eN
  by_cases cc:p<s.size
  ·obtain ⟨x,hx,fF,gx⟩:=iv s p cc
   have rm:(aG s).drop p=x::(aG s).drop (p+1):=by
    obtain ⟨hl,yA⟩:=zB hx
    rw[List.drop_eq_getElem_cons hl,yA]
   have AU:=aj rm
   have p1:(p:Int)<(s.size:Int):=by omega
   clear rm hx
   by_cases eU:j<2
   ·have p2:(p:Int)<(4:Int):=by omega
    clear hp OW
    by_cases hq:(4:Int)<(s.size:Int)
    ·have SF:min (s.size:Int) 4=4:=by omega
     have d1:decide ((p:Int)<(4:Int))=true:=by simp;omega
     have gN:=aj eU
     clear eU hq
     go_wp2_with fail
     refine (yz _ x fF).mono ?_
     rintro e w' ⟨d,rfl,he,hd⟩
     obtain rfl:wr=w':=he.symm
     cases d with
     |true =>
      have eU:=aa gN
      have hy:qy 16 x≠none:=hd.1 rfl
      have kB:dJ 16 2 ((aG s).drop 2)=(j+1)+dJ 16 (2-(j+1)) ((aG s).drop (p+1)):=by
       rw[aa Hd,aa AU,show 2-j=(2-(j+1))+1 by omega,pL hy];omega
      have nZ:=aj kB
      clear kB hy hd Hd AU eU
      go_wp2
      go_roundg (2-(j+1))
      case measure=>have:=aa fQ;have:=aa gN;omega
      case rel =>
       have eU:=aa gN
       refine ⟨j+1,?_,rfl,by omega,by have:=aa Hp;omega,rfl,?_⟩
       ·have e:=aa Hp;subst e;go_num
       ·have:=aa nZ;rw[aa Hp] at this;exact this
     |false =>
      have eP:dJ 16 2 ((aG s).drop 2)=j:=by
       rw[aa Hd,aa AU,pM (fun q=>by simpa using hd.2 q)];rfl
      clear hd AU gx
      have dO:Hid (∀u,0<(s.extract 2 p).size→cA 16 255 (aG (s.extract 2 p)) 0=some u→fin (dI 16 2 ((aG s).drop 2) 0 0) 2=some (u,p)∧u≤255):=fun u h1 h2=>by
       rw[bc] at h2
       have e:=extract_size s 2 p kj;have hp:=aa Hp
       have q:=iO (f:=2) (B:=16) (by decide) (m:=2) (l:=(aG s).drop 2) (u:=u) (by omega) (by rw[eP,show j=p-2 by omega];exact h2)
       rw[eP,←hp] at q
       exact q
      have gC:Hid ((s.extract 2 p).size=0∨cA 16 255 (aG (s.extract 2 p)) 0=none→fin (dI 16 2 ((aG s).drop 2) 0 0) 2=none):=fun h1=>by
       rw[bc] at h1
       have e:=extract_size s 2 p kj;have hp:=aa Hp
       refine kF (by decide) ?_
       rcases h1 with h1|h1
       ·left;omega
       ·right;rw[eP,show j=p-2 by omega];exact h1
      have Sq:=extract_size s 2 p kj
      have f1:(2:Int)≤(p:Int):=by omega
      have f2:(p:Int)≤(s.size:Int):=by omega
      clear eP Hd
      go_wp2_with fail
      refine ((Bz hE _ (by omega)).1).mono ?_
      rintro e w1 ⟨bC,⟨u,rfl,hz,hu⟩|⟨u,q,rfl,hu⟩⟩
      ·obtain ⟨hw,hle⟩:=aa dO u hz hu
       have Hw:=aj hw
       have Hb:=aj bC
       clear hw hu hz bC dO gC
       go_wp2
       go_ret2
       have e1:IntKind.u8.wrap (u:Int)=(u:Int):=by simp[IntKind.wrap,IntKind.bits,IntKind.signed];omega
       first
        |exact cG (aa Hb) (aa Hw)
        |(rw[e1];exact cG (aa Hb) (aa Hw))
      ·have hw:=aa gC hu
       have Hw:=aj hw
       have Hb:=aj bC
       clear hw hu bC dO gC
       go_wp2
       go_ret2
       exact jV (aa Hb) (aa Hw)
    ·have SF:min (s.size:Int) 4=(s.size:Int):=by omega
     have d1:decide ((p:Int)<(s.size:Int))=true:=by simp;omega
     have gN:=aj eU
     clear eU hq
     go_wp2_with fail
     refine (yz _ x fF).mono ?_
     rintro e w' ⟨d,rfl,he,hd⟩
     obtain rfl:wr=w':=he.symm
     cases d with
     |true =>
      have eU:=aa gN
      have hy:qy 16 x≠none:=hd.1 rfl
      have kB:dJ 16 2 ((aG s).drop 2)=(j+1)+dJ 16 (2-(j+1)) ((aG s).drop (p+1)):=by
       rw[aa Hd,aa AU,show 2-j=(2-(j+1))+1 by omega,pL hy];omega
      have nZ:=aj kB
      clear kB hy hd Hd AU eU
      go_wp2
      go_roundg (2-(j+1))
      case measure=>have:=aa fQ;have:=aa gN;omega
      case rel =>
       have eU:=aa gN
       refine ⟨j+1,?_,rfl,by omega,by have:=aa Hp;omega,rfl,?_⟩
       ·have e:=aa Hp;subst e;go_num
       ·have:=aa nZ;rw[aa Hp] at this;exact this
     |false =>
      have eP:dJ 16 2 ((aG s).drop 2)=j:=by
       rw[aa Hd,aa AU,pM (fun q=>by simpa using hd.2 q)];rfl
      clear hd AU gx
      have dO:Hid (∀u,0<(s.extract 2 p).size→cA 16 255 (aG (s.extract 2 p)) 0=some u→fin (dI 16 2 ((aG s).drop 2) 0 0) 2=some (u,p)∧u≤255):=fun u h1 h2=>by
       rw[bc] at h2
       have e:=extract_size s 2 p kj;have hp:=aa Hp
       have q:=iO (f:=2) (B:=16) (by decide) (m:=2) (l:=(aG s).drop 2) (u:=u) (by omega) (by rw[eP,show j=p-2 by omega];exact h2)
       rw[eP,←hp] at q
       exact q
      have gC:Hid ((s.extract 2 p).size=0∨cA 16 255 (aG (s.extract 2 p)) 0=none→fin (dI 16 2 ((aG s).drop 2) 0 0) 2=none):=fun h1=>by
       rw[bc] at h1
       have e:=extract_size s 2 p kj;have hp:=aa Hp
       refine kF (by decide) ?_
       rcases h1 with h1|h1
       ·left;omega
       ·right;rw[eP,show j=p-2 by omega];exact h1
      have Sq:=extract_size s 2 p kj
      have f1:(2:Int)≤(p:Int):=by omega
      have f2:(p:Int)≤(s.size:Int):=by omega
      clear eP Hd
      go_wp2_with fail
      refine ((Bz hE _ (by omega)).1).mono ?_
      rintro e w1 ⟨bC,⟨u,rfl,hz,hu⟩|⟨u,q,rfl,hu⟩⟩
      ·obtain ⟨hw,hle⟩:=aa dO u hz hu
       have Hw:=aj hw
       have Hb:=aj bC
       clear hw hu hz bC dO gC
       go_wp2
       go_ret2
       have e1:IntKind.u8.wrap (u:Int)=(u:Int):=by simp[IntKind.wrap,IntKind.bits,IntKind.signed];omega
       first
        |exact cG (aa Hb) (aa Hw)
        |(rw[e1];exact cG (aa Hb) (aa Hw))
      ·have hw:=aa gC hu
       have Hw:=aj hw
       have Hb:=aj bC
       clear hw hu bC dO gC
       go_wp2
       go_ret2
       exact jV (aa Hb) (aa Hw)
   ·have eP:dJ 16 2 ((aG s).drop 2)=j:=by
     rw[aa Hd,uh (.inr (by omega))];rfl
    have SF:min (s.size:Int) 4=4:=by omega
    have d1:decide ((p:Int)<(4:Int))=false:=by simp;omega
    clear hp OW eU
    clear AU gx
    have dO:Hid (∀u,0<(s.extract 2 p).size→cA 16 255 (aG (s.extract 2 p)) 0=some u→fin (dI 16 2 ((aG s).drop 2) 0 0) 2=some (u,p)∧u≤255):=fun u h1 h2=>by
     rw[bc] at h2
     have e:=extract_size s 2 p kj;have hp:=aa Hp
     have q:=iO (f:=2) (B:=16) (by decide) (m:=2) (l:=(aG s).drop 2) (u:=u) (by omega) (by rw[eP,show j=p-2 by omega];exact h2)
     rw[eP,←hp] at q
     exact q
    have gC:Hid ((s.extract 2 p).size=0∨cA 16 255 (aG (s.extract 2 p)) 0=none→fin (dI 16 2 ((aG s).drop 2) 0 0) 2=none):=fun h1=>by
     rw[bc] at h1
     have e:=extract_size s 2 p kj;have hp:=aa Hp
     refine kF (by decide) ?_
     rcases h1 with h1|h1
     ·left;omega
     ·right;rw[eP,show j=p-2 by omega];exact h1
    have Sq:=extract_size s 2 p kj
    have f1:(2:Int)≤(p:Int):=by omega
    have f2:(p:Int)≤(s.size:Int):=by omega
    clear eP Hd
    go_wp2_with fail
    refine ((Bz hE _ (by omega)).1).mono ?_
    rintro e w1 ⟨bC,⟨u,rfl,hz,hu⟩|⟨u,q,rfl,hu⟩⟩
    ·obtain ⟨hw,hle⟩:=aa dO u hz hu
     have Hw:=aj hw
     have Hb:=aj bC
     clear hw hu hz bC dO gC
     go_wp2
     go_ret2
     have e1:IntKind.u8.wrap (u:Int)=(u:Int):=by simp[IntKind.wrap,IntKind.bits,IntKind.signed];omega
     first
      |exact cG (aa Hb) (aa Hw)
      |(rw[e1];exact cG (aa Hb) (aa Hw))
    ·have hw:=aa gC hu
     have Hw:=aj hw
     have Hb:=aj bC
     clear hw hu bC dO gC
     go_wp2
     go_ret2
     exact jV (aa Hb) (aa Hw)
  ·have eP:dJ 16 2 ((aG s).drop 2)=j:=by
    rw[aa Hd,uh (.inl (List.drop_eq_nil_of_le (by rw[bd];omega)))];rfl
   have SF:min (s.size:Int) 4=(s.size:Int):=by omega
   have d1:decide ((p:Int)<(s.size:Int))=false:=by simp;omega
   clear hp OW
   have dO:Hid (∀u,0<(s.extract 2 p).size→cA 16 255 (aG (s.extract 2 p)) 0=some u→fin (dI 16 2 ((aG s).drop 2) 0 0) 2=some (u,p)∧u≤255):=fun u h1 h2=>by
    rw[bc] at h2
    have e:=extract_size s 2 p kj;have hp:=aa Hp
    have q:=iO (f:=2) (B:=16) (by decide) (m:=2) (l:=(aG s).drop 2) (u:=u) (by omega) (by rw[eP,show j=p-2 by omega];exact h2)
    rw[eP,←hp] at q
    exact q
   have gC:Hid ((s.extract 2 p).size=0∨cA 16 255 (aG (s.extract 2 p)) 0=none→fin (dI 16 2 ((aG s).drop 2) 0 0) 2=none):=fun h1=>by
    rw[bc] at h1
    have e:=extract_size s 2 p kj;have hp:=aa Hp
    refine kF (by decide) ?_
    rcases h1 with h1|h1
    ·left;omega
    ·right;rw[eP,show j=p-2 by omega];exact h1
   have Sq:=extract_size s 2 p kj
   have f1:(2:Int)≤(p:Int):=by omega
   have f2:(p:Int)≤(s.size:Int):=by omega
   clear eP Hd
   go_wp2_with fail
   refine ((Bz hE _ (by omega)).1).mono ?_
   rintro e w1 ⟨bC,⟨u,rfl,hz,hu⟩|⟨u,q,rfl,hu⟩⟩
   ·obtain ⟨hw,hle⟩:=aa dO u hz hu
    have Hw:=aj hw
    have Hb:=aj bC
    clear hw hu hz bC dO gC
    go_wp2
    go_ret2
    have e1:IntKind.u8.wrap (u:Int)=(u:Int):=by simp[IntKind.wrap,IntKind.bits,IntKind.signed];omega
    first
     |exact cG (aa Hb) (aa Hw)
     |(rw[e1];exact cG (aa Hb) (aa Hw))
   ·have hw:=aa gC hu
    have Hw:=aj hw
    have Hb:=aj bC
    clear hw hu bC dO gC
    go_wp2
    go_ret2
    exact jV (aa Hb) (aa Hw)
theorem EV {W:World} (hE:fZ W) (s:ByteArray) (hs:s.size≤65536) (hfs:1≤s.size) :
  Calls Tryz.prog 145 #[.string s,.int .i64 1,.int .i64 3,.int .i64 8] W (VN W (fin (dI 8 3 ((aG s).drop 1) 0 0) 1)):=by
 go_enter Tryz.func145,Tryz.ntmps145
 go_wp2
 go_loopg [10] 3 (fun gk v10 wr=>∃(j:Nat),v10=.int .i64 ((1+j:Nat):Int)∧gk=3-j∧j≤3∧1+j≤s.size∧wr=W∧Hid (dJ 8 3 ((aG s).drop 1)=j+dJ 8 (3-j) ((aG s).drop (1+j))))
 case atStart=>exact ⟨0,rfl,rfl,by omega,by omega,rfl,by show _=_;simp⟩
 case round =>
  obtain ⟨j,rfl,eN,hj,OW,rfl,Hd⟩:=hrel
  obtain ⟨p,hp⟩:∃p,p=1+j:=⟨_,rfl⟩
  rw[←hp] at Hd ⊢
  have kj:p≤s.size:=by omega
  have hpf:1≤p:=by omega
  have Hp:=aj hp
  have fQ:=aj eN
  have p0:(0:Int)≤(p:Int):=zH _
  clear eN
  by_cases cc:p<s.size
  ·obtain ⟨x,hx,fF,gx⟩:=iv s p cc
   have rm:(aG s).drop p=x::(aG s).drop (p+1):=by
    obtain ⟨hl,yA⟩:=zB hx
    rw[List.drop_eq_getElem_cons hl,yA]
   have AU:=aj rm
   have p1:(p:Int)<(s.size:Int):=by omega
   clear rm hx
   by_cases eU:j<3
   ·have p2:(p:Int)<(4:Int):=by omega
    clear hp OW
    by_cases hq:(4:Int)<(s.size:Int)
    ·have SF:min (s.size:Int) 4=4:=by omega
     have d1:decide ((p:Int)<(4:Int))=true:=by simp;omega
     have gN:=aj eU
     clear eU hq
     go_wp2_with fail
     refine (Ca _ x fF).mono ?_
     rintro e w' ⟨d,rfl,he,hd⟩
     obtain rfl:wr=w':=he.symm
     cases d with
     |true =>
      have eU:=aa gN
      have hy:qy 8 x≠none:=hd.1 rfl
      have kB:dJ 8 3 ((aG s).drop 1)=(j+1)+dJ 8 (3-(j+1)) ((aG s).drop (p+1)):=by
       rw[aa Hd,aa AU,show 3-j=(3-(j+1))+1 by omega,pL hy];omega
      have nZ:=aj kB
      clear kB hy hd Hd AU eU
      go_wp2
      go_roundg (3-(j+1))
      case measure=>have:=aa fQ;have:=aa gN;omega
      case rel =>
       have eU:=aa gN
       refine ⟨j+1,?_,rfl,by omega,by have:=aa Hp;omega,rfl,?_⟩
       ·have e:=aa Hp;subst e;go_num
       ·have:=aa nZ;rw[aa Hp] at this;exact this
     |false =>
      have eP:dJ 8 3 ((aG s).drop 1)=j:=by
       rw[aa Hd,aa AU,pM (fun q=>by simpa using hd.2 q)];rfl
      clear hd AU gx
      have dO:Hid (∀u,0<(s.extract 1 p).size→cA 8 255 (aG (s.extract 1 p)) 0=some u→fin (dI 8 3 ((aG s).drop 1) 0 0) 1=some (u,p)∧u≤255):=fun u h1 h2=>by
       rw[bc] at h2
       have e:=extract_size s 1 p kj;have hp:=aa Hp
       have q:=iO (f:=1) (B:=8) (by decide) (m:=3) (l:=(aG s).drop 1) (u:=u) (by omega) (by rw[eP,show j=p-1 by omega];exact h2)
       rw[eP,←hp] at q
       exact q
      have gC:Hid ((s.extract 1 p).size=0∨cA 8 255 (aG (s.extract 1 p)) 0=none→fin (dI 8 3 ((aG s).drop 1) 0 0) 1=none):=fun h1=>by
       rw[bc] at h1
       have e:=extract_size s 1 p kj;have hp:=aa Hp
       refine kF (by decide) ?_
       rcases h1 with h1|h1
       ·left;omega
       ·right;rw[eP,show j=p-1 by omega];exact h1
      have Sq:=extract_size s 1 p kj
      have f1:(1:Int)≤(p:Int):=by omega
      have f2:(p:Int)≤(s.size:Int):=by omega
      clear eP Hd
      go_wp2_with fail
      refine ((Bz hE _ (by omega)).2).mono ?_
      rintro e w1 ⟨bC,⟨u,rfl,hz,hu⟩|⟨u,q,rfl,hu⟩⟩
      ·obtain ⟨hw,hle⟩:=aa dO u hz hu
       have Hw:=aj hw
       have Hb:=aj bC
       clear hw hu hz bC dO gC
       go_wp2
       go_ret2
       have e1:IntKind.u8.wrap (u:Int)=(u:Int):=by simp[IntKind.wrap,IntKind.bits,IntKind.signed];omega
       first
        |exact cG (aa Hb) (aa Hw)
        |(rw[e1];exact cG (aa Hb) (aa Hw))
      ·have hw:=aa gC hu
       have Hw:=aj hw
       have Hb:=aj bC
       clear hw hu bC dO gC
       go_wp2
       go_ret2
       exact jV (aa Hb) (aa Hw)
    ·have SF:min (s.size:Int) 4=(s.size:Int):=by omega
     have d1:decide ((p:Int)<(s.size:Int))=true:=by simp;omega
     have gN:=aj eU
     clear eU hq
     go_wp2_with fail
     refine (Ca _ x fF).mono ?_
     rintro e w' ⟨d,rfl,he,hd⟩
     obtain rfl:wr=w':=he.symm
     cases d with
     |true =>
      have eU:=aa gN
      have hy:qy 8 x≠none:=hd.1 rfl
      have kB:dJ 8 3 ((aG s).drop 1)=(j+1)+dJ 8 (3-(j+1)) ((aG s).drop (p+1)):=by
       rw[aa Hd,aa AU,show 3-j=(3-(j+1))+1 by omega,pL hy];omega
      have nZ:=aj kB
      clear kB hy hd Hd AU eU
      go_wp2
      go_roundg (3-(j+1))
      case measure=>have:=aa fQ;have:=aa gN;omega
      case rel =>
       have eU:=aa gN
       refine ⟨j+1,?_,rfl,by omega,by have:=aa Hp;omega,rfl,?_⟩
       ·have e:=aa Hp;subst e;go_num
       ·have:=aa nZ;rw[aa Hp] at this;exact this
     |false =>
      have eP:dJ 8 3 ((aG s).drop 1)=j:=by
       rw[aa Hd,aa AU,pM (fun q=>by simpa using hd.2 q)];rfl
      clear hd AU gx
      have dO:Hid (∀u,0<(s.extract 1 p).size→cA 8 255 (aG (s.extract 1 p)) 0=some u→fin (dI 8 3 ((aG s).drop 1) 0 0) 1=some (u,p)∧u≤255):=fun u h1 h2=>by
       rw[bc] at h2
       have e:=extract_size s 1 p kj;have hp:=aa Hp
       have q:=iO (f:=1) (B:=8) (by decide) (m:=3) (l:=(aG s).drop 1) (u:=u) (by omega) (by rw[eP,show j=p-1 by omega];exact h2)
       rw[eP,←hp] at q
       exact q
      have gC:Hid ((s.extract 1 p).size=0∨cA 8 255 (aG (s.extract 1 p)) 0=none→fin (dI 8 3 ((aG s).drop 1) 0 0) 1=none):=fun h1=>by
       rw[bc] at h1
       have e:=extract_size s 1 p kj;have hp:=aa Hp
       refine kF (by decide) ?_
       rcases h1 with h1|h1
       ·left;omega
       ·right;rw[eP,show j=p-1 by omega];exact h1
      have Sq:=extract_size s 1 p kj
      have f1:(1:Int)≤(p:Int):=by omega
      have f2:(p:Int)≤(s.size:Int):=by omega
      clear eP Hd
      go_wp2_with fail
      refine ((Bz hE _ (by omega)).2).mono ?_
      rintro e w1 ⟨bC,⟨u,rfl,hz,hu⟩|⟨u,q,rfl,hu⟩⟩
      ·obtain ⟨hw,hle⟩:=aa dO u hz hu
       have Hw:=aj hw
       have Hb:=aj bC
       clear hw hu hz bC dO gC
       go_wp2
       go_ret2
       have e1:IntKind.u8.wrap (u:Int)=(u:Int):=by simp[IntKind.wrap,IntKind.bits,IntKind.signed];omega
       first
        |exact cG (aa Hb) (aa Hw)
        |(rw[e1];exact cG (aa Hb) (aa Hw))
      ·have hw:=aa gC hu
       have Hw:=aj hw
       have Hb:=aj bC
       clear hw hu bC dO gC
       go_wp2
       go_ret2
       exact jV (aa Hb) (aa Hw)
   ·have eP:dJ 8 3 ((aG s).drop 1)=j:=by
     rw[aa Hd,uh (.inr (by omega))];rfl
    have SF:min (s.size:Int) 4=4:=by omega
    have d1:decide ((p:Int)<(4:Int))=false:=by simp;omega
    clear hp OW eU
    clear AU gx
    have dO:Hid (∀u,0<(s.extract 1 p).size→cA 8 255 (aG (s.extract 1 p)) 0=some u→fin (dI 8 3 ((aG s).drop 1) 0 0) 1=some (u,p)∧u≤255):=fun u h1 h2=>by
     rw[bc] at h2
     have e:=extract_size s 1 p kj;have hp:=aa Hp
     have q:=iO (f:=1) (B:=8) (by decide) (m:=3) (l:=(aG s).drop 1) (u:=u) (by omega) (by rw[eP,show j=p-1 by omega];exact h2)
     rw[eP,←hp] at q
     exact q
    have gC:Hid ((s.extract 1 p).size=0∨cA 8 255 (aG (s.extract 1 p)) 0=none→fin (dI 8 3 ((aG s).drop 1) 0 0) 1=none):=fun h1=>by
     rw[bc] at h1
     have e:=extract_size s 1 p kj;have hp:=aa Hp
     refine kF (by decide) ?_
     rcases h1 with h1|h1
     ·left;omega
     ·right;rw[eP,show j=p-1 by omega];exact h1
    have Sq:=extract_size s 1 p kj
    have f1:(1:Int)≤(p:Int):=by omega
    have f2:(p:Int)≤(s.size:Int):=by omega
    clear eP Hd
    go_wp2_with fail
    refine ((Bz hE _ (by omega)).2).mono ?_
    rintro e w1 ⟨bC,⟨u,rfl,hz,hu⟩|⟨u,q,rfl,hu⟩⟩
    ·obtain ⟨hw,hle⟩:=aa dO u hz hu
     have Hw:=aj hw
     have Hb:=aj bC
     clear hw hu hz bC dO gC
     go_wp2
     go_ret2
     have e1:IntKind.u8.wrap (u:Int)=(u:Int):=by simp[IntKind.wrap,IntKind.bits,IntKind.signed];omega
     first
      |exact cG (aa Hb) (aa Hw)
      |(rw[e1];exact cG (aa Hb) (aa Hw))
    ·have hw:=aa gC hu
     have Hw:=aj hw
     have Hb:=aj bC
     clear hw hu bC dO gC
     go_wp2
     go_ret2
     exact jV (aa Hb) (aa Hw)
  ·have eP:dJ 8 3 ((aG s).drop 1)=j:=by
    rw[aa Hd,uh (.inl (List.drop_eq_nil_of_le (by rw[bd];omega)))];rfl
   have SF:min (s.size:Int) 4=(s.size:Int):=by omega
   have d1:decide ((p:Int)<(s.size:Int))=false:=by simp;omega
   clear hp OW
   have dO:Hid (∀u,0<(s.extract 1 p).size→cA 8 255 (aG (s.extract 1 p)) 0=some u→fin (dI 8 3 ((aG s).drop 1) 0 0) 1=some (u,p)∧u≤255):=fun u h1 h2=>by
    rw[bc] at h2
    have e:=extract_size s 1 p kj;have hp:=aa Hp
    have q:=iO (f:=1) (B:=8) (by decide) (m:=3) (l:=(aG s).drop 1) (u:=u) (by omega) (by rw[eP,show j=p-1 by omega];exact h2)
    rw[eP,←hp] at q
    exact q
   have gC:Hid ((s.extract 1 p).size=0∨cA 8 255 (aG (s.extract 1 p)) 0=none→fin (dI 8 3 ((aG s).drop 1) 0 0) 1=none):=fun h1=>by
    rw[bc] at h1
    have e:=extract_size s 1 p kj;have hp:=aa Hp
    refine kF (by decide) ?_
    rcases h1 with h1|h1
    ·left;omega
    ·right;rw[eP,show j=p-1 by omega];exact h1
   have Sq:=extract_size s 1 p kj
   have f1:(1:Int)≤(p:Int):=by omega
   have f2:(p:Int)≤(s.size:Int):=by omega
   clear eP Hd
   go_wp2_with fail
   refine ((Bz hE _ (by omega)).2).mono ?_
   rintro e w1 ⟨bC,⟨u,rfl,hz,hu⟩|⟨u,q,rfl,hu⟩⟩
   ·obtain ⟨hw,hle⟩:=aa dO u hz hu
    have Hw:=aj hw
    have Hb:=aj bC
    clear hw hu hz bC dO gC
    go_wp2
    go_ret2
    have e1:IntKind.u8.wrap (u:Int)=(u:Int):=by simp[IntKind.wrap,IntKind.bits,IntKind.signed];omega
    first
     |exact cG (aa Hb) (aa Hw)
     |(rw[e1];exact cG (aa Hb) (aa Hw))
   ·have hw:=aa gC hu
    have Hw:=aj hw
    have Hb:=aj bC
    clear hw hu bC dO gC
    go_wp2
    go_ret2
    exact jV (aa Hb) (aa Hw)
end Go.Proofs.YtmlphohdcejniaaGreatDoor
