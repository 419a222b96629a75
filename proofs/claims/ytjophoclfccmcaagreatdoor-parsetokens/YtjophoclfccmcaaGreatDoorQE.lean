import Derived.Test.YtjophoclfccmcaaGreatDoorM03
set_option maxHeartbeats 2000000
set_option maxRecDepth 100000
namespace Go.Proofs.YtjophoclfccmcaaGreatDoor
open Go.RowKit
attribute [local go_sem ↓] Go.wp_at_zero Go.wp_at_succ
theorem Ve {x:Nat}:pJ 8 x≠none↔48≤x∧x≤55:=by
 unfold pJ Ce
 by_cases h1:48≤x∧x≤57
 ·rw[if_pos h1]
  show (if x-48<8 then some (x-48) else none)≠none↔_
  split
  ·simp;omega
  ·simp;omega
 ·rw[if_neg h1]
  by_cases h2:65≤x∧x≤90
  ·rw[if_pos h2]
   show (if x-55<8 then some (x-55) else none)≠none↔_
   rw[if_neg (by omega)]
   simp;omega
  ·rw[if_neg h2]
   by_cases h3:97≤x∧x≤122
   ·rw[if_pos h3]
    show (if x-87<8 then some (x-87) else none)≠none↔_
    rw[if_neg (by omega)]
    simp;omega
   ·rw[if_neg h3]
    simp;omega
theorem YW {x:Nat}:pJ 16 x≠none↔(48≤x∧x≤57)∨(97≤x∧x≤102)∨(65≤x∧x≤70):=by
 unfold pJ Ce
 by_cases h1:48≤x∧x≤57
 ·rw[if_pos h1]
  show (if x-48<16 then some (x-48) else none)≠none↔_
  rw[if_pos (by omega)]
  simp;omega
 ·rw[if_neg h1]
  by_cases h2:65≤x∧x≤90
  ·rw[if_pos h2]
   show (if x-55<16 then some (x-55) else none)≠none↔_
   split
   ·simp;omega
   ·simp;omega
  ·rw[if_neg h2]
   by_cases h3:97≤x∧x≤122
   ·rw[if_pos h3]
    show (if x-87<16 then some (x-87) else none)≠none↔_
    split
    ·simp;omega
    ·simp;omega
   ·rw[if_neg h3]
    simp;omega
def Jh (W:World) (p:Prop) (e:Ending) (w:World):Prop:=∃b:Bool,e=.returned (.bool b)∧w=W∧(b=true↔p)
theorem Mx {W:World}{p:Prop} (b:Bool) (h:b=true↔p):Jh W p (.returned (.bool b)) W:=⟨b,rfl,rfl,h⟩
theorem DO (W:World) (x:Nat) (hx:x<256):Calls Tryz.prog 179 #[.int .u8 (x:Int),.int .i64 8] W (Jh W (pJ 8 x≠none)):=by
 rw[Ve]
 go_enter Tryz.func179,Tryz.ntmps179
 go_wp2
 all_goals (go_ret;refine Mx _ ?_;simp;omega)
theorem AN (W:World) (x:Nat) (hx:x<256):Calls Tryz.prog 179 #[.int .u8 (x:Int),.int .i64 16] W (Jh W (pJ 16 x≠none)):=by
 rw[YW]
 go_enter Tryz.func179,Tryz.ntmps179
 go_wp2
 all_goals (go_ret;refine Mx _ ?_;simp;omega)
theorem Dj {W:World} (h:gU W) (s:ByteArray) (hs:s.size≤65536) :
  Calls Tryz.prog 116 #[.string s,.int .i64 16,.int .i64 8] W (XZ W 16 255 s) ∧
  Calls Tryz.prog 116 #[.string s,.int .i64 8,.int .i64 8] W (XZ W 8 255 s):=by
 exact ⟨kQ h s hs _ _ _ _ (yj (Or.inr (Or.inr (Or.inr (Or.inl ⟨rfl,rfl,rfl,rfl,rfl,rfl⟩)))) W s hs),kQ h s hs _ _ _ _ (yj (Or.inr (Or.inr (Or.inr (Or.inr ⟨rfl,rfl,rfl,rfl,rfl,rfl⟩)))) W s hs)⟩
def VN (W:World) (o:Option (Nat×Nat)) (e:Ending) (w:World):Prop:=Below W.heap.size W w∧((o=none∧e=.returned (.tuple #[.int .u8 0,.int .i64 0]))∨∃v n:Nat,o=some (v,n)∧e=.returned (.tuple #[.int .u8 (v:Int),.int .i64 (n:Int)]))
theorem ez {W w:World}{o:Option (Nat×Nat)} (hb:Below W.heap.size W w) (h:o=none):VN W o (.returned (.tuple #[.int .u8 0,.int .i64 0])) w:=⟨hb,.inl ⟨h,rfl⟩⟩
theorem bT {W w:World}{o:Option (Nat×Nat)}{v n:Nat} (hb:Below W.heap.size W w) (h:o=some (v,n)):VN W o (.returned (.tuple #[.int .u8 (v:Int),.int .i64 (n:Int)])) w:=⟨hb,.inr ⟨v,n,h,rfl⟩⟩
theorem xz {B f:Nat}{l:List Nat} (h:l=[]∨f=0):ew B f l=0:=by
 rcases h with rfl|rfl
 ·cases f<;>rfl
 ·cases l<;>rfl
theorem rO {B f x:Nat}{r:List Nat} (h:¬pJ B x≠none):ew B f (x::r)=0:=by
 have h':pJ B x=none:=Classical.not_not.1 h
 cases f with
 |zero=>rfl
 |succ f=>simp[ew,h']
theorem rN {B f x:Nat}{r:List Nat} (h:pJ B x≠none):ew B (f+1) (x::r)=ew B f r+1:=by
 obtain ⟨d,hd⟩:=Option.ne_none_iff_exists'.1 h
 simp[ew,hd]
theorem jR {B m f u:Nat}{l:List Nat} (hB:1≤B) (h0:0<ew B m l) (h:cz B 255 (l.take (ew B m l)) 0=some u):fin (cO B m l 0 0) f=some (u,f+ew B m l)∧u≤255:=by
 have h1:=sX hB m l 0 0 (by omega)
 have h2:=oG (B:=B) m l 0 0
 rw[h] at h1
 unfold fin
 split at h1
 ·rename_i hle
  have h3:=zC h1
  rw[if_neg (by omega),←h3,h2,Nat.zero_add]
  exact ⟨rfl,by omega⟩
 ·cases h1
theorem lJ {B m f:Nat}{l:List Nat} (hB:1≤B) (h:ew B m l=0∨cz B 255 (l.take (ew B m l)) 0=none):fin (cO B m l 0 0) f=none:=by
 have h1:=sX hB m l 0 0 (by omega)
 have h2:=oG (B:=B) m l 0 0
 unfold fin
 rw[if_pos]
 rcases h with h|h
 ·left;omega
 ·right
  rw[h] at h1
  split at h1
  ·cases h1
  ·omega
theorem zi {W:World} (hE:gU W) (s:ByteArray) (hs:s.size≤65536) (hfs:2≤s.size) :
  Calls Tryz.prog 164 #[.string s,.int .i64 2,.int .i64 2,.int .i64 16] W (VN W (fin (cO 16 2 ((aI s).drop 2) 0 0) 2)):=by
 go_enter Tryz.func164,Tryz.ntmps164
 go_wp2
 go_loopg [10] 2 (fun gk v10 wr=>∃(j:Nat),v10=.int .i64 ((2+j:Nat):Int)∧gk=2-j∧j≤2∧2+j≤s.size∧wr=W∧Hid (ew 16 2 ((aI s).drop 2)=j+ew 16 (2-j) ((aI s).drop (2+j))))
 case atStart=>exact ⟨0,rfl,rfl,by omega,by omega,rfl,by show _=_;simp⟩
 case round =>
  obtain ⟨j,rfl,eG,hj,hjs,rfl,Hd⟩:=hrel
  obtain ⟨p,hp⟩:∃p,p=2+j:=⟨_,rfl⟩
  rw[←hp] at Hd ⊢
  have ug:p≤s.size:=by omega
  have hpf:2≤p:=by omega
  have Hp:=ab hp
  have jw:=ab eG
  have p0:(0:Int)≤(p:Int):=zH _
  clear eG
  by_cases dB:p<s.size
  ·obtain ⟨x,hx,eL,gx⟩:=cS s p dB
   have fV:(aI s).drop p=x::(aI s).drop (p+1):=by
    obtain ⟨hl,gI⟩:=zB hx
    rw[List.drop_eq_getElem_cons hl,gI]
   have nF:=ab fV
   have p1:(p:Int)<(s.size:Int):=by omega
   clear fV hx
   by_cases iX:j<2
   ·have p2:(p:Int)<(4:Int):=by omega
    clear hp hjs
    by_cases hq:(4:Int)<(s.size:Int)
    ·have Vz:min (s.size:Int) 4=4:=by omega
     have d1:decide ((p:Int)<(4:Int))=true:=by simp;omega
     have qF:=ab iX
     clear iX hq
     go_wp2_with fail
     refine (AN _ x eL).mono ?_
     rintro e w' ⟨d,rfl,he,hd⟩
     obtain rfl:wr=w':=he.symm
     cases d with
     |true =>
      have iX:=aa qF
      have hy:pJ 16 x≠none:=hd.1 rfl
      have lH:ew 16 2 ((aI s).drop 2)=(j+1)+ew 16 (2-(j+1)) ((aI s).drop (p+1)):=by
       rw[aa Hd,aa nF,show 2-j=(2-(j+1))+1 by omega,rN hy];omega
      have iF:=ab lH
      clear lH hy hd Hd nF iX
      go_wp2
      go_roundg (2-(j+1))
      case measure=>have:=aa jw;have:=aa qF;omega
      case rel =>
       have iX:=aa qF
       refine ⟨j+1,?_,rfl,by omega,by have:=aa Hp;omega,rfl,?_⟩
       ·have e:=aa Hp;subst e;go_num
       ·have:=aa iF;rw[aa Hp] at this;exact this
     |false =>
      have fy:ew 16 2 ((aI s).drop 2)=j:=by
       rw[aa Hd,aa nF,rO (fun q=>by simpa using hd.2 q)];rfl
      clear hd nF gx
      have eI:Hid (∀u,0<(s.extract 2 p).size→cz 16 255 (aI (s.extract 2 p)) 0=some u→fin (cO 16 2 ((aI s).drop 2) 0 0) 2=some (u,p)∧u≤255):=fun u h1 h2=>by
       rw[bA] at h2
       have e:=extract_size s 2 p ug;have hp:=aa Hp
       have q:=jR (f:=2) (B:=16) (by decide) (m:=2) (l:=(aI s).drop 2) (u:=u) (by omega) (by rw[fy,show j=p-2 by omega];exact h2)
       rw[fy,←hp] at q
       exact q
      have iv:Hid ((s.extract 2 p).size=0∨cz 16 255 (aI (s.extract 2 p)) 0=none→fin (cO 16 2 ((aI s).drop 2) 0 0) 2=none):=fun h1=>by
       rw[bA] at h1
       have e:=extract_size s 2 p ug;have hp:=aa Hp
       refine lJ (by decide) ?_
       rcases h1 with h1|h1
       ·left;omega
       ·right;rw[fy,show j=p-2 by omega];exact h1
      have Vk:=extract_size s 2 p ug
      have f1:(2:Int)≤(p:Int):=by omega
      have f2:(p:Int)≤(s.size:Int):=by omega
      clear fy Hd
      go_wp2_with fail
      refine ((Dj hE _ (by omega)).1).mono ?_
      rintro e w1 ⟨bQ,⟨u,rfl,hz,hu⟩|⟨u,q,rfl,hu⟩⟩
      ·obtain ⟨hw,hle⟩:=aa eI u hz hu
       have Hw:=ab hw
       have Hb:=ab bQ
       clear hw hu hz bQ eI iv
       go_wp2
       go_ret2
       have e1:IntKind.u8.wrap (u:Int)=(u:Int):=by simp[IntKind.wrap,IntKind.bits,IntKind.signed];omega
       first
        |exact bT (aa Hb) (aa Hw)
        |(rw[e1];exact bT (aa Hb) (aa Hw))
      ·have hw:=aa iv hu
       have Hw:=ab hw
       have Hb:=ab bQ
       clear hw hu bQ eI iv
       go_wp2
       go_ret2
       exact ez (aa Hb) (aa Hw)
    ·have Vz:min (s.size:Int) 4=(s.size:Int):=by omega
     have d1:decide ((p:Int)<(s.size:Int))=true:=by simp;omega
     have qF:=ab iX
     clear iX hq
     go_wp2_with fail
     refine (AN _ x eL).mono ?_
     rintro e w' ⟨d,rfl,he,hd⟩
     obtain rfl:wr=w':=he.symm
     cases d with
     |true =>
      have iX:=aa qF
      have hy:pJ 16 x≠none:=hd.1 rfl
      have lH:ew 16 2 ((aI s).drop 2)=(j+1)+ew 16 (2-(j+1)) ((aI s).drop (p+1)):=by
       rw[aa Hd,aa nF,show 2-j=(2-(j+1))+1 by omega,rN hy];omega
      have iF:=ab lH
      clear lH hy hd Hd nF iX
      go_wp2
      go_roundg (2-(j+1))
      case measure=>have:=aa jw;have:=aa qF;omega
      case rel =>
       have iX:=aa qF
       refine ⟨j+1,?_,rfl,by omega,by have:=aa Hp;omega,rfl,?_⟩
       ·have e:=aa Hp;subst e;go_num
       ·have:=aa iF;rw[aa Hp] at this;exact this
     |false =>
      have fy:ew 16 2 ((aI s).drop 2)=j:=by
       rw[aa Hd,aa nF,rO (fun q=>by simpa using hd.2 q)];rfl
      clear hd nF gx
      have eI:Hid (∀u,0<(s.extract 2 p).size→cz 16 255 (aI (s.extract 2 p)) 0=some u→fin (cO 16 2 ((aI s).drop 2) 0 0) 2=some (u,p)∧u≤255):=fun u h1 h2=>by
       rw[bA] at h2
       have e:=extract_size s 2 p ug;have hp:=aa Hp
       have q:=jR (f:=2) (B:=16) (by decide) (m:=2) (l:=(aI s).drop 2) (u:=u) (by omega) (by rw[fy,show j=p-2 by omega];exact h2)
       rw[fy,←hp] at q
       exact q
      have iv:Hid ((s.extract 2 p).size=0∨cz 16 255 (aI (s.extract 2 p)) 0=none→fin (cO 16 2 ((aI s).drop 2) 0 0) 2=none):=fun h1=>by
       rw[bA] at h1
       have e:=extract_size s 2 p ug;have hp:=aa Hp
       refine lJ (by decide) ?_
       rcases h1 with h1|h1
       ·left;omega
       ·right;rw[fy,show j=p-2 by omega];exact h1
      have Vk:=extract_size s 2 p ug
      have f1:(2:Int)≤(p:Int):=by omega
      have f2:(p:Int)≤(s.size:Int):=by omega
      clear fy Hd
      go_wp2_with fail
      refine ((Dj hE _ (by omega)).1).mono ?_
      rintro e w1 ⟨bQ,⟨u,rfl,hz,hu⟩|⟨u,q,rfl,hu⟩⟩
      ·obtain ⟨hw,hle⟩:=aa eI u hz hu
       have Hw:=ab hw
       have Hb:=ab bQ
       clear hw hu hz bQ eI iv
       go_wp2
       go_ret2
       have e1:IntKind.u8.wrap (u:Int)=(u:Int):=by simp[IntKind.wrap,IntKind.bits,IntKind.signed];omega
       first
        |exact bT (aa Hb) (aa Hw)
        |(rw[e1];exact bT (aa Hb) (aa Hw))
      ·have hw:=aa iv hu
       have Hw:=ab hw
       have Hb:=ab bQ
       clear hw hu bQ eI iv
       go_wp2
       go_ret2
       exact ez (aa Hb) (aa Hw)
   ·have fy:ew 16 2 ((aI s).drop 2)=j:=by
     rw[aa Hd,xz (.inr (by omega))];rfl
    have Vz:min (s.size:Int) 4=4:=by omega
    have d1:decide ((p:Int)<(4:Int))=false:=by simp;omega
    clear hp hjs iX
    clear nF gx
    have eI:Hid (∀u,0<(s.extract 2 p).size→cz 16 255 (aI (s.extract 2 p)) 0=some u→fin (cO 16 2 ((aI s).drop 2) 0 0) 2=some (u,p)∧u≤255):=fun u h1 h2=>by
     rw[bA] at h2
     have e:=extract_size s 2 p ug;have hp:=aa Hp
     have q:=jR (f:=2) (B:=16) (by decide) (m:=2) (l:=(aI s).drop 2) (u:=u) (by omega) (by rw[fy,show j=p-2 by omega];exact h2)
     rw[fy,←hp] at q
     exact q
    have iv:Hid ((s.extract 2 p).size=0∨cz 16 255 (aI (s.extract 2 p)) 0=none→fin (cO 16 2 ((aI s).drop 2) 0 0) 2=none):=fun h1=>by
     rw[bA] at h1
     have e:=extract_size s 2 p ug;have hp:=aa Hp
     refine lJ (by decide) ?_
     rcases h1 with h1|h1
     ·left;omega
     ·right;rw[fy,show j=p-2 by omega];exact h1
    have Vk:=extract_size s 2 p ug
    have f1:(2:Int)≤(p:Int):=by omega
    have f2:(p:Int)≤(s.size:Int):=by omega
    clear fy Hd
    go_wp2_with fail
    refine ((Dj hE _ (by omega)).1).mono ?_
    rintro e w1 ⟨bQ,⟨u,rfl,hz,hu⟩|⟨u,q,rfl,hu⟩⟩
    ·obtain ⟨hw,hle⟩:=aa eI u hz hu
     have Hw:=ab hw
     have Hb:=ab bQ
     clear hw hu hz bQ eI iv
     go_wp2
     go_ret2
     have e1:IntKind.u8.wrap (u:Int)=(u:Int):=by simp[IntKind.wrap,IntKind.bits,IntKind.signed];omega
     first
      |exact bT (aa Hb) (aa Hw)
      |(rw[e1];exact bT (aa Hb) (aa Hw))
    ·have hw:=aa iv hu
     have Hw:=ab hw
     have Hb:=ab bQ
     clear hw hu bQ eI iv
     go_wp2
     go_ret2
     exact ez (aa Hb) (aa Hw)
  ·have fy:ew 16 2 ((aI s).drop 2)=j:=by
    rw[aa Hd,xz (.inl (List.drop_eq_nil_of_le (by rw[bG];omega)))];rfl
   have Vz:min (s.size:Int) 4=(s.size:Int):=by omega
   have d1:decide ((p:Int)<(s.size:Int))=false:=by simp;omega
   clear hp hjs
   have eI:Hid (∀u,0<(s.extract 2 p).size→cz 16 255 (aI (s.extract 2 p)) 0=some u→fin (cO 16 2 ((aI s).drop 2) 0 0) 2=some (u,p)∧u≤255):=fun u h1 h2=>by
    rw[bA] at h2
    have e:=extract_size s 2 p ug;have hp:=aa Hp
    have q:=jR (f:=2) (B:=16) (by decide) (m:=2) (l:=(aI s).drop 2) (u:=u) (by omega) (by rw[fy,show j=p-2 by omega];exact h2)
    rw[fy,←hp] at q
    exact q
   have iv:Hid ((s.extract 2 p).size=0∨cz 16 255 (aI (s.extract 2 p)) 0=none→fin (cO 16 2 ((aI s).drop 2) 0 0) 2=none):=fun h1=>by
    rw[bA] at h1
    have e:=extract_size s 2 p ug;have hp:=aa Hp
    refine lJ (by decide) ?_
    rcases h1 with h1|h1
    ·left;omega
    ·right;rw[fy,show j=p-2 by omega];exact h1
   have Vk:=extract_size s 2 p ug
   have f1:(2:Int)≤(p:Int):=by omega
   have f2:(p:Int)≤(s.size:Int):=by omega
   clear fy Hd
   go_wp2_with fail
   refine ((Dj hE _ (by omega)).1).mono ?_
   rintro e w1 ⟨bQ,⟨u,rfl,hz,hu⟩|⟨u,q,rfl,hu⟩⟩
   ·obtain ⟨hw,hle⟩:=aa eI u hz hu
    have Hw:=ab hw
    have Hb:=ab bQ
    clear hw hu hz bQ eI iv
    go_wp2
    go_ret2
    have e1:IntKind.u8.wrap (u:Int)=(u:Int):=by simp[IntKind.wrap,IntKind.bits,IntKind.signed];omega
    first
     |exact bT (aa Hb) (aa Hw)
     |(rw[e1];exact bT (aa Hb) (aa Hw))
   ·have hw:=aa iv hu
    have Hw:=ab hw
    have Hb:=ab bQ
    clear hw hu bQ eI iv
    go_wp2
    go_ret2
    exact ez (aa Hb) (aa Hw)
theorem GP {W:World} (hE:gU W) (s:ByteArray) (hs:s.size≤65536) (hfs:1≤s.size) :
  Calls Tryz.prog 164 #[.string s,.int .i64 1,.int .i64 3,.int .i64 8] W (VN W (fin (cO 8 3 ((aI s).drop 1) 0 0) 1)):=by
 go_enter Tryz.func164,Tryz.ntmps164
 go_wp2
 go_loopg [10] 3 (fun gk v10 wr=>∃(j:Nat),v10=.int .i64 ((1+j:Nat):Int)∧gk=3-j∧j≤3∧1+j≤s.size∧wr=W∧Hid (ew 8 3 ((aI s).drop 1)=j+ew 8 (3-j) ((aI s).drop (1+j))))
 case atStart=>exact ⟨0,rfl,rfl,by omega,by omega,rfl,by show _=_;simp⟩
 case round =>
  obtain ⟨j,rfl,eG,hj,hjs,rfl,Hd⟩:=hrel
  obtain ⟨p,hp⟩:∃p,p=1+j:=⟨_,rfl⟩
  rw[←hp] at Hd ⊢
  have ug:p≤s.size:=by omega
  have hpf:1≤p:=by omega
  have Hp:=ab hp
  have jw:=ab eG
  have p0:(0:Int)≤(p:Int):=zH _
  clear eG
  by_cases dB:p<s.size
  ·obtain ⟨x,hx,eL,gx⟩:=cS s p dB
   have fV:(aI s).drop p=x::(aI s).drop (p+1):=by
    obtain ⟨hl,gI⟩:=zB hx
    rw[List.drop_eq_getElem_cons hl,gI]
   have nF:=ab fV
   have p1:(p:Int)<(s.size:Int):=by omega
   clear fV hx
   by_cases iX:j<3
   ·have p2:(p:Int)<(4:Int):=by omega
    clear hp hjs
    by_cases hq:(4:Int)<(s.size:Int)
    ·have Vz:min (s.size:Int) 4=4:=by omega
     have d1:decide ((p:Int)<(4:Int))=true:=by simp;omega
     have qF:=ab iX
     clear iX hq
     go_wp2_with fail
     refine (DO _ x eL).mono ?_
     rintro e w' ⟨d,rfl,he,hd⟩
     obtain rfl:wr=w':=he.symm
     cases d with
     |true =>
      have iX:=aa qF
      have hy:pJ 8 x≠none:=hd.1 rfl
      have lH:ew 8 3 ((aI s).drop 1)=(j+1)+ew 8 (3-(j+1)) ((aI s).drop (p+1)):=by
       rw[aa Hd,aa nF,show 3-j=(3-(j+1))+1 by omega,rN hy];omega
      have iF:=ab lH
      clear lH hy hd Hd nF iX
      go_wp2
      go_roundg (3-(j+1))
      case measure=>have:=aa jw;have:=aa qF;omega
      case rel =>
       have iX:=aa qF
       refine ⟨j+1,?_,rfl,by omega,by have:=aa Hp;omega,rfl,?_⟩
       ·have e:=aa Hp;subst e;go_num
       ·have:=aa iF;rw[aa Hp] at this;exact this
     |false =>
      have fy:ew 8 3 ((aI s).drop 1)=j:=by
       rw[aa Hd,aa nF,rO (fun q=>by simpa using hd.2 q)];rfl
      clear hd nF gx
      have eI:Hid (∀u,0<(s.extract 1 p).size→cz 8 255 (aI (s.extract 1 p)) 0=some u→fin (cO 8 3 ((aI s).drop 1) 0 0) 1=some (u,p)∧u≤255):=fun u h1 h2=>by
       rw[bA] at h2
       have e:=extract_size s 1 p ug;have hp:=aa Hp
       have q:=jR (f:=1) (B:=8) (by decide) (m:=3) (l:=(aI s).drop 1) (u:=u) (by omega) (by rw[fy,show j=p-1 by omega];exact h2)
       rw[fy,←hp] at q
       exact q
      have iv:Hid ((s.extract 1 p).size=0∨cz 8 255 (aI (s.extract 1 p)) 0=none→fin (cO 8 3 ((aI s).drop 1) 0 0) 1=none):=fun h1=>by
       rw[bA] at h1
       have e:=extract_size s 1 p ug;have hp:=aa Hp
       refine lJ (by decide) ?_
       rcases h1 with h1|h1
       ·left;omega
       ·right;rw[fy,show j=p-1 by omega];exact h1
      have Vk:=extract_size s 1 p ug
      have f1:(1:Int)≤(p:Int):=by omega
      have f2:(p:Int)≤(s.size:Int):=by omega
      clear fy Hd
      go_wp2_with fail
      refine ((Dj hE _ (by omega)).2).mono ?_
      rintro e w1 ⟨bQ,⟨u,rfl,hz,hu⟩|⟨u,q,rfl,hu⟩⟩
      ·obtain ⟨hw,hle⟩:=aa eI u hz hu
       have Hw:=ab hw
       have Hb:=ab bQ
       clear hw hu hz bQ eI iv
       go_wp2
       go_ret2
       have e1:IntKind.u8.wrap (u:Int)=(u:Int):=by simp[IntKind.wrap,IntKind.bits,IntKind.signed];omega
       first
        |exact bT (aa Hb) (aa Hw)
        |(rw[e1];exact bT (aa Hb) (aa Hw))
      ·have hw:=aa iv hu
       have Hw:=ab hw
       have Hb:=ab bQ
       clear hw hu bQ eI iv
       go_wp2
       go_ret2
       exact ez (aa Hb) (aa Hw)
    ·have Vz:min (s.size:Int) 4=(s.size:Int):=by omega
     have d1:decide ((p:Int)<(s.size:Int))=true:=by simp;omega
     have qF:=ab iX
     clear iX hq
     go_wp2_with fail
     refine (DO _ x eL).mono ?_
     rintro e w' ⟨d,rfl,he,hd⟩
     obtain rfl:wr=w':=he.symm
     cases d with
     |true =>
      have iX:=aa qF
      have hy:pJ 8 x≠none:=hd.1 rfl
      have lH:ew 8 3 ((aI s).drop 1)=(j+1)+ew 8 (3-(j+1)) ((aI s).drop (p+1)):=by
       rw[aa Hd,aa nF,show 3-j=(3-(j+1))+1 by omega,rN hy];omega
      have iF:=ab lH
      clear lH hy hd Hd nF iX
      go_wp2
      go_roundg (3-(j+1))
      case measure=>have:=aa jw;have:=aa qF;omega
      case rel =>
       have iX:=aa qF
       refine ⟨j+1,?_,rfl,by omega,by have:=aa Hp;omega,rfl,?_⟩
       ·have e:=aa Hp;subst e;go_num
       ·have:=aa iF;rw[aa Hp] at this;exact this
     |false =>
      have fy:ew 8 3 ((aI s).drop 1)=j:=by
       rw[aa Hd,aa nF,rO (fun q=>by simpa using hd.2 q)];rfl
      clear hd nF gx
      have eI:Hid (∀u,0<(s.extract 1 p).size→cz 8 255 (aI (s.extract 1 p)) 0=some u→fin (cO 8 3 ((aI s).drop 1) 0 0) 1=some (u,p)∧u≤255):=fun u h1 h2=>by
       rw[bA] at h2
       have e:=extract_size s 1 p ug;have hp:=aa Hp
       have q:=jR (f:=1) (B:=8) (by decide) (m:=3) (l:=(aI s).drop 1) (u:=u) (by omega) (by rw[fy,show j=p-1 by omega];exact h2)
       rw[fy,←hp] at q
       exact q
      have iv:Hid ((s.extract 1 p).size=0∨cz 8 255 (aI (s.extract 1 p)) 0=none→fin (cO 8 3 ((aI s).drop 1) 0 0) 1=none):=fun h1=>by
       rw[bA] at h1
       have e:=extract_size s 1 p ug;have hp:=aa Hp
       refine lJ (by decide) ?_
       rcases h1 with h1|h1
       ·left;omega
       ·right;rw[fy,show j=p-1 by omega];exact h1
      have Vk:=extract_size s 1 p ug
      have f1:(1:Int)≤(p:Int):=by omega
      have f2:(p:Int)≤(s.size:Int):=by omega
      clear fy Hd
      go_wp2_with fail
      refine ((Dj hE _ (by omega)).2).mono ?_
      rintro e w1 ⟨bQ,⟨u,rfl,hz,hu⟩|⟨u,q,rfl,hu⟩⟩
      ·obtain ⟨hw,hle⟩:=aa eI u hz hu
       have Hw:=ab hw
       have Hb:=ab bQ
       clear hw hu hz bQ eI iv
       go_wp2
       go_ret2
       have e1:IntKind.u8.wrap (u:Int)=(u:Int):=by simp[IntKind.wrap,IntKind.bits,IntKind.signed];omega
       first
        |exact bT (aa Hb) (aa Hw)
        |(rw[e1];exact bT (aa Hb) (aa Hw))
      ·have hw:=aa iv hu
       have Hw:=ab hw
       have Hb:=ab bQ
       clear hw hu bQ eI iv
       go_wp2
       go_ret2
       exact ez (aa Hb) (aa Hw)
   ·have fy:ew 8 3 ((aI s).drop 1)=j:=by
     rw[aa Hd,xz (.inr (by omega))];rfl
    have Vz:min (s.size:Int) 4=4:=by omega
    have d1:decide ((p:Int)<(4:Int))=false:=by simp;omega
    clear hp hjs iX
    clear nF gx
    have eI:Hid (∀u,0<(s.extract 1 p).size→cz 8 255 (aI (s.extract 1 p)) 0=some u→fin (cO 8 3 ((aI s).drop 1) 0 0) 1=some (u,p)∧u≤255):=fun u h1 h2=>by
     rw[bA] at h2
     have e:=extract_size s 1 p ug;have hp:=aa Hp
     have q:=jR (f:=1) (B:=8) (by decide) (m:=3) (l:=(aI s).drop 1) (u:=u) (by omega) (by rw[fy,show j=p-1 by omega];exact h2)
     rw[fy,←hp] at q
     exact q
    have iv:Hid ((s.extract 1 p).size=0∨cz 8 255 (aI (s.extract 1 p)) 0=none→fin (cO 8 3 ((aI s).drop 1) 0 0) 1=none):=fun h1=>by
     rw[bA] at h1
     have e:=extract_size s 1 p ug;have hp:=aa Hp
     refine lJ (by decide) ?_
     rcases h1 with h1|h1
     ·left;omega
     ·right;rw[fy,show j=p-1 by omega];exact h1
    have Vk:=extract_size s 1 p ug
    have f1:(1:Int)≤(p:Int):=by omega
    have f2:(p:Int)≤(s.size:Int):=by omega
    clear fy Hd
    go_wp2_with fail
    refine ((Dj hE _ (by omega)).2).mono ?_
    rintro e w1 ⟨bQ,⟨u,rfl,hz,hu⟩|⟨u,q,rfl,hu⟩⟩
    ·obtain ⟨hw,hle⟩:=aa eI u hz hu
     have Hw:=ab hw
     have Hb:=ab bQ
     clear hw hu hz bQ eI iv
     go_wp2
     go_ret2
     have e1:IntKind.u8.wrap (u:Int)=(u:Int):=by simp[IntKind.wrap,IntKind.bits,IntKind.signed];omega
     first
      |exact bT (aa Hb) (aa Hw)
      |(rw[e1];exact bT (aa Hb) (aa Hw))
    ·have hw:=aa iv hu
     have Hw:=ab hw
     have Hb:=ab bQ
     clear hw hu bQ eI iv
     go_wp2
     go_ret2
     exact ez (aa Hb) (aa Hw)
  ·have fy:ew 8 3 ((aI s).drop 1)=j:=by
    rw[aa Hd,xz (.inl (List.drop_eq_nil_of_le (by rw[bG];omega)))];rfl
   have Vz:min (s.size:Int) 4=(s.size:Int):=by omega
   have d1:decide ((p:Int)<(s.size:Int))=false:=by simp;omega
   clear hp hjs
   have eI:Hid (∀u,0<(s.extract 1 p).size→cz 8 255 (aI (s.extract 1 p)) 0=some u→fin (cO 8 3 ((aI s).drop 1) 0 0) 1=some (u,p)∧u≤255):=fun u h1 h2=>by
    rw[bA] at h2
    have e:=extract_size s 1 p ug;have hp:=aa Hp
    have q:=jR (f:=1) (B:=8) (by decide) (m:=3) (l:=(aI s).drop 1) (u:=u) (by omega) (by rw[fy,show j=p-1 by omega];exact h2)
    rw[fy,←hp] at q
    exact q
   have iv:Hid ((s.extract 1 p).size=0∨cz 8 255 (aI (s.extract 1 p)) 0=none→fin (cO 8 3 ((aI s).drop 1) 0 0) 1=none):=fun h1=>by
    rw[bA] at h1
    have e:=extract_size s 1 p ug;have hp:=aa Hp
    refine lJ (by decide) ?_
    rcases h1 with h1|h1
    ·left;omega
    ·right;rw[fy,show j=p-1 by omega];exact h1
   have Vk:=extract_size s 1 p ug
   have f1:(1:Int)≤(p:Int):=by omega
   have f2:(p:Int)≤(s.size:Int):=by omega
   clear fy Hd
   go_wp2_with fail
   refine ((Dj hE _ (by omega)).2).mono ?_
   rintro e w1 ⟨bQ,⟨u,rfl,hz,hu⟩|⟨u,q,rfl,hu⟩⟩
   ·obtain ⟨hw,hle⟩:=aa eI u hz hu
    have Hw:=ab hw
    have Hb:=ab bQ
    clear hw hu hz bQ eI iv
    go_wp2
    go_ret2
    have e1:IntKind.u8.wrap (u:Int)=(u:Int):=by simp[IntKind.wrap,IntKind.bits,IntKind.signed];omega
    first
     |exact bT (aa Hb) (aa Hw)
     |(rw[e1];exact bT (aa Hb) (aa Hw))
   ·have hw:=aa iv hu
    have Hw:=ab hw
    have Hb:=ab bQ
    clear hw hu bQ eI iv
    go_wp2
    go_ret2
    exact ez (aa Hb) (aa Hw)
end Go.Proofs.YtjophoclfccmcaaGreatDoor
