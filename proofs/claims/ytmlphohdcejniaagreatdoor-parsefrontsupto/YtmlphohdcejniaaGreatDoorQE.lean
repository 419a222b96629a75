import Derived.Test.YtmlphohdcejniaaGreatDoorM04
set_option maxHeartbeats 2000000
set_option maxRecDepth 100000
namespace Go.Proofs.YtmlphohdcejniaaGreatDoor
open Go.RowKit
attribute [local go_sem ↓] Go.wp_at_zero Go.wp_at_succ
theorem aaO {x:Nat}:rO 8 x≠none↔48≤x∧x≤55:=by
 unfold rO Eg
 by_cases h1:48≤x∧x≤57
 ·rw[if_pos h1]
  show (if x-48<8 then some (x-48) else none)≠none↔_
  split
  ·simp;omega
  ·simp;omega
 ·rw[if_neg h1]
  by_cases h2:65≤x∧x≤90
  ·rw[if_pos h2]
   show (if x-55<8 then some (x-55) else none)≠none↔_
   rw[if_neg (by omega)]
   simp;omega
  ·rw[if_neg h2]
   by_cases h3:97≤x∧x≤122
   ·rw[if_pos h3]
    show (if x-87<8 then some (x-87) else none)≠none↔_
    rw[if_neg (by omega)]
    simp;omega
   ·rw[if_neg h3]
    simp;omega
theorem XW {x:Nat}:rO 16 x≠none↔(48≤x∧x≤57)∨(97≤x∧x≤102)∨(65≤x∧x≤70):=by
 unfold rO Eg
 by_cases h1:48≤x∧x≤57
 ·rw[if_pos h1]
  show (if x-48<16 then some (x-48) else none)≠none↔_
  rw[if_pos (by omega)]
  simp;omega
 ·rw[if_neg h1]
  by_cases h2:65≤x∧x≤90
  ·rw[if_pos h2]
   show (if x-55<16 then some (x-55) else none)≠none↔_
   split
   ·simp;omega
   ·simp;omega
  ·rw[if_neg h2]
   by_cases h3:97≤x∧x≤122
   ·rw[if_pos h3]
    show (if x-87<16 then some (x-87) else none)≠none↔_
    split
    ·simp;omega
    ·simp;omega
   ·rw[if_neg h3]
    simp;omega
def OU (W:World) (p:Prop) (e:Ending) (w:World):Prop:=∃b:Bool,e=.returned (.bool b)∧w=W∧(b=true↔p)
theorem SA {W:World}{p:Prop} (b:Bool) (h:b=true↔p):OU W p (.returned (.bool b)) W:=⟨b,rfl,rfl,h⟩
theorem DJ (W:World) (x:Nat) (hx:x<256):Calls Tryz.prog 169 #[.int .u8 (x:Int),.int .i64 8] W (OU W (rO 8 x≠none)):=by
 rw[aaO]
 go_enter Tryz.func169,Tryz.ntmps169
 go_wp2
 all_goals (go_ret;refine SA _ ?_;simp;omega)
theorem Ao (W:World) (x:Nat) (hx:x<256):Calls Tryz.prog 169 #[.int .u8 (x:Int),.int .i64 16] W (OU W (rO 16 x≠none)):=by
 rw[XW]
 go_enter Tryz.func169,Tryz.ntmps169
 go_wp2
 all_goals (go_ret;refine SA _ ?_;simp;omega)
theorem C8 {W:World} (h:gM W) (s:ByteArray) (hs:s.size≤65536) :
  Calls Tryz.prog 86 #[.string s,.int .i64 16,.int .i64 8] W (WV W 16 255 s) ∧
  Calls Tryz.prog 86 #[.string s,.int .i64 8,.int .i64 8] W (WV W 8 255 s):=by
 exact ⟨kC h s hs _ _ _ _ (xb (Or.inr (Or.inr (Or.inr (Or.inl ⟨rfl,rfl,rfl,rfl,rfl,rfl⟩)))) W s hs),kC h s hs _ _ _ _ (xb (Or.inr (Or.inr (Or.inr (Or.inr ⟨rfl,rfl,rfl,rfl,rfl,rfl⟩)))) W s hs)⟩
def VN (W:World) (o:Option (Nat×Nat)) (e:Ending) (w:World):Prop:=Below W.heap.size W w∧((o=none∧e=.returned (.tuple #[.int .u8 0,.int .i64 0]))∨∃v n:Nat,o=some (v,n)∧e=.returned (.tuple #[.int .u8 (v:Int),.int .i64 (n:Int)]))
theorem kz {W w:World}{o:Option (Nat×Nat)} (hb:Below W.heap.size W w) (h:o=none):VN W o (.returned (.tuple #[.int .u8 0,.int .i64 0])) w:=⟨hb,.inl ⟨h,rfl⟩⟩
theorem cS {W w:World}{o:Option (Nat×Nat)}{v n:Nat} (hb:Below W.heap.size W w) (h:o=some (v,n)):VN W o (.returned (.tuple #[.int .u8 (v:Int),.int .i64 (n:Int)])) w:=⟨hb,.inr ⟨v,n,h,rfl⟩⟩
theorem vM {B f:Nat}{l:List Nat} (h:l=[]∨f=0):dS B f l=0:=by
 rcases h with rfl|rfl
 ·cases f<;>rfl
 ·cases l<;>rfl
theorem qK {B f x:Nat}{r:List Nat} (h:¬rO B x≠none):dS B f (x::r)=0:=by
 have h':rO B x=none:=Classical.not_not.1 h
 cases f with
 |zero=>rfl
 |succ f=>simp[dS,h']
theorem qJ {B f x:Nat}{r:List Nat} (h:rO B x≠none):dS B (f+1) (x::r)=dS B f r+1:=by
 obtain ⟨d,hd⟩:=Option.ne_none_iff_exists'.1 h
 simp[dS,hd]
theorem ju {B m f u:Nat}{l:List Nat} (hB:1≤B) (h0:0<dS B m l) (h:cK B 255 (l.take (dS B m l)) 0=some u):fin (dR B m l 0 0) f=some (u,f+dS B m l)∧u≤255:=by
 have h1:=sk hB m l 0 0 (by omega)
 have h2:=nR (B:=B) m l 0 0
 rw[h] at h1
 unfold fin
 split at h1
 ·rename_i hle
  have h3:=zC h1
  rw[if_neg (by omega),←h3,h2,Nat.zero_add]
  exact ⟨rfl,by omega⟩
 ·cases h1
theorem lz {B m f:Nat}{l:List Nat} (hB:1≤B) (h:dS B m l=0∨cK B 255 (l.take (dS B m l)) 0=none):fin (dR B m l 0 0) f=none:=by
 have h1:=sk hB m l 0 0 (by omega)
 have h2:=nR (B:=B) m l 0 0
 unfold fin
 rw[if_pos]
 rcases h with h|h
 ·left;omega
 ·right
  rw[h] at h1
  split at h1
  ·cases h1
  ·omega
theorem yq {W:World} (hE:gM W) (s:ByteArray) (hs:s.size≤65536) (hfs:2≤s.size) :
  Calls Tryz.prog 145 #[.string s,.int .i64 2,.int .i64 2,.int .i64 16] W (VN W (fin (dR 16 2 ((aH s).drop 2) 0 0) 2)):=by
 go_enter Tryz.func145,Tryz.ntmps145
 go_wp2
 go_loopg [10] 2 (fun gk v10 wr=>∃(j:Nat),v10=.int .i64 ((2+j:Nat):Int)∧gk=2-j∧j≤2∧2+j≤s.size∧wr=W∧Hid (dS 16 2 ((aH s).drop 2)=j+dS 16 (2-j) ((aH s).drop (2+j))))
 case atStart=>exact ⟨0,rfl,rfl,by omega,by omega,rfl,by show _=_;simp⟩
 case round =>
  obtain ⟨j,rfl,fi,hj,QQ,rfl,Hd⟩:=hrel
  obtain ⟨p,hp⟩:∃p,p=2+j:=⟨_,rfl⟩
  rw[←hp] at Hd ⊢
  have kJ:p≤s.size:=by omega
  have hpf:2≤p:=by omega
  have Hp:=aj hp
  have gA:=aj fi
  have p0:(0:Int)≤(p:Int):=zH _
  clear fi
  by_cases cw:p<s.size
  ·obtain ⟨x,hx,fO,gx⟩:=iV s p cw
   have sL:(aH s).drop p=x::(aH s).drop (p+1):=by
    obtain ⟨hl,rS⟩:=zB hx
    rw[List.drop_eq_getElem_cons hl,rS]
   have Cq:=aj sL
   have p1:(p:Int)<(s.size:Int):=by omega
   clear sL hx
   by_cases eP:j<2
   ·have p2:(p:Int)<(4:Int):=by omega
    clear hp QQ
    by_cases hq:(4:Int)<(s.size:Int)
    ·have UD:min (s.size:Int) 4=4:=by omega
     have d1:decide ((p:Int)<(4:Int))=true:=by simp;omega
     have im:=aj eP
     clear eP hq
     go_wp2_with fail
     refine (Ao _ x fO).mono ?_
     rintro e w' ⟨d,rfl,he,hd⟩
     obtain rfl:wr=w':=he.symm
     cases d with
     |true =>
      have eP:=aa im
      have hy:rO 16 x≠none:=hd.1 rfl
      have ln:dS 16 2 ((aH s).drop 2)=(j+1)+dS 16 (2-(j+1)) ((aH s).drop (p+1)):=by
       rw[aa Hd,aa Cq,show 2-j=(2-(j+1))+1 by omega,qJ hy];omega
      have pj:=aj ln
      clear ln hy hd Hd Cq eP
      go_wp2
      go_roundg (2-(j+1))
      case measure=>have:=aa gA;have:=aa im;omega
      case rel =>
       have eP:=aa im
       refine ⟨j+1,?_,rfl,by omega,by have:=aa Hp;omega,rfl,?_⟩
       ·have e:=aa Hp;subst e;go_num
       ·have:=aa pj;rw[aa Hp] at this;exact this
     |false =>
      have fj:dS 16 2 ((aH s).drop 2)=j:=by
       rw[aa Hd,aa Cq,qK (fun q=>by simpa using hd.2 q)];rfl
      clear hd Cq gx
      have ed:Hid (∀u,0<(s.extract 2 p).size→cK 16 255 (aH (s.extract 2 p)) 0=some u→fin (dR 16 2 ((aH s).drop 2) 0 0) 2=some (u,p)∧u≤255):=fun u h1 h2=>by
       rw[bc] at h2
       have e:=extract_size s 2 p kJ;have hp:=aa Hp
       have q:=ju (f:=2) (B:=16) (by decide) (m:=2) (l:=(aH s).drop 2) (u:=u) (by omega) (by rw[fj,show j=p-2 by omega];exact h2)
       rw[fj,←hp] at q
       exact q
      have gX:Hid ((s.extract 2 p).size=0∨cK 16 255 (aH (s.extract 2 p)) 0=none→fin (dR 16 2 ((aH s).drop 2) 0 0) 2=none):=fun h1=>by
       rw[bc] at h1
       have e:=extract_size s 2 p kJ;have hp:=aa Hp
       refine lz (by decide) ?_
       rcases h1 with h1|h1
       ·left;omega
       ·right;rw[fj,show j=p-2 by omega];exact h1
      have Uo:=extract_size s 2 p kJ
      have f1:(2:Int)≤(p:Int):=by omega
      have f2:(p:Int)≤(s.size:Int):=by omega
      clear fj Hd
      go_wp2_with fail
      refine ((C8 hE _ (by omega)).1).mono ?_
      rintro e w1 ⟨bF,⟨u,rfl,hz,hu⟩|⟨u,q,rfl,hu⟩⟩
      ·obtain ⟨hw,hle⟩:=aa ed u hz hu
       have Hw:=aj hw
       have Hb:=aj bF
       clear hw hu hz bF ed gX
       go_wp2
       go_ret2
       have e1:IntKind.u8.wrap (u:Int)=(u:Int):=by simp[IntKind.wrap,IntKind.bits,IntKind.signed];omega
       first
        |exact cS (aa Hb) (aa Hw)
        |(rw[e1];exact cS (aa Hb) (aa Hw))
      ·have hw:=aa gX hu
       have Hw:=aj hw
       have Hb:=aj bF
       clear hw hu bF ed gX
       go_wp2
       go_ret2
       exact kz (aa Hb) (aa Hw)
    ·have UD:min (s.size:Int) 4=(s.size:Int):=by omega
     have d1:decide ((p:Int)<(s.size:Int))=true:=by simp;omega
     have im:=aj eP
     clear eP hq
     go_wp2_with fail
     refine (Ao _ x fO).mono ?_
     rintro e w' ⟨d,rfl,he,hd⟩
     obtain rfl:wr=w':=he.symm
     cases d with
     |true =>
      have eP:=aa im
      have hy:rO 16 x≠none:=hd.1 rfl
      have ln:dS 16 2 ((aH s).drop 2)=(j+1)+dS 16 (2-(j+1)) ((aH s).drop (p+1)):=by
       rw[aa Hd,aa Cq,show 2-j=(2-(j+1))+1 by omega,qJ hy];omega
      have pj:=aj ln
      clear ln hy hd Hd Cq eP
      go_wp2
      go_roundg (2-(j+1))
      case measure=>have:=aa gA;have:=aa im;omega
      case rel =>
       have eP:=aa im
       refine ⟨j+1,?_,rfl,by omega,by have:=aa Hp;omega,rfl,?_⟩
       ·have e:=aa Hp;subst e;go_num
       ·have:=aa pj;rw[aa Hp] at this;exact this
     |false =>
      have fj:dS 16 2 ((aH s).drop 2)=j:=by
       rw[aa Hd,aa Cq,qK (fun q=>by simpa using hd.2 q)];rfl
      clear hd Cq gx
      have ed:Hid (∀u,0<(s.extract 2 p).size→cK 16 255 (aH (s.extract 2 p)) 0=some u→fin (dR 16 2 ((aH s).drop 2) 0 0) 2=some (u,p)∧u≤255):=fun u h1 h2=>by
       rw[bc] at h2
       have e:=extract_size s 2 p kJ;have hp:=aa Hp
       have q:=ju (f:=2) (B:=16) (by decide) (m:=2) (l:=(aH s).drop 2) (u:=u) (by omega) (by rw[fj,show j=p-2 by omega];exact h2)
       rw[fj,←hp] at q
       exact q
      have gX:Hid ((s.extract 2 p).size=0∨cK 16 255 (aH (s.extract 2 p)) 0=none→fin (dR 16 2 ((aH s).drop 2) 0 0) 2=none):=fun h1=>by
       rw[bc] at h1
       have e:=extract_size s 2 p kJ;have hp:=aa Hp
       refine lz (by decide) ?_
       rcases h1 with h1|h1
       ·left;omega
       ·right;rw[fj,show j=p-2 by omega];exact h1
      have Uo:=extract_size s 2 p kJ
      have f1:(2:Int)≤(p:Int):=by omega
      have f2:(p:Int)≤(s.size:Int):=by omega
      clear fj Hd
      go_wp2_with fail
      refine ((C8 hE _ (by omega)).1).mono ?_
      rintro e w1 ⟨bF,⟨u,rfl,hz,hu⟩|⟨u,q,rfl,hu⟩⟩
      ·obtain ⟨hw,hle⟩:=aa ed u hz hu
       have Hw:=aj hw
       have Hb:=aj bF
       clear hw hu hz bF ed gX
       go_wp2
       go_ret2
       have e1:IntKind.u8.wrap (u:Int)=(u:Int):=by simp[IntKind.wrap,IntKind.bits,IntKind.signed];omega
       first
        |exact cS (aa Hb) (aa Hw)
        |(rw[e1];exact cS (aa Hb) (aa Hw))
      ·have hw:=aa gX hu
       have Hw:=aj hw
       have Hb:=aj bF
       clear hw hu bF ed gX
       go_wp2
       go_ret2
       exact kz (aa Hb) (aa Hw)
   ·have fj:dS 16 2 ((aH s).drop 2)=j:=by
     rw[aa Hd,vM (.inr (by omega))];rfl
    have UD:min (s.size:Int) 4=4:=by omega
    have d1:decide ((p:Int)<(4:Int))=false:=by simp;omega
    clear hp QQ eP
    clear Cq gx
    have ed:Hid (∀u,0<(s.extract 2 p).size→cK 16 255 (aH (s.extract 2 p)) 0=some u→fin (dR 16 2 ((aH s).drop 2) 0 0) 2=some (u,p)∧u≤255):=fun u h1 h2=>by
     rw[bc] at h2
     have e:=extract_size s 2 p kJ;have hp:=aa Hp
     have q:=ju (f:=2) (B:=16) (by decide) (m:=2) (l:=(aH s).drop 2) (u:=u) (by omega) (by rw[fj,show j=p-2 by omega];exact h2)
     rw[fj,←hp] at q
     exact q
    have gX:Hid ((s.extract 2 p).size=0∨cK 16 255 (aH (s.extract 2 p)) 0=none→fin (dR 16 2 ((aH s).drop 2) 0 0) 2=none):=fun h1=>by
     rw[bc] at h1
     have e:=extract_size s 2 p kJ;have hp:=aa Hp
     refine lz (by decide) ?_
     rcases h1 with h1|h1
     ·left;omega
     ·right;rw[fj,show j=p-2 by omega];exact h1
    have Uo:=extract_size s 2 p kJ
    have f1:(2:Int)≤(p:Int):=by omega
    have f2:(p:Int)≤(s.size:Int):=by omega
    clear fj Hd
    go_wp2_with fail
    refine ((C8 hE _ (by omega)).1).mono ?_
    rintro e w1 ⟨bF,⟨u,rfl,hz,hu⟩|⟨u,q,rfl,hu⟩⟩
    ·obtain ⟨hw,hle⟩:=aa ed u hz hu
     have Hw:=aj hw
     have Hb:=aj bF
     clear hw hu hz bF ed gX
     go_wp2
     go_ret2
     have e1:IntKind.u8.wrap (u:Int)=(u:Int):=by simp[IntKind.wrap,IntKind.bits,IntKind.signed];omega
     first
      |exact cS (aa Hb) (aa Hw)
      |(rw[e1];exact cS (aa Hb) (aa Hw))
    ·have hw:=aa gX hu
     have Hw:=aj hw
     have Hb:=aj bF
     clear hw hu bF ed gX
     go_wp2
     go_ret2
     exact kz (aa Hb) (aa Hw)
  ·have fj:dS 16 2 ((aH s).drop 2)=j:=by
    rw[aa Hd,vM (.inl (List.drop_eq_nil_of_le (by rw[bk];omega)))];rfl
   have UD:min (s.size:Int) 4=(s.size:Int):=by omega
   have d1:decide ((p:Int)<(s.size:Int))=false:=by simp;omega
   clear hp QQ
   have ed:Hid (∀u,0<(s.extract 2 p).size→cK 16 255 (aH (s.extract 2 p)) 0=some u→fin (dR 16 2 ((aH s).drop 2) 0 0) 2=some (u,p)∧u≤255):=fun u h1 h2=>by
    rw[bc] at h2
    have e:=extract_size s 2 p kJ;have hp:=aa Hp
    have q:=ju (f:=2) (B:=16) (by decide) (m:=2) (l:=(aH s).drop 2) (u:=u) (by omega) (by rw[fj,show j=p-2 by omega];exact h2)
    rw[fj,←hp] at q
    exact q
   have gX:Hid ((s.extract 2 p).size=0∨cK 16 255 (aH (s.extract 2 p)) 0=none→fin (dR 16 2 ((aH s).drop 2) 0 0) 2=none):=fun h1=>by
    rw[bc] at h1
    have e:=extract_size s 2 p kJ;have hp:=aa Hp
    refine lz (by decide) ?_
    rcases h1 with h1|h1
    ·left;omega
    ·right;rw[fj,show j=p-2 by omega];exact h1
   have Uo:=extract_size s 2 p kJ
   have f1:(2:Int)≤(p:Int):=by omega
   have f2:(p:Int)≤(s.size:Int):=by omega
   clear fj Hd
   go_wp2_with fail
   refine ((C8 hE _ (by omega)).1).mono ?_
   rintro e w1 ⟨bF,⟨u,rfl,hz,hu⟩|⟨u,q,rfl,hu⟩⟩
   ·obtain ⟨hw,hle⟩:=aa ed u hz hu
    have Hw:=aj hw
    have Hb:=aj bF
    clear hw hu hz bF ed gX
    go_wp2
    go_ret2
    have e1:IntKind.u8.wrap (u:Int)=(u:Int):=by simp[IntKind.wrap,IntKind.bits,IntKind.signed];omega
    first
     |exact cS (aa Hb) (aa Hw)
     |(rw[e1];exact cS (aa Hb) (aa Hw))
   ·have hw:=aa gX hu
    have Hw:=aj hw
    have Hb:=aj bF
    clear hw hu bF ed gX
    go_wp2
    go_ret2
    exact kz (aa Hb) (aa Hw)
theorem Gu {W:World} (hE:gM W) (s:ByteArray) (hs:s.size≤65536) (hfs:1≤s.size) :
  Calls Tryz.prog 145 #[.string s,.int .i64 1,.int .i64 3,.int .i64 8] W (VN W (fin (dR 8 3 ((aH s).drop 1) 0 0) 1)):=by
 go_enter Tryz.func145,Tryz.ntmps145
 go_wp2
 go_loopg [10] 3 (fun gk v10 wr=>∃(j:Nat),v10=.int .i64 ((1+j:Nat):Int)∧gk=3-j∧j≤3∧1+j≤s.size∧wr=W∧Hid (dS 8 3 ((aH s).drop 1)=j+dS 8 (3-j) ((aH s).drop (1+j))))
 case atStart=>exact ⟨0,rfl,rfl,by omega,by omega,rfl,by show _=_;simp⟩
 case round =>
  obtain ⟨j,rfl,fi,hj,QQ,rfl,Hd⟩:=hrel
  obtain ⟨p,hp⟩:∃p,p=1+j:=⟨_,rfl⟩
  rw[←hp] at Hd ⊢
  have kJ:p≤s.size:=by omega
  have hpf:1≤p:=by omega
  have Hp:=aj hp
  have gA:=aj fi
  have p0:(0:Int)≤(p:Int):=zH _
  clear fi
  by_cases cw:p<s.size
  ·obtain ⟨x,hx,fO,gx⟩:=iV s p cw
   have sL:(aH s).drop p=x::(aH s).drop (p+1):=by
    obtain ⟨hl,rS⟩:=zB hx
    rw[List.drop_eq_getElem_cons hl,rS]
   have Cq:=aj sL
   have p1:(p:Int)<(s.size:Int):=by omega
   clear sL hx
   by_cases eP:j<3
   ·have p2:(p:Int)<(4:Int):=by omega
    clear hp QQ
    by_cases hq:(4:Int)<(s.size:Int)
    ·have UD:min (s.size:Int) 4=4:=by omega
     have d1:decide ((p:Int)<(4:Int))=true:=by simp;omega
     have im:=aj eP
     clear eP hq
     go_wp2_with fail
     refine (DJ _ x fO).mono ?_
     rintro e w' ⟨d,rfl,he,hd⟩
     obtain rfl:wr=w':=he.symm
     cases d with
     |true =>
      have eP:=aa im
      have hy:rO 8 x≠none:=hd.1 rfl
      have ln:dS 8 3 ((aH s).drop 1)=(j+1)+dS 8 (3-(j+1)) ((aH s).drop (p+1)):=by
       rw[aa Hd,aa Cq,show 3-j=(3-(j+1))+1 by omega,qJ hy];omega
      have pj:=aj ln
      clear ln hy hd Hd Cq eP
      go_wp2
      go_roundg (3-(j+1))
      case measure=>have:=aa gA;have:=aa im;omega
      case rel =>
       have eP:=aa im
       refine ⟨j+1,?_,rfl,by omega,by have:=aa Hp;omega,rfl,?_⟩
       ·have e:=aa Hp;subst e;go_num
       ·have:=aa pj;rw[aa Hp] at this;exact this
     |false =>
      have fj:dS 8 3 ((aH s).drop 1)=j:=by
       rw[aa Hd,aa Cq,qK (fun q=>by simpa using hd.2 q)];rfl
      clear hd Cq gx
      have ed:Hid (∀u,0<(s.extract 1 p).size→cK 8 255 (aH (s.extract 1 p)) 0=some u→fin (dR 8 3 ((aH s).drop 1) 0 0) 1=some (u,p)∧u≤255):=fun u h1 h2=>by
       rw[bc] at h2
       have e:=extract_size s 1 p kJ;have hp:=aa Hp
       have q:=ju (f:=1) (B:=8) (by decide) (m:=3) (l:=(aH s).drop 1) (u:=u) (by omega) (by rw[fj,show j=p-1 by omega];exact h2)
       rw[fj,←hp] at q
       exact q
      have gX:Hid ((s.extract 1 p).size=0∨cK 8 255 (aH (s.extract 1 p)) 0=none→fin (dR 8 3 ((aH s).drop 1) 0 0) 1=none):=fun h1=>by
       rw[bc] at h1
       have e:=extract_size s 1 p kJ;have hp:=aa Hp
       refine lz (by decide) ?_
       rcases h1 with h1|h1
       ·left;omega
       ·right;rw[fj,show j=p-1 by omega];exact h1
      have Uo:=extract_size s 1 p kJ
      have f1:(1:Int)≤(p:Int):=by omega
      have f2:(p:Int)≤(s.size:Int):=by omega
      clear fj Hd
      go_wp2_with fail
      refine ((C8 hE _ (by omega)).2).mono ?_
      rintro e w1 ⟨bF,⟨u,rfl,hz,hu⟩|⟨u,q,rfl,hu⟩⟩
      ·obtain ⟨hw,hle⟩:=aa ed u hz hu
       have Hw:=aj hw
       have Hb:=aj bF
       clear hw hu hz bF ed gX
       go_wp2
       go_ret2
       have e1:IntKind.u8.wrap (u:Int)=(u:Int):=by simp[IntKind.wrap,IntKind.bits,IntKind.signed];omega
       first
        |exact cS (aa Hb) (aa Hw)
        |(rw[e1];exact cS (aa Hb) (aa Hw))
      ·have hw:=aa gX hu
       have Hw:=aj hw
       have Hb:=aj bF
       clear hw hu bF ed gX
       go_wp2
       go_ret2
       exact kz (aa Hb) (aa Hw)
    ·have UD:min (s.size:Int) 4=(s.size:Int):=by omega
     have d1:decide ((p:Int)<(s.size:Int))=true:=by simp;omega
     have im:=aj eP
     clear eP hq
     go_wp2_with fail
     refine (DJ _ x fO).mono ?_
     rintro e w' ⟨d,rfl,he,hd⟩
     obtain rfl:wr=w':=he.symm
     cases d with
     |true =>
      have eP:=aa im
      have hy:rO 8 x≠none:=hd.1 rfl
      have ln:dS 8 3 ((aH s).drop 1)=(j+1)+dS 8 (3-(j+1)) ((aH s).drop (p+1)):=by
       rw[aa Hd,aa Cq,show 3-j=(3-(j+1))+1 by omega,qJ hy];omega
      have pj:=aj ln
      clear ln hy hd Hd Cq eP
      go_wp2
      go_roundg (3-(j+1))
      case measure=>have:=aa gA;have:=aa im;omega
      case rel =>
       have eP:=aa im
       refine ⟨j+1,?_,rfl,by omega,by have:=aa Hp;omega,rfl,?_⟩
       ·have e:=aa Hp;subst e;go_num
       ·have:=aa pj;rw[aa Hp] at this;exact this
     |false =>
      have fj:dS 8 3 ((aH s).drop 1)=j:=by
       rw[aa Hd,aa Cq,qK (fun q=>by simpa using hd.2 q)];rfl
      clear hd Cq gx
      have ed:Hid (∀u,0<(s.extract 1 p).size→cK 8 255 (aH (s.extract 1 p)) 0=some u→fin (dR 8 3 ((aH s).drop 1) 0 0) 1=some (u,p)∧u≤255):=fun u h1 h2=>by
       rw[bc] at h2
       have e:=extract_size s 1 p kJ;have hp:=aa Hp
       have q:=ju (f:=1) (B:=8) (by decide) (m:=3) (l:=(aH s).drop 1) (u:=u) (by omega) (by rw[fj,show j=p-1 by omega];exact h2)
       rw[fj,←hp] at q
       exact q
      have gX:Hid ((s.extract 1 p).size=0∨cK 8 255 (aH (s.extract 1 p)) 0=none→fin (dR 8 3 ((aH s).drop 1) 0 0) 1=none):=fun h1=>by
       rw[bc] at h1
       have e:=extract_size s 1 p kJ;have hp:=aa Hp
       refine lz (by decide) ?_
       rcases h1 with h1|h1
       ·left;omega
       ·right;rw[fj,show j=p-1 by omega];exact h1
      have Uo:=extract_size s 1 p kJ
      have f1:(1:Int)≤(p:Int):=by omega
      have f2:(p:Int)≤(s.size:Int):=by omega
      clear fj Hd
      go_wp2_with fail
      refine ((C8 hE _ (by omega)).2).mono ?_
      rintro e w1 ⟨bF,⟨u,rfl,hz,hu⟩|⟨u,q,rfl,hu⟩⟩
      ·obtain ⟨hw,hle⟩:=aa ed u hz hu
       have Hw:=aj hw
       have Hb:=aj bF
       clear hw hu hz bF ed gX
       go_wp2
       go_ret2
       have e1:IntKind.u8.wrap (u:Int)=(u:Int):=by simp[IntKind.wrap,IntKind.bits,IntKind.signed];omega
       first
        |exact cS (aa Hb) (aa Hw)
        |(rw[e1];exact cS (aa Hb) (aa Hw))
      ·have hw:=aa gX hu
       have Hw:=aj hw
       have Hb:=aj bF
       clear hw hu bF ed gX
       go_wp2
       go_ret2
       exact kz (aa Hb) (aa Hw)
   ·have fj:dS 8 3 ((aH s).drop 1)=j:=by
     rw[aa Hd,vM (.inr (by omega))];rfl
    have UD:min (s.size:Int) 4=4:=by omega
    have d1:decide ((p:Int)<(4:Int))=false:=by simp;omega
    clear hp QQ eP
    clear Cq gx
    have ed:Hid (∀u,0<(s.extract 1 p).size→cK 8 255 (aH (s.extract 1 p)) 0=some u→fin (dR 8 3 ((aH s).drop 1) 0 0) 1=some (u,p)∧u≤255):=fun u h1 h2=>by
     rw[bc] at h2
     have e:=extract_size s 1 p kJ;have hp:=aa Hp
     have q:=ju (f:=1) (B:=8) (by decide) (m:=3) (l:=(aH s).drop 1) (u:=u) (by omega) (by rw[fj,show j=p-1 by omega];exact h2)
     rw[fj,←hp] at q
     exact q
    have gX:Hid ((s.extract 1 p).size=0∨cK 8 255 (aH (s.extract 1 p)) 0=none→fin (dR 8 3 ((aH s).drop 1) 0 0) 1=none):=fun h1=>by
     rw[bc] at h1
     have e:=extract_size s 1 p kJ;have hp:=aa Hp
     refine lz (by decide) ?_
     rcases h1 with h1|h1
     ·left;omega
     ·right;rw[fj,show j=p-1 by omega];exact h1
    have Uo:=extract_size s 1 p kJ
    have f1:(1:Int)≤(p:Int):=by omega
    have f2:(p:Int)≤(s.size:Int):=by omega
    clear fj Hd
    go_wp2_with fail
    refine ((C8 hE _ (by omega)).2).mono ?_
    rintro e w1 ⟨bF,⟨u,rfl,hz,hu⟩|⟨u,q,rfl,hu⟩⟩
    ·obtain ⟨hw,hle⟩:=aa ed u hz hu
     have Hw:=aj hw
     have Hb:=aj bF
     clear hw hu hz bF ed gX
     go_wp2
     go_ret2
     have e1:IntKind.u8.wrap (u:Int)=(u:Int):=by simp[IntKind.wrap,IntKind.bits,IntKind.signed];omega
     first
      |exact cS (aa Hb) (aa Hw)
      |(rw[e1];exact cS (aa Hb) (aa Hw))
    ·have hw:=aa gX hu
     have Hw:=aj hw
     have Hb:=aj bF
     clear hw hu bF ed gX
     go_wp2
     go_ret2
     exact kz (aa Hb) (aa Hw)
  ·have fj:dS 8 3 ((aH s).drop 1)=j:=by
    rw[aa Hd,vM (.inl (List.drop_eq_nil_of_le (by rw[bk];omega)))];rfl
   have UD:min (s.size:Int) 4=(s.size:Int):=by omega
   have d1:decide ((p:Int)<(s.size:Int))=false:=by simp;omega
   clear hp QQ
   have ed:Hid (∀u,0<(s.extract 1 p).size→cK 8 255 (aH (s.extract 1 p)) 0=some u→fin (dR 8 3 ((aH s).drop 1) 0 0) 1=some (u,p)∧u≤255):=fun u h1 h2=>by
    rw[bc] at h2
    have e:=extract_size s 1 p kJ;have hp:=aa Hp
    have q:=ju (f:=1) (B:=8) (by decide) (m:=3) (l:=(aH s).drop 1) (u:=u) (by omega) (by rw[fj,show j=p-1 by omega];exact h2)
    rw[fj,←hp] at q
    exact q
   have gX:Hid ((s.extract 1 p).size=0∨cK 8 255 (aH (s.extract 1 p)) 0=none→fin (dR 8 3 ((aH s).drop 1) 0 0) 1=none):=fun h1=>by
    rw[bc] at h1
    have e:=extract_size s 1 p kJ;have hp:=aa Hp
    refine lz (by decide) ?_
    rcases h1 with h1|h1
    ·left;omega
    ·right;rw[fj,show j=p-1 by omega];exact h1
   have Uo:=extract_size s 1 p kJ
   have f1:(1:Int)≤(p:Int):=by omega
   have f2:(p:Int)≤(s.size:Int):=by omega
   clear fj Hd
   go_wp2_with fail
   refine ((C8 hE _ (by omega)).2).mono ?_
   rintro e w1 ⟨bF,⟨u,rfl,hz,hu⟩|⟨u,q,rfl,hu⟩⟩
   ·obtain ⟨hw,hle⟩:=aa ed u hz hu
    have Hw:=aj hw
    have Hb:=aj bF
    clear hw hu hz bF ed gX
    go_wp2
    go_ret2
    have e1:IntKind.u8.wrap (u:Int)=(u:Int):=by simp[IntKind.wrap,IntKind.bits,IntKind.signed];omega
    first
     |exact cS (aa Hb) (aa Hw)
     |(rw[e1];exact cS (aa Hb) (aa Hw))
   ·have hw:=aa gX hu
    have Hw:=aj hw
    have Hb:=aj bF
    clear hw hu bF ed gX
    go_wp2
    go_ret2
    exact kz (aa Hb) (aa Hw)
end Go.Proofs.YtmlphohdcejniaaGreatDoor
