import Derived.Test.YtjophoclfccmcaaGreatDoorM03
set_option maxHeartbeats 2000000
set_option maxRecDepth 100000
namespace Go.Proofs.YtjophoclfccmcaaGreatDoor
open Go.RowKit
attribute [local go_sem ↓] Go.wp_at_zero Go.wp_at_succ
theorem U3 {x:Nat}:pE 8 x≠none↔48≤x∧x≤55:=by
 unfold pE Ck
 by_cases h1:48≤x∧x≤57
 ·rw[if_pos h1]
  show (if x-48<8 then some (x-48) else none)≠none↔_
  split
  ·simp;omega
  ·simp;omega
 ·rw[if_neg h1]
  by_cases h2:65≤x∧x≤90
  ·rw[if_pos h2]
   show (if x-55<8 then some (x-55) else none)≠none↔_
   rw[if_neg (by omega)]
   simp;omega
  ·rw[if_neg h2]
   by_cases h3:97≤x∧x≤122
   ·rw[if_pos h3]
    show (if x-87<8 then some (x-87) else none)≠none↔_
    rw[if_neg (by omega)]
    simp;omega
   ·rw[if_neg h3]
    simp;omega
theorem YF {x:Nat}:pE 16 x≠none↔(48≤x∧x≤57)∨(97≤x∧x≤102)∨(65≤x∧x≤70):=by
 unfold pE Ck
 by_cases h1:48≤x∧x≤57
 ·rw[if_pos h1]
  show (if x-48<16 then some (x-48) else none)≠none↔_
  rw[if_pos (by omega)]
  simp;omega
 ·rw[if_neg h1]
  by_cases h2:65≤x∧x≤90
  ·rw[if_pos h2]
   show (if x-55<16 then some (x-55) else none)≠none↔_
   split
   ·simp;omega
   ·simp;omega
  ·rw[if_neg h2]
   by_cases h3:97≤x∧x≤122
   ·rw[if_pos h3]
    show (if x-87<16 then some (x-87) else none)≠none↔_
    split
    ·simp;omega
    ·simp;omega
   ·rw[if_neg h3]
    simp;omega
def Jl (W:World) (p:Prop) (e:Ending) (w:World):Prop:=∃b:Bool,e=.returned (.bool b)∧w=W∧(b=true↔p)
theorem Mt {W:World}{p:Prop} (b:Bool) (h:b=true↔p):Jl W p (.returned (.bool b)) W:=⟨b,rfl,rfl,h⟩
theorem DV (W:World) (x:Nat) (hx:x<256):Calls Tryz.prog 179 #[.int .u8 (x:Int),.int .i64 8] W (Jl W (pE 8 x≠none)):=by
 rw[U3]
 go_enter Tryz.func179,Tryz.ntmps179
 go_wp2
 all_goals (go_ret;refine Mt _ ?_;simp;omega)
theorem AT (W:World) (x:Nat) (hx:x<256):Calls Tryz.prog 179 #[.int .u8 (x:Int),.int .i64 16] W (Jl W (pE 16 x≠none)):=by
 rw[YF]
 go_enter Tryz.func179,Tryz.ntmps179
 go_wp2
 all_goals (go_ret;refine Mt _ ?_;simp;omega)
theorem Dr {W:World} (h:gW W) (s:ByteArray) (hs:s.size≤65536) :
  Calls Tryz.prog 116 #[.string s,.int .i64 16,.int .i64 8] W (XM W 16 255 s) ∧
  Calls Tryz.prog 116 #[.string s,.int .i64 8,.int .i64 8] W (XM W 8 255 s):=by
 exact ⟨kP h s hs _ _ _ _ (parseU (Or.inr (Or.inr (Or.inr (Or.inl ⟨rfl,rfl,rfl,rfl,rfl,rfl⟩)))) W s hs),kP h s hs _ _ _ _ (parseU (Or.inr (Or.inr (Or.inr (Or.inr ⟨rfl,rfl,rfl,rfl,rfl,rfl⟩)))) W s hs)⟩
def VN (W:World) (o:Option (Nat×Nat)) (e:Ending) (w:World):Prop:=Below W.heap.size W w∧((o=none∧e=.returned (.tuple #[.int .u8 0,.int .i64 0]))∨∃v n:Nat,o=some (v,n)∧e=.returned (.tuple #[.int .u8 (v:Int),.int .i64 (n:Int)]))
theorem eG {W w:World}{o:Option (Nat×Nat)} (hb:Below W.heap.size W w) (h:o=none):VN W o (.returned (.tuple #[.int .u8 0,.int .i64 0])) w:=⟨hb,.inl ⟨h,rfl⟩⟩
theorem bU {W w:World}{o:Option (Nat×Nat)}{v n:Nat} (hb:Below W.heap.size W w) (h:o=some (v,n)):VN W o (.returned (.tuple #[.int .u8 (v:Int),.int .i64 (n:Int)])) w:=⟨hb,.inr ⟨v,n,h,rfl⟩⟩
theorem xB {B f:Nat}{l:List Nat} (h:l=[]∨f=0):eD B f l=0:=by
 rcases h with rfl|rfl
 ·cases f<;>rfl
 ·cases l<;>rfl
theorem rG {B f x:Nat}{r:List Nat} (h:¬pE B x≠none):eD B f (x::r)=0:=by
 have h':pE B x=none:=Classical.not_not.1 h
 cases f with
 |zero=>rfl
 |succ f=>simp[eD,h']
theorem rF {B f x:Nat}{r:List Nat} (h:pE B x≠none):eD B (f+1) (x::r)=eD B f r+1:=by
 obtain ⟨d,hd⟩:=Option.ne_none_iff_exists'.1 h
 simp[eD,hd]
theorem jU {B m f u:Nat}{l:List Nat} (hB:1≤B) (h0:0<eD B m l) (h:cA B 255 (l.take (eD B m l)) 0=some u):fin (cQ B m l 0 0) f=some (u,f+eD B m l)∧u≤255:=by
 have h1:=sT hB m l 0 0 (by omega)
 have h2:=oB (B:=B) m l 0 0
 rw[h] at h1
 unfold fin
 split at h1
 ·rename_i hle
  have h3:=zC h1
  rw[if_neg (by omega),←h3,h2,Nat.zero_add]
  exact ⟨rfl,by omega⟩
 ·cases h1
theorem lI {B m f:Nat}{l:List Nat} (hB:1≤B) (h:eD B m l=0∨cA B 255 (l.take (eD B m l)) 0=none):fin (cQ B m l 0 0) f=none:=by
 have h1:=sT hB m l 0 0 (by omega)
 have h2:=oB (B:=B) m l 0 0
 unfold fin
 rw[if_pos]
 rcases h with h|h
 ·left;omega
 ·right
  rw[h] at h1
  split at h1
  ·cases h1
  ·omega
theorem zm {W:World} (hE:gW W) (s:ByteArray) (hs:s.size≤65536) (hfs:2≤s.size) :
  Calls Tryz.prog 164 #[.string s,.int .i64 2,.int .i64 2,.int .i64 16] W (VN W (fin (cQ 16 2 ((aG s).drop 2) 0 0) 2)):=by
 go_enter Tryz.func164,Tryz.ntmps164
 go_wp2
 go_loopg [10] 2 (fun gk v10 wr=>∃(j:Nat),v10=.int .i64 ((2+j:Nat):Int)∧gk=2-j∧j≤2∧2+j≤s.size∧wr=W∧Hid (eD 16 2 ((aG s).drop 2)=j+eD 16 (2-j) ((aG s).drop (2+j))))
 case atStart=>exact ⟨0,rfl,rfl,by omega,by omega,rfl,by show _=_;simp⟩
 case round =>
  obtain ⟨j,rfl,dY,hj,hjs,rfl,Hd⟩:=hrel
  obtain ⟨p,hp⟩:∃p,p=2+j:=⟨_,rfl⟩
  rw[←hp] at Hd ⊢
  have rS:p≤s.size:=by omega
  have hpf:2≤p:=by omega
  have Hp:=ab hp
  have gF:=ab dY
  have p0:(0:Int)≤(p:Int):=zH _
  clear dY
  by_cases dr:p<s.size
  ·obtain ⟨x,hx,ew,gx⟩:=cS s p dr
   have gf:(aG s).drop p=x::(aG s).drop (p+1):=by
    obtain ⟨hl,pF⟩:=zB hx
    rw[List.drop_eq_getElem_cons hl,pF]
   have nC:=ab gf
   have p1:(p:Int)<(s.size:Int):=by omega
   clear gf hx
   by_cases jO:j<2
   ·have p2:(p:Int)<(4:Int):=by omega
    clear hp hjs
    by_cases hq:(4:Int)<(s.size:Int)
    ·have Vm:min (s.size:Int) 4=4:=by omega
     have d1:decide ((p:Int)<(4:Int))=true:=by simp;omega
     have qy:=ab jO
     clear jO hq
     go_wp2_with fail
     refine (AT _ x ew).mono ?_
     rintro e w' ⟨d,rfl,he,hd⟩
     obtain rfl:wr=w':=he.symm
     cases d with
     |true =>
      have jO:=aa qy
      have hy:pE 16 x≠none:=hd.1 rfl
      have lG:eD 16 2 ((aG s).drop 2)=(j+1)+eD 16 (2-(j+1)) ((aG s).drop (p+1)):=by
       rw[aa Hd,aa nC,show 2-j=(2-(j+1))+1 by omega,rF hy];omega
      have iE:=ab lG
      clear lG hy hd Hd nC jO
      go_wp2
      go_roundg (2-(j+1))
      case measure=>have:=aa gF;have:=aa qy;omega
      case rel =>
       have jO:=aa qy
       refine ⟨j+1,?_,rfl,by omega,by have:=aa Hp;omega,rfl,?_⟩
       ·have e:=aa Hp;subst e;go_num
       ·have:=aa iE;rw[aa Hp] at this;exact this
     |false =>
      have fA:eD 16 2 ((aG s).drop 2)=j:=by
       rw[aa Hd,aa nC,rG (fun q=>by simpa using hd.2 q)];rfl
      clear hd nC gx
      have eM:Hid (∀u,0<(s.extract 2 p).size→cA 16 255 (aG (s.extract 2 p)) 0=some u→fin (cQ 16 2 ((aG s).drop 2) 0 0) 2=some (u,p)∧u≤255):=fun u h1 h2=>by
       rw[bD] at h2
       have e:=extract_size s 2 p rS;have hp:=aa Hp
       have q:=jU (f:=2) (B:=16) (by decide) (m:=2) (l:=(aG s).drop 2) (u:=u) (by omega) (by rw[fA,show j=p-2 by omega];exact h2)
       rw[fA,←hp] at q
       exact q
      have iv:Hid ((s.extract 2 p).size=0∨cA 16 255 (aG (s.extract 2 p)) 0=none→fin (cQ 16 2 ((aG s).drop 2) 0 0) 2=none):=fun h1=>by
       rw[bD] at h1
       have e:=extract_size s 2 p rS;have hp:=aa Hp
       refine lI (by decide) ?_
       rcases h1 with h1|h1
       ·left;omega
       ·right;rw[fA,show j=p-2 by omega];exact h1
      have U9:=extract_size s 2 p rS
      have f1:(2:Int)≤(p:Int):=by omega
      have f2:(p:Int)≤(s.size:Int):=by omega
      clear fA Hd
      go_wp2_with fail
      refine ((Dr hE _ (by omega)).1).mono ?_
      rintro e w1 ⟨bK,⟨u,rfl,hz,hu⟩|⟨u,q,rfl,hu⟩⟩
      ·obtain ⟨hw,hle⟩:=aa eM u hz hu
       have Hw:=ab hw
       have Hb:=ab bK
       clear hw hu hz bK eM iv
       go_wp2
       go_ret2
       have e1:IntKind.u8.wrap (u:Int)=(u:Int):=by simp[IntKind.wrap,IntKind.bits,IntKind.signed];omega
       first
        |exact bU (aa Hb) (aa Hw)
        |(rw[e1];exact bU (aa Hb) (aa Hw))
      ·have hw:=aa iv hu
       have Hw:=ab hw
       have Hb:=ab bK
       clear hw hu bK eM iv
       go_wp2
       go_ret2
       exact eG (aa Hb) (aa Hw)
    ·have Vm:min (s.size:Int) 4=(s.size:Int):=by omega
     have d1:decide ((p:Int)<(s.size:Int))=true:=by simp;omega
     have qy:=ab jO
     clear jO hq
     go_wp2_with fail
     refine (AT _ x ew).mono ?_
     rintro e w' ⟨d,rfl,he,hd⟩
     obtain rfl:wr=w':=he.symm
     cases d with
     |true =>
      have jO:=aa qy
      have hy:pE 16 x≠none:=hd.1 rfl
      have lG:eD 16 2 ((aG s).drop 2)=(j+1)+eD 16 (2-(j+1)) ((aG s).drop (p+1)):=by
       rw[aa Hd,aa nC,show 2-j=(2-(j+1))+1 by omega,rF hy];omega
      have iE:=ab lG
      clear lG hy hd Hd nC jO
      go_wp2
      go_roundg (2-(j+1))
      case measure=>have:=aa gF;have:=aa qy;omega
      case rel =>
       have jO:=aa qy
       refine ⟨j+1,?_,rfl,by omega,by have:=aa Hp;omega,rfl,?_⟩
       ·have e:=aa Hp;subst e;go_num
       ·have:=aa iE;rw[aa Hp] at this;exact this
     |false =>
      have fA:eD 16 2 ((aG s).drop 2)=j:=by
       rw[aa Hd,aa nC,rG (fun q=>by simpa using hd.2 q)];rfl
      clear hd nC gx
      have eM:Hid (∀u,0<(s.extract 2 p).size→cA 16 255 (aG (s.extract 2 p)) 0=some u→fin (cQ 16 2 ((aG s).drop 2) 0 0) 2=some (u,p)∧u≤255):=fun u h1 h2=>by
       rw[bD] at h2
       have e:=extract_size s 2 p rS;have hp:=aa Hp
       have q:=jU (f:=2) (B:=16) (by decide) (m:=2) (l:=(aG s).drop 2) (u:=u) (by omega) (by rw[fA,show j=p-2 by omega];exact h2)
       rw[fA,←hp] at q
       exact q
      have iv:Hid ((s.extract 2 p).size=0∨cA 16 255 (aG (s.extract 2 p)) 0=none→fin (cQ 16 2 ((aG s).drop 2) 0 0) 2=none):=fun h1=>by
       rw[bD] at h1
       have e:=extract_size s 2 p rS;have hp:=aa Hp
       refine lI (by decide) ?_
       rcases h1 with h1|h1
       ·left;omega
       ·right;rw[fA,show j=p-2 by omega];exact h1
      have U9:=extract_size s 2 p rS
      have f1:(2:Int)≤(p:Int):=by omega
      have f2:(p:Int)≤(s.size:Int):=by omega
      clear fA Hd
      go_wp2_with fail
      refine ((Dr hE _ (by omega)).1).mono ?_
      rintro e w1 ⟨bK,⟨u,rfl,hz,hu⟩|⟨u,q,rfl,hu⟩⟩
      ·obtain ⟨hw,hle⟩:=aa eM u hz hu
       have Hw:=ab hw
       have Hb:=ab bK
       clear hw hu hz bK eM iv
       go_wp2
       go_ret2
       have e1:IntKind.u8.wrap (u:Int)=(u:Int):=by simp[IntKind.wrap,IntKind.bits,IntKind.signed];omega
       first
        |exact bU (aa Hb) (aa Hw)
        |(rw[e1];exact bU (aa Hb) (aa Hw))
      ·have hw:=aa iv hu
       have Hw:=ab hw
       have Hb:=ab bK
       clear hw hu bK eM iv
       go_wp2
       go_ret2
       exact eG (aa Hb) (aa Hw)
   ·have fA:eD 16 2 ((aG s).drop 2)=j:=by
     rw[aa Hd,xB (.inr (by omega))];rfl
    have Vm:min (s.size:Int) 4=4:=by omega
    have d1:decide ((p:Int)<(4:Int))=false:=by simp;omega
    clear hp hjs jO
    clear nC gx
    have eM:Hid (∀u,0<(s.extract 2 p).size→cA 16 255 (aG (s.extract 2 p)) 0=some u→fin (cQ 16 2 ((aG s).drop 2) 0 0) 2=some (u,p)∧u≤255):=fun u h1 h2=>by
     rw[bD] at h2
     have e:=extract_size s 2 p rS;have hp:=aa Hp
     have q:=jU (f:=2) (B:=16) (by decide) (m:=2) (l:=(aG s).drop 2) (u:=u) (by omega) (by rw[fA,show j=p-2 by omega];exact h2)
     rw[fA,←hp] at q
     exact q
    have iv:Hid ((s.extract 2 p).size=0∨cA 16 255 (aG (s.extract 2 p)) 0=none→fin (cQ 16 2 ((aG s).drop 2) 0 0) 2=none):=fun h1=>by
     rw[bD] at h1
     have e:=extract_size s 2 p rS;have hp:=aa Hp
     refine lI (by decide) ?_
     rcases h1 with h1|h1
     ·left;omega
     ·right;rw[fA,show j=p-2 by omega];exact h1
    have U9:=extract_size s 2 p rS
    have f1:(2:Int)≤(p:Int):=by omega
    have f2:(p:Int)≤(s.size:Int):=by omega
    clear fA Hd
    go_wp2_with fail
    refine ((Dr hE _ (by omega)).1).mono ?_
    rintro e w1 ⟨bK,⟨u,rfl,hz,hu⟩|⟨u,q,rfl,hu⟩⟩
    ·obtain ⟨hw,hle⟩:=aa eM u hz hu
     have Hw:=ab hw
     have Hb:=ab bK
     clear hw hu hz bK eM iv
     go_wp2
     go_ret2
     have e1:IntKind.u8.wrap (u:Int)=(u:Int):=by simp[IntKind.wrap,IntKind.bits,IntKind.signed];omega
     first
      |exact bU (aa Hb) (aa Hw)
      |(rw[e1];exact bU (aa Hb) (aa Hw))
    ·have hw:=aa iv hu
     have Hw:=ab hw
     have Hb:=ab bK
     clear hw hu bK eM iv
     go_wp2
     go_ret2
     exact eG (aa Hb) (aa Hw)
  ·have fA:eD 16 2 ((aG s).drop 2)=j:=by
    rw[aa Hd,xB (.inl (List.drop_eq_nil_of_le (by rw[bI];omega)))];rfl
   have Vm:min (s.size:Int) 4=(s.size:Int):=by omega
   have d1:decide ((p:Int)<(s.size:Int))=false:=by simp;omega
   clear hp hjs
   have eM:Hid (∀u,0<(s.extract 2 p).size→cA 16 255 (aG (s.extract 2 p)) 0=some u→fin (cQ 16 2 ((aG s).drop 2) 0 0) 2=some (u,p)∧u≤255):=fun u h1 h2=>by
    rw[bD] at h2
    have e:=extract_size s 2 p rS;have hp:=aa Hp
    have q:=jU (f:=2) (B:=16) (by decide) (m:=2) (l:=(aG s).drop 2) (u:=u) (by omega) (by rw[fA,show j=p-2 by omega];exact h2)
    rw[fA,←hp] at q
    exact q
   have iv:Hid ((s.extract 2 p).size=0∨cA 16 255 (aG (s.extract 2 p)) 0=none→fin (cQ 16 2 ((aG s).drop 2) 0 0) 2=none):=fun h1=>by
    rw[bD] at h1
    have e:=extract_size s 2 p rS;have hp:=aa Hp
    refine lI (by decide) ?_
    rcases h1 with h1|h1
    ·left;omega
    ·right;rw[fA,show j=p-2 by omega];exact h1
   have U9:=extract_size s 2 p rS
   have f1:(2:Int)≤(p:Int):=by omega
   have f2:(p:Int)≤(s.size:Int):=by omega
   clear fA Hd
   go_wp2_with fail
   refine ((Dr hE _ (by omega)).1).mono ?_
   rintro e w1 ⟨bK,⟨u,rfl,hz,hu⟩|⟨u,q,rfl,hu⟩⟩
   ·obtain ⟨hw,hle⟩:=aa eM u hz hu
    have Hw:=ab hw
    have Hb:=ab bK
    clear hw hu hz bK eM iv
    go_wp2
    go_ret2
    have e1:IntKind.u8.wrap (u:Int)=(u:Int):=by simp[IntKind.wrap,IntKind.bits,IntKind.signed];omega
    first
     |exact bU (aa Hb) (aa Hw)
     |(rw[e1];exact bU (aa Hb) (aa Hw))
   ·have hw:=aa iv hu
    have Hw:=ab hw
    have Hb:=ab bK
    clear hw hu bK eM iv
    go_wp2
    go_ret2
    exact eG (aa Hb) (aa Hw)
theorem GV {W:World} (hE:gW W) (s:ByteArray) (hs:s.size≤65536) (hfs:1≤s.size) :
  Calls Tryz.prog 164 #[.string s,.int .i64 1,.int .i64 3,.int .i64 8] W (VN W (fin (cQ 8 3 ((aG s).drop 1) 0 0) 1)):=by
 go_enter Tryz.func164,Tryz.ntmps164
 go_wp2
 go_loopg [10] 3 (fun gk v10 wr=>∃(j:Nat),v10=.int .i64 ((1+j:Nat):Int)∧gk=3-j∧j≤3∧1+j≤s.size∧wr=W∧Hid (eD 8 3 ((aG s).drop 1)=j+eD 8 (3-j) ((aG s).drop (1+j))))
 case atStart=>exact ⟨0,rfl,rfl,by omega,by omega,rfl,by show _=_;simp⟩
 case round =>
  obtain ⟨j,rfl,dY,hj,hjs,rfl,Hd⟩:=hrel
  obtain ⟨p,hp⟩:∃p,p=1+j:=⟨_,rfl⟩
  rw[←hp] at Hd ⊢
  have rS:p≤s.size:=by omega
  have hpf:1≤p:=by omega
  have Hp:=ab hp
  have gF:=ab dY
  have p0:(0:Int)≤(p:Int):=zH _
  clear dY
  by_cases dr:p<s.size
  ·obtain ⟨x,hx,ew,gx⟩:=cS s p dr
   have gf:(aG s).drop p=x::(aG s).drop (p+1):=by
    obtain ⟨hl,pF⟩:=zB hx
    rw[List.drop_eq_getElem_cons hl,pF]
   have nC:=ab gf
   have p1:(p:Int)<(s.size:Int):=by omega
   clear gf hx
   by_cases jO:j<3
   ·have p2:(p:Int)<(4:Int):=by omega
    clear hp hjs
    by_cases hq:(4:Int)<(s.size:Int)
    ·have Vm:min (s.size:Int) 4=4:=by omega
     have d1:decide ((p:Int)<(4:Int))=true:=by simp;omega
     have qy:=ab jO
     clear jO hq
     go_wp2_with fail
     refine (DV _ x ew).mono ?_
     rintro e w' ⟨d,rfl,he,hd⟩
     obtain rfl:wr=w':=he.symm
     cases d with
     |true =>
      have jO:=aa qy
      have hy:pE 8 x≠none:=hd.1 rfl
      have lG:eD 8 3 ((aG s).drop 1)=(j+1)+eD 8 (3-(j+1)) ((aG s).drop (p+1)):=by
       rw[aa Hd,aa nC,show 3-j=(3-(j+1))+1 by omega,rF hy];omega
      have iE:=ab lG
      clear lG hy hd Hd nC jO
      go_wp2
      go_roundg (3-(j+1))
      case measure=>have:=aa gF;have:=aa qy;omega
      case rel =>
       have jO:=aa qy
       refine ⟨j+1,?_,rfl,by omega,by have:=aa Hp;omega,rfl,?_⟩
       ·have e:=aa Hp;subst e;go_num
       ·have:=aa iE;rw[aa Hp] at this;exact this
     |false =>
      have fA:eD 8 3 ((aG s).drop 1)=j:=by
       rw[aa Hd,aa nC,rG (fun q=>by simpa using hd.2 q)];rfl
      clear hd nC gx
      have eM:Hid (∀u,0<(s.extract 1 p).size→cA 8 255 (aG (s.extract 1 p)) 0=some u→fin (cQ 8 3 ((aG s).drop 1) 0 0) 1=some (u,p)∧u≤255):=fun u h1 h2=>by
       rw[bD] at h2
       have e:=extract_size s 1 p rS;have hp:=aa Hp
       have q:=jU (f:=1) (B:=8) (by decide) (m:=3) (l:=(aG s).drop 1) (u:=u) (by omega) (by rw[fA,show j=p-1 by omega];exact h2)
       rw[fA,←hp] at q
       exact q
      have iv:Hid ((s.extract 1 p).size=0∨cA 8 255 (aG (s.extract 1 p)) 0=none→fin (cQ 8 3 ((aG s).drop 1) 0 0) 1=none):=fun h1=>by
       rw[bD] at h1
       have e:=extract_size s 1 p rS;have hp:=aa Hp
       refine lI (by decide) ?_
       rcases h1 with h1|h1
       ·left;omega
       ·right;rw[fA,show j=p-1 by omega];exact h1
      have U9:=extract_size s 1 p rS
      have f1:(1:Int)≤(p:Int):=by omega
      have f2:(p:Int)≤(s.size:Int):=by omega
      clear fA Hd
      go_wp2_with fail
      refine ((Dr hE _ (by omega)).2).mono ?_
      rintro e w1 ⟨bK,⟨u,rfl,hz,hu⟩|⟨u,q,rfl,hu⟩⟩
      ·obtain ⟨hw,hle⟩:=aa eM u hz hu
       have Hw:=ab hw
       have Hb:=ab bK
       clear hw hu hz bK eM iv
       go_wp2
       go_ret2
       have e1:IntKind.u8.wrap (u:Int)=(u:Int):=by simp[IntKind.wrap,IntKind.bits,IntKind.signed];omega
       first
        |exact bU (aa Hb) (aa Hw)
        |(rw[e1];exact bU (aa Hb) (aa Hw))
      ·have hw:=aa iv hu
       have Hw:=ab hw
       have Hb:=ab bK
       clear hw hu bK eM iv
       go_wp2
       go_ret2
       exact eG (aa Hb) (aa Hw)
    ·have Vm:min (s.size:Int) 4=(s.size:Int):=by omega
     have d1:decide ((p:Int)<(s.size:Int))=true:=by simp;omega
     have qy:=ab jO
     clear jO hq
     go_wp2_with fail
     refine (DV _ x ew).mono ?_
     rintro e w' ⟨d,rfl,he,hd⟩
     obtain rfl:wr=w':=he.symm
     cases d with
     |true =>
      have jO:=aa qy
      have hy:pE 8 x≠none:=hd.1 rfl
      have lG:eD 8 3 ((aG s).drop 1)=(j+1)+eD 8 (3-(j+1)) ((aG s).drop (p+1)):=by
       rw[aa Hd,aa nC,show 3-j=(3-(j+1))+1 by omega,rF hy];omega
      have iE:=ab lG
      clear lG hy hd Hd nC jO
      go_wp2
      go_roundg (3-(j+1))
      case measure=>have:=aa gF;have:=aa qy;omega
      case rel =>
       have jO:=aa qy
       refine ⟨j+1,?_,rfl,by omega,by have:=aa Hp;omega,rfl,?_⟩
       ·have e:=aa Hp;subst e;go_num
       ·have:=aa iE;rw[aa Hp] at this;exact this
     |false =>
      have fA:eD 8 3 ((aG s).drop 1)=j:=by
       rw[aa Hd,aa nC,rG (fun q=>by simpa using hd.2 q)];rfl
      clear hd nC gx
      have eM:Hid (∀u,0<(s.extract 1 p).size→cA 8 255 (aG (s.extract 1 p)) 0=some u→fin (cQ 8 3 ((aG s).drop 1) 0 0) 1=some (u,p)∧u≤255):=fun u h1 h2=>by
       rw[bD] at h2
       have e:=extract_size s 1 p rS;have hp:=aa Hp
       have q:=jU (f:=1) (B:=8) (by decide) (m:=3) (l:=(aG s).drop 1) (u:=u) (by omega) (by rw[fA,show j=p-1 by omega];exact h2)
       rw[fA,←hp] at q
       exact q
      have iv:Hid ((s.extract 1 p).size=0∨cA 8 255 (aG (s.extract 1 p)) 0=none→fin (cQ 8 3 ((aG s).drop 1) 0 0) 1=none):=fun h1=>by
       rw[bD] at h1
       have e:=extract_size s 1 p rS;have hp:=aa Hp
       refine lI (by decide) ?_
       rcases h1 with h1|h1
       ·left;omega
       ·right;rw[fA,show j=p-1 by omega];exact h1
      have U9:=extract_size s 1 p rS
      have f1:(1:Int)≤(p:Int):=by omega
      have f2:(p:Int)≤(s.size:Int):=by omega
      clear fA Hd
      go_wp2_with fail
      refine ((Dr hE _ (by omega)).2).mono ?_
      rintro e w1 ⟨bK,⟨u,rfl,hz,hu⟩|⟨u,q,rfl,hu⟩⟩
      ·obtain ⟨hw,hle⟩:=aa eM u hz hu
       have Hw:=ab hw
       have Hb:=ab bK
       clear hw hu hz bK eM iv
       go_wp2
       go_ret2
       have e1:IntKind.u8.wrap (u:Int)=(u:Int):=by simp[IntKind.wrap,IntKind.bits,IntKind.signed];omega
       first
        |exact bU (aa Hb) (aa Hw)
        |(rw[e1];exact bU (aa Hb) (aa Hw))
      ·have hw:=aa iv hu
       have Hw:=ab hw
       have Hb:=ab bK
       clear hw hu bK eM iv
       go_wp2
       go_ret2
       exact eG (aa Hb) (aa Hw)
   ·have fA:eD 8 3 ((aG s).drop 1)=j:=by
     rw[aa Hd,xB (.inr (by omega))];rfl
    have Vm:min (s.size:Int) 4=4:=by omega
    have d1:decide ((p:Int)<(4:Int))=false:=by simp;omega
    clear hp hjs jO
    clear nC gx
    have eM:Hid (∀u,0<(s.extract 1 p).size→cA 8 255 (aG (s.extract 1 p)) 0=some u→fin (cQ 8 3 ((aG s).drop 1) 0 0) 1=some (u,p)∧u≤255):=fun u h1 h2=>by
     rw[bD] at h2
     have e:=extract_size s 1 p rS;have hp:=aa Hp
     have q:=jU (f:=1) (B:=8) (by decide) (m:=3) (l:=(aG s).drop 1) (u:=u) (by omega) (by rw[fA,show j=p-1 by omega];exact h2)
     rw[fA,←hp] at q
     exact q
    have iv:Hid ((s.extract 1 p).size=0∨cA 8 255 (aG (s.extract 1 p)) 0=none→fin (cQ 8 3 ((aG s).drop 1) 0 0) 1=none):=fun h1=>by
     rw[bD] at h1
     have e:=extract_size s 1 p rS;have hp:=aa Hp
     refine lI (by decide) ?_
     rcases h1 with h1|h1
     ·left;omega
     ·right;rw[fA,show j=p-1 by omega];exact h1
    have U9:=extract_size s 1 p rS
    have f1:(1:Int)≤(p:Int):=by omega
    have f2:(p:Int)≤(s.size:Int):=by omega
    clear fA Hd
    go_wp2_with fail
    refine ((Dr hE _ (by omega)).2).mono ?_
    rintro e w1 ⟨bK,⟨u,rfl,hz,hu⟩|⟨u,q,rfl,hu⟩⟩
    ·obtain ⟨hw,hle⟩:=aa eM u hz hu
     have Hw:=ab hw
     have Hb:=ab bK
     clear hw hu hz bK eM iv
     go_wp2
     go_ret2
     have e1:IntKind.u8.wrap (u:Int)=(u:Int):=by simp[IntKind.wrap,IntKind.bits,IntKind.signed];omega
     first
      |exact bU (aa Hb) (aa Hw)
      |(rw[e1];exact bU (aa Hb) (aa Hw))
    ·have hw:=aa iv hu
     have Hw:=ab hw
     have Hb:=ab bK
     clear hw hu bK eM iv
     go_wp2
     go_ret2
     exact eG (aa Hb) (aa Hw)
  ·have fA:eD 8 3 ((aG s).drop 1)=j:=by
    rw[aa Hd,xB (.inl (List.drop_eq_nil_of_le (by rw[bI];omega)))];rfl
   have Vm:min (s.size:Int) 4=(s.size:Int):=by omega
   have d1:decide ((p:Int)<(s.size:Int))=false:=by simp;omega
   clear hp hjs
   have eM:Hid (∀u,0<(s.extract 1 p).size→cA 8 255 (aG (s.extract 1 p)) 0=some u→fin (cQ 8 3 ((aG s).drop 1) 0 0) 1=some (u,p)∧u≤255):=fun u h1 h2=>by
    rw[bD] at h2
    have e:=extract_size s 1 p rS;have hp:=aa Hp
    have q:=jU (f:=1) (B:=8) (by decide) (m:=3) (l:=(aG s).drop 1) (u:=u) (by omega) (by rw[fA,show j=p-1 by omega];exact h2)
    rw[fA,←hp] at q
    exact q
   have iv:Hid ((s.extract 1 p).size=0∨cA 8 255 (aG (s.extract 1 p)) 0=none→fin (cQ 8 3 ((aG s).drop 1) 0 0) 1=none):=fun h1=>by
    rw[bD] at h1
    have e:=extract_size s 1 p rS;have hp:=aa Hp
    refine lI (by decide) ?_
    rcases h1 with h1|h1
    ·left;omega
    ·right;rw[fA,show j=p-1 by omega];exact h1
   have U9:=extract_size s 1 p rS
   have f1:(1:Int)≤(p:Int):=by omega
   have f2:(p:Int)≤(s.size:Int):=by omega
   clear fA Hd
   go_wp2_with fail
   refine ((Dr hE _ (by omega)).2).mono ?_
   rintro e w1 ⟨bK,⟨u,rfl,hz,hu⟩|⟨u,q,rfl,hu⟩⟩
   ·obtain ⟨hw,hle⟩:=aa eM u hz hu
    have Hw:=ab hw
    have Hb:=ab bK
    clear hw hu hz bK eM iv
    go_wp2
    go_ret2
    have e1:IntKind.u8.wrap (u:Int)=(u:Int):=by simp[IntKind.wrap,IntKind.bits,IntKind.signed];omega
    first
     |exact bU (aa Hb) (aa Hw)
     |(rw[e1];exact bU (aa Hb) (aa Hw))
   ·have hw:=aa iv hu
    have Hw:=ab hw
    have Hb:=ab bK
    clear hw hu bK eM iv
    go_wp2
    go_ret2
    exact eG (aa Hb) (aa Hw)
end Go.Proofs.YtjophoclfccmcaaGreatDoor
