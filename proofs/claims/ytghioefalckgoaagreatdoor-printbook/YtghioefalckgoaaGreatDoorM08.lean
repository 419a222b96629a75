import Derived.Test.YtghioefalckgoaaGreatDoorQsMX
import Derived.Test.YtghioefalckgoaaGreatDoorQsIX
set_option maxHeartbeats 4000000
set_option maxRecDepth 100000
namespace Go.Proofs.YtghioefalckgoaaGreatDoor
open Go.RowKit
attribute [local go_sem ↓] Go.wp_at_zero Go.wp_at_succ
theorem P' (X:SI) {w0 w:World}{g n c:Nat}{f:FuncId}{fs cp:Array Value}{lt:List Value→List Value→Bool}{Pe:List Value→Prop}{l:List (List Value)}{rest:List Value} (hC:zQ Tryz.prog f fs cp lt Pe w0 g) (hO:Ord lt) (wh:w0.grownBy w (some g)) (h:Rw w g X.el X.k l rest) (hP:∀x ∈ l,Pe x) (hn:l.length=n) (hm:n≤140737488355328) :
  Calls Tryz.prog X.sl #[.slice (some ⟨g,0,none⟩) n c,.int .i64 (n:Int),.func (.func f) fs cp] w fun e w'=>e=.returned (.tuple #[])∧Rw w' g X.el X.k (cR lt l) rest∧w.grownBy w' (some g):=by
 have H:=ak h
 have HC:=ak hC
 have Ey:=ak wh
 have HP:=ak hP
 have Hm:=ak hm
 have Hn:=ak hn
 have HO:=ak hO
 clear hC wh h hP hn hm hO
 let iX:=X
 let tY:=X.el
 let kY:=X.k
 cases X
 all_goals simp only[SI.el,SI.k,SI.sl] at *
 all_goals (first|go_enter Tryz.func188,Tryz.ntmps188|go_enter Tryz.func190,Tryz.ntmps190|go_enter Tryz.func203,Tryz.ntmps203|go_enter Tryz.func283,Tryz.ntmps283|go_enter Tryz.func285,Tryz.ntmps285|go_enter Tryz.func286,Tryz.ntmps286|go_enter Tryz.func288,Tryz.ntmps288)
 all_goals (
  go_wp2
  go_loopg [7,8] n (fun gk v7 v8 wr=>∃(a b:Nat) (D:List (List Value)),v7=.int .i64 (a:Int)∧v8=.int .i64 (b:Int)∧gk=n-a∧Hid (b=a+20∧D.length=a∧a≤n)∧Hid (D++tC lt 20 (l.drop a)=tC lt 20 l)∧Hid (Rw wr g tY kY (D++l.drop a) rest)∧Hid (w.grownBy wr (some g)))
  case atStart=>exact ⟨0,20,[],rfl,rfl,rfl,⟨rfl,rfl,Nat.zero_le _⟩,rfl,ab H,zI _ _⟩
  case round =>
   obtain ⟨a,b,D,rfl,rfl,bd,HD,HE,HR,HG⟩:=hrel
   have bH:=ak bd
   clear bd
   have hd:=ab HD
   have ma:=ab Hm
   have CQ:=ab Hn
   have vX:(l.drop a).length=n-a:=by rw[List.length_drop];omega
   by_cases aU:b≤n
   ·have k1:(b:Int)≤(n:Int):=by omega
    have k2:decide ((b:Int)≤(n:Int))=true:=decide_eq_true k1
    have f1:IntKind.i64.wrap ((b:Int)+20)=((b+20:Nat):Int):=by rw[IntKind.wrap_i64];omega
    have Lx:l.drop a=(l.drop a).take 20++l.drop b:=by
     have h1:=(List.take_append_drop 20 (l.drop a)).symm
     rw[List.drop_drop,←hd.1] at h1
     exact h1
    have hR:=ab HR
    rw[Lx,←List.append_assoc] at hR
    have gM:=mj (lt:=lt) (b:=20) (l:=l.drop a) (by decide) (by omega)
    rw[List.drop_drop,←hd.1] at gM
    obtain ⟨sg,XL⟩:∃z,(l.drop a).take 20=z:=⟨_,rfl⟩
    have gD:sg.length=20:=by rw[←XL,List.length_take];omega
    have hsP:∀x ∈ sg,Pe x:=fun x hx=>ab HP x (List.mem_of_mem_drop (List.mem_of_mem_take (XL ▸ hx)))
    rw[XL] at hR gM
    have HK:=ak (Jr iX (c:=c) (ab HC) ((ab Ey).trans (ab HG)) hR hsP (n:=n) (by simp only[zK,List.length_drop];omega) ma)
    rw[hd.2.1,gD,←hd.1] at HK
    have La:=ak gM
    have Hsl:=ak gD
    have bn:=ak aU
    clear gM gD XL hR Lx vX hd CQ aU hsP
    go_wp2_with fail
    refine (ab HK).mono ?_
    rintro e w1 ⟨rfl,dR,gX⟩
    have lF:=ak dR
    have eY:=ak ((ab HG).trans gX)
    clear dR gX HK
    go_wp2
    go_roundg (n-b)
    ·refine ⟨b,b+20,D++cR lt sg,rfl,by simp,rfl,⟨rfl,?_,ab bn⟩,?_,ab lF,eY⟩
     ·have h1:=ab HD
      rw[zK,bc,ab Hsl]
      omega
     ·show _=_
      rw[List.append_assoc,←ab La]
      exact ab HE
    ·have:=ab bH;have:=ab HD;have:=ab bn;omega
   ·have k1:¬(b:Int)≤(n:Int):=by omega
    have k2:decide ((b:Int)≤(n:Int))=false:=decide_eq_false k1
    have hR:=ab HR
    rw[←List.append_nil (D++l.drop a)] at hR
    have HK:=ak (Jr iX (c:=c) (ab HC) ((ab Ey).trans (ab HG)) hR (fun x hx=>ab HP x (List.mem_of_mem_drop hx)) (n:=n) (by simp only[zK,List.length_drop,List.length_nil];omega) ma)
    rw[hd.2.1,vX,show a+(n-a)=n by omega] at HK
    have jD:D++cR lt (l.drop a)=tC lt 20 l:=by rw[←ab HE,j9 (by omega)]
    have WZ:=ak jD
    clear hR vX hd CQ jD
    go_wp2_with fail
    refine (ab HK).mono ?_
    rintro e w1 ⟨rfl,dR,gX⟩
    rw[List.append_nil,ab WZ] at dR
    have lF:=ak dR
    have eY:=ak ((ab HG).trans gX)
    clear dR gX HK HR HG
    go_wp2
    go_loopg [6,7,8,9] (n-20) (fun gk v6 _ _ _ wr=>∃bs:Nat,v6=.int .i64 (bs:Int)∧gk=n-bs∧20≤bs∧Hid (Rw wr g tY kY (tC lt bs l) rest)∧Hid (w.grownBy wr (some g)))
    case atStart=>exact ⟨20,rfl,by omega,zD _,lF,eY⟩
    case round =>
     clear lF eY
     obtain ⟨bs,rfl,jC,hbs,HR,HG⟩:=hrel
     have jR:=ak jC
     clear jC
     have CQ:=ab Hn
     by_cases dC:bs<n
     ·have k3:(bs:Int)<(n:Int):=by omega
      have k4:decide ((bs:Int)<(n:Int))=true:=decide_eq_true k3
      obtain ⟨b2,b9⟩:∃z,2*bs=z:=⟨_,rfl⟩
      have g1:IntKind.i64.wrap (2*(bs:Int))=(b2:Int):=by rw[IntKind.wrap_i64];omega
      have g2:IntKind.i64.wrap ((bs:Int)*2)=(b2:Int):=by rw[IntKind.wrap_i64];omega
      have zX:=ak b9
      have cP:=ak dC
      clear b9 CQ dC
      go_wp2
      go_loopg [7,8] n (fun gk v7 v8 wr=>∃(a b:Nat) (D:List (List Value)),v7=.int .i64 (a:Int)∧v8=.int .i64 (b:Int)∧gk=n-a∧Hid (b=a+b2∧D.length=a∧a≤n)∧Hid (D++tC lt b2 (l.drop a)=tC lt b2 l)∧Hid (Rw wr g tY kY (D++tC lt bs (l.drop a)) rest)∧Hid (w.grownBy wr (some g)))
      case atStart=>exact ⟨0,b2,[],rfl,rfl,rfl,⟨by omega,rfl,Nat.zero_le _⟩,rfl,ab HR,ab HG⟩
      case round =>
       clear HR HG
       obtain ⟨a,b,D,rfl,rfl,Vy,HD,HE,HR,HG⟩:=hrel
       have Ld:=ak Vy
       clear Vy
       have hd:=ab HD
       have CQ:=ab Hn
       have b9:=ab zX
       have dC:=ab cP
       have vX:(l.drop a).length=n-a:=by rw[List.length_drop];omega
       obtain ⟨m,Vk⟩:∃z,a+bs=z:=⟨_,rfl⟩
       have g3:IntKind.i64.wrap ((a:Int)+(bs:Int))=(m:Int):=by rw[IntKind.wrap_i64];omega
       by_cases Vm:b≤n
       ·have j1:(b:Int)≤(n:Int):=by omega
        have j2:decide ((b:Int)≤(n:Int))=true:=decide_eq_true j1
        have g4:IntKind.i64.wrap ((b:Int)+(b2:Int))=((b+b2:Nat):Int):=by rw[IntKind.wrap_i64];omega
        have U4:=N3 (lt:=lt) (b:=bs) (l:=l.drop a) (by omega) (by omega)
        have gM:=mj (lt:=lt) (b:=b2) (l:=l.drop a) (by omega) (by omega)
        have GH:=Im (l.drop a) bs
        have GI:=DI (ab HO) ((l.drop a).take bs) (((l.drop a).drop bs).take bs)
        rw[b9] at U4 GH
        rw[GH] at GI
        rw[List.drop_drop (l:=l) (i:=b2),←hd.1] at U4 gM
        obtain ⟨t1,M8⟩:∃z,(l.drop a).take bs=z:=⟨_,rfl⟩
        obtain ⟨t2,M7⟩:∃z,((l.drop a).drop bs).take bs=z:=⟨_,rfl⟩
        have hD:t1.length=bs:=by rw[←M8,List.length_take];omega
        have kC:t2.length=bs:=by rw[←M7,List.length_take,List.length_drop];omega
        have Nz:∀x ∈ cR lt t1,Pe x:=fun x hx=>ab HP x (List.mem_of_mem_drop (List.mem_of_mem_take (M8 ▸ (du lt _ x).1 hx)))
        have LD:∀x ∈ cR lt t2,Pe x:=fun x hx=>ab HP x (List.mem_of_mem_drop (List.mem_of_mem_drop (List.mem_of_mem_take (M7 ▸ (du lt _ x).1 hx))))
        rw[M8,M7] at U4 GI
        have hR:=ab HR
        rw[U4,show D++(cR lt t1++(cR lt t2++tC lt bs (l.drop b)))=D++(cR lt t1++cR lt t2)++tC lt bs (l.drop b) by simp] at hR
        have D8:(tC lt bs (l.drop b)).length=n-b:=by rw[Ep lt bs _ _ (zD _),List.length_drop];omega
        have HK:=ak (Ir iX (n:=n) (c:=c) (rest:=rest) (ab HC) (ab HO) ma _ D (cR lt t1) (cR lt t2) (tC lt bs (l.drop b)) wr rfl (by rw[bc];omega) (by rw[bc];omega) ((ab Ey).trans (ab HG)) hR Nz LD (ou (ab HO) _) (ou (ab HO) _) (by simp only[zK,bc];omega))
        rw[GI,bc,bc,hD,kC,hd.2.1,Vk,show m+bs=b by omega] at HK
        have La:=ak gM
        have SF:=ak Vm
        clear gM U4 GH GI M8 M7 hD kC Nz LD hR D8 vX hd CQ b9 dC Vk Vm
        go_wp2_with fail
        refine (ab HK).mono ?_
        rintro e w1 ⟨rfl,dR,gX⟩
        have lF:=ak dR
        have eY:=ak ((ab HG).trans gX)
        clear dR gX HK
        go_wp2
        go_roundg (n-b)
        ·refine ⟨b,b+b2,D++cR lt ((l.drop a).take b2),rfl,by simp,rfl,⟨rfl,?_,ab SF⟩,?_,ab lF,eY⟩
         ·have h1:=ab HD
          have h2:=ab SF
          have h3:=ab Hn
          rw[zK,bc,List.length_take,List.length_drop]
          omega
         ·show _=_
          rw[List.append_assoc,←ab La]
          exact ab HE
        ·have:=ab Ld;have:=ab HD;have:=ab SF;have:=ab zX;omega
       ·have j1:¬(b:Int)≤(n:Int):=by omega
        have j2:decide ((b:Int)≤(n:Int))=false:=decide_eq_false j1
        have jD:D++cR lt (l.drop a)=tC lt b2 l:=by rw[←ab HE,j9 (by omega)]
        have WZ:=ak jD
        by_cases Vl:m<n
        ·have j3:(m:Int)<(n:Int):=by omega
         have j4:decide ((m:Int)<(n:Int))=true:=decide_eq_true j3
         have hla:=KH (lt:=lt) (b:=bs) (l:=l.drop a) (by omega) (by omega) (by omega)
         have GI:=DI (ab HO) ((l.drop a).take bs) ((l.drop a).drop bs)
         rw[List.take_append_drop] at GI
         obtain ⟨t1,M8⟩:∃z,(l.drop a).take bs=z:=⟨_,rfl⟩
         obtain ⟨t2,M7⟩:∃z,(l.drop a).drop bs=z:=⟨_,rfl⟩
         have hD:t1.length=bs:=by rw[←M8,List.length_take];omega
         have kC:t2.length=n-m:=by rw[←M7,List.length_drop];omega
         have Nz:∀x ∈ cR lt t1,Pe x:=fun x hx=>ab HP x (List.mem_of_mem_drop (List.mem_of_mem_take (M8 ▸ (du lt _ x).1 hx)))
         have LD:∀x ∈ cR lt t2,Pe x:=fun x hx=>ab HP x (List.mem_of_mem_drop (List.mem_of_mem_drop (M7 ▸ (du lt _ x).1 hx)))
         rw[M8,M7] at hla GI
         have hR:=ab HR
         rw[hla,←List.append_nil (D++(cR lt t1++cR lt t2))] at hR
         have HK:=ak (Ir iX (n:=n) (c:=c) (rest:=rest) (ab HC) (ab HO) ma _ D (cR lt t1) (cR lt t2) [] wr rfl (by rw[bc];omega) (by rw[bc];omega) ((ab Ey).trans (ab HG)) hR Nz LD (ou (ab HO) _) (ou (ab HO) _) (by simp only[zK,bc,List.length_nil];omega))
         rw[GI,bc,bc,hD,kC,hd.2.1,Vk,show m+(n-m)=n by omega] at HK
         clear hla GI M8 M7 hD kC Nz LD hR vX hd CQ b9 dC Vk jD Vl
         go_wp2_with fail
         refine (ab HK).mono ?_
         rintro e w1 ⟨rfl,dR,gX⟩
         rw[List.append_nil,ab WZ] at dR
         have lF:=ak dR
         have eY:=ak ((ab HG).trans gX)
         clear dR gX HK
         go_wp2
         go_roundg (n-b2)
         ·exact ⟨b2,rfl,rfl,by have:=ab zX;omega,lF,eY⟩
         ·have:=ab jR;have:=ab zX;have:=ab cP;omega
        ·have j3:¬(m:Int)<(n:Int):=by omega
         have j4:decide ((m:Int)<(n:Int))=false:=decide_eq_false j3
         have hR:=ab HR
         rw[j9 (by omega),jD] at hR
         have lF:=ak hR
         clear hR vX hd CQ b9 dC Vk jD Vl
         go_wp2
         go_roundg (n-b2)
         ·exact ⟨b2,rfl,rfl,by have:=ab zX;omega,lF,HG⟩
         ·have:=ab jR;have:=ab zX;have:=ab cP;omega
     ·have k3:¬(bs:Int)<(n:Int):=by omega
      have k4:decide ((bs:Int)<(n:Int))=false:=decide_eq_false k3
      go_wp2
      go_end0
      refine ⟨rfl,?_,ab HG⟩
      have h1:=ab HR
      rwa [j9 (by omega)] at h1)
theorem Qf (X:SI) {w0 w:World}{g n c:Nat}{f:FuncId}{fs cp:Array Value}{lt:List Value→List Value→Bool}{Pe:List Value→Prop}{l:List (List Value)}{rest:List Value} (hC:zQ Tryz.prog f fs cp lt Pe w0 g) (hO:Ord lt) (wh:w0.grownBy w (some g)) (h:Rw w g X.el X.k l rest) (hP:∀x ∈ l,Pe x) (hn:l.length=n) (hm:n≤140737488355328) :
  Calls Tryz.prog X.so #[.slice (some ⟨g,0,none⟩) n c,.func (.func f) fs cp] w fun e w'=>e=.returned (.tuple #[])∧Rw w' g X.el X.k (cR lt l) rest∧w.grownBy w' (some g):=by
 let iX:=X
 have HK:=ak (P' iX (n:=n) (c:=c) hC hO wh h hP hn hm)
 clear hC hO wh h hP hn hm
 let tY:=X.el
 let kY:=X.k
 cases X
 all_goals simp only[SI.el,SI.k,SI.so] at *
 all_goals (first|go_enter Tryz.func121,Tryz.ntmps121|go_enter Tryz.func125,Tryz.ntmps125|go_enter Tryz.func130,Tryz.ntmps130|go_enter Tryz.func251,Tryz.ntmps251|go_enter Tryz.func255,Tryz.ntmps255|go_enter Tryz.func258,Tryz.ntmps258|go_enter Tryz.func263,Tryz.ntmps263)
 all_goals (
  go_wp2_with fail
  refine (ab HK).mono ?_
  rintro e w1 ⟨rfl,dR,gX⟩
  have lF:=ak dR
  have eY:=ak gX
  clear dR gX HK
  go_wp2
  go_end0
  exact ⟨rfl,ab lF,ab eY⟩)
theorem aah (X:SI) (a:Option Addr) (c:Nat) (fv:Value) (w:World):Calls Tryz.prog X.si #[.slice a 0 c,.int .i64 0,.int .i64 0,fv] w fun e w'=>e=.returned (.tuple #[])∧w.grownBy w' none:=by
 cases X
 all_goals simp only[SI.si]
 all_goals (first|go_enter Tryz.func246,Tryz.ntmps246|go_enter Tryz.func248,Tryz.ntmps248|go_enter Tryz.func260,Tryz.ntmps260|go_enter Tryz.func308,Tryz.ntmps308|go_enter Tryz.func310,Tryz.ntmps310|go_enter Tryz.func312,Tryz.ntmps312|go_enter Tryz.func315,Tryz.ntmps315)
 all_goals (
  go_wp2
  go_loopg [8,9] 0 (fun gk v8 _ wr=>v8=.int .i64 1∧gk=0∧Hid (w.grownBy wr none))
  case atStart=>exact ⟨rfl,rfl,zI _ _⟩
  case round =>
   obtain ⟨rfl,-,HG⟩:=hrel
   go_wp2
   go_end0
   exact ⟨rfl,ab HG⟩)
theorem ZQ (X:SI) (a:Option Addr) (c:Nat) (fv:Value) (w:World):Calls Tryz.prog X.sl #[.slice a 0 c,.int .i64 0,fv] w fun e w'=>e=.returned (.tuple #[])∧w.grownBy w' none:=by
 have HI:=fun w=>ak (aah X a c fv w)
 cases X
 all_goals simp only[SI.sl]
 all_goals (first|go_enter Tryz.func188,Tryz.ntmps188|go_enter Tryz.func190,Tryz.ntmps190|go_enter Tryz.func203,Tryz.ntmps203|go_enter Tryz.func283,Tryz.ntmps283|go_enter Tryz.func285,Tryz.ntmps285|go_enter Tryz.func286,Tryz.ntmps286|go_enter Tryz.func288,Tryz.ntmps288)
 all_goals (
  go_wp2
  go_loopg [7,8] 0 (fun gk v7 v8 wr=>v7=.int .i64 0∧v8=.int .i64 20∧gk=0∧Hid (w.grownBy wr none))
  case atStart=>exact ⟨rfl,rfl,rfl,zI _ _⟩
  case round =>
   obtain ⟨rfl,rfl,-,HG⟩:=hrel
   go_wp2_with fail
   refine (ab (HI _)).mono ?_
   rintro e w1 ⟨rfl,bG⟩
   have eY:=ak ((ab HG).trans bG)
   clear bG HG HI
   go_wp2
   go_loopg [6,7,8,9] 0 (fun gk v6 _ _ _ wr=>v6=.int .i64 20∧gk=0∧Hid (w.grownBy wr none))
   case atStart=>exact ⟨rfl,rfl,ab eY⟩
   case round =>
    obtain ⟨rfl,-,wG⟩:=hrel
    go_wp2
    go_end0
    exact ⟨rfl,ab wG⟩)
theorem ZO (X:SI) (a:Option Addr) (c:Nat) (fv:Value) (w:World):Calls Tryz.prog X.so #[.slice a 0 c,fv] w fun e w'=>e=.returned (.tuple #[])∧w.grownBy w' none:=by
 have HI:=fun w=>ak (ZQ X a c fv w)
 cases X
 all_goals simp only[SI.so]
 all_goals (first|go_enter Tryz.func121,Tryz.ntmps121|go_enter Tryz.func125,Tryz.ntmps125|go_enter Tryz.func130,Tryz.ntmps130|go_enter Tryz.func251,Tryz.ntmps251|go_enter Tryz.func255,Tryz.ntmps255|go_enter Tryz.func258,Tryz.ntmps258|go_enter Tryz.func263,Tryz.ntmps263)
 all_goals (
  go_wp2_with fail
  refine (ab (HI _)).mono ?_
  rintro e w1 ⟨rfl,bG⟩
  have eY:=ak bG
  clear bG HI
  go_wp2
  go_end0
  exact ⟨rfl,ab eY⟩)
theorem IC (X:SI) {w1:World}{B n:Nat}{u:Value}{L:List (List Value)}{f:FuncId}{fs cp:Array Value}{kv:KV}{Pe:List Value→Prop} (hO:w1.ownsRow B X.el X.k u n L.flatten) (hn:L.length=n) (hm:n≤140737488355328) (hk:∀l ∈ L,l.length=X.k) (h1:∀l ∈ L,∀v ∈ l,v.oneCell'=true) (hP:∀l ∈ L,Pe l)
  (hC:∀g,B≤g→g<w1.heap.size→w1.heap[g]?.isSome→zQ Tryz.prog f fs cp kv.lt Pe w1 g) :
  Calls Tryz.prog X.so #[u,.func (.func f) fs cp] w1 fun e w=>e=.returned (.tuple #[])∧w.ownsRow B X.el X.k u n (cR kv.lt L).flatten∧w1.grownBy w u.ownBlock:=by
 have h2:=hO.2
 rcases h2 with ⟨rfl,rfl⟩|⟨g,cap,cur,rfl,hb,hg,-⟩
 ·refine (ZO X none 0 _ w1).mono ?_
  rintro e w ⟨rfl,hg⟩
  obtain rfl:L=[]:=List.length_eq_zero_iff.1 hn
  exact ⟨rfl,World.ownsRow_nil _ _ _ _,hg⟩
 ·obtain ⟨rest,hR,-,-,VI⟩:=E0 hO hk h1
  have aU:=(zA hg).1
  refine (Qf X (n:=n) (c:=cap) (hC g hb aU (by rw[hg];rfl)) kv.ord (zI _ _) hR hP hn hm).mono ?_
  rintro e w ⟨rfl,xN,hG⟩
  exact ⟨rfl,VI w _ xN (bc _ _),hG⟩
theorem dK (X:SI) {W:World}{v:Value}{n:Nat}{L:List (List Value)}{f:FuncId}{fs cp:Array Value}{kv:KV}{Pe:List Value→Prop} (hv:Rl W v n L.flatten) (hn:L.length=n) (hk:∀l ∈ L,l.length=X.k) (h1:∀l ∈ L,∀u ∈ l,u.oneCell'=true) (hb:n*X.by≤140737488355328) (hs:kv.xE=X.xE) (TB:∀x,Pe x→x.length=X.k∧∀u ∈ x,u.oneCell'=true) (hP:∀l ∈ L,Pe l) (w0:World) (hw:Below W.heap.size W w0) (hK:WI f fs cp kv Pe w0) :
  Calls Tryz.prog X.sb #[v,.func (.func f) fs cp] w0 fun e w=>∃u,e=.returned u∧w.ownsRow w0.heap.size X.el X.k u n (cR kv.lt L).flatten∧Below w0.heap.size w0 w:=by
 have hm:=hv.le
 have HC:=fun w1 (bM:Below w0.heap.size w0 w1)=>ak (Ax X hv hn hk h1 hb w1 (hw.trans (bM.mono hw.size)))
 have HS:=fun (w1:World) (u:Value) (B tk b:Nat) (hB:w0.heap.size≤B) (hbB:b<B) (bM:Below w0.heap.size w0 w1) (hO:w1.ownsRow B X.el X.k u n L.flatten) (hc:w1.heap[b]?=some (.cells #[.func (.func f) fs cp] tk (0,0)))=>ak (IC X hO hn hm hk h1 hP (fun g hg _ _=>Qw X hK hs TB bM hc (by omega) (by omega)))
 obtain ⟨a,c,rfl,-,-⟩:=hv
 let iX:=X
 clear hK hP TB hs hk h1 hn hb hw
 cases X
 all_goals simp only[SI.sb]
 all_goals (first|go_enter Tryz.func71,Tryz.ntmps71|go_enter Tryz.func74,Tryz.ntmps74|go_enter Tryz.func78,Tryz.ntmps78|go_enter Tryz.func193,Tryz.ntmps193|go_enter Tryz.func195,Tryz.ntmps195|go_enter Tryz.func198,Tryz.ntmps198|go_enter Tryz.func206,Tryz.ntmps206)
 all_goals (
  go_wp2_with fail
  have bq:=(zE w0.heap.size w0).alloc (zD _) (.cells #[.func (.func f) fs cp] iX.kt)
  refine (ab (HC _ bq)).mono ?_
  rintro e w1 ⟨u,rfl,hO,hB1⟩
  have Ly:(w0.alloc (.cells #[.func (.func f) fs cp] iX.kt)).heap.size=w0.heap.size+1:=zJ _ _
  have wk:w1.heap[w0.heap.size]?=some (.cells #[.func (.func f) fs cp] iX.kt (0,0)):=(hB1.block w0.heap.size (by rw[Ly];omega)).trans (aE w0 _)
  have BT:Below w0.heap.size w0 w1:=bq.trans (hB1.mono (by rw[Ly];omega))
  have hO':=kk hO (B':=w0.heap.size+1) (by rw[Ly];exact zD _)
  have HK:=HS w1 u _ _ w0.heap.size (Nat.le_succ _) (Nat.lt_succ_self _) BT hO' wk
  have HB:=ak BT
  have HL:=ak (fun k (e:u.ownBlock=some k)=>(hO'.lt k e).1)
  clear hO hO' wk bq hB1 Ly BT HS HC
  go_wp2_with fail
  refine (ab HK).mono ?_
  rintro e w2 ⟨rfl,hO2,Bf⟩
  have jj:=ak (kk hO2 (B':=w0.heap.size) (Nat.le_succ _))
  have dF:=ak ((ab HB).grown Bf (ab HB).size (fun k e=>by have:=ab HL k e;omega))
  clear hO2 Bf HK HB HL
  go_wp2
  go_ret
  exact ⟨_,rfl,ab jj,ab dF⟩)
end Go.Proofs.YtghioefalckgoaaGreatDoor
