import Derived.Test.YtghioefalckgoaaGreatDoorM02
import Derived.Outline
set_option maxHeartbeats 2000000
set_option maxRecDepth 100000
namespace Go.Proofs.YtghioefalckgoaaGreatDoor
open Go.RowKit
attribute [local go_sem ↓] Go.wp_at_zero Go.wp_at_succ
structure Fv where
 f:FuncId
 fs:Array Value
 cp:Array Value
def Fv.val (f:Fv):Value:=.func (.func f.f) f.fs f.cp
def Fv.ok (f:Fv):Prop:=∀vs w,(callFunc f.f vs).run Tryz.prog w=.ok (.enter f.f vs) w
def bO {σ:Type} (p:Nat→σ→Option σ):Nat→Nat→σ→Option σ
 |0,_,s=>some s
 |n+1,i,s=>match p i s with
  |some s'=>bO p n (i+1) s'
  |none=>none
theorem kW {σ:Type}{p:Nat→σ→Option σ}{n i:Nat}{s s':σ} (h:i<n) (hp:p i s=some s'):bO p (n-i) i s=bO p (n-(i+1)) (i+1) s':=by
 rw[show n-i=(n-(i+1))+1 by omega]
 conv=>lhs;unfold bO
 rw[hp]
theorem mL {σ:Type}{p:Nat→σ→Option σ}{n i:Nat}{s:σ} (h:i<n) (hp:p i s=none):bO p (n-i) i s=none:=by
 rw[show n-i=(n-(i+1))+1 by omega]
 unfold bO
 rw[hp]
def eo {σ:Type} (ng:Bool) (lo:Nat) (W:World) (ob:Option Nat) (J:σ→World→Prop) (f:Fv) (el:Nat→Value) (n:Nat) (p:Nat→σ→Option σ):Prop :=
 ∀i,i<n→∀s w,Below lo W w→J s w→Calls Tryz.prog f.f (f.fs.push (el i)++f.cp) w fun e w'=>e=.returned (.bool (ng ^^ (p i s).isSome))∧(∀s',p i s=some s'→J s' w')∧w.grownBy w' ob
def jM {σ:Type} (w0:World) (ob:Option Nat) (J:σ→World→Prop) (r:Option σ) (e:Ending) (w:World):Prop:=e=.returned (.bool r.isSome)∧(∀s',r=some s'→J s' w)∧w0.grownBy w ob
theorem cj {lo:Nat}{W w w':World}{ob:Option Nat} (hb:Below lo W w) (hg:w.grownBy w' ob) (cK:lo≤w.heap.size) (cI:∀k,ob=some k→lo≤k):Below lo W w':=hb.grown hg cK cI
def lJ (k:Nat) (xs:List Value) (i:Nat):Value:=.agg ((xs.drop (i*k)).take k).toArray
theorem Wg {xs:List Value}{n i:Nat} (hx:xs.length=n) (hi:i<n):∃a,xs[i]?=some a∧xs.getD i undef=a:=by
 have h:i<xs.length:=by omega
 exact ⟨xs[i],List.getElem?_eq_getElem h,by simp[List.getD_eq_getElem?_getD,List.getElem?_eq_getElem h]⟩
theorem NK {xs:List Value}{n i:Nat} (k:Nat) (hx:xs.length=n*k) (hi:i<n):((xs.drop (i*k)).take k).length=k∧∀j,j<k→((xs.drop (i*k)).take k)[j]?=xs[i*k+j]?:=by
 have h:i*k+k≤n*k:=by rw[←Nat.succ_mul];exact Nat.mul_le_mul_right k hi
 constructor
 ·rw[List.length_take,List.length_drop];omega
 ·intro j hj;rw[List.getElem?_take,if_pos hj,List.getElem?_drop]
theorem FT {xs:List Value}{n i:Nat} (hx:xs.length=n*2) (hi:i<n):∃a0 a1,lJ 2 xs i=.agg #[a0,a1]∧xs[i*2+0]?=some a0∧xs[i*2+1]?=some a1:=by
 obtain ⟨h1,h2⟩:=NK 2 hx hi
 unfold lJ
 generalize (xs.drop (i*2)).take 2=L at h1 h2
 match L,h1 with
 |[a0,a1],_=>exact ⟨a0,a1,rfl,(h2 0 (by decide)).symm,(h2 1 (by decide)).symm⟩
theorem Wf {xs:List Value}{n i:Nat} (hx:xs.length=n*4) (hi:i<n):∃a0 a1 a2 a3,lJ 4 xs i=.agg #[a0,a1,a2,a3]∧xs[i*4+0]?=some a0∧xs[i*4+1]?=some a1∧xs[i*4+2]?=some a2∧xs[i*4+3]?=some a3:=by
 obtain ⟨h1,h2⟩:=NK 4 hx hi
 unfold lJ
 generalize (xs.drop (i*4)).take 4=L at h1 h2
 match L,h1 with
 |[a0,a1,a2,a3],_=>exact ⟨a0,a1,a2,a3,rfl,(h2 0 (by decide)).symm,(h2 1 (by decide)).symm,(h2 2 (by decide)).symm,(h2 3 (by decide)).symm⟩
theorem RM {xs:List Value}{n i:Nat} (hx:xs.length=n*6) (hi:i<n):∃a0 a1 a2 a3 a4 a5,lJ 6 xs i=.agg #[a0,a1,a2,a3,a4,a5]∧xs[i*6+0]?=some a0∧xs[i*6+1]?=some a1∧xs[i*6+2]?=some a2∧xs[i*6+3]?=some a3∧xs[i*6+4]?=some a4∧xs[i*6+5]?=some a5:=by
 obtain ⟨h1,h2⟩:=NK 6 hx hi
 unfold lJ
 generalize (xs.drop (i*6)).take 6=L at h1 h2
 match L,h1 with
 |[a0,a1,a2,a3,a4,a5],_=>exact ⟨a0,a1,a2,a3,a4,a5,rfl,(h2 0 (by decide)).symm,(h2 1 (by decide)).symm,(h2 2 (by decide)).symm,(h2 3 (by decide)).symm,(h2 4 (by decide)).symm,(h2 5 (by decide)).symm⟩
theorem Wd {xs:List Value}{n i:Nat} (hx:xs.length=n*7) (hi:i<n):∃a0 a1 a2 a3 a4 a5 a6,lJ 7 xs i=.agg #[a0,a1,a2,a3,a4,a5,a6]∧xs[i*7+0]?=some a0∧xs[i*7+1]?=some a1∧xs[i*7+2]?=some a2∧xs[i*7+3]?=some a3∧xs[i*7+4]?=some a4∧xs[i*7+5]?=some a5∧xs[i*7+6]?=some a6:=by
 obtain ⟨h1,h2⟩:=NK 7 hx hi
 unfold lJ
 generalize (xs.drop (i*7)).take 7=L at h1 h2
 match L,h1 with
 |[a0,a1,a2,a3,a4,a5,a6],_=>exact ⟨a0,a1,a2,a3,a4,a5,a6,rfl,(h2 0 (by decide)).symm,(h2 1 (by decide)).symm,(h2 2 (by decide)).symm,(h2 3 (by decide)).symm,(h2 4 (by decide)).symm,(h2 5 (by decide)).symm,(h2 6 (by decide)).symm⟩
theorem MV {σ:Type}{W:World}{ob:Option Nat}{J:σ→World→Prop}{f:Fv}{v:Value}{xs:List Value}{n:Nat}{p:Nat→σ→Option σ} (hv:Rl W v n xs) (db:f.ok) (hf:eo true W.heap.size W ob J f (fun i=>xs.getD i undef) n p) (cI:∀k,ob=some k→W.heap.size≤k) (hx:xs.length=n) (w0:World) (s:σ) (hw:Below W.heap.size W w0) (hj:J s w0) :
  Calls Tryz.prog 135 #[v,f.val] w0 fun e w=>∃r:Int,e=.returned (.int .i64 r)∧(decide (0≤r)=!(bO p n 0 s).isSome)∧(∀s',bO p n 0 s=some s'→J s' w)∧w0.grownBy w ob:=by
 obtain ⟨a,c,rfl,hn,h2⟩:=hv
 obtain ⟨qK,fs,cp⟩:=f
 unfold Fv.val
 unfold Fv.ok at db
 unfold eo at hf
 simp only at hf db ⊢
 have H2:=ak h2
 have HF:=ak hf
 have HW:=ak hw
 have HJ:=ak hj
 have HO:=ak cI
 have HX:=ak hx
 clear h2 hf hw hj cI hx
 go_enter Tryz.func135,Tryz.ntmps135
 go_wp2
 go_loopg [5,8] n (fun gk _ v8 wr=>∃(i:Nat) (st:σ),v8=.int .i64 (i:Int)∧gk=n-i∧i≤n∧Hid (Below W.heap.size W wr)∧Hid (J st wr)∧Hid (w0.grownBy wr ob)∧Hid (bO p n 0 s=bO p (n-i) i st))
 case atStart=>exact ⟨0,s,rfl,by omega,by omega,HW,HJ,zI _ _,rfl⟩
 case round =>
  obtain ⟨i,st,rfl,bd,hi,HB,HS,HG,HA⟩:=hrel
  have bH:=ak bd
  clear bd
  by_cases aU:i<n
  ·obtain ⟨g,o,rfl,hg,hc⟩:=ab H2 (by omega)
   obtain ⟨x,QS,dr⟩:=Wg (ab HX) aU
   have x0:=((ab HB).cell (p:=⟨g,o+i,none⟩) hg).trans (hc _ _ QS)
   have HC:=ak (ab HF i aU st _ (ab HB) (ab HS))
   rw[dr] at HC
   clear hc QS dr
   have i0:(0:Int)≤(i:Int):=zH _
   have i1:(i:Int)<(n:Int):=by omega
   have bn:=ak aU
   clear aU
   go_wp2_with fail
   refine (ab HC).mono ?_
   rintro e w1 ⟨rfl,pA,bG⟩
   have ei:=ak (cj (ab HB) bG (ab HB).size (ab HO))
   have eY:=ak ((ab HG).trans bG)
   have eZ:=ak pA
   clear pA bG HC
   cases hb:p i st with
   |some wK =>
    have iC:=ak ((ab HA).trans (kW (ab bn) hb))
    have pE:=ak (ab eZ _ hb)
    clear hb eZ
    have cP:=ak (show i+1≤n from ab bn)
    simp only[Option.isSome_some,Bool.bne_true,Bool.not_true]
    go_wp2
    go_roundg (n-(i+1))
    ·exact ⟨i+1,_,by simp,rfl,ab cP,ei,pE,eY,iC⟩
    ·have:=ab bH;have:=ab cP;omega
   |none =>
    have iC:=ak ((ab HA).trans (mL (ab bn) hb))
    clear hb eZ
    simp only[Option.isSome_none,Bool.bne_false]
    go_wp2
    go_ret
    refine ⟨(i:Int),rfl,?_,?_,ab eY⟩
    ·rw[ab iC];simp
    ·intro s' e;rw[ab iC] at e;cases e
  ·obtain rfl:i=n:=by omega
   have iC:Hid (bO p i 0 s=some st):=by
    have:=ab HA
    rw[Nat.sub_self] at this
    exact this
   go_wp2
   go_ret
   refine ⟨-1,rfl,?_,?_,ab HG⟩
   ·rw[ab iC];rfl
   ·intro s' e;rw[ab iC] at e;obtain rfl:=zC e;exact ab HS
theorem MX {σ:Type}{W:World}{ob:Option Nat}{J:σ→World→Prop}{f:Fv}{v:Value}{xs:List Value}{n:Nat}{p:Nat→σ→Option σ} (hv:Rl W v n xs) (db:f.ok) (hf:eo true W.heap.size W ob J f (lJ 7 xs) n p) (cI:∀k,ob=some k→W.heap.size≤k) (hx:xs.length=n*7) (w0:World) (s:σ) (hw:Below W.heap.size W w0) (hj:J s w0) :
  Calls Tryz.prog 136 #[v,f.val] w0 fun e w=>∃r:Int,e=.returned (.int .i64 r)∧(decide (0≤r)=!(bO p n 0 s).isSome)∧(∀s',bO p n 0 s=some s'→J s' w)∧w0.grownBy w ob:=by
 obtain ⟨a,c,rfl,hn,h2⟩:=hv
 obtain ⟨qK,fs,cp⟩:=f
 unfold Fv.val
 unfold Fv.ok at db
 unfold eo at hf
 simp only at hf db ⊢
 have H2:=ak h2
 have HF:=ak hf
 have HW:=ak hw
 have HJ:=ak hj
 have HO:=ak cI
 have HX:=ak hx
 clear h2 hf hw hj cI hx
 go_enter Tryz.func136,Tryz.ntmps136
 go_wp2
 go_loopg [5,8] n (fun gk _ v8 wr=>∃(i:Nat) (st:σ),v8=.int .i64 (i:Int)∧gk=n-i∧i≤n∧Hid (Below W.heap.size W wr)∧Hid (J st wr)∧Hid (w0.grownBy wr ob)∧Hid (bO p n 0 s=bO p (n-i) i st))
 case atStart=>exact ⟨0,s,rfl,by omega,by omega,HW,HJ,zI _ _,rfl⟩
 case round =>
  obtain ⟨i,st,rfl,bd,hi,HB,HS,HG,HA⟩:=hrel
  have bH:=ak bd
  clear bd
  by_cases aU:i<n
  ·obtain ⟨g,o,rfl,hg,hc⟩:=ab H2 (by omega)
   obtain ⟨a0,a1,a2,a3,a4,a5,a6,dr,y0,y1,y2,y3,y4,y5,y6⟩:=Wd (ab HX) aU
   have x0:=((ab HB).cell (p:=⟨g,o+(i*7+0),none⟩) hg).trans (hc _ _ y0)
   have x1:=((ab HB).cell (p:=⟨g,o+(i*7+1),none⟩) hg).trans (hc _ _ y1)
   have x2:=((ab HB).cell (p:=⟨g,o+(i*7+2),none⟩) hg).trans (hc _ _ y2)
   have x3:=((ab HB).cell (p:=⟨g,o+(i*7+3),none⟩) hg).trans (hc _ _ y3)
   have x4:=((ab HB).cell (p:=⟨g,o+(i*7+4),none⟩) hg).trans (hc _ _ y4)
   have x5:=((ab HB).cell (p:=⟨g,o+(i*7+5),none⟩) hg).trans (hc _ _ y5)
   have x6:=((ab HB).cell (p:=⟨g,o+(i*7+6),none⟩) hg).trans (hc _ _ y6)
   rw[Nat.add_zero] at x0
   rw[←Nat.add_assoc] at x1
   rw[←Nat.add_assoc] at x2
   rw[←Nat.add_assoc] at x3
   rw[←Nat.add_assoc] at x4
   rw[←Nat.add_assoc] at x5
   rw[←Nat.add_assoc] at x6
   have HC:=ak (ab HF i aU st _ (ab HB) (ab HS))
   rw[dr] at HC
   clear hc dr y0 y1 y2 y3 y4 y5 y6
   have i0:(0:Int)≤(i:Int):=zH _
   have i1:(i:Int)<(n:Int):=by omega
   have bn:=ak aU
   clear aU
   go_wp2_with fail
   refine (ab HC).mono ?_
   rintro e w1 ⟨rfl,pA,bG⟩
   have ei:=ak (cj (ab HB) bG (ab HB).size (ab HO))
   have eY:=ak ((ab HG).trans bG)
   have eZ:=ak pA
   clear pA bG HC
   cases hb:p i st with
   |some wK =>
    have iC:=ak ((ab HA).trans (kW (ab bn) hb))
    have pE:=ak (ab eZ _ hb)
    clear hb eZ
    have cP:=ak (show i+1≤n from ab bn)
    simp only[Option.isSome_some,Bool.bne_true,Bool.not_true]
    go_wp2
    go_roundg (n-(i+1))
    ·exact ⟨i+1,_,by simp,rfl,ab cP,ei,pE,eY,iC⟩
    ·have:=ab bH;have:=ab cP;omega
   |none =>
    have iC:=ak ((ab HA).trans (mL (ab bn) hb))
    clear hb eZ
    simp only[Option.isSome_none,Bool.bne_false]
    go_wp2
    go_ret
    refine ⟨(i:Int),rfl,?_,?_,ab eY⟩
    ·rw[ab iC];simp
    ·intro s' e;rw[ab iC] at e;cases e
  ·obtain rfl:i=n:=by omega
   have iC:Hid (bO p i 0 s=some st):=by
    have:=ab HA
    rw[Nat.sub_self] at this
    exact this
   go_wp2
   go_ret
   refine ⟨-1,rfl,?_,?_,ab HG⟩
   ·rw[ab iC];rfl
   ·intro s' e;rw[ab iC] at e;obtain rfl:=zC e;exact ab HS
theorem MZ {σ:Type}{W:World}{ob:Option Nat}{J:σ→World→Prop}{f:Fv}{v:Value}{xs:List Value}{n:Nat}{p:Nat→σ→Option σ} (hv:Rl W v n xs) (db:f.ok) (hf:eo true W.heap.size W ob J f (lJ 4 xs) n p) (cI:∀k,ob=some k→W.heap.size≤k) (hx:xs.length=n*4) (w0:World) (s:σ) (hw:Below W.heap.size W w0) (hj:J s w0) :
  Calls Tryz.prog 147 #[v,f.val] w0 fun e w=>∃r:Int,e=.returned (.int .i64 r)∧(decide (0≤r)=!(bO p n 0 s).isSome)∧(∀s',bO p n 0 s=some s'→J s' w)∧w0.grownBy w ob:=by
 obtain ⟨a,c,rfl,hn,h2⟩:=hv
 obtain ⟨qK,fs,cp⟩:=f
 unfold Fv.val
 unfold Fv.ok at db
 unfold eo at hf
 simp only at hf db ⊢
 have H2:=ak h2
 have HF:=ak hf
 have HW:=ak hw
 have HJ:=ak hj
 have HO:=ak cI
 have HX:=ak hx
 clear h2 hf hw hj cI hx
 go_enter Tryz.func147,Tryz.ntmps147
 go_wp2
 go_loopg [5,8] n (fun gk _ v8 wr=>∃(i:Nat) (st:σ),v8=.int .i64 (i:Int)∧gk=n-i∧i≤n∧Hid (Below W.heap.size W wr)∧Hid (J st wr)∧Hid (w0.grownBy wr ob)∧Hid (bO p n 0 s=bO p (n-i) i st))
 case atStart=>exact ⟨0,s,rfl,by omega,by omega,HW,HJ,zI _ _,rfl⟩
 case round =>
  obtain ⟨i,st,rfl,bd,hi,HB,HS,HG,HA⟩:=hrel
  have bH:=ak bd
  clear bd
  by_cases aU:i<n
  ·obtain ⟨g,o,rfl,hg,hc⟩:=ab H2 (by omega)
   obtain ⟨a0,a1,a2,a3,dr,y0,y1,y2,y3⟩:=Wf (ab HX) aU
   have x0:=((ab HB).cell (p:=⟨g,o+(i*4+0),none⟩) hg).trans (hc _ _ y0)
   have x1:=((ab HB).cell (p:=⟨g,o+(i*4+1),none⟩) hg).trans (hc _ _ y1)
   have x2:=((ab HB).cell (p:=⟨g,o+(i*4+2),none⟩) hg).trans (hc _ _ y2)
   have x3:=((ab HB).cell (p:=⟨g,o+(i*4+3),none⟩) hg).trans (hc _ _ y3)
   rw[Nat.add_zero] at x0
   rw[←Nat.add_assoc] at x1
   rw[←Nat.add_assoc] at x2
   rw[←Nat.add_assoc] at x3
   have HC:=ak (ab HF i aU st _ (ab HB) (ab HS))
   rw[dr] at HC
   clear hc dr y0 y1 y2 y3
   have i0:(0:Int)≤(i:Int):=zH _
   have i1:(i:Int)<(n:Int):=by omega
   have bn:=ak aU
   clear aU
   go_wp2_with fail
   refine (ab HC).mono ?_
   rintro e w1 ⟨rfl,pA,bG⟩
   have ei:=ak (cj (ab HB) bG (ab HB).size (ab HO))
   have eY:=ak ((ab HG).trans bG)
   have eZ:=ak pA
   clear pA bG HC
   cases hb:p i st with
   |some wK =>
    have iC:=ak ((ab HA).trans (kW (ab bn) hb))
    have pE:=ak (ab eZ _ hb)
    clear hb eZ
    have cP:=ak (show i+1≤n from ab bn)
    simp only[Option.isSome_some,Bool.bne_true,Bool.not_true]
    go_wp2
    go_roundg (n-(i+1))
    ·exact ⟨i+1,_,by simp,rfl,ab cP,ei,pE,eY,iC⟩
    ·have:=ab bH;have:=ab cP;omega
   |none =>
    have iC:=ak ((ab HA).trans (mL (ab bn) hb))
    clear hb eZ
    simp only[Option.isSome_none,Bool.bne_false]
    go_wp2
    go_ret
    refine ⟨(i:Int),rfl,?_,?_,ab eY⟩
    ·rw[ab iC];simp
    ·intro s' e;rw[ab iC] at e;cases e
  ·obtain rfl:i=n:=by omega
   have iC:Hid (bO p i 0 s=some st):=by
    have:=ab HA
    rw[Nat.sub_self] at this
    exact this
   go_wp2
   go_ret
   refine ⟨-1,rfl,?_,?_,ab HG⟩
   ·rw[ab iC];rfl
   ·intro s' e;rw[ab iC] at e;obtain rfl:=zC e;exact ab HS
theorem MY {σ:Type}{W:World}{ob:Option Nat}{J:σ→World→Prop}{f:Fv}{v:Value}{xs:List Value}{n:Nat}{p:Nat→σ→Option σ} (hv:Rl W v n xs) (db:f.ok) (hf:eo true W.heap.size W ob J f (lJ 6 xs) n p) (cI:∀k,ob=some k→W.heap.size≤k) (hx:xs.length=n*6) (w0:World) (s:σ) (hw:Below W.heap.size W w0) (hj:J s w0) :
  Calls Tryz.prog 211 #[v,f.val] w0 fun e w=>∃r:Int,e=.returned (.int .i64 r)∧(decide (0≤r)=!(bO p n 0 s).isSome)∧(∀s',bO p n 0 s=some s'→J s' w)∧w0.grownBy w ob:=by
 obtain ⟨a,c,rfl,hn,h2⟩:=hv
 obtain ⟨qK,fs,cp⟩:=f
 unfold Fv.val
 unfold Fv.ok at db
 unfold eo at hf
 simp only at hf db ⊢
 have H2:=ak h2
 have HF:=ak hf
 have HW:=ak hw
 have HJ:=ak hj
 have HO:=ak cI
 have HX:=ak hx
 clear h2 hf hw hj cI hx
 go_enter Tryz.func211,Tryz.ntmps211
 go_wp2
 go_loopg [5,8] n (fun gk _ v8 wr=>∃(i:Nat) (st:σ),v8=.int .i64 (i:Int)∧gk=n-i∧i≤n∧Hid (Below W.heap.size W wr)∧Hid (J st wr)∧Hid (w0.grownBy wr ob)∧Hid (bO p n 0 s=bO p (n-i) i st))
 case atStart=>exact ⟨0,s,rfl,by omega,by omega,HW,HJ,zI _ _,rfl⟩
 case round =>
  obtain ⟨i,st,rfl,bd,hi,HB,HS,HG,HA⟩:=hrel
  have bH:=ak bd
  clear bd
  by_cases aU:i<n
  ·obtain ⟨g,o,rfl,hg,hc⟩:=ab H2 (by omega)
   obtain ⟨a0,a1,a2,a3,a4,a5,dr,y0,y1,y2,y3,y4,y5⟩:=RM (ab HX) aU
   have x0:=((ab HB).cell (p:=⟨g,o+(i*6+0),none⟩) hg).trans (hc _ _ y0)
   have x1:=((ab HB).cell (p:=⟨g,o+(i*6+1),none⟩) hg).trans (hc _ _ y1)
   have x2:=((ab HB).cell (p:=⟨g,o+(i*6+2),none⟩) hg).trans (hc _ _ y2)
   have x3:=((ab HB).cell (p:=⟨g,o+(i*6+3),none⟩) hg).trans (hc _ _ y3)
   have x4:=((ab HB).cell (p:=⟨g,o+(i*6+4),none⟩) hg).trans (hc _ _ y4)
   have x5:=((ab HB).cell (p:=⟨g,o+(i*6+5),none⟩) hg).trans (hc _ _ y5)
   rw[Nat.add_zero] at x0
   rw[←Nat.add_assoc] at x1
   rw[←Nat.add_assoc] at x2
   rw[←Nat.add_assoc] at x3
   rw[←Nat.add_assoc] at x4
   rw[←Nat.add_assoc] at x5
   have HC:=ak (ab HF i aU st _ (ab HB) (ab HS))
   rw[dr] at HC
   clear hc dr y0 y1 y2 y3 y4 y5
   have i0:(0:Int)≤(i:Int):=zH _
   have i1:(i:Int)<(n:Int):=by omega
   have bn:=ak aU
   clear aU
   go_wp2_with fail
   refine (ab HC).mono ?_
   rintro e w1 ⟨rfl,pA,bG⟩
   have ei:=ak (cj (ab HB) bG (ab HB).size (ab HO))
   have eY:=ak ((ab HG).trans bG)
   have eZ:=ak pA
   clear pA bG HC
   cases hb:p i st with
   |some wK =>
    have iC:=ak ((ab HA).trans (kW (ab bn) hb))
    have pE:=ak (ab eZ _ hb)
    clear hb eZ
    have cP:=ak (show i+1≤n from ab bn)
    simp only[Option.isSome_some,Bool.bne_true,Bool.not_true]
    go_wp2
    go_roundg (n-(i+1))
    ·exact ⟨i+1,_,by simp,rfl,ab cP,ei,pE,eY,iC⟩
    ·have:=ab bH;have:=ab cP;omega
   |none =>
    have iC:=ak ((ab HA).trans (mL (ab bn) hb))
    clear hb eZ
    simp only[Option.isSome_none,Bool.bne_false]
    go_wp2
    go_ret
    refine ⟨(i:Int),rfl,?_,?_,ab eY⟩
    ·rw[ab iC];simp
    ·intro s' e;rw[ab iC] at e;cases e
  ·obtain rfl:i=n:=by omega
   have iC:Hid (bO p i 0 s=some st):=by
    have:=ab HA
    rw[Nat.sub_self] at this
    exact this
   go_wp2
   go_ret
   refine ⟨-1,rfl,?_,?_,ab HG⟩
   ·rw[ab iC];rfl
   ·intro s' e;rw[ab iC] at e;obtain rfl:=zC e;exact ab HS
theorem MW {σ:Type}{W:World}{ob:Option Nat}{J:σ→World→Prop}{f:Fv}{v:Value}{xs:List Value}{n:Nat}{p:Nat→σ→Option σ} (hv:Rl W v n xs) (db:f.ok) (hf:eo true W.heap.size W ob J f (lJ 2 xs) n p) (cI:∀k,ob=some k→W.heap.size≤k) (hx:xs.length=n*2) (w0:World) (s:σ) (hw:Below W.heap.size W w0) (hj:J s w0) :
  Calls Tryz.prog 215 #[v,f.val] w0 fun e w=>∃r:Int,e=.returned (.int .i64 r)∧(decide (0≤r)=!(bO p n 0 s).isSome)∧(∀s',bO p n 0 s=some s'→J s' w)∧w0.grownBy w ob:=by
 obtain ⟨a,c,rfl,hn,h2⟩:=hv
 obtain ⟨qK,fs,cp⟩:=f
 unfold Fv.val
 unfold Fv.ok at db
 unfold eo at hf
 simp only at hf db ⊢
 have H2:=ak h2
 have HF:=ak hf
 have HW:=ak hw
 have HJ:=ak hj
 have HO:=ak cI
 have HX:=ak hx
 clear h2 hf hw hj cI hx
 go_enter Tryz.func215,Tryz.ntmps215
 go_wp2
 go_loopg [5,8] n (fun gk _ v8 wr=>∃(i:Nat) (st:σ),v8=.int .i64 (i:Int)∧gk=n-i∧i≤n∧Hid (Below W.heap.size W wr)∧Hid (J st wr)∧Hid (w0.grownBy wr ob)∧Hid (bO p n 0 s=bO p (n-i) i st))
 case atStart=>exact ⟨0,s,rfl,by omega,by omega,HW,HJ,zI _ _,rfl⟩
 case round =>
  obtain ⟨i,st,rfl,bd,hi,HB,HS,HG,HA⟩:=hrel
  have bH:=ak bd
  clear bd
  by_cases aU:i<n
  ·obtain ⟨g,o,rfl,hg,hc⟩:=ab H2 (by omega)
   obtain ⟨a0,a1,dr,y0,y1⟩:=FT (ab HX) aU
   have x0:=((ab HB).cell (p:=⟨g,o+(i*2+0),none⟩) hg).trans (hc _ _ y0)
   have x1:=((ab HB).cell (p:=⟨g,o+(i*2+1),none⟩) hg).trans (hc _ _ y1)
   rw[Nat.add_zero] at x0
   rw[←Nat.add_assoc] at x1
   have HC:=ak (ab HF i aU st _ (ab HB) (ab HS))
   rw[dr] at HC
   clear hc dr y0 y1
   have i0:(0:Int)≤(i:Int):=zH _
   have i1:(i:Int)<(n:Int):=by omega
   have bn:=ak aU
   clear aU
   go_wp2_with fail
   refine (ab HC).mono ?_
   rintro e w1 ⟨rfl,pA,bG⟩
   have ei:=ak (cj (ab HB) bG (ab HB).size (ab HO))
   have eY:=ak ((ab HG).trans bG)
   have eZ:=ak pA
   clear pA bG HC
   cases hb:p i st with
   |some wK =>
    have iC:=ak ((ab HA).trans (kW (ab bn) hb))
    have pE:=ak (ab eZ _ hb)
    clear hb eZ
    have cP:=ak (show i+1≤n from ab bn)
    simp only[Option.isSome_some,Bool.bne_true,Bool.not_true]
    go_wp2
    go_roundg (n-(i+1))
    ·exact ⟨i+1,_,by simp,rfl,ab cP,ei,pE,eY,iC⟩
    ·have:=ab bH;have:=ab cP;omega
   |none =>
    have iC:=ak ((ab HA).trans (mL (ab bn) hb))
    clear hb eZ
    simp only[Option.isSome_none,Bool.bne_false]
    go_wp2
    go_ret
    refine ⟨(i:Int),rfl,?_,?_,ab eY⟩
    ·rw[ab iC];simp
    ·intro s' e;rw[ab iC] at e;cases e
  ·obtain rfl:i=n:=by omega
   have iC:Hid (bO p i 0 s=some st):=by
    have:=ab HA
    rw[Nat.sub_self] at this
    exact this
   go_wp2
   go_ret
   refine ⟨-1,rfl,?_,?_,ab HG⟩
   ·rw[ab iC];rfl
   ·intro s' e;rw[ab iC] at e;obtain rfl:=zC e;exact ab HS
theorem MU {σ:Type}{W:World}{ob:Option Nat}{J:σ→World→Prop}{f:Fv}{v:Value}{xs:List Value}{n:Nat}{p:Nat→σ→Option σ} (hv:Rl W v n xs) (db:f.ok) (hf:eo true W.heap.size W ob J f (lJ 2 xs) n p) (cI:∀k,ob=some k→W.heap.size≤k) (hx:xs.length=n*2) (w0:World) (s:σ) (hw:Below W.heap.size W w0) (hj:J s w0) :
  Calls Tryz.prog 216 #[v,f.val] w0 fun e w=>∃r:Int,e=.returned (.int .i64 r)∧(decide (0≤r)=!(bO p n 0 s).isSome)∧(∀s',bO p n 0 s=some s'→J s' w)∧w0.grownBy w ob:=by
 obtain ⟨a,c,rfl,hn,h2⟩:=hv
 obtain ⟨qK,fs,cp⟩:=f
 unfold Fv.val
 unfold Fv.ok at db
 unfold eo at hf
 simp only at hf db ⊢
 have H2:=ak h2
 have HF:=ak hf
 have HW:=ak hw
 have HJ:=ak hj
 have HO:=ak cI
 have HX:=ak hx
 clear h2 hf hw hj cI hx
 go_enter Tryz.func216,Tryz.ntmps216
 go_wp2
 go_loopg [5,8] n (fun gk _ v8 wr=>∃(i:Nat) (st:σ),v8=.int .i64 (i:Int)∧gk=n-i∧i≤n∧Hid (Below W.heap.size W wr)∧Hid (J st wr)∧Hid (w0.grownBy wr ob)∧Hid (bO p n 0 s=bO p (n-i) i st))
 case atStart=>exact ⟨0,s,rfl,by omega,by omega,HW,HJ,zI _ _,rfl⟩
 case round =>
  obtain ⟨i,st,rfl,bd,hi,HB,HS,HG,HA⟩:=hrel
  have bH:=ak bd
  clear bd
  by_cases aU:i<n
  ·obtain ⟨g,o,rfl,hg,hc⟩:=ab H2 (by omega)
   obtain ⟨a0,a1,dr,y0,y1⟩:=FT (ab HX) aU
   have x0:=((ab HB).cell (p:=⟨g,o+(i*2+0),none⟩) hg).trans (hc _ _ y0)
   have x1:=((ab HB).cell (p:=⟨g,o+(i*2+1),none⟩) hg).trans (hc _ _ y1)
   rw[Nat.add_zero] at x0
   rw[←Nat.add_assoc] at x1
   have HC:=ak (ab HF i aU st _ (ab HB) (ab HS))
   rw[dr] at HC
   clear hc dr y0 y1
   have i0:(0:Int)≤(i:Int):=zH _
   have i1:(i:Int)<(n:Int):=by omega
   have bn:=ak aU
   clear aU
   go_wp2_with fail
   refine (ab HC).mono ?_
   rintro e w1 ⟨rfl,pA,bG⟩
   have ei:=ak (cj (ab HB) bG (ab HB).size (ab HO))
   have eY:=ak ((ab HG).trans bG)
   have eZ:=ak pA
   clear pA bG HC
   cases hb:p i st with
   |some wK =>
    have iC:=ak ((ab HA).trans (kW (ab bn) hb))
    have pE:=ak (ab eZ _ hb)
    clear hb eZ
    have cP:=ak (show i+1≤n from ab bn)
    simp only[Option.isSome_some,Bool.bne_true,Bool.not_true]
    go_wp2
    go_roundg (n-(i+1))
    ·exact ⟨i+1,_,by simp,rfl,ab cP,ei,pE,eY,iC⟩
    ·have:=ab bH;have:=ab cP;omega
   |none =>
    have iC:=ak ((ab HA).trans (mL (ab bn) hb))
    clear hb eZ
    simp only[Option.isSome_none,Bool.bne_false]
    go_wp2
    go_ret
    refine ⟨(i:Int),rfl,?_,?_,ab eY⟩
    ·rw[ab iC];simp
    ·intro s' e;rw[ab iC] at e;cases e
  ·obtain rfl:i=n:=by omega
   have iC:Hid (bO p i 0 s=some st):=by
    have:=ab HA
    rw[Nat.sub_self] at this
    exact this
   go_wp2
   go_ret
   refine ⟨-1,rfl,?_,?_,ab HG⟩
   ·rw[ab iC];rfl
   ·intro s' e;rw[ab iC] at e;obtain rfl:=zC e;exact ab HS
end Go.Proofs.YtghioefalckgoaaGreatDoor
