import Derived.Test.YtichhjfjcinjgaaGreatDoorM00
import Derived.Outline
set_option maxHeartbeats 2000000
set_option maxRecDepth 100000
namespace Go.Proofs.YtichhjfjcinjgaaGreatDoor
open Go.RowKit
attribute [local go_sem ↓] Go.wp_at_zero Go.wp_at_succ
structure Fv where
 f:FuncId
 fs:Array Value
 cp:Array Value
def Fv.val (f:Fv):Value:=.func (.func f.f) f.fs f.cp
def Fv.ok (f:Fv):Prop:=∀vs w,(callFunc f.f vs).run Tryz.prog w=.ok (.enter f.f vs) w
def cA {σ:Type} (p:Nat→σ→Option σ):Nat→Nat→σ→Option σ
 |0,_,s=>some s
 |n+1,i,s=>match p i s with
  |some s'=>cA p n (i+1) s'
  |none=>none
theorem ld {σ:Type}{p:Nat→σ→Option σ}{n i:Nat}{s s':σ} (h:i<n) (hp:p i s=some s'):cA p (n-i) i s=cA p (n-(i+1)) (i+1) s':=by
 rw[show n-i=(n-(i+1))+1 by omega]
 conv=>lhs;unfold cA
 rw[hp]
theorem mX {σ:Type}{p:Nat→σ→Option σ}{n i:Nat}{s:σ} (h:i<n) (hp:p i s=none):cA p (n-i) i s=none:=by
 rw[show n-i=(n-(i+1))+1 by omega]
 unfold cA
 rw[hp]
def eX {σ:Type} (ng:Bool) (lo:Nat) (W:World) (ob:Option Nat) (J:σ→World→Prop) (f:Fv) (el:Nat→Value) (n:Nat) (p:Nat→σ→Option σ):Prop :=
 ∀i,i<n→∀s w,Below lo W w→J s w→Calls Tryz.prog f.f (f.fs.push (el i)++f.cp) w fun e w'=>e=.returned (.bool (ng ^^ (p i s).isSome))∧(∀s',p i s=some s'→J s' w')∧w.grownBy w' ob
def kd {σ:Type} (w0:World) (ob:Option Nat) (J:σ→World→Prop) (r:Option σ) (e:Ending) (w:World):Prop:=e=.returned (.bool r.isSome)∧(∀s',r=some s'→J s' w)∧w0.grownBy w ob
theorem cn {lo:Nat}{W w w':World}{ob:Option Nat} (hb:Below lo W w) (hg:w.grownBy w' ob) (dF:lo≤w.heap.size) (ei:∀k,ob=some k→lo≤k):Below lo W w':=hb.grown hg dF ei
def lV (k:Nat) (xs:List Value) (i:Nat):Value:=.agg ((xs.drop (i*k)).take k).toArray
theorem SL {xs:List Value}{n i:Nat} (hx:xs.length=n) (hi:i<n):∃a,xs[i]?=some a∧xs.getD i undef=a:=by
 have h:i<xs.length:=by omega
 exact ⟨xs[i],List.getElem?_eq_getElem h,by simp[List.getD_eq_getElem?_getD,List.getElem?_eq_getElem h]⟩
theorem LJ {xs:List Value}{n i:Nat} (k:Nat) (hx:xs.length=n*k) (hi:i<n):((xs.drop (i*k)).take k).length=k∧∀j,j<k→((xs.drop (i*k)).take k)[j]?=xs[i*k+j]?:=by
 have h:i*k+k≤n*k:=by rw[←Nat.succ_mul];exact Nat.mul_le_mul_right k hi
 constructor
 ·rw[List.length_take,List.length_drop];omega
 ·intro j hj;rw[List.getElem?_take,if_pos hj,List.getElem?_drop]
theorem Fz {xs:List Value}{n i:Nat} (hx:xs.length=n*2) (hi:i<n):∃a0 a1,lV 2 xs i=.agg #[a0,a1]∧xs[i*2+0]?=some a0∧xs[i*2+1]?=some a1:=by
 obtain ⟨h1,h2⟩:=LJ 2 hx hi
 unfold lV
 generalize (xs.drop (i*2)).take 2=L at h1 h2
 match L,h1 with
 |[a0,a1],_=>exact ⟨a0,a1,rfl,(h2 0 (by decide)).symm,(h2 1 (by decide)).symm⟩
theorem SK {xs:List Value}{n i:Nat} (hx:xs.length=n*4) (hi:i<n):∃a0 a1 a2 a3,lV 4 xs i=.agg #[a0,a1,a2,a3]∧xs[i*4+0]?=some a0∧xs[i*4+1]?=some a1∧xs[i*4+2]?=some a2∧xs[i*4+3]?=some a3:=by
 obtain ⟨h1,h2⟩:=LJ 4 hx hi
 unfold lV
 generalize (xs.drop (i*4)).take 4=L at h1 h2
 match L,h1 with
 |[a0,a1,a2,a3],_=>exact ⟨a0,a1,a2,a3,rfl,(h2 0 (by decide)).symm,(h2 1 (by decide)).symm,(h2 2 (by decide)).symm,(h2 3 (by decide)).symm⟩
theorem OH {xs:List Value}{n i:Nat} (hx:xs.length=n*6) (hi:i<n):∃a0 a1 a2 a3 a4 a5,lV 6 xs i=.agg #[a0,a1,a2,a3,a4,a5]∧xs[i*6+0]?=some a0∧xs[i*6+1]?=some a1∧xs[i*6+2]?=some a2∧xs[i*6+3]?=some a3∧xs[i*6+4]?=some a4∧xs[i*6+5]?=some a5:=by
 obtain ⟨h1,h2⟩:=LJ 6 hx hi
 unfold lV
 generalize (xs.drop (i*6)).take 6=L at h1 h2
 match L,h1 with
 |[a0,a1,a2,a3,a4,a5],_=>exact ⟨a0,a1,a2,a3,a4,a5,rfl,(h2 0 (by decide)).symm,(h2 1 (by decide)).symm,(h2 2 (by decide)).symm,(h2 3 (by decide)).symm,(h2 4 (by decide)).symm,(h2 5 (by decide)).symm⟩
theorem SI {xs:List Value}{n i:Nat} (hx:xs.length=n*7) (hi:i<n):∃a0 a1 a2 a3 a4 a5 a6,lV 7 xs i=.agg #[a0,a1,a2,a3,a4,a5,a6]∧xs[i*7+0]?=some a0∧xs[i*7+1]?=some a1∧xs[i*7+2]?=some a2∧xs[i*7+3]?=some a3∧xs[i*7+4]?=some a4∧xs[i*7+5]?=some a5∧xs[i*7+6]?=some a6:=by
 obtain ⟨h1,h2⟩:=LJ 7 hx hi
 unfold lV
 generalize (xs.drop (i*7)).take 7=L at h1 h2
 match L,h1 with
 |[a0,a1,a2,a3,a4,a5,a6],_=>exact ⟨a0,a1,a2,a3,a4,a5,a6,rfl,(h2 0 (by decide)).symm,(h2 1 (by decide)).symm,(h2 2 (by decide)).symm,(h2 3 (by decide)).symm,(h2 4 (by decide)).symm,(h2 5 (by decide)).symm,(h2 6 (by decide)).symm⟩
theorem K' {σ:Type}{W:World}{ob:Option Nat}{J:σ→World→Prop}{f:Fv}{v:Value}{xs:List Value}{n:Nat}{p:Nat→σ→Option σ} (hv:Rl W v n xs) (dZ:f.ok) (hf:eX true W.heap.size W ob J f (fun i=>xs.getD i undef) n p) (ei:∀k,ob=some k→W.heap.size≤k) (hx:xs.length=n) (w0:World) (s:σ) (hw:Below W.heap.size W w0) (hj:J s w0) :
  Calls Tryz.prog 109 #[v,f.val] w0 fun e w=>∃r:Int,e=.returned (.int .i64 r)∧(decide (0≤r)=!(cA p n 0 s).isSome)∧(∀s',cA p n 0 s=some s'→J s' w)∧w0.grownBy w ob:=by
 obtain ⟨a,c,rfl,hn,h2⟩:=hv
 obtain ⟨qX,fs,cp⟩:=f
 unfold Fv.val
 unfold Fv.ok at dZ
 unfold eX at hf
 simp only at hf dZ ⊢
 have H2:=al h2
 have HF:=al hf
 have HW:=al hw
 have HJ:=al hj
 have HO:=al ei
 have HX:=al hx
 clear h2 hf hw hj ei hx
 go_enter Tryz.func109,Tryz.ntmps109
 go_wp2
 go_loopg [5,8] n (fun gk _ v8 wr=>∃(i:Nat) (st:σ),v8=.int .i64 (i:Int)∧gk=n-i∧i≤n∧Hid (Below W.heap.size W wr)∧Hid (J st wr)∧Hid (w0.grownBy wr ob)∧Hid (cA p n 0 s=cA p (n-i) i st))
 case atStart=>exact ⟨0,s,rfl,by omega,by omega,HW,HJ,zI _ _,rfl⟩
 case round =>
  obtain ⟨i,st,rfl,aW,hi,HB,HS,HG,HA⟩:=hrel
  have bz:=al aW
  clear aW
  by_cases aM:i<n
  ·obtain ⟨g,o,rfl,hg,hc⟩:=ab H2 (by omega)
   obtain ⟨x,F',c8⟩:=SL (ab HX) aM
   have x0:=((ab HB).cell (p:=⟨g,o+i,none⟩) hg).trans (hc _ _ F')
   have HC:=al (ab HF i aM st _ (ab HB) (ab HS))
   rw[c8] at HC
   clear hc F' c8
   have i0:(0:Int)≤(i:Int):=zH _
   have i1:(i:Int)<(n:Int):=by omega
   have bu:=al aM
   clear aM
   go_wp2_with fail
   refine (ab HC).mono ?_
   rintro e w1 ⟨rfl,yo,dO⟩
   have cO:=al (cn (ab HB) dO (ab HB).size (ab HO))
   have pI:=al ((ab HG).trans dO)
   have iQ:=al yo
   clear yo dO HC
   cases hb:p i st with
   |some vR =>
    have jq:=al ((ab HA).trans (ld (ab bu) hb))
    have yU:=al (ab iQ _ hb)
    clear hb iQ
    have ed:=al (show i+1≤n from ab bu)
    simp only[Option.isSome_some,Bool.bne_true,Bool.not_true]
    go_wp2
    go_roundg (n-(i+1))
    ·exact ⟨i+1,_,by simp,rfl,ab ed,cO,yU,pI,jq⟩
    ·have:=ab bz;have:=ab ed;omega
   |none =>
    have jq:=al ((ab HA).trans (mX (ab bu) hb))
    clear hb iQ
    simp only[Option.isSome_none,Bool.bne_false]
    go_wp2
    go_ret
    refine ⟨(i:Int),rfl,?_,?_,ab pI⟩
    ·rw[ab jq];simp
    ·intro s' e;rw[ab jq] at e;cases e
  ·obtain rfl:i=n:=by omega
   have jq:Hid (cA p i 0 s=some st):=by
    have:=ab HA
    rw[Nat.sub_self] at this
    exact this
   go_wp2
   go_ret
   refine ⟨-1,rfl,?_,?_,ab HG⟩
   ·rw[ab jq];rfl
   ·intro s' e;rw[ab jq] at e;obtain rfl:=zC e;exact ab HS
theorem Lb {σ:Type}{W:World}{ob:Option Nat}{J:σ→World→Prop}{f:Fv}{v:Value}{xs:List Value}{n:Nat}{p:Nat→σ→Option σ} (hv:Rl W v n xs) (dZ:f.ok) (hf:eX true W.heap.size W ob J f (lV 7 xs) n p) (ei:∀k,ob=some k→W.heap.size≤k) (hx:xs.length=n*7) (w0:World) (s:σ) (hw:Below W.heap.size W w0) (hj:J s w0) :
  Calls Tryz.prog 110 #[v,f.val] w0 fun e w=>∃r:Int,e=.returned (.int .i64 r)∧(decide (0≤r)=!(cA p n 0 s).isSome)∧(∀s',cA p n 0 s=some s'→J s' w)∧w0.grownBy w ob:=by
 obtain ⟨a,c,rfl,hn,h2⟩:=hv
 obtain ⟨qX,fs,cp⟩:=f
 unfold Fv.val
 unfold Fv.ok at dZ
 unfold eX at hf
 simp only at hf dZ ⊢
 have H2:=al h2
 have HF:=al hf
 have HW:=al hw
 have HJ:=al hj
 have HO:=al ei
 have HX:=al hx
 clear h2 hf hw hj ei hx
 go_enter Tryz.func110,Tryz.ntmps110
 go_wp2
 go_loopg [5,8] n (fun gk _ v8 wr=>∃(i:Nat) (st:σ),v8=.int .i64 (i:Int)∧gk=n-i∧i≤n∧Hid (Below W.heap.size W wr)∧Hid (J st wr)∧Hid (w0.grownBy wr ob)∧Hid (cA p n 0 s=cA p (n-i) i st))
 case atStart=>exact ⟨0,s,rfl,by omega,by omega,HW,HJ,zI _ _,rfl⟩
 case round =>
  obtain ⟨i,st,rfl,aW,hi,HB,HS,HG,HA⟩:=hrel
  have bz:=al aW
  clear aW
  by_cases aM:i<n
  ·obtain ⟨g,o,rfl,hg,hc⟩:=ab H2 (by omega)
   obtain ⟨a0,a1,a2,a3,a4,a5,a6,c8,y0,y1,y2,y3,y4,y5,y6⟩:=SI (ab HX) aM
   have x0:=((ab HB).cell (p:=⟨g,o+(i*7+0),none⟩) hg).trans (hc _ _ y0)
   have x1:=((ab HB).cell (p:=⟨g,o+(i*7+1),none⟩) hg).trans (hc _ _ y1)
   have x2:=((ab HB).cell (p:=⟨g,o+(i*7+2),none⟩) hg).trans (hc _ _ y2)
   have x3:=((ab HB).cell (p:=⟨g,o+(i*7+3),none⟩) hg).trans (hc _ _ y3)
   have x4:=((ab HB).cell (p:=⟨g,o+(i*7+4),none⟩) hg).trans (hc _ _ y4)
   have x5:=((ab HB).cell (p:=⟨g,o+(i*7+5),none⟩) hg).trans (hc _ _ y5)
   have x6:=((ab HB).cell (p:=⟨g,o+(i*7+6),none⟩) hg).trans (hc _ _ y6)
   rw[Nat.add_zero] at x0
   rw[←Nat.add_assoc] at x1
   rw[←Nat.add_assoc] at x2
   rw[←Nat.add_assoc] at x3
   rw[←Nat.add_assoc] at x4
   rw[←Nat.add_assoc] at x5
   rw[←Nat.add_assoc] at x6
   have HC:=al (ab HF i aM st _ (ab HB) (ab HS))
   rw[c8] at HC
   clear hc c8 y0 y1 y2 y3 y4 y5 y6
   have i0:(0:Int)≤(i:Int):=zH _
   have i1:(i:Int)<(n:Int):=by omega
   have bu:=al aM
   clear aM
   go_wp2_with fail
   refine (ab HC).mono ?_
   rintro e w1 ⟨rfl,yo,dO⟩
   have cO:=al (cn (ab HB) dO (ab HB).size (ab HO))
   have pI:=al ((ab HG).trans dO)
   have iQ:=al yo
   clear yo dO HC
   cases hb:p i st with
   |some vR =>
    have jq:=al ((ab HA).trans (ld (ab bu) hb))
    have yU:=al (ab iQ _ hb)
    clear hb iQ
    have ed:=al (show i+1≤n from ab bu)
    simp only[Option.isSome_some,Bool.bne_true,Bool.not_true]
    go_wp2
    go_roundg (n-(i+1))
    ·exact ⟨i+1,_,by simp,rfl,ab ed,cO,yU,pI,jq⟩
    ·have:=ab bz;have:=ab ed;omega
   |none =>
    have jq:=al ((ab HA).trans (mX (ab bu) hb))
    clear hb iQ
    simp only[Option.isSome_none,Bool.bne_false]
    go_wp2
    go_ret
    refine ⟨(i:Int),rfl,?_,?_,ab pI⟩
    ·rw[ab jq];simp
    ·intro s' e;rw[ab jq] at e;cases e
  ·obtain rfl:i=n:=by omega
   have jq:Hid (cA p i 0 s=some st):=by
    have:=ab HA
    rw[Nat.sub_self] at this
    exact this
   go_wp2
   go_ret
   refine ⟨-1,rfl,?_,?_,ab HG⟩
   ·rw[ab jq];rfl
   ·intro s' e;rw[ab jq] at e;obtain rfl:=zC e;exact ab HS
theorem Ld {σ:Type}{W:World}{ob:Option Nat}{J:σ→World→Prop}{f:Fv}{v:Value}{xs:List Value}{n:Nat}{p:Nat→σ→Option σ} (hv:Rl W v n xs) (dZ:f.ok) (hf:eX true W.heap.size W ob J f (lV 4 xs) n p) (ei:∀k,ob=some k→W.heap.size≤k) (hx:xs.length=n*4) (w0:World) (s:σ) (hw:Below W.heap.size W w0) (hj:J s w0) :
  Calls Tryz.prog 121 #[v,f.val] w0 fun e w=>∃r:Int,e=.returned (.int .i64 r)∧(decide (0≤r)=!(cA p n 0 s).isSome)∧(∀s',cA p n 0 s=some s'→J s' w)∧w0.grownBy w ob:=by
 obtain ⟨a,c,rfl,hn,h2⟩:=hv
 obtain ⟨qX,fs,cp⟩:=f
 unfold Fv.val
 unfold Fv.ok at dZ
 unfold eX at hf
 simp only at hf dZ ⊢
 have H2:=al h2
 have HF:=al hf
 have HW:=al hw
 have HJ:=al hj
 have HO:=al ei
 have HX:=al hx
 clear h2 hf hw hj ei hx
 go_enter Tryz.func121,Tryz.ntmps121
 go_wp2
 go_loopg [5,8] n (fun gk _ v8 wr=>∃(i:Nat) (st:σ),v8=.int .i64 (i:Int)∧gk=n-i∧i≤n∧Hid (Below W.heap.size W wr)∧Hid (J st wr)∧Hid (w0.grownBy wr ob)∧Hid (cA p n 0 s=cA p (n-i) i st))
 case atStart=>exact ⟨0,s,rfl,by omega,by omega,HW,HJ,zI _ _,rfl⟩
 case round =>
  obtain ⟨i,st,rfl,aW,hi,HB,HS,HG,HA⟩:=hrel
  have bz:=al aW
  clear aW
  by_cases aM:i<n
  ·obtain ⟨g,o,rfl,hg,hc⟩:=ab H2 (by omega)
   obtain ⟨a0,a1,a2,a3,c8,y0,y1,y2,y3⟩:=SK (ab HX) aM
   have x0:=((ab HB).cell (p:=⟨g,o+(i*4+0),none⟩) hg).trans (hc _ _ y0)
   have x1:=((ab HB).cell (p:=⟨g,o+(i*4+1),none⟩) hg).trans (hc _ _ y1)
   have x2:=((ab HB).cell (p:=⟨g,o+(i*4+2),none⟩) hg).trans (hc _ _ y2)
   have x3:=((ab HB).cell (p:=⟨g,o+(i*4+3),none⟩) hg).trans (hc _ _ y3)
   rw[Nat.add_zero] at x0
   rw[←Nat.add_assoc] at x1
   rw[←Nat.add_assoc] at x2
   rw[←Nat.add_assoc] at x3
   have HC:=al (ab HF i aM st _ (ab HB) (ab HS))
   rw[c8] at HC
   clear hc c8 y0 y1 y2 y3
   have i0:(0:Int)≤(i:Int):=zH _
   have i1:(i:Int)<(n:Int):=by omega
   have bu:=al aM
   clear aM
   go_wp2_with fail
   refine (ab HC).mono ?_
   rintro e w1 ⟨rfl,yo,dO⟩
   have cO:=al (cn (ab HB) dO (ab HB).size (ab HO))
   have pI:=al ((ab HG).trans dO)
   have iQ:=al yo
   clear yo dO HC
   cases hb:p i st with
   |some vR =>
    have jq:=al ((ab HA).trans (ld (ab bu) hb))
    have yU:=al (ab iQ _ hb)
    clear hb iQ
    have ed:=al (show i+1≤n from ab bu)
    simp only[Option.isSome_some,Bool.bne_true,Bool.not_true]
    go_wp2
    go_roundg (n-(i+1))
    ·exact ⟨i+1,_,by simp,rfl,ab ed,cO,yU,pI,jq⟩
    ·have:=ab bz;have:=ab ed;omega
   |none =>
    have jq:=al ((ab HA).trans (mX (ab bu) hb))
    clear hb iQ
    simp only[Option.isSome_none,Bool.bne_false]
    go_wp2
    go_ret
    refine ⟨(i:Int),rfl,?_,?_,ab pI⟩
    ·rw[ab jq];simp
    ·intro s' e;rw[ab jq] at e;cases e
  ·obtain rfl:i=n:=by omega
   have jq:Hid (cA p i 0 s=some st):=by
    have:=ab HA
    rw[Nat.sub_self] at this
    exact this
   go_wp2
   go_ret
   refine ⟨-1,rfl,?_,?_,ab HG⟩
   ·rw[ab jq];rfl
   ·intro s' e;rw[ab jq] at e;obtain rfl:=zC e;exact ab HS
theorem Lc {σ:Type}{W:World}{ob:Option Nat}{J:σ→World→Prop}{f:Fv}{v:Value}{xs:List Value}{n:Nat}{p:Nat→σ→Option σ} (hv:Rl W v n xs) (dZ:f.ok) (hf:eX true W.heap.size W ob J f (lV 6 xs) n p) (ei:∀k,ob=some k→W.heap.size≤k) (hx:xs.length=n*6) (w0:World) (s:σ) (hw:Below W.heap.size W w0) (hj:J s w0) :
  Calls Tryz.prog 157 #[v,f.val] w0 fun e w=>∃r:Int,e=.returned (.int .i64 r)∧(decide (0≤r)=!(cA p n 0 s).isSome)∧(∀s',cA p n 0 s=some s'→J s' w)∧w0.grownBy w ob:=by
 obtain ⟨a,c,rfl,hn,h2⟩:=hv
 obtain ⟨qX,fs,cp⟩:=f
 unfold Fv.val
 unfold Fv.ok at dZ
 unfold eX at hf
 simp only at hf dZ ⊢
 have H2:=al h2
 have HF:=al hf
 have HW:=al hw
 have HJ:=al hj
 have HO:=al ei
 have HX:=al hx
 clear h2 hf hw hj ei hx
 go_enter Tryz.func157,Tryz.ntmps157
 go_wp2
 go_loopg [5,8] n (fun gk _ v8 wr=>∃(i:Nat) (st:σ),v8=.int .i64 (i:Int)∧gk=n-i∧i≤n∧Hid (Below W.heap.size W wr)∧Hid (J st wr)∧Hid (w0.grownBy wr ob)∧Hid (cA p n 0 s=cA p (n-i) i st))
 case atStart=>exact ⟨0,s,rfl,by omega,by omega,HW,HJ,zI _ _,rfl⟩
 case round =>
  obtain ⟨i,st,rfl,aW,hi,HB,HS,HG,HA⟩:=hrel
  have bz:=al aW
  clear aW
  by_cases aM:i<n
  ·obtain ⟨g,o,rfl,hg,hc⟩:=ab H2 (by omega)
   obtain ⟨a0,a1,a2,a3,a4,a5,c8,y0,y1,y2,y3,y4,y5⟩:=OH (ab HX) aM
   have x0:=((ab HB).cell (p:=⟨g,o+(i*6+0),none⟩) hg).trans (hc _ _ y0)
   have x1:=((ab HB).cell (p:=⟨g,o+(i*6+1),none⟩) hg).trans (hc _ _ y1)
   have x2:=((ab HB).cell (p:=⟨g,o+(i*6+2),none⟩) hg).trans (hc _ _ y2)
   have x3:=((ab HB).cell (p:=⟨g,o+(i*6+3),none⟩) hg).trans (hc _ _ y3)
   have x4:=((ab HB).cell (p:=⟨g,o+(i*6+4),none⟩) hg).trans (hc _ _ y4)
   have x5:=((ab HB).cell (p:=⟨g,o+(i*6+5),none⟩) hg).trans (hc _ _ y5)
   rw[Nat.add_zero] at x0
   rw[←Nat.add_assoc] at x1
   rw[←Nat.add_assoc] at x2
   rw[←Nat.add_assoc] at x3
   rw[←Nat.add_assoc] at x4
   rw[←Nat.add_assoc] at x5
   have HC:=al (ab HF i aM st _ (ab HB) (ab HS))
   rw[c8] at HC
   clear hc c8 y0 y1 y2 y3 y4 y5
   have i0:(0:Int)≤(i:Int):=zH _
   have i1:(i:Int)<(n:Int):=by omega
   have bu:=al aM
   clear aM
   go_wp2_with fail
   refine (ab HC).mono ?_
   rintro e w1 ⟨rfl,yo,dO⟩
   have cO:=al (cn (ab HB) dO (ab HB).size (ab HO))
   have pI:=al ((ab HG).trans dO)
   have iQ:=al yo
   clear yo dO HC
   cases hb:p i st with
   |some vR =>
    have jq:=al ((ab HA).trans (ld (ab bu) hb))
    have yU:=al (ab iQ _ hb)
    clear hb iQ
    have ed:=al (show i+1≤n from ab bu)
    simp only[Option.isSome_some,Bool.bne_true,Bool.not_true]
    go_wp2
    go_roundg (n-(i+1))
    ·exact ⟨i+1,_,by simp,rfl,ab ed,cO,yU,pI,jq⟩
    ·have:=ab bz;have:=ab ed;omega
   |none =>
    have jq:=al ((ab HA).trans (mX (ab bu) hb))
    clear hb iQ
    simp only[Option.isSome_none,Bool.bne_false]
    go_wp2
    go_ret
    refine ⟨(i:Int),rfl,?_,?_,ab pI⟩
    ·rw[ab jq];simp
    ·intro s' e;rw[ab jq] at e;cases e
  ·obtain rfl:i=n:=by omega
   have jq:Hid (cA p i 0 s=some st):=by
    have:=ab HA
    rw[Nat.sub_self] at this
    exact this
   go_wp2
   go_ret
   refine ⟨-1,rfl,?_,?_,ab HG⟩
   ·rw[ab jq];rfl
   ·intro s' e;rw[ab jq] at e;obtain rfl:=zC e;exact ab HS
theorem La {σ:Type}{W:World}{ob:Option Nat}{J:σ→World→Prop}{f:Fv}{v:Value}{xs:List Value}{n:Nat}{p:Nat→σ→Option σ} (hv:Rl W v n xs) (dZ:f.ok) (hf:eX true W.heap.size W ob J f (lV 2 xs) n p) (ei:∀k,ob=some k→W.heap.size≤k) (hx:xs.length=n*2) (w0:World) (s:σ) (hw:Below W.heap.size W w0) (hj:J s w0) :
  Calls Tryz.prog 161 #[v,f.val] w0 fun e w=>∃r:Int,e=.returned (.int .i64 r)∧(decide (0≤r)=!(cA p n 0 s).isSome)∧(∀s',cA p n 0 s=some s'→J s' w)∧w0.grownBy w ob:=by
 obtain ⟨a,c,rfl,hn,h2⟩:=hv
 obtain ⟨qX,fs,cp⟩:=f
 unfold Fv.val
 unfold Fv.ok at dZ
 unfold eX at hf
 simp only at hf dZ ⊢
 have H2:=al h2
 have HF:=al hf
 have HW:=al hw
 have HJ:=al hj
 have HO:=al ei
 have HX:=al hx
 clear h2 hf hw hj ei hx
 go_enter Tryz.func161,Tryz.ntmps161
 go_wp2
 go_loopg [5,8] n (fun gk _ v8 wr=>∃(i:Nat) (st:σ),v8=.int .i64 (i:Int)∧gk=n-i∧i≤n∧Hid (Below W.heap.size W wr)∧Hid (J st wr)∧Hid (w0.grownBy wr ob)∧Hid (cA p n 0 s=cA p (n-i) i st))
 case atStart=>exact ⟨0,s,rfl,by omega,by omega,HW,HJ,zI _ _,rfl⟩
 case round =>
  obtain ⟨i,st,rfl,aW,hi,HB,HS,HG,HA⟩:=hrel
  have bz:=al aW
  clear aW
  by_cases aM:i<n
  ·obtain ⟨g,o,rfl,hg,hc⟩:=ab H2 (by omega)
   obtain ⟨a0,a1,c8,y0,y1⟩:=Fz (ab HX) aM
   have x0:=((ab HB).cell (p:=⟨g,o+(i*2+0),none⟩) hg).trans (hc _ _ y0)
   have x1:=((ab HB).cell (p:=⟨g,o+(i*2+1),none⟩) hg).trans (hc _ _ y1)
   rw[Nat.add_zero] at x0
   rw[←Nat.add_assoc] at x1
   have HC:=al (ab HF i aM st _ (ab HB) (ab HS))
   rw[c8] at HC
   clear hc c8 y0 y1
   have i0:(0:Int)≤(i:Int):=zH _
   have i1:(i:Int)<(n:Int):=by omega
   have bu:=al aM
   clear aM
   go_wp2_with fail
   refine (ab HC).mono ?_
   rintro e w1 ⟨rfl,yo,dO⟩
   have cO:=al (cn (ab HB) dO (ab HB).size (ab HO))
   have pI:=al ((ab HG).trans dO)
   have iQ:=al yo
   clear yo dO HC
   cases hb:p i st with
   |some vR =>
    have jq:=al ((ab HA).trans (ld (ab bu) hb))
    have yU:=al (ab iQ _ hb)
    clear hb iQ
    have ed:=al (show i+1≤n from ab bu)
    simp only[Option.isSome_some,Bool.bne_true,Bool.not_true]
    go_wp2
    go_roundg (n-(i+1))
    ·exact ⟨i+1,_,by simp,rfl,ab ed,cO,yU,pI,jq⟩
    ·have:=ab bz;have:=ab ed;omega
   |none =>
    have jq:=al ((ab HA).trans (mX (ab bu) hb))
    clear hb iQ
    simp only[Option.isSome_none,Bool.bne_false]
    go_wp2
    go_ret
    refine ⟨(i:Int),rfl,?_,?_,ab pI⟩
    ·rw[ab jq];simp
    ·intro s' e;rw[ab jq] at e;cases e
  ·obtain rfl:i=n:=by omega
   have jq:Hid (cA p i 0 s=some st):=by
    have:=ab HA
    rw[Nat.sub_self] at this
    exact this
   go_wp2
   go_ret
   refine ⟨-1,rfl,?_,?_,ab HG⟩
   ·rw[ab jq];rfl
   ·intro s' e;rw[ab jq] at e;obtain rfl:=zC e;exact ab HS
theorem K9 {σ:Type}{W:World}{ob:Option Nat}{J:σ→World→Prop}{f:Fv}{v:Value}{xs:List Value}{n:Nat}{p:Nat→σ→Option σ} (hv:Rl W v n xs) (dZ:f.ok) (hf:eX true W.heap.size W ob J f (lV 2 xs) n p) (ei:∀k,ob=some k→W.heap.size≤k) (hx:xs.length=n*2) (w0:World) (s:σ) (hw:Below W.heap.size W w0) (hj:J s w0) :
  Calls Tryz.prog 162 #[v,f.val] w0 fun e w=>∃r:Int,e=.returned (.int .i64 r)∧(decide (0≤r)=!(cA p n 0 s).isSome)∧(∀s',cA p n 0 s=some s'→J s' w)∧w0.grownBy w ob:=by
 obtain ⟨a,c,rfl,hn,h2⟩:=hv
 obtain ⟨qX,fs,cp⟩:=f
 unfold Fv.val
 unfold Fv.ok at dZ
 unfold eX at hf
 simp only at hf dZ ⊢
 have H2:=al h2
 have HF:=al hf
 have HW:=al hw
 have HJ:=al hj
 have HO:=al ei
 have HX:=al hx
 clear h2 hf hw hj ei hx
 go_enter Tryz.func162,Tryz.ntmps162
 go_wp2
 go_loopg [5,8] n (fun gk _ v8 wr=>∃(i:Nat) (st:σ),v8=.int .i64 (i:Int)∧gk=n-i∧i≤n∧Hid (Below W.heap.size W wr)∧Hid (J st wr)∧Hid (w0.grownBy wr ob)∧Hid (cA p n 0 s=cA p (n-i) i st))
 case atStart=>exact ⟨0,s,rfl,by omega,by omega,HW,HJ,zI _ _,rfl⟩
 case round =>
  obtain ⟨i,st,rfl,aW,hi,HB,HS,HG,HA⟩:=hrel
  have bz:=al aW
  clear aW
  by_cases aM:i<n
  ·obtain ⟨g,o,rfl,hg,hc⟩:=ab H2 (by omega)
   obtain ⟨a0,a1,c8,y0,y1⟩:=Fz (ab HX) aM
   have x0:=((ab HB).cell (p:=⟨g,o+(i*2+0),none⟩) hg).trans (hc _ _ y0)
   have x1:=((ab HB).cell (p:=⟨g,o+(i*2+1),none⟩) hg).trans (hc _ _ y1)
   rw[Nat.add_zero] at x0
   rw[←Nat.add_assoc] at x1
   have HC:=al (ab HF i aM st _ (ab HB) (ab HS))
   rw[c8] at HC
   clear hc c8 y0 y1
   have i0:(0:Int)≤(i:Int):=zH _
   have i1:(i:Int)<(n:Int):=by omega
   have bu:=al aM
   clear aM
   go_wp2_with fail
   refine (ab HC).mono ?_
   rintro e w1 ⟨rfl,yo,dO⟩
   have cO:=al (cn (ab HB) dO (ab HB).size (ab HO))
   have pI:=al ((ab HG).trans dO)
   have iQ:=al yo
   clear yo dO HC
   cases hb:p i st with
   |some vR =>
    have jq:=al ((ab HA).trans (ld (ab bu) hb))
    have yU:=al (ab iQ _ hb)
    clear hb iQ
    have ed:=al (show i+1≤n from ab bu)
    simp only[Option.isSome_some,Bool.bne_true,Bool.not_true]
    go_wp2
    go_roundg (n-(i+1))
    ·exact ⟨i+1,_,by simp,rfl,ab ed,cO,yU,pI,jq⟩
    ·have:=ab bz;have:=ab ed;omega
   |none =>
    have jq:=al ((ab HA).trans (mX (ab bu) hb))
    clear hb iQ
    simp only[Option.isSome_none,Bool.bne_false]
    go_wp2
    go_ret
    refine ⟨(i:Int),rfl,?_,?_,ab pI⟩
    ·rw[ab jq];simp
    ·intro s' e;rw[ab jq] at e;cases e
  ·obtain rfl:i=n:=by omega
   have jq:Hid (cA p i 0 s=some st):=by
    have:=ab HA
    rw[Nat.sub_self] at this
    exact this
   go_wp2
   go_ret
   refine ⟨-1,rfl,?_,?_,ab HG⟩
   ·rw[ab jq];rfl
   ·intro s' e;rw[ab jq] at e;obtain rfl:=zC e;exact ab HS
end Go.Proofs.YtichhjfjcinjgaaGreatDoor
