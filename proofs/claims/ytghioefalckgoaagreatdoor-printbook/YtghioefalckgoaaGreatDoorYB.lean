import Derived.Test.YtghioefalckgoaaGreatDoorYA
set_option maxHeartbeats 2000000
set_option maxRecDepth 100000
namespace Go.Proofs.YtghioefalckgoaaGreatDoor
open Go.RowKit
attribute [local go_sem ↓] Go.wp_at_zero Go.wp_at_succ
def LI {σ:Type} (J:σ→World→Prop):Prop:=∀s w w',J s w→w.grownBy w' none→J s w'
def JF {σ:Type} (J:σ→World→Prop) (g:Nat) (f:Value) (t:TypeId) (s:σ) (w:World):Prop:=J s w∧w.heap[g]?=some (.cells #[f] t (0,0))
theorem NU {σ:Type}{W:World}{ob:Option Nat}{J:σ→World→Prop}{f:Fv}{v:Value}{xs:List Value}{n:Nat}{p:Nat→σ→Option σ} (hv:Rl W v n xs) (db:f.ok) (hf:eo true W.heap.size W ob J f (fun i=>xs.getD i undef) n p) (cI:∀k,ob=some k→W.heap.size≤k) (hx:xs.length=n) (w0:World) (s:σ) (hw:Below W.heap.size W w0) (hj:J s w0) :
  Calls Tryz.prog 84 #[v,f.val] w0 (fun e w=>e=.returned (.bool (!(bO p n 0 s).isSome))∧(∀s',bO p n 0 s=some s'→J s' w)∧w0.grownBy w ob):=by
 have HI:=ak (MV hv db hf cI hx w0 s hw hj)
 obtain ⟨r,hr⟩:∃r,bO p n 0 s=r:=⟨_,rfl⟩
 rw[hr] at HI ⊢
 obtain ⟨a,c,rfl,hn,h2⟩:=hv
 obtain ⟨qK,fs,cp⟩:=f
 unfold Fv.val at HI ⊢
 simp only at HI ⊢
 clear hf cI hx hw hj h2 hn hr db
 go_enter Tryz.func84,Tryz.ntmps84
 go_wp2_with fail
 refine (ab HI).mono ?_
 rintro e w1 ⟨q,rfl,hq,kD,bG⟩
 have HJ:=ak kD
 have HG:=ak bG
 have HQ:=ak hq
 clear kD bG hq HI
 go_wp2
 go_ret
 refine ⟨?_,ab HJ,ab HG⟩
 have:=ab HQ
 simp only[←this]
 rfl
theorem Sq {f:Fv}{x:Value}{g:Nat}{w:World}{R:Ending→World→Prop}{b:Bool} (db:f.ok) (hg:w.heap[g]?=some (.cells #[f.val] 89 (0,0))) (hc:Calls Tryz.prog f.f (f.fs.push (x)++f.cp) w fun e w'=>e=.returned (.bool b)∧R e w') :
  Calls Tryz.prog 85 #[x,.pointer (some ⟨g,0,none⟩)] w fun e w'=>e=.returned (.bool (!b))∧R (.returned (.bool b)) w':=by
 have c0:w.cell? ⟨g,0,none⟩=some f.val:=cell_of_row _ _ _ _ _ _ hg
 obtain ⟨qK,fs,cp⟩:=f
 unfold Fv.val at c0
 unfold Fv.ok at db
 simp only at hc db c0
 have HC:=ak hc
 clear hc hg
 go_enter Tryz.func85,Tryz.ntmps85
 go_wp2_with fail
 refine (ab HC).mono ?_
 rintro e w1 ⟨rfl,hr⟩
 have HR:=ak hr
 clear hr HC
 go_wp2
 go_ret
 exact ⟨rfl,ab HR⟩
theorem KO {σ:Type}{W:World}{ob:Option Nat}{J:σ→World→Prop}{f:Fv}{v:Value}{xs:List Value}{n:Nat}{p:Nat→σ→Option σ} (hv:Rl W v n xs) (db:f.ok) (hf:eo false W.heap.size W ob J f (fun i=>xs.getD i undef) n p) (cI:∀k,ob=some k→W.heap.size≤k) (hx:xs.length=n) (w0:World) (s:σ) (hw:Below W.heap.size W w0) (hj:J s w0) (gM:LI J) (l9:∀k,ob=some k→k<w0.heap.size) :
  Calls Tryz.prog 53 #[v,f.val] w0 (jM w0 ob J (bO p n 0 s)):=by
 have Ba:w0.grownBy (w0.alloc (.cells #[f.val] 89)) none:=World.grownBy_alloc _ _ _
 have hS:eo true W.heap.size W ob (JF J w0.heap.size f.val 89) ⟨85,#[],#[.pointer (some ⟨w0.heap.size,0,none⟩)]⟩ (fun i=>xs.getD i undef) n p:=by
  intro i hi st w hb jO
  have wk:=hf i hi st w hb jO.1
  obtain ⟨x,_,dr⟩:=Wg hx hi
  simp only[dr] at wk ⊢
  refine (Sq (R:=fun _ w'=>(∀s',p i st=some s'→J s' w')∧w.grownBy w' ob) db jO.2 wk).mono ?_
  rintro e w' ⟨rfl,we,fC⟩
  refine ⟨by simp,fun s' e=>⟨we s' e,?_⟩,fC⟩
  have aU:=(zA jO.2).1
  exact (fC.block _ aU (fun e=>by have:=l9 _ e.symm;omega)).trans jO.2
 have HI:=ak (NU hv (f:=⟨85,#[],#[.pointer (some ⟨w0.heap.size,0,none⟩)]⟩) (fun vs w=>by kernel_rfl) hS cI hx _ s (hw.alloc hw.size _) ⟨gM _ _ _ hj Ba,aE _ _⟩)
 obtain ⟨r,hr⟩:∃r,bO p n 0 s=r:=⟨_,rfl⟩
 rw[hr] at HI ⊢
 have px:=ak (show w0.grownBy (w0.alloc (.cells #[f.val] 89)) ob from World.grownBy_alloc _ _ _)
 obtain ⟨a,c,rfl,hn,h2⟩:=hv
 obtain ⟨qK,fs,cp⟩:=f
 unfold Fv.val at HI px ⊢
 simp only at HI px ⊢
 clear hf cI hx hw hj h2 hn hr db Ba hS gM l9
 go_enter Tryz.func53,Tryz.ntmps53
 go_wp2_with fail
 refine (ab HI).mono ?_
 rintro e w1 ⟨rfl,kD,bG⟩
 have HJ:=ak (fun s' e=>(kD s' e).1)
 have HG:=ak ((ab px).trans bG)
 clear kD bG HI px
 go_wp2
 go_ret
 exact ⟨by simp,ab HJ,ab HG⟩
theorem NW {σ:Type}{W:World}{ob:Option Nat}{J:σ→World→Prop}{f:Fv}{v:Value}{xs:List Value}{n:Nat}{p:Nat→σ→Option σ} (hv:Rl W v n xs) (db:f.ok) (hf:eo true W.heap.size W ob J f (lJ 7 xs) n p) (cI:∀k,ob=some k→W.heap.size≤k) (hx:xs.length=n*7) (w0:World) (s:σ) (hw:Below W.heap.size W w0) (hj:J s w0) :
  Calls Tryz.prog 87 #[v,f.val] w0 (fun e w=>e=.returned (.bool (!(bO p n 0 s).isSome))∧(∀s',bO p n 0 s=some s'→J s' w)∧w0.grownBy w ob):=by
 have HI:=ak (MX hv db hf cI hx w0 s hw hj)
 obtain ⟨r,hr⟩:∃r,bO p n 0 s=r:=⟨_,rfl⟩
 rw[hr] at HI ⊢
 obtain ⟨a,c,rfl,hn,h2⟩:=hv
 obtain ⟨qK,fs,cp⟩:=f
 unfold Fv.val at HI ⊢
 simp only at HI ⊢
 clear hf cI hx hw hj h2 hn hr db
 go_enter Tryz.func87,Tryz.ntmps87
 go_wp2_with fail
 refine (ab HI).mono ?_
 rintro e w1 ⟨q,rfl,hq,kD,bG⟩
 have HJ:=ak kD
 have HG:=ak bG
 have HQ:=ak hq
 clear kD bG hq HI
 go_wp2
 go_ret
 refine ⟨?_,ab HJ,ab HG⟩
 have:=ab HQ
 simp only[←this]
 rfl
theorem Ss {f:Fv}{a0 a1 a2 a3 a4 a5 a6:Value}{g:Nat}{w:World}{R:Ending→World→Prop}{b:Bool} (db:f.ok) (hg:w.heap[g]?=some (.cells #[f.val] 94 (0,0))) (hc:Calls Tryz.prog f.f (f.fs.push (.agg #[a0,a1,a2,a3,a4,a5,a6])++f.cp) (w.alloc (.cells #[a0,a1,a2,a3,a4,a5,a6] 57)) fun e w'=>e=.returned (.bool b)∧R e w') :
  Calls Tryz.prog 88 #[.agg #[a0,a1,a2,a3,a4,a5,a6],.pointer (some ⟨g,0,none⟩)] w fun e w'=>e=.returned (.bool (!b))∧R (.returned (.bool b)) w':=by
 have c0:(w.alloc (.cells #[a0,a1,a2,a3,a4,a5,a6] 57)).cell? ⟨g,0,none⟩=some f.val:=cell_of_row _ _ _ _ _ _ ((Below.heap_alloc _ _ _ (zA hg).1).trans hg)
 have cy:=aE w (.cells #[a0,a1,a2,a3,a4,a5,a6] 57)
 have b0:(w.alloc (.cells #[a0,a1,a2,a3,a4,a5,a6] 57)).cell? ⟨w.heap.size,0,none⟩=some a0:=cell_of_row _ _ _ _ _ _ cy
 have b1:(w.alloc (.cells #[a0,a1,a2,a3,a4,a5,a6] 57)).cell? ⟨w.heap.size,1,none⟩=some a1:=cell_of_row _ _ _ _ _ _ cy
 have b2:(w.alloc (.cells #[a0,a1,a2,a3,a4,a5,a6] 57)).cell? ⟨w.heap.size,2,none⟩=some a2:=cell_of_row _ _ _ _ _ _ cy
 have b3:(w.alloc (.cells #[a0,a1,a2,a3,a4,a5,a6] 57)).cell? ⟨w.heap.size,3,none⟩=some a3:=cell_of_row _ _ _ _ _ _ cy
 have b4:(w.alloc (.cells #[a0,a1,a2,a3,a4,a5,a6] 57)).cell? ⟨w.heap.size,4,none⟩=some a4:=cell_of_row _ _ _ _ _ _ cy
 have b5:(w.alloc (.cells #[a0,a1,a2,a3,a4,a5,a6] 57)).cell? ⟨w.heap.size,5,none⟩=some a5:=cell_of_row _ _ _ _ _ _ cy
 have b6:(w.alloc (.cells #[a0,a1,a2,a3,a4,a5,a6] 57)).cell? ⟨w.heap.size,6,none⟩=some a6:=cell_of_row _ _ _ _ _ _ cy
 clear cy
 obtain ⟨qK,fs,cp⟩:=f
 unfold Fv.val at c0
 unfold Fv.ok at db
 simp only at hc db c0
 have HC:=ak hc
 clear hc hg
 go_enter Tryz.func88,Tryz.ntmps88
 go_wp2_with fail
 refine (ab HC).mono ?_
 rintro e w1 ⟨rfl,hr⟩
 have HR:=ak hr
 clear hr HC
 go_wp2
 go_ret
 exact ⟨rfl,ab HR⟩
theorem Bw {σ:Type}{W:World}{ob:Option Nat}{J:σ→World→Prop}{f:Fv}{v:Value}{xs:List Value}{n:Nat}{p:Nat→σ→Option σ} (hv:Rl W v n xs) (db:f.ok) (hf:eo false W.heap.size W ob J f (lJ 7 xs) n p) (cI:∀k,ob=some k→W.heap.size≤k) (hx:xs.length=n*7) (w0:World) (s:σ) (hw:Below W.heap.size W w0) (hj:J s w0) (gM:LI J) (l9:∀k,ob=some k→k<w0.heap.size) :
  Calls Tryz.prog 55 #[v,f.val] w0 (jM w0 ob J (bO p n 0 s)):=by
 have Ba:w0.grownBy (w0.alloc (.cells #[f.val] 94)) none:=World.grownBy_alloc _ _ _
 have hS:eo true W.heap.size W ob (JF J w0.heap.size f.val 94) ⟨88,#[],#[.pointer (some ⟨w0.heap.size,0,none⟩)]⟩ (lJ 7 xs) n p:=by
  intro i hi st w hb jO
  obtain ⟨a0,a1,a2,a3,a4,a5,a6,dr,_⟩:=Wd hx hi
  have Fz:w.grownBy (w.alloc (.cells #[a0,a1,a2,a3,a4,a5,a6] 57)) none:=World.grownBy_alloc _ _ _
  have wk:=hf i hi st (w.alloc (.cells #[a0,a1,a2,a3,a4,a5,a6] 57)) (hb.alloc hb.size _) (gM _ _ _ jO.1 Fz)
  rw[dr] at wk ⊢
  refine (Ss (R:=fun _ w'=>(∀s',p i st=some s'→J s' w')∧w.grownBy w' ob) db jO.2 (wk.mono fun _ _ h=>⟨h.1,h.2.1,(World.grownBy_alloc _ _ _).trans h.2.2⟩)).mono ?_
  rintro e w' ⟨rfl,we,fC⟩
  refine ⟨by simp,fun s' e=>⟨we s' e,?_⟩,fC⟩
  have aU:=(zA jO.2).1
  exact (fC.block _ aU (fun e=>by have:=l9 _ e.symm;omega)).trans jO.2
 have HI:=ak (NW hv (f:=⟨88,#[],#[.pointer (some ⟨w0.heap.size,0,none⟩)]⟩) (fun vs w=>by kernel_rfl) hS cI hx _ s (hw.alloc hw.size _) ⟨gM _ _ _ hj Ba,aE _ _⟩)
 obtain ⟨r,hr⟩:∃r,bO p n 0 s=r:=⟨_,rfl⟩
 rw[hr] at HI ⊢
 have px:=ak (show w0.grownBy (w0.alloc (.cells #[f.val] 94)) ob from World.grownBy_alloc _ _ _)
 obtain ⟨a,c,rfl,hn,h2⟩:=hv
 obtain ⟨qK,fs,cp⟩:=f
 unfold Fv.val at HI px ⊢
 simp only at HI px ⊢
 clear hf cI hx hw hj h2 hn hr db Ba hS gM l9
 go_enter Tryz.func55,Tryz.ntmps55
 go_wp2_with fail
 refine (ab HI).mono ?_
 rintro e w1 ⟨rfl,kD,bG⟩
 have HJ:=ak (fun s' e=>(kD s' e).1)
 have HG:=ak ((ab px).trans bG)
 clear kD bG HI px
 go_wp2
 go_ret
 exact ⟨by simp,ab HJ,ab HG⟩
theorem NY {σ:Type}{W:World}{ob:Option Nat}{J:σ→World→Prop}{f:Fv}{v:Value}{xs:List Value}{n:Nat}{p:Nat→σ→Option σ} (hv:Rl W v n xs) (db:f.ok) (hf:eo true W.heap.size W ob J f (lJ 4 xs) n p) (cI:∀k,ob=some k→W.heap.size≤k) (hx:xs.length=n*4) (w0:World) (s:σ) (hw:Below W.heap.size W w0) (hj:J s w0) :
  Calls Tryz.prog 95 #[v,f.val] w0 (fun e w=>e=.returned (.bool (!(bO p n 0 s).isSome))∧(∀s',bO p n 0 s=some s'→J s' w)∧w0.grownBy w ob):=by
 have HI:=ak (MZ hv db hf cI hx w0 s hw hj)
 obtain ⟨r,hr⟩:∃r,bO p n 0 s=r:=⟨_,rfl⟩
 rw[hr] at HI ⊢
 obtain ⟨a,c,rfl,hn,h2⟩:=hv
 obtain ⟨qK,fs,cp⟩:=f
 unfold Fv.val at HI ⊢
 simp only at HI ⊢
 clear hf cI hx hw hj h2 hn hr db
 go_enter Tryz.func95,Tryz.ntmps95
 go_wp2_with fail
 refine (ab HI).mono ?_
 rintro e w1 ⟨q,rfl,hq,kD,bG⟩
 have HJ:=ak kD
 have HG:=ak bG
 have HQ:=ak hq
 clear kD bG hq HI
 go_wp2
 go_ret
 refine ⟨?_,ab HJ,ab HG⟩
 have:=ab HQ
 simp only[←this]
 rfl
theorem Su {f:Fv}{a0 a1 a2 a3:Value}{g:Nat}{w:World}{R:Ending→World→Prop}{b:Bool} (db:f.ok) (hg:w.heap[g]?=some (.cells #[f.val] 96 (0,0))) (hc:Calls Tryz.prog f.f (f.fs.push (.agg #[a0,a1,a2,a3])++f.cp) (w.alloc (.cells #[a0,a1,a2,a3] 63)) fun e w'=>e=.returned (.bool b)∧R e w') :
  Calls Tryz.prog 96 #[.agg #[a0,a1,a2,a3],.pointer (some ⟨g,0,none⟩)] w fun e w'=>e=.returned (.bool (!b))∧R (.returned (.bool b)) w':=by
 have c0:(w.alloc (.cells #[a0,a1,a2,a3] 63)).cell? ⟨g,0,none⟩=some f.val:=cell_of_row _ _ _ _ _ _ ((Below.heap_alloc _ _ _ (zA hg).1).trans hg)
 have cy:=aE w (.cells #[a0,a1,a2,a3] 63)
 have b0:(w.alloc (.cells #[a0,a1,a2,a3] 63)).cell? ⟨w.heap.size,0,none⟩=some a0:=cell_of_row _ _ _ _ _ _ cy
 have b1:(w.alloc (.cells #[a0,a1,a2,a3] 63)).cell? ⟨w.heap.size,1,none⟩=some a1:=cell_of_row _ _ _ _ _ _ cy
 have b2:(w.alloc (.cells #[a0,a1,a2,a3] 63)).cell? ⟨w.heap.size,2,none⟩=some a2:=cell_of_row _ _ _ _ _ _ cy
 have b3:(w.alloc (.cells #[a0,a1,a2,a3] 63)).cell? ⟨w.heap.size,3,none⟩=some a3:=cell_of_row _ _ _ _ _ _ cy
 clear cy
 obtain ⟨qK,fs,cp⟩:=f
 unfold Fv.val at c0
 unfold Fv.ok at db
 simp only at hc db c0
 have HC:=ak hc
 clear hc hg
 go_enter Tryz.func96,Tryz.ntmps96
 go_wp2_with fail
 refine (ab HC).mono ?_
 rintro e w1 ⟨rfl,hr⟩
 have HR:=ak hr
 clear hr HC
 go_wp2
 go_ret
 exact ⟨rfl,ab HR⟩
theorem KR {σ:Type}{W:World}{ob:Option Nat}{J:σ→World→Prop}{f:Fv}{v:Value}{xs:List Value}{n:Nat}{p:Nat→σ→Option σ} (hv:Rl W v n xs) (db:f.ok) (hf:eo false W.heap.size W ob J f (lJ 4 xs) n p) (cI:∀k,ob=some k→W.heap.size≤k) (hx:xs.length=n*4) (w0:World) (s:σ) (hw:Below W.heap.size W w0) (hj:J s w0) (gM:LI J) (l9:∀k,ob=some k→k<w0.heap.size) :
  Calls Tryz.prog 58 #[v,f.val] w0 (jM w0 ob J (bO p n 0 s)):=by
 have Ba:w0.grownBy (w0.alloc (.cells #[f.val] 96)) none:=World.grownBy_alloc _ _ _
 have hS:eo true W.heap.size W ob (JF J w0.heap.size f.val 96) ⟨96,#[],#[.pointer (some ⟨w0.heap.size,0,none⟩)]⟩ (lJ 4 xs) n p:=by
  intro i hi st w hb jO
  obtain ⟨a0,a1,a2,a3,dr,_⟩:=Wf hx hi
  have Fz:w.grownBy (w.alloc (.cells #[a0,a1,a2,a3] 63)) none:=World.grownBy_alloc _ _ _
  have wk:=hf i hi st (w.alloc (.cells #[a0,a1,a2,a3] 63)) (hb.alloc hb.size _) (gM _ _ _ jO.1 Fz)
  rw[dr] at wk ⊢
  refine (Su (R:=fun _ w'=>(∀s',p i st=some s'→J s' w')∧w.grownBy w' ob) db jO.2 (wk.mono fun _ _ h=>⟨h.1,h.2.1,(World.grownBy_alloc _ _ _).trans h.2.2⟩)).mono ?_
  rintro e w' ⟨rfl,we,fC⟩
  refine ⟨by simp,fun s' e=>⟨we s' e,?_⟩,fC⟩
  have aU:=(zA jO.2).1
  exact (fC.block _ aU (fun e=>by have:=l9 _ e.symm;omega)).trans jO.2
 have HI:=ak (NY hv (f:=⟨96,#[],#[.pointer (some ⟨w0.heap.size,0,none⟩)]⟩) (fun vs w=>by kernel_rfl) hS cI hx _ s (hw.alloc hw.size _) ⟨gM _ _ _ hj Ba,aE _ _⟩)
 obtain ⟨r,hr⟩:∃r,bO p n 0 s=r:=⟨_,rfl⟩
 rw[hr] at HI ⊢
 have px:=ak (show w0.grownBy (w0.alloc (.cells #[f.val] 96)) ob from World.grownBy_alloc _ _ _)
 obtain ⟨a,c,rfl,hn,h2⟩:=hv
 obtain ⟨qK,fs,cp⟩:=f
 unfold Fv.val at HI px ⊢
 simp only at HI px ⊢
 clear hf cI hx hw hj h2 hn hr db Ba hS gM l9
 go_enter Tryz.func58,Tryz.ntmps58
 go_wp2_with fail
 refine (ab HI).mono ?_
 rintro e w1 ⟨rfl,kD,bG⟩
 have HJ:=ak (fun s' e=>(kD s' e).1)
 have HG:=ak ((ab px).trans bG)
 clear kD bG HI px
 go_wp2
 go_ret
 exact ⟨by simp,ab HJ,ab HG⟩
theorem NX {σ:Type}{W:World}{ob:Option Nat}{J:σ→World→Prop}{f:Fv}{v:Value}{xs:List Value}{n:Nat}{p:Nat→σ→Option σ} (hv:Rl W v n xs) (db:f.ok) (hf:eo true W.heap.size W ob J f (lJ 6 xs) n p) (cI:∀k,ob=some k→W.heap.size≤k) (hx:xs.length=n*6) (w0:World) (s:σ) (hw:Below W.heap.size W w0) (hj:J s w0) :
  Calls Tryz.prog 137 #[v,f.val] w0 (fun e w=>e=.returned (.bool (!(bO p n 0 s).isSome))∧(∀s',bO p n 0 s=some s'→J s' w)∧w0.grownBy w ob):=by
 have HI:=ak (MY hv db hf cI hx w0 s hw hj)
 obtain ⟨r,hr⟩:∃r,bO p n 0 s=r:=⟨_,rfl⟩
 rw[hr] at HI ⊢
 obtain ⟨a,c,rfl,hn,h2⟩:=hv
 obtain ⟨qK,fs,cp⟩:=f
 unfold Fv.val at HI ⊢
 simp only at HI ⊢
 clear hf cI hx hw hj h2 hn hr db
 go_enter Tryz.func137,Tryz.ntmps137
 go_wp2_with fail
 refine (ab HI).mono ?_
 rintro e w1 ⟨q,rfl,hq,kD,bG⟩
 have HJ:=ak kD
 have HG:=ak bG
 have HQ:=ak hq
 clear kD bG hq HI
 go_wp2
 go_ret
 refine ⟨?_,ab HJ,ab HG⟩
 have:=ab HQ
 simp only[←this]
 rfl
theorem St {f:Fv}{a0 a1 a2 a3 a4 a5:Value}{g:Nat}{w:World}{R:Ending→World→Prop}{b:Bool} (db:f.ok) (hg:w.heap[g]?=some (.cells #[f.val] 129 (0,0))) (hc:Calls Tryz.prog f.f (f.fs.push (.agg #[a0,a1,a2,a3,a4,a5])++f.cp) (w.alloc (.cells #[a0,a1,a2,a3,a4,a5] 53)) fun e w'=>e=.returned (.bool b)∧R e w') :
  Calls Tryz.prog 138 #[.agg #[a0,a1,a2,a3,a4,a5],.pointer (some ⟨g,0,none⟩)] w fun e w'=>e=.returned (.bool (!b))∧R (.returned (.bool b)) w':=by
 have c0:(w.alloc (.cells #[a0,a1,a2,a3,a4,a5] 53)).cell? ⟨g,0,none⟩=some f.val:=cell_of_row _ _ _ _ _ _ ((Below.heap_alloc _ _ _ (zA hg).1).trans hg)
 have cy:=aE w (.cells #[a0,a1,a2,a3,a4,a5] 53)
 have b0:(w.alloc (.cells #[a0,a1,a2,a3,a4,a5] 53)).cell? ⟨w.heap.size,0,none⟩=some a0:=cell_of_row _ _ _ _ _ _ cy
 have b1:(w.alloc (.cells #[a0,a1,a2,a3,a4,a5] 53)).cell? ⟨w.heap.size,1,none⟩=some a1:=cell_of_row _ _ _ _ _ _ cy
 have b2:(w.alloc (.cells #[a0,a1,a2,a3,a4,a5] 53)).cell? ⟨w.heap.size,2,none⟩=some a2:=cell_of_row _ _ _ _ _ _ cy
 have b3:(w.alloc (.cells #[a0,a1,a2,a3,a4,a5] 53)).cell? ⟨w.heap.size,3,none⟩=some a3:=cell_of_row _ _ _ _ _ _ cy
 have b4:(w.alloc (.cells #[a0,a1,a2,a3,a4,a5] 53)).cell? ⟨w.heap.size,4,none⟩=some a4:=cell_of_row _ _ _ _ _ _ cy
 have b5:(w.alloc (.cells #[a0,a1,a2,a3,a4,a5] 53)).cell? ⟨w.heap.size,5,none⟩=some a5:=cell_of_row _ _ _ _ _ _ cy
 clear cy
 obtain ⟨qK,fs,cp⟩:=f
 unfold Fv.val at c0
 unfold Fv.ok at db
 simp only at hc db c0
 have HC:=ak hc
 clear hc hg
 go_enter Tryz.func138,Tryz.ntmps138
 go_wp2_with fail
 refine (ab HC).mono ?_
 rintro e w1 ⟨rfl,hr⟩
 have HR:=ak hr
 clear hr HC
 go_wp2
 go_ret
 exact ⟨rfl,ab HR⟩
theorem KQ {σ:Type}{W:World}{ob:Option Nat}{J:σ→World→Prop}{f:Fv}{v:Value}{xs:List Value}{n:Nat}{p:Nat→σ→Option σ} (hv:Rl W v n xs) (db:f.ok) (hf:eo false W.heap.size W ob J f (lJ 6 xs) n p) (cI:∀k,ob=some k→W.heap.size≤k) (hx:xs.length=n*6) (w0:World) (s:σ) (hw:Below W.heap.size W w0) (hj:J s w0) (gM:LI J) (l9:∀k,ob=some k→k<w0.heap.size) :
  Calls Tryz.prog 89 #[v,f.val] w0 (jM w0 ob J (bO p n 0 s)):=by
 have Ba:w0.grownBy (w0.alloc (.cells #[f.val] 129)) none:=World.grownBy_alloc _ _ _
 have hS:eo true W.heap.size W ob (JF J w0.heap.size f.val 129) ⟨138,#[],#[.pointer (some ⟨w0.heap.size,0,none⟩)]⟩ (lJ 6 xs) n p:=by
  intro i hi st w hb jO
  obtain ⟨a0,a1,a2,a3,a4,a5,dr,_⟩:=RM hx hi
  have Fz:w.grownBy (w.alloc (.cells #[a0,a1,a2,a3,a4,a5] 53)) none:=World.grownBy_alloc _ _ _
  have wk:=hf i hi st (w.alloc (.cells #[a0,a1,a2,a3,a4,a5] 53)) (hb.alloc hb.size _) (gM _ _ _ jO.1 Fz)
  rw[dr] at wk ⊢
  refine (St (R:=fun _ w'=>(∀s',p i st=some s'→J s' w')∧w.grownBy w' ob) db jO.2 (wk.mono fun _ _ h=>⟨h.1,h.2.1,(World.grownBy_alloc _ _ _).trans h.2.2⟩)).mono ?_
  rintro e w' ⟨rfl,we,fC⟩
  refine ⟨by simp,fun s' e=>⟨we s' e,?_⟩,fC⟩
  have aU:=(zA jO.2).1
  exact (fC.block _ aU (fun e=>by have:=l9 _ e.symm;omega)).trans jO.2
 have HI:=ak (NX hv (f:=⟨138,#[],#[.pointer (some ⟨w0.heap.size,0,none⟩)]⟩) (fun vs w=>by kernel_rfl) hS cI hx _ s (hw.alloc hw.size _) ⟨gM _ _ _ hj Ba,aE _ _⟩)
 obtain ⟨r,hr⟩:∃r,bO p n 0 s=r:=⟨_,rfl⟩
 rw[hr] at HI ⊢
 have px:=ak (show w0.grownBy (w0.alloc (.cells #[f.val] 129)) ob from World.grownBy_alloc _ _ _)
 obtain ⟨a,c,rfl,hn,h2⟩:=hv
 obtain ⟨qK,fs,cp⟩:=f
 unfold Fv.val at HI px ⊢
 simp only at HI px ⊢
 clear hf cI hx hw hj h2 hn hr db Ba hS gM l9
 go_enter Tryz.func89,Tryz.ntmps89
 go_wp2_with fail
 refine (ab HI).mono ?_
 rintro e w1 ⟨rfl,kD,bG⟩
 have HJ:=ak (fun s' e=>(kD s' e).1)
 have HG:=ak ((ab px).trans bG)
 clear kD bG HI px
 go_wp2
 go_ret
 exact ⟨by simp,ab HJ,ab HG⟩
theorem NV {σ:Type}{W:World}{ob:Option Nat}{J:σ→World→Prop}{f:Fv}{v:Value}{xs:List Value}{n:Nat}{p:Nat→σ→Option σ} (hv:Rl W v n xs) (db:f.ok) (hf:eo true W.heap.size W ob J f (lJ 2 xs) n p) (cI:∀k,ob=some k→W.heap.size≤k) (hx:xs.length=n*2) (w0:World) (s:σ) (hw:Below W.heap.size W w0) (hj:J s w0) :
  Calls Tryz.prog 144 #[v,f.val] w0 (fun e w=>e=.returned (.bool (!(bO p n 0 s).isSome))∧(∀s',bO p n 0 s=some s'→J s' w)∧w0.grownBy w ob):=by
 have HI:=ak (MW hv db hf cI hx w0 s hw hj)
 obtain ⟨r,hr⟩:∃r,bO p n 0 s=r:=⟨_,rfl⟩
 rw[hr] at HI ⊢
 obtain ⟨a,c,rfl,hn,h2⟩:=hv
 obtain ⟨qK,fs,cp⟩:=f
 unfold Fv.val at HI ⊢
 simp only at HI ⊢
 clear hf cI hx hw hj h2 hn hr db
 go_enter Tryz.func144,Tryz.ntmps144
 go_wp2_with fail
 refine (ab HI).mono ?_
 rintro e w1 ⟨q,rfl,hq,kD,bG⟩
 have HJ:=ak kD
 have HG:=ak bG
 have HQ:=ak hq
 clear kD bG hq HI
 go_wp2
 go_ret
 refine ⟨?_,ab HJ,ab HG⟩
 have:=ab HQ
 simp only[←this]
 rfl
theorem Sr {f:Fv}{a0 a1:Value}{g:Nat}{w:World}{R:Ending→World→Prop}{b:Bool} (db:f.ok) (hg:w.heap[g]?=some (.cells #[f.val] 132 (0,0))) (hc:Calls Tryz.prog f.f (f.fs.push (.agg #[a0,a1])++f.cp) (w.alloc (.cells #[a0,a1] 83)) fun e w'=>e=.returned (.bool b)∧R e w') :
  Calls Tryz.prog 145 #[.agg #[a0,a1],.pointer (some ⟨g,0,none⟩)] w fun e w'=>e=.returned (.bool (!b))∧R (.returned (.bool b)) w':=by
 have c0:(w.alloc (.cells #[a0,a1] 83)).cell? ⟨g,0,none⟩=some f.val:=cell_of_row _ _ _ _ _ _ ((Below.heap_alloc _ _ _ (zA hg).1).trans hg)
 have cy:=aE w (.cells #[a0,a1] 83)
 have b0:(w.alloc (.cells #[a0,a1] 83)).cell? ⟨w.heap.size,0,none⟩=some a0:=cell_of_row _ _ _ _ _ _ cy
 have b1:(w.alloc (.cells #[a0,a1] 83)).cell? ⟨w.heap.size,1,none⟩=some a1:=cell_of_row _ _ _ _ _ _ cy
 clear cy
 obtain ⟨qK,fs,cp⟩:=f
 unfold Fv.val at c0
 unfold Fv.ok at db
 simp only at hc db c0
 have HC:=ak hc
 clear hc hg
 go_enter Tryz.func145,Tryz.ntmps145
 go_wp2_with fail
 refine (ab HC).mono ?_
 rintro e w1 ⟨rfl,hr⟩
 have HR:=ak hr
 clear hr HC
 go_wp2
 go_ret
 exact ⟨rfl,ab HR⟩
theorem KP {σ:Type}{W:World}{ob:Option Nat}{J:σ→World→Prop}{f:Fv}{v:Value}{xs:List Value}{n:Nat}{p:Nat→σ→Option σ} (hv:Rl W v n xs) (db:f.ok) (hf:eo false W.heap.size W ob J f (lJ 2 xs) n p) (cI:∀k,ob=some k→W.heap.size≤k) (hx:xs.length=n*2) (w0:World) (s:σ) (hw:Below W.heap.size W w0) (hj:J s w0) (gM:LI J) (l9:∀k,ob=some k→k<w0.heap.size) :
  Calls Tryz.prog 92 #[v,f.val] w0 (jM w0 ob J (bO p n 0 s)):=by
 have Ba:w0.grownBy (w0.alloc (.cells #[f.val] 132)) none:=World.grownBy_alloc _ _ _
 have hS:eo true W.heap.size W ob (JF J w0.heap.size f.val 132) ⟨145,#[],#[.pointer (some ⟨w0.heap.size,0,none⟩)]⟩ (lJ 2 xs) n p:=by
  intro i hi st w hb jO
  obtain ⟨a0,a1,dr,_⟩:=FT hx hi
  have Fz:w.grownBy (w.alloc (.cells #[a0,a1] 83)) none:=World.grownBy_alloc _ _ _
  have wk:=hf i hi st (w.alloc (.cells #[a0,a1] 83)) (hb.alloc hb.size _) (gM _ _ _ jO.1 Fz)
  rw[dr] at wk ⊢
  refine (Sr (R:=fun _ w'=>(∀s',p i st=some s'→J s' w')∧w.grownBy w' ob) db jO.2 (wk.mono fun _ _ h=>⟨h.1,h.2.1,(World.grownBy_alloc _ _ _).trans h.2.2⟩)).mono ?_
  rintro e w' ⟨rfl,we,fC⟩
  refine ⟨by simp,fun s' e=>⟨we s' e,?_⟩,fC⟩
  have aU:=(zA jO.2).1
  exact (fC.block _ aU (fun e=>by have:=l9 _ e.symm;omega)).trans jO.2
 have HI:=ak (NV hv (f:=⟨145,#[],#[.pointer (some ⟨w0.heap.size,0,none⟩)]⟩) (fun vs w=>by kernel_rfl) hS cI hx _ s (hw.alloc hw.size _) ⟨gM _ _ _ hj Ba,aE _ _⟩)
 obtain ⟨r,hr⟩:∃r,bO p n 0 s=r:=⟨_,rfl⟩
 rw[hr] at HI ⊢
 have px:=ak (show w0.grownBy (w0.alloc (.cells #[f.val] 132)) ob from World.grownBy_alloc _ _ _)
 obtain ⟨a,c,rfl,hn,h2⟩:=hv
 obtain ⟨qK,fs,cp⟩:=f
 unfold Fv.val at HI px ⊢
 simp only at HI px ⊢
 clear hf cI hx hw hj h2 hn hr db Ba hS gM l9
 go_enter Tryz.func92,Tryz.ntmps92
 go_wp2_with fail
 refine (ab HI).mono ?_
 rintro e w1 ⟨rfl,kD,bG⟩
 have HJ:=ak (fun s' e=>(kD s' e).1)
 have HG:=ak ((ab px).trans bG)
 clear kD bG HI px
 go_wp2
 go_ret
 exact ⟨by simp,ab HJ,ab HG⟩
theorem NT {σ:Type}{W:World}{ob:Option Nat}{J:σ→World→Prop}{f:Fv}{v:Value}{xs:List Value}{n:Nat}{p:Nat→σ→Option σ} (hv:Rl W v n xs) (db:f.ok) (hf:eo true W.heap.size W ob J f (lJ 2 xs) n p) (cI:∀k,ob=some k→W.heap.size≤k) (hx:xs.length=n*2) (w0:World) (s:σ) (hw:Below W.heap.size W w0) (hj:J s w0) :
  Calls Tryz.prog 148 #[v,f.val] w0 (fun e w=>e=.returned (.bool (!(bO p n 0 s).isSome))∧(∀s',bO p n 0 s=some s'→J s' w)∧w0.grownBy w ob):=by
 have HI:=ak (MU hv db hf cI hx w0 s hw hj)
 obtain ⟨r,hr⟩:∃r,bO p n 0 s=r:=⟨_,rfl⟩
 rw[hr] at HI ⊢
 obtain ⟨a,c,rfl,hn,h2⟩:=hv
 obtain ⟨qK,fs,cp⟩:=f
 unfold Fv.val at HI ⊢
 simp only at HI ⊢
 clear hf cI hx hw hj h2 hn hr db
 go_enter Tryz.func148,Tryz.ntmps148
 go_wp2_with fail
 refine (ab HI).mono ?_
 rintro e w1 ⟨q,rfl,hq,kD,bG⟩
 have HJ:=ak kD
 have HG:=ak bG
 have HQ:=ak hq
 clear kD bG hq HI
 go_wp2
 go_ret
 refine ⟨?_,ab HJ,ab HG⟩
 have:=ab HQ
 simp only[←this]
 rfl
theorem Sn {f:Fv}{a0 a1:Value}{g:Nat}{w:World}{R:Ending→World→Prop}{b:Bool} (db:f.ok) (hg:w.heap[g]?=some (.cells #[f.val] 135 (0,0))) (hc:Calls Tryz.prog f.f (f.fs.push (.agg #[a0,a1])++f.cp) (w.alloc (.cells #[a0,a1] 65)) fun e w'=>e=.returned (.bool b)∧R e w') :
  Calls Tryz.prog 149 #[.agg #[a0,a1],.pointer (some ⟨g,0,none⟩)] w fun e w'=>e=.returned (.bool (!b))∧R (.returned (.bool b)) w':=by
 have c0:(w.alloc (.cells #[a0,a1] 65)).cell? ⟨g,0,none⟩=some f.val:=cell_of_row _ _ _ _ _ _ ((Below.heap_alloc _ _ _ (zA hg).1).trans hg)
 have cy:=aE w (.cells #[a0,a1] 65)
 have b0:(w.alloc (.cells #[a0,a1] 65)).cell? ⟨w.heap.size,0,none⟩=some a0:=cell_of_row _ _ _ _ _ _ cy
 have b1:(w.alloc (.cells #[a0,a1] 65)).cell? ⟨w.heap.size,1,none⟩=some a1:=cell_of_row _ _ _ _ _ _ cy
 clear cy
 obtain ⟨qK,fs,cp⟩:=f
 unfold Fv.val at c0
 unfold Fv.ok at db
 simp only at hc db c0
 have HC:=ak hc
 clear hc hg
 go_enter Tryz.func149,Tryz.ntmps149
 go_wp2_with fail
 refine (ab HC).mono ?_
 rintro e w1 ⟨rfl,hr⟩
 have HR:=ak hr
 clear hr HC
 go_wp2
 go_ret
 exact ⟨rfl,ab HR⟩
theorem KN {σ:Type}{W:World}{ob:Option Nat}{J:σ→World→Prop}{f:Fv}{v:Value}{xs:List Value}{n:Nat}{p:Nat→σ→Option σ} (hv:Rl W v n xs) (db:f.ok) (hf:eo false W.heap.size W ob J f (lJ 2 xs) n p) (cI:∀k,ob=some k→W.heap.size≤k) (hx:xs.length=n*2) (w0:World) (s:σ) (hw:Below W.heap.size W w0) (hj:J s w0) (gM:LI J) (l9:∀k,ob=some k→k<w0.heap.size) :
  Calls Tryz.prog 97 #[v,f.val] w0 (jM w0 ob J (bO p n 0 s)):=by
 have Ba:w0.grownBy (w0.alloc (.cells #[f.val] 135)) none:=World.grownBy_alloc _ _ _
 have hS:eo true W.heap.size W ob (JF J w0.heap.size f.val 135) ⟨149,#[],#[.pointer (some ⟨w0.heap.size,0,none⟩)]⟩ (lJ 2 xs) n p:=by
  intro i hi st w hb jO
  obtain ⟨a0,a1,dr,_⟩:=FT hx hi
  have Fz:w.grownBy (w.alloc (.cells #[a0,a1] 65)) none:=World.grownBy_alloc _ _ _
  have wk:=hf i hi st (w.alloc (.cells #[a0,a1] 65)) (hb.alloc hb.size _) (gM _ _ _ jO.1 Fz)
  rw[dr] at wk ⊢
  refine (Sn (R:=fun _ w'=>(∀s',p i st=some s'→J s' w')∧w.grownBy w' ob) db jO.2 (wk.mono fun _ _ h=>⟨h.1,h.2.1,(World.grownBy_alloc _ _ _).trans h.2.2⟩)).mono ?_
  rintro e w' ⟨rfl,we,fC⟩
  refine ⟨by simp,fun s' e=>⟨we s' e,?_⟩,fC⟩
  have aU:=(zA jO.2).1
  exact (fC.block _ aU (fun e=>by have:=l9 _ e.symm;omega)).trans jO.2
 have HI:=ak (NT hv (f:=⟨149,#[],#[.pointer (some ⟨w0.heap.size,0,none⟩)]⟩) (fun vs w=>by kernel_rfl) hS cI hx _ s (hw.alloc hw.size _) ⟨gM _ _ _ hj Ba,aE _ _⟩)
 obtain ⟨r,hr⟩:∃r,bO p n 0 s=r:=⟨_,rfl⟩
 rw[hr] at HI ⊢
 have px:=ak (show w0.grownBy (w0.alloc (.cells #[f.val] 135)) ob from World.grownBy_alloc _ _ _)
 obtain ⟨a,c,rfl,hn,h2⟩:=hv
 obtain ⟨qK,fs,cp⟩:=f
 unfold Fv.val at HI px ⊢
 simp only at HI px ⊢
 clear hf cI hx hw hj h2 hn hr db Ba hS gM l9
 go_enter Tryz.func97,Tryz.ntmps97
 go_wp2_with fail
 refine (ab HI).mono ?_
 rintro e w1 ⟨rfl,kD,bG⟩
 have HJ:=ak (fun s' e=>(kD s' e).1)
 have HG:=ak ((ab px).trans bG)
 clear kD bG HI px
 go_wp2
 go_ret
 exact ⟨by simp,ab HJ,ab HG⟩
end Go.Proofs.YtghioefalckgoaaGreatDoor
