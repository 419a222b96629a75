import Derived.Test.YtichhjfjcinjgaaGreatDoorYA
set_option maxHeartbeats 2000000
set_option maxRecDepth 100000
namespace Go.Proofs.YtichhjfjcinjgaaGreatDoor
open Go.RowKit
attribute [local go_sem ↓] Go.wp_at_zero Go.wp_at_succ
def Kc {σ:Type} (J:σ→World→Prop):Prop:=∀s w w',J s w→w.grownBy w' none→J s w'
def JF {σ:Type} (J:σ→World→Prop) (g:Nat) (f:Value) (t:TypeId) (s:σ) (w:World):Prop:=J s w∧w.heap[g]?=some (.cells #[f] t (0,0))
theorem LM {σ:Type}{W:World}{ob:Option Nat}{J:σ→World→Prop}{f:Fv}{v:Value}{xs:List Value}{n:Nat}{p:Nat→σ→Option σ} (hv:Rl W v n xs) (dZ:f.ok) (hf:eX true W.heap.size W ob J f (fun i=>xs.getD i undef) n p) (ei:∀k,ob=some k→W.heap.size≤k) (hx:xs.length=n) (w0:World) (s:σ) (hw:Below W.heap.size W w0) (hj:J s w0) :
  Calls Tryz.prog 65 #[v,f.val] w0 (fun e w=>e=.returned (.bool (!(cA p n 0 s).isSome))∧(∀s',cA p n 0 s=some s'→J s' w)∧w0.grownBy w ob):=by
 have HI:=al (K' hv dZ hf ei hx w0 s hw hj)
 obtain ⟨r,hr⟩:∃r,cA p n 0 s=r:=⟨_,rfl⟩
 rw[hr] at HI ⊢
 obtain ⟨a,c,rfl,hn,h2⟩:=hv
 obtain ⟨qX,fs,cp⟩:=f
 unfold Fv.val at HI ⊢
 simp only at HI ⊢
 clear hf ei hx hw hj h2 hn hr dZ
 go_enter Tryz.func65,Tryz.ntmps65
 go_wp2_with fail
 refine (ab HI).mono ?_
 rintro e w1 ⟨q,rfl,hq,kC,dO⟩
 have HJ:=al kC
 have HG:=al dO
 have HQ:=al hq
 clear kC dO hq HI
 go_wp2
 go_ret
 refine ⟨?_,ab HJ,ab HG⟩
 have:=ab HQ
 simp only[←this]
 rfl
theorem OV {f:Fv}{x:Value}{g:Nat}{w:World}{R:Ending→World→Prop}{b:Bool} (dZ:f.ok) (hg:w.heap[g]?=some (.cells #[f.val] 77 (0,0))) (hc:Calls Tryz.prog f.f (f.fs.push (x)++f.cp) w fun e w'=>e=.returned (.bool b)∧R e w') :
  Calls Tryz.prog 66 #[x,.pointer (some ⟨g,0,none⟩)] w fun e w'=>e=.returned (.bool (!b))∧R (.returned (.bool b)) w':=by
 have c0:w.cell? ⟨g,0,none⟩=some f.val:=cell_of_row _ _ _ _ _ _ hg
 obtain ⟨qX,fs,cp⟩:=f
 unfold Fv.val at c0
 unfold Fv.ok at dZ
 simp only at hc dZ c0
 have HC:=al hc
 clear hc hg
 go_enter Tryz.func66,Tryz.ntmps66
 go_wp2_with fail
 refine (ab HC).mono ?_
 rintro e w1 ⟨rfl,hr⟩
 have HR:=al hr
 clear hr HC
 go_wp2
 go_ret
 exact ⟨rfl,ab HR⟩
theorem Ju {σ:Type}{W:World}{ob:Option Nat}{J:σ→World→Prop}{f:Fv}{v:Value}{xs:List Value}{n:Nat}{p:Nat→σ→Option σ} (hv:Rl W v n xs) (dZ:f.ok) (hf:eX false W.heap.size W ob J f (fun i=>xs.getD i undef) n p) (ei:∀k,ob=some k→W.heap.size≤k) (hx:xs.length=n) (w0:World) (s:σ) (hw:Below W.heap.size W w0) (hj:J s w0) (fv:Kc J) (mz:∀k,ob=some k→k<w0.heap.size) :
  Calls Tryz.prog 36 #[v,f.val] w0 (kd w0 ob J (cA p n 0 s)):=by
 have AS:w0.grownBy (w0.alloc (.cells #[f.val] 77)) none:=World.grownBy_alloc _ _ _
 have hS:eX true W.heap.size W ob (JF J w0.heap.size f.val 77) ⟨66,#[],#[.pointer (some ⟨w0.heap.size,0,none⟩)]⟩ (fun i=>xs.getD i undef) n p:=by
  intro i hi st w hb ki
  have vG:=hf i hi st w hb ki.1
  obtain ⟨x,_,c8⟩:=SL hx hi
  simp only[c8] at vG ⊢
  refine (OV (R:=fun _ w'=>(∀s',p i st=some s'→J s' w')∧w.grownBy w' ob) dZ ki.2 vG).mono ?_
  rintro e w' ⟨rfl,yv,kY⟩
  refine ⟨by simp,fun s' e=>⟨yv s' e,?_⟩,kY⟩
  have aM:=(zA ki.2).1
  exact (kY.block _ aM (fun e=>by have:=mz _ e.symm;omega)).trans ki.2
 have HI:=al (LM hv (f:=⟨66,#[],#[.pointer (some ⟨w0.heap.size,0,none⟩)]⟩) (fun vs w=>by kernel_rfl) hS ei hx _ s (hw.alloc hw.size _) ⟨fv _ _ _ hj AS,aJ _ _⟩)
 obtain ⟨r,hr⟩:∃r,cA p n 0 s=r:=⟨_,rfl⟩
 rw[hr] at HI ⊢
 have pE:=al (show w0.grownBy (w0.alloc (.cells #[f.val] 77)) ob from World.grownBy_alloc _ _ _)
 obtain ⟨a,c,rfl,hn,h2⟩:=hv
 obtain ⟨qX,fs,cp⟩:=f
 unfold Fv.val at HI pE ⊢
 simp only at HI pE ⊢
 clear hf ei hx hw hj h2 hn hr dZ AS hS fv mz
 go_enter Tryz.func36,Tryz.ntmps36
 go_wp2_with fail
 refine (ab HI).mono ?_
 rintro e w1 ⟨rfl,kC,dO⟩
 have HJ:=al (fun s' e=>(kC s' e).1)
 have HG:=al ((ab pE).trans dO)
 clear kC dO HI pE
 go_wp2
 go_ret
 exact ⟨by simp,ab HJ,ab HG⟩
theorem LO {σ:Type}{W:World}{ob:Option Nat}{J:σ→World→Prop}{f:Fv}{v:Value}{xs:List Value}{n:Nat}{p:Nat→σ→Option σ} (hv:Rl W v n xs) (dZ:f.ok) (hf:eX true W.heap.size W ob J f (lV 7 xs) n p) (ei:∀k,ob=some k→W.heap.size≤k) (hx:xs.length=n*7) (w0:World) (s:σ) (hw:Below W.heap.size W w0) (hj:J s w0) :
  Calls Tryz.prog 68 #[v,f.val] w0 (fun e w=>e=.returned (.bool (!(cA p n 0 s).isSome))∧(∀s',cA p n 0 s=some s'→J s' w)∧w0.grownBy w ob):=by
 have HI:=al (Lb hv dZ hf ei hx w0 s hw hj)
 obtain ⟨r,hr⟩:∃r,cA p n 0 s=r:=⟨_,rfl⟩
 rw[hr] at HI ⊢
 obtain ⟨a,c,rfl,hn,h2⟩:=hv
 obtain ⟨qX,fs,cp⟩:=f
 unfold Fv.val at HI ⊢
 simp only at HI ⊢
 clear hf ei hx hw hj h2 hn hr dZ
 go_enter Tryz.func68,Tryz.ntmps68
 go_wp2_with fail
 refine (ab HI).mono ?_
 rintro e w1 ⟨q,rfl,hq,kC,dO⟩
 have HJ:=al kC
 have HG:=al dO
 have HQ:=al hq
 clear kC dO hq HI
 go_wp2
 go_ret
 refine ⟨?_,ab HJ,ab HG⟩
 have:=ab HQ
 simp only[←this]
 rfl
theorem OX {f:Fv}{a0 a1 a2 a3 a4 a5 a6:Value}{g:Nat}{w:World}{R:Ending→World→Prop}{b:Bool} (dZ:f.ok) (hg:w.heap[g]?=some (.cells #[f.val] 82 (0,0))) (hc:Calls Tryz.prog f.f (f.fs.push (.agg #[a0,a1,a2,a3,a4,a5,a6])++f.cp) (w.alloc (.cells #[a0,a1,a2,a3,a4,a5,a6] 46)) fun e w'=>e=.returned (.bool b)∧R e w') :
  Calls Tryz.prog 69 #[.agg #[a0,a1,a2,a3,a4,a5,a6],.pointer (some ⟨g,0,none⟩)] w fun e w'=>e=.returned (.bool (!b))∧R (.returned (.bool b)) w':=by
 have c0:(w.alloc (.cells #[a0,a1,a2,a3,a4,a5,a6] 46)).cell? ⟨g,0,none⟩=some f.val:=cell_of_row _ _ _ _ _ _ ((Below.heap_alloc _ _ _ (zA hg).1).trans hg)
 have fw:=aJ w (.cells #[a0,a1,a2,a3,a4,a5,a6] 46)
 have b0:(w.alloc (.cells #[a0,a1,a2,a3,a4,a5,a6] 46)).cell? ⟨w.heap.size,0,none⟩=some a0:=cell_of_row _ _ _ _ _ _ fw
 have b1:(w.alloc (.cells #[a0,a1,a2,a3,a4,a5,a6] 46)).cell? ⟨w.heap.size,1,none⟩=some a1:=cell_of_row _ _ _ _ _ _ fw
 have b2:(w.alloc (.cells #[a0,a1,a2,a3,a4,a5,a6] 46)).cell? ⟨w.heap.size,2,none⟩=some a2:=cell_of_row _ _ _ _ _ _ fw
 have b3:(w.alloc (.cells #[a0,a1,a2,a3,a4,a5,a6] 46)).cell? ⟨w.heap.size,3,none⟩=some a3:=cell_of_row _ _ _ _ _ _ fw
 have b4:(w.alloc (.cells #[a0,a1,a2,a3,a4,a5,a6] 46)).cell? ⟨w.heap.size,4,none⟩=some a4:=cell_of_row _ _ _ _ _ _ fw
 have b5:(w.alloc (.cells #[a0,a1,a2,a3,a4,a5,a6] 46)).cell? ⟨w.heap.size,5,none⟩=some a5:=cell_of_row _ _ _ _ _ _ fw
 have b6:(w.alloc (.cells #[a0,a1,a2,a3,a4,a5,a6] 46)).cell? ⟨w.heap.size,6,none⟩=some a6:=cell_of_row _ _ _ _ _ _ fw
 clear fw
 obtain ⟨qX,fs,cp⟩:=f
 unfold Fv.val at c0
 unfold Fv.ok at dZ
 simp only at hc dZ c0
 have HC:=al hc
 clear hc hg
 go_enter Tryz.func69,Tryz.ntmps69
 go_wp2_with fail
 refine (ab HC).mono ?_
 rintro e w1 ⟨rfl,hr⟩
 have HR:=al hr
 clear hr HC
 go_wp2
 go_ret
 exact ⟨rfl,ab HR⟩
theorem Bb {σ:Type}{W:World}{ob:Option Nat}{J:σ→World→Prop}{f:Fv}{v:Value}{xs:List Value}{n:Nat}{p:Nat→σ→Option σ} (hv:Rl W v n xs) (dZ:f.ok) (hf:eX false W.heap.size W ob J f (lV 7 xs) n p) (ei:∀k,ob=some k→W.heap.size≤k) (hx:xs.length=n*7) (w0:World) (s:σ) (hw:Below W.heap.size W w0) (hj:J s w0) (fv:Kc J) (mz:∀k,ob=some k→k<w0.heap.size) :
  Calls Tryz.prog 38 #[v,f.val] w0 (kd w0 ob J (cA p n 0 s)):=by
 have AS:w0.grownBy (w0.alloc (.cells #[f.val] 82)) none:=World.grownBy_alloc _ _ _
 have hS:eX true W.heap.size W ob (JF J w0.heap.size f.val 82) ⟨69,#[],#[.pointer (some ⟨w0.heap.size,0,none⟩)]⟩ (lV 7 xs) n p:=by
  intro i hi st w hb ki
  obtain ⟨a0,a1,a2,a3,a4,a5,a6,c8,_⟩:=SI hx hi
  have Fh:w.grownBy (w.alloc (.cells #[a0,a1,a2,a3,a4,a5,a6] 46)) none:=World.grownBy_alloc _ _ _
  have vG:=hf i hi st (w.alloc (.cells #[a0,a1,a2,a3,a4,a5,a6] 46)) (hb.alloc hb.size _) (fv _ _ _ ki.1 Fh)
  rw[c8] at vG ⊢
  refine (OX (R:=fun _ w'=>(∀s',p i st=some s'→J s' w')∧w.grownBy w' ob) dZ ki.2 (vG.mono fun _ _ h=>⟨h.1,h.2.1,(World.grownBy_alloc _ _ _).trans h.2.2⟩)).mono ?_
  rintro e w' ⟨rfl,yv,kY⟩
  refine ⟨by simp,fun s' e=>⟨yv s' e,?_⟩,kY⟩
  have aM:=(zA ki.2).1
  exact (kY.block _ aM (fun e=>by have:=mz _ e.symm;omega)).trans ki.2
 have HI:=al (LO hv (f:=⟨69,#[],#[.pointer (some ⟨w0.heap.size,0,none⟩)]⟩) (fun vs w=>by kernel_rfl) hS ei hx _ s (hw.alloc hw.size _) ⟨fv _ _ _ hj AS,aJ _ _⟩)
 obtain ⟨r,hr⟩:∃r,cA p n 0 s=r:=⟨_,rfl⟩
 rw[hr] at HI ⊢
 have pE:=al (show w0.grownBy (w0.alloc (.cells #[f.val] 82)) ob from World.grownBy_alloc _ _ _)
 obtain ⟨a,c,rfl,hn,h2⟩:=hv
 obtain ⟨qX,fs,cp⟩:=f
 unfold Fv.val at HI pE ⊢
 simp only at HI pE ⊢
 clear hf ei hx hw hj h2 hn hr dZ AS hS fv mz
 go_enter Tryz.func38,Tryz.ntmps38
 go_wp2_with fail
 refine (ab HI).mono ?_
 rintro e w1 ⟨rfl,kC,dO⟩
 have HJ:=al (fun s' e=>(kC s' e).1)
 have HG:=al ((ab pE).trans dO)
 clear kC dO HI pE
 go_wp2
 go_ret
 exact ⟨by simp,ab HJ,ab HG⟩
theorem LQ {σ:Type}{W:World}{ob:Option Nat}{J:σ→World→Prop}{f:Fv}{v:Value}{xs:List Value}{n:Nat}{p:Nat→σ→Option σ} (hv:Rl W v n xs) (dZ:f.ok) (hf:eX true W.heap.size W ob J f (lV 4 xs) n p) (ei:∀k,ob=some k→W.heap.size≤k) (hx:xs.length=n*4) (w0:World) (s:σ) (hw:Below W.heap.size W w0) (hj:J s w0) :
  Calls Tryz.prog 76 #[v,f.val] w0 (fun e w=>e=.returned (.bool (!(cA p n 0 s).isSome))∧(∀s',cA p n 0 s=some s'→J s' w)∧w0.grownBy w ob):=by
 have HI:=al (Ld hv dZ hf ei hx w0 s hw hj)
 obtain ⟨r,hr⟩:∃r,cA p n 0 s=r:=⟨_,rfl⟩
 rw[hr] at HI ⊢
 obtain ⟨a,c,rfl,hn,h2⟩:=hv
 obtain ⟨qX,fs,cp⟩:=f
 unfold Fv.val at HI ⊢
 simp only at HI ⊢
 clear hf ei hx hw hj h2 hn hr dZ
 go_enter Tryz.func76,Tryz.ntmps76
 go_wp2_with fail
 refine (ab HI).mono ?_
 rintro e w1 ⟨q,rfl,hq,kC,dO⟩
 have HJ:=al kC
 have HG:=al dO
 have HQ:=al hq
 clear kC dO hq HI
 go_wp2
 go_ret
 refine ⟨?_,ab HJ,ab HG⟩
 have:=ab HQ
 simp only[←this]
 rfl
theorem OZ {f:Fv}{a0 a1 a2 a3:Value}{g:Nat}{w:World}{R:Ending→World→Prop}{b:Bool} (dZ:f.ok) (hg:w.heap[g]?=some (.cells #[f.val] 84 (0,0))) (hc:Calls Tryz.prog f.f (f.fs.push (.agg #[a0,a1,a2,a3])++f.cp) (w.alloc (.cells #[a0,a1,a2,a3] 67)) fun e w'=>e=.returned (.bool b)∧R e w') :
  Calls Tryz.prog 77 #[.agg #[a0,a1,a2,a3],.pointer (some ⟨g,0,none⟩)] w fun e w'=>e=.returned (.bool (!b))∧R (.returned (.bool b)) w':=by
 have c0:(w.alloc (.cells #[a0,a1,a2,a3] 67)).cell? ⟨g,0,none⟩=some f.val:=cell_of_row _ _ _ _ _ _ ((Below.heap_alloc _ _ _ (zA hg).1).trans hg)
 have fw:=aJ w (.cells #[a0,a1,a2,a3] 67)
 have b0:(w.alloc (.cells #[a0,a1,a2,a3] 67)).cell? ⟨w.heap.size,0,none⟩=some a0:=cell_of_row _ _ _ _ _ _ fw
 have b1:(w.alloc (.cells #[a0,a1,a2,a3] 67)).cell? ⟨w.heap.size,1,none⟩=some a1:=cell_of_row _ _ _ _ _ _ fw
 have b2:(w.alloc (.cells #[a0,a1,a2,a3] 67)).cell? ⟨w.heap.size,2,none⟩=some a2:=cell_of_row _ _ _ _ _ _ fw
 have b3:(w.alloc (.cells #[a0,a1,a2,a3] 67)).cell? ⟨w.heap.size,3,none⟩=some a3:=cell_of_row _ _ _ _ _ _ fw
 clear fw
 obtain ⟨qX,fs,cp⟩:=f
 unfold Fv.val at c0
 unfold Fv.ok at dZ
 simp only at hc dZ c0
 have HC:=al hc
 clear hc hg
 go_enter Tryz.func77,Tryz.ntmps77
 go_wp2_with fail
 refine (ab HC).mono ?_
 rintro e w1 ⟨rfl,hr⟩
 have HR:=al hr
 clear hr HC
 go_wp2
 go_ret
 exact ⟨rfl,ab HR⟩
theorem Jx {σ:Type}{W:World}{ob:Option Nat}{J:σ→World→Prop}{f:Fv}{v:Value}{xs:List Value}{n:Nat}{p:Nat→σ→Option σ} (hv:Rl W v n xs) (dZ:f.ok) (hf:eX false W.heap.size W ob J f (lV 4 xs) n p) (ei:∀k,ob=some k→W.heap.size≤k) (hx:xs.length=n*4) (w0:World) (s:σ) (hw:Below W.heap.size W w0) (hj:J s w0) (fv:Kc J) (mz:∀k,ob=some k→k<w0.heap.size) :
  Calls Tryz.prog 41 #[v,f.val] w0 (kd w0 ob J (cA p n 0 s)):=by
 have AS:w0.grownBy (w0.alloc (.cells #[f.val] 84)) none:=World.grownBy_alloc _ _ _
 have hS:eX true W.heap.size W ob (JF J w0.heap.size f.val 84) ⟨77,#[],#[.pointer (some ⟨w0.heap.size,0,none⟩)]⟩ (lV 4 xs) n p:=by
  intro i hi st w hb ki
  obtain ⟨a0,a1,a2,a3,c8,_⟩:=SK hx hi
  have Fh:w.grownBy (w.alloc (.cells #[a0,a1,a2,a3] 67)) none:=World.grownBy_alloc _ _ _
  have vG:=hf i hi st (w.alloc (.cells #[a0,a1,a2,a3] 67)) (hb.alloc hb.size _) (fv _ _ _ ki.1 Fh)
  rw[c8] at vG ⊢
  refine (OZ (R:=fun _ w'=>(∀s',p i st=some s'→J s' w')∧w.grownBy w' ob) dZ ki.2 (vG.mono fun _ _ h=>⟨h.1,h.2.1,(World.grownBy_alloc _ _ _).trans h.2.2⟩)).mono ?_
  rintro e w' ⟨rfl,yv,kY⟩
  refine ⟨by simp,fun s' e=>⟨yv s' e,?_⟩,kY⟩
  have aM:=(zA ki.2).1
  exact (kY.block _ aM (fun e=>by have:=mz _ e.symm;omega)).trans ki.2
 have HI:=al (LQ hv (f:=⟨77,#[],#[.pointer (some ⟨w0.heap.size,0,none⟩)]⟩) (fun vs w=>by kernel_rfl) hS ei hx _ s (hw.alloc hw.size _) ⟨fv _ _ _ hj AS,aJ _ _⟩)
 obtain ⟨r,hr⟩:∃r,cA p n 0 s=r:=⟨_,rfl⟩
 rw[hr] at HI ⊢
 have pE:=al (show w0.grownBy (w0.alloc (.cells #[f.val] 84)) ob from World.grownBy_alloc _ _ _)
 obtain ⟨a,c,rfl,hn,h2⟩:=hv
 obtain ⟨qX,fs,cp⟩:=f
 unfold Fv.val at HI pE ⊢
 simp only at HI pE ⊢
 clear hf ei hx hw hj h2 hn hr dZ AS hS fv mz
 go_enter Tryz.func41,Tryz.ntmps41
 go_wp2_with fail
 refine (ab HI).mono ?_
 rintro e w1 ⟨rfl,kC,dO⟩
 have HJ:=al (fun s' e=>(kC s' e).1)
 have HG:=al ((ab pE).trans dO)
 clear kC dO HI pE
 go_wp2
 go_ret
 exact ⟨by simp,ab HJ,ab HG⟩
theorem LP {σ:Type}{W:World}{ob:Option Nat}{J:σ→World→Prop}{f:Fv}{v:Value}{xs:List Value}{n:Nat}{p:Nat→σ→Option σ} (hv:Rl W v n xs) (dZ:f.ok) (hf:eX true W.heap.size W ob J f (lV 6 xs) n p) (ei:∀k,ob=some k→W.heap.size≤k) (hx:xs.length=n*6) (w0:World) (s:σ) (hw:Below W.heap.size W w0) (hj:J s w0) :
  Calls Tryz.prog 111 #[v,f.val] w0 (fun e w=>e=.returned (.bool (!(cA p n 0 s).isSome))∧(∀s',cA p n 0 s=some s'→J s' w)∧w0.grownBy w ob):=by
 have HI:=al (Lc hv dZ hf ei hx w0 s hw hj)
 obtain ⟨r,hr⟩:∃r,cA p n 0 s=r:=⟨_,rfl⟩
 rw[hr] at HI ⊢
 obtain ⟨a,c,rfl,hn,h2⟩:=hv
 obtain ⟨qX,fs,cp⟩:=f
 unfold Fv.val at HI ⊢
 simp only at HI ⊢
 clear hf ei hx hw hj h2 hn hr dZ
 go_enter Tryz.func111,Tryz.ntmps111
 go_wp2_with fail
 refine (ab HI).mono ?_
 rintro e w1 ⟨q,rfl,hq,kC,dO⟩
 have HJ:=al kC
 have HG:=al dO
 have HQ:=al hq
 clear kC dO hq HI
 go_wp2
 go_ret
 refine ⟨?_,ab HJ,ab HG⟩
 have:=ab HQ
 simp only[←this]
 rfl
theorem OY {f:Fv}{a0 a1 a2 a3 a4 a5:Value}{g:Nat}{w:World}{R:Ending→World→Prop}{b:Bool} (dZ:f.ok) (hg:w.heap[g]?=some (.cells #[f.val] 116 (0,0))) (hc:Calls Tryz.prog f.f (f.fs.push (.agg #[a0,a1,a2,a3,a4,a5])++f.cp) (w.alloc (.cells #[a0,a1,a2,a3,a4,a5] 42)) fun e w'=>e=.returned (.bool b)∧R e w') :
  Calls Tryz.prog 112 #[.agg #[a0,a1,a2,a3,a4,a5],.pointer (some ⟨g,0,none⟩)] w fun e w'=>e=.returned (.bool (!b))∧R (.returned (.bool b)) w':=by
 have c0:(w.alloc (.cells #[a0,a1,a2,a3,a4,a5] 42)).cell? ⟨g,0,none⟩=some f.val:=cell_of_row _ _ _ _ _ _ ((Below.heap_alloc _ _ _ (zA hg).1).trans hg)
 have fw:=aJ w (.cells #[a0,a1,a2,a3,a4,a5] 42)
 have b0:(w.alloc (.cells #[a0,a1,a2,a3,a4,a5] 42)).cell? ⟨w.heap.size,0,none⟩=some a0:=cell_of_row _ _ _ _ _ _ fw
 have b1:(w.alloc (.cells #[a0,a1,a2,a3,a4,a5] 42)).cell? ⟨w.heap.size,1,none⟩=some a1:=cell_of_row _ _ _ _ _ _ fw
 have b2:(w.alloc (.cells #[a0,a1,a2,a3,a4,a5] 42)).cell? ⟨w.heap.size,2,none⟩=some a2:=cell_of_row _ _ _ _ _ _ fw
 have b3:(w.alloc (.cells #[a0,a1,a2,a3,a4,a5] 42)).cell? ⟨w.heap.size,3,none⟩=some a3:=cell_of_row _ _ _ _ _ _ fw
 have b4:(w.alloc (.cells #[a0,a1,a2,a3,a4,a5] 42)).cell? ⟨w.heap.size,4,none⟩=some a4:=cell_of_row _ _ _ _ _ _ fw
 have b5:(w.alloc (.cells #[a0,a1,a2,a3,a4,a5] 42)).cell? ⟨w.heap.size,5,none⟩=some a5:=cell_of_row _ _ _ _ _ _ fw
 clear fw
 obtain ⟨qX,fs,cp⟩:=f
 unfold Fv.val at c0
 unfold Fv.ok at dZ
 simp only at hc dZ c0
 have HC:=al hc
 clear hc hg
 go_enter Tryz.func112,Tryz.ntmps112
 go_wp2_with fail
 refine (ab HC).mono ?_
 rintro e w1 ⟨rfl,hr⟩
 have HR:=al hr
 clear hr HC
 go_wp2
 go_ret
 exact ⟨rfl,ab HR⟩
theorem Jw {σ:Type}{W:World}{ob:Option Nat}{J:σ→World→Prop}{f:Fv}{v:Value}{xs:List Value}{n:Nat}{p:Nat→σ→Option σ} (hv:Rl W v n xs) (dZ:f.ok) (hf:eX false W.heap.size W ob J f (lV 6 xs) n p) (ei:∀k,ob=some k→W.heap.size≤k) (hx:xs.length=n*6) (w0:World) (s:σ) (hw:Below W.heap.size W w0) (hj:J s w0) (fv:Kc J) (mz:∀k,ob=some k→k<w0.heap.size) :
  Calls Tryz.prog 70 #[v,f.val] w0 (kd w0 ob J (cA p n 0 s)):=by
 have AS:w0.grownBy (w0.alloc (.cells #[f.val] 116)) none:=World.grownBy_alloc _ _ _
 have hS:eX true W.heap.size W ob (JF J w0.heap.size f.val 116) ⟨112,#[],#[.pointer (some ⟨w0.heap.size,0,none⟩)]⟩ (lV 6 xs) n p:=by
  intro i hi st w hb ki
  obtain ⟨a0,a1,a2,a3,a4,a5,c8,_⟩:=OH hx hi
  have Fh:w.grownBy (w.alloc (.cells #[a0,a1,a2,a3,a4,a5] 42)) none:=World.grownBy_alloc _ _ _
  have vG:=hf i hi st (w.alloc (.cells #[a0,a1,a2,a3,a4,a5] 42)) (hb.alloc hb.size _) (fv _ _ _ ki.1 Fh)
  rw[c8] at vG ⊢
  refine (OY (R:=fun _ w'=>(∀s',p i st=some s'→J s' w')∧w.grownBy w' ob) dZ ki.2 (vG.mono fun _ _ h=>⟨h.1,h.2.1,(World.grownBy_alloc _ _ _).trans h.2.2⟩)).mono ?_
  rintro e w' ⟨rfl,yv,kY⟩
  refine ⟨by simp,fun s' e=>⟨yv s' e,?_⟩,kY⟩
  have aM:=(zA ki.2).1
  exact (kY.block _ aM (fun e=>by have:=mz _ e.symm;omega)).trans ki.2
 have HI:=al (LP hv (f:=⟨112,#[],#[.pointer (some ⟨w0.heap.size,0,none⟩)]⟩) (fun vs w=>by kernel_rfl) hS ei hx _ s (hw.alloc hw.size _) ⟨fv _ _ _ hj AS,aJ _ _⟩)
 obtain ⟨r,hr⟩:∃r,cA p n 0 s=r:=⟨_,rfl⟩
 rw[hr] at HI ⊢
 have pE:=al (show w0.grownBy (w0.alloc (.cells #[f.val] 116)) ob from World.grownBy_alloc _ _ _)
 obtain ⟨a,c,rfl,hn,h2⟩:=hv
 obtain ⟨qX,fs,cp⟩:=f
 unfold Fv.val at HI pE ⊢
 simp only at HI pE ⊢
 clear hf ei hx hw hj h2 hn hr dZ AS hS fv mz
 go_enter Tryz.func70,Tryz.ntmps70
 go_wp2_with fail
 refine (ab HI).mono ?_
 rintro e w1 ⟨rfl,kC,dO⟩
 have HJ:=al (fun s' e=>(kC s' e).1)
 have HG:=al ((ab pE).trans dO)
 clear kC dO HI pE
 go_wp2
 go_ret
 exact ⟨by simp,ab HJ,ab HG⟩
theorem LN {σ:Type}{W:World}{ob:Option Nat}{J:σ→World→Prop}{f:Fv}{v:Value}{xs:List Value}{n:Nat}{p:Nat→σ→Option σ} (hv:Rl W v n xs) (dZ:f.ok) (hf:eX true W.heap.size W ob J f (lV 2 xs) n p) (ei:∀k,ob=some k→W.heap.size≤k) (hx:xs.length=n*2) (w0:World) (s:σ) (hw:Below W.heap.size W w0) (hj:J s w0) :
  Calls Tryz.prog 118 #[v,f.val] w0 (fun e w=>e=.returned (.bool (!(cA p n 0 s).isSome))∧(∀s',cA p n 0 s=some s'→J s' w)∧w0.grownBy w ob):=by
 have HI:=al (La hv dZ hf ei hx w0 s hw hj)
 obtain ⟨r,hr⟩:∃r,cA p n 0 s=r:=⟨_,rfl⟩
 rw[hr] at HI ⊢
 obtain ⟨a,c,rfl,hn,h2⟩:=hv
 obtain ⟨qX,fs,cp⟩:=f
 unfold Fv.val at HI ⊢
 simp only at HI ⊢
 clear hf ei hx hw hj h2 hn hr dZ
 go_enter Tryz.func118,Tryz.ntmps118
 go_wp2_with fail
 refine (ab HI).mono ?_
 rintro e w1 ⟨q,rfl,hq,kC,dO⟩
 have HJ:=al kC
 have HG:=al dO
 have HQ:=al hq
 clear kC dO hq HI
 go_wp2
 go_ret
 refine ⟨?_,ab HJ,ab HG⟩
 have:=ab HQ
 simp only[←this]
 rfl
theorem OW {f:Fv}{a0 a1:Value}{g:Nat}{w:World}{R:Ending→World→Prop}{b:Bool} (dZ:f.ok) (hg:w.heap[g]?=some (.cells #[f.val] 119 (0,0))) (hc:Calls Tryz.prog f.f (f.fs.push (.agg #[a0,a1])++f.cp) (w.alloc (.cells #[a0,a1] 111)) fun e w'=>e=.returned (.bool b)∧R e w') :
  Calls Tryz.prog 119 #[.agg #[a0,a1],.pointer (some ⟨g,0,none⟩)] w fun e w'=>e=.returned (.bool (!b))∧R (.returned (.bool b)) w':=by
 have c0:(w.alloc (.cells #[a0,a1] 111)).cell? ⟨g,0,none⟩=some f.val:=cell_of_row _ _ _ _ _ _ ((Below.heap_alloc _ _ _ (zA hg).1).trans hg)
 have fw:=aJ w (.cells #[a0,a1] 111)
 have b0:(w.alloc (.cells #[a0,a1] 111)).cell? ⟨w.heap.size,0,none⟩=some a0:=cell_of_row _ _ _ _ _ _ fw
 have b1:(w.alloc (.cells #[a0,a1] 111)).cell? ⟨w.heap.size,1,none⟩=some a1:=cell_of_row _ _ _ _ _ _ fw
 clear fw
 obtain ⟨qX,fs,cp⟩:=f
 unfold Fv.val at c0
 unfold Fv.ok at dZ
 simp only at hc dZ c0
 have HC:=al hc
 clear hc hg
 go_enter Tryz.func119,Tryz.ntmps119
 go_wp2_with fail
 refine (ab HC).mono ?_
 rintro e w1 ⟨rfl,hr⟩
 have HR:=al hr
 clear hr HC
 go_wp2
 go_ret
 exact ⟨rfl,ab HR⟩
theorem Jv {σ:Type}{W:World}{ob:Option Nat}{J:σ→World→Prop}{f:Fv}{v:Value}{xs:List Value}{n:Nat}{p:Nat→σ→Option σ} (hv:Rl W v n xs) (dZ:f.ok) (hf:eX false W.heap.size W ob J f (lV 2 xs) n p) (ei:∀k,ob=some k→W.heap.size≤k) (hx:xs.length=n*2) (w0:World) (s:σ) (hw:Below W.heap.size W w0) (hj:J s w0) (fv:Kc J) (mz:∀k,ob=some k→k<w0.heap.size) :
  Calls Tryz.prog 73 #[v,f.val] w0 (kd w0 ob J (cA p n 0 s)):=by
 have AS:w0.grownBy (w0.alloc (.cells #[f.val] 119)) none:=World.grownBy_alloc _ _ _
 have hS:eX true W.heap.size W ob (JF J w0.heap.size f.val 119) ⟨119,#[],#[.pointer (some ⟨w0.heap.size,0,none⟩)]⟩ (lV 2 xs) n p:=by
  intro i hi st w hb ki
  obtain ⟨a0,a1,c8,_⟩:=Fz hx hi
  have Fh:w.grownBy (w.alloc (.cells #[a0,a1] 111)) none:=World.grownBy_alloc _ _ _
  have vG:=hf i hi st (w.alloc (.cells #[a0,a1] 111)) (hb.alloc hb.size _) (fv _ _ _ ki.1 Fh)
  rw[c8] at vG ⊢
  refine (OW (R:=fun _ w'=>(∀s',p i st=some s'→J s' w')∧w.grownBy w' ob) dZ ki.2 (vG.mono fun _ _ h=>⟨h.1,h.2.1,(World.grownBy_alloc _ _ _).trans h.2.2⟩)).mono ?_
  rintro e w' ⟨rfl,yv,kY⟩
  refine ⟨by simp,fun s' e=>⟨yv s' e,?_⟩,kY⟩
  have aM:=(zA ki.2).1
  exact (kY.block _ aM (fun e=>by have:=mz _ e.symm;omega)).trans ki.2
 have HI:=al (LN hv (f:=⟨119,#[],#[.pointer (some ⟨w0.heap.size,0,none⟩)]⟩) (fun vs w=>by kernel_rfl) hS ei hx _ s (hw.alloc hw.size _) ⟨fv _ _ _ hj AS,aJ _ _⟩)
 obtain ⟨r,hr⟩:∃r,cA p n 0 s=r:=⟨_,rfl⟩
 rw[hr] at HI ⊢
 have pE:=al (show w0.grownBy (w0.alloc (.cells #[f.val] 119)) ob from World.grownBy_alloc _ _ _)
 obtain ⟨a,c,rfl,hn,h2⟩:=hv
 obtain ⟨qX,fs,cp⟩:=f
 unfold Fv.val at HI pE ⊢
 simp only at HI pE ⊢
 clear hf ei hx hw hj h2 hn hr dZ AS hS fv mz
 go_enter Tryz.func73,Tryz.ntmps73
 go_wp2_with fail
 refine (ab HI).mono ?_
 rintro e w1 ⟨rfl,kC,dO⟩
 have HJ:=al (fun s' e=>(kC s' e).1)
 have HG:=al ((ab pE).trans dO)
 clear kC dO HI pE
 go_wp2
 go_ret
 exact ⟨by simp,ab HJ,ab HG⟩
theorem LL {σ:Type}{W:World}{ob:Option Nat}{J:σ→World→Prop}{f:Fv}{v:Value}{xs:List Value}{n:Nat}{p:Nat→σ→Option σ} (hv:Rl W v n xs) (dZ:f.ok) (hf:eX true W.heap.size W ob J f (lV 2 xs) n p) (ei:∀k,ob=some k→W.heap.size≤k) (hx:xs.length=n*2) (w0:World) (s:σ) (hw:Below W.heap.size W w0) (hj:J s w0) :
  Calls Tryz.prog 122 #[v,f.val] w0 (fun e w=>e=.returned (.bool (!(cA p n 0 s).isSome))∧(∀s',cA p n 0 s=some s'→J s' w)∧w0.grownBy w ob):=by
 have HI:=al (K9 hv dZ hf ei hx w0 s hw hj)
 obtain ⟨r,hr⟩:∃r,cA p n 0 s=r:=⟨_,rfl⟩
 rw[hr] at HI ⊢
 obtain ⟨a,c,rfl,hn,h2⟩:=hv
 obtain ⟨qX,fs,cp⟩:=f
 unfold Fv.val at HI ⊢
 simp only at HI ⊢
 clear hf ei hx hw hj h2 hn hr dZ
 go_enter Tryz.func122,Tryz.ntmps122
 go_wp2_with fail
 refine (ab HI).mono ?_
 rintro e w1 ⟨q,rfl,hq,kC,dO⟩
 have HJ:=al kC
 have HG:=al dO
 have HQ:=al hq
 clear kC dO hq HI
 go_wp2
 go_ret
 refine ⟨?_,ab HJ,ab HG⟩
 have:=ab HQ
 simp only[←this]
 rfl
theorem OU {f:Fv}{a0 a1:Value}{g:Nat}{w:World}{R:Ending→World→Prop}{b:Bool} (dZ:f.ok) (hg:w.heap[g]?=some (.cells #[f.val] 122 (0,0))) (hc:Calls Tryz.prog f.f (f.fs.push (.agg #[a0,a1])++f.cp) (w.alloc (.cells #[a0,a1] 74)) fun e w'=>e=.returned (.bool b)∧R e w') :
  Calls Tryz.prog 123 #[.agg #[a0,a1],.pointer (some ⟨g,0,none⟩)] w fun e w'=>e=.returned (.bool (!b))∧R (.returned (.bool b)) w':=by
 have c0:(w.alloc (.cells #[a0,a1] 74)).cell? ⟨g,0,none⟩=some f.val:=cell_of_row _ _ _ _ _ _ ((Below.heap_alloc _ _ _ (zA hg).1).trans hg)
 have fw:=aJ w (.cells #[a0,a1] 74)
 have b0:(w.alloc (.cells #[a0,a1] 74)).cell? ⟨w.heap.size,0,none⟩=some a0:=cell_of_row _ _ _ _ _ _ fw
 have b1:(w.alloc (.cells #[a0,a1] 74)).cell? ⟨w.heap.size,1,none⟩=some a1:=cell_of_row _ _ _ _ _ _ fw
 clear fw
 obtain ⟨qX,fs,cp⟩:=f
 unfold Fv.val at c0
 unfold Fv.ok at dZ
 simp only at hc dZ c0
 have HC:=al hc
 clear hc hg
 go_enter Tryz.func123,Tryz.ntmps123
 go_wp2_with fail
 refine (ab HC).mono ?_
 rintro e w1 ⟨rfl,hr⟩
 have HR:=al hr
 clear hr HC
 go_wp2
 go_ret
 exact ⟨rfl,ab HR⟩
theorem Jt {σ:Type}{W:World}{ob:Option Nat}{J:σ→World→Prop}{f:Fv}{v:Value}{xs:List Value}{n:Nat}{p:Nat→σ→Option σ} (hv:Rl W v n xs) (dZ:f.ok) (hf:eX false W.heap.size W ob J f (lV 2 xs) n p) (ei:∀k,ob=some k→W.heap.size≤k) (hx:xs.length=n*2) (w0:World) (s:σ) (hw:Below W.heap.size W w0) (hj:J s w0) (fv:Kc J) (mz:∀k,ob=some k→k<w0.heap.size) :
  Calls Tryz.prog 78 #[v,f.val] w0 (kd w0 ob J (cA p n 0 s)):=by
 have AS:w0.grownBy (w0.alloc (.cells #[f.val] 122)) none:=World.grownBy_alloc _ _ _
 have hS:eX true W.heap.size W ob (JF J w0.heap.size f.val 122) ⟨123,#[],#[.pointer (some ⟨w0.heap.size,0,none⟩)]⟩ (lV 2 xs) n p:=by
  intro i hi st w hb ki
  obtain ⟨a0,a1,c8,_⟩:=Fz hx hi
  have Fh:w.grownBy (w.alloc (.cells #[a0,a1] 74)) none:=World.grownBy_alloc _ _ _
  have vG:=hf i hi st (w.alloc (.cells #[a0,a1] 74)) (hb.alloc hb.size _) (fv _ _ _ ki.1 Fh)
  rw[c8] at vG ⊢
  refine (OU (R:=fun _ w'=>(∀s',p i st=some s'→J s' w')∧w.grownBy w' ob) dZ ki.2 (vG.mono fun _ _ h=>⟨h.1,h.2.1,(World.grownBy_alloc _ _ _).trans h.2.2⟩)).mono ?_
  rintro e w' ⟨rfl,yv,kY⟩
  refine ⟨by simp,fun s' e=>⟨yv s' e,?_⟩,kY⟩
  have aM:=(zA ki.2).1
  exact (kY.block _ aM (fun e=>by have:=mz _ e.symm;omega)).trans ki.2
 have HI:=al (LL hv (f:=⟨123,#[],#[.pointer (some ⟨w0.heap.size,0,none⟩)]⟩) (fun vs w=>by kernel_rfl) hS ei hx _ s (hw.alloc hw.size _) ⟨fv _ _ _ hj AS,aJ _ _⟩)
 obtain ⟨r,hr⟩:∃r,cA p n 0 s=r:=⟨_,rfl⟩
 rw[hr] at HI ⊢
 have pE:=al (show w0.grownBy (w0.alloc (.cells #[f.val] 122)) ob from World.grownBy_alloc _ _ _)
 obtain ⟨a,c,rfl,hn,h2⟩:=hv
 obtain ⟨qX,fs,cp⟩:=f
 unfold Fv.val at HI pE ⊢
 simp only at HI pE ⊢
 clear hf ei hx hw hj h2 hn hr dZ AS hS fv mz
 go_enter Tryz.func78,Tryz.ntmps78
 go_wp2_with fail
 refine (ab HI).mono ?_
 rintro e w1 ⟨rfl,kC,dO⟩
 have HJ:=al (fun s' e=>(kC s' e).1)
 have HG:=al ((ab pE).trans dO)
 clear kC dO HI pE
 go_wp2
 go_ret
 exact ⟨by simp,ab HJ,ab HG⟩
end Go.Proofs.YtichhjfjcinjgaaGreatDoor
