import Derived.Test.YtichhjfjcinjgaaGreatDoorYA
set_option maxHeartbeats 2000000
set_option maxRecDepth 100000
namespace Go.Proofs.YtichhjfjcinjgaaGreatDoor
open Go.RowKit
attribute [local go_sem ↓] Go.wp_at_zero Go.wp_at_succ
def Jw {σ:Type} (J:σ→World→Prop):Prop:=∀s w w',J s w→w.grownBy w' none→J s w'
def JF {σ:Type} (J:σ→World→Prop) (g:Nat) (f:Value) (t:TypeId) (s:σ) (w:World):Prop:=J s w∧w.heap[g]?=some (.cells #[f] t (0,0))
theorem K' {σ:Type}{W:World}{ob:Option Nat}{J:σ→World→Prop}{f:Fv}{v:Value}{xs:List Value}{n:Nat}{p:Nat→σ→Option σ} (hv:Rl W v n xs) (dT:f.ok) (hf:eQ true W.heap.size W ob J f (fun i=>xs.getD i undef) n p) (dZ:∀k,ob=some k→W.heap.size≤k) (hx:xs.length=n) (w0:World) (s:σ) (hw:Below W.heap.size W w0) (hj:J s w0) :
  Calls Tryz.prog 65 #[v,f.val] w0 (fun e w=>e=.returned (.bool (!(cw p n 0 s).isSome))∧(∀s',cw p n 0 s=some s'→J s' w)∧w0.grownBy w ob):=by
 have HI:=al (Kt hv dT hf dZ hx w0 s hw hj)
 obtain ⟨r,hr⟩:∃r,cw p n 0 s=r:=⟨_,rfl⟩
 rw[hr] at HI ⊢
 obtain ⟨a,c,rfl,hn,h2⟩:=hv
 obtain ⟨qA,fs,cp⟩:=f
 unfold Fv.val at HI ⊢
 simp only at HI ⊢
 clear hf dZ hx hw hj h2 hn hr dT
 go_enter Tryz.func65,Tryz.ntmps65
 go_wp2_with fail
 refine (ab HI).mono ?_
 rintro e w1 ⟨q,rfl,hq,ka,dK⟩
 have HJ:=al ka
 have HG:=al dK
 have HQ:=al hq
 clear ka dK hq HI
 go_wp2
 go_ret
 refine ⟨?_,ab HJ,ab HG⟩
 have:=ab HQ
 simp only[←this]
 rfl
theorem Oh {f:Fv}{x:Value}{g:Nat}{w:World}{R:Ending→World→Prop}{b:Bool} (dT:f.ok) (hg:w.heap[g]?=some (.cells #[f.val] 77 (0,0))) (hc:Calls Tryz.prog f.f (f.fs.push (x)++f.cp) w fun e w'=>e=.returned (.bool b)∧R e w') :
  Calls Tryz.prog 66 #[x,.pointer (some ⟨g,0,none⟩)] w fun e w'=>e=.returned (.bool (!b))∧R (.returned (.bool b)) w':=by
 have c0:w.cell? ⟨g,0,none⟩=some f.val:=cell_of_row _ _ _ _ _ _ hg
 obtain ⟨qA,fs,cp⟩:=f
 unfold Fv.val at c0
 unfold Fv.ok at dT
 simp only at hc dT c0
 have HC:=al hc
 clear hc hg
 go_enter Tryz.func66,Tryz.ntmps66
 go_wp2_with fail
 refine (ab HC).mono ?_
 rintro e w1 ⟨rfl,hr⟩
 have HR:=al hr
 clear hr HC
 go_wp2
 go_ret
 exact ⟨rfl,ab HR⟩
theorem IL {σ:Type}{W:World}{ob:Option Nat}{J:σ→World→Prop}{f:Fv}{v:Value}{xs:List Value}{n:Nat}{p:Nat→σ→Option σ} (hv:Rl W v n xs) (dT:f.ok) (hf:eQ false W.heap.size W ob J f (fun i=>xs.getD i undef) n p) (dZ:∀k,ob=some k→W.heap.size≤k) (hx:xs.length=n) (w0:World) (s:σ) (hw:Below W.heap.size W w0) (hj:J s w0) (ff:Jw J) (l7:∀k,ob=some k→k<w0.heap.size) :
  Calls Tryz.prog 36 #[v,f.val] w0 (jS w0 ob J (cw p n 0 s)):=by
 have Ah:w0.grownBy (w0.alloc (.cells #[f.val] 77)) none:=World.grownBy_alloc _ _ _
 have hS:eQ true W.heap.size W ob (JF J w0.heap.size f.val 77) ⟨66,#[],#[.pointer (some ⟨w0.heap.size,0,none⟩)]⟩ (fun i=>xs.getD i undef) n p:=by
  intro i hi st w hb jU
  have uS:=hf i hi st w hb jU.1
  obtain ⟨x,_,cY⟩:=R8 hx hi
  simp only[cY] at uS ⊢
  refine (Oh (R:=fun _ w'=>(∀s',p i st=some s'→J s' w')∧w.grownBy w' ob) dT jU.2 uS).mono ?_
  rintro e w' ⟨rfl,xQ,kH⟩
  refine ⟨by simp,fun s' e=>⟨xQ s' e,?_⟩,kH⟩
  have aM:=(zA jU.2).1
  exact (kH.block _ aM (fun e=>by have:=l7 _ e.symm;omega)).trans jU.2
 have HI:=al (K' hv (f:=⟨66,#[],#[.pointer (some ⟨w0.heap.size,0,none⟩)]⟩) (fun vs w=>by kernel_rfl) hS dZ hx _ s (hw.alloc hw.size _) ⟨ff _ _ _ hj Ah,aK _ _⟩)
 obtain ⟨r,hr⟩:∃r,cw p n 0 s=r:=⟨_,rfl⟩
 rw[hr] at HI ⊢
 have o6:=al (show w0.grownBy (w0.alloc (.cells #[f.val] 77)) ob from World.grownBy_alloc _ _ _)
 obtain ⟨a,c,rfl,hn,h2⟩:=hv
 obtain ⟨qA,fs,cp⟩:=f
 unfold Fv.val at HI o6 ⊢
 simp only at HI o6 ⊢
 clear hf dZ hx hw hj h2 hn hr dT Ah hS ff l7
 go_enter Tryz.func36,Tryz.ntmps36
 go_wp2_with fail
 refine (ab HI).mono ?_
 rintro e w1 ⟨rfl,ka,dK⟩
 have HJ:=al (fun s' e=>(ka s' e).1)
 have HG:=al ((ab o6).trans dK)
 clear ka dK HI o6
 go_wp2
 go_ret
 exact ⟨by simp,ab HJ,ab HG⟩
theorem Lb {σ:Type}{W:World}{ob:Option Nat}{J:σ→World→Prop}{f:Fv}{v:Value}{xs:List Value}{n:Nat}{p:Nat→σ→Option σ} (hv:Rl W v n xs) (dT:f.ok) (hf:eQ true W.heap.size W ob J f (lC 7 xs) n p) (dZ:∀k,ob=some k→W.heap.size≤k) (hx:xs.length=n*7) (w0:World) (s:σ) (hw:Below W.heap.size W w0) (hj:J s w0) :
  Calls Tryz.prog 68 #[v,f.val] w0 (fun e w=>e=.returned (.bool (!(cw p n 0 s).isSome))∧(∀s',cw p n 0 s=some s'→J s' w)∧w0.grownBy w ob):=by
 have HI:=al (Kv hv dT hf dZ hx w0 s hw hj)
 obtain ⟨r,hr⟩:∃r,cw p n 0 s=r:=⟨_,rfl⟩
 rw[hr] at HI ⊢
 obtain ⟨a,c,rfl,hn,h2⟩:=hv
 obtain ⟨qA,fs,cp⟩:=f
 unfold Fv.val at HI ⊢
 simp only at HI ⊢
 clear hf dZ hx hw hj h2 hn hr dT
 go_enter Tryz.func68,Tryz.ntmps68
 go_wp2_with fail
 refine (ab HI).mono ?_
 rintro e w1 ⟨q,rfl,hq,ka,dK⟩
 have HJ:=al ka
 have HG:=al dK
 have HQ:=al hq
 clear ka dK hq HI
 go_wp2
 go_ret
 refine ⟨?_,ab HJ,ab HG⟩
 have:=ab HQ
 simp only[←this]
 rfl
theorem Oj {f:Fv}{a0 a1 a2 a3 a4 a5 a6:Value}{g:Nat}{w:World}{R:Ending→World→Prop}{b:Bool} (dT:f.ok) (hg:w.heap[g]?=some (.cells #[f.val] 82 (0,0))) (hc:Calls Tryz.prog f.f (f.fs.push (.agg #[a0,a1,a2,a3,a4,a5,a6])++f.cp) (w.alloc (.cells #[a0,a1,a2,a3,a4,a5,a6] 46)) fun e w'=>e=.returned (.bool b)∧R e w') :
  Calls Tryz.prog 69 #[.agg #[a0,a1,a2,a3,a4,a5,a6],.pointer (some ⟨g,0,none⟩)] w fun e w'=>e=.returned (.bool (!b))∧R (.returned (.bool b)) w':=by
 have c0:(w.alloc (.cells #[a0,a1,a2,a3,a4,a5,a6] 46)).cell? ⟨g,0,none⟩=some f.val:=cell_of_row _ _ _ _ _ _ ((Below.heap_alloc _ _ _ (zA hg).1).trans hg)
 have fg:=aK w (.cells #[a0,a1,a2,a3,a4,a5,a6] 46)
 have b0:(w.alloc (.cells #[a0,a1,a2,a3,a4,a5,a6] 46)).cell? ⟨w.heap.size,0,none⟩=some a0:=cell_of_row _ _ _ _ _ _ fg
 have b1:(w.alloc (.cells #[a0,a1,a2,a3,a4,a5,a6] 46)).cell? ⟨w.heap.size,1,none⟩=some a1:=cell_of_row _ _ _ _ _ _ fg
 have b2:(w.alloc (.cells #[a0,a1,a2,a3,a4,a5,a6] 46)).cell? ⟨w.heap.size,2,none⟩=some a2:=cell_of_row _ _ _ _ _ _ fg
 have b3:(w.alloc (.cells #[a0,a1,a2,a3,a4,a5,a6] 46)).cell? ⟨w.heap.size,3,none⟩=some a3:=cell_of_row _ _ _ _ _ _ fg
 have b4:(w.alloc (.cells #[a0,a1,a2,a3,a4,a5,a6] 46)).cell? ⟨w.heap.size,4,none⟩=some a4:=cell_of_row _ _ _ _ _ _ fg
 have b5:(w.alloc (.cells #[a0,a1,a2,a3,a4,a5,a6] 46)).cell? ⟨w.heap.size,5,none⟩=some a5:=cell_of_row _ _ _ _ _ _ fg
 have b6:(w.alloc (.cells #[a0,a1,a2,a3,a4,a5,a6] 46)).cell? ⟨w.heap.size,6,none⟩=some a6:=cell_of_row _ _ _ _ _ _ fg
 clear fg
 obtain ⟨qA,fs,cp⟩:=f
 unfold Fv.val at c0
 unfold Fv.ok at dT
 simp only at hc dT c0
 have HC:=al hc
 clear hc hg
 go_enter Tryz.func69,Tryz.ntmps69
 go_wp2_with fail
 refine (ab HC).mono ?_
 rintro e w1 ⟨rfl,hr⟩
 have HR:=al hr
 clear hr HC
 go_wp2
 go_ret
 exact ⟨rfl,ab HR⟩
theorem AF {σ:Type}{W:World}{ob:Option Nat}{J:σ→World→Prop}{f:Fv}{v:Value}{xs:List Value}{n:Nat}{p:Nat→σ→Option σ} (hv:Rl W v n xs) (dT:f.ok) (hf:eQ false W.heap.size W ob J f (lC 7 xs) n p) (dZ:∀k,ob=some k→W.heap.size≤k) (hx:xs.length=n*7) (w0:World) (s:σ) (hw:Below W.heap.size W w0) (hj:J s w0) (ff:Jw J) (l7:∀k,ob=some k→k<w0.heap.size) :
  Calls Tryz.prog 38 #[v,f.val] w0 (jS w0 ob J (cw p n 0 s)):=by
 have Ah:w0.grownBy (w0.alloc (.cells #[f.val] 82)) none:=World.grownBy_alloc _ _ _
 have hS:eQ true W.heap.size W ob (JF J w0.heap.size f.val 82) ⟨69,#[],#[.pointer (some ⟨w0.heap.size,0,none⟩)]⟩ (lC 7 xs) n p:=by
  intro i hi st w hb jU
  obtain ⟨a0,a1,a2,a3,a4,a5,a6,cY,_⟩:=R5 hx hi
  have ED:w.grownBy (w.alloc (.cells #[a0,a1,a2,a3,a4,a5,a6] 46)) none:=World.grownBy_alloc _ _ _
  have uS:=hf i hi st (w.alloc (.cells #[a0,a1,a2,a3,a4,a5,a6] 46)) (hb.alloc hb.size _) (ff _ _ _ jU.1 ED)
  rw[cY] at uS ⊢
  refine (Oj (R:=fun _ w'=>(∀s',p i st=some s'→J s' w')∧w.grownBy w' ob) dT jU.2 (uS.mono fun _ _ h=>⟨h.1,h.2.1,(World.grownBy_alloc _ _ _).trans h.2.2⟩)).mono ?_
  rintro e w' ⟨rfl,xQ,kH⟩
  refine ⟨by simp,fun s' e=>⟨xQ s' e,?_⟩,kH⟩
  have aM:=(zA jU.2).1
  exact (kH.block _ aM (fun e=>by have:=l7 _ e.symm;omega)).trans jU.2
 have HI:=al (Lb hv (f:=⟨69,#[],#[.pointer (some ⟨w0.heap.size,0,none⟩)]⟩) (fun vs w=>by kernel_rfl) hS dZ hx _ s (hw.alloc hw.size _) ⟨ff _ _ _ hj Ah,aK _ _⟩)
 obtain ⟨r,hr⟩:∃r,cw p n 0 s=r:=⟨_,rfl⟩
 rw[hr] at HI ⊢
 have o6:=al (show w0.grownBy (w0.alloc (.cells #[f.val] 82)) ob from World.grownBy_alloc _ _ _)
 obtain ⟨a,c,rfl,hn,h2⟩:=hv
 obtain ⟨qA,fs,cp⟩:=f
 unfold Fv.val at HI o6 ⊢
 simp only at HI o6 ⊢
 clear hf dZ hx hw hj h2 hn hr dT Ah hS ff l7
 go_enter Tryz.func38,Tryz.ntmps38
 go_wp2_with fail
 refine (ab HI).mono ?_
 rintro e w1 ⟨rfl,ka,dK⟩
 have HJ:=al (fun s' e=>(ka s' e).1)
 have HG:=al ((ab o6).trans dK)
 clear ka dK HI o6
 go_wp2
 go_ret
 exact ⟨by simp,ab HJ,ab HG⟩
theorem Ld {σ:Type}{W:World}{ob:Option Nat}{J:σ→World→Prop}{f:Fv}{v:Value}{xs:List Value}{n:Nat}{p:Nat→σ→Option σ} (hv:Rl W v n xs) (dT:f.ok) (hf:eQ true W.heap.size W ob J f (lC 4 xs) n p) (dZ:∀k,ob=some k→W.heap.size≤k) (hx:xs.length=n*4) (w0:World) (s:σ) (hw:Below W.heap.size W w0) (hj:J s w0) :
  Calls Tryz.prog 76 #[v,f.val] w0 (fun e w=>e=.returned (.bool (!(cw p n 0 s).isSome))∧(∀s',cw p n 0 s=some s'→J s' w)∧w0.grownBy w ob):=by
 have HI:=al (Kx hv dT hf dZ hx w0 s hw hj)
 obtain ⟨r,hr⟩:∃r,cw p n 0 s=r:=⟨_,rfl⟩
 rw[hr] at HI ⊢
 obtain ⟨a,c,rfl,hn,h2⟩:=hv
 obtain ⟨qA,fs,cp⟩:=f
 unfold Fv.val at HI ⊢
 simp only at HI ⊢
 clear hf dZ hx hw hj h2 hn hr dT
 go_enter Tryz.func76,Tryz.ntmps76
 go_wp2_with fail
 refine (ab HI).mono ?_
 rintro e w1 ⟨q,rfl,hq,ka,dK⟩
 have HJ:=al ka
 have HG:=al dK
 have HQ:=al hq
 clear ka dK hq HI
 go_wp2
 go_ret
 refine ⟨?_,ab HJ,ab HG⟩
 have:=ab HQ
 simp only[←this]
 rfl
theorem Ol {f:Fv}{a0 a1 a2 a3:Value}{g:Nat}{w:World}{R:Ending→World→Prop}{b:Bool} (dT:f.ok) (hg:w.heap[g]?=some (.cells #[f.val] 84 (0,0))) (hc:Calls Tryz.prog f.f (f.fs.push (.agg #[a0,a1,a2,a3])++f.cp) (w.alloc (.cells #[a0,a1,a2,a3] 67)) fun e w'=>e=.returned (.bool b)∧R e w') :
  Calls Tryz.prog 77 #[.agg #[a0,a1,a2,a3],.pointer (some ⟨g,0,none⟩)] w fun e w'=>e=.returned (.bool (!b))∧R (.returned (.bool b)) w':=by
 have c0:(w.alloc (.cells #[a0,a1,a2,a3] 67)).cell? ⟨g,0,none⟩=some f.val:=cell_of_row _ _ _ _ _ _ ((Below.heap_alloc _ _ _ (zA hg).1).trans hg)
 have fg:=aK w (.cells #[a0,a1,a2,a3] 67)
 have b0:(w.alloc (.cells #[a0,a1,a2,a3] 67)).cell? ⟨w.heap.size,0,none⟩=some a0:=cell_of_row _ _ _ _ _ _ fg
 have b1:(w.alloc (.cells #[a0,a1,a2,a3] 67)).cell? ⟨w.heap.size,1,none⟩=some a1:=cell_of_row _ _ _ _ _ _ fg
 have b2:(w.alloc (.cells #[a0,a1,a2,a3] 67)).cell? ⟨w.heap.size,2,none⟩=some a2:=cell_of_row _ _ _ _ _ _ fg
 have b3:(w.alloc (.cells #[a0,a1,a2,a3] 67)).cell? ⟨w.heap.size,3,none⟩=some a3:=cell_of_row _ _ _ _ _ _ fg
 clear fg
 obtain ⟨qA,fs,cp⟩:=f
 unfold Fv.val at c0
 unfold Fv.ok at dT
 simp only at hc dT c0
 have HC:=al hc
 clear hc hg
 go_enter Tryz.func77,Tryz.ntmps77
 go_wp2_with fail
 refine (ab HC).mono ?_
 rintro e w1 ⟨rfl,hr⟩
 have HR:=al hr
 clear hr HC
 go_wp2
 go_ret
 exact ⟨rfl,ab HR⟩
theorem IP {σ:Type}{W:World}{ob:Option Nat}{J:σ→World→Prop}{f:Fv}{v:Value}{xs:List Value}{n:Nat}{p:Nat→σ→Option σ} (hv:Rl W v n xs) (dT:f.ok) (hf:eQ false W.heap.size W ob J f (lC 4 xs) n p) (dZ:∀k,ob=some k→W.heap.size≤k) (hx:xs.length=n*4) (w0:World) (s:σ) (hw:Below W.heap.size W w0) (hj:J s w0) (ff:Jw J) (l7:∀k,ob=some k→k<w0.heap.size) :
  Calls Tryz.prog 41 #[v,f.val] w0 (jS w0 ob J (cw p n 0 s)):=by
 have Ah:w0.grownBy (w0.alloc (.cells #[f.val] 84)) none:=World.grownBy_alloc _ _ _
 have hS:eQ true W.heap.size W ob (JF J w0.heap.size f.val 84) ⟨77,#[],#[.pointer (some ⟨w0.heap.size,0,none⟩)]⟩ (lC 4 xs) n p:=by
  intro i hi st w hb jU
  obtain ⟨a0,a1,a2,a3,cY,_⟩:=R7 hx hi
  have ED:w.grownBy (w.alloc (.cells #[a0,a1,a2,a3] 67)) none:=World.grownBy_alloc _ _ _
  have uS:=hf i hi st (w.alloc (.cells #[a0,a1,a2,a3] 67)) (hb.alloc hb.size _) (ff _ _ _ jU.1 ED)
  rw[cY] at uS ⊢
  refine (Ol (R:=fun _ w'=>(∀s',p i st=some s'→J s' w')∧w.grownBy w' ob) dT jU.2 (uS.mono fun _ _ h=>⟨h.1,h.2.1,(World.grownBy_alloc _ _ _).trans h.2.2⟩)).mono ?_
  rintro e w' ⟨rfl,xQ,kH⟩
  refine ⟨by simp,fun s' e=>⟨xQ s' e,?_⟩,kH⟩
  have aM:=(zA jU.2).1
  exact (kH.block _ aM (fun e=>by have:=l7 _ e.symm;omega)).trans jU.2
 have HI:=al (Ld hv (f:=⟨77,#[],#[.pointer (some ⟨w0.heap.size,0,none⟩)]⟩) (fun vs w=>by kernel_rfl) hS dZ hx _ s (hw.alloc hw.size _) ⟨ff _ _ _ hj Ah,aK _ _⟩)
 obtain ⟨r,hr⟩:∃r,cw p n 0 s=r:=⟨_,rfl⟩
 rw[hr] at HI ⊢
 have o6:=al (show w0.grownBy (w0.alloc (.cells #[f.val] 84)) ob from World.grownBy_alloc _ _ _)
 obtain ⟨a,c,rfl,hn,h2⟩:=hv
 obtain ⟨qA,fs,cp⟩:=f
 unfold Fv.val at HI o6 ⊢
 simp only at HI o6 ⊢
 clear hf dZ hx hw hj h2 hn hr dT Ah hS ff l7
 go_enter Tryz.func41,Tryz.ntmps41
 go_wp2_with fail
 refine (ab HI).mono ?_
 rintro e w1 ⟨rfl,ka,dK⟩
 have HJ:=al (fun s' e=>(ka s' e).1)
 have HG:=al ((ab o6).trans dK)
 clear ka dK HI o6
 go_wp2
 go_ret
 exact ⟨by simp,ab HJ,ab HG⟩
theorem Lc {σ:Type}{W:World}{ob:Option Nat}{J:σ→World→Prop}{f:Fv}{v:Value}{xs:List Value}{n:Nat}{p:Nat→σ→Option σ} (hv:Rl W v n xs) (dT:f.ok) (hf:eQ true W.heap.size W ob J f (lC 6 xs) n p) (dZ:∀k,ob=some k→W.heap.size≤k) (hx:xs.length=n*6) (w0:World) (s:σ) (hw:Below W.heap.size W w0) (hj:J s w0) :
  Calls Tryz.prog 111 #[v,f.val] w0 (fun e w=>e=.returned (.bool (!(cw p n 0 s).isSome))∧(∀s',cw p n 0 s=some s'→J s' w)∧w0.grownBy w ob):=by
 have HI:=al (Kw hv dT hf dZ hx w0 s hw hj)
 obtain ⟨r,hr⟩:∃r,cw p n 0 s=r:=⟨_,rfl⟩
 rw[hr] at HI ⊢
 obtain ⟨a,c,rfl,hn,h2⟩:=hv
 obtain ⟨qA,fs,cp⟩:=f
 unfold Fv.val at HI ⊢
 simp only at HI ⊢
 clear hf dZ hx hw hj h2 hn hr dT
 go_enter Tryz.func111,Tryz.ntmps111
 go_wp2_with fail
 refine (ab HI).mono ?_
 rintro e w1 ⟨q,rfl,hq,ka,dK⟩
 have HJ:=al ka
 have HG:=al dK
 have HQ:=al hq
 clear ka dK hq HI
 go_wp2
 go_ret
 refine ⟨?_,ab HJ,ab HG⟩
 have:=ab HQ
 simp only[←this]
 rfl
theorem Ok {f:Fv}{a0 a1 a2 a3 a4 a5:Value}{g:Nat}{w:World}{R:Ending→World→Prop}{b:Bool} (dT:f.ok) (hg:w.heap[g]?=some (.cells #[f.val] 116 (0,0))) (hc:Calls Tryz.prog f.f (f.fs.push (.agg #[a0,a1,a2,a3,a4,a5])++f.cp) (w.alloc (.cells #[a0,a1,a2,a3,a4,a5] 42)) fun e w'=>e=.returned (.bool b)∧R e w') :
  Calls Tryz.prog 112 #[.agg #[a0,a1,a2,a3,a4,a5],.pointer (some ⟨g,0,none⟩)] w fun e w'=>e=.returned (.bool (!b))∧R (.returned (.bool b)) w':=by
 have c0:(w.alloc (.cells #[a0,a1,a2,a3,a4,a5] 42)).cell? ⟨g,0,none⟩=some f.val:=cell_of_row _ _ _ _ _ _ ((Below.heap_alloc _ _ _ (zA hg).1).trans hg)
 have fg:=aK w (.cells #[a0,a1,a2,a3,a4,a5] 42)
 have b0:(w.alloc (.cells #[a0,a1,a2,a3,a4,a5] 42)).cell? ⟨w.heap.size,0,none⟩=some a0:=cell_of_row _ _ _ _ _ _ fg
 have b1:(w.alloc (.cells #[a0,a1,a2,a3,a4,a5] 42)).cell? ⟨w.heap.size,1,none⟩=some a1:=cell_of_row _ _ _ _ _ _ fg
 have b2:(w.alloc (.cells #[a0,a1,a2,a3,a4,a5] 42)).cell? ⟨w.heap.size,2,none⟩=some a2:=cell_of_row _ _ _ _ _ _ fg
 have b3:(w.alloc (.cells #[a0,a1,a2,a3,a4,a5] 42)).cell? ⟨w.heap.size,3,none⟩=some a3:=cell_of_row _ _ _ _ _ _ fg
 have b4:(w.alloc (.cells #[a0,a1,a2,a3,a4,a5] 42)).cell? ⟨w.heap.size,4,none⟩=some a4:=cell_of_row _ _ _ _ _ _ fg
 have b5:(w.alloc (.cells #[a0,a1,a2,a3,a4,a5] 42)).cell? ⟨w.heap.size,5,none⟩=some a5:=cell_of_row _ _ _ _ _ _ fg
 clear fg
 obtain ⟨qA,fs,cp⟩:=f
 unfold Fv.val at c0
 unfold Fv.ok at dT
 simp only at hc dT c0
 have HC:=al hc
 clear hc hg
 go_enter Tryz.func112,Tryz.ntmps112
 go_wp2_with fail
 refine (ab HC).mono ?_
 rintro e w1 ⟨rfl,hr⟩
 have HR:=al hr
 clear hr HC
 go_wp2
 go_ret
 exact ⟨rfl,ab HR⟩
theorem IN {σ:Type}{W:World}{ob:Option Nat}{J:σ→World→Prop}{f:Fv}{v:Value}{xs:List Value}{n:Nat}{p:Nat→σ→Option σ} (hv:Rl W v n xs) (dT:f.ok) (hf:eQ false W.heap.size W ob J f (lC 6 xs) n p) (dZ:∀k,ob=some k→W.heap.size≤k) (hx:xs.length=n*6) (w0:World) (s:σ) (hw:Below W.heap.size W w0) (hj:J s w0) (ff:Jw J) (l7:∀k,ob=some k→k<w0.heap.size) :
  Calls Tryz.prog 70 #[v,f.val] w0 (jS w0 ob J (cw p n 0 s)):=by
 have Ah:w0.grownBy (w0.alloc (.cells #[f.val] 116)) none:=World.grownBy_alloc _ _ _
 have hS:eQ true W.heap.size W ob (JF J w0.heap.size f.val 116) ⟨112,#[],#[.pointer (some ⟨w0.heap.size,0,none⟩)]⟩ (lC 6 xs) n p:=by
  intro i hi st w hb jU
  obtain ⟨a0,a1,a2,a3,a4,a5,cY,_⟩:=N0 hx hi
  have ED:w.grownBy (w.alloc (.cells #[a0,a1,a2,a3,a4,a5] 42)) none:=World.grownBy_alloc _ _ _
  have uS:=hf i hi st (w.alloc (.cells #[a0,a1,a2,a3,a4,a5] 42)) (hb.alloc hb.size _) (ff _ _ _ jU.1 ED)
  rw[cY] at uS ⊢
  refine (Ok (R:=fun _ w'=>(∀s',p i st=some s'→J s' w')∧w.grownBy w' ob) dT jU.2 (uS.mono fun _ _ h=>⟨h.1,h.2.1,(World.grownBy_alloc _ _ _).trans h.2.2⟩)).mono ?_
  rintro e w' ⟨rfl,xQ,kH⟩
  refine ⟨by simp,fun s' e=>⟨xQ s' e,?_⟩,kH⟩
  have aM:=(zA jU.2).1
  exact (kH.block _ aM (fun e=>by have:=l7 _ e.symm;omega)).trans jU.2
 have HI:=al (Lc hv (f:=⟨112,#[],#[.pointer (some ⟨w0.heap.size,0,none⟩)]⟩) (fun vs w=>by kernel_rfl) hS dZ hx _ s (hw.alloc hw.size _) ⟨ff _ _ _ hj Ah,aK _ _⟩)
 obtain ⟨r,hr⟩:∃r,cw p n 0 s=r:=⟨_,rfl⟩
 rw[hr] at HI ⊢
 have o6:=al (show w0.grownBy (w0.alloc (.cells #[f.val] 116)) ob from World.grownBy_alloc _ _ _)
 obtain ⟨a,c,rfl,hn,h2⟩:=hv
 obtain ⟨qA,fs,cp⟩:=f
 unfold Fv.val at HI o6 ⊢
 simp only at HI o6 ⊢
 clear hf dZ hx hw hj h2 hn hr dT Ah hS ff l7
 go_enter Tryz.func70,Tryz.ntmps70
 go_wp2_with fail
 refine (ab HI).mono ?_
 rintro e w1 ⟨rfl,ka,dK⟩
 have HJ:=al (fun s' e=>(ka s' e).1)
 have HG:=al ((ab o6).trans dK)
 clear ka dK HI o6
 go_wp2
 go_ret
 exact ⟨by simp,ab HJ,ab HG⟩
theorem La {σ:Type}{W:World}{ob:Option Nat}{J:σ→World→Prop}{f:Fv}{v:Value}{xs:List Value}{n:Nat}{p:Nat→σ→Option σ} (hv:Rl W v n xs) (dT:f.ok) (hf:eQ true W.heap.size W ob J f (lC 2 xs) n p) (dZ:∀k,ob=some k→W.heap.size≤k) (hx:xs.length=n*2) (w0:World) (s:σ) (hw:Below W.heap.size W w0) (hj:J s w0) :
  Calls Tryz.prog 118 #[v,f.val] w0 (fun e w=>e=.returned (.bool (!(cw p n 0 s).isSome))∧(∀s',cw p n 0 s=some s'→J s' w)∧w0.grownBy w ob):=by
 have HI:=al (Ku hv dT hf dZ hx w0 s hw hj)
 obtain ⟨r,hr⟩:∃r,cw p n 0 s=r:=⟨_,rfl⟩
 rw[hr] at HI ⊢
 obtain ⟨a,c,rfl,hn,h2⟩:=hv
 obtain ⟨qA,fs,cp⟩:=f
 unfold Fv.val at HI ⊢
 simp only at HI ⊢
 clear hf dZ hx hw hj h2 hn hr dT
 go_enter Tryz.func118,Tryz.ntmps118
 go_wp2_with fail
 refine (ab HI).mono ?_
 rintro e w1 ⟨q,rfl,hq,ka,dK⟩
 have HJ:=al ka
 have HG:=al dK
 have HQ:=al hq
 clear ka dK hq HI
 go_wp2
 go_ret
 refine ⟨?_,ab HJ,ab HG⟩
 have:=ab HQ
 simp only[←this]
 rfl
theorem Oi {f:Fv}{a0 a1:Value}{g:Nat}{w:World}{R:Ending→World→Prop}{b:Bool} (dT:f.ok) (hg:w.heap[g]?=some (.cells #[f.val] 119 (0,0))) (hc:Calls Tryz.prog f.f (f.fs.push (.agg #[a0,a1])++f.cp) (w.alloc (.cells #[a0,a1] 111)) fun e w'=>e=.returned (.bool b)∧R e w') :
  Calls Tryz.prog 119 #[.agg #[a0,a1],.pointer (some ⟨g,0,none⟩)] w fun e w'=>e=.returned (.bool (!b))∧R (.returned (.bool b)) w':=by
 have c0:(w.alloc (.cells #[a0,a1] 111)).cell? ⟨g,0,none⟩=some f.val:=cell_of_row _ _ _ _ _ _ ((Below.heap_alloc _ _ _ (zA hg).1).trans hg)
 have fg:=aK w (.cells #[a0,a1] 111)
 have b0:(w.alloc (.cells #[a0,a1] 111)).cell? ⟨w.heap.size,0,none⟩=some a0:=cell_of_row _ _ _ _ _ _ fg
 have b1:(w.alloc (.cells #[a0,a1] 111)).cell? ⟨w.heap.size,1,none⟩=some a1:=cell_of_row _ _ _ _ _ _ fg
 clear fg
 obtain ⟨qA,fs,cp⟩:=f
 unfold Fv.val at c0
 unfold Fv.ok at dT
 simp only at hc dT c0
 have HC:=al hc
 clear hc hg
 go_enter Tryz.func119,Tryz.ntmps119
 go_wp2_with fail
 refine (ab HC).mono ?_
 rintro e w1 ⟨rfl,hr⟩
 have HR:=al hr
 clear hr HC
 go_wp2
 go_ret
 exact ⟨rfl,ab HR⟩
theorem IM {σ:Type}{W:World}{ob:Option Nat}{J:σ→World→Prop}{f:Fv}{v:Value}{xs:List Value}{n:Nat}{p:Nat→σ→Option σ} (hv:Rl W v n xs) (dT:f.ok) (hf:eQ false W.heap.size W ob J f (lC 2 xs) n p) (dZ:∀k,ob=some k→W.heap.size≤k) (hx:xs.length=n*2) (w0:World) (s:σ) (hw:Below W.heap.size W w0) (hj:J s w0) (ff:Jw J) (l7:∀k,ob=some k→k<w0.heap.size) :
  Calls Tryz.prog 73 #[v,f.val] w0 (jS w0 ob J (cw p n 0 s)):=by
 have Ah:w0.grownBy (w0.alloc (.cells #[f.val] 119)) none:=World.grownBy_alloc _ _ _
 have hS:eQ true W.heap.size W ob (JF J w0.heap.size f.val 119) ⟨119,#[],#[.pointer (some ⟨w0.heap.size,0,none⟩)]⟩ (lC 2 xs) n p:=by
  intro i hi st w hb jU
  obtain ⟨a0,a1,cY,_⟩:=ER hx hi
  have ED:w.grownBy (w.alloc (.cells #[a0,a1] 111)) none:=World.grownBy_alloc _ _ _
  have uS:=hf i hi st (w.alloc (.cells #[a0,a1] 111)) (hb.alloc hb.size _) (ff _ _ _ jU.1 ED)
  rw[cY] at uS ⊢
  refine (Oi (R:=fun _ w'=>(∀s',p i st=some s'→J s' w')∧w.grownBy w' ob) dT jU.2 (uS.mono fun _ _ h=>⟨h.1,h.2.1,(World.grownBy_alloc _ _ _).trans h.2.2⟩)).mono ?_
  rintro e w' ⟨rfl,xQ,kH⟩
  refine ⟨by simp,fun s' e=>⟨xQ s' e,?_⟩,kH⟩
  have aM:=(zA jU.2).1
  exact (kH.block _ aM (fun e=>by have:=l7 _ e.symm;omega)).trans jU.2
 have HI:=al (La hv (f:=⟨119,#[],#[.pointer (some ⟨w0.heap.size,0,none⟩)]⟩) (fun vs w=>by kernel_rfl) hS dZ hx _ s (hw.alloc hw.size _) ⟨ff _ _ _ hj Ah,aK _ _⟩)
 obtain ⟨r,hr⟩:∃r,cw p n 0 s=r:=⟨_,rfl⟩
 rw[hr] at HI ⊢
 have o6:=al (show w0.grownBy (w0.alloc (.cells #[f.val] 119)) ob from World.grownBy_alloc _ _ _)
 obtain ⟨a,c,rfl,hn,h2⟩:=hv
 obtain ⟨qA,fs,cp⟩:=f
 unfold Fv.val at HI o6 ⊢
 simp only at HI o6 ⊢
 clear hf dZ hx hw hj h2 hn hr dT Ah hS ff l7
 go_enter Tryz.func73,Tryz.ntmps73
 go_wp2_with fail
 refine (ab HI).mono ?_
 rintro e w1 ⟨rfl,ka,dK⟩
 have HJ:=al (fun s' e=>(ka s' e).1)
 have HG:=al ((ab o6).trans dK)
 clear ka dK HI o6
 go_wp2
 go_ret
 exact ⟨by simp,ab HJ,ab HG⟩
theorem K9 {σ:Type}{W:World}{ob:Option Nat}{J:σ→World→Prop}{f:Fv}{v:Value}{xs:List Value}{n:Nat}{p:Nat→σ→Option σ} (hv:Rl W v n xs) (dT:f.ok) (hf:eQ true W.heap.size W ob J f (lC 2 xs) n p) (dZ:∀k,ob=some k→W.heap.size≤k) (hx:xs.length=n*2) (w0:World) (s:σ) (hw:Below W.heap.size W w0) (hj:J s w0) :
  Calls Tryz.prog 122 #[v,f.val] w0 (fun e w=>e=.returned (.bool (!(cw p n 0 s).isSome))∧(∀s',cw p n 0 s=some s'→J s' w)∧w0.grownBy w ob):=by
 have HI:=al (Ks hv dT hf dZ hx w0 s hw hj)
 obtain ⟨r,hr⟩:∃r,cw p n 0 s=r:=⟨_,rfl⟩
 rw[hr] at HI ⊢
 obtain ⟨a,c,rfl,hn,h2⟩:=hv
 obtain ⟨qA,fs,cp⟩:=f
 unfold Fv.val at HI ⊢
 simp only at HI ⊢
 clear hf dZ hx hw hj h2 hn hr dT
 go_enter Tryz.func122,Tryz.ntmps122
 go_wp2_with fail
 refine (ab HI).mono ?_
 rintro e w1 ⟨q,rfl,hq,ka,dK⟩
 have HJ:=al ka
 have HG:=al dK
 have HQ:=al hq
 clear ka dK hq HI
 go_wp2
 go_ret
 refine ⟨?_,ab HJ,ab HG⟩
 have:=ab HQ
 simp only[←this]
 rfl
theorem Og {f:Fv}{a0 a1:Value}{g:Nat}{w:World}{R:Ending→World→Prop}{b:Bool} (dT:f.ok) (hg:w.heap[g]?=some (.cells #[f.val] 122 (0,0))) (hc:Calls Tryz.prog f.f (f.fs.push (.agg #[a0,a1])++f.cp) (w.alloc (.cells #[a0,a1] 74)) fun e w'=>e=.returned (.bool b)∧R e w') :
  Calls Tryz.prog 123 #[.agg #[a0,a1],.pointer (some ⟨g,0,none⟩)] w fun e w'=>e=.returned (.bool (!b))∧R (.returned (.bool b)) w':=by
 have c0:(w.alloc (.cells #[a0,a1] 74)).cell? ⟨g,0,none⟩=some f.val:=cell_of_row _ _ _ _ _ _ ((Below.heap_alloc _ _ _ (zA hg).1).trans hg)
 have fg:=aK w (.cells #[a0,a1] 74)
 have b0:(w.alloc (.cells #[a0,a1] 74)).cell? ⟨w.heap.size,0,none⟩=some a0:=cell_of_row _ _ _ _ _ _ fg
 have b1:(w.alloc (.cells #[a0,a1] 74)).cell? ⟨w.heap.size,1,none⟩=some a1:=cell_of_row _ _ _ _ _ _ fg
 clear fg
 obtain ⟨qA,fs,cp⟩:=f
 unfold Fv.val at c0
 unfold Fv.ok at dT
 simp only at hc dT c0
 have HC:=al hc
 clear hc hg
 go_enter Tryz.func123,Tryz.ntmps123
 go_wp2_with fail
 refine (ab HC).mono ?_
 rintro e w1 ⟨rfl,hr⟩
 have HR:=al hr
 clear hr HC
 go_wp2
 go_ret
 exact ⟨rfl,ab HR⟩
theorem IK {σ:Type}{W:World}{ob:Option Nat}{J:σ→World→Prop}{f:Fv}{v:Value}{xs:List Value}{n:Nat}{p:Nat→σ→Option σ} (hv:Rl W v n xs) (dT:f.ok) (hf:eQ false W.heap.size W ob J f (lC 2 xs) n p) (dZ:∀k,ob=some k→W.heap.size≤k) (hx:xs.length=n*2) (w0:World) (s:σ) (hw:Below W.heap.size W w0) (hj:J s w0) (ff:Jw J) (l7:∀k,ob=some k→k<w0.heap.size) :
  Calls Tryz.prog 78 #[v,f.val] w0 (jS w0 ob J (cw p n 0 s)):=by
 have Ah:w0.grownBy (w0.alloc (.cells #[f.val] 122)) none:=World.grownBy_alloc _ _ _
 have hS:eQ true W.heap.size W ob (JF J w0.heap.size f.val 122) ⟨123,#[],#[.pointer (some ⟨w0.heap.size,0,none⟩)]⟩ (lC 2 xs) n p:=by
  intro i hi st w hb jU
  obtain ⟨a0,a1,cY,_⟩:=ER hx hi
  have ED:w.grownBy (w.alloc (.cells #[a0,a1] 74)) none:=World.grownBy_alloc _ _ _
  have uS:=hf i hi st (w.alloc (.cells #[a0,a1] 74)) (hb.alloc hb.size _) (ff _ _ _ jU.1 ED)
  rw[cY] at uS ⊢
  refine (Og (R:=fun _ w'=>(∀s',p i st=some s'→J s' w')∧w.grownBy w' ob) dT jU.2 (uS.mono fun _ _ h=>⟨h.1,h.2.1,(World.grownBy_alloc _ _ _).trans h.2.2⟩)).mono ?_
  rintro e w' ⟨rfl,xQ,kH⟩
  refine ⟨by simp,fun s' e=>⟨xQ s' e,?_⟩,kH⟩
  have aM:=(zA jU.2).1
  exact (kH.block _ aM (fun e=>by have:=l7 _ e.symm;omega)).trans jU.2
 have HI:=al (K9 hv (f:=⟨123,#[],#[.pointer (some ⟨w0.heap.size,0,none⟩)]⟩) (fun vs w=>by kernel_rfl) hS dZ hx _ s (hw.alloc hw.size _) ⟨ff _ _ _ hj Ah,aK _ _⟩)
 obtain ⟨r,hr⟩:∃r,cw p n 0 s=r:=⟨_,rfl⟩
 rw[hr] at HI ⊢
 have o6:=al (show w0.grownBy (w0.alloc (.cells #[f.val] 122)) ob from World.grownBy_alloc _ _ _)
 obtain ⟨a,c,rfl,hn,h2⟩:=hv
 obtain ⟨qA,fs,cp⟩:=f
 unfold Fv.val at HI o6 ⊢
 simp only at HI o6 ⊢
 clear hf dZ hx hw hj h2 hn hr dT Ah hS ff l7
 go_enter Tryz.func78,Tryz.ntmps78
 go_wp2_with fail
 refine (ab HI).mono ?_
 rintro e w1 ⟨rfl,ka,dK⟩
 have HJ:=al (fun s' e=>(ka s' e).1)
 have HG:=al ((ab o6).trans dK)
 clear ka dK HI o6
 go_wp2
 go_ret
 exact ⟨by simp,ab HJ,ab HG⟩
end Go.Proofs.YtichhjfjcinjgaaGreatDoor
