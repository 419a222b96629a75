import Derived.Test.YtmlphohdcejniaaGreatDoorVN
import Derived.Shelf.Strconv.Itoa3
import Derived.Lib.LaidTab
import Derived.Lib.AppendIntMem
set_option maxHeartbeats 1000000
set_option maxRecDepth 100000
namespace Go.Proofs
open Go.Shelf
def Tryz.xD:Go.Shelf.Ren:=⟨fun|171=>41|243=>57|246=>85|283=>110|284=>111|285=>112|286=>113|129=>135|317=>134|318=>136|319=>137|320=>138|337=>166|338=>167|n=>n,fun|3=>3|9=>9|2=>2|4=>4|171=>158|0=>0|53=>141|37=>54|5=>5|173=>161|212=>175|51=>176|20=>20|213=>177|46=>173|232=>215|233=>216|n=>n,fun|17=>2|18=>7|19=>8|n=>n⟩
theorem Tryz.Il:Go.Proofs.LaysM.n171 Tryz.prog Tryz.xD:={
 mixed:=by kernel_rfl
 f129:=Tryz.func135.trans (congrArg some (by kernel_rfl))
 f171:=Tryz.func41.trans (congrArg some (by kernel_rfl))
 f243:=Tryz.func57.trans (congrArg some (by kernel_rfl))
 f246:=Tryz.func85.trans (congrArg some (by kernel_rfl))
 f283:=Tryz.func110.trans (congrArg some (by kernel_rfl))
 f284:=Tryz.func111.trans (congrArg some (by kernel_rfl))
 f285:=Tryz.func112.trans (congrArg some (by kernel_rfl))
 f286:=Tryz.func113.trans (congrArg some (by kernel_rfl))
 f317:=Tryz.func134.trans (congrArg some (by kernel_rfl))
 f318:=Tryz.func136.trans (congrArg some (by kernel_rfl))
 f319:=Tryz.func137.trans (congrArg some (by kernel_rfl))
 f320:=Tryz.func138.trans (congrArg some (by kernel_rfl))
 f337:=Tryz.func166.trans (congrArg some (by kernel_rfl))
 f338:=Tryz.func167.trans (congrArg some (by kernel_rfl))
 t0:=Tryz.underlying0
 a0:=Tryz.isAgg0
 z0:=Tryz.sizeOf0
 v0:=Tryz.zeroValue0
 t2:=Tryz.underlying2
 a2:=Tryz.isAgg2
 z2:=Tryz.sizeOf2
 v2:=Tryz.zeroValue2
 t3:=Tryz.underlying3
 a3:=Tryz.isAgg3
 z3:=Tryz.sizeOf3
 v3:=Tryz.zeroValue3
 t4:=Tryz.underlying4
 a4:=Tryz.isAgg4
 z4:=Tryz.sizeOf4
 v4:=Tryz.zeroValue4
 t5:=Tryz.underlying5
 a5:=Tryz.isAgg5
 z5:=Tryz.sizeOf5
 v5:=Tryz.zeroValue5
 t9:=Tryz.underlying9
 a9:=Tryz.isAgg9
 z9:=Tryz.sizeOf9
 v9:=Tryz.zeroValue9
 t20:=Tryz.underlying20
 a20:=Tryz.isAgg20
 z20:=Tryz.sizeOf20
 v20:=Tryz.zeroValue20
 t37:=Tryz.underlying54
 a37:=Tryz.isAgg54
 z37:=Tryz.sizeOf54
 v37:=Tryz.zeroValue54
 t46:=Tryz.underlying173
 a46:=Tryz.isAgg173
 z46:=Tryz.sizeOf173
 v46:=Tryz.zeroValue173
 t51:=Tryz.underlying176
 a51:=Tryz.isAgg176
 z51:=Tryz.sizeOf176
 v51:=Tryz.zeroValue176
 t53:=Tryz.underlying141
 a53:=Tryz.isAgg141
 z53:=Tryz.sizeOf141
 v53:=Tryz.zeroValue141
 t171:=Tryz.underlying158
 a171:=Tryz.isAgg158
 z171:=Tryz.sizeOf158
 v171:=Tryz.zeroValue158
 t173:=Tryz.underlying161
 a173:=Tryz.isAgg161
 z173:=Tryz.sizeOf161
 v173:=Tryz.zeroValue161
 t212:=Tryz.underlying175
 a212:=Tryz.isAgg175
 z212:=Tryz.sizeOf175
 v212:=Tryz.zeroValue175
 t213:=Tryz.underlying177
 a213:=Tryz.isAgg177
 z213:=Tryz.sizeOf177
 t232:=Tryz.underlying215
 a232:=Tryz.isAgg215
 z232:=Tryz.sizeOf215
 v232:=Tryz.zeroValue215
 t233:=Tryz.underlying216
 a233:=Tryz.isAgg216
 z233:=Tryz.sizeOf216
 v233:=Tryz.zeroValue216
 g17:=by kernel_rfl
 g18:=by kernel_rfl
 g19:=by kernel_rfl
 i0:=by kernel_rfl
 i2:=by kernel_rfl
 i3:=by kernel_rfl
 i4:=by kernel_rfl
 i5:=by kernel_rfl
 i9:=by kernel_rfl
 i20:=by kernel_rfl
 i37:=by kernel_rfl
 i46:=by kernel_rfl
 i51:=by kernel_rfl
 i53:=by kernel_rfl
 i171:=by kernel_rfl
 i173:=by kernel_rfl
 i212:=by kernel_rfl
 i232:=by kernel_rfl
 i233:=by kernel_rfl
 m17:=by kernel_rfl
 m18:=by kernel_rfl
 m19:=by kernel_rfl }
end Go.Proofs
namespace Go.Proofs.YtmlphohdcejniaaGreatDoor
open Go.RowKit
def Lp {σ:Type} (L:Nat→fU σ) (st:fU σ) (stop:Wd→Bool):Prop:=∀n x s w l b d o e,St s (w::l) b d o e→stop w=false→L (n+1) x s=match st x s with
 |.error e=>.error e
 |.ok (x',s')=>L n x' s'
def eH {σ:Type} (L:Nat→fU σ) (K:Nat) (ws:List Wd) (c:Nat) (x x':σ):Prop:=∀s l d o e n,St s (ws++l) false d o e→d≤4096→o+K≤32→s.ts.length<n →
 (4096<d+c∧∃p,L n x s=.error (54,p))∨(d+c≤4096∧∃s' n',L n x s=L n' x' s'∧St s' l false (d+c) o e∧s'.ts.length<n')
theorem eH.nil {σ:Type}{L:Nat→fU σ}{K:Nat} (x:σ):eH L K [] 0 x x:=fun s _ _ _ _ n h hd _ hn=>.inr ⟨hd,s,n,rfl,h,hn⟩
theorem eH.trans {σ:Type}{L:Nat→fU σ}{K:Nat}{u v:List Wd}{c k:Nat}{x y z:σ} (h1:eH L K u c x y) (h2:eH L K v k y z):eH L K (u++v) (c+k) x z:=fun s l d o e n h hd ho hn=>by
 rw[List.append_assoc] at h
 rcases h1 s (v++l) d o e n h hd ho hn with ⟨q1,p,q2⟩|⟨q1,s1,n1,q2,g1,g2⟩
 ·exact .inl ⟨by omega,p,q2⟩
 ·rcases h2 s1 l (d+c) o e n1 g1 q1 ho g2 with ⟨r1,p,r2⟩|⟨r1,s2,n2,r2,g3,g4⟩
  ·exact .inl ⟨by omega,p,q2.trans r2⟩
  ·exact .inr ⟨by omega,s2,n2,q2.trans r2,by rw[←Nat.add_assoc];exact g3,g4⟩
theorem df {σ:Type}{L:Nat→fU σ}{st:fU σ}{stop:Wd→Bool}{K c:Nat}{w:Wd}{ws:List Wd}{x x':σ} (hL:Lp L st stop) (hw:stop w=false) (h:∀s l d o e,St s (w::ws++l) false d o e→d≤4096→o+K≤32→qf (st x s) x' l false (d+c) o e):eH L K (w::ws) c x x':=fun s l d o e n hs hd ho hn=>by
 obtain ⟨n,rfl⟩:∃m,n=m+1:=⟨n-1,by omega⟩
 have h1:=hL n x s w (ws++l) false d o e hs hw
 have hl:=hs.len
 rcases h s l d o e hs hd ho with ⟨q1,p,q2⟩|⟨q1,s1,q2,q3⟩<;>rw[q2] at h1
 ·exact .inl ⟨q1,p,h1⟩
 ·have yD:=q3.len
  simp only[List.cons_append,List.length_cons,zK] at hl
  exact .inr ⟨q1,s1,n,h1,q3,by omega⟩
theorem eH.cast {σ:Type}{L:Nat→fU σ}{K:Nat}{u v:List Wd}{c k:Nat}{x y:σ} (h:eH L K u c x y) (hu:u=v) (hc:c=k):eH L K v k x y:=by rw[←hu,←hc];exact h
def Fk (w:Wd):Bool:=w.1==4&&(w.2.toList==ByteArray.toList ⟨#[125]⟩)
def Kb (w:Wd):Bool:=w.1==5
theorem eK {σ:Type} (st:fU σ):Lp (fJ st) st Fk:=fun n x s w l b d o e h hw=>by
 have hp:¬dD s.here 4 ⟨#[125]⟩=true:=by
  unfold dD
  rw[h.here.1,h.here.2.1]
  unfold Fk at hw
  rw[hw]
  decide
 rw[fJ,if_neg hp]
 cases st x s with
 |error y=>rfl
 |ok y=>rfl
theorem pq (st:fU Fl):Lp (kb st) st Kb:=fun n x s w l b d o e h hw=>by
 have hp:¬s.here.kind=5:=by
  rw[h.here.1]
  unfold Kb at hw
  simpa using hw
 rw[kb,if_neg hp]
 cases st x s with
 |error y=>rfl
 |ok y=>rfl
theorem MR {σ:Type}{st:fU σ}{x:σ}{s:aI}{l:List Wd}{b:Bool}{d o:Nat}{e:Tk}{n:Nat} (h:St s (sg 125::l) b d o e) (hn:s.ts.length<n):fJ st n x s=.ok (x,s):=by
 obtain ⟨n,rfl⟩:∃m,n=m+1:=⟨n-1,by omega⟩
 rw[fJ,if_pos (La h)]
theorem wV {σ:Type}{st:fU σ}{K:Nat}{x x':σ}{ws l:List Wd}{s:aI}{c d o:Nat}{e:Tk} (hE:eH (fJ st) K ws c x x') (h:St s (sg 123::(ws++sg 125::l)) false d o e) (hd:d≤4096) (ho:o+K≤32):qf (ie st x s) x' (sg 125::l) false (d+c) o e:=by
 unfold ie
 rcases eS h hd with ⟨q1,p,q2⟩|⟨q1,s1,q2,h1⟩<;>rw[q2]<;>rw[cI] at q1
 ·exact .inl ⟨by omega,p,rfl⟩
 simp only
 rw[cI] at h1
 rcases hE s1 _ d o e (s1.ts.length+1) h1 hd ho (by omega) with ⟨r1,p,r2⟩|⟨r1,s2,n2,r2,h2,h3⟩<;>rw[r2]
 ·exact .inl ⟨r1,p,rfl⟩
 ·rw[MR h2 h3]
  exact .inr ⟨r1,s2,rfl,h2⟩
theorem tP {σ:Type}{F:ByteArray→Option (fU σ)}{O:fU σ} (x:σ) {s:aI}{l:List Wd}{d o:Nat}{e:Tk} (h:St s (sg 59::l) false d o e) (hd:d≤4096):qf (cj F O x s) x l false (d+0) o e:=by
 unfold cj
 rcases iA h hd with ⟨q1,p,q2⟩|⟨q1,s1,q2,h1⟩<;>rw[q2]
 ·exact .inl ⟨q1,p,rfl⟩
 ·exact .inr ⟨q1,s1,rfl,h1⟩
theorem fL {σ:Type}{F:ByteArray→Option (fU σ)}{O f:fU σ} (x:σ) {s:aI}{k:ByteArray}{l:List Wd}{b:Bool}{d o:Nat}{e:Tk} (h:St s ((1,k)::l) b d o e) (hf:F k=some f):cj F O x s=f x s:=by
 unfold cj
 rw[kv (jC h (show (1:Int)≠4 by decide))]
 simp only
 rw[h.here.2.1]
 simp only
 rw[hf]
 simp only
 rw[if_pos h.here.1]
theorem vz {σ:Type}{F:ByteArray→Option (fU σ)}{O:fU σ} (x:σ) {s:aI}{w:Wd}{l:List Wd}{b:Bool}{d o:Nat}{e:Tk} (h:St s (w::l) b d o e) (hw:w.1≠4∨(w.2.toList==ByteArray.toList ⟨#[59]⟩)=false) (hf:F w.2=none):cj F O x s=O x s:=by
 unfold cj
 rw[kv (hw.elim (fun q=>jC h q) (fun q=>py h q))]
 simp only
 rw[h.here.2.1,hf]
def mv:Wd:=(1,⟨#[114,101,115,101,114,118,101,100]⟩)
theorem Cv {x:ByteArray}{s:aI}{l:List Wd}{b:Bool}{d o:Nat}{e:Tk} (h:St s ((3,lit 39 x)::l) b d o e) (hx:aU x) (hd:d≤4096):qf (mj s) x l false (d+1) o e:=by
 unfold mj
 exact vJ h.begun (zk 39 x (.inl rfl) hx) (vD hx) hd
noncomputable def mU:List ByteArray→List Wd
 |[]=>[]
 |x::r=>sg 44::(3,lit 39 x)::mU r
theorem yG:∀(gs:List ByteArray) (n:Nat) (acc:List ByteArray) (s:aI) (l:List Wd) (d o:Nat) (e:Tk),St s (mU gs++sg 59::l) false d o e→(∀x ∈ gs,aU x)→d≤4096→s.ts.length<n→qf (gT mj n acc s) (acc++gs) (sg 59::l) false (d+gs.length) o e
 |_,0,_,_,_,_,_,_,_,_,_,hn=>by omega
 |[],n+1,acc,s,l,d,o,e,h,_,hd,_=>by
  rw[gT,kv (py h (show (ByteArray.toList ⟨#[59]⟩==ByteArray.toList ⟨#[44]⟩)=false by decide +kernel))]
  exact .inr ⟨hd,s,by rw[List.append_nil],h⟩
 |x::r,n+1,acc,s,l,d,o,e,h,hx,hd,hn=>by
  rw[gT]
  have h0:St s ((4,⟨#[44]⟩)::((3,lit 39 x)::(mU r++sg 59::l))) false d o e:=h
  rcases iA h0 hd with ⟨q1,p,q2⟩|⟨q1,s1,q2,h1⟩<;>rw[q2]<;>rw[cI] at q1
  ·omega
  simp only
  rw[cI] at h1
  rcases Cv h1 (hx x List.mem_cons_self) hd with ⟨r1,p,r2⟩|⟨r1,s2,r2,h2⟩<;>rw[r2]<;>rw[List.length_cons]
  ·exact .inl ⟨by omega,p,rfl⟩
  simp only
  have Ee:=h0.len
  have yD:=h2.len
  simp only[List.length_cons] at Ee
  have:=yG r n (acc++[x]) s2 l (d+1) o e h2 (fun y hy=>hx y (zF _ hy)) r1 (by omega)
  rw[List.append_assoc,List.singleton_append] at this
  rw[show d+(r.length+1)=d+1+r.length by omega]
  exact this
noncomputable def ry:List ByteArray→List Wd
 |[]=>[]
 |x::r=>mv::(3,lit 39 x)::(mU r++[sg 59])
noncomputable def BC (a c:Int):List Wd:=mv::(vd a c++[sg 59])
theorem Fx {lo hi a c:Int}{mi:Bool}{rs:List (Int×Int)}{gs:List ByteArray}{s:aI}{l:List Wd}{d o:Nat}{e:Tk} (h:St s (BC a c++l) false d o e) (ha:lo≤a∧a≤c∧c≤hi) (hl:-2147483648≤lo∧hi≤2147483647) (hm:mi=true∨0≤lo) (hd:d≤4096):qf (ki lo hi mi rs gs s) (rs++[(a,c)],gs) l false (d+1) o e:=by
 unfold ki
 have h0:St s (mv::(vd a c++sg 59::l)) false d o e:=by
  have:BC a c++l=mv::(vd a c++sg 59::l):=by simp[BC]
  rw[←this];exact h
 rcases ej h0 hd with ⟨q1,p,q2⟩|⟨q1,s1,q2,h1⟩<;>rw[q2]<;>rw[cI] at q1
 ·omega
 simp only
 rw[cI] at h1
 obtain ⟨w,r,hw,_,ND,_⟩:=BS a
 have h2:=h1
 unfold vd at h2
 rw[hw] at h2
 rw[if_neg (by rw[h2.here.1];exact ND)]
 unfold iJ
 rcases Ou (mi:=mi) h1 ha hl hm hd with ⟨r1,p,r2⟩|⟨r1,s2,r2,h3⟩<;>rw[r2]
 ·exact .inl ⟨r1,p,rfl⟩
 simp only
 rw[gT,kv (py h3 (show (ByteArray.toList ⟨#[59]⟩==ByteArray.toList ⟨#[44]⟩)=false by decide +kernel))]
 simp only
 rcases eS h3 r1 with ⟨t1,p,t2⟩|⟨t1,s3,t2,h4⟩<;>rw[t2]
 ·exact .inl ⟨t1,p,rfl⟩
 ·exact .inr ⟨t1,s3,rfl,h4⟩
theorem BE {lo hi:Int}{mi:Bool}{x:ByteArray}{r:List ByteArray}{rs:List (Int×Int)}{gs:List ByteArray}{s:aI}{l:List Wd}{d o:Nat}{e:Tk} (h:St s (ry (x::r)++l) false d o e) (hx:∀y ∈ x::r,aU y) (hd:d≤4096):qf (ki lo hi mi rs gs s) (rs,gs++(x::r)) l false (d+(r.length+1)) o e:=by
 unfold ki
 have h0:St s (mv::(3,lit 39 x)::(mU r++sg 59::l)) false d o e:=by
  have:ry (x::r)++l=mv::(3,lit 39 x)::(mU r++sg 59::l):=by simp[ry]
  rw[←this];exact h
 rcases ej h0 hd with ⟨q1,p,q2⟩|⟨q1,s1,q2,h1⟩<;>rw[q2]<;>rw[cI] at q1
 ·omega
 simp only
 rw[cI] at h1
 rw[if_pos h1.here.1]
 unfold iJ
 rcases Cv h1 (hx x List.mem_cons_self) hd with ⟨r1,p,r2⟩|⟨r1,s2,r2,h2⟩<;>rw[r2]
 ·exact .inl ⟨by omega,p,rfl⟩
 simp only
 rcases yG r (s2.ts.length+1) (gs++[x]) s2 l (d+1) o e h2 (fun y hy=>hx y (zF _ hy)) r1 (by omega) with ⟨t1,p,t2⟩|⟨t1,s3,t2,h3⟩<;>rw[t2]
 ·exact .inl ⟨by omega,p,rfl⟩
 simp only
 rw[List.append_assoc,List.singleton_append]
 rcases eS h3 t1 with ⟨u1,p,u2⟩|⟨u1,s4,u2,h4⟩<;>rw[u2]
 ·exact .inl ⟨by rw[cI] at u1;omega,p,rfl⟩
 ·rw[cI] at h4
  exact .inr ⟨by omega,s4,rfl,by rw[show d+(r.length+1)=d+1+r.length by omega];exact h4⟩
noncomputable abbrev PD:=fJ (cj Dk NR)
theorem Ty {x:En}{K:Nat}{a c:Int} (ha:-2147483648≤a∧a≤c∧c≤2147483647):eH PD K (BC a c) 1 x { x with res:=x.res++[(a,c)] } :=
 df (eK _) (by decide +kernel) fun s l d o e h hd _=>by
  rw[fL (f:=Tz) x h (by unfold Dk;rw[if_pos (by decide +kernel)])]
  unfold Tz
  rcases Fx (rs:=x.res) (gs:=x.gone) (mi:=true) h ha (by omega) (.inl rfl) hd with ⟨q1,p,q2⟩|⟨q1,s1,q2,h1⟩<;>rw[q2]
  ·exact .inl ⟨q1,p,rfl⟩
  ·exact .inr ⟨q1,s1,rfl,h1⟩
theorem Py {x:En}{K:Nat}{gs:List ByteArray} (eo:gs≠[]) (hx:∀y ∈ gs,aU y):eH PD K (ry gs) gs.length x { x with gone:=x.gone++gs }:=by
 cases gs with
 |nil=>exact absurd rfl eo
 |cons y r =>
  refine df (eK _) (by decide +kernel) fun s l d o e h hd _=>?_
  rw[fL (f:=Tz) x h (by unfold Dk;rw[if_pos (by decide +kernel)])]
  unfold Tz
  rcases BE (rs:=x.res) (gs:=x.gone) (lo:=-2147483648) (hi:=2147483647) (mi:=true) h hx hd with ⟨q1,p,q2⟩|⟨q1,s1,q2,h1⟩<;>rw[q2]
  ·exact .inl ⟨q1,p,rfl⟩
  ·exact .inr ⟨q1,s1,rfl,h1⟩
def rG (x:ByteArray):Prop:=aU x∧Dk x=none
theorem Tw {x:En}{K:Nat}{y:ByteArray}{n:Int} (hy:rG y) (hn:-2147483648≤n∧n≤2147483647):eH PD K (lP y n) 1 x { x with bJ:=x.bJ++[(y,n)] } :=
 df (eK _) (by rfl) fun s l d o e h hd _=>by
  rw[vz x h (.inl (show (1:Int)≠4 by decide)) hy.2]
  unfold NR
  rcases Gz (l:=l) h hy.1 hn hd with ⟨q1,p,q2⟩|⟨q1,s1,q2,h1⟩<;>rw[q2]
  ·exact .inl ⟨q1,p,rfl⟩
  ·exact .inr ⟨q1,s1,rfl,h1⟩
theorem F' (x:En) (K:Nat):eH PD K [sg 59] 0 x x:=df (eK _) (by decide +kernel) fun s l d o e h hd _=>tP x h hd
def Vd (x:En) (ws:List Wd) (c:Nat):Prop:=(∃r,ws=(1,⟨#[101,110,117,109]⟩)::r)∧∀s l d o e,St s (ws++l) false d o e→d≤4096→o≤32→qf (iQ s) x l false (d+c) o e
theorem Pz {x:En}{ws:List Wd}{c:Nat} (hE:eH PD 0 ws c ⟨x.name,[],[],[]⟩ x) (hx:aU x.name) (hv:x.bJ≠[]):Vd x ((1,⟨#[101,110,117,109]⟩)::(1,x.name)::sg 123::(ws++[sg 125])) (1+c):=by
 refine ⟨⟨_,rfl⟩,fun s l d o e h hd ho=>?_⟩
 have h0:St s ((1,⟨#[101,110,117,109]⟩)::(1,x.name)::sg 123::(ws++sg 125::l)) false d o e:=by
  have:(1,⟨#[101,110,117,109]⟩)::(1,x.name)::sg 123::(ws++[sg 125])++l=(1,⟨#[101,110,117,109]⟩)::(1,x.name)::sg 123::(ws++sg 125::l):=by simp
  rw[←this];exact h
 unfold iQ
 rcases ej h0.begun hd with ⟨q1,p,q2⟩|⟨q1,s1,q2,h1⟩<;>rw[q2]<;>rw[wU] at q1
 ·exact .inl ⟨by omega,p,rfl⟩
 simp only
 rw[wU] at h1
 rcases j4 h1 hx q1 with ⟨r1,p,r2⟩|⟨r1,s2,r2,h2⟩<;>rw[r2]<;>rw[cI] at r1
 ·omega
 simp only
 rw[cI] at h2
 rcases wV hE h2 q1 ho with ⟨t1,p,t2⟩|⟨t1,s3,t2,h3⟩<;>rw[t2]
 ·exact .inl ⟨by omega,p,rfl⟩
 simp only
 rw[if_neg (fun q=>hv (List.eq_nil_of_length_eq_zero q))]
 rcases ej h3 t1 with ⟨u1,p,u2⟩|⟨u1,s4,u2,h4⟩<;>rw[u2]<;>rw[cI] at u1
 ·omega
 ·rw[cI] at h4
  exact .inr ⟨by omega,s4,rfl,by rw[show d+(1+c)=d+1+c by omega];exact h4⟩
end Go.Proofs.YtmlphohdcejniaaGreatDoor
namespace Go.Proofs.YtmlphohdcejniaaGreatDoor
open Go.RowKit Go.Shelf
attribute [local go_sem ↓] Go.wp_at_zero Go.wp_at_succ
def Wr (b:Nat) (r:Option Nat) (vs:Value) (ps:List (Wd×List Nat)) (D:Nat) (W:World) (K:Nat) (P:List Wd→Nat→Prop) (e:Ending) (w:World):Prop :=
 e=.returned (.tuple #[])∧∃r' p8 c,P (p8.map Prod.fst) c∧p8.length≤K∧l7 b r' vs (ps++p8) (D+c) w∧KW b r W w r'
theorem jx {W:World}{b:Nat}{r:Option Nat}{vs:Value}{ps:List (Wd×List Nat)}{D:Nat} (h:l7 b r vs ps D W) (ws:List Wd) (hw:∀w ∈ ws,Jq w) (hl:ws.length≤3) (hn:ps.length≤1099511627776) (cs:Array Value) (cn:cs=(bS (ws.map Prod.snd)).toArray) (n:Nat) (j8:n=ws.length) :
  Calls Tryz.prog 18 #[.pointer (some ⟨b,0,none⟩),.slice (some ⟨W.heap.size,0,none⟩) n n] (W.alloc (.cells cs 9)) (Wr b r vs ps D W 3 fun t c=>t=ws∧c=0):=by
 subst cn j8
 have hb:Below W.heap.size W (W.alloc (.cells (bS (ws.map Prod.snd)).toArray 9)):=(zE _ _).alloc (zD _) _
 refine (A' (h.up hb) ws hw (by omega) hn (aC _ _) ⟨by have:=h.lt;omega,fun e=>by have:=(h.row _ e).2;omega⟩).mono ?_
 rintro e w ⟨rfl,r',p8,h1,h2,h3⟩
 refine ⟨rfl,r',p8,0,⟨h1,rfl⟩,?_,h2,(KW.dM hb).trans h3⟩
 have:=congrArg List.length h1
 rw[List.length_map] at this
 omega
theorem fD (c:UInt8) (h:iK c.toNat):Jq (sg c):=.inr (.inr (.inr ⟨rfl,c,rfl,h⟩))
theorem Gv {W:World}{b:Nat}{r:Option Nat}{vs:Value}{ps:List (Wd×List Nat)}{D:Nat} (h:l7 b r vs ps D W) (hn:ps.length≤1099511627770) :
  Calls Tryz.prog 21 #[.pointer (some ⟨b,0,none⟩)] W (Wr b r vs ps D W 6 fun t c=>(t=[sg 59]∨t=[sg 59,sg 59])∧c=0):=by
 have HP:=aj (jx h [sg 59] (fun w hw=>by rw[List.mem_singleton.1 hw];exact fD 59 (by decide)) (by decide) (by omega) #[.string ⟨#[59]⟩] rfl 1 rfl)
 have Hn:=aj hn
 clear hn h
 go_enter Tryz.func21,Tryz.ntmps21
 go_wp2_with fail
 refine (aa HP).mono ?_
 rintro e w1 ⟨rfl,r1,p1,c1,⟨ht,rfl⟩,Ee,SH,qC⟩
 have HI:=aj SH
 have HK:=aj qC
 have HT:=aj ht
 have Hl1:=aj Ee
 obtain ⟨N,hN⟩:∃N,(ps++p1).length=N:=⟨_,rfl⟩
 have fX:w1.cell? ⟨b,2,none⟩=some (.int .i64 (N:Int)):=by
  obtain ⟨v0,_,k0,_⟩:=SH.dt
  rw[hN] at k0
  exact cell_of_row _ _ _ _ _ _ k0
 have HN:=aj hN
 obtain ⟨m,hm⟩:∃m,N % 5=m:=⟨_,rfl⟩
 have aaE:(N:Int).tmod 5=(m:Int):=by rw[←hm];rfl
 clear HP SH qC ht hN Ee hm
 by_cases h1:m=1
 ·subst h1
  have E5:=aj (jx (aa HI) [sg 59] (fun w hw=>by rw[List.mem_singleton.1 hw];exact fD 59 (by decide)) (by decide) (by rw[zK];have:=aa Hn;have:=aa Hl1;omega) #[.string ⟨#[59]⟩] rfl 1 rfl)
  go_wp2_with fail
  refine (aa E5).mono ?_
  rintro e w2 ⟨rfl,r2,p2,c2,⟨vX,rfl⟩,yD,pC,gO⟩
  have nJ:=aj pC
  have T1:=aj ((aa HK).trans gO)
  clear pC gO E5
  go_wp2
  go_end0
  refine ⟨rfl,r2,p1++p2,0,⟨.inr ?_,rfl⟩,by rw[zK];have:=aa Hl1;omega,?_,aa T1⟩
  ·rw[List.map_append,aa HT,vX]
   rfl
  ·rw[←List.append_assoc]
   exact aa nJ
 ·have e1:((m:Int)==1)=false:=by simp;omega
  go_wp2
  go_end0
  exact ⟨rfl,r1,p1,0,⟨.inl (aa HT),rfl⟩,by have:=aa Hl1;omega,aa HI,aa HK⟩
def nI (W:World):Prop:=Lib.TabIs Tryz.prog W "internal/strconv.uint64pow10" .u64 Lib.pow10Tab
theorem nI.up {W w:World} (h:nI W) (hb:Below W.heap.size W w):nI w:=by
 unfold nI Lib.TabIs World.var? at h ⊢
 obtain ⟨g,hg,hm⟩:=Option.bind_eq_some_iff.1 h
 rw[hg]
 show (match w.heap[g]? with
  |some (.cells cs _ _)=>some cs
  |_=>none)=_
 have cc:g<W.heap.size:=by
  rcases Nat.lt_or_ge g W.heap.size with q|q
  ·exact q
  ·rw[Array.getElem?_eq_none q] at hm
   cases hm
 rw[hb.block g cc]
 exact hm
theorem lj {W:World} (h:nI W) (u:Nat) (hu:u≤2147483648):Calls Tryz.prog 41 #[.int .i64 (u:Int)] W fun e w'=>e=.returned (.string (dec u))∧Below W.heap.size W w':=by
 refine (Any.strconv_Itoa Tryz.Il (u:Int) (by omega) (by omega) W h).mono ?_
 rintro e w' ⟨rfl,k,os,rfl⟩
 refine ⟨?_,Lib.below_grow _ W (zD _) k os⟩
 unfold dec Lib.itoa
 rw[if_neg (by omega),Int.toNat_natCast]
theorem qP {u:Nat} (hu:u≤2147483648):Jq (2,dec u):=.inr (.inl ⟨rfl,u,hu,rfl⟩)
theorem Bb {W:World}{b:Nat}{r:Option Nat}{vs:Value}{ps:List (Wd×List Nat)}{D:Nat} (h:l7 b r vs ps D W) (hP:nI W) (hn:ps.length≤1099511627770) {n:Int} (h1:-2147483648≤n) (h2:n≤2147483647) :
  Calls Tryz.prog 43 #[.pointer (some ⟨b,0,none⟩),.int .i64 n] W (Wr b r vs ps D W 3 fun t c=>t=eD n∧c=0):=by
 have HI:=aj h
 have Hn:=aj hn
 by_cases Lt:n<0
 ·obtain ⟨u,hu⟩:∃u:Nat,n.natAbs=u:=⟨_,rfl⟩
  have hnu:0-n=(u:Int):=by omega
  have HD:=aj (lj hP u (by omega))
  have HU:=aj (show u≤2147483648 by omega)
  have hub:u≤2147483648:=by omega
  have u0:(0:Int)≤(u:Int):=zH _
  have e1:decide (n<0)=true:=by simp;omega
  have Ht:Hid (eD n=[sg 45,(2,dec u)]):=by
   show eD n=_
   unfold eD
   rw[if_pos Lt,hu]
  clear h hP hn hu Lt h1 h2
  go_enter Tryz.func43,Tryz.ntmps43
  go_wp2_with fail
  refine (aa HD).mono ?_
  rintro e w1 ⟨rfl,bC⟩
  have pV:=aj ((aa HI).up bC)
  have U9:Hid (KW b r W w1 r):=.dM bC
  clear HD bC
  go_wp2_with fail
  refine (jx (aa pV) [sg 45,(2,dec u)] (fun w hw=>by
   rcases List.mem_cons.1 hw with rfl|hw
   ·exact fD 45 (by decide)
   ·rw[List.mem_singleton.1 hw];exact qP (aa HU)) (by simp) (by have:=aa Hn;omega) #[.string ⟨#[45]⟩,.string (dec u)] rfl 2 rfl).mono ?_
  rintro e w2 ⟨rfl,r2,p2,c2,⟨vX,rfl⟩,yD,pC,gO⟩
  have nJ:=aj pC
  have T1:=aj ((aa U9).trans gO)
  clear pC gO
  go_wp2
  go_end0
  exact ⟨rfl,r2,p2,0,⟨vX.trans (aa Ht).symm,rfl⟩,yD,aa nJ,aa T1⟩
 ·obtain ⟨u,rfl⟩:∃u:Nat,n=(u:Int):=⟨n.toNat,by omega⟩
  have HD:=aj (lj hP u (by omega))
  have HU:=aj (show u≤2147483648 by omega)
  have Ht:Hid (eD (u:Int)=[(2,dec u)]):=by
   show eD (u:Int)=_
   unfold eD
   rw[if_neg Lt]
   rfl
  have u0:(0:Int)≤(u:Int):=zH _
  clear h hP hn Lt h1 h2
  go_enter Tryz.func43,Tryz.ntmps43
  go_wp2_with fail
  refine (aa HD).mono ?_
  rintro e w1 ⟨rfl,bC⟩
  have pV:=aj ((aa HI).up bC)
  have U9:Hid (KW b r W w1 r):=.dM bC
  clear HD bC
  go_wp2_with fail
  refine (jx (aa pV) [(2,dec u)] (fun w hw=>by
   rw[List.mem_singleton.1 hw];exact qP (aa HU)) (by simp) (by have:=aa Hn;omega) #[.string (dec u)] rfl 1 rfl).mono ?_
  rintro e w2 ⟨rfl,r2,p2,c2,⟨vX,rfl⟩,yD,pC,gO⟩
  have nJ:=aj pC
  have T1:=aj ((aa U9).trans gO)
  clear pC gO
  go_wp2
  go_end0
  exact ⟨rfl,r2,p2,0,⟨vX.trans (aa Ht).symm,rfl⟩,yD,aa nJ,aa T1⟩
end Go.Proofs.YtmlphohdcejniaaGreatDoor
