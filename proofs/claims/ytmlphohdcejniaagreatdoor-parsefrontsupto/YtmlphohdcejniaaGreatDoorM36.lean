import Derived.Test.YtmlphohdcejniaaGreatDoorM32
import Derived.Shelf.Strconv.Itoa3
namespace Go.Proofs
open Go.Shelf
def Tryz.yX:Go.Shelf.Ren:=⟨fun|171=>41|243=>57|246=>85|283=>110|284=>111|285=>112|286=>113|129=>135|317=>134|318=>136|319=>137|320=>138|337=>166|338=>167|n=>n,fun|3=>3|9=>9|2=>2|4=>4|171=>158|0=>0|53=>141|37=>54|5=>5|173=>161|212=>175|51=>176|20=>20|213=>177|46=>173|232=>215|233=>216|n=>n,fun|17=>2|18=>7|19=>8|n=>n⟩
theorem Tryz.JP:Go.Proofs.LaysM.n171 Tryz.prog Tryz.yX:={
 mixed:=by kernel_rfl
 f129:=Tryz.func135.trans (congrArg some (by kernel_rfl))
 f171:=Tryz.func41.trans (congrArg some (by kernel_rfl))
 f243:=Tryz.func57.trans (congrArg some (by kernel_rfl))
 f246:=Tryz.func85.trans (congrArg some (by kernel_rfl))
 f283:=Tryz.func110.trans (congrArg some (by kernel_rfl))
 f284:=Tryz.func111.trans (congrArg some (by kernel_rfl))
 f285:=Tryz.func112.trans (congrArg some (by kernel_rfl))
 f286:=Tryz.func113.trans (congrArg some (by kernel_rfl))
 f317:=Tryz.func134.trans (congrArg some (by kernel_rfl))
 f318:=Tryz.func136.trans (congrArg some (by kernel_rfl))
 f319:=Tryz.func137.trans (congrArg some (by kernel_rfl))
 f320:=Tryz.func138.trans (congrArg some (by kernel_rfl))
 f337:=Tryz.func166.trans (congrArg some (by kernel_rfl))
 f338:=Tryz.func167.trans (congrArg some (by kernel_rfl))
 t0:=Tryz.underlying0
 a0:=Tryz.isAgg0
 z0:=Tryz.sizeOf0
 v0:=Tryz.zeroValue0
 t2:=Tryz.underlying2
 a2:=Tryz.isAgg2
 z2:=Tryz.sizeOf2
 v2:=Tryz.zeroValue2
 t3:=Tryz.underlying3
 a3:=Tryz.isAgg3
 z3:=Tryz.sizeOf3
 v3:=Tryz.zeroValue3
 t4:=Tryz.underlying4
 a4:=Tryz.isAgg4
 z4:=Tryz.sizeOf4
 v4:=Tryz.zeroValue4
 t5:=Tryz.underlying5
 a5:=Tryz.isAgg5
 z5:=Tryz.sizeOf5
 v5:=Tryz.zeroValue5
 t9:=Tryz.underlying9
 a9:=Tryz.isAgg9
 z9:=Tryz.sizeOf9
 v9:=Tryz.zeroValue9
 t20:=Tryz.underlying20
 a20:=Tryz.isAgg20
 z20:=Tryz.sizeOf20
 v20:=Tryz.zeroValue20
 t37:=Tryz.underlying54
 a37:=Tryz.isAgg54
 z37:=Tryz.sizeOf54
 v37:=Tryz.zeroValue54
 t46:=Tryz.underlying173
 a46:=Tryz.isAgg173
 z46:=Tryz.sizeOf173
 v46:=Tryz.zeroValue173
 t51:=Tryz.underlying176
 a51:=Tryz.isAgg176
 z51:=Tryz.sizeOf176
 v51:=Tryz.zeroValue176
 t53:=Tryz.underlying141
 a53:=Tryz.isAgg141
 z53:=Tryz.sizeOf141
 v53:=Tryz.zeroValue141
 t171:=Tryz.underlying158
 a171:=Tryz.isAgg158
 z171:=Tryz.sizeOf158
 v171:=Tryz.zeroValue158
 t173:=Tryz.underlying161
 a173:=Tryz.isAgg161
 z173:=Tryz.sizeOf161
 v173:=Tryz.zeroValue161
 t212:=Tryz.underlying175
 a212:=Tryz.isAgg175
 z212:=Tryz.sizeOf175
 v212:=Tryz.zeroValue175
 t213:=Tryz.underlying177
 a213:=Tryz.isAgg177
 z213:=Tryz.sizeOf177
 t232:=Tryz.underlying215
 a232:=Tryz.isAgg215
 z232:=Tryz.sizeOf215
 v232:=Tryz.zeroValue215
 t233:=Tryz.underlying216
 a233:=Tryz.isAgg216
 z233:=Tryz.sizeOf216
 v233:=Tryz.zeroValue216
 g17:=by kernel_rfl
 g18:=by kernel_rfl
 g19:=by kernel_rfl
 i0:=by kernel_rfl
 i2:=by kernel_rfl
 i3:=by kernel_rfl
 i4:=by kernel_rfl
 i5:=by kernel_rfl
 i9:=by kernel_rfl
 i20:=by kernel_rfl
 i37:=by kernel_rfl
 i46:=by kernel_rfl
 i51:=by kernel_rfl
 i53:=by kernel_rfl
 i171:=by kernel_rfl
 i173:=by kernel_rfl
 i212:=by kernel_rfl
 i232:=by kernel_rfl
 i233:=by kernel_rfl
 m17:=by kernel_rfl
 m18:=by kernel_rfl
 m19:=by kernel_rfl }
end Go.Proofs
namespace Go.Proofs.YtmlphohdcejniaaGreatDoor
open Go.RowKit
def mw (u w:List Wd):Prop:=∃x r,w=u++x::r
def Cs (u w:List Wd):Prop:=∃r,w=u++r
theorem mw.cons {u w:List Wd}{a:Wd} (h:mw u (a::w)):u=[]∨∃u',u=a::u'∧mw u' w:=by
 obtain ⟨x,r,e⟩:=h
 cases u with
 |nil=>exact .inl rfl
 |cons b u =>
  have h1:=(List.cons.inj e).1
  have h2:=(List.cons.inj e).2
  exact .inr ⟨u,by rw[h1],x,r,h2⟩
theorem mw.nil {u:List Wd} (h:mw u []):False:=by
 obtain ⟨x,r,e⟩:=h
 cases u<;>cases e
theorem mw.app {u v w:List Wd} (h:mw u (v++w)):Cs u v∨∃u',u=v++u'∧u'≠[]∧mw u' w:=by
 induction v generalizing u with
 |nil =>
  cases u with
  |nil=>exact .inl ⟨[],rfl⟩
  |cons b u=>exact .inr ⟨b::u,rfl,by simp,h⟩
 |cons a v ih =>
  rcases mw.cons h with rfl|⟨u',rfl,h'⟩
  ·exact .inl ⟨_,rfl⟩
  ·rcases ih h' with ⟨r,hr⟩|⟨u2,rfl,h1,h2⟩
   ·exact .inl ⟨r,by rw[hr];rfl⟩
   ·exact .inr ⟨u2,rfl,h1,h2⟩
theorem mw.VK {u v w:List Wd} (h:mw u (v++w)):mw u v∨∃u',u=v++u'∧mw u' w:=by
 induction v generalizing u with
 |nil=>exact .inr ⟨u,rfl,h⟩
 |cons a v ih =>
  rcases mw.cons h with rfl|⟨u',rfl,h'⟩
  ·exact .inl ⟨a,v,rfl⟩
  ·rcases ih h' with ⟨x,r,hr⟩|⟨u2,rfl,h2⟩
   ·exact .inl ⟨x,r,by rw[hr];rfl⟩
   ·exact .inr ⟨u2,rfl,h2⟩
def mX {α:Type} (r:Except (Int×Int) (α×aD)) (d:Nat) (e:Tk):Prop:=(4096<d∧∃p,r=.error (54,p))∨r=.error (51,e.spot)
theorem mX.le {α:Type}{r:Except (Int×Int) (α×aD)}{d d':Nat}{e:Tk} (h:mX r d e) (hd:d≤d'):mX r d' e:=h.imp (fun ⟨a,b⟩=>⟨by omega,b⟩) id
theorem St.CG {s:aD}{b:Bool}{d o:Nat}{e:Tk} (h:St s [] b d o e):cH s=(51,e.spot):=by
 have h1:=h.ts
 have hs:s.ts=[]:=List.map_eq_nil_iff.1 h1
 unfold cH aD.here
 rw[hs,List.headD_nil,h.en.1,if_pos h.en.2]
theorem St.xG {s:aD}{b:Bool}{d o:Nat}{e:Tk}{k:Int}{x:ByteArray} (h:St s [] b d o e) (hk:k≠5):cZ s.here k x=false:=by
 unfold cZ
 rw[h.lK]
 simp
 intro q
 exact absurd q.symm hk
theorem gH {s:aD}{b:Bool}{d o:Nat}{e:Tk}{k:Int}{x:ByteArray} (h:St s [] b d o e) (hk:k≠5):cx k x s=.ok (false,s):=iz (h.xG hk)
theorem fU {s:aD}{b:Bool}{d o:Nat}{e:Tk}{x:ByteArray} (h:St s [] b d o e):aV x s=.error (51,e.spot):=by
 unfold aV
 rw[gH h (by decide)]
 simp only
 rw[h.CG]
theorem jj {s:aD}{b:Bool}{d o:Nat}{e:Tk} (h:St s [] b d o e):cy s=.error (51,e.spot):=by
 unfold cy
 rw[if_neg (by rw[h.lK];decide),h.CG]
theorem xu {s:aD}{b:Bool}{d o:Nat}{e:Tk}{ff:ByteArray→Int} (h:St s [] b d o e):bO ff s=.error (51,e.spot):=by
 unfold bO
 rw[if_neg (by rw[h.lK];decide),h.CG]
theorem CV {s:aD}{b:Bool}{d o:Nat}{e:Tk}{lo hi:Int}{m:Bool} (h:St s [] b d o e):lh lo hi m s=.error (51,e.spot):=by
 unfold lh
 rw[if_neg (by rw[h.lK];decide),h.CG]
theorem pB {s:aD}{b:Bool}{d o:Nat}{e:Tk}{lo hi:Int}{m:Bool} (h:St s [] b d o e):eh lo hi m s=.error (51,e.spot):=by
 unfold eh
 have ht:(if m=true then cx 4 ⟨#[45]⟩ s else .ok (false,s))=.ok (false,s):=by
  split
  ·exact gH h (by decide)
  ·rfl
 rw[ht]
 exact CV h
theorem pC {s:aD}{lo hi:Int}{mi:Bool}{v:Int}{u:List Wd}{b:Bool}{d o:Nat}{e:Tk} (hu:mw u (dO v)) (h:St s u b d o e) (hm:mi=true∨0≤v) (hd:d≤4096):mX (eh lo hi mi s) (d+bt b) e:=by
 unfold dO at hu
 by_cases hv:v<0
 ·rw[if_pos hv] at hu
  rcases hu.cons with rfl|⟨u1,rfl,jR⟩
  ·exact .inr (pB h)
  rcases jR.cons with rfl|⟨u2,rfl,oJ⟩
  ·unfold eh
   rcases hm with rfl|hm
   ·rw[if_pos rfl]
    rcases dK h hd with ⟨q1,p,q2⟩|⟨q1,s1,q2,q3⟩<;>rw[q2]
    ·exact .inl ⟨q1,p,rfl⟩
    ·exact .inr (CV q3)
   ·omega
  ·exact oJ.nil.elim
 ·rw[if_neg hv] at hu
  rcases hu.cons with rfl|⟨u1,rfl,jR⟩
  ·exact .inr (pB h)
  ·exact jR.nil.elim
theorem Ck {s:aD}{b:Bool}{d o:Nat}{e:Tk}{lo hi:Int}{m:Bool} (h:St s [] b d o e):cG lo hi m s=.error (51,e.spot):=by
 unfold cG
 rw[fU h]
theorem qP {s:aD}{lo hi:Int}{mi:Bool}{v:Int}{u:List Wd}{b:Bool}{d o:Nat}{e:Tk} (hu:mw u ((4,⟨#[61]⟩)::(dO v++[(4,⟨#[59]⟩)]))) (h:St s u b d o e) (hr:lo≤v∧v≤hi) (hl:-2147483648≤v∧v≤2147483647) (hm:mi=true∨0≤v) (hd:d≤4096):mX (cG lo hi mi s) (d+bt b) e:=by
 rcases hu.cons with rfl|⟨u1,rfl,jR⟩
 ·exact .inr (Ck h)
 unfold cG
 rcases cX h hd with ⟨q1,p,q2⟩|⟨q1,s1,q2,h1⟩<;>rw[q2]
 ·exact .inl ⟨q1,p,rfl⟩
 simp only
 rcases jR.VK with oJ|⟨u2,rfl,oJ⟩
 ·rcases pC (lo:=lo) (hi:=hi) oJ h1 hm q1 with ⟨r1,p,r2⟩|r2<;>rw[r2]
  ·exact .inl ⟨by rw[bz] at r1;exact r1,p,rfl⟩
  ·exact .inr rfl
 rcases iQ h1 hr hl hm q1 with ⟨r1,p,r2⟩|⟨r1,s2,r2,h2⟩<;>rw[r2]<;>rw[bz] at r1
 ·exact .inl ⟨r1,p,rfl⟩
 rw[bz] at h2
 simp only
 rcases oJ.cons with rfl|⟨u3,rfl,Uu⟩
 ·rw[if_neg (by rw[h2.xG (by decide)];decide),fU h2]
  exact .inr rfl
 ·exact Uu.nil.elim
theorem sU:∀(ps:List ByteArray) (f:Nat) (acc:List UInt8) (s:aD) (d o:Nat) (e:Tk),St s (bG ps++[(4,⟨#[46]⟩)]) false d o e→(∀x ∈ ps,aR x)→d≤4096→s.ts.length<f→dP f acc s=.error (51,e.spot)
 |ps,0,_,_,_,_,_,_,_,_,hf=>by omega
 |[],f+1,acc,s,d,o,e,h,_,hd,_=>by
  rw[dP]
  have h':St s ((4,⟨#[46]⟩)::[]) false d o e:=h
  rcases dK h' hd with ⟨q1,_⟩|⟨q1,s1,q2,h1⟩
  ·rw[bz] at q1;omega
  rw[q2]
  simp only
  rw[jj h1]
 |x::r,f+1,acc,s,d,o,e,h,hx,hd,hf=>by
  rw[dP]
  rcases dK (l:=(1,x)::(bG r++[(4,⟨#[46]⟩)])) h hd with ⟨q1,_⟩|⟨q1,s1,q2,h1⟩
  ·rw[bz] at q1;omega
  rw[q2]
  simp only
  rw[bz] at h1
  rcases eG (l:=bG r++[(4,⟨#[46]⟩)]) h1 (hx x List.mem_cons_self) hd with ⟨r1,_⟩|⟨r1,s2,r2,h2⟩
  ·rw[bz] at r1;omega
  rw[r2]
  simp only
  have DS:=h.len
  have yL:=h2.len
  simp only[bG,List.cons_append,List.length_cons] at DS
  exact sU r f ((acc++[46])++x.data.toList) s2 d o e h2 (fun y hy=>hx y (zF _ hy)) hd (by omega)
theorem yh:∀(ps:List ByteArray) (u:List Wd),Cs u (bG ps)→∃k,k≤ps.length∧(u=bG (ps.take k)∨u=bG (ps.take k)++[(4,⟨#[46]⟩)])
 |[],u,⟨r,h⟩=>by
  cases u with
  |nil=>exact ⟨0,zD _,.inl rfl⟩
  |cons a u=>cases h
 |x::ps,u,⟨r,h⟩=>by
  cases u with
  |nil=>exact ⟨0,Nat.zero_le _,.inl rfl⟩
  |cons a u =>
   have h1:=(List.cons.inj h).1
   have h2:=(List.cons.inj h).2
   subst h1
   cases u with
   |nil=>exact ⟨0,Nat.zero_le _,.inr rfl⟩
   |cons b u =>
    have h3:=(List.cons.inj h2).1
    have h4:=(List.cons.inj h2).2
    subst h3
    obtain ⟨k,hk,q⟩:=yh ps u ⟨r,h4⟩
    refine ⟨k+1,by rw[List.length_cons];omega,?_⟩
    rcases q with rfl|rfl
    ·exact .inl rfl
    ·exact .inr rfl
def Sr {α:Type} (r:Except (Int×Int) (α×aD)) (d o:Nat) (e:Tk):Prop:=(4096<d∧∃p,r=.error (54,p))∨r=.error (51,e.spot)∨∃a s' d',r=.ok (a,s')∧d'≤4096∧St s' [] false d' o e
theorem AK {fs:Int}{a:List UInt8}{x:ByteArray}{ps:List ByteArray}{s:aD}{b:Bool}{d o:Nat}{e:Tk} (h:St s ((1,x)::(bG ps++[(4,⟨#[46]⟩)])) b d o e) (hx:∀y ∈ x::ps,aR y) (hd:d≤4096):mX (fk fs a s) (d+bt b) e:=by
 unfold fk
 rcases eG h (hx x List.mem_cons_self) hd with ⟨q1,p,q2⟩|⟨q1,s1,q2,h1⟩<;>rw[q2]
 ·exact .inl ⟨q1,p,rfl⟩
 simp only
 rw[sU ps (s1.ts.length+1) (a++x.data.toList) s1 _ o e h1 (fun y hy=>hx y (zF _ hy)) q1 (by omega)]
 exact .inr rfl
theorem zT {ps:List ByteArray} (h:ik ps) {k:Nat} (hk:0<k):ik (ps.take k):=by
 obtain ⟨h0,h1,h2⟩:=h
 refine ⟨?_,fun x hx=>h1 x (List.mem_of_mem_take hx),by rw[List.length_take];omega⟩
 cases ps with
 |nil=>exact absurd rfl h0
 |cons x r =>
  cases k with
  |zero=>omega
  |succ k=>simp
theorem pM {s:aD}{b:Bool}{d o:Nat}{e:Tk}{da:Bool} (h:St s [] b d o e):cA da s=.error (51,e.spot):=by
 unfold cA
 have ht:(if da=true then cx 4 ⟨#[46]⟩ s else .ok (false,s))=.ok (false,s):=by
  split
  ·exact gH h (by decide)
  ·rfl
 rw[ht]
 simp only
 unfold fk
 rw[jj h]
theorem pN {ps:List ByteArray}{u:List Wd}{s:aD}{b:Bool}{d o:Nat}{e:Tk} (hu:Cs u (bG ps)) (h:St s u b d o e) (hp:ik ps) (hd:d≤4096):Sr (cA true s) (d+bt b) o e:=by
 obtain ⟨k,hk,q⟩:=yh ps u hu
 rcases Nat.eq_zero_or_pos k with rfl|lM
 ·rcases q with rfl|rfl
  ·exact .inr (.inl (pM h))
  ·unfold cA
   rw[if_pos rfl]
   have h':St s ((4,⟨#[46]⟩)::[]) b d o e:=h
   rcases dK h' hd with ⟨q1,p,q2⟩|⟨q1,s1,q2,h1⟩<;>rw[q2]
   ·exact .inl ⟨q1,p,rfl⟩
   simp only
   unfold fk
   rw[jj h1]
   exact .inr (.inl rfl)
 ·have ht:=zT hp lM
  rcases q with rfl|rfl
  ·rcases gU (l:=[]) (by rw[List.append_nil];exact h) trivial ht hd with ⟨q1,p,q2⟩|⟨q1,s1,q2,h1⟩<;>rw[q2]
   ·exact .inl ⟨q1,p,rfl⟩
   ·exact .inr (.inr ⟨_,s1,_,rfl,q1,h1⟩)
  ·obtain ⟨t0,t1,t2⟩:=ht
   cases kJ:ps.take k with
   |nil=>exact absurd kJ t0
   |cons x r =>
    rw[kJ] at h t1
    unfold cA
    rw[if_pos rfl]
    rcases dK (l:=(1,x)::(bG r++[(4,⟨#[46]⟩)])) h hd with ⟨q1,p,q2⟩|⟨q1,s1,q2,h3⟩<;>rw[q2]
    ·exact .inl ⟨q1,p,rfl⟩
    simp only
    rw[if_pos trivial]
    rcases AK (fs:=s.here.spot) (a:=[46]) h3 t1 q1 with ⟨r1,p,r2⟩|r2<;>rw[r2]
    ·exact .inl ⟨by rw[bz] at r1;exact r1,p,rfl⟩
    ·exact .inr (.inl rfl)
theorem Qn {ps:List ByteArray}{u:List Wd}{s:aD}{b:Bool}{d o:Nat}{e:Tk} (hu:Cs u (nh ps)) (h:St s u b d o e) (hp:ik ps) (hd:d≤4096):Sr (cA false s) (d+bt b) o e:=by
 cases ps with
 |nil=>exact absurd rfl hp.1
 |cons x r =>
  obtain ⟨v,hv⟩:=hu
  cases u with
  |nil=>exact .inr (.inl (pM h))
  |cons a u =>
   have h1:=(List.cons.inj hv).1
   have h2:=(List.cons.inj hv).2
   subst h1
   obtain ⟨k,hk,q⟩:=yh r u ⟨v,h2⟩
   have ht:ik (x::r.take k):=zT (k:=k+1) hp (by omega)
   rcases q with rfl|rfl
   ·rcases G7 (ps:=x::r.take k) (l:=[]) (by rw[List.append_nil];exact h) trivial ht hd with ⟨q1,p,q2⟩|⟨q1,s1,q2,h1⟩<;>rw[q2]
    ·exact .inl ⟨q1,p,rfl⟩
    ·exact .inr (.inr ⟨_,s1,_,rfl,q1,h1⟩)
   ·unfold cA
    rw[if_neg (by decide)]
    simp only
    rw[if_neg (by decide)]
    rcases AK (fs:=s.here.spot) (a:=[]) h ht.2.1 hd with ⟨r1,p,r2⟩|r2<;>rw[r2]
    ·exact .inl ⟨r1,p,rfl⟩
    ·exact .inr (.inl rfl)
theorem Fw {f:Fd}{s:aD}{b:Bool}{d o:Nat}{e:Tk} (h:St s [] b d o e):Dx f s=.error (51,e.spot):=by
 unfold Dx
 rw[jj h]
theorem Ml {f:Fd}{x:ByteArray}{n:Int}{u:List Wd}{s:aD}{d o:Nat}{e:Tk} (hu:mw u (iY x n)) (h:St s u false d o e) (hx:aR x) (hn:0≤n∧n≤2147483647) (hd:d≤4096):mX (Dx f s) d e:=by
 unfold iY at hu
 rcases hu.cons with rfl|⟨u1,rfl,jR⟩
 ·exact .inr (Fw h)
 unfold Dx
 rcases eG h hx hd with ⟨q1,p,q2⟩|⟨q1,s1,q2,h1⟩<;>rw[q2]<;>rw[bz] at q1
 ·omega
 simp only
 rw[bz] at h1
 rcases qP (lo:=0) (hi:=2147483647) (mi:=false) jR h1 hn (by omega) (.inr hn.1) hd with ⟨r1,p,r2⟩|r2<;>rw[r2]
 ·exact .inl ⟨by rw[bz] at r1;exact r1,p,rfl⟩
 ·exact .inr rfl
theorem AE {f:Fd}{ps:List ByteArray}{x:ByteArray}{n:Int}{u:List Wd}{s:aD}{b:Bool}{d o:Nat}{e:Tk} (hu:mw u (bG ps++iY x n)) (h:St s u b d o e) (hp:ik ps) (hx:aR x) (hn:0≤n∧n≤2147483647) (hd:d≤4096):mX (fH f s) (d+bt b) e:=by
 unfold fH
 rcases hu.app with jR|⟨u1,rfl,eo,jR⟩
 ·rcases pN jR h hp hd with ⟨q1,p,q2⟩|q2|⟨a,s1,d1,q2,q3,h1⟩<;>rw[q2]
  ·exact .inl ⟨q1,p,rfl⟩
  ·exact .inr rfl
  ·exact .inr (Fw h1)
 ·have rT:nf u1:=by
   cases u1 with
   |nil=>exact absurd rfl eo
   |cons w r =>
    obtain ⟨y,v,hv⟩:=jR
    unfold iY at hv
    rw[←(List.cons.inj hv).1]
    exact .inr (show (1:Int)≠4 by decide)
  rcases gU h rT hp hd with ⟨q1,p,q2⟩|⟨q1,s1,q2,h1⟩<;>rw[q2]
  ·exact .inl ⟨q1,p,rfl⟩
  exact Ml jR h1 hx hn q1
theorem Ad {k:Int}{ps:List ByteArray}{x:ByteArray}{n:Int}{u:List Wd}{s:aD}{b:Bool}{d o:Nat}{e:Tk} (hu:mw u (bG ps++iY x n)) (h:St s u b d o e) (hp:ik ps) (hx:aR x) (hn:0≤n∧n≤2147483647) (hd:d≤4096):mX (eN k s) (d+1) e:=by
 unfold eN
 exact AE hu h.begun hp hx hn hd
theorem BF {c:Int}{y:ByteArray}{ps:List ByteArray}{x:ByteArray}{n:Int}{u:List Wd}{s:aD}{b:Bool}{d o:Nat}{e:Tk} (hu:mw u (bG ps++iY x n)) (h:St s ((1,y)::u) b d o e) (hp:ik ps) (hx:aR x) (hn:0≤n∧n≤2147483647) (hd:d≤4096):mX (dh c s) (d+1) e:=by
 unfold dh
 rcases cN h.begun hd with ⟨q1,p,q2⟩|⟨q1,s1,q2,h1⟩<;>rw[q2]
 ·exact .inl ⟨q1,p,rfl⟩
 simp only
 have hg:cZ s1.here 1 ⟨#[103,114,111,117,112]⟩=false:=by
  cases u with
  |nil=>exact h1.xG (by decide)
  |cons w v =>
   obtain ⟨r,hr⟩:=ox hp
   rw[hr] at hu
   obtain ⟨z,t,ht⟩:=hu
   have h2:=h1
   rw[←(List.cons.inj ht).1] at h2
   exact fK h2 (show (4:Int)≠1 by decide)
 rw[if_neg (by rw[hg];decide)]
 have:=AE (f:=⟨c,⟨#[]⟩,⟨#[]⟩,⟨#[]⟩,0,0⟩) hu h1 hp hx hn q1
 exact this
theorem Mr:aR ⟨#[109,97,112]⟩:=by
 unfold aR
 exact ⟨by decide +kernel,by decide,by decide⟩
theorem QB {ks ps:List ByteArray}{x:ByteArray}{n:Int}{u:List Wd}{s:aD}{b:Bool}{d o:Nat}{e:Tk} (hu:mw u (sg 60::(bG ks++sg 44::(bG ps++sg 62::iY x n)))) (h:St s ((1,⟨#[109,97,112]⟩)::u) b d o e) (hk:ik ks) (hp:ik ps) (hx:aR x) (hn:0≤n∧n≤2147483647) (hd:d≤4096):mX (ca s) (d+1) e:=by
 rcases hu.cons with rfl|⟨u1,rfl,jR⟩
 ·
  have ha:cZ (s.ahead 1) 4 ⟨#[60]⟩=false:=by
   have h1:=h.ts
   unfold aD.ahead
   match hs:s.ts with
   |[]=>rw[hs] at h1;cases h1
   |t::v::r=>rw[hs] at h1;cases (List.cons.inj h1).2
   |[t] =>
    show cZ s.en 4 ⟨#[60]⟩=false
    unfold cZ
    rw[h.en.1,h.en.2]
    rfl
  unfold ca
  rw[if_neg (by rw[ha];decide)]
  unfold eN fH cA
  rw[if_pos rfl,iz (fK h.begun (show (1:Int)≠4 by decide))]
  simp only
  rw[if_neg (by decide)]
  rcases si (ps:=[]) (l:=[]) (fs:=s.begun.here.spot) (a:=[]) h.begun trivial (fun y hy=>by rw[List.mem_singleton.1 hy];exact Mr) (Nat.zero_le _) (by simp) hd with ⟨q1,p,q2⟩|⟨q1,s1,q2,h1⟩<;>rw[q2]
  ·exact .inl ⟨q1,p,rfl⟩
  ·exact .inr (Fw h1)
 have ha:cZ (s.ahead 1) 4 ⟨#[60]⟩=true:=by
  have h1:=h.ts
  unfold aD.ahead
  match hs:s.ts with
  |[]=>rw[hs] at h1;cases h1
  |[t]=>rw[hs] at h1;cases (List.cons.inj h1).2
  |t::v::r =>
   rw[hs] at h1
   simp only[List.map_cons] at h1
   have h2:=(List.cons.inj (List.cons.inj h1).2).1
   unfold kt at h2
   have h3:=(Prod.mk.inj h2).1
   have h4:=(Prod.mk.inj h2).2
   show cZ v 4 ⟨#[60]⟩=true
   unfold cZ
   rw[h3,h4]
   simp
 unfold ca
 rw[if_pos ha]
 unfold tj
 rcases cN h.begun hd with ⟨q1,p,q2⟩|⟨q1,s1,q2,h1⟩<;>rw[q2]
 ·exact .inl ⟨q1,p,rfl⟩
 simp only
 rw[lJ] at q1 h1
 rcases cX h1 q1 with ⟨z1,p,z2⟩|⟨z1,s2,z2,h2⟩<;>rw[bz] at z1
 ·omega
 rw[z2]
 simp only
 rw[bz] at h2
 rcases jR.app with oJ|⟨u2,rfl,eo,oJ⟩
 ·rcases pN oJ h2 hk q1 with ⟨z1,p,z2⟩|z2|⟨a,s3,d3,z2,z3,h3⟩<;>rw[z2]
  ·exact .inl ⟨by rw[bz] at z1;exact z1,p,rfl⟩
  ·exact .inr rfl
  ·simp only
   rw[fU h3]
   exact .inr rfl
 rcases oJ.cons with rfl|⟨u3,rfl,Uu⟩
 ·exact absurd rfl eo
 rcases gU h2 (show nf ((4,⟨#[44]⟩)::_) from .inl (by decide +kernel)) hk q1 with ⟨z1,p,z2⟩|⟨z1,s3,z2,h3⟩<;>rw[bz] at z1
 ·omega
 rw[z2]
 simp only
 rw[bz] at h3
 rcases cX h3 q1 with ⟨z1,p,z2⟩|⟨z1,s4,z2,h4⟩<;>rw[bz] at z1
 ·omega
 rw[z2]
 simp only
 rw[bz] at h4
 rcases Uu.app with Ye|⟨u4,rfl,eo,Ye⟩
 ·rcases pN Ye h4 hp q1 with ⟨z1,p,z2⟩|z2|⟨a,s5,d5,z2,z3,h5⟩<;>rw[z2]
  ·exact .inl ⟨by rw[bz] at z1;exact z1,p,rfl⟩
  ·exact .inr rfl
  ·simp only
   rw[fU h5]
   exact .inr rfl
 rcases Ye.cons with rfl|⟨u5,rfl,hu5⟩
 ·exact absurd rfl eo
 rcases gU h4 (show nf ((4,⟨#[62]⟩)::_) from .inl (by decide +kernel)) hp q1 with ⟨z1,p,z2⟩|⟨z1,s5,z2,h5⟩<;>rw[bz] at z1
 ·omega
 rw[z2]
 simp only
 rw[bz] at h5
 rcases cX h5 q1 with ⟨z1,p,z2⟩|⟨z1,s6,z2,h6⟩<;>rw[bz] at z1
 ·omega
 rw[z2]
 simp only
 rw[bz] at h6
 exact Ml hu5 h6 hx hn q1
theorem zz {s:aD}{b:Bool}{d o:Nat}{e:Tk} (h:St s [] b d o e):gB s=.error (51,e.spot):=by
 unfold gB
 rw[jj h.begun]
theorem I0 {x:ByteArray}{n:Int}{u:List Wd}{s:aD}{b:Bool}{d o:Nat}{e:Tk} (hu:mw u (iY x n)) (h:St s u b d o e) (hx:aR x) (hn:-2147483648≤n∧n≤2147483647) (hd:d≤4096):mX (gB s) (d+1) e:=by
 unfold iY at hu
 rcases hu.cons with rfl|⟨u1,rfl,jR⟩
 ·exact .inr (zz h)
 unfold gB
 rcases eG h.begun hx hd with ⟨q1,p,q2⟩|⟨q1,s1,q2,h1⟩<;>rw[q2]
 ·exact .inl ⟨q1,p,rfl⟩
 simp only
 rcases qP (lo:=-2147483648) (hi:=2147483647) (mi:=true) jR h1 hn hn (.inl rfl) q1 with ⟨r1,p,r2⟩|r2<;>rw[r2]
 ·exact .inl ⟨by rw[bz] at r1;exact r1,p,rfl⟩
 ·exact .inr rfl
theorem Qh {lo hi:Int}{mi:Bool}{s:aD}{b:Bool}{d o:Nat}{e:Tk} (h:St s [] b d o e):jd lo hi mi s=.error (51,e.spot):=by
 unfold jd
 rw[pB h.begun]
theorem Qi {lo hi a c:Int}{mi:Bool}{u:List Wd}{s:aD}{b:Bool}{d o:Nat}{e:Tk} (hu:Cs u (oE a c)) (h:St s u b d o e) (ha:lo≤a∧a≤c∧c≤hi) (hl:-2147483648≤lo∧hi≤2147483647) (hm:mi=true∨0≤lo) (hd:d≤4096):Sr (jd lo hi mi s) (d+1) o e:=by
 have SO:mi=true∨0≤a:=hm.imp id (fun q=>by omega)
 have QP:mi=true∨0≤c:=hm.imp id (fun q=>by omega)
 unfold jd
 have BK:mw u (dO a)∨∃u1,u=dO a++u1∧Cs u1 (if c≠a then (1,⟨#[116,111]⟩)::dO c else []):=by
  obtain ⟨r,hr⟩:=hu
  unfold oE at hr
  generalize (if c≠a then (1,(⟨#[116,111]⟩:ByteArray))::dO c else [])=X at hr ⊢
  generalize dO a=A at hr ⊢
  clear h
  induction A generalizing u with
  |nil=>exact .inr ⟨u,rfl,r,hr⟩
  |cons w A ih =>
   cases u with
   |nil=>exact .inl ⟨w,A,rfl⟩
   |cons w' u =>
    have h1:=(List.cons.inj hr).1
    have h2:=(List.cons.inj hr).2
    subst h1
    rcases ih h2 with ⟨x,t,ht⟩|⟨u1,rfl,h3⟩
    ·exact .inl ⟨x,t,by rw[ht];rfl⟩
    ·exact .inr ⟨u1,rfl,h3⟩
 rcases BK with h1|⟨u1,rfl,jR⟩
 ·rcases pC (lo:=lo) (hi:=hi) h1 h.begun SO hd with ⟨q1,p,q2⟩|q2<;>rw[q2]
  ·exact .inl ⟨q1,p,rfl⟩
  ·exact .inr (.inl rfl)
 rcases iQ h.begun (show lo≤a∧a≤hi by omega) (by omega) SO hd with ⟨q1,p,q2⟩|⟨q1,s1,q2,h1⟩<;>rw[q2]
 ·exact .inl ⟨q1,p,rfl⟩
 simp only
 rw[lJ] at q1 h1
 by_cases hc:c≠a
 ·rw[if_pos hc] at jR
  obtain ⟨r,hr⟩:=jR
  cases u1 with
  |nil =>
   rw[gH h1 (by decide)]
   exact .inr (.inr ⟨_,s1,_,rfl,q1,h1⟩)
  |cons w u2 =>
   have e1:=(List.cons.inj hr).1
   have e2:=(List.cons.inj hr).2
   subst e1
   rcases dK h1 q1 with ⟨z1,p,z2⟩|⟨z1,s2,z2,h2⟩<;>rw[bz] at z1
   ·omega
   rw[z2]
   simp only
   rw[bz] at h2
   have rb:cZ s2.here 1 ⟨#[109,97,120]⟩=false:=by
    cases u2 with
    |nil=>exact h2.xG (by decide)
    |cons w2 u3 =>
     obtain ⟨w,t,hw,hwk,_⟩:=qo c
     rw[hw] at e2
     have h3:=h2
     rw[←(List.cons.inj e2).1] at h3
     exact fK h3 hwk
   rw[iz rb]
   simp only
   cases r with
   |nil =>
    change dO c=u2++[] at e2
    rw[List.append_nil] at e2
    subst e2
    rcases iQ (l:=[]) (by rw[List.append_nil];exact h2) (show a≤c∧c≤hi by omega) (by omega) QP q1 with ⟨z1,p,z2⟩|⟨z1,s4,z2,h4⟩<;>rw[z2]
    ·exact .inl ⟨by rw[bz] at z1;exact z1,p,rfl⟩
    ·exact .inr (.inr ⟨_,s4,_,rfl,z1,h4⟩)
   |cons y r =>
    rcases pC (lo:=a) (hi:=hi) ⟨y,r,e2⟩ h2 QP q1 with ⟨z1,p,z2⟩|z2<;>rw[z2]
    ·exact .inl ⟨by rw[bz] at z1;exact z1,p,rfl⟩
    ·exact .inr (.inl rfl)
 ·rw[if_neg hc] at jR
  obtain ⟨r,hr⟩:=jR
  cases u1 with
  |cons w u2=>cases hr
  |nil =>
   rw[gH h1 (by decide)]
   exact .inr (.inr ⟨_,s1,_,rfl,q1,h1⟩)
end Go.Proofs.YtmlphohdcejniaaGreatDoor
