import Derived.Test.YtjophoclfccmcaaGreatDoorM33
namespace Go.Proofs.YtjophoclfccmcaaGreatDoor
open Go.RowKit
attribute [local go_sem ↓] Go.wp_at_zero Go.wp_at_succ
def zs (s:ay):ZS:=⟨s.ts,s.en.spot,s.dc⟩
abbrev PX:=Except (Int×Int) ay
def QP:PX→ZX
 |.ok s=>.ok (zs s)
 |.error y=>.error y
structure Gd (s:ay):Prop where
 bg:s.bg=false
 en:s.en.kind=5
 sm:Sm s
 dc:s.dc≤4096
 len:s.ts.length≤16384
def lq:PX→Prop
 |.ok s=>Gd s
 |.error _=>True
def Zr (lo:Nat) (W:World) (b:Nat) (R:PX):Prop:=Zd lo W b (QP R)∧lq R
def aT {α:Type}:Except (Int×Int) (α×ay)→PX
 |.ok p=>.ok p.2
 |.error y=>.error y
def al {α:Type} (R:PX) (F:ay→Except (Int×Int) (α×ay)):Except (Int×Int) (α×ay):=match R with
 |.ok s=>F s
 |.error y=>.error y
def ZQ {α:Type} (lo b:Nat) (W:World) (ret:α→Value) (shape:Value→Prop) (r:Except (Int×Int) (α×ay)) (e:Ending) (w:World):Prop:=W.grownBy w (some b)∧Zr lo w b (aT r)∧∃v,e=.returned v∧shape v∧∀a s,r=.ok (a,s)→v=ret a
theorem Zr.up {lo b:Nat}{W w:World}{R:PX} (h:Zr lo W b R) (hb:Below W.heap.size W w):Zr lo w b R:=⟨h.1.up hb,h.2⟩
theorem Zr.low {lo b:Nat}{W:World}{R:PX} (h:Zr lo W b R):b<lo∧lo≤W.heap.size:=h.1.1
def Vf (v:Value):Prop:=v=.tuple #[]
theorem gK {lo b:Nat}{W w:World}{X:ZX}{e:Ending}{r:Except (Int×Int) (Unit×ay)} (h:Zn lo b W X e w) (hx:X=QP (aT r)) (hg:lq (aT r)):ZQ lo b W ub Vf r e w:=by
 obtain ⟨rfl,h1,h2⟩:=h
 exact ⟨h1,⟨hx ▸ h2,hg⟩,_,rfl,rfl,fun _ _ _=>rfl⟩
def Yq {α:Type}:Except (Int×Int) (α×ay)→Except (Int×Int) (α×ZS)
 |.ok p=>.ok (p.1,zs p.2)
 |.error y=>.error y
theorem CO {α:Type}{lo b:Nat}{W w:World}{ret:α→Value}{shape:Value→Prop}{x:Except (Int×Int) (α×ZS)}{e:Ending}{r:Except (Int×Int) (α×ay)} (h:ZP lo b W ret shape x e w) (hx:x=Yq r) (hg:lq (aT r)) (hs:∀a s,r=.ok (a,s)→shape (ret a)):ZQ lo b W ret shape r e w:=by
 obtain ⟨h1,h2⟩:=h
 subst hx
 match r,h2,hg with
 |.ok (a,s),h2,hg=>exact ⟨h1,⟨h2.2,hg⟩,_,h2.1,hs a s rfl,fun a' s' e=>by cases e;rfl⟩
 |.error y,⟨⟨v,hv,Zj⟩,h2⟩,hg=>exact ⟨h1,⟨h2,hg⟩,v,hv,Zj,fun a s e=>by cases e⟩
theorem gJ {s:ay} (h:s.en.kind=5):(zs s).here.kind=s.here.kind∧(zs s).here.spot=s.here.spot∧(s.here.kind≠5→(zs s).here=s.here):=by
 unfold ZS.here ay.here zs
 cases s.ts with
 |nil=>exact ⟨h.symm,rfl,fun q=>absurd h q⟩
 |cons t r=>exact ⟨rfl,rfl,fun _=>rfl⟩
theorem CN {s:ay} (h:s.en.kind=5) {k:Int} (hk:k≠5) (x:ByteArray):aJ (zs s).here k x=aJ s.here k x:=by
 unfold ZS.here ay.here zs
 cases s.ts with
 |nil=>unfold aJ;simp only[List.headD_nil,h,beq_eq_false_iff_ne.2 (Ne.symm hk),Bool.false_and]
 |cons t r=>rfl
def fU (R:PX) (k:Int) (x:ByteArray):Bool:=match R with
 |.ok s=>aJ s.here k x
 |.error _=>false
theorem fB {R:PX}{k:Int}{x:ByteArray} (h:fU R k x=true):∃s,R=.ok s∧aJ s.here k x=true:=by
 match R,h with
 |.ok s,h=>exact ⟨s,rfl,h⟩
theorem iw {W:World}{lo b:Nat}{R:PX} (h:Zr lo W b R) (k:Int) (hk:k≠5) (x:ByteArray):Calls Tryz.prog 36 #[.pointer (some ⟨b,0,none⟩),.int .i64 k,.string x] W fun e w=>e=.returned (.bool (fU R k x))∧Below W.heap.size W w:=by
 refine (xa h.1 k x).mono ?_
 rintro e w ⟨t,rfl,hb,hp⟩
 refine ⟨?_,hb⟩
 match R,h,hp with
 |.ok s,h,hp =>
  obtain rfl:t=(zs s).here:=hp
  rw[CN h.2.en hk]
  rfl
 |.error y,_,hp=>rw[Bt hp hk];rfl
def EF:PX→Tk→Prop
 |.ok s,t=>t.kind=s.here.kind∧t.spot=s.here.spot∧(s.here.kind≠5→t=s.here)
 |.error _,t=>t.kind=5∧t.text=⟨#[]⟩
theorem gf {W:World}{lo b:Nat}{R:PX} (h:Zr lo W b R):Calls Tryz.prog 68 #[.pointer (some ⟨b,0,none⟩)] W fun e w=>∃t,e=.returned t.val∧Below W.heap.size W w∧EF R t:=by
 refine (kH h.1).mono ?_
 rintro e w ⟨t,rfl,hb,hp⟩
 refine ⟨t,rfl,hb,?_⟩
 match R,h,hp with
 |.ok s,h,hp =>
  obtain rfl:t=(zs s).here:=hp
  exact gJ h.2.en
 |.error y,_,hp=>exact hp
def ay.nx (s:ay):ay:={ s with ts:=s.ts.tail }
theorem fT {s:ay} (h:s.bg=false):bz s=.ok ((),s.nx):=by
 obtain ⟨ts,en,bg,dc,op⟩:=s
 obtain rfl:bg=false:=h
 rfl
theorem Gd.nx {s:ay} (h:Gd s):Gd s.nx:=⟨h.bg,h.en,fun t ht=>h.sm t (List.mem_of_mem_tail ht),h.dc,by have:=h.len;show s.ts.tail.length≤_;rw[List.length_tail];omega⟩
theorem cV {s:ay} (h:s.bg=false) (k:Int) (x:ByteArray):bX k x s=if aJ s.here k x=true then .ok (true,s.nx) else .ok (false,s):=by
 unfold bX
 rw[fT h]
theorem gP {s:ay} (h:s.bg=false) (x:ByteArray):au x s=if aJ s.here 4 x=true then .ok ((),s.nx) else .error (bR s):=by
 unfold au
 rw[cV h]
 by_cases hq:aJ s.here 4 x=true
 ·rw[if_pos hq,if_pos hq]
 ·rw[if_neg hq,if_neg hq]
theorem nM {s:ay} (h:s.en.kind=5):jW (zs s)=bR s:=by
 unfold jW bR
 rw[(gJ h).1,(gJ h).2.1]
theorem eW {W:World}{lo b:Nat}{R:PX} (h:Zr lo W b R) (x:ByteArray):Calls Tryz.prog 38 #[.pointer (some ⟨b,0,none⟩),.string x] W (ZQ lo b W ub Vf (al R (au x))):=by
 refine (sh h.1 x).mono ?_
 intro e w hz
 match R,h with
 |.error y,_=>exact gK hz rfl trivial
 |.ok s,h =>
  refine gK hz ?_ ?_
  ·show (if _ then _ else _)=QP (aT (au x s))
   rw[CN h.2.en (by decide),gP h.2.bg,nM h.2.en]
   by_cases hq:aJ s.here 4 x=true
   ·rw[if_pos hq,if_pos hq];rfl
   ·rw[if_neg hq,if_neg hq];rfl
  ·show lq (aT (au x s))
   rw[gP h.2.bg]
   by_cases hq:aJ s.here 4 x=true
   ·rw[if_pos hq];exact h.2.nx
   ·rw[if_neg hq];trivial
def cl (x:ByteArray) (s:ay):Except (Int×Int) (Unit×ay):=if aJ s.here 1 x=true then .ok ((),s.nx) else .error (bR s)
theorem oQ {W:World}{lo b:Nat}{R:PX} (h:Zr lo W b R) (x:ByteArray):Calls Tryz.prog 65 #[.pointer (some ⟨b,0,none⟩),.string x] W (ZQ lo b W ub Vf (al R (cl x))):=by
 refine (Jt h.1 x).mono ?_
 intro e w hz
 match R,h with
 |.error y,_=>exact gK hz rfl trivial
 |.ok s,h =>
  refine gK hz ?_ ?_
  ·show (if _ then _ else _)=QP (aT (cl x s))
   unfold cl
   rw[CN h.2.en (by decide),nM h.2.en]
   by_cases hq:aJ s.here 1 x=true
   ·rw[if_pos hq,if_pos hq];rfl
   ·rw[if_neg hq,if_neg hq];rfl
  ·show lq (aT (cl x s))
   unfold cl
   by_cases hq:aJ s.here 1 x=true
   ·rw[if_pos hq];exact h.2.nx
   ·rw[if_neg hq];trivial
theorem yi {s:ay} (h:s.bg=false):aR s=if s.here.kind=1 then (if 255<s.here.text.size then .error (2,s.here.spot) else if fw s.here.text=true then .ok (s.here.text,s.nx) else .error (50,s.here.spot)) else .error (bR s):=by
 unfold aR bI
 rw[fT h]
 by_cases h1:s.here.kind=1
 ·rw[if_pos h1,if_pos h1]
  by_cases h2:255<s.here.text.size
  ·rw[if_pos h2,if_pos h2,if_neg (by decide)]
  ·rw[if_neg h2,if_neg h2]
   by_cases h3:fw s.here.text=true
   ·rw[if_pos h3,if_pos h3,if_pos rfl]
   ·rw[if_neg h3,if_neg h3,if_neg (by decide)]
 ·rw[if_neg h1,if_neg h1]
theorem YC {R:PX}{t:Tk} (h:lq R) (hp:PkX (QP R) t):t.text.size≤140737488355327:=by
 match R,h,hp with
 |.error y,_,hp=>rw[show t.text=⟨#[]⟩ from hp.2];decide
 |.ok s,h,hp =>
  obtain rfl:t=(zs s).here:=hp
  unfold ZS.here zs
  cases hl:s.ts with
  |nil=>exact (by decide:(⟨#[]⟩:ByteArray).size≤140737488355327)
  |cons a r=>exact h.sm a (by rw[hl];simp)
theorem lB {W:World}{lo b:Nat}{R:PX} (h:Zr lo W b R):Calls Tryz.prog 71 #[.pointer (some ⟨b,0,none⟩)] W (ZQ lo b W Value.string isStr (al R aR)):=by
 refine (Jv h.1 (fun t hp=>YC h.2 hp)).mono ?_
 intro e w hz
 match R,h with
 |.error y,_=>exact CO hz rfl trivial (fun a s e=>by cases e)
 |.ok s,h =>
  refine CO hz ?_ ?_ (fun a s' e=>⟨a,rfl,by have:=(jz (s:=s) e).2.1;omega⟩)
  ·show (if _ then _ else _)=Yq (aR s)
   rw[yi h.2.bg,(gJ h.2.en).1]
   by_cases h1:s.here.kind=1
   ·rw[if_pos h1,if_pos h1,(gJ h.2.en).2.2 (by rw[h1];decide)]
    by_cases h2:255<s.here.text.size
    ·rw[if_pos h2,if_pos h2];rfl
    ·rw[if_neg h2,if_neg h2]
     by_cases h3:fw s.here.text=true
     ·rw[if_pos h3,if_pos h3];rfl
     ·rw[if_neg h3,if_neg h3];rfl
   ·rw[if_neg h1,if_neg h1,nM h.2.en];rfl
  ·show lq (aT (aR s))
   rw[yi h.2.bg]
   split
   ·split
    ·trivial
    ·split
     ·exact h.2.nx
     ·trivial
   ·trivial
def ay.mr (s:ay):ay:={ s with dc:=s.dc+1 }
def aP (sp:Int) (s:ay):Except (Int×Int) (Unit×ay):=if 4096≤s.dc then .error (54,sp) else .ok ((),s.mr)
theorem eu {W:World}{lo b:Nat}{R:PX} (h:Zr lo W b R) (t:Tk):Calls Tryz.prog 70 #[.pointer (some ⟨b,0,none⟩),t.val] W (ZQ lo b W ub Vf (al R (aP t.spot))):=by
 refine (CU h.1 t).mono ?_
 intro e w hz
 match R,h with
 |.error y,_=>exact gK hz rfl trivial
 |.ok s,h =>
  refine gK hz ?_ ?_
  ·show (if 4096≤s.dc then _ else _)=QP (aT (aP t.spot s))
   unfold aP
   by_cases hq:4096≤s.dc
   ·rw[if_pos hq,if_pos hq];rfl
   ·rw[if_neg hq,if_neg hq];rfl
  ·show lq (aT (aP t.spot s))
   unfold aP
   by_cases hq:4096≤s.dc
   ·rw[if_pos hq];trivial
   ·rw[if_neg hq];exact ⟨h.2.bg,h.2.en,h.2.sm,by show s.dc+1≤4096;omega,h.2.len⟩
def dj (l:List ByteArray) (s:ay):Except (Int×Int) (Unit×ay):=if s.here.kind=1∧CF s.here.text l=true then .error (52,s.here.spot) else .ok ((),s)
theorem gY {W:World}{lo b:Nat}{R:PX}{v:Value}{l:List ByteArray} (h:Zr lo W b R) (hv:tc W v l.length (dR l)):Calls Tryz.prog 35 #[.pointer (some ⟨b,0,none⟩),v] W (ZQ lo b W ub Vf (al R (dj l))):=by
 refine (Bf h.1 hv).mono ?_
 intro e w hz
 match R,h with
 |.error y,_=>exact gK hz rfl trivial
 |.ok s,h =>
  have hE:((zs s).here.kind=1∧CF (zs s).here.text l=true)↔(s.here.kind=1∧CF s.here.text l=true):=by
   constructor
   ·intro q
    have h1:s.here.kind=1:=(gJ h.2.en).1 ▸ q.1
    rw[(gJ h.2.en).2.2 (by rw[h1];decide)] at q
    exact q
   ·intro q
    rw[(gJ h.2.en).2.2 (by rw[q.1];decide)]
    exact q
  refine gK hz ?_ ?_
  ·show (if _ then _ else _)=QP (aT (dj l s))
   unfold dj
   by_cases hq:s.here.kind=1∧CF s.here.text l=true
   ·rw[if_pos (hE.2 hq),if_pos hq,(gJ h.2.en).2.1];rfl
   ·rw[if_neg (fun q=>hq (hE.1 q)),if_neg hq];rfl
  ·show lq (aT (dj l s))
   unfold dj
   split
   ·trivial
   ·exact h.2
def rL (s:ay):Except (Int×Int) (Unit×ay):=if aJ s.here 4 ⟨#[91]⟩=true then .error (52,s.here.spot) else au ⟨#[59]⟩ s
theorem G6 {W:World}{lo b:Nat}{R:PX} (h:Zr lo W b R):Calls Tryz.prog 75 #[.pointer (some ⟨b,0,none⟩)] W (ZQ lo b W ub Vf (al R rL)):=by
 refine (Jy h.1).mono ?_
 intro e w hz
 match R,h with
 |.error y,_=>exact gK hz rfl trivial
 |.ok s,h =>
  refine gK hz ?_ ?_
  ·show (if aJ (zs s).here 4 ⟨#[91]⟩=true then _ else (if aJ (zs s).here 4 ⟨#[59]⟩=true then _ else _))=QP (aT (rL s))
   unfold rL
   rw[CN h.2.en (by decide),CN h.2.en (by decide),(gJ h.2.en).2.1,gP h.2.bg,nM h.2.en]
   by_cases hq:aJ s.here 4 ⟨#[91]⟩=true
   ·rw[if_pos hq,if_pos hq];rfl
   ·rw[if_neg hq,if_neg hq]
    by_cases hq:aJ s.here 4 ⟨#[59]⟩=true
    ·rw[if_pos hq,if_pos hq];rfl
    ·rw[if_neg hq,if_neg hq];rfl
  ·show lq (aT (rL s))
   unfold rL
   rw[gP h.2.bg]
   split
   ·trivial
   ·split
    ·exact h.2.nx
    ·trivial
def mL (er sp:Int):PX→PX
 |.ok _=>.error (er,sp)
 |.error y=>.error y
theorem gV {W:World}{lo b:Nat}{R:PX} (h:Zr lo W b R) (er sp:Int) (hz:er≠0):Calls Tryz.prog 67 #[.pointer (some ⟨b,0,none⟩),.int .i64 er,.int .i64 sp] W fun e w=>e=.returned (.tuple #[])∧W.grownBy w (some b)∧Zr lo w b (mL er sp R):=by
 refine (ep h.1 er sp hz).mono ?_
 rintro e w ⟨rfl,hg,hz⟩
 refine ⟨rfl,hg,?_⟩
 match R,hz with
 |.ok s,hz=>exact ⟨hz,trivial⟩
 |.error y,hz=>exact ⟨hz,trivial⟩
def kP:PX→PX
 |.ok s=>.error (bR s)
 |.error y=>.error y
theorem kO {W:World}{lo b:Nat}{R:PX} (h:Zr lo W b R):Calls Tryz.prog 42 #[.pointer (some ⟨b,0,none⟩)] W fun e w=>e=.returned (.tuple #[])∧W.grownBy w (some b)∧Zr lo w b (kP R):=by
 refine (mQ h.1).mono ?_
 rintro e w ⟨rfl,hg,hz⟩
 refine ⟨rfl,hg,?_⟩
 match R,h,hz with
 |.ok s,h,hz=>exact ⟨by show Zd lo w b (.error (bR s));rw[←nM h.2.en];exact hz,trivial⟩
 |.error y,_,hz=>exact ⟨hz,trivial⟩
def kK:PX→PX
 |.ok s=>.ok s.nx
 |.error y=>.error y
theorem Zr.next {lo b:Nat}{W:World}{R:PX} (h:Zr lo W b R) (hp:∀s,R=.ok s→0<s.ts.length):∃i:Int,W.cell? ⟨b,1,none⟩=some (.int .i64 i)∧W.frozen? ⟨b,1,none⟩=false∧(∀z,(∀s,R=.ok s→z=i+1)→W.grownBy (W.setCell ⟨b,1,none⟩ (.int .i64 z)) (some b)∧Zr lo (W.setCell ⟨b,1,none⟩ (.int .i64 z)) b (kK R))∧(∀s,R=.ok s→0≤i∧i≤16384):=by
 match R,h,hp with
 |.error y,h,hp =>
  obtain ⟨i,c,f,hz,hi⟩:=h.1.next (fun s e=>by cases e)
  exact ⟨i,c,f,fun z hzz=>⟨(hz z (fun s e=>by cases e)).1,(hz z (fun s e=>by cases e)).2,trivial⟩,fun s e=>by cases e⟩
 |.ok s,h,hp =>
  obtain ⟨i,c,f,hz,hi⟩:=h.1.next (fun s' e=>by cases e;exact hp s rfl)
  refine ⟨i,c,f,fun z hzz=>?_,fun s' e=>hi (zs s) rfl⟩
  obtain ⟨g1,z1⟩:=hz z (fun s' _=>hzz s rfl)
  exact ⟨g1,z1,h.2.nx⟩
theorem eR {s:ay} (he:s.en.kind=5) {k:Int}{x:ByteArray} (h:aJ s.here k x=true) (hk:k≠5):0<s.ts.length:=by
 unfold aJ at h
 rw[Bool.and_eq_true] at h
 have h1:s.here.kind=k:=by simpa using h.1
 exact bN he (by rw[h1];exact hk)
theorem Zr.err {lo b:Nat}{W:World}{R:PX} (h:Zr lo W b R):∃er:Int,W.cell? ⟨b,4,none⟩=some (.int .i64 er)∧(er==0)=(match R with|.ok _=>true|.error _=>false):=by
 obtain ⟨⟨hl,hx⟩,_⟩:=h
 match R,hx with
 |.ok s,⟨v,L,i,h1,_⟩ =>
  obtain ⟨⟨c0,c1,c2,c3,c4,c5⟩,hf⟩:=bE h1
  exact ⟨0,c4,rfl⟩
 |.error y,⟨a,n,c,i,en,ct,h1,h2⟩ =>
  obtain ⟨⟨c0,c1,c2,c3,c4,c5⟩,hf⟩:=bE h1
  exact ⟨y.1,c4,beq_eq_false_iff_ne.2 h2⟩
theorem ax {W w:World}{b k:Nat}{o:Obj} (hg:W.grownBy w (some b)) (h:W.heap[k]?=some o) (dV:k≠b):w.heap[k]?=some o:=(hg.block k (zA h).1 (by simpa using dV)).trans h
theorem seen {w:World}{g:Nat}{cs:Array Value}{t:TypeId} (h:w.heap[g]?=some (.cells cs t (0,0))):∀j,w.cell? ⟨g,j,none⟩=cs[j]?:=fun _=>cell_of_row _ _ _ _ _ _ h
theorem aS {w:World}{g:Nat}{cs:Array Value}{t:TypeId} (h:w.heap[g]?=some (.cells cs t (0,0))):∀j,w.frozen? ⟨g,j,none⟩=false:=fun _=>by simp[World.frozen?,h]
end Go.Proofs.YtjophoclfccmcaaGreatDoor
namespace Go.Proofs.YtjophoclfccmcaaGreatDoor
open Go.RowKit
def bO {α β:Type} (r:Except (Int×Int) (α×ay)) (G:α→ay→Except (Int×Int) (β×ay)):Except (Int×Int) (β×ay):=match r with
 |.ok p=>G p.1 p.2
 |.error y=>.error y
theorem aL {α β:Type} (p:α×ay) (G:α→ay→Except (Int×Int) (β×ay)):bO (.ok p) G=G p.1 p.2:=rfl
theorem gO {s:ay} (h:Gd s):bz s.begun=bO (aP s.here.spot s) (fun _ s1=>.ok ((),s1.nx)):=by
 obtain ⟨ts,en,bg,dc,op⟩:=s
 obtain rfl:bg=false:=h.bg
 have hd:dc≤4096:=h.dc
 unfold bz aP ay.begun
 by_cases hq:dc=4096
 ·subst hq
  rfl
 ·rw[if_neg (fun q=>hq q.2)]
  show _=bO (if 4096≤dc then _ else _) _
  rw[if_neg (c:=4096≤dc) (by omega)]
  rfl
theorem lf (s:ay):s.begun.here=s.here:=rfl
theorem yh {s:ay} (h:Gd s) (k:Int) (x:ByteArray):bX k x s.begun=if aJ s.here k x=true then bO (aP s.here.spot s) (fun _ s1=>.ok (true,s1.nx)) else .ok (false,s.begun):=by
 unfold bX
 rw[lf,gO h]
 by_cases hq:aJ s.here k x=true
 ·rw[if_pos hq,if_pos hq]
  cases hb:aP s.here.spot s with
  |ok p=>rfl
  |error y=>rfl
 ·rw[if_neg hq,if_neg hq]
theorem zl {s:ay} (sp:Int):aP sp s.nx=bO (aP sp s) (fun _ s1=>.ok ((),s1.nx)):=by
 unfold aP
 show (if 4096≤s.dc then _ else _)=_
 by_cases hq:4096≤s.dc
 ·rw[if_pos hq,if_pos hq];rfl
 ·rw[if_neg hq,if_neg hq];rfl
theorem Ds {s:ay} (h:Gd s):aR s.begun=bO (aR s) (fun x s1=>bO (aP s.here.spot s1) (fun _ s2=>.ok (x,s2))):=by
 rw[yi h.bg]
 unfold aR bI
 rw[lf,gO h]
 by_cases h1:s.here.kind=1
 ·rw[if_pos h1,if_pos h1]
  by_cases h2:255<s.here.text.size
  ·rw[if_pos h2,if_pos h2,if_neg (by decide)];rfl
  ·rw[if_neg h2,if_neg h2]
   by_cases h3:fw s.here.text=true
   ·rw[if_pos h3,if_pos h3,if_pos rfl]
    rw[aL]
    show _=bO (aP s.here.spot s.nx) (fun _ s2=>Except.ok (s.here.text,s2))
    rw[zl]
    cases hb:aP s.here.spot s with
    |ok p=>rfl
    |error y=>rfl
   ·rw[if_neg h3,if_neg h3,if_neg (by decide)];rfl
 ·rw[if_neg h1,if_neg h1];rfl
noncomputable def cG (s:ay):Except (Int×Int) ((ByteArray×Tk)×ay):=if s.here.kind=3 then (if (fk s.here.text).2=0 then .ok (((fk s.here.text).1,s.here),s.nx) else .error ((fk s.here.text).2,s.here.spot)) else .error (bR s)
theorem FN {s:ay} (h:s.bg=false) (ff:ByteArray→Int):bB ff s=bO (cG s) (fun p s1=>if ff p.1=0 then .ok (p.1,s1) else .error (ff p.1,p.2.spot)):=by
 unfold bB cG
 rw[fT h]
 by_cases h1:s.here.kind=3
 ·rw[if_pos h1,if_pos h1]
  by_cases h2:(fk s.here.text).2=0
  ·rw[if_pos h2,if_pos h2];rfl
  ·rw[if_neg h2,if_neg h2];rfl
 ·rw[if_neg h1,if_neg h1];rfl
theorem FO {s:ay} (h:Gd s) (ff:ByteArray→Int):bB ff s.begun=bO (cG s) (fun p s1=>if ff p.1=0 then bO (aP p.2.spot s1) (fun _ s2=>.ok (p.1,s2)) else .error (ff p.1,p.2.spot)):=by
 unfold bB cG
 rw[lf,gO h]
 by_cases h1:s.here.kind=3
 ·rw[if_pos h1,if_pos h1]
  by_cases h2:(fk s.here.text).2=0
  ·rw[if_pos h2,if_pos h2]
   show _=if ff (fk s.here.text).1=0 then bO (aP s.here.spot s.nx) _ else _
   by_cases h3:ff (fk s.here.text).1=0
   ·rw[if_pos h3,if_pos h3,zl]
    cases hb:aP s.here.spot s with
    |ok p=>rfl
    |error y=>rfl
   ·rw[if_neg h3,if_neg h3]
  ·rw[if_neg h2,if_neg h2];rfl
 ·rw[if_neg h1,if_neg h1];rfl
noncomputable def nY (less:Bool) (s:ay):Except (Int×Int) ((Int×Tk)×ay):=if s.here.kind=2 then (if (cZ s.here.text).2=0 then (if 2147483648<(cZ s.here.text).1∨(2147483647<(cZ s.here.text).1∧less=false) then .error (55,s.here.spot) else .ok ((if less=true then -(cZ s.here.text).1 else (cZ s.here.text).1,s.here),s.nx)) else .error ((cZ s.here.text).2,s.here.spot)) else .error (bR s)
noncomputable def jc (mi:Bool) (s:ay):Except (Int×Int) ((Int×Tk)×ay):=if (mi&&aJ s.here 4 ⟨#[45]⟩)=true then nY true s.nx else nY false s
def Lw:Except (Int×Int) ((Int×Tk)×ay)→Except (Int×Int) (Int×ay)
 |.ok p=>.ok (p.1.1,p.2)
 |.error y=>.error y
noncomputable def cE (en:Bool) (s:ay):Except (Int×Int) ((Int×Tk)×ay):=bO (jc en s) (fun p s1=>if en=false∧(p.1<1∨536870911<p.1) then .error (55,p.2.spot) else .ok (p,s1))
theorem yq {s:ay} (h:s.bg=false) (lo hi:Int) (m:Bool) (ji:(m=true∧lo=-2147483648)∨(m=false∧lo≤0)) (hh:hi=2147483647):iA lo hi m s=Lw (nY m s):=by
 have hf:=(nZ s.here.text).1
 unfold iA nY
 rw[fT h]
 by_cases h1:s.here.kind=2
 ·rw[if_pos h1,if_pos h1]
  by_cases h2:(cZ s.here.text).2=0
  ·rw[if_pos h2,if_pos h2]
   subst hh
   obtain ⟨n,hn⟩:∃n,n=(cZ s.here.text).1:=⟨_,rfl⟩
   rw[←hn] at hf ⊢
   rcases ji with ⟨rfl,rfl⟩|⟨rfl,hl⟩
   ·rw[if_pos (rfl:true=true)]
    by_cases h3:2147483648<n
    ·rw[if_pos (by left;omega),if_pos (Or.inl h3)];rfl
    ·rw[if_neg (by omega),if_neg (fun q=>q.elim h3 (fun q=>by cases q.2))];rfl
   ·rw[if_neg Bool.false_ne_true]
    by_cases h3:2147483647<n
    ·rw[if_pos (by right;omega),if_pos (Or.inr ⟨h3,rfl⟩)];rfl
    ·rw[if_neg (by omega),if_neg (fun q=>q.elim (fun q=>by omega) (fun q=>h3 q.1))];rfl
  ·rw[if_neg h2,if_neg h2];rfl
 ·rw[if_neg h1,if_neg h1];rfl
theorem AK {s:ay} (h:s.bg=false) (lo hi:Int) (mi:Bool) (ji:(mi=true∧lo=-2147483648)∨(mi=false∧lo≤0)) (hh:hi=2147483647):cY lo hi mi s=Lw (jc mi s):=by
 unfold cY jc
 rcases ji with ⟨rfl,hl⟩|⟨rfl,hl⟩
 ·rw[if_pos rfl,cV h,Bool.true_and]
  by_cases hq:aJ s.here 4 ⟨#[45]⟩=true
  ·rw[if_pos hq,if_pos hq]
   exact yq (s:=s.nx) h lo hi true (.inl ⟨rfl,hl⟩) hh
  ·rw[if_neg hq,if_neg hq]
   exact yq h lo hi false (.inr ⟨rfl,by omega⟩) hh
 ·rw[if_neg (by decide),Bool.false_and,if_neg (by decide)]
  exact yq h lo hi false (.inr ⟨rfl,hl⟩) hh
theorem EA {s:ay} (h:s.bg=false) (lo hi:Int) (mi:Bool) (hb:(mi=true∧-2147483648≤lo∧hi=2147483647)∨(mi=false∧1≤lo∧hi=536870911)):cY lo hi mi s=Lw (bO (cE mi s) (fun p s1=>if p.1<lo then .error (55,p.2.spot) else .ok (p,s1))):=by
 have key:∀(m:Bool) (u:ay),u.bg=false→(mi=false→m=false)→iA lo hi m u=Lw (bO (bO (nY m u) (fun p s1=>if mi=false∧(p.1<1∨536870911<p.1) then .error (55,p.2.spot) else .ok (p,s1))) (fun p s1=>if p.1<lo then .error (55,p.2.spot) else .ok (p,s1))):=by
  intro m u hu hm
  have hf:=(nZ u.here.text).1
  unfold iA nY
  rw[fT hu]
  by_cases h1:u.here.kind=2
  ·rw[if_pos h1,if_pos h1]
   by_cases h2:(cZ u.here.text).2=0
   ·rw[if_pos h2,if_pos h2]
    obtain ⟨n,hn⟩:∃n,n=(cZ u.here.text).1:=⟨_,rfl⟩
    rw[←hn] at hf ⊢
    rcases hb with ⟨IB,hl,rfl⟩|⟨IB,hl,rfl⟩
    ·cases m with
     |true =>
      rw[if_pos (rfl:true=true)]
      by_cases h3:2147483648<n
      ·rw[if_pos (by left;omega),if_pos (Or.inl h3)];rfl
      ·rw[if_neg (c:=2147483648<n∨(2147483647<n∧true=false)) (fun q=>q.elim h3 (fun q=>by cases q.2))]
       rw[aL]
       dsimp only
       rw[if_neg (fun q:mi=false∧_=>by rw[IB] at q;cases q.1),aL]
       show _=Lw (if -n<lo then Except.error (55,u.here.spot) else Except.ok ((-n,u.here),u.nx))
       by_cases h4:-n<lo
       ·rw[if_pos (Or.inl h4),if_pos h4];rfl
       ·rw[if_neg (by omega),if_neg h4];rfl
     |false =>
      rw[if_neg Bool.false_ne_true]
      by_cases h3:2147483647<n
      ·rw[if_pos (by right;omega),if_pos (Or.inr ⟨h3,rfl⟩)];rfl
      ·rw[if_neg (c:=2147483648<n∨(2147483647<n∧false=false)) (fun q=>q.elim (fun q=>by omega) (fun q=>h3 q.1))]
       rw[aL]
       dsimp only
       rw[if_neg (fun q:mi=false∧_=>by rw[IB] at q;cases q.1),aL]
       show _=Lw (if n<lo then Except.error (55,u.here.spot) else Except.ok ((n,u.here),u.nx))
       by_cases h4:n<lo
       ·rw[if_pos (Or.inl h4),if_pos h4];rfl
       ·rw[if_neg (by omega),if_neg h4];rfl
    ·obtain rfl:=hm IB
     rw[if_neg Bool.false_ne_true]
     by_cases h3:2147483647<n
     ·rw[if_pos (by right;omega),if_pos (Or.inr ⟨h3,rfl⟩)];rfl
     ·rw[if_neg (c:=2147483648<n∨(2147483647<n∧false=false)) (fun q=>q.elim (fun q=>by omega) (fun q=>h3 q.1)),aL]
      dsimp only
      by_cases h5:n<1∨536870911<n
      ·rw[if_pos (⟨IB,h5⟩:mi=false∧(n<1∨536870911<n)),if_pos (by omega)];rfl
      ·rw[if_neg (fun q:mi=false∧(n<1∨536870911<n)=>h5 q.2),aL]
       show _=Lw (if n<lo then Except.error (55,u.here.spot) else Except.ok ((n,u.here),u.nx))
       by_cases h4:n<lo
       ·rw[if_pos (Or.inl h4),if_pos h4];rfl
       ·rw[if_neg (by omega),if_neg h4];rfl
   ·rw[if_neg h2,if_neg h2];rfl
  ·rw[if_neg h1,if_neg h1];rfl
 unfold cY cE jc
 cases IB:mi with
 |true =>
  rw[if_pos rfl,cV h,Bool.true_and]
  rw[IB] at key
  by_cases hq:aJ s.here 4 ⟨#[45]⟩=true
  ·rw[if_pos hq,if_pos hq]
   exact key true s.nx h (fun q=>by cases q)
  ·rw[if_neg hq,if_neg hq]
   exact key false s h (fun q=>by cases q)
 |false =>
  rw[if_neg (by decide),Bool.false_and,if_neg (by decide)]
  rw[IB] at key
  exact key false s h (fun _=>rfl)
theorem Lh {s s1:ay}{mi:Bool}{p:Int×Tk} (h:cE mi s=.ok (p,s1)):(mi=true→-2147483648≤p.1)∧(mi=false→1≤p.1):=by
 unfold cE at h
 cases hn:jc mi s with
 |error y=>rw[hn] at h;cases h
 |ok q =>
  rw[hn,aL] at h
  have h':(if mi=false∧(q.1.1<1∨536870911<q.1.1) then Except.error ((55:Int),q.1.2.spot) else Except.ok (q.1,q.2))=Except.ok (p,s1):=h
  split at h'
  ·cases h'
  ·rename_i hc
   cases h'
   refine ⟨fun hm=>?_,fun hm=>?_⟩
   ·unfold jc at hn
    have key:∀(m:Bool) (u:ay),nY m u=.ok q→-2147483648≤q.1.1:=by
     intro m u hu
     have hf:=(nZ u.here.text).1
     unfold nY at hu
     split at hu
     ·split at hu
      ·split at hu
       ·cases hu
       ·rename_i h3
        cases hu
        cases m
        ·simp only[Bool.false_eq_true,if_false];omega
        ·simp only[if_true];simp at h3;omega
      ·cases hu
     ·cases hu
    split at hn
    ·exact key _ _ hn
    ·exact key _ _ hn
   ·have:¬(q.1.1<1∨536870911<q.1.1):=fun q=>hc ⟨hm,q⟩
    omega
theorem Ic {s:ay} (h:Gd s) (lo hi:Int) (m:Bool):iA lo hi m s.begun=bO (iA lo hi m s) (fun n s1=>bO (aP s.here.spot s1) (fun _ s2=>.ok (n,s2))):=by
 unfold iA
 rw[lf,gO h,fT h.bg]
 by_cases h1:s.here.kind=2
 ·rw[if_pos h1,if_pos h1]
  by_cases h2:(cZ s.here.text).2=0
  ·rw[if_pos h2,if_pos h2]
   obtain ⟨k,hk⟩:∃k,(if m=true then -(cZ s.here.text).1 else (cZ s.here.text).1)=k:=⟨_,rfl⟩
   rw[hk]
   by_cases h3:k<lo∨hi<k
   ·rw[if_pos h3,if_pos h3];rfl
   ·rw[if_neg h3,if_neg h3]
    show _=bO (Except.ok (k,s.nx)) (fun n s1=>bO (aP s.here.spot s1) (fun _ s2=>Except.ok (n,s2)))
    rw[aL]
    show _=bO (aP s.here.spot s.nx) (fun _ s2=>Except.ok (k,s2))
    rw[zl]
    cases hb:aP s.here.spot s with
    |ok p=>rfl
    |error y=>rfl
  ·rw[if_neg h2,if_neg h2];rfl
 ·rw[if_neg h1,if_neg h1];rfl
theorem J9 {s:ay} (h:Gd s) (lo hi:Int) (mi:Bool):cY lo hi mi s.begun=if (mi&&aJ s.here 4 ⟨#[45]⟩)=true then bO (aP s.here.spot s) (fun _ s1=>cY lo hi mi s1) else bO (cY lo hi mi s) (fun n s1=>bO (aP s.here.spot s1) (fun _ s2=>.ok (n,s2))):=by
 unfold cY
 cases mi with
 |true =>
  rw[if_pos rfl,yh h,Bool.true_and]
  by_cases hq:aJ s.here 4 ⟨#[45]⟩=true
  ·rw[if_pos hq,if_pos hq]
   unfold aP
   by_cases hd:4096≤s.dc
   ·rw[if_pos hd];rfl
   ·rw[if_neg hd]
    show _=(match (if true=true then bX 4 ⟨#[45]⟩ s.mr else Except.ok (false,s.mr)) with|.error e=>Except.error e|.ok (m,s1)=>iA lo hi m s1)
    rw[if_pos rfl,cV (s:=s.mr) h.bg,if_pos (show aJ s.mr.here 4 ⟨#[45]⟩=true from hq)]
    rfl
  ·rw[if_neg hq,if_neg hq]
   show iA lo hi false s.begun=_
   rw[Ic h,if_pos rfl,cV h.bg,if_neg hq]
 |false =>
  rw[if_neg (by decide),Bool.false_and,if_neg (by decide)]
  show iA lo hi false s.begun=_
  rw[Ic h,if_neg (by decide)]
end Go.Proofs.YtjophoclfccmcaaGreatDoor
