import Derived.Test.YtjophoclfccmcaaGreatDoorM33
namespace Go.Proofs.YtjophoclfccmcaaGreatDoor
open Go.RowKit
attribute [local go_sem ↓] Go.wp_at_zero Go.wp_at_succ
def zs (s:ax):ZS:=⟨s.ts,s.en.spot,s.dc⟩
abbrev PX:=Except (Int×Int) ax
def Qx:PX→ZX
 |.ok s=>.ok (zs s)
 |.error y=>.error y
structure Gd (s:ax):Prop where
 bg:s.bg=false
 en:s.en.kind=5
 sm:Sm s
 dc:s.dc≤4096
 len:s.ts.length≤16384
def lp:PX→Prop
 |.ok s=>Gd s
 |.error _=>True
def Zr (lo:Nat) (W:World) (b:Nat) (R:PX):Prop:=Zd lo W b (Qx R)∧lp R
def aT {α:Type}:Except (Int×Int) (α×ax)→PX
 |.ok p=>.ok p.2
 |.error y=>.error y
def al {α:Type} (R:PX) (F:ax→Except (Int×Int) (α×ax)):Except (Int×Int) (α×ax):=match R with
 |.ok s=>F s
 |.error y=>.error y
def ZQ {α:Type} (lo b:Nat) (W:World) (ret:α→Value) (shape:Value→Prop) (r:Except (Int×Int) (α×ax)) (e:Ending) (w:World):Prop:=W.grownBy w (some b)∧Zr lo w b (aT r)∧∃v,e=.returned v∧shape v∧∀a s,r=.ok (a,s)→v=ret a
theorem Zr.up {lo b:Nat}{W w:World}{R:PX} (h:Zr lo W b R) (hb:Below W.heap.size W w):Zr lo w b R:=⟨h.1.up hb,h.2⟩
theorem Zr.low {lo b:Nat}{W:World}{R:PX} (h:Zr lo W b R):b<lo∧lo≤W.heap.size:=h.1.1
def U4 (v:Value):Prop:=v=.tuple #[]
theorem gN {lo b:Nat}{W w:World}{X:ZX}{e:Ending}{r:Except (Int×Int) (Unit×ax)} (h:Zn lo b W X e w) (hx:X=Qx (aT r)) (hg:lp (aT r)):ZQ lo b W tV U4 r e w:=by
 obtain ⟨rfl,h1,h2⟩:=h
 exact ⟨h1,⟨hx ▸ h2,hg⟩,_,rfl,rfl,fun _ _ _=>rfl⟩
def Yb {α:Type}:Except (Int×Int) (α×ax)→Except (Int×Int) (α×ZS)
 |.ok p=>.ok (p.1,zs p.2)
 |.error y=>.error y
theorem CX {α:Type}{lo b:Nat}{W w:World}{ret:α→Value}{shape:Value→Prop}{x:Except (Int×Int) (α×ZS)}{e:Ending}{r:Except (Int×Int) (α×ax)} (h:ZP lo b W ret shape x e w) (hx:x=Yb r) (hg:lp (aT r)) (hs:∀a s,r=.ok (a,s)→shape (ret a)):ZQ lo b W ret shape r e w:=by
 obtain ⟨h1,h2⟩:=h
 subst hx
 match r,h2,hg with
 |.ok (a,s),h2,hg=>exact ⟨h1,⟨h2.2,hg⟩,_,h2.1,hs a s rfl,fun a' s' e=>by cases e;rfl⟩
 |.error y,⟨⟨v,hv,YZ⟩,h2⟩,hg=>exact ⟨h1,⟨h2,hg⟩,v,hv,YZ,fun a s e=>by cases e⟩
theorem gM {s:ax} (h:s.en.kind=5):(zs s).here.kind=s.here.kind∧(zs s).here.spot=s.here.spot∧(s.here.kind≠5→(zs s).here=s.here):=by
 unfold ZS.here ax.here zs
 cases s.ts with
 |nil=>exact ⟨h.symm,rfl,fun q=>absurd h q⟩
 |cons t r=>exact ⟨rfl,rfl,fun _=>rfl⟩
theorem CW {s:ax} (h:s.en.kind=5) {k:Int} (hk:k≠5) (x:ByteArray):aH (zs s).here k x=aH s.here k x:=by
 unfold ZS.here ax.here zs
 cases s.ts with
 |nil=>unfold aH;simp only[List.headD_nil,h,beq_eq_false_iff_ne.2 (Ne.symm hk),Bool.false_and]
 |cons t r=>rfl
def gd (R:PX) (k:Int) (x:ByteArray):Bool:=match R with
 |.ok s=>aH s.here k x
 |.error _=>false
theorem fE {R:PX}{k:Int}{x:ByteArray} (h:gd R k x=true):∃s,R=.ok s∧aH s.here k x=true:=by
 match R,h with
 |.ok s,h=>exact ⟨s,rfl,h⟩
theorem iw {W:World}{lo b:Nat}{R:PX} (h:Zr lo W b R) (k:Int) (hk:k≠5) (x:ByteArray):Calls Tryz.prog 36 #[.pointer (some ⟨b,0,none⟩),.int .i64 k,.string x] W fun e w=>e=.returned (.bool (gd R k x))∧Below W.heap.size W w:=by
 refine (wX h.1 k x).mono ?_
 rintro e w ⟨t,rfl,hb,hp⟩
 refine ⟨?_,hb⟩
 match R,h,hp with
 |.ok s,h,hp =>
  obtain rfl:t=(zs s).here:=hp
  rw[CW h.2.en hk]
  rfl
 |.error y,_,hp=>rw[BE hp hk];rfl
def EN:PX→Tk→Prop
 |.ok s,t=>t.kind=s.here.kind∧t.spot=s.here.spot∧(s.here.kind≠5→t=s.here)
 |.error _,t=>t.kind=5∧t.text=⟨#[]⟩
theorem gm {W:World}{lo b:Nat}{R:PX} (h:Zr lo W b R):Calls Tryz.prog 68 #[.pointer (some ⟨b,0,none⟩)] W fun e w=>∃t,e=.returned t.val∧Below W.heap.size W w∧EN R t:=by
 refine (kG h.1).mono ?_
 rintro e w ⟨t,rfl,hb,hp⟩
 refine ⟨t,rfl,hb,?_⟩
 match R,h,hp with
 |.ok s,h,hp =>
  obtain rfl:t=(zs s).here:=hp
  exact gM h.2.en
 |.error y,_,hp=>exact hp
def ax.nx (s:ax):ax:={ s with ts:=s.ts.tail }
theorem fZ {s:ax} (h:s.bg=false):bC s=.ok ((),s.nx):=by
 obtain ⟨ts,en,bg,dc,op⟩:=s
 obtain rfl:bg=false:=h
 rfl
theorem Gd.nx {s:ax} (h:Gd s):Gd s.nx:=⟨h.bg,h.en,fun t ht=>h.sm t (List.mem_of_mem_tail ht),h.dc,by have:=h.len;show s.ts.tail.length≤_;rw[List.length_tail];omega⟩
theorem cV {s:ax} (h:s.bg=false) (k:Int) (x:ByteArray):bX k x s=if aH s.here k x=true then .ok (true,s.nx) else .ok (false,s):=by
 unfold bX
 rw[fZ h]
theorem gR {s:ax} (h:s.bg=false) (x:ByteArray):au x s=if aH s.here 4 x=true then .ok ((),s.nx) else .error (bS s):=by
 unfold au
 rw[cV h]
 by_cases hq:aH s.here 4 x=true
 ·rw[if_pos hq,if_pos hq]
 ·rw[if_neg hq,if_neg hq]
theorem nL {s:ax} (h:s.en.kind=5):jZ (zs s)=bS s:=by
 unfold jZ bS
 rw[(gM h).1,(gM h).2.1]
theorem eZ {W:World}{lo b:Nat}{R:PX} (h:Zr lo W b R) (x:ByteArray):Calls Tryz.prog 38 #[.pointer (some ⟨b,0,none⟩),.string x] W (ZQ lo b W tV U4 (al R (au x))):=by
 refine (rZ h.1 x).mono ?_
 intro e w hz
 match R,h with
 |.error y,_=>exact gN hz rfl trivial
 |.ok s,h =>
  refine gN hz ?_ ?_
  ·show (if _ then _ else _)=Qx (aT (au x s))
   rw[CW h.2.en (by decide),gR h.2.bg,nL h.2.en]
   by_cases hq:aH s.here 4 x=true
   ·rw[if_pos hq,if_pos hq];rfl
   ·rw[if_neg hq,if_neg hq];rfl
  ·show lp (aT (au x s))
   rw[gR h.2.bg]
   by_cases hq:aH s.here 4 x=true
   ·rw[if_pos hq];exact h.2.nx
   ·rw[if_neg hq];trivial
def cn (x:ByteArray) (s:ax):Except (Int×Int) (Unit×ax):=if aH s.here 1 x=true then .ok ((),s.nx) else .error (bS s)
theorem oL {W:World}{lo b:Nat}{R:PX} (h:Zr lo W b R) (x:ByteArray):Calls Tryz.prog 65 #[.pointer (some ⟨b,0,none⟩),.string x] W (ZQ lo b W tV U4 (al R (cn x))):=by
 refine (Jw h.1 x).mono ?_
 intro e w hz
 match R,h with
 |.error y,_=>exact gN hz rfl trivial
 |.ok s,h =>
  refine gN hz ?_ ?_
  ·show (if _ then _ else _)=Qx (aT (cn x s))
   unfold cn
   rw[CW h.2.en (by decide),nL h.2.en]
   by_cases hq:aH s.here 1 x=true
   ·rw[if_pos hq,if_pos hq];rfl
   ·rw[if_neg hq,if_neg hq];rfl
  ·show lp (aT (cn x s))
   unfold cn
   by_cases hq:aH s.here 1 x=true
   ·rw[if_pos hq];exact h.2.nx
   ·rw[if_neg hq];trivial
theorem yl {s:ax} (h:s.bg=false):aQ s=if s.here.kind=1 then (if 255<s.here.text.size then .error (2,s.here.spot) else if fz s.here.text=true then .ok (s.here.text,s.nx) else .error (50,s.here.spot)) else .error (bS s):=by
 unfold aQ bM
 rw[fZ h]
 by_cases h1:s.here.kind=1
 ·rw[if_pos h1,if_pos h1]
  by_cases h2:255<s.here.text.size
  ·rw[if_pos h2,if_pos h2,if_neg (by decide)]
  ·rw[if_neg h2,if_neg h2]
   by_cases h3:fz s.here.text=true
   ·rw[if_pos h3,if_pos h3,if_pos rfl]
   ·rw[if_neg h3,if_neg h3,if_neg (by decide)]
 ·rw[if_neg h1,if_neg h1]
theorem Ym {R:PX}{t:Tk} (h:lp R) (hp:PkX (Qx R) t):t.text.size≤140737488355327:=by
 match R,h,hp with
 |.error y,_,hp=>rw[show t.text=⟨#[]⟩ from hp.2];decide
 |.ok s,h,hp =>
  obtain rfl:t=(zs s).here:=hp
  unfold ZS.here zs
  cases hl:s.ts with
  |nil=>exact (by decide:(⟨#[]⟩:ByteArray).size≤140737488355327)
  |cons a r=>exact h.sm a (by rw[hl];simp)
theorem lA {W:World}{lo b:Nat}{R:PX} (h:Zr lo W b R):Calls Tryz.prog 71 #[.pointer (some ⟨b,0,none⟩)] W (ZQ lo b W Value.string isStr (al R aQ)):=by
 refine (Jy h.1 (fun t hp=>Ym h.2 hp)).mono ?_
 intro e w hz
 match R,h with
 |.error y,_=>exact CX hz rfl trivial (fun a s e=>by cases e)
 |.ok s,h =>
  refine CX hz ?_ ?_ (fun a s' e=>⟨a,rfl,by have:=(jy (s:=s) e).2.1;omega⟩)
  ·show (if _ then _ else _)=Yb (aQ s)
   rw[yl h.2.bg,(gM h.2.en).1]
   by_cases h1:s.here.kind=1
   ·rw[if_pos h1,if_pos h1,(gM h.2.en).2.2 (by rw[h1];decide)]
    by_cases h2:255<s.here.text.size
    ·rw[if_pos h2,if_pos h2];rfl
    ·rw[if_neg h2,if_neg h2]
     by_cases h3:fz s.here.text=true
     ·rw[if_pos h3,if_pos h3];rfl
     ·rw[if_neg h3,if_neg h3];rfl
   ·rw[if_neg h1,if_neg h1,nL h.2.en];rfl
  ·show lp (aT (aQ s))
   rw[yl h.2.bg]
   split
   ·split
    ·trivial
    ·split
     ·exact h.2.nx
     ·trivial
   ·trivial
def ax.mr (s:ax):ax:={ s with dc:=s.dc+1 }
def aN (sp:Int) (s:ax):Except (Int×Int) (Unit×ax):=if 4096≤s.dc then .error (54,sp) else .ok ((),s.mr)
theorem eB {W:World}{lo b:Nat}{R:PX} (h:Zr lo W b R) (t:Tk):Calls Tryz.prog 70 #[.pointer (some ⟨b,0,none⟩),t.val] W (ZQ lo b W tV U4 (al R (aN t.spot))):=by
 refine (C0 h.1 t).mono ?_
 intro e w hz
 match R,h with
 |.error y,_=>exact gN hz rfl trivial
 |.ok s,h =>
  refine gN hz ?_ ?_
  ·show (if 4096≤s.dc then _ else _)=Qx (aT (aN t.spot s))
   unfold aN
   by_cases hq:4096≤s.dc
   ·rw[if_pos hq,if_pos hq];rfl
   ·rw[if_neg hq,if_neg hq];rfl
  ·show lp (aT (aN t.spot s))
   unfold aN
   by_cases hq:4096≤s.dc
   ·rw[if_pos hq];trivial
   ·rw[if_neg hq];exact ⟨h.2.bg,h.2.en,h.2.sm,by show s.dc+1≤4096;omega,h.2.len⟩
def dp (l:List ByteArray) (s:ax):Except (Int×Int) (Unit×ax):=if s.here.kind=1∧CK s.here.text l=true then .error (52,s.here.spot) else .ok ((),s)
theorem hJ {W:World}{lo b:Nat}{R:PX}{v:Value}{l:List ByteArray} (h:Zr lo W b R) (hv:sX W v l.length (dV l)):Calls Tryz.prog 35 #[.pointer (some ⟨b,0,none⟩),v] W (ZQ lo b W tV U4 (al R (dp l))):=by
 refine (Bp h.1 hv).mono ?_
 intro e w hz
 match R,h with
 |.error y,_=>exact gN hz rfl trivial
 |.ok s,h =>
  have hE:((zs s).here.kind=1∧CK (zs s).here.text l=true)↔(s.here.kind=1∧CK s.here.text l=true):=by
   constructor
   ·intro q
    have h1:s.here.kind=1:=(gM h.2.en).1 ▸ q.1
    rw[(gM h.2.en).2.2 (by rw[h1];decide)] at q
    exact q
   ·intro q
    rw[(gM h.2.en).2.2 (by rw[q.1];decide)]
    exact q
  refine gN hz ?_ ?_
  ·show (if _ then _ else _)=Qx (aT (dp l s))
   unfold dp
   by_cases hq:s.here.kind=1∧CK s.here.text l=true
   ·rw[if_pos (hE.2 hq),if_pos hq,(gM h.2.en).2.1];rfl
   ·rw[if_neg (fun q=>hq (hE.1 q)),if_neg hq];rfl
  ·show lp (aT (dp l s))
   unfold dp
   split
   ·trivial
   ·exact h.2
def rD (s:ax):Except (Int×Int) (Unit×ax):=if aH s.here 4 ⟨#[91]⟩=true then .error (52,s.here.spot) else au ⟨#[59]⟩ s
theorem G7 {W:World}{lo b:Nat}{R:PX} (h:Zr lo W b R):Calls Tryz.prog 75 #[.pointer (some ⟨b,0,none⟩)] W (ZQ lo b W tV U4 (al R rD)):=by
 refine (JB h.1).mono ?_
 intro e w hz
 match R,h with
 |.error y,_=>exact gN hz rfl trivial
 |.ok s,h =>
  refine gN hz ?_ ?_
  ·show (if aH (zs s).here 4 ⟨#[91]⟩=true then _ else (if aH (zs s).here 4 ⟨#[59]⟩=true then _ else _))=Qx (aT (rD s))
   unfold rD
   rw[CW h.2.en (by decide),CW h.2.en (by decide),(gM h.2.en).2.1,gR h.2.bg,nL h.2.en]
   by_cases hq:aH s.here 4 ⟨#[91]⟩=true
   ·rw[if_pos hq,if_pos hq];rfl
   ·rw[if_neg hq,if_neg hq]
    by_cases hq:aH s.here 4 ⟨#[59]⟩=true
    ·rw[if_pos hq,if_pos hq];rfl
    ·rw[if_neg hq,if_neg hq];rfl
  ·show lp (aT (rD s))
   unfold rD
   rw[gR h.2.bg]
   split
   ·trivial
   ·split
    ·exact h.2.nx
    ·trivial
def mI (er sp:Int):PX→PX
 |.ok _=>.error (er,sp)
 |.error y=>.error y
theorem gX {W:World}{lo b:Nat}{R:PX} (h:Zr lo W b R) (er sp:Int) (hz:er≠0):Calls Tryz.prog 67 #[.pointer (some ⟨b,0,none⟩),.int .i64 er,.int .i64 sp] W fun e w=>e=.returned (.tuple #[])∧W.grownBy w (some b)∧Zr lo w b (mI er sp R):=by
 refine (eA h.1 er sp hz).mono ?_
 rintro e w ⟨rfl,hg,hz⟩
 refine ⟨rfl,hg,?_⟩
 match R,hz with
 |.ok s,hz=>exact ⟨hz,trivial⟩
 |.error y,hz=>exact ⟨hz,trivial⟩
def kN:PX→PX
 |.ok s=>.error (bS s)
 |.error y=>.error y
theorem kM {W:World}{lo b:Nat}{R:PX} (h:Zr lo W b R):Calls Tryz.prog 42 #[.pointer (some ⟨b,0,none⟩)] W fun e w=>e=.returned (.tuple #[])∧W.grownBy w (some b)∧Zr lo w b (kN R):=by
 refine (mM h.1).mono ?_
 rintro e w ⟨rfl,hg,hz⟩
 refine ⟨rfl,hg,?_⟩
 match R,h,hz with
 |.ok s,h,hz=>exact ⟨by show Zd lo w b (.error (bS s));rw[←nL h.2.en];exact hz,trivial⟩
 |.error y,_,hz=>exact ⟨hz,trivial⟩
def kI:PX→PX
 |.ok s=>.ok s.nx
 |.error y=>.error y
theorem Zr.next {lo b:Nat}{W:World}{R:PX} (h:Zr lo W b R) (hp:∀s,R=.ok s→0<s.ts.length):∃i:Int,W.cell? ⟨b,1,none⟩=some (.int .i64 i)∧W.frozen? ⟨b,1,none⟩=false∧(∀z,(∀s,R=.ok s→z=i+1)→W.grownBy (W.setCell ⟨b,1,none⟩ (.int .i64 z)) (some b)∧Zr lo (W.setCell ⟨b,1,none⟩ (.int .i64 z)) b (kI R))∧(∀s,R=.ok s→0≤i∧i≤16384):=by
 match R,h,hp with
 |.error y,h,hp =>
  obtain ⟨i,c,f,hz,hi⟩:=h.1.next (fun s e=>by cases e)
  exact ⟨i,c,f,fun z hzz=>⟨(hz z (fun s e=>by cases e)).1,(hz z (fun s e=>by cases e)).2,trivial⟩,fun s e=>by cases e⟩
 |.ok s,h,hp =>
  obtain ⟨i,c,f,hz,hi⟩:=h.1.next (fun s' e=>by cases e;exact hp s rfl)
  refine ⟨i,c,f,fun z hzz=>?_,fun s' e=>hi (zs s) rfl⟩
  obtain ⟨g1,z1⟩:=hz z (fun s' _=>hzz s rfl)
  exact ⟨g1,z1,h.2.nx⟩
theorem eT {s:ax} (he:s.en.kind=5) {k:Int}{x:ByteArray} (h:aH s.here k x=true) (hk:k≠5):0<s.ts.length:=by
 unfold aH at h
 rw[Bool.and_eq_true] at h
 have h1:s.here.kind=k:=by simpa using h.1
 exact bP he (by rw[h1];exact hk)
theorem Zr.err {lo b:Nat}{W:World}{R:PX} (h:Zr lo W b R):∃er:Int,W.cell? ⟨b,4,none⟩=some (.int .i64 er)∧(er==0)=(match R with|.ok _=>true|.error _=>false):=by
 obtain ⟨⟨hl,hx⟩,_⟩:=h
 match R,hx with
 |.ok s,⟨v,L,i,h1,_⟩ =>
  obtain ⟨⟨c0,c1,c2,c3,c4,c5⟩,hf⟩:=bG h1
  exact ⟨0,c4,rfl⟩
 |.error y,⟨a,n,c,i,en,ct,h1,h2⟩ =>
  obtain ⟨⟨c0,c1,c2,c3,c4,c5⟩,hf⟩:=bG h1
  exact ⟨y.1,c4,beq_eq_false_iff_ne.2 h2⟩
theorem aw {W w:World}{b k:Nat}{o:Obj} (hg:W.grownBy w (some b)) (h:W.heap[k]?=some o) (eb:k≠b):w.heap[k]?=some o:=(hg.block k (zA h).1 (by simpa using eb)).trans h
theorem seen {w:World}{g:Nat}{cs:Array Value}{t:TypeId} (h:w.heap[g]?=some (.cells cs t (0,0))):∀j,w.cell? ⟨g,j,none⟩=cs[j]?:=fun _=>cell_of_row _ _ _ _ _ _ h
theorem frzn {w:World}{g:Nat}{cs:Array Value}{t:TypeId} (h:w.heap[g]?=some (.cells cs t (0,0))):∀j,w.frozen? ⟨g,j,none⟩=false:=fun _=>by simp[World.frozen?,h]
end Go.Proofs.YtjophoclfccmcaaGreatDoor
namespace Go.Proofs.YtjophoclfccmcaaGreatDoor
open Go.RowKit
def bQ {α β:Type} (r:Except (Int×Int) (α×ax)) (G:α→ax→Except (Int×Int) (β×ax)):Except (Int×Int) (β×ax):=match r with
 |.ok p=>G p.1 p.2
 |.error y=>.error y
theorem aK {α β:Type} (p:α×ax) (G:α→ax→Except (Int×Int) (β×ax)):bQ (.ok p) G=G p.1 p.2:=rfl
theorem gQ {s:ax} (h:Gd s):bC s.begun=bQ (aN s.here.spot s) (fun _ s1=>.ok ((),s1.nx)):=by
 obtain ⟨ts,en,bg,dc,op⟩:=s
 obtain rfl:bg=false:=h.bg
 have hd:dc≤4096:=h.dc
 unfold bC aN ax.begun
 by_cases hq:dc=4096
 ·subst hq
  rfl
 ·rw[if_neg (fun q=>hq q.2)]
  show _=bQ (if 4096≤dc then _ else _) _
  rw[if_neg (c:=4096≤dc) (by omega)]
  rfl
theorem ld (s:ax):s.begun.here=s.here:=rfl
theorem yk {s:ax} (h:Gd s) (k:Int) (x:ByteArray):bX k x s.begun=if aH s.here k x=true then bQ (aN s.here.spot s) (fun _ s1=>.ok (true,s1.nx)) else .ok (false,s.begun):=by
 unfold bX
 rw[ld,gQ h]
 by_cases hq:aH s.here k x=true
 ·rw[if_pos hq,if_pos hq]
  cases hb:aN s.here.spot s with
  |ok p=>rfl
  |error y=>rfl
 ·rw[if_neg hq,if_neg hq]
theorem zq {s:ax} (sp:Int):aN sp s.nx=bQ (aN sp s) (fun _ s1=>.ok ((),s1.nx)):=by
 unfold aN
 show (if 4096≤s.dc then _ else _)=_
 by_cases hq:4096≤s.dc
 ·rw[if_pos hq,if_pos hq];rfl
 ·rw[if_neg hq,if_neg hq];rfl
theorem Dz {s:ax} (h:Gd s):aQ s.begun=bQ (aQ s) (fun x s1=>bQ (aN s.here.spot s1) (fun _ s2=>.ok (x,s2))):=by
 rw[yl h.bg]
 unfold aQ bM
 rw[ld,gQ h]
 by_cases h1:s.here.kind=1
 ·rw[if_pos h1,if_pos h1]
  by_cases h2:255<s.here.text.size
  ·rw[if_pos h2,if_pos h2,if_neg (by decide)];rfl
  ·rw[if_neg h2,if_neg h2]
   by_cases h3:fz s.here.text=true
   ·rw[if_pos h3,if_pos h3,if_pos rfl]
    rw[aK]
    show _=bQ (aN s.here.spot s.nx) (fun _ s2=>Except.ok (s.here.text,s2))
    rw[zq]
    cases hb:aN s.here.spot s with
    |ok p=>rfl
    |error y=>rfl
   ·rw[if_neg h3,if_neg h3,if_neg (by decide)];rfl
 ·rw[if_neg h1,if_neg h1];rfl
noncomputable def cH (s:ax):Except (Int×Int) ((ByteArray×Tk)×ax):=if s.here.kind=3 then (if (ft s.here.text).2=0 then .ok (((ft s.here.text).1,s.here),s.nx) else .error ((ft s.here.text).2,s.here.spot)) else .error (bS s)
theorem FV {s:ax} (h:s.bg=false) (ff:ByteArray→Int):bE ff s=bQ (cH s) (fun p s1=>if ff p.1=0 then .ok (p.1,s1) else .error (ff p.1,p.2.spot)):=by
 unfold bE cH
 rw[fZ h]
 by_cases h1:s.here.kind=3
 ·rw[if_pos h1,if_pos h1]
  by_cases h2:(ft s.here.text).2=0
  ·rw[if_pos h2,if_pos h2];rfl
  ·rw[if_neg h2,if_neg h2];rfl
 ·rw[if_neg h1,if_neg h1];rfl
theorem FW {s:ax} (h:Gd s) (ff:ByteArray→Int):bE ff s.begun=bQ (cH s) (fun p s1=>if ff p.1=0 then bQ (aN p.2.spot s1) (fun _ s2=>.ok (p.1,s2)) else .error (ff p.1,p.2.spot)):=by
 unfold bE cH
 rw[ld,gQ h]
 by_cases h1:s.here.kind=3
 ·rw[if_pos h1,if_pos h1]
  by_cases h2:(ft s.here.text).2=0
  ·rw[if_pos h2,if_pos h2]
   show _=if ff (ft s.here.text).1=0 then bQ (aN s.here.spot s.nx) _ else _
   by_cases h3:ff (ft s.here.text).1=0
   ·rw[if_pos h3,if_pos h3,zq]
    cases hb:aN s.here.spot s with
    |ok p=>rfl
    |error y=>rfl
   ·rw[if_neg h3,if_neg h3]
  ·rw[if_neg h2,if_neg h2];rfl
 ·rw[if_neg h1,if_neg h1];rfl
noncomputable def nW (less:Bool) (s:ax):Except (Int×Int) ((Int×Tk)×ax):=if s.here.kind=2 then (if (c8 s.here.text).2=0 then (if 2147483648<(c8 s.here.text).1∨(2147483647<(c8 s.here.text).1∧less=false) then .error (55,s.here.spot) else .ok ((if less=true then -(c8 s.here.text).1 else (c8 s.here.text).1,s.here),s.nx)) else .error ((c8 s.here.text).2,s.here.spot)) else .error (bS s)
noncomputable def jb (mi:Bool) (s:ax):Except (Int×Int) ((Int×Tk)×ax):=if (mi&&aH s.here 4 ⟨#[45]⟩)=true then nW true s.nx else nW false s
def Lv:Except (Int×Int) ((Int×Tk)×ax)→Except (Int×Int) (Int×ax)
 |.ok p=>.ok (p.1.1,p.2)
 |.error y=>.error y
noncomputable def cD (en:Bool) (s:ax):Except (Int×Int) ((Int×Tk)×ax):=bQ (jb en s) (fun p s1=>if en=false∧(p.1<1∨536870911<p.1) then .error (55,p.2.spot) else .ok (p,s1))
theorem yw {s:ax} (h:s.bg=false) (lo hi:Int) (m:Bool) (jh:(m=true∧lo=-2147483648)∨(m=false∧lo≤0)) (hh:hi=2147483647):iA lo hi m s=Lv (nW m s):=by
 have hf:=(nX s.here.text).1
 unfold iA nW
 rw[fZ h]
 by_cases h1:s.here.kind=2
 ·rw[if_pos h1,if_pos h1]
  by_cases h2:(c8 s.here.text).2=0
  ·rw[if_pos h2,if_pos h2]
   subst hh
   obtain ⟨n,hn⟩:∃n,n=(c8 s.here.text).1:=⟨_,rfl⟩
   rw[←hn] at hf ⊢
   rcases jh with ⟨rfl,rfl⟩|⟨rfl,hl⟩
   ·rw[if_pos (rfl:true=true)]
    by_cases h3:2147483648<n
    ·rw[if_pos (by left;omega),if_pos (Or.inl h3)];rfl
    ·rw[if_neg (by omega),if_neg (fun q=>q.elim h3 (fun q=>by cases q.2))];rfl
   ·rw[if_neg Bool.false_ne_true]
    by_cases h3:2147483647<n
    ·rw[if_pos (by right;omega),if_pos (Or.inr ⟨h3,rfl⟩)];rfl
    ·rw[if_neg (by omega),if_neg (fun q=>q.elim (fun q=>by omega) (fun q=>h3 q.1))];rfl
  ·rw[if_neg h2,if_neg h2];rfl
 ·rw[if_neg h1,if_neg h1];rfl
theorem AP {s:ax} (h:s.bg=false) (lo hi:Int) (mi:Bool) (jh:(mi=true∧lo=-2147483648)∨(mi=false∧lo≤0)) (hh:hi=2147483647):cZ lo hi mi s=Lv (jb mi s):=by
 unfold cZ jb
 rcases jh with ⟨rfl,hl⟩|⟨rfl,hl⟩
 ·rw[if_pos rfl,cV h,Bool.true_and]
  by_cases hq:aH s.here 4 ⟨#[45]⟩=true
  ·rw[if_pos hq,if_pos hq]
   exact yw (s:=s.nx) h lo hi true (.inl ⟨rfl,hl⟩) hh
  ·rw[if_neg hq,if_neg hq]
   exact yw h lo hi false (.inr ⟨rfl,by omega⟩) hh
 ·rw[if_neg (by decide),Bool.false_and,if_neg (by decide)]
  exact yw h lo hi false (.inr ⟨rfl,hl⟩) hh
theorem EH {s:ax} (h:s.bg=false) (lo hi:Int) (mi:Bool) (hb:(mi=true∧-2147483648≤lo∧hi=2147483647)∨(mi=false∧1≤lo∧hi=536870911)):cZ lo hi mi s=Lv (bQ (cD mi s) (fun p s1=>if p.1<lo then .error (55,p.2.spot) else .ok (p,s1))):=by
 have key:∀(m:Bool) (u:ax),u.bg=false→(mi=false→m=false)→iA lo hi m u=Lv (bQ (bQ (nW m u) (fun p s1=>if mi=false∧(p.1<1∨536870911<p.1) then .error (55,p.2.spot) else .ok (p,s1))) (fun p s1=>if p.1<lo then .error (55,p.2.spot) else .ok (p,s1))):=by
  intro m u hu hm
  have hf:=(nX u.here.text).1
  unfold iA nW
  rw[fZ hu]
  by_cases h1:u.here.kind=2
  ·rw[if_pos h1,if_pos h1]
   by_cases h2:(c8 u.here.text).2=0
   ·rw[if_pos h2,if_pos h2]
    obtain ⟨n,hn⟩:∃n,n=(c8 u.here.text).1:=⟨_,rfl⟩
    rw[←hn] at hf ⊢
    rcases hb with ⟨IF,hl,rfl⟩|⟨IF,hl,rfl⟩
    ·cases m with
     |true =>
      rw[if_pos (rfl:true=true)]
      by_cases h3:2147483648<n
      ·rw[if_pos (by left;omega),if_pos (Or.inl h3)];rfl
      ·rw[if_neg (c:=2147483648<n∨(2147483647<n∧true=false)) (fun q=>q.elim h3 (fun q=>by cases q.2))]
       rw[aK]
       dsimp only
       rw[if_neg (fun q:mi=false∧_=>by rw[IF] at q;cases q.1),aK]
       show _=Lv (if -n<lo then Except.error (55,u.here.spot) else Except.ok ((-n,u.here),u.nx))
       by_cases h4:-n<lo
       ·rw[if_pos (Or.inl h4),if_pos h4];rfl
       ·rw[if_neg (by omega),if_neg h4];rfl
     |false =>
      rw[if_neg Bool.false_ne_true]
      by_cases h3:2147483647<n
      ·rw[if_pos (by right;omega),if_pos (Or.inr ⟨h3,rfl⟩)];rfl
      ·rw[if_neg (c:=2147483648<n∨(2147483647<n∧false=false)) (fun q=>q.elim (fun q=>by omega) (fun q=>h3 q.1))]
       rw[aK]
       dsimp only
       rw[if_neg (fun q:mi=false∧_=>by rw[IF] at q;cases q.1),aK]
       show _=Lv (if n<lo then Except.error (55,u.here.spot) else Except.ok ((n,u.here),u.nx))
       by_cases h4:n<lo
       ·rw[if_pos (Or.inl h4),if_pos h4];rfl
       ·rw[if_neg (by omega),if_neg h4];rfl
    ·obtain rfl:=hm IF
     rw[if_neg Bool.false_ne_true]
     by_cases h3:2147483647<n
     ·rw[if_pos (by right;omega),if_pos (Or.inr ⟨h3,rfl⟩)];rfl
     ·rw[if_neg (c:=2147483648<n∨(2147483647<n∧false=false)) (fun q=>q.elim (fun q=>by omega) (fun q=>h3 q.1)),aK]
      dsimp only
      by_cases h5:n<1∨536870911<n
      ·rw[if_pos (⟨IF,h5⟩:mi=false∧(n<1∨536870911<n)),if_pos (by omega)];rfl
      ·rw[if_neg (fun q:mi=false∧(n<1∨536870911<n)=>h5 q.2),aK]
       show _=Lv (if n<lo then Except.error (55,u.here.spot) else Except.ok ((n,u.here),u.nx))
       by_cases h4:n<lo
       ·rw[if_pos (Or.inl h4),if_pos h4];rfl
       ·rw[if_neg (by omega),if_neg h4];rfl
   ·rw[if_neg h2,if_neg h2];rfl
  ·rw[if_neg h1,if_neg h1];rfl
 unfold cZ cD jb
 cases IF:mi with
 |true =>
  rw[if_pos rfl,cV h,Bool.true_and]
  rw[IF] at key
  by_cases hq:aH s.here 4 ⟨#[45]⟩=true
  ·rw[if_pos hq,if_pos hq]
   exact key true s.nx h (fun q=>by cases q)
  ·rw[if_neg hq,if_neg hq]
   exact key false s h (fun q=>by cases q)
 |false =>
  rw[if_neg (by decide),Bool.false_and,if_neg (by decide)]
  rw[IF] at key
  exact key false s h (fun _=>rfl)
theorem Li {s s1:ax}{mi:Bool}{p:Int×Tk} (h:cD mi s=.ok (p,s1)):(mi=true→-2147483648≤p.1)∧(mi=false→1≤p.1):=by
 unfold cD at h
 cases hn:jb mi s with
 |error y=>rw[hn] at h;cases h
 |ok q =>
  rw[hn,aK] at h
  have h':(if mi=false∧(q.1.1<1∨536870911<q.1.1) then Except.error ((55:Int),q.1.2.spot) else Except.ok (q.1,q.2))=Except.ok (p,s1):=h
  split at h'
  ·cases h'
  ·rename_i hc
   cases h'
   refine ⟨fun hm=>?_,fun hm=>?_⟩
   ·unfold jb at hn
    have key:∀(m:Bool) (u:ax),nW m u=.ok q→-2147483648≤q.1.1:=by
     intro m u hu
     have hf:=(nX u.here.text).1
     unfold nW at hu
     split at hu
     ·split at hu
      ·split at hu
       ·cases hu
       ·rename_i h3
        cases hu
        cases m
        ·simp only[Bool.false_eq_true,if_false];omega
        ·simp only[if_true];simp at h3;omega
      ·cases hu
     ·cases hu
    split at hn
    ·exact key _ _ hn
    ·exact key _ _ hn
   ·have:¬(q.1.1<1∨536870911<q.1.1):=fun q=>hc ⟨hm,q⟩
    omega
theorem Ig {s:ax} (h:Gd s) (lo hi:Int) (m:Bool):iA lo hi m s.begun=bQ (iA lo hi m s) (fun n s1=>bQ (aN s.here.spot s1) (fun _ s2=>.ok (n,s2))):=by
 unfold iA
 rw[ld,gQ h,fZ h.bg]
 by_cases h1:s.here.kind=2
 ·rw[if_pos h1,if_pos h1]
  by_cases h2:(c8 s.here.text).2=0
  ·rw[if_pos h2,if_pos h2]
   obtain ⟨k,hk⟩:∃k,(if m=true then -(c8 s.here.text).1 else (c8 s.here.text).1)=k:=⟨_,rfl⟩
   rw[hk]
   by_cases h3:k<lo∨hi<k
   ·rw[if_pos h3,if_pos h3];rfl
   ·rw[if_neg h3,if_neg h3]
    show _=bQ (Except.ok (k,s.nx)) (fun n s1=>bQ (aN s.here.spot s1) (fun _ s2=>Except.ok (n,s2)))
    rw[aK]
    show _=bQ (aN s.here.spot s.nx) (fun _ s2=>Except.ok (k,s2))
    rw[zq]
    cases hb:aN s.here.spot s with
    |ok p=>rfl
    |error y=>rfl
  ·rw[if_neg h2,if_neg h2];rfl
 ·rw[if_neg h1,if_neg h1];rfl
theorem Kb {s:ax} (h:Gd s) (lo hi:Int) (mi:Bool):cZ lo hi mi s.begun=if (mi&&aH s.here 4 ⟨#[45]⟩)=true then bQ (aN s.here.spot s) (fun _ s1=>cZ lo hi mi s1) else bQ (cZ lo hi mi s) (fun n s1=>bQ (aN s.here.spot s1) (fun _ s2=>.ok (n,s2))):=by
 unfold cZ
 cases mi with
 |true =>
  rw[if_pos rfl,yk h,Bool.true_and]
  by_cases hq:aH s.here 4 ⟨#[45]⟩=true
  ·rw[if_pos hq,if_pos hq]
   unfold aN
   by_cases hd:4096≤s.dc
   ·rw[if_pos hd];rfl
   ·rw[if_neg hd]
    show _=(match (if true=true then bX 4 ⟨#[45]⟩ s.mr else Except.ok (false,s.mr)) with|.error e=>Except.error e|.ok (m,s1)=>iA lo hi m s1)
    rw[if_pos rfl,cV (s:=s.mr) h.bg,if_pos (show aH s.mr.here 4 ⟨#[45]⟩=true from hq)]
    rfl
  ·rw[if_neg hq,if_neg hq]
   show iA lo hi false s.begun=_
   rw[Ig h,if_pos rfl,cV h.bg,if_neg hq]
 |false =>
  rw[if_neg (by decide),Bool.false_and,if_neg (by decide)]
  show iA lo hi false s.begun=_
  rw[Ig h,if_neg (by decide)]
end Go.Proofs.YtjophoclfccmcaaGreatDoor
