import Derived.Test.YtjophoclfccmcaaGreatDoorM30
import Derived.Deep.Slices
import Derived.Laws.IdiomCopy
import Derived.Laws.CopyRow
import Derived.Laws.MakeOwn
set_option maxHeartbeats 2000000
set_option maxRecDepth 100000
namespace Go.Proofs.YtjophoclfccmcaaGreatDoor
open Go.RowKit
attribute [local go_sem ↓] Go.wp_at_zero Go.wp_at_succ
noncomputable def jg (ts:List Tk):Except (Int×Int) (Fl×ay):=if 16384<ts.length then .error (2,0) else iB (cH ts)
theorem nP {W w:World}{a0 a1 a2 a3 b0 b1 b2 b3:Value} (hB:Below W.heap.size W w) (h2:w.heap[W.heap.size]?=some (.cells #[a0,a1,a2,a3] 27 (0,0))) (h3:w.heap[W.heap.size+1]?=some (.cells #[b0,b1,b2,b3] 30 (0,0))) (c0 c1 c2 c3 d0 d1 d2 d3:Value) :
  Ct W.heap.size (W.heap.size+1) #[c0,c1,c2,c3] #[d0,d1,d2,d3] w (gN (gN w W.heap.size c0 c1 c2 c3) (W.heap.size+1) d0 d1 d2 d3)∧Below W.heap.size W (gN (gN w W.heap.size c0 c1 c2 c3) (W.heap.size+1) d0 d1 d2 d3):=by
 have EW:=Pg (by omega) h2 h3 c0 c1 c2 c3 d0 d1 d2 d3
 refine ⟨EW,?_⟩
 obtain ⟨_,_,o1,o2,o3,o4,o5⟩:=EW
 exact hB.trans ⟨o1,o2,o3,o4,fun k hk=>o5 k (by have:=hB.size;omega) (by omega) (by omega)⟩
theorem AH {W W0 w:World}{r:Except (Int×Int) (Fl×ay)}{e:Ending}{a0 a1 a2 a3 b0 b1 b2 b3:Value} (VV:Below W.heap.size W W0) (hl:W.heap.size+2≤W0.heap.size) (h2:W0.heap[W.heap.size]?=some (.cells #[a0,a1,a2,a3] 27 (0,0))) (h3:W0.heap[W.heap.size+1]?=some (.cells #[b0,b1,b2,b3] 30 (0,0))) (h:PV W0 r e w) :
  ∃c0 ia il ic ma ml mc ea el ec er sp,e=.returned (.tuple #[.agg #[.string c0,.slice ia il ic,.slice ma ml mc,.slice ea el ec],.agg #[.int .i64 er,.int .i64 0,.int .i64 sp,.string ⟨#[]⟩]])∧w.heap[W.heap.size]?=some (.cells #[a0,a1,a2,a3] 27 (0,0))∧w.heap[W.heap.size+1]?=some (.cells #[b0,b1,b2,b3] 30 (0,0)) ∧
   (gN (gN w W.heap.size (.string c0) (.slice ia il ic) (.slice ma ml mc) (.slice ea el ec)) (W.heap.size+1) (.int .i64 er) (.int .i64 0) (.int .i64 sp) (.string ⟨#[]⟩)).heap[W.heap.size]?=some (.cells #[.string c0,.slice ia il ic,.slice ma ml mc,.slice ea el ec] 27 (0,0)) ∧
   (gN (gN w W.heap.size (.string c0) (.slice ia il ic) (.slice ma ml mc) (.slice ea el ec)) (W.heap.size+1) (.int .i64 er) (.int .i64 0) (.int .i64 sp) (.string ⟨#[]⟩)).heap[W.heap.size+1]?=some (.cells #[.int .i64 er,.int .i64 0,.int .i64 sp,.string ⟨#[]⟩] 30 (0,0)) ∧
   PV W r e (gN (gN w W.heap.size (.string c0) (.slice ia il ic) (.slice ma ml mc) (.slice ea el ec)) (W.heap.size+1) (.int .i64 er) (.int .i64 0) (.int .i64 sp) (.string ⟨#[]⟩)):=by
 cases hr:r with
 |error y =>
  rw[hr] at h
  obtain ⟨rfl,hb⟩:=h
  have k2:=(hb.block W.heap.size (by omega)).trans h2
  have k3:=(hb.block (W.heap.size+1) (by omega)).trans h3
  obtain ⟨q1,q2⟩:=nP (VV.trans (hb.mono VV.size)) k2 k3 (.string ⟨#[]⟩) (.slice none 0 0) (.slice none 0 0) (.slice none 0 0) (.int .i64 y.1) (.int .i64 0) (.int .i64 y.2) (.string ⟨#[]⟩)
  exact ⟨_,_,_,_,_,_,_,_,_,_,_,_,rfl,k2,k3,q1.1,q1.2.1,rfl,q2⟩
 |ok y =>
  rw[hr] at h
  obtain ⟨fv,rfl,ZA,hb⟩:=h
  have k2:=(hb.block W.heap.size (by omega)).trans h2
  have k3:=(hb.block (W.heap.size+1) (by omega)).trans h3
  have abG:=ZA
  obtain ⟨vi,vm,ve,cm,ce,rfl,n1,n2,_,n4,_⟩:=ZA
  obtain ⟨ia,ic,e1⟩:=bZ n1.1
  obtain ⟨ma,mc,e2⟩:=bZ n2.1
  obtain ⟨ea,ec,e3⟩:=bZ n4.1
  subst e1 e2 e3
  obtain ⟨q1,q2⟩:=nP (VV.trans (hb.mono VV.size)) k2 k3 (.string y.1.iT) (.slice ia y.1.fO.length ic) (.slice ma y.1.ms.length mc) (.slice ea y.1.es.length ec) (.int .i64 0) (.int .i64 0) (.int .i64 0) (.string ⟨#[]⟩)
  refine ⟨_,_,_,_,_,_,_,_,_,_,_,_,rfl,k2,k3,q1.1,q1.2.1,_,rfl,?_,q2⟩
  obtain ⟨_,_,o1,o2,o3,o4,o5⟩:=q1
  exact oS _ _ _ _ _ _ (fun k hk hl=>⟨by omega,o5 k hl (by omega) (by omega)⟩) abG
def E9 (W:World) (er sp:Int):World:=(W.alloc (.cells #[.string ⟨#[]⟩,.slice none 0 0,.slice none 0 0,.slice none 0 0] 27)).alloc (.cells #[.int .i64 er,.int .i64 0,.int .i64 sp,.string ⟨#[]⟩] 30)
theorem al2 (W:World) (er sp:Int):Below W.heap.size W (E9 W er sp)∧(E9 W er sp).heap.size=W.heap.size+2∧(E9 W er sp).heap[W.heap.size]?=some (.cells #[.string ⟨#[]⟩,.slice none 0 0,.slice none 0 0,.slice none 0 0] 27 (0,0))∧(E9 W er sp).heap[W.heap.size+1]?=some (.cells #[.int .i64 er,.int .i64 0,.int .i64 sp,.string ⟨#[]⟩] 30 (0,0)):=by
 unfold E9
 refine ⟨((zE _ _).alloc (zD _) _).alloc (by rw[zJ];omega) _,by simp only[zJ],(Below.heap_alloc _ _ _ (by rw[zJ];omega)).trans (aH _ _),?_⟩
 have:=aH (W.alloc (.cells #[.string ⟨#[]⟩,.slice none 0 0,.slice none 0 0,.slice none 0 0] 27)) (.cells #[.int .i64 er,.int .i64 0,.int .i64 sp,.string ⟨#[]⟩] 30)
 rw[zJ] at this
 exact this
theorem mS {fn:Func}{R:Ending→World→Prop}{tm:Array Value}{w:World}{p q:Tmp}{g k:Nat}{cs ds:Array Value} (h:fn.results=#[.cell p 27,.cell q 30]) (hp:tm.getD p undef=.pointer (some ⟨g,0,none⟩)) (hq:tm.getD q undef=.pointer (some ⟨k,0,none⟩)) (hg:w.heap[g]?=some (.cells cs 27 (0,0))) (hk:w.heap[k]?=some (.cells ds 30 (0,0))) (hc:cs.size=4) (hd:ds.size=4) (hR:R (.returned (.tuple #[.agg cs,.agg ds])) w):bodyPost Tryz.prog fn R .ret ⟨tm,[]⟩ w :=
 bodyPost_ret (nU h _ _ g k 27 30 cs ds (0,0) (0,0) _ _ hp hq hg hk Tryz.underlying27 rfl (by rw[hc];exact xZ) Tryz.underlying30 rfl (by rw[hd];exact Fu)) rfl hR
theorem tG {W:World}{v:Value}{ts:List Tk} (hF:nG W) (hE:gU W) (hM:oO W) (h:dZ W W.heap.size W.heap.size v ts) (hs:∀t ∈ ts,t.text.size≤140737488355327) (hn:ts.length≤140737488355327):Calls Tryz.prog 11 #[v] W (PV W (jg ts)):=by
 obtain ⟨a,c,hv,hc,_⟩:=id h
 by_cases mE:16384<ts.length
 ·have hd:decide ((16384:Int)<(ts.length:Int))=true:=by simp;omega
  obtain ⟨br,_,jo,eL⟩:=al2 W 2 0
  have HE:Hid (PV W (jg ts) (.returned (.tuple #[.agg #[.string ⟨#[]⟩,.slice none 0 0,.slice none 0 0,.slice none 0 0],.agg #[.int .i64 2,.int .i64 0,.int .i64 0,.string ⟨#[]⟩]])) (E9 W 2 0)):=by
   show PV W (jg ts) _ _
   unfold jg
   rw[if_pos mE]
   exact ⟨rfl,br⟩
  have H1:=ab jo
  have H2:=ab eL
  unfold E9 at HE H1 H2
  subst hv
  clear h hs br jo eL mE hF hE hM
  go_enter Tryz.func11,Tryz.ntmps11
  go_wp2
  exact mS rfl rfl rfl (aa H1) (aa H2) rfl rfl (aa HE)
 ·have hd:decide ((16384:Int)<(ts.length:Int))=false:=by simp;omega
  obtain ⟨br,ck,jo,eL⟩:=al2 W 0 0
  have HF:Hid (jg ts=iB (cH ts)):=by show _=_;unfold jg;rw[if_neg mE]
  have HC:=ab (MF (hF.up br) (hE.up br) (hM.up br hM.1) (h.new br (by omega) (by omega)) hs (by omega))
  have HX:=ab (fun e w=>AH (W:=W) (r:=iB (cH ts)) (e:=e) (w:=w) br (by omega) jo eL)
  unfold E9 at HC HX
  subst hv
  clear h hs br ck jo eL mE hF hE hM
  go_enter Tryz.func11,Tryz.ntmps11
  go_wp2_with fail
  refine (aa HC).mono ?_
  intro e w1 Tw
  obtain ⟨c0,ia,il,ic,ma,ml,mc,ea,el,ec,er,sp,rfl,k2,k3,q2,q3,po⟩:=aa HX _ _ Tw
  obtain ⟨⟨y0,y1,y2,y3⟩,yf⟩:=cC k2
  obtain ⟨⟨z0,z1,z2,z3⟩,zf⟩:=cC k3
  have f0:=yf 0
  have f1:=yf 1
  have f2:=yf 2
  have f3:=yf 3
  have g0:=zf 0
  have g1:=zf 1
  have g2:=zf 2
  have g3:=zf 3
  have Q2:=ab q2
  have Q3:=ab q3
  have HE:=ab po
  unfold gN at Q2 Q3 HE
  clear Tw yf zf k2 k3 q2 q3 po HC HX
  go_wp2
  refine mS rfl rfl rfl (aa Q2) (aa Q3) rfl rfl ?_
  rw[aa HF]
  exact aa HE
noncomputable def kV (s:ByteArray):Except (Int×Int) (Fl×ay):=match nC s with
 |.inl ts=>jg (ts.map Tok.tk)
 |.inr (k,c)=>.error ((c:Int),(k:Int))
theorem QN {W:World}{B lo b:Nat}{v:Value}{ts:List Tok} (h:W.ownsRow B 38 3 v ts.length (fp ts)) (hl:W.heap.size≤lo) (hb:W.heap.size≤b):dZ W lo b v (ts.map Tok.tk):=by
 rw[Ay] at h
 have hlen:(ts.map Tok.tk).length=ts.length:=by simp
 rcases h.2 with ⟨rfl,h0⟩|⟨g,c,cur,rfl,h1,h2,h3,h4,_⟩
 ·exact ⟨none,0,by rw[hlen,h0],by rw[hlen];omega,by unfold maxLen;omega,fun hp=>by rw[hlen] at hp;omega⟩
 ·have hr:eS B W (.slice (some ⟨g,0,none⟩) ts.length c) (ts.map Tok.tk):=by unfold eS;rw[hlen];exact h
  have dB:=(zA h2).1
  refine ⟨_,c,by rw[hlen],by rw[hlen];exact h3,h4,fun hp=>⟨g,0,rfl,by omega,by omega,fun i t ht=>?_⟩⟩
  obtain ⟨x1,x2,x3⟩:=hr.cell ht
  rw[Nat.zero_add]
  exact ⟨x1,x2,x3⟩
theorem OS (s:ByteArray) (a b:Nat):(s.extract a b).size≤s.size:=by
 rw[ByteArray.size_extract]
 omega
theorem JI (s:ByteArray):∀(f k n:Nat) (ts:List Tok),mo s f k n=.inl ts→∀t ∈ ts,t.text.size≤s.size:=by
 intro f
 induction f with
 |zero=>intro k n ts h;cases h
 |succ f ih =>
  intro k n ts h
  rw[mo] at h
  split at h
  ·cases h
  ·split at h
   ·have:=Sum.inl.inj h
    rw[←this]
    intro t ht
    rw[List.mem_singleton] at ht
    subst ht
    exact Nat.zero_le _
   ·split at h
    ·cases h
    ·split at h
     ·cases hr:mo s f (gQ s (bW s s.size k).1).2.1 (n+1) with
      |inl l =>
       rw[hr] at h
       have:=Sum.inl.inj h
       have h2:=ih _ _ l hr
       rw[←this]
       intro t ht
       rcases List.mem_cons.1 ht with rfl|ht
       ·exact OS _ _ _
       ·exact h2 t ht
      |inr e=>rw[hr] at h;cases h
     ·cases h
theorem JG {s:ByteArray}{ts:List Tok} (h:nC s=.inl ts):∀t ∈ ts,t.text.size≤65536:=by
 unfold nC at h
 split at h
 ·cases h
 ·split at h
  ·cases h
  ·rename_i h1 _
   intro t ht
   have:=JI s _ _ _ ts h t ht
   omega
theorem AJ {W:World} (hF:nG W) (hE:gU W) (hM:oO W) (s:ByteArray):Calls Tryz.prog 8 #[.string s] W (PV W (kV s)):=by
 obtain ⟨br,ck,jo,eL⟩:=al2 W 0 0
 have HC:=ab (Fi (hF.up br) (hE.up br) (hM.up br hM.1) s)
 have HB:=ab br
 have Lp:=ab ck
 have HX:=ab (show (E9 W 0 0).heap[W.heap.size]?=_∧(E9 W 0 0).heap[W.heap.size+1]?=_ from ⟨jo,eL⟩)
 have Yf:=ab (show nG W∧gU W∧oO W from ⟨hF,hE,hM⟩)
 unfold E9 at HC HB Lp HX
 clear br ck jo eL hF hE hM
 go_enter Tryz.func8,Tryz.ntmps8
 go_wp2_with fail
 refine (aa HC).mono ?_
 rintro e w1 ⟨bQ,Tu⟩
 rw[aa Lp] at bQ Tu
 have OA:Below W.heap.size W w1:=(aa HB).trans (bQ.mono (by omega))
 have DQ:W.heap.size+2≤w1.heap.size:=by have:=bQ.size;have:=aa Lp;omega
 have k2:=(bQ.block W.heap.size (by omega)).trans (aa HX).1
 have k3:=(bQ.block (W.heap.size+1) (by omega)).trans (aa HX).2
 cases ht:nC s with
 |inr p =>
  obtain ⟨k,c⟩:=p
  rw[ht] at Tu
  obtain ⟨hc,rfl⟩:=Tu
  have HF:Hid (kV s=.error ((c:Int),(k:Int))):=by show _=_;unfold kV;rw[ht]
  obtain ⟨q1,q2⟩:=nP OA k2 k3 (.string ⟨#[]⟩) (.slice none 0 0) (.slice none 0 0) (.slice none 0 0) (.int .i64 (c:Int)) (.int .i64 0) (.int .i64 (k:Int)) (.string ⟨#[]⟩)
  have Q1:=ab q1
  have Q2:=ab q2
  unfold gN at Q1 Q2
  obtain ⟨⟨y0,y1,y2,y3⟩,yf⟩:=cC k2
  obtain ⟨⟨z0,z1,z2,z3⟩,zf⟩:=cC k3
  have f0:=yf 0
  have f1:=yf 1
  have f2:=yf 2
  have f3:=yf 3
  have g0:=zf 0
  have g1:=zf 1
  have g2:=zf 2
  have g3:=zf 3
  have hcz:((c:Int) != 0)=true:=by simp;omega
  clear bQ OA DQ k2 k3 ht q1 q2 yf zf hc HC
  go_wp2
  refine mS rfl rfl rfl (aa Q1).1 (aa Q1).2.1 rfl rfl ?_
  rw[aa HF]
  exact ⟨rfl,aa Q2⟩
 |inl ts =>
  rw[ht] at Tu
  obtain ⟨v,rfl,cL⟩:=Tu
  have HF:Hid (kV s=jg (ts.map Tok.tk)):=by show _=_;unfold kV;rw[ht]
  have TG:=aa Yf
  have Xv:∀t ∈ ts.map Tok.tk,t.text.size≤140737488355327:=fun t h=>by
   obtain ⟨t0,h0,rfl⟩:=List.mem_map.1 h
   have:=JG ht t0 h0
   show t0.text.size≤_
   omega
  have HT:=ab (tG (TG.1.up OA) (TG.2.1.up OA) (TG.2.2.up OA TG.2.2.1) (QN cL (zD _) (zD _)) Xv (by have:=L9 ht;simp;omega))
  have HXs:=ab (fun e w=>AH (W:=W) (r:=jg (ts.map Tok.tk)) (e:=e) (w:=w) OA DQ k2 k3)
  obtain ⟨va,vn,vc,hv⟩:=aU cL
  subst hv
  clear bQ OA DQ k2 k3 ht cL TG Xv HC
  go_wp2_with fail
  refine (aa HT).mono ?_
  intro e w2 Tw
  obtain ⟨c0,ia,il,ic,ma,ml,mc,ea,el,ec,er,sp,rfl,k2,k3,q2,q3,po⟩:=aa HXs _ _ Tw
  obtain ⟨⟨y0,y1,y2,y3⟩,yf⟩:=cC k2
  obtain ⟨⟨z0,z1,z2,z3⟩,zf⟩:=cC k3
  have f0:=yf 0
  have f1:=yf 1
  have f2:=yf 2
  have f3:=yf 3
  have g0:=zf 0
  have g1:=zf 1
  have g2:=zf 2
  have g3:=zf 3
  have Q2:=ab q2
  have Q3:=ab q3
  have HE:=ab po
  unfold gN at Q2 Q3 HE
  clear Tw yf zf k2 k3 q2 q3 po HT HXs
  go_wp2
  refine mS rfl rfl rfl (aa Q2) (aa Q3) rfl rfl ?_
  rw[aa HF]
  exact aa HE
end Go.Proofs.YtjophoclfccmcaaGreatDoor
namespace Go.Proofs.YtjophoclfccmcaaGreatDoor
open Go.ChangeShapes Go.WideShapes Go.ChangeAt Go.RowKit
def tW (W:World) (v:Value) (ls:List (List Tk)):Prop:=∃a c,v=.slice a ls.length c∧(ls.length≤c∧c≤maxLen∧(a=none→c=0))∧(0<ls.length→∃g off,a=some ⟨g,off,none⟩∧g<W.heap.size∧∀(i:Nat) (l:List Tk),ls[i]?=some l→∃u,W.cell? ⟨g,off+i,none⟩=some u∧dZ W W.heap.size W.heap.size u l)
theorem GK:Tryz.prog.cellsOf 38=3:=by kernel_rfl
theorem Et:Tryz.prog.cellsOf 36=1:=by kernel_rfl
theorem Eu:Tryz.prog.cellsOf 3=1:=by kernel_rfl
theorem GO:Tryz.prog.bytesOf 38=32:=by kernel_rfl
theorem Ev:Tryz.prog.bytesOf 36=24:=by kernel_rfl
instance : Inhabited Tk := ⟨iH⟩
theorem MM {H:Type}{enc:TypeId×Value→H}{w:World}{base:Nat}{spare:Nat→Bool}{held:Bool}{n:Nat}{a:Addr}{cs:List Value}{x:DataW H×List MemPlace}
  (h1:w.cells? base a 3=some cs) (h2:DataW.trod enc Tryz.prog w base spare held n 38 cs=some x) :
  ∃o:Tk,(w.cell? (a.add 0)=some (.int .i64 o.kind)∧w.cell? (a.add 1)=some (.int .i64 o.spot)∧w.cell? (a.add 2)=some (.string o.text))∧∃d0 d1,x.1=.agg [d0,d1,.lit (.string o.text.data.toList)]:=by
 obtain ⟨_,hlen,dD⟩:=World.cells?_some h1
 obtain ⟨xs,k,_,rfl,_,Vn,hf⟩:=DataW.trod_struct Tryz.underlying38 h2
 match xs,Vn,cs,hlen with
 |[y0,y1,y2],_,[v0,v1,v2],_ =>
  have g0:=hf 0 _ rfl
  have g1:=hf 1 _ rfl
  have g2:=hf 2 _ rfl
  simp[Eu,GL] at g0 g1 g2
  obtain ⟨n0,e0,_,f0⟩:=DataW.trod_int Tryz.underlying3 g0
  obtain ⟨n1,e1,_,f1⟩:=DataW.trod_int Tryz.underlying3 g1
  obtain ⟨s2,e2,f2,_⟩:=DataW.trod_string Tryz.underlying9 g2
  simp at e0 e1 e2
  subst e0 e1 e2
  refine ⟨⟨n0,n1,s2⟩,⟨dD 0 (by omega),dD 1 (by omega),dD 2 (by omega)⟩,y0.1,y1.1,?_⟩
  rw[f2]
  rfl
def Qd {H:Type} (l:List Tk) (d:DataW H):Prop:=l=[]∨∃e s,d=.slice e s∧l.length=e.length∧∀t ∈ l,∃d0 d1,DataW.agg [d0,d1,.lit (.string t.text.data.toList)] ∈ e
theorem MN {H:Type}{enc:TypeId×Value→H}{w:World}{base fuel:Nat}{spare:Nat→Bool}{held:Bool}{v:Value}{x:DataW H×List MemPlace}
  (h:DataW.trod enc Tryz.prog w base spare held fuel 36 [v]=some x):∃l,dZ w w.heap.size w.heap.size v l∧Qd l x.1:=by
 rcases Go.Deep.open_slice Tryz.underlying36 h with ⟨eP,rfl⟩|⟨y,len,cap,m,n',D,Pl,eP,_,hl,hm,Qm,rfl,hx⟩
 ·simp at eP
  subst eP
  exact ⟨[],⟨none,0,rfl,zD _,Nat.zero_le _,fun hp=>by simp at hp⟩,.inl rfl⟩
 ·simp at eP
  subst eP
  have hlm:len≤m:=by rw[Qm];split<;>omega
  have each:∀i,i<m→∃o:Tk,(w.cell? ((y.add (i*3)).add 0)=some (.int .i64 o.kind)∧w.cell? ((y.add (i*3)).add 1)=some (.int .i64 o.spot)∧w.cell? ((y.add (i*3)).add 2)=some (.string o.text))∧∃d0 d1,D i=.agg [d0,d1,.lit (.string o.text.data.toList)]:=by
   intro i hi
   obtain ⟨Wn,h1,h2⟩:=hx i hi
   rw[GK] at h1
   exact MM h1 h2
  obtain ⟨q,hq⟩:=Go.Deep.choose_lt each
  have fg:∀(i:Nat) (o:Tk),((List.range len).map q)[i]?=some o→i<len∧o=q i:=by
   intro i o ho
   rw[List.getElem?_map,Option.map_eq_some_iff] at ho
   obtain ⟨j,hj,rfl⟩:=ho
   rw[List.getElem?_eq_some_iff] at hj
   obtain ⟨hj,e⟩:=hj
   simp at hj e
   exact ⟨hj,by rw[e]⟩
  have hlen:((List.range len).map q).length=len:=by simp
  refine ⟨(List.range len).map q,⟨some y,cap,by rw[hlen],by omega,by omega,fun hp=>?_⟩,.inr ⟨_,_,rfl,by simp,fun t ht=>?_⟩⟩
  ·rw[hlen] at hp
   have h0:=(hq 0 (by omega)).1.1
   obtain ⟨b,off,spot⟩:=y
   have N7:spot=none:=by simpa[Addr.add] using World.cell?_spot h0
   subst N7
   have dB:b<w.heap.size:=by
    rw[Go.Deep.add_add,Go.WideShapes.add_plain] at h0
    exact World.block_lt_of_cell? w _ h0
   refine ⟨b,off,rfl,dB,by omega,fun i o ho=>?_⟩
   obtain ⟨hi,rfl⟩:=fg i o ho
   have:=(hq i (by omega)).1
   simp only[Go.WideShapes.add_plain] at this
   simpa[Nat.add_assoc] using this
  ·obtain ⟨i,hi,rfl⟩:=List.mem_map.1 ht
   have Qp:=List.mem_range.1 hi
   obtain ⟨d0,d1,hd⟩:=(hq i (by omega)).2
   exact ⟨d0,d1,by rw[←hd];exact List.mem_map.2 ⟨i,hi,rfl⟩⟩
theorem KH (W:World):tW W (.slice none 0 0) []:=⟨none,0,rfl,⟨zD _,Nat.zero_le _,fun _=>rfl⟩,fun h=>by simp at h⟩
def G4 {H:Type} (ls:List (List Tk)) (d:DataW H):Prop:=ls=[]∨∃es s,d=.slice es s∧es.length=ls.length∧∀l ∈ ls,∃d ∈ es,Qd l d
theorem FH {H:Type}{enc:TypeId×Value→H}{W:World}{base fuel len cap:Nat}{spare:Nat→Bool}{held:Bool}{a:Option Addr}{x:DataW H×List MemPlace}
  (hf:DataW.trod enc Tryz.prog W base spare held fuel 35 (Value.slice a len cap).cells.toList=some x) :
  ∃ls,tW W (.slice a len cap) ls∧G4 ls x.1:=by
 rcases Go.Deep.open_slice1 Tryz.underlying35 Et hf with ⟨eP,rfl⟩|⟨y,n,c,m,fu,V,D,Pl,eP,_,hl,hm,Qm,rfl,hx⟩
 ·simp[Value.cells] at eP
  obtain ⟨rfl,rfl,rfl⟩:=eP
  exact ⟨[],KH _,.inl rfl⟩
 ·simp[Value.cells] at eP
  obtain ⟨rfl,rfl,rfl⟩:=eP
  have hlm:len≤m:=by rw[Qm];split<;>omega
  have each:∀i,∃l,i<len→W.cell? (y.add i)=some (V i)∧dZ W W.heap.size W.heap.size (V i) l∧Qd l (D i):=fun i=>by
   by_cases hi:i<len
   ·obtain ⟨h1,h2⟩:=hx i (by omega)
    obtain ⟨l,g1,g2⟩:=MN h2
    exact ⟨l,fun _=>⟨h1,g1,g2⟩⟩
   ·exact ⟨[],fun h=>absurd h hi⟩
  obtain ⟨L,hL⟩:=Classical.axiomOfChoice each
  have hlen:((List.range len).map L).length=len:=by simp
  refine ⟨(List.range len).map L,⟨some y,cap,by rw[hlen],⟨by omega,by omega,nofun⟩,fun hp=>?_⟩,.inr ⟨_,_,rfl,by simp,fun l hl'=>?_⟩⟩
  ·rw[hlen] at hp
   obtain ⟨b,off,spot⟩:=y
   have N7:spot=none:=by simpa[Addr.add] using World.cell?_spot (hL 0 hp).1
   subst N7
   refine ⟨b,off,rfl,World.block_lt_of_cell? W _ (hL 0 hp).1,fun i l hl'=>?_⟩
   rw[List.getElem?_map] at hl'
   obtain ⟨j,hj,rfl⟩:=Option.map_eq_some_iff.1 hl'
   obtain ⟨hi,rfl⟩:i<len∧i=j:=by
    have hi:=(zB hj).1
    rw[List.length_range] at hi
    rw[List.getElem?_range hi] at hj
    exact ⟨hi,zC hj⟩
   obtain ⟨h1,h2,_⟩:=hL i hi
   exact ⟨V i,by rw[←Go.WideShapes.add_plain];exact h1,h2⟩
  ·obtain ⟨i,hi,rfl⟩:=List.mem_map.1 hl'
   exact ⟨D i,List.mem_map.2 ⟨i,hi,rfl⟩,(hL i (List.mem_range.1 hi)).2.2⟩
theorem lP {H:Type}{P:Program}{t:TypeId}{d:DataW H}{n:Nat} (hn:n ∈ d.weights P t):∀{l:List (DataW H)},d ∈ l→n ∈ DataW.weightsAll P t l
 |[],h=>by simp at h
 |e::r,h=>by
  simp only[DataW.weightsAll,List.mem_append]
  rcases List.mem_cons.1 h with rfl|h
  ·exact .inl hn
  ·exact .inr (lP hn h)
theorem Dk {H:Type}{ts:List TypeId}{ds:List (DataW H)} (h:(DataW.weightsEach Tryz.prog ts ds).all (·≤reachBytes)=true) {j:Nat}{d:DataW H}{ls:List (List Tk)} (ht:ts[j]?=some 35) (hd:ds[j]?=some d)
  (hl:G4 ls d):ls.length≤5864062014634∧∀l ∈ ls,l.length≤4398046510976∧∀t ∈ l,t.text.size≤140737488351232:=by
 rcases hl with rfl|⟨es,s,rfl,hlen,ij⟩
 ·exact ⟨by simp,fun l hl=>by simp at hl⟩
 ·have h1:=sized_slice h ht hd Tryz.underlying35
  rw[Ev,hlen,reachBytes] at h1
  refine ⟨by omega,fun l hl=>?_⟩
  obtain ⟨d,hm,eo⟩:=ij l hl
  rcases eo with rfl|⟨e,s',rfl,he,TD⟩
  ·exact ⟨by simp,fun t h=>by simp at h⟩
  have up:∀n,n ∈ (DataW.slice e s').weights Tryz.prog 36→n≤reachBytes:=fun n hn=>by
   have hw:=DataW.weights_mem_each (P:=Tryz.prog) ht hd n (by
    simp only[DataW.weights,Tryz.underlying35]
    exact zF _ (List.mem_append_left _ (lP hn hm)))
   have h3:=List.all_eq_true.1 h _ hw
   simpa using h3
  constructor
  ·have h4:=up ((e.length+s'.length)*Tryz.prog.bytesOf 38) (by simp only[DataW.weights,Tryz.underlying36];exact List.mem_cons_self)
   rw[GO,reachBytes] at h4
   omega
  ·intro t hmt
   obtain ⟨d0,d1,hd2⟩:=TD t hmt
   have h4:=up t.text.data.toList.length (by
    simp only[DataW.weights,Tryz.underlying36]
    refine zF _ (List.mem_append_left _ (lP ?_ hd2))
    simp[DataW.weights,Tryz.underlying38,DataW.weightsEach])
   rw[reachBytes] at h4
   have h5:t.text.data.toList.length=t.text.size:=rfl
   omega
end Go.Proofs.YtjophoclfccmcaaGreatDoor
namespace Go.Proofs.YtjophoclfccmcaaGreatDoor
open Go.RowKit
attribute [local go_sem ↓] Go.wp_at_zero Go.wp_at_succ
theorem tW.up {W w:World}{v:Value}{ls:List (List Tk)} (h:tW W v ls) (hb:Below W.heap.size W w):tW w v ls:=by
 obtain ⟨a,c,rfl,hm,h3⟩:=h
 refine ⟨a,c,rfl,hm,fun hp=>?_⟩
 obtain ⟨g,off,rfl,h4,h5⟩:=h3 hp
 refine ⟨g,off,rfl,Nat.lt_of_lt_of_le h4 hb.size,fun i l hl=>?_⟩
 obtain ⟨u,h6,h7⟩:=h5 i l hl
 refine ⟨u,(hb.cell (p:=⟨g,off+i,none⟩) h4).trans h6,?_⟩
 obtain ⟨a',c',rfl,k1,k2,k3⟩:=h7
 refine ⟨a',c',rfl,k1,k2,fun hp=>?_⟩
 obtain ⟨g',BA,rfl,k4,k5,k6⟩:=k3 hp
 have hs:=hb.size
 refine ⟨g',BA,rfl,by omega,by omega,fun j t ht=>?_⟩
 obtain ⟨x1,x2,x3⟩:=k6 j t ht
 exact ⟨(hb.cell (p:=⟨g',BA+j*3,none⟩) k4).trans x1,(hb.cell (p:=⟨g',BA+j*3+1,none⟩) k4).trans x2,(hb.cell (p:=⟨g',BA+j*3+2,none⟩) k4).trans x3⟩
theorem FU:∀m:Nat,(madeCells #[.int .i64 0,.int .i64 0,.string ⟨#[]⟩] (m*3)).toList=cI (List.replicate m iH):=by
 intro m
 refine List.ext_getElem? fun j=>?_
 by_cases hj:j<m*3
 ·have h1:(madeCells #[.int .i64 0,.int .i64 0,.string ⟨#[]⟩] (m*3)).toList[j]?=some ((#[.int .i64 0,.int .i64 0,.string ⟨#[]⟩]:Array Value)[j % 3]!):=by
   unfold madeCells
   rw[Array.getElem?_toList,Array.getElem?_map,Array.getElem?_range,if_pos hj]
   rfl
  rw[h1]
  have hi:(List.replicate m iH)[j / 3]?=some iH:=by rw[List.getElem?_replicate,if_pos (by omega)]
  obtain ⟨k0,k1,k2⟩:=oT _ _ _ hi
  have hm:j % 3=0∨j % 3=1∨j % 3=2:=by omega
  rcases hm with e|e|e
  ·rw[e,show j=j / 3*3 by omega,k0];rfl
  ·rw[e,show j=j / 3*3+1 by omega,k1];rfl
  ·rw[e,show j=j / 3*3+2 by omega,k2];rfl
 ·rw[List.getElem?_eq_none (by rw[Array.length_toList,size_madeCells];omega),List.getElem?_eq_none (by rw[dK,List.length_replicate];omega)]
theorem zZ {P:Program} (w:World) (dT sT ty elem:TypeId) (g o Wi ab7:Nat) (a:Addr) (UI abh:Nat) (cur:Array Value) (t:TypeId) (cs:List Value)
  (hu:P.underlying dT=some (.slice elem)) (hs:(P.info? elem).map (·.size)=some 3)
  (hg:w.heap[g]?=some (.cells cur t (0,0))) (hn:cs.length=Nat.min UI Wi*3)
  (Vt:∀j v,cs[j]?=some v→w.cell? (a.add j)=some v) (eo:o+cs.length≤cur.size) (h1:∀v ∈ cs,v.oneCell'=true) :
  (Builtin.copy_ #[dT,sT] ty #[.slice (some ⟨g,o,none⟩) Wi ab7,.slice (some a) UI abh]).run P w =
   .ok (goInt (Nat.min UI Wi)) (w.setRow g (cur.toList.take o++cs++cur.toList.drop (o+cs.length)).toArray):=by
 have hl:=run_loadCells_list (P:=P) w a cs Vt
 have yG:=run_storeCells_at P g o t cs 0 cur w hg (by simpa using eo) h1
 cases hq:P.info? elem with
 |none=>simp[hq] at hs
 |some i =>
  have hi:i.size=3:=by simpa[hq] using hs
  simp[Builtin.copy_,run_underlying hu,Builtin.lenOf,Builtin.firstCells,sizeOf,typeInfo,hq,hi,←hn,hl,yG]
def rj:Tk:=⟨9,7,⟨#[109,97,114,107]⟩⟩
theorem copied {W w:World}{B g c m:Nat}{p:Option Addr}{l:List Tk} (cL:w.ownsRow B 38 3 (.slice (some ⟨g,0,none⟩) m m) m (madeCells #[.int .i64 0,.int .i64 0,.string ⟨#[]⟩] (m*3)).toList) (hm:m=l.length+2) (h:dZ W W.heap.size W.heap.size (.slice p l.length c) l) (hb:Below W.heap.size W w) (hB:W.heap.size≤B) (ty:TypeId) :
  ∃w',(Builtin.copy_ #[36,36] ty #[.slice (some ⟨g,0,none⟩) m m,.slice p l.length c]).run Tryz.prog w=.ok (goInt (Nat.min l.length m)) w'∧eS B w' (.slice (some ⟨g,0,none⟩) m m) (l++[iH,iH])∧Below W.heap.size W w'∧w'.heap.size=w.heap.size:=by
 obtain ⟨k0,rB,Xr,U8,Xq⟩:=info_parts Tryz.ru
 have ck:(Tryz.prog.info? 38).map (·.size)=some 3:=by rw[rB];simp[U8]
 rw[FU] at cL
 obtain ⟨hl0,⟨h0,_⟩|⟨g',cap,cur,e,hBg,hg,ZD,hcm,eP,F3⟩⟩:=cL
 ·cases h0
 cases e
 have abM:cur.toList=cI (List.replicate m iH):=by rw[←F3,List.take_of_length_le (by rw[Array.length_toList,eP];omega)]
 have iL:cur.size=m*3:=eP
 obtain ⟨a',c',e',pN,fh,h3⟩:=h
 cases e'
 have hd:(cI (List.replicate m iH)).drop (l.length*3)=cI [iH,iH]:=by
  rw[hm,←List.replicate_append_replicate,nh,List.drop_append,List.drop_of_length_le (by rw[dK,List.length_replicate];omega),dK,List.length_replicate]
  simp[List.replicate]
 by_cases hp:0<l.length
 ·obtain ⟨gs,off,rfl,ZL,dV,hx⟩:=h3 hp
  have Vt:∀j v,(cI l)[j]?=some v→w.cell? ((⟨gs,off,none⟩:Addr).add j)=some v:=fun j v hj=>by
   have hjl:j<l.length*3:=by have:=(zB hj).1;rw[dK] at this;exact this
   have hq:j / 3<l.length:=by omega
   obtain ⟨t,ht⟩:∃t,l[j / 3]?=some t:=⟨_,List.getElem?_eq_getElem hq⟩
   obtain ⟨x1,x2,x3⟩:=hx _ _ ht
   obtain ⟨q0,q1,q2⟩:=oT _ _ _ ht
   rw[Go.WideShapes.add_plain]
   have hc:∀i,w.cell? ⟨gs,i,none⟩=W.cell? ⟨gs,i,none⟩:=fun i=>hb.cell (p:=⟨gs,i,none⟩) ZL
   have VA:j % 3=0∨j % 3=1∨j % 3=2:=by omega
   rcases VA with e|e|e
   ·rw[show j=j / 3*3 by omega,q0] at hj
    obtain rfl:=zC hj
    rw[hc,show off+j=off+j / 3*3 by omega]
    exact x1
   ·rw[show j=j / 3*3+1 by omega,q1] at hj
    obtain rfl:=zC hj
    rw[hc,show off+j=off+j / 3*3+1 by omega]
    exact x2
   ·rw[show j=j / 3*3+2 by omega,q2] at hj
    obtain rfl:=zC hj
    rw[hc,show off+j=off+j / 3*3+2 by omega]
    exact x3
  have abI:Nat.min l.length m=l.length:=Nat.min_eq_left (by omega)
  have abD:=zZ (P:=Tryz.prog) w 36 36 ty 38 g 0 m m ⟨gs,off,none⟩ l.length c cur 38 (cI l) Tryz.underlying36 ck hg (by rw[dK,abI]) Vt (by rw[dK,iL];omega) (yE l)
  refine ⟨_,abD,?_,below_setRow hb (by omega) _,by simp[World.setRow]⟩
  have rC:=setRow_heap w g cur (cur.toList.take 0++cI l++cur.toList.drop (0+(cI l).length)).toArray 38 _ hg
  have abH:cur.toList.take 0++cI l++cur.toList.drop (0+(cI l).length)=cI (l++[iH,iH]):=by
   rw[abM,dK,Nat.zero_add,hd,nh,List.take_zero,List.nil_append]
  rw[abH] at rC ⊢
  unfold eS
  rw[show (l++[iH,iH]).length=m by simp;omega]
  refine ⟨by rw[dK];simp;omega,.inr ⟨g,m,_,rfl,hBg,rC,ZD,hcm,?_,?_⟩⟩
  ·rw[List.size_toArray,dK];simp;omega
  ·rw[List.take_of_length_le]
   rw[dK];simp;omega
 ·have hl:l=[]:=List.eq_nil_of_length_eq_zero (by omega)
  subst hl
  have hld:∀(x:Addr),(loadCells x 0).run Tryz.prog w=.ok #[] w:=fun x=>by simpa using run_loadCells_list (P:=Tryz.prog) w x [] (by simp)
  refine ⟨w,?_,?_,hb,rfl⟩
  ·have hn:Nat.min ([]:List Tk).length m=0:=Nat.zero_min _
   cases p<;>simp[Builtin.copy_,run_underlying Tryz.underlying36,Builtin.lenOf,Builtin.firstCells,sizeOf,typeInfo,rB,storeCells,hld]
  ·unfold eS
   have AS:m=2:=by simpa using hm
   subst AS
   exact ⟨by rw[dK],.inr ⟨g,2,cur,rfl,hBg,hg,ZD,hcm,eP,F3⟩⟩
def tc (w:World) (v:Value) (n:Nat) (xs:List Value):Prop:=∃a c,v=.slice a n c∧n≤maxLen∧(0<n→∃g,a=some ⟨g,0,none⟩∧g<w.heap.size∧∀j x,xs[j]?=some x→w.cell? ⟨g,j,none⟩=some x)
theorem je.rd {P:Nat→Prop}{w:World}{t sz n:Nat}{v:Value}{xs:List Value} (h:je P w t sz v n xs):tc w v n xs:=by
 obtain ⟨⟨h1,⟨rfl,rfl⟩|⟨g,c,cur,rfl,h2,h3,h4,h5,h6,h7⟩⟩,_⟩:=h
 ·exact ⟨none,0,rfl,Nat.zero_le _,fun h=>absurd h (by omega)⟩
 ·refine ⟨_,c,rfl,Nat.le_trans h4 h5,fun _=>⟨g,rfl,(zA h3).1,fun j u hj=>?_⟩⟩
  rw[cell_of_row _ _ _ _ _ _ h3,←Array.getElem?_toList]
  rw[←h7,List.getElem?_take] at hj
  split at hj
  ·exact hj
  ·cases hj
theorem tc.up {w w':World}{v:Value}{n:Nat}{xs:List Value} (h:tc w v n xs) (hb:Below w.heap.size w w'):tc w' v n xs:=by
 obtain ⟨a,c,rfl,h1,h2⟩:=h
 refine ⟨a,c,rfl,h1,fun hp=>?_⟩
 obtain ⟨g,rfl,h3,h4⟩:=h2 hp
 exact ⟨g,rfl,Nat.lt_of_lt_of_le h3 hb.size,fun j x hx=>(hb.cell (p:=⟨g,j,none⟩) h3).trans (h4 j x hx)⟩
def pT (W:World) (e:Ending) (w:World):Prop:=e=.returned (.bool true)∧Below W.heap.size W w
theorem Bl (l:List ByteArray) (i:Nat) (t:ByteArray) (h:l[i]?=some t):(dR l)[i]?=some (.string t):=by
 unfold dR
 rw[List.getElem?_map,h]
 rfl
theorem OT:∀(l:List (ByteArray×Int)) (i:Nat) (p:ByteArray×Int),l[i]?=some p→(KX l)[i*2]?=some (.string p.1)∧(KX l)[i*2+1]?=some (.int .i64 p.2)
 |[],i,t,h=>by simp at h
 |x::r,0,t,h=>by
  obtain rfl:x=t:=by simpa using h
  exact ⟨rfl,rfl⟩
 |x::r,i+1,t,h=>by
  have:=OT r i t (by simpa using h)
  rw[show (i+1)*2=i*2+2 by omega]
  exact this
theorem MB:∀(l:List (Int×Int)) (i:Nat) (p:Int×Int),l[i]?=some p→(qG l)[i*2]?=some (.int .i64 p.1)∧(qG l)[i*2+1]?=some (.int .i64 p.2)
 |[],i,t,h=>by simp at h
 |x::r,0,t,h=>by
  obtain rfl:x=t:=by simpa using h
  exact ⟨rfl,rfl⟩
 |x::r,i+1,t,h=>by
  have:=MB r i t (by simpa using h)
  rw[show (i+1)*2=i*2+2 by omega]
  exact this
theorem IY:∀(l:List Fd) (i:Nat) (d:Fd),l[i]?=some d→∀j v,d.arr[j]?=some v→(mI l)[i*6+j]?=some v
 |[],i,t,h=>by simp at h
 |x::r,0,t,h=>by
  obtain rfl:x=t:=by simpa using h
  intro j v hv
  have hj:j<6:=by
   have:=(zA hv).1
   simpa[Fd.arr] using this
  show (x.arr.toList++_)[0*6+j]?=_
  rw[List.getElem?_append_left (by simp[Fd.arr];omega),Nat.zero_mul,Nat.zero_add,Array.getElem?_toList]
  exact hv
 |x::r,i+1,t,h=>by
  intro j v hv
  have:=IY r i t (by simpa using h) j v hv
  rw[show (i+1)*6+j=6+(i*6+j) by omega]
  show (x.arr.toList++mI r)[6+(i*6+j)]?=_
  rw[List.getElem?_append_right (by simp[Fd.arr])]
  simpa[Fd.arr] using this
theorem jy {W:World}{v u:Value}{l:List ByteArray} (h:tc W v l.length (dR l)) (h':tc W u l.length (dR l)):Calls Tryz.prog 17 #[v,u] W (pT W):=by
 obtain ⟨a,c,rfl,hc,h3⟩:=h
 obtain ⟨a',c',rfl,Oq,AW⟩:=h'
 have H3:=ab h3
 have H3':=ab AW
 clear h3 AW
 unfold maxLen at hc Oq
 have hll:((l.length:Int) != (l.length:Int))=false:=by simp
 go_enter Tryz.func17,Tryz.ntmps17
 go_wp2
 go_loopg [5] l.length (fun gk v5 wr=>∃(i m:Nat),v5=.int .i64 (i:Int)∧gk=l.length-i∧i≤l.length∧wr=W.drewN m)
 case atStart=>exact ⟨0,0,rfl,rfl,by omega,rfl⟩
 case round =>
  obtain ⟨i,m,rfl,eG,hi,rfl⟩:=hrel
  have jw:=ab eG
  clear eG
  by_cases dB:i<l.length
  ·obtain ⟨t,ht⟩:∃t,l[i]?=some t:=⟨_,List.getElem?_eq_getElem dB⟩
   obtain ⟨g,rfl,hg,hx⟩:=aa H3 (by omega)
   obtain ⟨g',rfl,rC,gI⟩:=aa H3' (by omega)
   have x1:=hx _ _ (Bl l i t ht)
   have y1:=gI _ _ (Bl l i t ht)
   have i0:(0:Int)≤(i:Int):=zH _
   have i1:(i:Int)<(l.length:Int):=by omega
   clear hx gI ht
   go_wp2
   go_quiet (fail)
   go_wp2
   go_roundg (l.length-(i+1))
   case measure=>have:=aa jw;omega
   case rel=>exact ⟨i+1,_,by go_num,rfl,by omega,rfl⟩
  ·obtain rfl:i=l.length:=by omega
   go_wp2
   go_ret
   exact ⟨rfl,below_drewN (zE _ _) _⟩
theorem qW {W:World}{v u:Value}{l:List (Int×Int)} (h:tc W v l.length (qG l)) (h':tc W u l.length (qG l)):Calls Tryz.prog 30 #[v,u] W (pT W):=by
 obtain ⟨a,c,rfl,hc,h3⟩:=h
 obtain ⟨a',c',rfl,Oq,AW⟩:=h'
 have H3:=ab h3
 have H3':=ab AW
 clear h3 AW
 unfold maxLen at hc Oq
 have hll:((l.length:Int) != (l.length:Int))=false:=by simp
 go_enter Tryz.func30,Tryz.ntmps30
 go_wp2
 go_loopg [5] l.length (fun gk v5 wr=>∃(i m:Nat),v5=.int .i64 (i:Int)∧gk=l.length-i∧i≤l.length∧wr=W.drewN m)
 case atStart=>exact ⟨0,0,rfl,rfl,by omega,rfl⟩
 case round =>
  obtain ⟨i,m,rfl,eG,hi,rfl⟩:=hrel
  have jw:=ab eG
  clear eG
  by_cases dB:i<l.length
  ·obtain ⟨t,ht⟩:∃t,l[i]?=some t:=⟨_,List.getElem?_eq_getElem dB⟩
   obtain ⟨g,rfl,hg,hx⟩:=aa H3 (by omega)
   obtain ⟨g',rfl,rC,gI⟩:=aa H3' (by omega)
   obtain ⟨r1,r2⟩:=MB l i t ht
   have x1:=hx _ _ r1
   have y1:=gI _ _ r1
   have x2:=hx _ _ r2
   have y2:=gI _ _ r2
   have i0:(0:Int)≤(i:Int):=zH _
   have i1:(i:Int)<(l.length:Int):=by omega
   obtain ⟨t1,t2⟩:=t
   simp only at x1 x2 y1 y2
   clear hx gI ht r1 r2
   go_wp2
   go_quiet (fail)
   go_wp2
   go_roundg (l.length-(i+1))
   case measure=>have:=aa jw;omega
   case rel=>exact ⟨i+1,_,by go_num,rfl,by omega,rfl⟩
  ·obtain rfl:i=l.length:=by omega
   go_wp2
   go_ret
   exact ⟨rfl,below_drewN (zE _ _) _⟩
end Go.Proofs.YtjophoclfccmcaaGreatDoor
