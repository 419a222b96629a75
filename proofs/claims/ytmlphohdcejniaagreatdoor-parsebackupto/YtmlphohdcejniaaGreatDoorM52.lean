import Derived.Test.YtmlphohdcejniaaGreatDoorUD
import Derived.Test.YtmlphohdcejniaaGreatDoorM51
import Derived.Lib.LaidU8
import Derived.Test.YtmlphohdcejniaaGreatDoorCards
import Derived.Test.YtmlphohdcejniaaGreatDoorTie
import Derived.Deep.DeepHandedRow
import Derived.JoinedCond
set_option maxRecDepth 100000
namespace Go.Proofs.YtmlphohdcejniaaGreatDoor
open Go.RowKit
theorem O8 {W:World}{laid:List (String×DataW Unit)} (h:laidMet Tryz.prog laid W) (hm:("internal/strconv.uint64pow10",Rows.laid_internal_strconv_uint64pow10) ∈ laid):nI W:=by
 have h1:Lib.VarReads Tryz.prog W "internal/strconv.uint64pow10" (Lib.tabData .u64 Lib.pow10Tab):=Lib.laidMet.reads h hm
 obtain ⟨g',t',cs,fuel,p,p9,We,Lh,hd⟩:=h1
 have hg:Tryz.prog.globalNamed "internal/strconv.uint64pow10" = some 2:=by kernel_rfl
 have Ix:(Tryz.prog.globals[2]?).map (·.type)=some 175:=by kernel_rfl
 obtain rfl:=zC (hg.symm.trans p9)
 obtain rfl:=zC (Ix.symm.trans We)
 unfold nI Lib.TabIs
 rw[Lh,←Lib.cells_of_tab Tryz.underlying175 Tryz.underlying141 (by kernel_rfl) (by kernel_rfl) hd]
theorem JJ {H:Type}{d:DataW H}{n:Nat} (h:n=0∨∃e s,d=.slice e s∧n=e.length):n≤Rows.uptoBulk d:=by
 have pos:∀d:DataW H,1≤Rows.uptoBulk d:=fun d=>by
  cases d with
  |lit l=>cases l<;>simp[Rows.uptoBulk]
  |_=>simp[Rows.uptoBulk]
 have len:∀l:List (DataW H),l.length≤Rows.uptoBulkAll l:=fun l=>by
  induction l with
  |nil=>simp[Rows.uptoBulkAll]
  |cons a l ih =>
   have:=pos a
   simp only[Rows.uptoBulkAll,List.length_cons]
   omega
 rcases h with rfl|⟨e,s,rfl,rfl⟩
 ·exact Nat.zero_le _
 ·have:=len e
  simp only[Rows.uptoBulk]
  omega
theorem RH {W:World}{v:Value}{l:List Int} (h:C4 W v l) (hb:∀z ∈ l,-9223372036854775808≤z∧z≤9223372036854775807) (hn:l.length≤1048576):EY W.heap.size W v:=by
 obtain ⟨a,c,rfl,-,h3⟩:=h
 refine ⟨a,l.length,c,rfl,hn,fun hp=>?_⟩
 obtain ⟨g,off,rfl,hg,hc⟩:=h3 hp
 refine ⟨g,off,rfl,hg,hg,fun i hi=>?_⟩
 obtain ⟨z,hz⟩:∃z,l[i]?=some z:=⟨_,List.getElem?_eq_getElem hi⟩
 exact ⟨z,⟨(hb z (List.mem_of_getElem? hz)).1,(hb z (List.mem_of_getElem? hz)).2⟩,hc i z hz⟩
theorem M0 {W:World} (hF:mA W) (hE:fZ W) (hM:gD W) (hP:nI W) {F:Fl}{vi vm ve v:Value}{cm ce:List Value}{l:List Int} (hL:Rh W (.agg #[.string F.fW,vi,vm,ve]) F vi vm ve cm ce) (hz:Nn F) (h:C4 W v l) (hb:∀z ∈ l,-9223372036854775808≤z∧z≤9223372036854775807) (hn:l.length≤1048576):Calls Tryz.prog 3 #[.agg #[.string F.fW,vi,vm,ve],v] W fun e W'=>e=.returned (.bool true)∧Below W.heap.size W W':=I' hF hE hM hP hL hz (RH h hb hn)
end Go.Proofs.YtmlphohdcejniaaGreatDoor
namespace Go.Proofs.YtmlphohdcejniaaGreatDoor
open Go.ChangeShapes Go.WideShapes Go.ChangeAt Go.RowKit
theorem Cb {H:Type}{enc:TypeId×Value→H}{P:Program}{w:World}{base:Nat}{sp:Nat→Bool}{held:Bool}{fuel:Nat}{t:TypeId}{ms:_}{cs:List Value}{nm:String}{d:DataW H}{p:List MemPlace}
  (ht:P.underlying t=some (.interface ms)) (h:DataW.trod enc P w base sp held fuel t cs=some (.iface nm d,p)):∃u v,cs=[.iface u v]:=by
 cases fuel with
 |zero=>simp[DataW.trod] at h
 |succ fuel =>
  simp only[DataW.trod,ht] at h
  split at h
  all_goals first
   |exact ⟨_,_,rfl⟩
   |(simp at h;done)
   |(simp_all;done)
   |(rename_i heq _;cases heq;done)
   |(rename_i heq;cases heq;done)
theorem FX {W:World}{name nm:String}{d:DataW Unit}{g:Nat} (hg:Tryz.prog.globalNamed name=some g) (Ix:(Tryz.prog.globals[g]?).map (·.type)=some 143) (h:Lib.VarReads Tryz.prog W name (.iface nm d)):Je W g:=by
 obtain ⟨g',t',cs,fuel,p,p9,We,Lh,hd⟩:=h
 obtain rfl:=zC (hg.symm.trans p9)
 obtain rfl:=zC (Ix.symm.trans We)
 have hc:=World.var?_cell hg Lh
 obtain ⟨u,v,cn⟩:=Cb Tryz.underlying143 hd
 have h1:W.cell? ⟨g,0,none⟩=some (.iface u v):=by
  rw[hc]
  have:cs.toList[0]?=some (.iface u v):=by rw[cn];rfl
  simpa using this
 exact ⟨World.block_lt_of_cell? W _ h1,_,h1,.inr ⟨u,v,rfl⟩⟩
theorem Pa {W:World}{laid:List (String×DataW Unit)} (h:laidMet Tryz.prog laid W) (hm:("strconv.ErrSyntax",Rows.laid_strconv_ErrSyntax) ∈ laid) (UB:("strconv.ErrRange",Rows.laid_strconv_ErrRange) ∈ laid):fZ W :=
 ⟨FX (by kernel_rfl) (by kernel_rfl) (Lib.laidMet.reads h hm),FX (by kernel_rfl) (by kernel_rfl) (Lib.laidMet.reads h UB)⟩
theorem LZ:Tryz.prog.globalNamed "sigil/wire.forms" = some 0:=by kernel_rfl
theorem Es:(Tryz.prog.globals[0]?).map (·.type)=some 117:=by kernel_rfl
theorem ES:Tryz.prog.cellsOf 117=45:=by kernel_rfl
theorem yW:Tryz.prog.cellsOf 116=5:=by kernel_rfl
theorem cellsByte:Tryz.prog.cellsOf 5=1:=by kernel_rfl
theorem Ew {H:Type}{enc:TypeId×Value→H}{w:World}{base:Nat}{sp:Nat→Bool}{held:Bool}{fuel:Nat}{cs:List Value}{a b c d e:Int}{p:List MemPlace}
  (h:DataW.trod enc Tryz.prog w base sp held fuel 116 cs=some (.agg [.lit (.int .u8 a),.lit (.int .u8 b),.lit (.int .u8 c),.lit (.int .u8 d),.lit (.int .u8 e)],p)) :
  cs=[.int .u8 a,.int .u8 b,.int .u8 c,.int .u8 d,.int .u8 e]:=by
 obtain ⟨xs,k,_,hx,hlen,Ae,hf⟩:=DataW.trod_struct Tryz.underlying116 h
 rw[yW] at hlen
 match xs,Ae,cs,hlen with
 |[y0,y1,y2,y3,y4],_,[v0,v1,v2,v3,v4],_ =>
  have g0:=hf 0 _ rfl
  have g1:=hf 1 _ rfl
  have g2:=hf 2 _ rfl
  have g3:=hf 3 _ rfl
  have g4:=hf 4 _ rfl
  simp[cellsByte] at g0 g1 g2 g3 g4
  obtain ⟨n0,e0,f0,_⟩:=DataW.trod_int Tryz.underlying5 g0
  obtain ⟨n1,e1,f1,_⟩:=DataW.trod_int Tryz.underlying5 g1
  obtain ⟨n2,e2,f2,_⟩:=DataW.trod_int Tryz.underlying5 g2
  obtain ⟨n3,e3,f3,_⟩:=DataW.trod_int Tryz.underlying5 g3
  obtain ⟨n4,e4,f4,_⟩:=DataW.trod_int Tryz.underlying5 g4
  simp at e0 e1 e2 e3 e4
  subst e0 e1 e2 e3 e4 f0 f1 f2 f3 f4
  simp at hx
  obtain ⟨⟨q0,q1,q2,q3,q4⟩,_⟩:=hx
  subst q0 q1 q2 q3 q4
  rfl
theorem Bk {H:Type}{enc:TypeId×Value→H}{w:World}{base:Nat}{sp:Nat→Bool}{held:Bool}{fuel:Nat}{cs:List Value}{p:List MemPlace}
  (h:DataW.trod enc Tryz.prog w base sp held fuel 117 cs=some (Rows.laid_sigil_wire_forms,p)) :
  ∀(i:Nat) (a b c d e:Int),ka[i]?=some (a,b,c,d,e)→(cs.drop (i*5)).take 5=[.int .u8 a,.int .u8 b,.int .u8 c,.int .u8 d,.int .u8 e]:=by
 intro i a b c d e hf
 cases fuel with
 |zero=>simp[DataW.trod] at h
 |succ fuel =>
  simp only[DataW.trod,Tryz.underlying117,yW,ES] at h
  split at h
  ·obtain ⟨xs,hm,hx⟩:=Option.map_eq_some_iff.1 h
   have hi:i<9:=by
    have:=(zB hf).1
    rw[nr] at this
    exact this
   obtain ⟨y,hy,hfy⟩:=Lib.mapM_at hm i i (by simp[hi])
   have NA:xs.map (·.1)=ka.map fun z=>(DataW.agg [.lit (.int .u8 z.1),.lit (.int .u8 z.2.1),.lit (.int .u8 z.2.2.1),.lit (.int .u8 z.2.2.2.1),.lit (.int .u8 z.2.2.2.2)]:DataW H):=by
    have:=congrArg Prod.fst hx
    simpa[Rows.laid_sigil_wire_forms,ka] using this
   have h2:(xs.map (·.1))[i]?=some y.1:=by simp[hy]
   rw[NA,List.getElem?_map,hf] at h2
   simp at h2
   obtain ⟨y1,y2⟩:=y
   simp only at h2
   subst h2
   exact Ew hfy
  ·cases h
theorem O' {W:World}{laid:List (String×DataW Unit)} (h:laidMet Tryz.prog laid W) (hm:("sigil/wire.forms",Rows.laid_sigil_wire_forms) ∈ laid):mA W:=by
 obtain ⟨g',t',cs,fuel,p,p9,We,Lh,hd⟩:=Lib.laidMet.reads h hm
 obtain rfl:=zC (LZ.symm.trans p9)
 obtain rfl:=zC (Es.symm.trans We)
 have hc:=World.var?_cell LZ Lh
 have ht:=Bk hd
 have oL:∀(i j:Nat) (l:List Value) (v:Value),(cs.toList.drop (i*5)).take 5=l→j<5→l[j]?=some v→W.cell? ⟨0,i*5+j,none⟩=some v:=by
  intro i j l v hl hj hv
  rw[hc]
  subst hl
  rw[List.getElem?_take,if_pos hj,List.getElem?_drop] at hv
  simpa using hv
 refine ⟨?_,fun i a b c d e hf=>?_⟩
 ·have:=oL 0 0 _ (.int .u8 0) (ht 0 0 127 0 0 0 rfl) (by decide) rfl
  exact World.block_lt_of_cell? W _ this
 ·have hl:=ht i a b c d e hf
  have h0:=oL i 0 _ _ hl (by decide) rfl
  have h1:=oL i 1 _ _ hl (by decide) rfl
  have h2:=oL i 2 _ _ hl (by decide) rfl
  have h3:=oL i 3 _ _ hl (by decide) rfl
  have h4:=oL i 4 _ _ hl (by decide) rfl
  exact ⟨h0,h1,h2,h3,h4⟩
namespace wZ
theorem own:ownKnob Tryz.prog.godebug=none:=by kernel_rfl
theorem laidOut:laidOutB Tryz.prog=true:=by kernel_rfl
theorem MA (H:Type) (enc:TypeId×Value→H) (W:World) (base:Nat) (args:Array Value) (ds gs:List (DataW H)) (before:List MemPlace) (F:Stop.Interp)
  (Qt:∀(j:Nat) t v,Tryz.f3.params[j]?=some t→args[j]?=some v→Value.okWide Tryz.prog W .any base t v)
  (hW:DataW.Whole enc Tryz.prog Tryz.f3.params.toList (Rows.OpenSpec.upto Rows.parseBackSpec).vars false W args.toList ds gs before) (hk:Rows.uptoSmall H (ds++gs)=true) (hL:laidMetH Tryz.prog Rows.parseBackUptoRow.laid W) (OQ:W.ShapedOpen Tryz.prog) :
  Calls Tryz.prog 3 args W fun e W'=>∃v,e=.returned v∧((Rows.OpenSpec.upto Rows.parseBackSpec).at F).post enc Tryz.prog Tryz.f3 false true false false W args v W':=by
 have cZ:=Qt
 have hW':=hW
 obtain ⟨p,q,UO,hV,rfl,LB,rR⟩:=hW
 have hA:DataW.TrodAll enc Tryz.prog W 0 (fun _=>true) true Tryz.f3.params.toList args.toList ds p:=UO
 rw[Tryz.params3] at hA cZ
 obtain ⟨v0,vs0,d0,ds0,p0,q0,aaK,rfl,rfl,h0,r0⟩:=trodAll_cons hA
 obtain ⟨v1,vs1,d1,ds1,p1,q1,aaJ,rfl,rfl,h1,r1⟩:=trodAll_cons r0
 obtain ⟨rfl,rfl,rfl⟩:=trodAll_nil r1
 obtain rfl:args=#[v0,v1]:=by cases args;simp_all
 obtain ⟨rfl,rfl⟩:=trodVars_none hV
 have Xa:Rows.uptoBulkAll ([d0,d1]++[])≤1048576:=of_decide_eq_true hk
 simp only[List.append_nil,Rows.uptoBulkAll] at Xa
 have Og:=O' (laid:=Rows.parseBackUptoRow.laid) hL (.tail _ (.tail _ (.tail _ (.tail _ (.head _)))))
 have Vy:=Pa (laid:=Rows.parseBackUptoRow.laid) hL (.tail _ (.tail _ (.tail _ (.tail _ (.tail _ (.tail _ (.head _))))))) (.tail _ (.tail _ (.tail _ (.tail _ (.tail _ (.head _))))))
 have Vx:=O9 OQ
 have Vw:=O8 (laid:=Rows.parseBackUptoRow.laid) hL (.tail _ (.tail _ (.head _)))
 have k0:=h0
 have lt0:∀x ∈ p0,x.block<W.heap.size:=by obtain ⟨m,hm⟩:=k0;exact DataW.trod_lt m _ _ _ hm
 obtain ⟨cs0,rfl,-⟩:=okWide_struct Tryz.underlying26 (cZ 0 26 v0 rfl rfl)
 obtain ⟨F0,vi0,vm0,ve0,AF,yY,e0,hl0,nD⟩:=(show ∃(F:Fl) (vi vm ve:Value) (cm ce:List Value),cs0.toList=[.string F.fW,vi,vm,ve]∧Rh W (.agg #[.string F.fW,vi,vm,ve]) F vi vm ve cm ce∧Nn F by obtain ⟨fuel,hf⟩:=h0;exact Hm hf (by show Rows.uptoBulk d0≤_;omega))
 obtain rfl:cs0=#[.string F0.fW,vi0,vm0,ve0]:=by apply Array.toList_inj.1;exact e0
 have k1:=h1
 have lt1:∀x ∈ p1,x.block<W.heap.size:=by obtain ⟨m,hm⟩:=k1;exact DataW.trod_lt m _ _ _ hm
 obtain ⟨a1,aap,aaU,rfl⟩:=okWide_slice Tryz.underlying27 (cZ 1 27 v1 rfl rfl)
 obtain ⟨l1,Ee,bC,Lm⟩:∃l,C4 W (.slice a1 aap aaU) l∧(∀z ∈ l,-9223372036854775808≤z∧z≤9223372036854775807)∧(l.length=0∨∃e s,d1=.slice e s∧l.length=e.length):=by obtain ⟨fuel,hf⟩:=h1;exact Hj hf
 have ep:l1.length≤1048576:=by have:=JJ Lm;omega
 clear UO Qt
 refine (M0 Og Vy Vx Vw hl0 nD Ee bC ep).mono fun e W' ⟨he,ez⟩=>?_
 subst he
 exact ⟨_,rfl,_,_,_,[],_,[],hW',trodAll_mk1 (shut_bool Tryz.underlying4 _),(trodAll_cons_mk (Below.trod laidOut (by kernel_rfl) (of_decide_eq_true (by kernel_rfl)) k0 ez lt0) (trodAll_cons_mk (Below.trod laidOut (by kernel_rfl) (of_decide_eq_true (by kernel_rfl)) k1 ez lt1) trodAll_mk0)),rfl,ez.frame _,fun h=>by cases h⟩
noncomputable def qx (os:Os):World :=
 { World.holding Tryz.prog os ⟨#[.cells #[.string ⟨#[118,97,108,117,101,32,111,117,116,32,111,102,32,114,97,110,103,101]⟩] 219,.cells #[.string ⟨#[105,110,118,97,108,105,100,32,115,121,110,116,97,120]⟩] 219],#[],[]⟩ with heap:=(((((((((World.holding Tryz.prog os ⟨#[.cells #[.string ⟨#[118,97,108,117,101,32,111,117,116,32,111,102,32,114,97,110,103,101]⟩] 219,.cells #[.string ⟨#[105,110,118,97,108,105,100,32,115,121,110,116,97,120]⟩] 219],#[],[]⟩).heap.modify 7 fun|.cells _ t frozen=>.cells #[.int .u8 0,.int .u8 1,.int .u8 28,.int .u8 2,.int .u8 29,.int .u8 14,.int .u8 24,.int .u8 3,.int .u8 30,.int .u8 22,.int .u8 20,.int .u8 15,.int .u8 25,.int .u8 17,.int .u8 4,.int .u8 8,.int .u8 31,.int .u8 27,.int .u8 13,.int .u8 23,.int .u8 21,.int .u8 19,.int .u8 16,.int .u8 7,.int .u8 26,.int .u8 12,.int .u8 18,.int .u8 6,.int .u8 11,.int .u8 5,.int .u8 10,.int .u8 9] t frozen|o=>o).modify 8 fun|.cells _ t frozen=>.cells #[.int .u8 0,.int .u8 1,.int .u8 56,.int .u8 2,.int .u8 57,.int .u8 49,.int .u8 28,.int .u8 3,.int .u8 61,.int .u8 58,.int .u8 42,.int .u8 50,.int .u8 38,.int .u8 29,.int .u8 17,.int .u8 4,.int .u8 62,.int .u8 47,.int .u8 59,.int .u8 36,.int .u8 45,.int .u8 43,.int .u8 51,.int .u8 22,.int .u8 53,.int .u8 39,.int .u8 33,.int .u8 30,.int .u8 24,.int .u8 18,.int .u8 12,.int .u8 5,.int .u8 63,.int .u8 55,.int .u8 48,.int .u8 27,.int .u8 60,.int .u8 41,.int .u8 37,.int .u8 16,.int .u8 46,.int .u8 35,.int .u8 44,.int .u8 21,.int .u8 52,.int .u8 32,.int .u8 23,.int .u8 11,.int .u8 54,.int .u8 26,.int .u8 40,.int .u8 15,.int .u8 34,.int .u8 20,.int .u8 31,.int .u8 10,.int .u8 25,.int .u8 14,.int .u8 19,.int .u8 9,.int .u8 13,.int .u8 8,.int .u8 7,.int .u8 6] t frozen|o=>o).modify 2 fun|.cells _ t frozen=>.cells #[.int .u64 1,.int .u64 10,.int .u64 100,.int .u64 1000,.int .u64 10000,.int .u64 100000,.int .u64 1000000,.int .u64 10000000,.int .u64 100000000,.int .u64 1000000000,.int .u64 10000000000,.int .u64 100000000000,.int .u64 1000000000000,.int .u64 10000000000000,.int .u64 100000000000000,.int .u64 1000000000000000,.int .u64 10000000000000000,.int .u64 100000000000000000,.int .u64 1000000000000000000,.int .u64 10000000000000000000] t frozen|o=>o).modify 4 fun|.cells _ t frozen=>.cells #[.int .u8 128,.int .u8 191,.int .u8 160,.int .u8 191,.int .u8 128,.int .u8 159,.int .u8 144,.int .u8 191,.int .u8 128,.int .u8 143,.int .u8 0,.int .u8 0,.int .u8 0,.int .u8 0,.int .u8 0,.int .u8 0,.int .u8 0,.int .u8 0,.int .u8 0,.int .u8 0,.int .u8 0,.int .u8 0,.int .u8 0,.int .u8 0,.int .u8 0,.int .u8 0,.int .u8 0,.int .u8 0,.int .u8 0,.int .u8 0,.int .u8 0,.int .u8 0] t frozen|o=>o).modify 0 fun|.cells _ t frozen=>.cells #[.int .u8 0,.int .u8 127,.int .u8 0,.int .u8 0,.int .u8 0,.int .u8 194,.int .u8 223,.int .u8 1,.int .u8 128,.int .u8 191,.int .u8 224,.int .u8 224,.int .u8 2,.int .u8 160,.int .u8 191,.int .u8 225,.int .u8 236,.int .u8 2,.int .u8 128,.int .u8 191,.int .u8 237,.int .u8 237,.int .u8 2,.int .u8 128,.int .u8 159,.int .u8 238,.int .u8 239,.int .u8 2,.int .u8 128,.int .u8 191,.int .u8 240,.int .u8 240,.int .u8 3,.int .u8 144,.int .u8 191,.int .u8 241,.int .u8 243,.int .u8 3,.int .u8 128,.int .u8 191,.int .u8 244,.int .u8 244,.int .u8 3,.int .u8 128,.int .u8 143] t frozen|o=>o).modify 6 fun|.cells _ t frozen=>.cells #[.iface 217 (.pointer (some ⟨(World.settled Tryz.prog os).heap.size+0,0,none⟩))] t frozen|o=>o).modify 5 fun|.cells _ t frozen=>.cells #[.iface 217 (.pointer (some ⟨(World.settled Tryz.prog os).heap.size+1,0,none⟩))] t frozen|o=>o).modify 3 fun|.cells _ t frozen=>.cells (Go.Pinned.utf8FirstZ.map fun (n:Nat)=>Value.int .u8 (n:Int)).toArray t frozen|o=>o) }
theorem K8 (os:Os):laidMet Tryz.prog Rows.parseBackUptoRow.laid ((qx os).forCall (fun _ _=>0) ⟨#[],#[.agg #[.string .empty,.slice none 0 0,.slice none 0 0,.slice none 0 0],.slice none 0 0],[]⟩).memory :=
 laidMet_of_run' 8 (by kernel_rfl) (by kernel_rfl)
theorem reads (os:Os) {H:Type} (enc:TypeId×Value→H):∃places,DataW.whole enc Tryz.prog ((qx os).forCall (fun _ _=>0) ⟨#[],#[.agg #[.string .empty,.slice none 0 0,.slice none 0 0,.slice none 0 0],.slice none 0 0],[]⟩).memory Tryz.f3.params.toList (Rows.OpenSpec.upto Rows.parseBackSpec).vars false (#[.agg #[.string .empty,.slice none 0 0,.slice none 0 0,.slice none 0 0],.slice none 0 0]:Array Value).toList 8=some ([.agg [.lit (.string []),.nil,.nil,.nil],.nil],[],places) :=
 ⟨[],by kernel_rfl⟩
theorem lifted (os:Os) (started:os.Started) (H:Type) (enc:TypeId×Value→H) (F:Stop.Interp) :
  ReturnsInHanded {} Tryz.checked os 3 .any ((Rows.OpenSpec.upto Rows.parseBackSpec).preRow enc Tryz.prog Tryz.f3 Rows.parseBackUptoRow.domain false Rows.parseBackUptoRow.laid) (((Rows.OpenSpec.upto Rows.parseBackSpec).at F).post enc Tryz.prog Tryz.f3 false true false false):=by
 obtain ⟨places,hx⟩:=reads os enc
 refine returnsInHanded_of_row (C:=Tryz.checked) (s:=Rows.OpenSpec.upto Rows.parseBackSpec) own started (by kernel_rfl) Tryz.func3
  (witness_row_at (enc:=enc) (C:=Tryz.checked) false (qx os) #[.agg #[.string .empty,.slice none 0 0,.slice none 0 0,.slice none 0 0],.slice none 0 0] rfl (by kernel_rfl) (by kernel_rfl) (by kernel_rfl)
   (OpenSpec.preRow_of_cond 8 hx (by kernel_rfl) (fun k hk=>by obtain rfl:=(Option.some.inj hk).symm;kernel_rfl) (by kernel_rfl) (K8 os))) ?_
 intro W base args ds gs before cZ hW _ hk bR hL OQ _
 exact MA H enc W base args ds gs before F cZ hW (hk _ rfl) hL OQ
theorem said:Rows.ParseBackUptoSaid :=
 OpenClaim.holds_of_cond 3 Tryz.f3 rfl rfl rfl rfl rfl rfl rfl ⟨rfl,rfl,rfl,rfl,rfl⟩ rfl rfl rfl rfl rfl (by kernel_rfl) Tryz.func3 (by kernel_rfl)
  (of_decide_eq_true (by kernel_rfl)) (by unfold Func.isWrapper;first|(rw[if_pos (by decide +kernel)];kernel_rfl)|(rw[if_neg (by decide +kernel)];exact ⟨rfl,rfl⟩))
  (fun os started H enc _ F=>by rw[OpenClaim.pre_eq_preRow];exact lifted os started H enc F)
theorem plain (f:FuncId) (fn:Func) (hf:Tryz.pinned.checked.prog.funcNamed "sigil/sigillaw5.ParseBack" = some f) (Aj:Tryz.pinned.checked.prog.funcs[f]?=some fn) :
  true=Tryz.pinned.checked.prog.looks []∧∀(j:Nat) t,fn.params[j]?=some t→Tryz.pinned.checked.prog.wantsStandIn t=false:=by
 obtain rfl:f=3:=Option.some.inj ((show Tryz.prog.funcNamed "sigil/sigillaw5.ParseBack" = some 3 by kernel_rfl).symm.trans hf) |>.symm
 obtain rfl:fn=Tryz.f3:=(Option.some.inj (Tryz.func3.symm.trans Aj)).symm
 refine ⟨by kernel_rfl,fun j t ht=>?_⟩
 rw[Tryz.params3] at ht
 have hm:t ∈ [26,27]:=by have:=Array.mem_of_getElem? ht;simpa using this
 simp at hm
 have w26:Tryz.pinned.checked.prog.wantsStandIn 26=false:=(show Tryz.prog.wantsStandIn 26=false by kernel_rfl)
 have w27:Tryz.pinned.checked.prog.wantsStandIn 27=false:=(show Tryz.prog.wantsStandIn 27=false by kernel_rfl)
 rcases hm with rfl|rfl
 all_goals first|with_reducible exact w26|with_reducible exact w27
theorem dF:Rows.ParseBackUptoCardSaid :=
 Claim7.holds_tied_plain_at .later [] _ _ _ _ said (fun _ h=>by cases h) (by kernel_rfl) (fun _ h=>by cases h) parseBackUpto_row_tie rfl ⟨rfl,rfl⟩ (by kernel_rfl) rfl plain (by kernel_rfl)
end wZ
theorem proved:Rows.ParseBackUptoCardSaid:=wZ.dF
#print axioms proved
end Go.Proofs.YtmlphohdcejniaaGreatDoor
