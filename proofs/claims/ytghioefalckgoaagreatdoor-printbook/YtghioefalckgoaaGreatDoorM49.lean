import Derived.Test.YtghioefalckgoaaGreatDoorM48
set_option maxHeartbeats 4000000
set_option maxRecDepth 100000
namespace Go.Proofs.YtghioefalckgoaaGreatDoor
open Go.RowKit
def By (B:List Nat) (φ:(Nat→Option Nat)→Prop):Prop:=(∃u,φ u∧∀g,g ∉ B→u g=none)∧∀u u',(∀g ∈ B,u g=u' g)→φ u→φ u'
theorem By.row (v:Value) (n k:Nat):By (gL v) (fun u=>Yl u v n k):=by
 refine ⟨⟨fun g=>if g ∈ gL v then some (n*k) else none,fun b hb=>if_pos hb,fun g hg=>if_neg hg⟩,fun u u' he h b hb=>?_⟩
 rw[←he b hb]
 exact h b hb
theorem By.nil:By [] (fun _=>True):=⟨⟨fun _=>none,trivial,fun _ _=>rfl⟩,fun _ _ _ _=>trivial⟩
theorem By.app {B C:List Nat}{φ ψ:(Nat→Option Nat)→Prop} (h1:By B φ) (h2:By C ψ) (hd:(B++C).Nodup):By (B++C) (fun u=>φ u∧ψ u):=by
 obtain ⟨⟨u1,p1,n1⟩,c1⟩:=h1
 obtain ⟨⟨u2,p2,n2⟩,c2⟩:=h2
 have aay:=(List.nodup_append.1 hd).2.2
 refine ⟨⟨fun g=>if g ∈ B then u1 g else u2 g,⟨c1 u1 _ (fun g hg=>(if_pos hg).symm) p1,c2 u2 _ (fun g hg=>?_) p2⟩,fun g hg=>?_⟩,fun u u' he h=>⟨c1 u u' (fun g hg=>he g (List.mem_append_left _ hg)) h.1,c2 u u' (fun g hg=>he g (List.mem_append_right _ hg)) h.2⟩⟩
 ·show u2 g=if g ∈ B then u1 g else u2 g
  rw[if_neg (fun hb=>aay g hb g hg rfl)]
 ·show (if g ∈ B then u1 g else u2 g)=none
  rw[if_neg (fun hb=>hg (List.mem_append_left _ hb))]
  exact n2 g (fun hb=>hg (List.mem_append_right _ hb))
theorem By.iff {B:List Nat}{φ ψ:(Nat→Option Nat)→Prop} (h:By B φ) (he:∀u,φ u↔ψ u):By B ψ:=by
 obtain ⟨⟨u,p,n⟩,c⟩:=h
 exact ⟨⟨u,(he u).1 p,n⟩,fun u u' e k=>(he u').1 (c u u' e ((he u).2 k))⟩
structure Oz (used:Nat→Option Nat) (w:World) (t k:Nat) (v:Value) (n:Nat) (xs:List Value):Prop where
 ow:Ow w t k v n xs
 us:Yl used v n k
theorem Oz.eQ {used:Nat→Option Nat}{wS w:World}{t k n:Nat}{v:Value}{xs:List Value} (h:Oz used wS t k v n xs) (hg:gm used wS w):Oz used w t k v n xs:=⟨h.ow.eQ h.us hg,h.us⟩
theorem Oz.yi {w:World}{t k n:Nat}{v:Value}{xs:List Value} (h:Ow w t k v n xs):By (gL v) (fun u=>Oz u w t k v n xs):=(By.row v n k).iff fun _=>⟨fun q=>⟨h,q⟩,fun q=>q.us⟩
theorem Oz.cur {used:Nat→Option Nat}{wS w:World}{t k n:Nat}{v:Value}{xs:List Value} (h:Oz used wS t k v n xs) (hg:gm used wS w):k9 used wS w t k v n:=k9.start h.ow h.us hg
inductive ED (used:Nat→Option Nat) (w:World):List Value→List En→Prop
 |nil:ED used w [] []
 |cons {e:En} {nm:ByteArray} {vv vr vg:Value} {rest:List Value} {l:List En} (hn:nm=e.name) (h1:Oz used w 65 2 vv e.aW.length (mR e.aW)) (h2:Oz used w 83 2 vr e.res.length (eP e.res)) (h3:Oz used w 9 1 vg e.gone.length (bj e.gone)) (ht:ED used w rest l):ED used w (.string nm::vv::vr::vg::rest) (e::l)
theorem tf.yi {w:World}{cs:List Value}{l:List En}{B:List Nat} (h:tf w cs l B) (hn:B.Nodup):By B (fun u=>ED u w cs l):=by
 induction h with
 |nil=>exact By.nil.iff fun u=>⟨fun _=>.nil,fun _=>trivial⟩
 |@cons e vv vr vg rest l B h1 h2 h3 _ ih =>
  have n3:=List.nodup_append.1 hn
  have n2:=List.nodup_append.1 n3.1
  refine ((((Oz.yi h1).app (Oz.yi h2) n2.1).app (Oz.yi h3) n3.1).app (ih n3.2.1) hn).iff fun u=>⟨fun q=>.cons rfl q.1.1.1 q.1.1.2 q.1.2 q.2,fun q=>?_⟩
  cases q with
  |cons _ a b c d=>exact ⟨⟨⟨a,b⟩,c⟩,d⟩
theorem ED.eQ {used:Nat→Option Nat}{wS w:World}{cs:List Value}{l:List En} (h:ED used wS cs l) (hg:gm used wS w):ED used w cs l:=by
 induction h with
 |nil=>exact .nil
 |cons hn h1 h2 h3 _ ih=>exact .cons hn (h1.eQ hg) (h2.eQ hg) (h3.eQ hg) ih
theorem Oz.GB {used:Nat→Option Nat}{w:World}{t k n:Nat}{v:Value}{xs:List Value} (h:Oz used w t k v n xs):fW (fun g=>used g≠none) w t k v n xs:=by
 obtain ⟨⟨⟨h1,h2⟩,h3⟩,h4⟩:=h
 refine ⟨h1,h3,?_⟩
 rcases h2 with ⟨rfl,h0⟩|⟨g,cap,cur,rfl,p1,p2,p3,p4,p5,p6⟩
 ·exact .inl ⟨rfl,h0⟩
 ·exact .inr ⟨g,cap,cur,rfl,by show used g≠none;rw[h4 g (by simp[gL,Value.ownBlock])];simp,p2,p3,p4,p5,p6⟩
theorem ED.Gz {used:Nat→Option Nat}{w:World}{cs:List Value}{l:List En} (h:ED used w cs l):py (fun g=>used g≠none) w cs l:=by
 induction h with
 |nil=>exact .nil
 |cons hn h1 h2 h3 _ ih =>
  subst hn
  exact .cons h1.GB h2.GB h3.GB ih
inductive BV (used:Nat→Option Nat) (w:World):List Value→List Ms→Prop
 |nil:BV used w [] []
 |cons {nm:ByteArray} {fs:List Fd} {os:List ByteArray} {ms:List Ms} {es:List En} {rs:List (Int×Int)} {gs:List ByteArray} {vf vo vm ve vr vg:Value} {cm ce rest:List Value} {l:List Ms}
   (hf:Oz used w 53 6 vf fs.length (cC fs)) (ho:Oz used w 9 1 vo os.length (bj os)) (hm:Oz used w 57 7 vm ms.length cm) (eI:BV used w cm ms) (he:Oz used w 63 4 ve es.length ce) (ep:ED used w ce es)
   (hr:Oz used w 83 2 vr rs.length (eP rs)) (hg:Oz used w 9 1 vg gs.length (bj gs)) (hd:∀b ∈ gL vo,b ∉ gL vg) (ht:BV used w rest l):BV used w (.string nm::vf::vo::vm::ve::vr::vg::rest) (.mk nm fs os ms es rs gs::l)
theorem Ow.uniq {w:World}{t k n:Nat}{v:Value}{xs ys:List Value} (h:Ow w t k v n xs) (h':Ow w t k v n ys):xs=ys:=by
 obtain ⟨⟨h1,⟨rfl,rfl⟩|⟨g,cap,cur,rfl,p1,p2,p3,p4,p5,p6⟩⟩,-⟩:=h
 ·have h2:=h'.1.1
  rw[Nat.zero_mul] at h1 h2
  rw[List.length_eq_zero_iff.1 h1,List.length_eq_zero_iff.1 h2]
 ·obtain ⟨⟨-,⟨e,_⟩|⟨g2,R4,Dd,e,q1,q2,-,-,-,q6⟩⟩,-⟩:=h'
  ·cases e
  ·obtain ⟨rfl,rfl⟩:g=g2∧cap=R4:=by simpa using e
   rw[p2] at q2
   obtain rfl:cur=Dd:=by simpa using q2
   rw[←p6,←q6]
theorem sZ.yi {w:World}{cs:List Value}{l:List Ms}{B:List Nat} (h:sZ w cs l B) (hn:B.Nodup):By B (fun u=>BV u w cs l):=by
 induction h with
 |nil=>exact By.nil.iff fun u=>⟨fun _=>.nil,fun _=>trivial⟩
 |@cons nm fs os ms es rs gs vf vo vm ve vr vg cm ce rest l Bm Be B h1 h2 h3 _ h4 h5 h6 h7 _ q8 oU =>
  have n6:=List.nodup_append.1 hn
  have n5:=List.nodup_append.1 n6.1
  have n4:=List.nodup_append.1 n5.1
  have n3:=List.nodup_append.1 n4.1
  have n2:=List.nodup_append.1 n3.1
  have hd:∀b ∈ gL vo,b ∉ gL vg:=fun b hb hg=>n5.2.2 b (by simp[hb]) b hg rfl
  refine (((((((Oz.yi h1).app (Oz.yi h2) n2.1).app ((Oz.yi h3).app (q8 (List.nodup_append.1 n2.2.1).2.1) n2.2.1) n3.1).app ((Oz.yi h4).app (h5.yi (List.nodup_append.1 n3.2.1).2.1) n3.2.1) n4.1).app (Oz.yi h6) n5.1).app (Oz.yi h7) n6.1).app (oU n6.2.1) hn).iff fun u=>⟨fun q=>?_,fun q=>?_⟩
  ·obtain ⟨⟨⟨⟨⟨⟨a1,a2⟩,a3,a4⟩,a5,a6⟩,a7⟩,a8⟩,a9⟩:=q
   exact .cons a1 a2 a3 a4 a5 a6 a7 a8 hd a9
  ·cases q with
   |cons a1 a2 a3 a4 a5 a6 a7 a8 _ a9 =>
    obtain rfl:=a3.ow.uniq h3
    obtain rfl:=a5.ow.uniq h4
    exact ⟨⟨⟨⟨⟨⟨a1,a2⟩,a3,a4⟩,a5,a6⟩,a7⟩,a8⟩,a9⟩
theorem BV.eQ {used:Nat→Option Nat}{wS w:World}{cs:List Value}{l:List Ms} (h:BV used wS cs l) (hg:gm used wS w):BV used w cs l:=by
 induction h with
 |nil=>exact .nil
 |cons h1 h2 h3 _ h4 h5 h6 h7 h8 _ q8 oU=>exact .cons (h1.eQ hg) (h2.eQ hg) (h3.eQ hg) q8 (h4.eQ hg) (h5.eQ hg) (h6.eQ hg) (h7.eQ hg) h8 oU
theorem BV.Gz {used:Nat→Option Nat}{w:World}{cs:List Value}{l:List Ms} (h:BV used w cs l):pr (fun g=>used g≠none) w cs l:=by
 induction h with
 |nil=>exact .nil
 |cons h1 h2 h3 _ h4 h5 h6 h7 _ _ q8 oU=>exact .cons h1.GB h2.GB h3.GB q8 h4.GB h5.Gz h6.GB h7.GB oU
structure PT (used:Nat→Option Nat) (w:World) (F:Fl) (vi vm ve:Value) (cm ce:List Value):Prop where
 i:Oz used w 9 1 vi F.bp.length (bj F.bp)
 m:Oz used w 57 7 vm F.ms.length cm
 ms:BV used w cm F.ms
 e:Oz used w 63 4 ve F.es.length ce
 es:ED used w ce F.es
theorem PT.eQ {used:Nat→Option Nat}{wS w:World}{F:Fl}{vi vm ve:Value}{cm ce:List Value} (h:PT used wS F vi vm ve cm ce) (hg:gm used wS w):PT used w F vi vm ve cm ce:=⟨h.i.eQ hg,h.m.eQ hg,h.ms.eQ hg,h.e.eQ hg,h.es.eQ hg⟩
theorem EC.yi {w:World}{F:Fl}{vi vm ve:Value}{cm ce:List Value}{B:List Nat} (h:EC w F vi vm ve cm ce B) (hn:B.Nodup):∃u,PT u w F vi vm ve cm ce∧∀g,g ∉ B→u g=none:=by
 obtain ⟨⟨Bm,Be,h1,h2,h3,h4,h5,rfl⟩⟩:=h
 have n3:=List.nodup_append.1 hn
 have n2:=List.nodup_append.1 n3.1
 obtain ⟨⟨u,⟨⟨a1,a2,a3⟩,a4,a5⟩,hu⟩,_⟩:=((Oz.yi h1).app ((Oz.yi h2).app (h3.yi (List.nodup_append.1 n2.2.1).2.1) n2.2.1) n3.1).app ((Oz.yi h4).app (h5.yi (List.nodup_append.1 n3.2.1).2.1) n3.2.1) hn
 exact ⟨u,⟨a1,a2,a3,a4,a5⟩,hu⟩
end Go.Proofs.YtghioefalckgoaaGreatDoor
namespace Go.Proofs.YtghioefalckgoaaGreatDoor
open Go.RowKit
attribute [local go_sem ↓] Go.wp_at_zero Go.wp_at_succ
theorem k9.bU {used:Nat→Option Nat}{wS w w':World}{t k n t' k' n':Nat}{v v':Value} (h:k9 used wS w t k v n) (h':k9 used wS w t' k' v' n') (ht:t'≠t) (hg:w.grownBy w' v'.ownBlock):k9 used wS w' t k v n:=by
 obtain ⟨ys,h1⟩:=h.own
 obtain ⟨zs,h2⟩:=h'.own
 exact h.kept hg (mA h2 h1 ht)
theorem k9.form {used:Nat→Option Nat}{wS w:World}{t k n:Nat}{v:Value} (h:k9 used wS w t k v n):∃a c,v=.slice a n c:=by
 obtain ⟨ys,h1⟩:=h.own
 exact aN h1
structure PS (used:Nat→Option Nat) (wS w:World) (v r s:Value) (n1 n2 n3:Nat):Prop where
 g:gm used wS w
 a:k9 used wS w 65 2 v n1
 b:k9 used wS w 83 2 r n2
 c:k9 used wS w 9 1 s n3
theorem PS.up {used:Nat→Option Nat}{wS w w':World}{v r s:Value}{n1 n2 n3:Nat} (h:PS used wS w v r s n1 n2 n3) (hg:w.grownBy w' none):PS used wS w' v r s n1 n2 n3:=⟨h.g.fresh hg,h.a.up hg,h.b.up hg,h.c.up hg⟩
theorem o3 {used:Nat→Option Nat}{wS:World}{e:En}{nm:ByteArray}{vv vr vg:Value} (h1:Oz used wS 65 2 vv e.aW.length (mR e.aW)) (h2:Oz used wS 83 2 vr e.res.length (eP e.res)) (h3:Oz used wS 9 1 vg e.gone.length (bj e.gone)) (hb:e.aW.length≤4096∧e.res.length≤4096∧e.gone.length≤4096) (w:World) (hg:gm used wS w) :
  Calls Tryz.prog 37 #[.agg #[.string nm,vv,vr,vg]] w fun e' w'=>e'=.returned (.int .i64 ((e.aW.length+e.res.length+e.gone.length+192:Nat):Int))∧gm used wS w':=by
 obtain ⟨n1,e1⟩:∃n,e.aW.length=n:=⟨_,rfl⟩
 obtain ⟨n2,e2⟩:∃n,e.res.length=n:=⟨_,rfl⟩
 obtain ⟨n3,e3⟩:∃n,e.gone.length=n:=⟨_,rfl⟩
 have hE:PS used wS w vv vr vg n1 n2 n3:=⟨hg,by rw[←e1];exact h1.cur hg,by rw[←e2];exact h2.cur hg,by rw[←e3];exact h3.cur hg⟩
 rw[e1,e2,e3] at hb ⊢
 obtain ⟨av,cv,rfl⟩:=hE.a.form
 obtain ⟨ar,cr,rfl⟩:=hE.b.form
 obtain ⟨ag,cg,rfl⟩:=hE.c.form
 clear h1 h2 h3 e1 e2 e3 hg
 obtain ⟨iV,hiV,aam,aak,aai⟩:=info_parts (SI.info .V)
 obtain ⟨iR,hiR,QO,QL,QI⟩:=info_parts (SI.info .R)
 obtain ⟨iS,To,Fs,Fq,Fp⟩:=info_parts (SI.info .S)
 have k0:=aE w (.cells #[.string nm,.slice av n1 cv,.slice ar n2 cr,.slice ag n3 cg] 63)
 have HE:=ak (hE.up (World.grownBy_alloc w (.cells #[.string nm,.slice av n1 cv,.slice ar n2 cr,.slice ag n3 cg] 63) none))
 obtain ⟨V,hV⟩:∃V,w.alloc (.cells #[.string nm,.slice av n1 cv,.slice ar n2 cr,.slice ag n3 cg] 63)=V:=⟨_,rfl⟩
 rw[hV] at k0 HE
 have c1:V.cell? ⟨w.heap.size,1,none⟩=some (.slice av n1 cv):=cell_of_row _ _ _ _ _ _ k0
 have c2:V.cell? ⟨w.heap.size,2,none⟩=some (.slice ar n2 cr):=cell_of_row _ _ _ _ _ _ k0
 have c3:V.cell? ⟨w.heap.size,3,none⟩=some (.slice ag n3 cg):=cell_of_row _ _ _ _ _ _ k0
 have Hb:=ak hb
 clear k0 hE hb
 go_enter Tryz.func37,Tryz.ntmps37
 go_wp2
 go_loopg [3,4,5,6] 64 (fun gk v3 v4 v5 v6 wr=>∃(i:Nat) (m1 m2 m3:Nat),v6=.int .i64 (i:Int)∧gk=64-i∧Hid (m1=n1+i∧m2=n2+i∧m3=n3+i∧i≤64)∧Hid (PS used wS wr v3 v4 v5 m1 m2 m3))
 case atStart=>exact ⟨0,n1,n2,n3,rfl,rfl,⟨rfl,rfl,rfl,by omega⟩,ab HE⟩
 case round =>
  obtain ⟨i,m1,m2,m3,rfl,bd,HN,HG⟩:=hrel
  have bH:=ak bd
  clear bd c1 c2 c3 HE
  obtain ⟨a3,c3,rfl⟩:=(ab HG).a.form
  obtain ⟨a4,c4,rfl⟩:=(ab HG).b.form
  obtain ⟨a5,c5,rfl⟩:=(ab HG).c.form
  by_cases aU:i<64
  ·have i0:(0:Int)≤(i:Int):=zH _
   have i1:(i:Int)<64:=by omega
   have bn:=ak aU
   have nW:m1≤4160∧m2≤4160∧m3≤4160:=by have:=ab HN;have:=ab Hb;omega
   have pw:=ak nW
   clear aU nW
   go_upto_region 8 with (at_builtin;refine cw wr rfl _ _ 61 rfl 65 iV (SI.z .V) 2 (SI.by .V) Tryz.underlying61 hiV aam aak aai rfl (by decide) _ m1 rfl (ab HG).a (ab HG).g 1 [.string ⟨#[103,114,111,119,110]⟩,.int .i64 99] rfl rfl (by simp[Value.oneCell']) (by have:=(ab pw).1;simp only[maxLen];omega) (by have:=(ab pw).1;show (_+1)*24≤_;omega) ?_;intro g1 k1 w1 q1 q2 q3 q4;have eY:Hid (PS used wS w1 (.slice (some ⟨g1,0,none⟩) (m1+1) k1) (.slice a4 m2 c4) (.slice a5 m3 c5) (m1+1) m2 m3):=⟨q2,q1,(ab HG).b.bU (ab HG).a (by decide) q3,(ab HG).c.bU (ab HG).a (by decide) q3⟩;clear q1 q2 q3 q4)
   go_upto_region 9 with (at_builtin;refine cw w1 rfl _ _ 55 rfl 83 iR (SI.z .R) 2 (SI.by .R) Tryz.underlying55 hiR QO QL QI rfl (by decide) _ m2 rfl (ab eY).b (ab eY).g 1 [.int .i64 77,.int .i64 78] rfl rfl (by simp[Value.oneCell']) (by have:=(ab pw).2.1;simp only[maxLen];omega) (by have:=(ab pw).2.1;show (_+1)*16≤_;omega) ?_;intro g2 k2 w2 q1 q2 q3 q4;have wG:Hid (PS used wS w2 (.slice (some ⟨g1,0,none⟩) (m1+1) k1) (.slice (some ⟨g2,0,none⟩) (m2+1) k2) (.slice a5 m3 c5) (m1+1) (m2+1) m3):=⟨q2,(ab eY).a.bU (ab eY).b (by decide) q3,q1,(ab eY).c.bU (ab eY).b (by decide) q3⟩;clear q1 q2 q3 q4)
   go_wp2_with (at_builtin;refine cw w2 rfl _ _ 22 rfl 9 iS (SI.z .S) 1 (SI.by .S) Tryz.underlying22 To Fs Fq Fp rfl (by decide) _ m3 rfl (ab wG).c (ab wG).g 1 [.string ⟨#[103,114,111,119,110]⟩] rfl rfl (by simp[Value.oneCell']) (by have:=(ab pw).2.2;simp only[maxLen];omega) (by have:=(ab pw).2.2;show (_+1)*16≤_;omega) ?_;intro g3 k3 w3 q1 q2 q3 q4;have HG3:Hid (PS used wS w3 (.slice (some ⟨g1,0,none⟩) (m1+1) k1) (.slice (some ⟨g2,0,none⟩) (m2+1) k2) (.slice (some ⟨g3,0,none⟩) (m3+1) k3) (m1+1) (m2+1) (m3+1)):=⟨q2,(ab wG).a.bU (ab wG).c (by decide) q3,(ab wG).b.bU (ab wG).c (by decide) q3,q1⟩;clear q1 q2 q3 q4)
   go_roundg (64-(i+1))
   case measure=>have:=ab bH;have:=ab bn;omega
   case rel=>exact ⟨i+1,m1+1,m2+1,m3+1,by go_num,rfl,by have:=ab HN;have:=ab bn;exact ⟨by omega,by omega,by omega,by omega⟩,HG3⟩
  ·have hi:i=64:=by have:=ab HN;omega
   subst hi
   have hn:=ab HN
   obtain ⟨rfl,rfl,rfl,-⟩:=hn
   have b9:=ab Hb
   have i2:n1≤4096:=b9.1
   have i3:n2≤4096:=b9.2.1
   have i4:n3≤4096:=b9.2.2
   have HGG:=ak (ab HG).g
   clear b9
   go_wp2
   go_ret
   exact ⟨congrArg (fun z=>Ending.returned (Value.int .i64 z)) (show ((n1:Int)+64+((n2:Int)+64)+((n3:Int)+64))=((n1+n2+n3+192:Nat):Int) by omega),ab HGG⟩
theorem gm.trans {used:Nat→Option Nat}{a b c:World} (h:gm used a b) (k:gm used b c):gm used a c:=by
 refine ⟨k.os.trans h.os,k.tape.trans h.tape,k.output.trans h.output,Nat.le_trans h.size k.size,fun g hl hu=>(k.same g (Nat.lt_of_lt_of_le hl h.size) hu).trans (h.same g hl hu),fun g u cur t hu hc=>?_⟩
 obtain ⟨c1,p1,p2,p3⟩:=h.ku g u cur t hu hc
 obtain ⟨c2,q1,q2,q3⟩:=k.ku g u c1 t hu p1
 exact ⟨c2,q1,q2.trans p2,q3.trans p3⟩
theorem gm.cell {used:Nat→Option Nat}{a b:World} (h:gm used a b) {p:Addr}{x:Value} (hl:p.block<a.heap.size) (hu:used p.block=none) (hx:a.cell? p=some x):b.cell? p=some x:=(World.cell?_of_block (h.same p.block hl hu)).trans hx
theorem Oz.cells {used:Nat→Option Nat}{w:World}{t k n:Nat}{v:Value}{xs:List Value} (h:Oz used w t k v n xs) (hn:0<n):∃g c,v=.slice (some ⟨g,0,none⟩) n c∧∀w',gm used w w'→∀j x,xs[j]?=some x→w'.cell? ⟨g,j,none⟩=some x:=by
 obtain ⟨g,c,e,hg,hc⟩:=mC h.ow.1 hn
 refine ⟨g,c,e,fun w' hw j x hx=>?_⟩
 obtain ⟨g2,c2,e2,-,VG⟩:=mC (h.eQ hw).ow.1 hn
 rw[e] at e2
 obtain ⟨rfl,rfl⟩:g=g2∧c=c2:=by simpa using e2
 exact VG j x hx
def iK (e:En):Nat:=e.aW.length+e.res.length+e.gone.length+192
theorem uC {α:Type} (N:α→Nat) {l:List α}{i:Nat}{m:α} (h:l[i]?=some m):((l.take (i+1)).map N).sum=((l.take i).map N).sum+N m:=by
 obtain ⟨hi,rfl⟩:=zB h
 rw[List.take_succ_eq_append_getElem hi,List.map_append,List.sum_append]
 simp
theorem uD {α:Type} (N:α→Nat):∀(l:List α) (i:Nat),((l.take i).map N).sum≤(l.map N).sum
 |[],i=>by simp
 |a::r,0=>by simp
 |a::r,i+1=>by
  have:=uD N r i
  simp only[List.take_succ_cons,List.map_cons,List.sum_cons]
  omega
theorem ED.at {used:Nat→Option Nat}{w:World}{cs:List Value}{l:List En} (h:ED used w cs l):∀(i:Nat) (e:En),l[i]?=some e→∃nm vv vr vg,cs[i*4]?=some (.string nm)∧cs[i*4+1]?=some vv∧cs[i*4+2]?=some vr∧cs[i*4+3]?=some vg∧Oz used w 65 2 vv e.aW.length (mR e.aW)∧Oz used w 83 2 vr e.res.length (eP e.res)∧Oz used w 9 1 vg e.gone.length (bj e.gone):=by
 induction h with
 |nil=>intro i e h;simp at h
 |cons hn h1 h2 h3 _ ih =>
  intro i e h
  cases i with
  |zero =>
   obtain rfl:=zC (h.symm.trans rfl)
   exact ⟨_,_,_,_,rfl,rfl,rfl,rfl,h1,h2,h3⟩
  |succ i =>
   have:=ih i e (by simpa using h)
   rw[show (i+1)*4=i*4+4 by omega]
   exact this
theorem BV.at {used:Nat→Option Nat}{w:World}{cs:List Value}{l:List Ms} (h:BV used w cs l) (i:Nat) (m:Ms) (hi:l[i]?=some m):∃vf vo vm ve vr vg nm fs os ms es rs gs cm ce,m=.mk nm fs os ms es rs gs ∧
  (cs[i*7]?=some (.string nm)∧cs[i*7+1]?=some vf∧cs[i*7+2]?=some vo∧cs[i*7+3]?=some vm∧cs[i*7+4]?=some ve∧cs[i*7+5]?=some vr∧cs[i*7+6]?=some vg) ∧
  Oz used w 53 6 vf fs.length (cC fs)∧Oz used w 9 1 vo os.length (bj os)∧Oz used w 57 7 vm ms.length cm∧BV used w cm ms∧Oz used w 63 4 ve es.length ce∧ED used w ce es∧Oz used w 83 2 vr rs.length (eP rs)∧Oz used w 9 1 vg gs.length (bj gs)∧(∀b ∈ gL vo,b ∉ gL vg):=by
 cases h with
 |nil=>simp at hi
 |cons hf ho hm eI he ep hr hg hd ht =>
  cases i with
  |zero =>
   obtain rfl:=zC (hi.symm.trans rfl)
   exact ⟨_,_,_,_,_,_,_,_,_,_,_,_,_,_,_,rfl,⟨rfl,rfl,rfl,rfl,rfl,rfl,rfl⟩,hf,ho,hm,eI,he,ep,hr,hg,hd⟩
  |succ i =>
   have:=BV.at ht i m (by simpa using hi)
   rw[show (i+1)*7=i*7+7 by omega]
   exact this
structure x9 (used:Nat→Option Nat) (wS w:World) (vf vo vr vg ve vm:Value) (n1 n2 n3 n4 n5 n6:Nat):Prop where
 g:gm used wS w
 f:k9 used wS w 53 6 vf n1
 o:k9 used wS w 9 1 vo n2
 r:k9 used wS w 83 2 vr n3
 s:k9 used wS w 9 1 vg n4
 e:k9 used wS w 63 4 ve n5
 m:k9 used wS w 57 7 vm n6
 d:∀b,vo.ownBlock=some b→vg.ownBlock≠some b
theorem k9.lt {used:Nat→Option Nat}{wS w:World}{t k n b:Nat}{v:Value} (h:k9 used wS w t k v n) (hb:v.ownBlock=some b):b<w.heap.size:=by
 obtain ⟨ys,h1⟩:=h.own
 exact (h1.lt b hb).2
theorem k9.OS {used:Nat→Option Nat}{wS w w':World}{t k n:Nat}{v v':Value} (h:k9 used wS w t k v n) (hd:∀b,v.ownBlock=some b→v'.ownBlock≠some b) (hg:w.grownBy w' v'.ownBlock):k9 used wS w' t k v n:=by
 refine h.kept hg ?_
 cases hv:v.ownBlock with
 |none=>exact .inl rfl
 |some b=>exact .inr (fun e=>hd b hv e.symm)
def GnC (s:Nat) (used:Nat→Option Nat) (ms:List Ms):Prop:=∀(w:World) (vm:Value) (cm:List Value),(∀g,w.heap.size≤g→used g=none)→Oz used w 57 7 vm ms.length cm→BV used w cm ms→Calls Tryz.prog 36 #[vm] w fun e w'=>e=.returned (.int .i64 (s:Int))∧gm used w w'
def GmK (N:Ms→Nat) (used:Nat→Option Nat) (m:Ms):Prop:=∀nm fs os ms es rs gs,m=.mk nm fs os ms es rs gs→(fs.length≤16777216∧os.length≤4096∧rs.length≤4096∧gs.length≤4096∧es.length≤4096∧ms.length≤4096)∧(∀e ∈ es,e.aW.length≤4096∧e.res.length≤4096∧e.gone.length≤4096)∧∃s,N m=fs.length+os.length+rs.length+gs.length+es.length+ms.length+384+s+(es.map iK).sum∧GnC s used ms
theorem x9.WB {used:Nat→Option Nat}{wS w w':World}{vf vo vr vg ve vm:Value}{n1 n2 n3 n4 n5 n6 g' c':Nat} (h:x9 used wS w vf vo vr vg ve vm n1 n2 n3 n4 n5 n6) (q1:k9 used wS w' 53 6 (.slice (some ⟨g',0,none⟩) (n1+1) c') (n1+1)) (q2:gm used wS w') (q3:w.grownBy w' vf.ownBlock) (_:vf.ownBlock=some g'∨w.heap.size≤g'):x9 used wS w' (.slice (some ⟨g',0,none⟩) (n1+1) c') vo vr vg ve vm (n1+1) n2 n3 n4 n5 n6 :=
 ⟨q2,q1,h.o.bU h.f (by decide) q3,h.r.bU h.f (by decide) q3,h.s.bU h.f (by decide) q3,h.e.bU h.f (by decide) q3,h.m.bU h.f (by decide) q3,h.d⟩
theorem x9.Wz {used:Nat→Option Nat}{wS w w':World}{vf vo vr vg ve vm:Value}{n1 n2 n3 n4 n5 n6 g' c':Nat} (h:x9 used wS w vf vo vr vg ve vm n1 n2 n3 n4 n5 n6) (q1:k9 used wS w' 9 1 (.slice (some ⟨g',0,none⟩) (n2+1) c') (n2+1)) (q2:gm used wS w') (q3:w.grownBy w' vo.ownBlock) (q4:vo.ownBlock=some g'∨w.heap.size≤g'):x9 used wS w' vf (.slice (some ⟨g',0,none⟩) (n2+1) c') vr vg ve vm n1 (n2+1) n3 n4 n5 n6 :=
 ⟨q2,h.f.bU h.o (by decide) q3,q1,h.r.bU h.o (by decide) q3,h.s.OS (fun b e=>fun e2=>h.d b e2 e) q3,h.e.bU h.o (by decide) q3,h.m.bU h.o (by decide) q3,fun b e e2=>by
  obtain rfl:g'=b:=by simpa[Value.ownBlock] using e
  exact q4.elim (fun p=>h.d _ p e2) (fun p=>absurd (h.s.lt e2) (by omega))⟩
theorem x9.Wy {used:Nat→Option Nat}{wS w w':World}{vf vo vr vg ve vm:Value}{n1 n2 n3 n4 n5 n6 g' c':Nat} (h:x9 used wS w vf vo vr vg ve vm n1 n2 n3 n4 n5 n6) (q1:k9 used wS w' 83 2 (.slice (some ⟨g',0,none⟩) (n3+1) c') (n3+1)) (q2:gm used wS w') (q3:w.grownBy w' vr.ownBlock) (_:vr.ownBlock=some g'∨w.heap.size≤g'):x9 used wS w' vf vo (.slice (some ⟨g',0,none⟩) (n3+1) c') vg ve vm n1 n2 (n3+1) n4 n5 n6 :=
 ⟨q2,h.f.bU h.r (by decide) q3,h.o.bU h.r (by decide) q3,q1,h.s.bU h.r (by decide) q3,h.e.bU h.r (by decide) q3,h.m.bU h.r (by decide) q3,h.d⟩
theorem x9.Wx {used:Nat→Option Nat}{wS w w':World}{vf vo vr vg ve vm:Value}{n1 n2 n3 n4 n5 n6 g' c':Nat} (h:x9 used wS w vf vo vr vg ve vm n1 n2 n3 n4 n5 n6) (q1:k9 used wS w' 9 1 (.slice (some ⟨g',0,none⟩) (n4+1) c') (n4+1)) (q2:gm used wS w') (q3:w.grownBy w' vg.ownBlock) (q4:vg.ownBlock=some g'∨w.heap.size≤g'):x9 used wS w' vf vo vr (.slice (some ⟨g',0,none⟩) (n4+1) c') ve vm n1 n2 n3 (n4+1) n5 n6 :=
 ⟨q2,h.f.bU h.s (by decide) q3,h.o.OS (fun b e=>h.d b e) q3,h.r.bU h.s (by decide) q3,q1,h.e.bU h.s (by decide) q3,h.m.bU h.s (by decide) q3,fun b e e2=>by
  obtain rfl:g'=b:=by simpa[Value.ownBlock] using e2
  exact q4.elim (fun p=>h.d _ e p) (fun p=>absurd (h.o.lt e) (by omega))⟩
theorem x9.WC {used:Nat→Option Nat}{wS w w':World}{vf vo vr vg ve vm:Value}{n1 n2 n3 n4 n5 n6 g' c':Nat} (h:x9 used wS w vf vo vr vg ve vm n1 n2 n3 n4 n5 n6) (q1:k9 used wS w' 63 4 (.slice (some ⟨g',0,none⟩) (n5+1) c') (n5+1)) (q2:gm used wS w') (q3:w.grownBy w' ve.ownBlock) (_:ve.ownBlock=some g'∨w.heap.size≤g'):x9 used wS w' vf vo vr vg (.slice (some ⟨g',0,none⟩) (n5+1) c') vm n1 n2 n3 n4 (n5+1) n6 :=
 ⟨q2,h.f.bU h.e (by decide) q3,h.o.bU h.e (by decide) q3,h.r.bU h.e (by decide) q3,h.s.bU h.e (by decide) q3,q1,h.m.bU h.e (by decide) q3,h.d⟩
theorem x9.WA {used:Nat→Option Nat}{wS w w':World}{vf vo vr vg ve vm:Value}{n1 n2 n3 n4 n5 n6 g' c':Nat} (h:x9 used wS w vf vo vr vg ve vm n1 n2 n3 n4 n5 n6) (q1:k9 used wS w' 57 7 (.slice (some ⟨g',0,none⟩) (n6+1) c') (n6+1)) (q2:gm used wS w') (q3:w.grownBy w' vm.ownBlock) (_:vm.ownBlock=some g'∨w.heap.size≤g'):x9 used wS w' vf vo vr vg ve (.slice (some ⟨g',0,none⟩) (n6+1) c') n1 n2 n3 n4 n5 (n6+1) :=
 ⟨q2,h.f.bU h.m (by decide) q3,h.o.bU h.m (by decide) q3,h.r.bU h.m (by decide) q3,h.s.bU h.m (by decide) q3,h.e.bU h.m (by decide) q3,q1,h.d⟩
end Go.Proofs.YtghioefalckgoaaGreatDoor
