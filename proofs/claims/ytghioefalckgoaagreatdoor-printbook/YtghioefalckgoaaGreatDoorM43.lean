import Derived.Test.YtghioefalckgoaaGreatDoorYBe
set_option maxHeartbeats 4000000
set_option maxRecDepth 100000
namespace Go.Proofs.YtghioefalckgoaaGreatDoor
open Go.RowKit
attribute [local go_sem ↓] Go.wp_at_zero Go.wp_at_succ
def FZ (F:Fl):Fl:=⟨F.dj,F.bp,fp 200 F.ms,F.es⟩
structure LJ (F:Fl):Prop where
 i:F.bp.length*16≤140737488355328
 m:F.ms.length*160≤140737488355328
 ms:∀m ∈ F.ms,Dk 200 m
 e:F.es.length*88≤140737488355328
 es:∀e ∈ F.es,LK e
structure Dp (R:Nat→Prop) (w:World) (v:Value) (F:Fl) (vi vm ve:Value) (cm ce:List Value):Prop where
 is:v=.agg #[.string F.dj,vi,vm,ve]
 hi:fW R w 9 1 vi F.bp.length (bj F.bp)
 hm:fW R w 57 7 vm F.ms.length cm
 eI:pr R w cm F.ms
 he:fW R w 63 4 ve F.es.length ce
 ep:py R w ce F.es
theorem Dp.mono {R R':Nat→Prop}{w w':World}{v vi vm ve:Value}{F:Fl}{cm ce:List Value} (h:Dp R w v F vi vm ve cm ce) (hs:fV R R' w w'):Dp R' w' v F vi vm ve cm ce:=⟨h.is,h.hi.mono hs,h.hm.mono hs,h.eI.mono hs,h.he.mono hs,h.ep.mono hs⟩
theorem Dp.nU {R:Nat→Prop}{w:World}{v vi vm ve:Value}{F:Fl}{cm ce:List Value} (h:Dp R w v F vi vm ve cm ce):zy w v F vi vm ve cm ce:=⟨h.is,h.hi.rl,h.hm.rl,h.eI.nU,h.he.rl,h.ep.nU⟩
def TwP (w0:World) (F:Fl) (e:Ending) (w:World):Prop:=∃u ui um ue cq cn,e=.returned u∧Dp (fun g=>w0.heap.size≤g) w u (FZ F) ui um ue cq cn∧Below w0.heap.size w0 w
theorem uA {W:World}{v vi vm ve:Value}{F:Fl}{cm ce:List Value} (vC:zy W v F vi vm ve cm ce) (hr:LJ F) (w0:World) (hw:Below W.heap.size W w0) :
  Calls Tryz.prog 7 #[v] w0 (TwP w0 F):=by
 obtain ⟨pk,is,ms,es⟩:=F
 obtain ⟨rfl,hi,hm,eI,he,ep⟩:=vC
 obtain ⟨r1,r2,r3,r4,r5⟩:=hr
 simp only at hi hm eI he ep r1 r2 r3 r4 r5 ⊢
 have HI:=ak (fun w' hb=>mx hi r1 w' hb)
 have HM:=ak (fun w' hb=>oN 200 (zD _) W vm ms cm hm eI r2 r3 w' hb)
 rw[show (200:Int)-((200:Nat):Int)=0 from rfl] at HM
 have HE:=ak (fun w' hb=>xR he ep r4 r5 w' hb)
 obtain ⟨ai,ci,rfl,-,-⟩:=hi
 obtain ⟨am,cq,rfl,-,-⟩:=hm
 obtain ⟨ae,cn,rfl,-,-⟩:=he
 have HS:=ak (show is.length*16≤140737488355328∧ms.length*160≤140737488355328∧es.length*88≤140737488355328 from ⟨r1,r2,r4⟩)
 obtain ⟨V0,Ny⟩:∃V,w0.alloc (.cells #[.string pk,.slice ai is.length ci,.slice am ms.length cq,.slice ae es.length cn] 26)=V:=⟨_,rfl⟩
 have k0:=aE w0 (.cells #[.string pk,.slice ai is.length ci,.slice am ms.length cq,.slice ae es.length cn] 26)
 have s0:=zJ w0 (.cells #[.string pk,.slice ai is.length ci,.slice am ms.length cq,.slice ae es.length cn] 26)
 have b0:Below w0.heap.size w0 (w0.alloc (.cells #[.string pk,.slice ai is.length ci,.slice am ms.length cq,.slice ae es.length cn] 26)):=(zE _ _).alloc (zD _) _
 rw[Ny] at k0 s0 b0
 obtain ⟨V,hV⟩:∃V',V0.alloc (.cells #[.string ⟨#[]⟩,.slice none 0 0,.slice none 0 0,.slice none 0 0] 26)=V':=⟨_,rfl⟩
 have k1:=aE V0 (.cells #[.string ⟨#[]⟩,.slice none 0 0,.slice none 0 0,.slice none 0 0] 26)
 have s1:=zJ V0 (.cells #[.string ⟨#[]⟩,.slice none 0 0,.slice none 0 0,.slice none 0 0] 26)
 have b1:Below V0.heap.size V0 (V0.alloc (.cells #[.string ⟨#[]⟩,.slice none 0 0,.slice none 0 0,.slice none 0 0] 26)):=(zE _ _).alloc (zD _) _
 rw[hV] at k1 s1 b1
 have bq:Below w0.heap.size w0 V:=b0.trans (b1.mono b0.size)
 have iH:V.heap[w0.heap.size]?=some (.cells #[.string pk,.slice ai is.length ci,.slice am ms.length cq,.slice ae es.length cn] 26 (0,0)):=(b1.block _ (by omega)).trans k0
 have bA:V.heap[V0.heap.size]?=some (.cells #[.string ⟨#[]⟩,.slice none 0 0,.slice none 0 0,.slice none 0 0] 26 (0,0)):=k1
 have bf:Below W.heap.size W V:=hw.trans (bq.mono hw.size)
 have hsV:w0.heap.size<V0.heap.size∧V0.heap.size<V.heap.size:=by omega
 have dE:Hid (∀w':World,(Below w0.heap.size w0 w'∧w'.heap[w0.heap.size]?=some (.cells #[.string pk,.slice ai is.length ci,.slice am ms.length cq,.slice ae es.length cn] 26 (0,0)))→w'.cell? ⟨w0.heap.size,0,none⟩=some (.string pk)∧w'.cell? ⟨w0.heap.size,1,none⟩=some (.slice ai is.length ci)∧w'.cell? ⟨w0.heap.size,2,none⟩=some (.slice am ms.length cq)∧w'.cell? ⟨w0.heap.size,3,none⟩=some (.slice ae es.length cn)):=fun w' hw=>eN hw.2
 have HV:=ak (And.intro bq (And.intro iH (And.intro bA (And.intro bf hsV))))
 have e0:=Ny
 have e1:=hV
 clear hw eI ep r1 r2 r3 r4 r5 k0 s0 b0 k1 s1 b1 bq iH bA bf hsV Ny hV
 go_enter Tryz.func7,Tryz.ntmps7
 go_wp2_with fail
 obtain ⟨bq,iH,bA,bf,hsV⟩:=ab HV
 refine wp_region_any (by kernel_rfl) (aV (z:=99) (T:=fun w'=>Below w0.heap.size w0 w'∧w'.heap[w0.heap.size]?=some (.cells #[.string pk,.slice ai is.length ci,.slice am ms.length cq,.slice ae es.length cn] 26 (0,0))) _ _ _ _ ?_)
 try (change ba _ _ _ _ _ _ _ _ _ (World.drew _))
 have bf:Below W.heap.size W V.drew:=below_drewN bf 1
 have bq:Below w0.heap.size w0 V.drew:=below_drewN bq 1
 have la:Below V.heap.size V V.drew:=below_drewN (zE V.heap.size V) 1
 have iH:V.drew.heap[w0.heap.size]?=some (.cells #[.string pk,.slice ai is.length ci,.slice am ms.length cq,.slice ae es.length cn] 26 (0,0)):=iH
 have bA:V.drew.heap[V0.heap.size]?=some (.cells #[.string ⟨#[]⟩,.slice none 0 0,.slice none 0 0,.slice none 0 0] 26 (0,0)):=bA
 obtain ⟨wd,lP⟩:∃x,V.drew=x:=⟨_,rfl⟩
 rw[lP] at bf bq la iH bA ⊢
 have hT:Below w0.heap.size w0 wd∧wd.heap[w0.heap.size]?=some (.cells #[.string pk,.slice ai is.length ci,.slice am ms.length cq,.slice ae es.length cn] 26 (0,0)):=⟨bq,iH⟩
 refine aw 0 (.pointer (some ⟨w0.heap.size,0,none⟩)) 3 rfl rfl (Or.inl ⟨by rfl,fun w' hw=>by obtain ⟨x0,x1,x2,x3⟩:=ab dE w' hw;go_simp⟩) hT ?_
 simp only[Act.put,zL,zM,zN]
 refine aw 1 (.string pk) 4 rfl rfl (Or.inl ⟨by rfl,fun w' hw=>by obtain ⟨x0,x1,x2,x3⟩:=ab dE w' hw;go_simp⟩) hT ?_
 simp only[Act.put,zL,zM,zN]
 refine aw 2 (.pointer (some ⟨w0.heap.size,1,none⟩)) 5 rfl rfl (Or.inl ⟨by rfl,fun w' hw=>by obtain ⟨x0,x1,x2,x3⟩:=ab dE w' hw;go_simp⟩) hT ?_
 simp only[Act.put,zL,zM,zN]
 refine aw 3 (.slice ai is.length ci) 6 rfl rfl (Or.inl ⟨by rfl,fun w' hw=>by obtain ⟨x0,x1,x2,x3⟩:=ab dE w' hw;go_simp⟩) hT ?_
 simp only[Act.put,zL,zM,zN]
 refine aw 5 (.pointer (some ⟨w0.heap.size,2,none⟩)) 8 rfl rfl (Or.inl ⟨by rfl,fun w' hw=>by obtain ⟨x0,x1,x2,x3⟩:=ab dE w' hw;go_simp⟩) hT ?_
 simp only[Act.put,zL,zM,zN]
 refine aw 6 (.slice am ms.length cq) 9 rfl rfl (Or.inl ⟨by rfl,fun w' hw=>by obtain ⟨x0,x1,x2,x3⟩:=ab dE w' hw;go_simp⟩) hT ?_
 simp only[Act.put,zL,zM,zN]
 refine aw 8 (.pointer (some ⟨w0.heap.size,3,none⟩)) 11 rfl rfl (Or.inl ⟨by rfl,fun w' hw=>by obtain ⟨x0,x1,x2,x3⟩:=ab dE w' hw;go_simp⟩) hT ?_
 simp only[Act.put,zL,zM,zN]
 refine aw 9 (.slice ae es.length cn) 12 rfl rfl (Or.inl ⟨by rfl,fun w' hw=>by obtain ⟨x0,x1,x2,x3⟩:=ab dE w' hw;go_simp⟩) hT ?_
 simp only[Act.put,zL,zM,zN]
 clear hT
 refine aB 4 (by kernel_rfl) rfl (fun K hK=>?_)
 refine aM 7 rfl rfl 21 (fun vs=>by kernel_rfl) #[.tmp 6] #[22] rfl #[.slice ai is.length ci] (by first|rfl|simp[Act.eval]) (ab HI wd bf) ?_
 rintro e' zR ⟨u1,rfl,cT,aT⟩
 obtain ⟨Ie,Ic,rfl⟩:=aN cT
 have cT:=(bP cT (by have:=(ab HS).1;omega)).mono (R':=fun g=>V.heap.size≤g) (fun g hg _=>⟨rfl,Nat.le_trans la.size hg⟩)
 have la:=la.trans (aT.mono la.size)
 have bf:=bf.trans (aT.mono bf.size)
 have bq:=bq.trans (aT.mono bq.size)
 have iH:=(aT.block _ (zA iH).1).trans iH
 have bA:=(aT.block _ (zA bA).1).trans bA
 refine ⟨_,rfl,hK _ _ ⟨fun _=>⟨bq,iH⟩,?_⟩⟩
 clear hK K aT
 simp only[Act.put,zL,zM,zN]
 refine aB 7 (by kernel_rfl) rfl (fun K hK=>?_)
 refine aM 10 rfl rfl 22 (fun vs=>by kernel_rfl) #[.tmp 9,.const (.int .i64 0)] #[23,3] rfl #[.slice am ms.length cq,.int .i64 0] (by first|rfl|simp[Act.eval]) (ab HM zR bf) ?_
 rintro e' BK ⟨u2,cs2,rfl,fg,ff,aT⟩
 have cT:=cT.mono (aC aT)
 obtain ⟨L8,L7,rfl⟩:=aN fg
 have fg:=(bP fg (by have:=(ab HS).2.1;have:=pd (f:=200) (l:=ms);omega)).mono (R':=fun g=>V.heap.size≤g) (fun g hg _=>⟨rfl,Nat.le_trans la.size hg⟩)
 have ff:=ff.mono (R':=fun g=>V.heap.size≤g) (fun g hg _=>⟨rfl,Nat.le_trans la.size hg.1⟩)
 have la:=la.trans (aT.mono la.size)
 have bf:=bf.trans (aT.mono bf.size)
 have bq:=bq.trans (aT.mono bq.size)
 have iH:=(aT.block _ (zA iH).1).trans iH
 have bA:=(aT.block _ (zA bA).1).trans bA
 refine ⟨_,rfl,hK _ _ ⟨fun _=>⟨bq,iH⟩,?_⟩⟩
 clear hK K aT
 simp only[Act.put,zL,zM,zN]
 refine aB 10 (by kernel_rfl) rfl (fun K hK=>?_)
 refine aM 13 rfl rfl 23 (fun vs=>by kernel_rfl) #[.tmp 12] #[24] rfl #[.slice ae es.length cn] (by first|rfl|simp[Act.eval]) (ab HE BK bf) ?_
 rintro e' BZ ⟨u3,cs3,rfl,lI,mG,aT⟩
 have cT:=cT.mono (aC aT)
 have fg:=fg.mono (aC aT)
 have ff:=ff.mono (aC aT)
 obtain ⟨S',S7,rfl⟩:=aN lI
 have lI:=(bP lI (by have:=(ab HS).2.2;omega)).mono (R':=fun g=>V.heap.size≤g) (fun g hg _=>⟨rfl,Nat.le_trans la.size hg⟩)
 have mG:=mG.mono (R':=fun g=>V.heap.size≤g) (fun g hg _=>⟨rfl,Nat.le_trans la.size hg.1⟩)
 have la:=la.trans (aT.mono la.size)
 have bf:=bf.trans (aT.mono bf.size)
 have bq:=bq.trans (aT.mono bq.size)
 have iH:=(aT.block _ (zA iH).1).trans iH
 have bA:=(aT.block _ (zA bA).1).trans bA
 refine ⟨_,rfl,hK _ _ ⟨fun _=>⟨bq,iH⟩,?_⟩⟩
 clear hK K aT
 simp only[Act.put,zL,zM,zN]
 have hT:Below w0.heap.size w0 BZ∧BZ.heap[w0.heap.size]?=some (.cells #[.string pk,.slice ai is.length ci,.slice am ms.length cq,.slice ae es.length cn] 26 (0,0)):=⟨bq,iH⟩
 refine aw 11 (.agg #[.string pk,.slice Ie is.length Ic,.slice L8 (fp 200 ms).length L7,.slice S' es.length S7]) 14 rfl rfl (Or.inl ⟨by rfl,fun w' hw=>by go_simp⟩) hT ?_
 simp only[Act.put,zL,zM,zN]
 refine aB 12 (by kernel_rfl) rfl (fun K hK=>?_)
 obtain ⟨c0,c1,c2,c3⟩:=eN bA
 have z:∀j,BZ.frozen? ⟨V0.heap.size,j,none⟩=false:=fun j=>by simp[World.frozen?,bA]
 have z0:=z 0
 have z1:=z 1
 have z2:=z 2
 have z3:=z 3
 obtain ⟨q0,g0⟩:=aI (j:=0) bA (.string pk)
 obtain ⟨q1,g1⟩:=aI (j:=1) q0 (.slice Ie is.length Ic)
 obtain ⟨q2,g2⟩:=aI (j:=2) q1 (.slice L8 (fp 200 ms).length L7)
 obtain ⟨q3,g3⟩:=aI (j:=3) q2 (.slice S' es.length S7)
 have gg:=((g0.trans g1).trans g2).trans g3
 have st:fV (fun g=>V.heap.size≤g) (fun g=>w0.heap.size≤g) _ _:=(lT gg (fun g (hg:V.heap.size≤g) e=>by have:=zC e;omega)).trans (R'':=fun g=>w0.heap.size≤g) (fun g hg _=>⟨rfl,by omega⟩) gg.size
 have p1:=cT.mono st
 have p2:=fg.mono st
 have p3:=lI.mono st
 have m2:=ff.mono st
 have m3:=mG.mono st
 have lv:=cj bq gg bq.size (fun k e=>by obtain rfl:=zC e;omega)
 have Lu:=(gg.block _ (zA iH).1 (by simp;omega)).trans iH
 go_simp
 refine hK _ _ ⟨fun _=>⟨lv,Lu⟩,?_⟩
 clear hK K
 refine aQ (by kernel_rfl) ?_
 have Q3:=ak q3
 have P:=ak (And.intro p1 (And.intro p2 (And.intro m2 (And.intro p3 (And.intro m3 lv)))))
 clear hT c0 c1 c2 c3 z z0 z1 z2 z3 q0 q1 q2 q3 g0 g1 g2 g3 gg st p1 p2 p3 m2 m3 lv Lu cT fg lI ff mG iH bA bf bq la dE HI HM HE HV
 go_wp2
 obtain ⟨p1,p2,m2,p3,m3,lv⟩:=ab P
 refine bodyPost_ret (results_cell_row rfl _ _ V0.heap.size 26 _ (0,0) _ rfl (ab Q3) Tryz.underlying26 rfl (by kernel_rfl)) rfl ?_
 exact ⟨_,_,_,_,_,_,rfl,⟨rfl,p1,p2,m2,p3,m3⟩,lv⟩
def Ku:List UInt8→List (List UInt8)
 |[]=>[([])]
 |c::r=>if c=46 then []::Ku r else match Ku r with
  |[]=>[([c])]
  |p::ps=>(c::p)::ps
def OK (l:List Fd) (i:Nat):Int:=match i with
 |0=>0
 |j+1=>match l[j]? with
  |some d=>d.aH
  |none=>0
def Ev (W:World) (p:Prop) (e:Ending) (w:World):Prop:=∃b:Bool,e=.returned (.bool b)∧(b=true↔p)∧Below W.heap.size W w
theorem Tc {W w:World}{p:Prop} (h:p) (hb:Below W.heap.size W w):Ev W p (.returned (.bool true)) w:=⟨true,rfl,⟨fun _=>h,fun _=>rfl⟩,hb⟩
theorem nV {W w:World}{p:Prop} (h:¬p) (hb:Below W.heap.size W w):Ev W p (.returned (.bool false)) w:=⟨false,rfl,⟨fun e=>(by cases e),fun e=>absurd e h⟩,hb⟩
theorem lS {a b:ByteArray} (h:¬a=b):(a.toList==b.toList)=false:=by
 rw[beq_eq_false_iff_ne]
 intro e
 rw[toList_data,toList_data] at e
 obtain ⟨a⟩:=a
 obtain ⟨b⟩:=b
 exact h (congrArg ByteArray.mk (Array.toList_inj.1 e))
theorem eR {α:Type}{l l':List α}{i:Nat}{x:α} (h:l.take i=l'.take i) (h1:l[i]?=some x) (h2:l'[i]?=some x):l.take (i+1)=l'.take (i+1):=by rw[dB h1,dB h2,h]
theorem kI {α:Type}{l l':List α} (hl:l.length=l'.length) (h:l.take l.length=l'.take l.length):l=l':=by
 rw[List.take_length] at h
 rw[h,hl,List.take_length]
theorem kV {α:Type}{l l':List α}{i:Nat}{x y:α} (h1:l[i]?=some x) (h2:l'[i]?=some y) (h:¬x=y):¬l=l':=by
 rintro rfl
 rw[h1] at h2
 exact h (zC h2)
theorem gK {W:World}{v u:Value}{l l':List ByteArray} (h:Rl W v l.length (bj l)) (h':Rl W u l'.length (bj l')) (w0:World) (hw:Below W.heap.size W w0):Calls Tryz.prog 33 #[v,u] w0 (Ev w0 (l=l')):=by
 obtain ⟨a,c,rfl,hc,h3⟩:=h
 obtain ⟨a',c',rfl,VH,FG⟩:=h'
 have H3:=ak h3
 have SV:=ak FG
 have HW:=ak hw
 clear h3 FG hw
 by_cases fR:l.length=l'.length
 ·have pD:=ak fR
  have e1:((l.length:Int) != (l'.length:Int))=false:=by simp[fR]
  have e2:((l.length:Int)==(l'.length:Int))=true:=by simp[fR]
  clear fR
  go_enter Tryz.func33,Tryz.ntmps33
  go_wp2
  go_loopg [5] l.length (fun gk v5 wr=>∃(i m:Nat),v5=.int .i64 (i:Int)∧gk=l.length-i∧i≤l.length∧Hid (l.take i=l'.take i)∧wr=w0.drewN m)
  case atStart=>exact ⟨0,0,rfl,rfl,by omega,rfl,rfl⟩
  case round =>
   obtain ⟨i,m,rfl,bd,hi,HT,rfl⟩:=hrel
   have bH:=ak bd
   clear bd
   by_cases aU:i<l.length
   ·obtain ⟨t,ht⟩:∃t,l[i]?=some t:=⟨_,List.getElem?_eq_getElem aU⟩
    obtain ⟨t',nK⟩:∃t,l'[i]?=some t:=⟨_,List.getElem?_eq_getElem (by have:=ab pD;omega)⟩
    obtain ⟨g,o,rfl,hg,hx⟩:=ab H3 (by omega)
    obtain ⟨g',o',rfl,fC,tu⟩:=ab SV (by have:=ab pD;omega)
    have x1:=((ab HW).cell (p:=⟨g,o+i,none⟩) hg).trans (hx _ _ (gJ ht))
    have y1:=((ab HW).cell (p:=⟨g',o'+i,none⟩) fC).trans (tu _ _ (gJ nK))
    have i0:(0:Int)≤(i:Int):=zH _
    have i1:(i:Int)<(l.length:Int):=by omega
    have i2:(i:Int)<(l'.length:Int):=by have:=ab pD;omega
    by_cases GH:t=t'
    ·subst GH
     have qq:=ak (eR (ab HT) ht nK)
     clear hx tu ht nK HT
     go_wp2
     go_quiet (fail)
     go_wp2
     go_roundg (l.length-(i+1))
     case measure=>have:=ab bH;omega
     case rel=>exact ⟨i+1,_,by go_num,rfl,by omega,qq,rfl⟩
    ·have HN:=ak (kV ht nK GH)
     have n1:=lS GH
     clear hx tu ht nK HT GH
     go_wp2
     go_quiet (fail)
     go_wp2
     go_ret
     exact nV (ab HN) (below_drewN (below_drewN (zE _ _) _) _)
   ·obtain rfl:i=l.length:=by omega
    have HE:=ak (kI (ab pD) (ab HT))
    clear HT
    go_wp2
    go_ret
    exact Tc (ab HE) (below_drewN (zE _ _) _)
 ·have HN:Hid (¬l=l'):=fun e=>fR (by rw[e])
  have e1:((l.length:Int) != (l'.length:Int))=true:=by simp;omega
  have e2:((l.length:Int)==(l'.length:Int))=false:=by simp;omega
  have e3:¬(l.length:Int)=(l'.length:Int):=by omega
  clear fR
  go_enter Tryz.func33,Tryz.ntmps33
  go_wp2
  go_ret
  exact nV (ab HN) (zE _ _)
theorem lW {W:World}{v u:Value}{l l':List (Int×Int)} (h:Rl W v l.length (eP l)) (h':Rl W u l'.length (eP l')) (w0:World) (hw:Below W.heap.size W w0):Calls Tryz.prog 65 #[v,u] w0 (Ev w0 (l=l')):=by
 obtain ⟨a,c,rfl,hc,h3⟩:=h
 obtain ⟨a',c',rfl,VH,FG⟩:=h'
 have H3:=ak h3
 have SV:=ak FG
 have HW:=ak hw
 clear h3 FG hw
 by_cases fR:l.length=l'.length
 ·have pD:=ak fR
  have e1:((l.length:Int) != (l'.length:Int))=false:=by simp[fR]
  have e2:((l.length:Int)==(l'.length:Int))=true:=by simp[fR]
  clear fR
  go_enter Tryz.func65,Tryz.ntmps65
  go_wp2
  go_loopg [5] l.length (fun gk v5 wr=>∃(i m:Nat),v5=.int .i64 (i:Int)∧gk=l.length-i∧i≤l.length∧Hid (l.take i=l'.take i)∧wr=w0.drewN m)
  case atStart=>exact ⟨0,0,rfl,rfl,by omega,rfl,rfl⟩
  case round =>
   obtain ⟨i,m,rfl,bd,hi,HT,rfl⟩:=hrel
   have bH:=ak bd
   clear bd
   by_cases aU:i<l.length
   ·obtain ⟨t,ht⟩:∃t,l[i]?=some t:=⟨_,List.getElem?_eq_getElem aU⟩
    obtain ⟨t',nK⟩:∃t,l'[i]?=some t:=⟨_,List.getElem?_eq_getElem (by have:=ab pD;omega)⟩
    obtain ⟨g,o,rfl,hg,hx⟩:=ab H3 (by omega)
    obtain ⟨g',o',rfl,fC,tu⟩:=ab SV (by have:=ab pD;omega)
    have x1:=((ab HW).cell (p:=⟨g,o+(i*2+0),none⟩) hg).trans (hx _ _ (fN ht (j:=0) (by decide)))
    have x2:=((ab HW).cell (p:=⟨g,o+(i*2+1),none⟩) hg).trans (hx _ _ (fN ht (j:=1) (by decide)))
    have y1:=((ab HW).cell (p:=⟨g',o'+(i*2+0),none⟩) fC).trans (tu _ _ (fN nK (j:=0) (by decide)))
    have y2:=((ab HW).cell (p:=⟨g',o'+(i*2+1),none⟩) fC).trans (tu _ _ (fN nK (j:=1) (by decide)))
    rw[Nat.add_zero] at x1 y1
    rw[←Nat.add_assoc] at x2 y2
    obtain ⟨t1,t2⟩:=t
    obtain ⟨r1,r2⟩:=t'
    simp only at x1 x2 y1 y2
    have i0:(0:Int)≤(i:Int):=zH _
    have i1:(i:Int)<(l.length:Int):=by omega
    have i2:(i:Int)<(l'.length:Int):=by have:=ab pD;omega
    by_cases h1:t1=r1
    ·by_cases h2:t2=r2
     ·subst h1 h2
      have qq:=ak (eR (ab HT) ht nK)
      clear hx tu ht nK HT
      go_wp2
      go_quiet (fail)
      go_wp2
      go_roundg (l.length-(i+1))
      case measure=>have:=ab bH;omega
      case rel=>exact ⟨i+1,_,by go_num,rfl,by omega,qq,rfl⟩
     ·have HN:=ak (kV ht nK (fun e=>h2 (congrArg Prod.snd e)))
      have n1:(t2==r2)=false:=by simpa using h2
      clear hx tu ht nK HT
      go_wp2
      go_quiet (fail)
      go_wp2
      go_ret
      exact nV (ab HN) (below_drewN (below_drewN (zE _ _) _) _)
    ·have HN:=ak (kV ht nK (fun e=>h1 (congrArg Prod.fst e)))
     have n1:(t1==r1)=false:=by simpa using h1
     clear hx tu ht nK HT
     go_wp2
     go_quiet (fail)
     go_wp2
     go_ret
     exact nV (ab HN) (below_drewN (below_drewN (zE _ _) _) _)
   ·obtain rfl:i=l.length:=by omega
    have HE:=ak (kI (ab pD) (ab HT))
    clear HT
    go_wp2
    go_ret
    exact Tc (ab HE) (below_drewN (zE _ _) _)
 ·have HN:Hid (¬l=l'):=fun e=>fR (by rw[e])
  have e1:((l.length:Int) != (l'.length:Int))=true:=by simp;omega
  have e2:((l.length:Int)==(l'.length:Int))=false:=by simp;omega
  have e3:¬(l.length:Int)=(l'.length:Int):=by omega
  clear fR
  go_enter Tryz.func65,Tryz.ntmps65
  go_wp2
  go_ret
  exact nV (ab HN) (zE _ _)
structure KT (W:World) (p q:Nat) (xs ys:Array Value) (w:World):Prop where
 bl:Below W.heap.size W w
 x:∀j,w.cell? ⟨p,j,none⟩=xs[j]?
 y:∀j,w.cell? ⟨q,j,none⟩=ys[j]?
 lx:p<w.heap.size
 ly:q<w.heap.size
theorem uz {W wr:World} (hb:Below W.heap.size W wr) (xs ys:Array Value) (t:TypeId):KT W wr.heap.size (wr.heap.size+1) xs ys ((wr.alloc (.cells xs t)).alloc (.cells ys t)):=by
 have h1:=hb.size
 refine ⟨(hb.alloc h1 _).alloc (by rw[zJ];omega) _,fun j=>?_,fun j=>?_,by rw[zJ,zJ];omega,by rw[zJ,zJ];omega⟩
 ·rw[World.cell?_alloc_past _ _ _ (by rw[zJ];omega),World.cell?_alloc_at _ _ _ _ rfl]
 ·rw[World.cell?_alloc_at _ _ _ _ (by rw[zJ])]
theorem KT.up {W w w':World}{p q:Nat}{xs ys:Array Value} (h:KT W p q xs ys w) (hb:Below w.heap.size w w'):KT W p q xs ys w' :=
 ⟨h.bl.trans (hb.mono h.bl.size),fun j=>(hb.cell (p:=⟨p,j,none⟩) h.lx).trans (h.x j),fun j=>(hb.cell (p:=⟨q,j,none⟩) h.ly).trans (h.y j),Nat.lt_of_lt_of_le h.lx hb.size,Nat.lt_of_lt_of_le h.ly hb.size⟩
theorem mX {W:World}{v u:Value}{l l':List En}{cs fI:List Value} (h:Rl W v l.length cs) (hE:qV W cs l) (h':Rl W u l'.length fI) (Bg:qV W fI l') (w0:World) (hw:Below W.heap.size W w0):Calls Tryz.prog 35 #[v,u] w0 (Ev w0 (l=l')):=by
 obtain ⟨a,c,rfl,hc,h3⟩:=h
 obtain ⟨a',c',rfl,VH,FG⟩:=h'
 have H3:=ak h3
 have SV:=ak FG
 have HE:=ak hE
 have HE':=ak Bg
 have HW:=ak hw
 clear h3 FG hE Bg hw
 by_cases fR:l.length=l'.length
 ·have pD:=ak fR
  have e1:((l.length:Int) != (l'.length:Int))=false:=by simp[fR]
  have e2:((l.length:Int)==(l'.length:Int))=true:=by simp[fR]
  clear fR
  go_enter Tryz.func35,Tryz.ntmps35
  go_wp2
  clear e1 e2
  go_loopg [5,6,7,8] l.length (fun gk v5 _ _ _ wr=>∃(i:Nat),v5=.int .i64 (i:Int)∧gk=l.length-i∧i≤l.length∧Hid (l.take i=l'.take i)∧Hid (Below w0.heap.size w0 wr))
  case atStart=>exact ⟨0,rfl,rfl,by omega,rfl,zE _ _⟩
  case round =>
   obtain ⟨i,rfl,bd,hi,HT,HB⟩:=hrel
   have bH:=ak bd
   clear bd
   obtain ⟨wo,lM⟩:∃x,x=wr:=⟨_,rfl⟩
   subst lM
   by_cases aU:i<l.length
   ·obtain ⟨t,ht⟩:∃t,l[i]?=some t:=⟨_,List.getElem?_eq_getElem aU⟩
    obtain ⟨t',nK⟩:∃t,l'[i]?=some t:=⟨_,List.getElem?_eq_getElem (by have:=ab pD;omega)⟩
    obtain ⟨g,o,rfl,hg,hx⟩:=ab H3 (by omega)
    obtain ⟨g',o',rfl,fC,tu⟩:=ab SV (by have:=ab pD;omega)
    have hB:Below W.heap.size W wo:=(ab HW).trans ((ab HB).mono (ab HW).size)
    obtain ⟨vv,vr,vg,gD,rv,rr,rg⟩:=(ab HE).at i t ht
    obtain ⟨vv',YX,YZ,JC,rv',rr',rg'⟩:=(ab HE').at i t' nK
    have key:∀(j:Nat) (x:Value),[Value.string t.name,vv,vr,vg][j]?=some x→wo.cell? ⟨g,o+(i*4+j),none⟩=some x:=fun j x dr=>(hB.cell (p:=⟨g,o+(i*4+j),none⟩) hg).trans (hx _ _ (by
     rw[←gD,List.getElem?_take,List.getElem?_drop] at dr
     split at dr
     ·exact dr
     ·cases dr))
    have oO:∀(j:Nat) (x:Value),[Value.string t'.name,vv',YX,YZ][j]?=some x→wo.cell? ⟨g',o'+(i*4+j),none⟩=some x:=fun j x dr=>(hB.cell (p:=⟨g',o'+(i*4+j),none⟩) fC).trans (tu _ _ (by
     rw[←JC,List.getElem?_take,List.getElem?_drop] at dr
     split at dr
     ·exact dr
     ·cases dr))
    have GL:g'<wo.heap.size:=Nat.lt_of_lt_of_le fC hB.size
    have d0:wo.cell? ⟨g,o+i*4,none⟩=_:=key 0 _ rfl
    have d1:wo.cell? ⟨g,o+i*4+1,none⟩=_:=key 1 _ rfl
    have d2:wo.cell? ⟨g,o+i*4+2,none⟩=_:=key 2 _ rfl
    have d3:wo.cell? ⟨g,o+i*4+3,none⟩=_:=key 3 _ rfl
    have f0:∀q,(wo.alloc q).cell? ⟨g',o'+i*4,none⟩=_:=fun q=>(World.cell?_alloc_lt _ _ _ GL).trans (oO 0 _ rfl)
    have f1:∀q,(wo.alloc q).cell? ⟨g',o'+i*4+1,none⟩=_:=fun q=>(World.cell?_alloc_lt _ _ _ GL).trans (oO 1 _ rfl)
    have f2:∀q,(wo.alloc q).cell? ⟨g',o'+i*4+2,none⟩=_:=fun q=>(World.cell?_alloc_lt _ _ _ GL).trans (oO 2 _ rfl)
    have f3:∀q,(wo.alloc q).cell? ⟨g',o'+i*4+3,none⟩=_:=fun q=>(World.cell?_alloc_lt _ _ _ GL).trans (oO 3 _ rfl)
    have HR:=ak (fun w' hb=>lW rr rr' w' hb)
    have HG:=ak (fun w' hb=>gK rg rg' w' hb)
    obtain ⟨av,cv,rfl,hvl,UB⟩:=rv
    obtain ⟨av',cv',rfl,abo,IJ⟩:=rv'
    obtain ⟨ar,cr,rfl,-,-⟩:=rr
    obtain ⟨TN,TI,rfl,-,-⟩:=rr'
    obtain ⟨ag,cg,rfl,-,-⟩:=rg
    obtain ⟨TP,TJ,rfl,-,-⟩:=rg'
    have RV:=ak UB
    have RV':=ak IJ
    have i0:(0:Int)≤(i:Int):=zH _
    have i1:(i:Int)<(l.length:Int):=by omega
    have i2:(i:Int)<(l'.length:Int):=by have:=ab pD;omega
    have wB:=ak (uz hB #[.string t.name,.slice av t.aW.length cv,.slice ar t.res.length cr,.slice ag t.gone.length cg] #[.string t'.name,.slice av' t'.aW.length cv',.slice TN t'.res.length TI,.slice TP t'.gone.length TJ] 63)
    have wH:=ak ((ab HB).trans (show Below w0.heap.size wo ((wo.alloc (.cells #[.string t.name,.slice av t.aW.length cv,.slice ar t.res.length cr,.slice ag t.gone.length cg] 63)).alloc (.cells #[.string t'.name,.slice av' t'.aW.length cv',.slice TN t'.res.length TI,.slice TP t'.gone.length TJ] 63)) from ((zE _ _).alloc (ab HB).size _).alloc (by rw[zJ];have:=(ab HB).size;omega) _))
    have bn:=ak aU
    have Hto:=ak (fun e:t=t'=>eR (ab HT) ht (by rw[e];exact nK))
    have pv:=ak (fun e:¬t=t'=>kV ht nK e)
    clear hx tu ht nK hB key oO gD JC UB IJ HT aU
    by_cases n1:t.name=t'.name
    ·by_cases n2:t.aW.length=t'.aW.length
     ·have SE:=ak n1
      have Ol:=ak n2
      have e1:((t.aW.length:Int) != (t'.aW.length:Int))=false:=by simp[n2]
      have e2:((t.aW.length:Int)==(t'.aW.length:Int))=true:=by simp[n2]
      have e3:(t.name.toList==t'.name.toList)=true:=by rw[n1];simp
      clear n1 n2
      go_wp2_with fail
      refine (ab HR _ (ab wB).bl).mono ?_
      rintro e' w2 ⟨q1,rfl,yO,b9⟩
      have qq:=ak ((ab wB).up b9)
      have dF:=ak ((ab wH).trans (b9.mono (ab wH).size))
      have X2:=(ab qq).x
      have Y2:=(ab qq).y
      have qj:=ak yO
      clear b9 wB wH HR d0 d1 d2 d3 f0 f1 f2 f3 yO
      cases q1 with
      |false =>
       have HN:=ak (ab pv (fun e=>by have:=(ab qj).2 (by rw[e]);cases this))
       clear HG
       go_wp2
       go_ret
       exact nV (ab HN) (ab dF)
      |true =>
       go_wp2_with fail
       refine (ab HG _ (ab qq).bl).mono ?_
       rintro e' w3 ⟨q2,rfl,yN,cY⟩
       have GY:=ak ((ab qq).up cY)
       have lG:=ak ((ab dF).trans (cY.mono (ab dF).size))
       have X3:=(ab GY).x
       have Y3:=(ab GY).y
       have LL:=ak yN
       clear cY qq dF HG X2 Y2 yN
       cases q2 with
       |false =>
        have HN:=ak (ab pv (fun e=>by have:=(ab LL).2 (by rw[e]);cases this))
        go_wp2
        go_ret
        exact nV (ab HN) (ab lG)
       |true =>
        clear e1 e2 e3
        go_wp2
        go_loopg [8] t.aW.length (fun gk v8 wq=>∃(k m:Nat),v8=.int .i64 (k:Int)∧gk=t.aW.length-k∧k≤t.aW.length∧Hid (t.aW.take k=t'.aW.take k)∧wq=w3.drewN m)
        case atStart=>exact ⟨0,0,rfl,rfl,by omega,rfl,rfl⟩
        case round =>
         obtain ⟨k,m,rfl,jC,hk,BC,rfl⟩:=hrel
         have jR:=ak jC
         clear jC
         by_cases Rb:k<t.aW.length
         ·obtain ⟨p,hp⟩:∃p,t.aW[k]?=some p:=⟨_,List.getElem?_eq_getElem Rb⟩
          obtain ⟨p',pB⟩:∃p,t'.aW[k]?=some p:=⟨_,List.getElem?_eq_getElem (by have:=ab Ol;omega)⟩
          obtain ⟨gv,ov,rfl,Nn,p8⟩:=ab RV (by omega)
          obtain ⟨J5,IW,rfl,Nl,oY⟩:=ab RV' (by have:=ab Ol;omega)
          have vz:=(ab GY).bl
          have x1:=(vz.cell (p:=⟨gv,ov+(k*2+0),none⟩) Nn).trans (p8 _ _ (kG hp (j:=0) (by decide)))
          have x2:=(vz.cell (p:=⟨gv,ov+(k*2+1),none⟩) Nn).trans (p8 _ _ (kG hp (j:=1) (by decide)))
          have y1:=(vz.cell (p:=⟨J5,IW+(k*2+0),none⟩) Nl).trans (oY _ _ (kG pB (j:=0) (by decide)))
          have y2:=(vz.cell (p:=⟨J5,IW+(k*2+1),none⟩) Nl).trans (oY _ _ (kG pB (j:=1) (by decide)))
          rw[Nat.add_zero] at x1 y1
          rw[←Nat.add_assoc] at x2 y2
          obtain ⟨t1,t2⟩:=p
          obtain ⟨r1,r2⟩:=p'
          simp only at x1 x2 y1 y2
          have k0:(0:Int)≤(k:Int):=zH _
          have k1:(k:Int)<(t.aW.length:Int):=by omega
          have k2:(k:Int)<(t'.aW.length:Int):=by have:=ab Ol;omega
          by_cases h1:t1=r1
          ·by_cases h2:t2=r2
           ·subst h1 h2
            have SM:=ak (eR (ab BC) hp pB)
            clear p8 oY hp pB BC vz
            go_wp2
            go_quiet (fail)
            go_wp2
            go_roundg (t.aW.length-(k+1))
            case measure=>have:=ab jR;omega
            case rel=>exact ⟨k+1,_,by go_num,rfl,by omega,SM,rfl⟩
           ·have HN:=ak (ab pv (fun e=>kV hp pB (fun e2=>h2 (congrArg Prod.snd e2)) (by rw[e])))
            have n1:(t2==r2)=false:=by simpa using h2
            clear p8 oY hp pB BC vz
            go_wp2
            go_quiet (fail)
            go_wp2
            go_ret
            exact nV (ab HN) (below_drewN (below_drewN (ab lG) _) _)
          ·have HN:=ak (ab pv (fun e=>kV hp pB (fun e2=>h1 (congrArg Prod.fst e2)) (by rw[e])))
           have n1:=lS h1
           clear p8 oY hp pB BC vz
           go_wp2
           go_quiet (fail)
           go_wp2
           go_ret
           exact nV (ab HN) (below_drewN (below_drewN (ab lG) _) _)
         ·obtain rfl:k=t.aW.length:=by omega
          have HT9:=ak (ab Hto (by
           have a1:=ab SE
           have a2:=kI (ab Ol) (ab BC)
           have a3:=(ab qj).1 trivial
           have a4:=(ab LL).1 trivial
           obtain ⟨p1,p2,p3,p4⟩:=t
           obtain ⟨r1,r2,r3,r4⟩:=t'
           simp only at a1 a2 a3 a4
           rw[a1,a2,a3,a4]))
          have LS:=ak (below_drewN (ab lG) m)
          clear BC lG
          go_wp2
          go_roundg (l.length-(i+1))
          case measure=>have:=ab bH;have:=ab bn;omega
          case rel=>exact ⟨i+1,by go_num,rfl,by have:=ab bn;omega,HT9,LS⟩
     ·have HN:=ak (ab pv (fun e=>n2 (by rw[e])))
      have e1:((t.aW.length:Int) != (t'.aW.length:Int))=true:=by simp;omega
      have e2:((t.aW.length:Int)==(t'.aW.length:Int))=false:=by simp;omega
      have e3:(t.name.toList==t'.name.toList)=true:=by rw[n1];simp
      have e4:¬(t.aW.length:Int)=(t'.aW.length:Int):=by omega
      clear n1 n2 HR HG
      go_wp2
      go_ret
      exact nV (ab HN) (ab wH)
    ·have HN:=ak (ab pv (fun e=>n1 (by rw[e])))
     have e3:=lS n1
     clear n1 HR HG
     go_wp2
     go_ret
     exact nV (ab HN) (ab wH)
   ·obtain rfl:i=l.length:=by omega
    have HE9:=ak (kI (ab pD) (ab HT))
    clear HT
    go_wp2
    go_ret
    exact Tc (ab HE9) (ab HB)
 ·have HN:Hid (¬l=l'):=fun e=>fR (by rw[e])
  have e1:((l.length:Int) != (l'.length:Int))=true:=by simp;omega
  have e2:((l.length:Int)==(l'.length:Int))=false:=by simp;omega
  have e3:¬(l.length:Int)=(l'.length:Int):=by omega
  clear fR
  go_enter Tryz.func35,Tryz.ntmps35
  go_wp2
  go_ret
  exact nV (ab HN) (zE _ _)
end Go.Proofs.YtghioefalckgoaaGreatDoor
