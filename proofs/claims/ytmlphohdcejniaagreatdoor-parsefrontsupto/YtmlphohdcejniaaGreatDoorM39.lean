import Derived.Test.YtmlphohdcejniaaGreatDoorM38
set_option maxHeartbeats 4000000
set_option maxRecDepth 100000
namespace Go.Proofs.YtmlphohdcejniaaGreatDoor
open Go.RowKit
attribute [local go_sem ↓] Go.wp_at_zero Go.wp_at_succ
structure WA (V:World) (b:Nat) (r0:Option Nat) (vs:Value) (ps:List (Wd×List Nat)) (D:Nat) (W:World) (t:List Wd) (n c:Nat) (w:World):Prop where
 ex:∃r q,q.map Prod.fst=t∧q.length≤n∧mV b r vs (ps++q) (D+c) w∧KW b r0 W w r
 we:WE V w b
section
variable {V : World} {b : Nat} {r0 : Option Nat} {vs : Value} {ps : List (Wd × List Nat)} {D : Nat} {W : World} {t : List Wd} {n c : Nat} {w : World}
theorem WA.start (h:mV b r0 vs ps D W) (hV:WE V W b):WA V b r0 vs ps D W [] 0 0 W:=⟨⟨r0,[],rfl,zD _,by rw[List.append_nil];exact h,KW.refl _ _ _⟩,hV⟩
theorem la {r:Option Nat}{q p2:List (Wd×List Nat)}{r2:Option Nat}{c2 K:Nat}{w':World}{t2:List Wd} (hq:q.map Prod.fst=t) (hl:q.length≤n) (hi:mV b r vs (ps++q) (D+c) w) (hk:KW b r0 W w r) (he:WE V w b) (h2:p2.map Prod.fst=t2) (yL:p2.length≤K) (qz:mV b r2 vs (ps++q++p2) (D+c+c2) w') (iq:KW b r w w' r2):WA V b r0 vs ps D W (t++t2) (n+K) (c+c2) w' :=
 ⟨⟨r2,q++p2,by rw[List.map_append,hq,h2],by rw[zK];omega,by rw[←List.append_assoc,←Nat.add_assoc];exact qz,hk.trans iq⟩,he.step hi iq⟩
theorem WA.put (h:WA V b r0 vs ps D W t n c w) (hn:ps.length+n≤1099511627776) (ws:List Wd) (hw:∀x ∈ ws,KQ x) (hl:ws.length≤3) (cs:Array Value) (cB:cs=(bW (ws.map Prod.snd)).toArray) (k:Nat) (hk:k=ws.length) :
  Calls Tryz.prog 18 #[.pointer (some ⟨b,0,none⟩),.slice (some ⟨w.heap.size,0,none⟩) k k] (w.alloc (.cells cs 9)) fun e w'=>e=.returned (.tuple #[])∧WA V b r0 vs ps D W (t++ws) (n+3) c w':=by
 obtain ⟨⟨r,q,h1,h2,h3,h4⟩,h5⟩:=h
 refine (jY h3 ws hw hl (by rw[zK];omega) cs cB k hk).mono ?_
 rintro e w' ⟨rfl,r2,p2,c2,⟨e1,rfl⟩,e2,e3,e4⟩
 exact ⟨rfl,la (c2:=0) h1 h2 h3 h4 h5 e1 e2 e3 e4⟩
theorem WA.yT (h:WA V b r0 vs ps D W t n c w) (hn:ps.length+n≤1099511627600) :
  Calls Tryz.prog 21 #[.pointer (some ⟨b,0,none⟩)] w fun e w'=>e=.returned (.tuple #[])∧∃s,(s=[sg 59]∨s=[sg 59,sg 59])∧WA V b r0 vs ps D W (t++s) (n+6) c w':=by
 obtain ⟨⟨r,q,h1,h2,h3,h4⟩,h5⟩:=h
 refine (IV h3 (by rw[zK];omega)).mono ?_
 rintro e w' ⟨rfl,r2,p2,c2,⟨e1,rfl⟩,e2,e3,e4⟩
 exact ⟨rfl,_,e1,la (c2:=0) h1 h2 h3 h4 h5 rfl e2 e3 e4⟩
theorem WA.number (h:WA V b r0 vs ps D W t n c w) (hn:ps.length+n≤1099511627600) {z:Int} (h1:-2147483648≤z) (h2:z≤2147483647) :
  Calls Tryz.prog 43 #[.pointer (some ⟨b,0,none⟩),.int .i64 z] w fun e w'=>e=.returned (.tuple #[])∧WA V b r0 vs ps D W (t++dO z) (n+3) c w':=by
 obtain ⟨⟨r,q,g1,g2,h3,h4⟩,h5⟩:=h
 refine (CK h3 h5.hp (by rw[zK];omega) h1 h2).mono ?_
 rintro e w' ⟨rfl,r2,p2,c2,⟨e1,rfl⟩,e2,e3,e4⟩
 exact ⟨rfl,la (c2:=0) g1 g2 h3 h4 h5 e1 e2 e3 e4⟩
theorem WA.names (h:WA V b r0 vs ps D W t n c w) (hn:ps.length+n≤1099511627500) {xs:List ByteArray} (hx:ik xs) (dot:Bool) (s:ByteArray) (hs:s=if dot=true then iu xs else jB xs) :
  Calls Tryz.prog 20 #[.pointer (some ⟨b,0,none⟩),.string s] w fun e w'=>e=.returned (.tuple #[])∧WA V b r0 vs ps D W (t++SD dot xs) (n+30) c w':=by
 obtain ⟨⟨r,q,g1,g2,h3,h4⟩,h5⟩:=h
 refine (E2 h5 h3 (by rw[zK];omega) hx dot s hs).mono ?_
 rintro e w' ⟨rfl,r2,p2,c2,⟨e1,rfl⟩,e2,e3,e4⟩
 exact ⟨rfl,la (c2:=0) g1 g2 h3 h4 h5 e1 e2 e3 e4⟩
theorem WA.cells (h:WA V b r0 vs ps D W t n c w):w.cell? ⟨b,3,none⟩=some (.int .i64 ((D+c:Nat):Int))∧w.frozen? ⟨b,3,none⟩=false:=by
 obtain ⟨⟨r,q,g1,g2,h3,h4⟩,h5⟩:=h
 obtain ⟨v,_,k0,_⟩:=h3.dJ
 exact ⟨cell_of_row _ _ _ _ _ _ k0,by simp[World.frozen?,k0]⟩
theorem WA.decl (h:WA V b r0 vs ps D W t n c w):WA V b r0 vs ps D W t n (c+1) (w.setCell ⟨b,3,none⟩ (.int .i64 (((D+c:Nat):Int)+1))):=by
 obtain ⟨⟨r,q,g1,g2,h3,h4⟩,h5⟩:=h
 obtain ⟨v,hv,k0,ho⟩:=h3.dJ
 obtain ⟨k1,hg⟩:=aJ (j:=3) k0 (.int .i64 (((D+c:Nat):Int)+1))
 have cw:=h3.lt
 have hk:KW b r w (w.setCell ⟨b,3,none⟩ (.int .i64 (((D+c:Nat):Int)+1))) r:=⟨hg.os,hg.tape,hg.output,hg.size,fun k q1 q2 _=>hg.block k q1 (by intro e;exact q2 (zC e)),.inl rfl⟩
 have vG:v.ownBlock≠some b:=fun e=>by have:=(ho.lt b e).1;omega
 refine ⟨⟨r,q,g1,g2,⟨⟨v,hv,?_,ho.kept hg (.inr vG)⟩,h3.sp.up (hk.below (fun k e=>by have:=(h3.row k e).1;omega) (by omega)),h3.ok⟩,h4.trans hk⟩,h5.step h3 hk⟩
 rw[k1]
 show some (Obj.cells #[v,vs,.int .i64 ((ps++q).length:Int),.int .i64 (((D+c:Nat):Int)+1),.int .i64 ((ps++q).length:Int)] 56 (0,0))=some (Obj.cells #[v,vs,.int .i64 ((ps++q).length:Int),.int .i64 ((D+(c+1):Nat):Int),.int .i64 ((ps++q).length:Int)] 56 (0,0))
 rw[show D+(c+1)=(D+c)+1 by omega,Int.natCast_succ (D+c)]
theorem WA.up (h:WA V b r0 vs ps D W t n c w) {w':World} (hb:Below w.heap.size w w'):WA V b r0 vs ps D W t n c w':=by
 obtain ⟨⟨r,q,g1,g2,h3,h4⟩,h5⟩:=h
 exact ⟨⟨r,q,g1,g2,h3.up hb,h4.trans (.dX hb)⟩,h5.up hb⟩
theorem WA.cast (h:WA V b r0 vs ps D W t n c w) {t':List Wd}{n':Nat} (ht:t=t') (hn:n≤n'):WA V b r0 vs ps D W t' n' c w:=by
 obtain ⟨⟨r,q,g1,g2,h3,h4⟩,h5⟩:=h
 exact ⟨⟨r,q,g1.trans ht,Nat.le_trans g2 hn,h3,h4⟩,h5⟩
theorem WA.comp {r:Option Nat}{q:List (Wd×List Nat)} (hq:q.map Prod.fst=t) (hl:q.length≤n) (hk:KW b r0 W w r) {t2:List Wd}{n2 c2:Nat}{w2:World} (h2:WA V b r vs (ps++q) (D+c) w t2 n2 c2 w2):WA V b r0 vs ps D W (t++t2) (n+n2) (c+c2) w2:=by
 obtain ⟨⟨r2,q2,g1,g2,g3,g4⟩,h5⟩:=h2
 exact ⟨⟨r2,q++q2,by rw[List.map_append,hq,g1],by rw[zK];omega,by rw[←List.append_assoc,←Nat.add_assoc];exact g3,hk.trans g4⟩,h5⟩
theorem WA.decl_eq (h:WA V b r0 vs ps D W t n c w) {c':Nat} (hc:c=c'):WA V b r0 vs ps D W t n c' w:=by rw[←hc];exact h
theorem WA.done (h:WA V b r0 vs ps D W t n c w):∃r q,q.map Prod.fst=t∧q.length≤n∧mV b r vs (ps++q) (D+c) w∧KW b r0 W w r:=h.ex
end
def kT (rs:List (Int×Int)) (t:List Wd) (c:Nat):Prop:=∀(σ:Type) (L:Nat→fQ σ) (K:Nat) (fr:σ→Int×Int→σ),(∀x p,p ∈ rs→eU L K (Da p.1 p.2) 1 x (fr x p))→(∀x,eU L K [sg 59] 0 x x)→∀x,eU L K t c x (rs.foldl fr x)
theorem kT.nil:kT [] [] 0:=fun _ _ _ _ _ _ x=>eU.nil x
theorem kT.push {rs:List (Int×Int)}{t s:List Wd}{c:Nat}{p:Int×Int} (h:kT rs t c) (hs:s=[sg 59]∨s=[sg 59,sg 59]):kT (rs++[p]) (t++lE::(oE p.1 p.2++s)) (c+1):=fun σ L K fr h1 h2 x=>by
 rw[List.foldl_append]
 have e1:=h σ L K fr (fun x p hp=>h1 x p (List.mem_append_left _ hp)) h2 x
 have e2:=h1 (rs.foldl fr x) p (List.mem_append_right _ (List.mem_singleton.2 rfl))
 rcases hs with rfl|rfl
 ·exact e1.trans e2
 ·have:=(e1.trans e2).trans (h2 (fr (rs.foldl fr x) p))
  exact this.cast (by simp[Da]) rfl
def EA (rs:List (Int×Int)) (gs:List ByteArray) (t:List Wd) (c:Nat):Prop:=∀(σ:Type) (L:Nat→fQ σ) (K:Nat) (fr:σ→Int×Int→σ) (fg:σ→List ByteArray→σ),(∀x p,p ∈ rs→eU L K (Da p.1 p.2) 1 x (fr x p))→(∀x,gs≠[]→eU L K (sO gs) gs.length x (fg x gs))→(∀x,eU L K [sg 59] 0 x x)→∀x,eU L K t c x (if gs=[] then rs.foldl fr x else fg (rs.foldl fr x) gs)
theorem kT.res {rs:List (Int×Int)}{t:List Wd}{c:Nat} (h:kT rs t c):EA rs [] t c:=fun σ L K fr fg h1 _ h3 x=>by
 rw[if_pos rfl]
 exact h σ L K fr h1 h3 x
theorem kT.gone {rs:List (Int×Int)}{gs:List ByteArray}{t s:List Wd}{c:Nat} (h:kT rs t c) (hg:gs≠[]) (u:List Wd) (hu:sO gs=u++[sg 59]) (hs:s=[sg 59]∨s=[sg 59,sg 59]):EA rs gs (t++(u++s)) (c+gs.length):=fun σ L K fr fg h1 h2 h3 x=>by
 rw[if_neg hg]
 have e1:=h σ L K fr h1 h3 x
 have e2:=h2 (rs.foldl fr x) hg
 rcases hs with rfl|rfl
 ·exact (e1.trans e2).cast (by rw[hu]) rfl
 ·have:=(e1.trans e2).trans (h3 (fg (rs.foldl fr x) gs))
  exact this.cast (by rw[hu];simp) rfl
end Go.Proofs.YtmlphohdcejniaaGreatDoor
namespace Go.Proofs.YtmlphohdcejniaaGreatDoor
open Go.RowKit
attribute [local go_sem ↓] Go.wp_at_zero Go.wp_at_succ
theorem LQ:aR ⟨#[114,101,115,101,114,118,101,100]⟩:=by
 refine ⟨?_,by decide,by decide⟩
 kernel_rfl
theorem Xy:aR ⟨#[116,111]⟩:=by
 refine ⟨?_,by decide,by decide⟩
 kernel_rfl
theorem eA {x:ByteArray} (h:aR x):KQ (1,x):=.inl ⟨rfl,h⟩
theorem MQ {q:UInt8}{x:ByteArray} (hq:q=39∨q=34) (h:aR x):KQ (3,lit q x):=.inr (.inr (.inl ⟨rfl,q,x,hq,h,rfl⟩))
theorem FZ {l:List ByteArray}{x:ByteArray}:mj (l++[x])=mj l++[sg 44,(3,lit 39 x)]:=by
 induction l with
 |nil=>rfl
 |cons y r ih=>show sg 44::(3,lit 39 y)::mj (r++[x])=_;rw[ih];rfl
noncomputable def xX:List ByteArray→List Wd
 |[]=>[lE]
 |x::r=>lE::(3,lit 39 x)::mj r
theorem FY (l:List ByteArray) (x:ByteArray):xX (l++[x])=if l=[] then [lE,(3,lit 39 x)] else xX l++[sg 44,(3,lit 39 x)]:=by
 cases l with
 |nil=>rfl
 |cons y r =>
  rw[if_neg (by simp)]
  show lE::(3,lit 39 y)::mj (r++[x])=_
  rw[FZ]
  rfl
theorem Q' {l:List ByteArray} (h:l≠[]):sO l=xX l++[sg 59]:=by
 cases l with
 |nil=>exact absurd rfl h
 |cons y r=>rfl
theorem yR {V W:World}{b:Nat}{r:Option Nat}{vs:Value}{ps:List (Wd×List Nat)}{D:Nat} (hV:WE V W b) (h:mV b r vs ps D W) {vr vg:Value}{rs:List (Int×Int)}{gs:List ByteArray} (hr:kl V vr rs.length (lj rs)) (hg:kl V vg gs.length (bW gs)) (hrs:∀p ∈ rs,(-2147483648≤p.1∧p.1≤2147483647)∧-2147483648≤p.2∧p.2≤2147483647) (hgs:∀x ∈ gs,aR x) (hn:ps.length+(20*rs.length+10*gs.length)≤1099511627000) (hD:D≤1099511627776) :
  Calls Tryz.prog 42 #[.pointer (some ⟨b,0,none⟩),vr,vg] W (Wr b r vs ps D W (20*rs.length+10*gs.length+20) fun t c=>EA rs gs t c∧c=rs.length+gs.length):=by
 have Pc:=aj (WA.start h hV)
 obtain ⟨ra,rc,rfl,hrm,Yr⟩:=hr
 obtain ⟨ga,gc,rfl,hgm,fB⟩:=hg
 have Tf:=aj Yr
 have GG:=aj fB
 have HRs:=aj hrs
 have HGs:=aj hgs
 have Hn:=aj hn
 have HD:=aj hD
 have Tg:=aj (show rs.length≤1099511627000∧gs.length≤1099511627000 by omega)
 clear Yr fB hrs hgs hn hD h hV
 go_enter Tryz.func42,Tryz.ntmps42
 go_wp2
 go_loopg [6] rs.length (fun gk v6 wr=>∃(i:Nat) (t:List Wd),v6=.int .i64 (i:Int)∧gk=rs.length-i∧i≤rs.length∧Hid (WA V b r vs ps D W t (20*i) i wr)∧Hid (kT (rs.take i) t i))
 case atStart=>exact ⟨0,[],rfl,rfl,by omega,aa Pc,kT.nil⟩
 case round =>
  obtain ⟨i,t,rfl,fi,qz,HA,HT⟩:=hrel
  have gA:=aj fi
  clear fi
  by_cases cw:i<rs.length
  ·obtain ⟨p,hp⟩:∃p,rs[i]?=some p:=⟨_,List.getElem?_eq_getElem cw⟩
   obtain ⟨g,rfl,me,hc⟩:=aa Tf (by omega)
   have AZ:Hid (∀w',Below V.heap.size V w'→w'.cell? ⟨g,i*2,none⟩=some (.int .i64 p.1)∧w'.cell? ⟨g,i*2+1,none⟩=some (.int .i64 p.2)):=fun w' hb =>
    ⟨(hb.cell (p:=⟨g,i*2,none⟩) me).trans (hc _ _ (wX _ _ _ hp).1),(hb.cell (p:=⟨g,i*2+1,none⟩) me).trans (hc _ _ (wX _ _ _ hp).2)⟩
   have HPr:=aj (aa HRs p (List.mem_of_getElem? hp))
   have yP:=aj (eD hp)
   have dN:=aj cw
   have i0:(0:Int)≤(i:Int):=zH _
   have i1:(i:Int)<(rs.length:Int):=by omega
   clear hp hc cw
   obtain ⟨p1,p2⟩:=p
   simp only at AZ HPr
   have HP:=aj ((aa HA).put (by have:=aa Hn;have:=aa dN;omega) [lE] (fun x hx=>by rw[List.mem_singleton.1 hx];exact eA LQ) (by decide) #[.string ⟨#[114,101,115,101,114,118,101,100]⟩] rfl 1 rfl)
   go_wp2_with fail
   refine (aa HP).mono ?_
   rintro e w1 ⟨rfl,ha⟩
   have yI:=aj ha
   obtain ⟨x0,x1⟩:=aa AZ w1 ha.we.below
   clear HP ha
   have HP:=aj ((aa yI).number (by have:=aa Hn;have:=aa dN;omega) (aa HPr).1.1 (aa HPr).1.2)
   go_wp2_with fail
   refine (aa HP).mono ?_
   rintro e w2 ⟨rfl,ha⟩
   have mz:=aj ha
   clear HP ha x0 x1
   obtain ⟨x0,x1⟩:=aa AZ w2 (aa mz).we.below
   by_cases eo:p2=p1
   ·have bF:(p2 != p1)=false:=by rw[eo];simp
    subst eo
    go_upto_region 5 with fail
    go_quiet (fail)
    have oC:=aj ((aa mz).up (below_drewN (zE _ _) nq))
    obtain ⟨w3,l8⟩:∃x,w2.drewN nq=x:=⟨_,rfl⟩
    rw[l8] at oC ⊢
    clear l8 x0 x1
    obtain ⟨x0,x1⟩:=aa AZ w3 (aa oC).we.below
    have Sn:=oC
    have HP:=aj ((aa Sn).yT (by have:=aa Hn;have:=aa dN;omega))
    go_wp2_with fail
    refine (aa HP).mono ?_
    rintro e w5 ⟨rfl,s,hs,ha⟩
    have ta:=aj ha
    have HS:=aj hs
    clear HP ha hs
    obtain ⟨c3,z3⟩:=(aa ta).cells
    have dB:((D+i:Nat):Int)≤3298534883328:=by have:=aa HD;have:=aa dN;have:=(aa Tg).1;omega
    have d0:(0:Int)≤((D+i:Nat):Int):=zH _
    obtain ⟨Di,zd⟩:∃Di,((D+i:Nat):Int)=Di:=⟨_,rfl⟩
    have HDi:=aj zd
    have jz:=(aa ta).decl
    rw[zd] at c3 dB d0 jz
    have KG:=aj jz
    have hL:rs.length≤1099511627000:=(aa Tg).1
    clear zd jz
    go_wp2
    go_roundg (rs.length-(i+1))
    case measure=>have:=aa gA;have:=aa dN;omega
    case rel=>exact ⟨i+1,t++lE::(oE p2 p2++s),by go_num,rfl,aa dN,(aa KG).cast (by simp[oE]) (by omega),by rw[aa yP];exact kT.push (p:=(p2,p2)) (aa HT) (aa HS)⟩
   ·have bF:(p2 != p1)=true:=by simpa using eo
    have VV:=aj eo
    clear eo
    go_upto_region 5 with fail
    go_quiet (fail)
    have oC:=aj ((aa mz).up (below_drewN (zE _ _) nq))
    obtain ⟨w3,l8⟩:∃x,w2.drewN nq=x:=⟨_,rfl⟩
    rw[l8] at oC ⊢
    clear l8 x0 x1
    obtain ⟨x0,x1⟩:=aa AZ w3 (aa oC).we.below
    have HP:=aj ((aa oC).put (by have:=aa Hn;have:=aa dN;omega) [(1,⟨#[116,111]⟩)] (fun x hx=>by rw[List.mem_singleton.1 hx];exact eA Xy) (by decide) #[.string ⟨#[116,111]⟩] rfl 1 rfl)
    go_wp2_with fail
    refine (aa HP).mono ?_
    rintro e w4 ⟨rfl,ha⟩
    have EJ:=aj ha
    clear HP ha x0 x1
    obtain ⟨x0,x1⟩:=aa AZ w4 (aa EJ).we.below
    have HP:=aj ((aa EJ).number (by have:=aa Hn;have:=aa dN;omega) (aa HPr).2.1 (aa HPr).2.2)
    go_wp2_with fail
    refine (aa HP).mono ?_
    rintro e Wo ⟨rfl,ha⟩
    have Sn:=aj ha
    clear HP ha x0 x1
    have HP:=aj ((aa Sn).yT (by have:=aa Hn;have:=aa dN;omega))
    go_wp2_with fail
    refine (aa HP).mono ?_
    rintro e w5 ⟨rfl,s,hs,ha⟩
    have ta:=aj ha
    have HS:=aj hs
    clear HP ha hs
    obtain ⟨c3,z3⟩:=(aa ta).cells
    have dB:((D+i:Nat):Int)≤3298534883328:=by have:=aa HD;have:=aa dN;have:=(aa Tg).1;omega
    have d0:(0:Int)≤((D+i:Nat):Int):=zH _
    obtain ⟨Di,zd⟩:∃Di,((D+i:Nat):Int)=Di:=⟨_,rfl⟩
    have HDi:=aj zd
    have jz:=(aa ta).decl
    rw[zd] at c3 dB d0 jz
    have KG:=aj jz
    have hL:rs.length≤1099511627000:=(aa Tg).1
    clear zd jz
    go_wp2
    go_roundg (rs.length-(i+1))
    case measure=>have:=aa gA;have:=aa dN;omega
    case rel=>exact ⟨i+1,t++lE::(oE p1 p2++s),by go_num,rfl,aa dN,(aa KG).cast (by simp[oE,aa VV]) (by omega),by rw[aa yP];exact kT.push (p:=(p1,p2)) (aa HT) (aa HS)⟩
  ·obtain rfl:i=rs.length:=by omega
   have hT:=aa HT
   rw[List.take_length] at hT
   have yQ:=aj hT
   clear hT HT
   by_cases hgz:gs.length=0
   ·obtain rfl:=List.eq_nil_of_length_eq_zero hgz
    have jn:Hid (Wr b r vs ps D W (20*rs.length+10*([]:List ByteArray).length+20) (fun t c=>EA rs [] t c∧c=rs.length+([]:List ByteArray).length) (.returned (.tuple #[])) wr):=by
     obtain ⟨r9,q9,k1,k2,k3,k4⟩:=(aa HA).ex
     exact ⟨rfl,r9,q9,rs.length,⟨by rw[k1];exact kT.res (aa yQ),rfl⟩,by omega,k3,k4⟩
    clear hgz
    go_wp2
    go_end0
    exact aa jn
   ·have BN:0<gs.length:=by omega
    have Ih:decide (0<gs.length)=true:=decide_eq_true BN
    obtain ⟨g,rfl,me,hc⟩:=aa GG BN
    have HCg:Hid (∀w' (j:Nat) (x:ByteArray),gs[j]?=some x→Below V.heap.size V w'→w'.cell? ⟨g,j,none⟩=some (.string x)):=fun w' j x hj hb=>(hb.cell (p:=⟨g,j,none⟩) me).trans (hc _ _ (jX _ _ _ hj))
    have zs:=aj BN
    clear hc hgz
    have HP:=aj ((aa HA).put (by have:=aa Hn;omega) [lE] (fun x hx=>by rw[List.mem_singleton.1 hx];exact eA LQ) (by decide) #[.string ⟨#[114,101,115,101,114,118,101,100]⟩] rfl 1 rfl)
    go_wp2_with fail
    refine (aa HP).mono ?_
    rintro e w1 ⟨rfl,ha⟩
    have yI:=aj ha
    clear HP ha HA
    go_wp2
    go_loopg [7] gs.length (fun gk v7 wr=>∃(j:Nat),v7=.int .i64 (j:Int)∧gk=gs.length-j∧j≤gs.length∧Hid (WA V b r vs ps D W (t++xX (gs.take j)) (20*rs.length+3+6*j) (rs.length+j) wr))
    case atStart=>exact ⟨0,rfl,rfl,by omega,aa yI⟩
    case round =>
     obtain ⟨j,rfl,kL,YM,mz⟩:=hrel
     have oM:=aj kL
     clear kL yI
     by_cases cw:j<gs.length
     ·obtain ⟨x,hx⟩:∃x,gs[j]?=some x:=⟨_,List.getElem?_eq_getElem cw⟩
      have AZ:Hid (∀w',Below V.heap.size V w'→w'.cell? ⟨g,j,none⟩=some (.string x)):=fun w' hb=>aa HCg w' j x hx hb
      have WX:=aj (aa HGs x (List.mem_of_getElem? hx))
      have yP:=aj (show xX (gs.take (j+1))=if gs.take j=[] then [lE,(3,lit 39 x)] else xX (gs.take j)++[sg 44,(3,lit 39 x)] by rw[eD hx,FY])
      have dN:=aj cw
      have Po:x.size≤30:=(aa WX).2.2
      have j0:(0:Int)≤(j:Int):=zH _
      have j1:(j:Int)<(gs.length:Int):=by omega
      clear hx cw
      by_cases hj0:j=0
      ·subst hj0
       have Sn:=mz
       have c0:=aa AZ wr (aa Sn).we.below
       have HP:=aj ((aa Sn).put (by have:=aa Hn;have:=aa dN;omega) [(3,lit 39 x)] (fun y hy=>by rw[List.mem_singleton.1 hy];exact MQ (.inl rfl) (aa WX)) (by simp) #[.string (lit 39 x)] rfl 1 rfl)
       unfold lit at HP
       go_wp2_with fail
       refine (aa HP).mono ?_
       rintro e w3 ⟨rfl,ha⟩
       have ta:=aj ha
       clear HP ha c0
       obtain ⟨c3,z3⟩:=(aa ta).cells
       have dB:((D+(rs.length+0):Nat):Int)≤5298534883328:=by have:=aa HD;have:=aa dN;have:=aa Tg;omega
       have d0:(0:Int)≤((D+(rs.length+0):Nat):Int):=zH _
       obtain ⟨Di,zd⟩:∃Di,((D+(rs.length+0):Nat):Int)=Di:=⟨_,rfl⟩
       have jz:=(aa ta).decl
       rw[zd] at c3 dB d0 jz
       have KG:=aj jz
       have hL:gs.length≤1099511627000:=(aa Tg).2
       clear zd jz
       go_wp2
       go_roundg (gs.length-(0+1))
       case measure=>have:=aa oM;have:=aa dN;omega
       case rel=>exact ⟨1,by go_num,rfl,aa dN,(aa KG).cast (by rw[aa yP];simp[xX,lit]) (by omega)⟩
      ·have k0:0<j:=by omega
       have kd:decide (0<j)=true:=decide_eq_true k0
       have HNe:=aj (show ¬gs.take j=[] by
        intro e
        have:=congrArg List.length e
        rw[List.length_take,List.length_nil] at this
        have:=aa dN
        omega)
       clear hj0
       have HP:=aj ((aa mz).put (by have:=aa Hn;have:=aa dN;omega) [sg 44] (fun y hy=>by rw[List.mem_singleton.1 hy];exact fV 44 (by decide)) (by decide) #[.string ⟨#[44]⟩] rfl 1 rfl)
       go_wp2_with fail
       refine (aa HP).mono ?_
       rintro e w2 ⟨rfl,ha⟩
       have Sn:=aj ha
       clear HP ha
       have c0:=aa AZ w2 (aa Sn).we.below
       have HP:=aj ((aa Sn).put (by have:=aa Hn;have:=aa dN;omega) [(3,lit 39 x)] (fun y hy=>by rw[List.mem_singleton.1 hy];exact MQ (.inl rfl) (aa WX)) (by simp) #[.string (lit 39 x)] rfl 1 rfl)
       unfold lit at HP
       go_wp2_with fail
       refine (aa HP).mono ?_
       rintro e w3 ⟨rfl,ha⟩
       have ta:=aj ha
       clear HP ha c0
       obtain ⟨c3,z3⟩:=(aa ta).cells
       have dB:((D+(rs.length+j):Nat):Int)≤5298534883328:=by have:=aa HD;have:=aa dN;have:=aa Tg;omega
       have d0:(0:Int)≤((D+(rs.length+j):Nat):Int):=zH _
       obtain ⟨Di,zd⟩:∃Di,((D+(rs.length+j):Nat):Int)=Di:=⟨_,rfl⟩
       have jz:=(aa ta).decl
       rw[zd] at c3 dB d0 jz
       have KG:=aj jz
       have hL:gs.length≤1099511627000:=(aa Tg).2
       clear zd jz
       go_wp2
       go_roundg (gs.length-(j+1))
       case measure=>have:=aa oM;have:=aa dN;omega
       case rel=>exact ⟨j+1,by go_num,rfl,aa dN,(aa KG).cast (by rw[aa yP,if_neg (aa HNe)];simp[lit]) (by omega)⟩
     ·obtain rfl:j=gs.length:=by omega
      have HP:=aj ((aa mz).yT (by have:=aa Hn;omega))
      go_wp2_with fail
      refine (aa HP).mono ?_
      rintro e w5 ⟨rfl,s,hs,ha⟩
      have jn:Hid (Wr b r vs ps D W (20*rs.length+10*gs.length+20) (fun t c=>EA rs gs t c∧c=rs.length+gs.length) (.returned (.tuple #[])) w5):=by
       obtain ⟨r9,q9,k1,k2,k3,k4⟩:=ha.ex
       have eo:gs≠[]:=fun e=>by have:=aa zs;rw[e] at this;exact absurd this (by decide)
       refine ⟨rfl,r9,q9,rs.length+gs.length,⟨?_,rfl⟩,by omega,k3,k4⟩
       rw[k1,List.take_length,List.append_assoc]
       exact kT.gone (aa yQ) eo _ (Q' eo) hs
      clear HP ha hs
      go_wp2
      go_end0
      exact aa jn
end Go.Proofs.YtmlphohdcejniaaGreatDoor
