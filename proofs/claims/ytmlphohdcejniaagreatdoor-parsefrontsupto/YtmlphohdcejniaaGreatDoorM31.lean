import Derived.Test.YtmlphohdcejniaaGreatDoorM30
import Derived.Lib.ItoaNum
import Derived.Lib.ItoaLen
namespace Go.Proofs.YtmlphohdcejniaaGreatDoor
open Go.RowKit
theorem pb {s:ByteArray}{p c:Nat}{R:List Nat} (h:(aH s).drop p=c::R) (hc:l7 c):bA s s.size p=bA s s.size (p+1):=by
 obtain ⟨h1,h2⟩:=dj h
 exact xa h1 (by rw[h2];exact hc)
theorem G8 {s:ByteArray}:∀(A R:List Nat) (p:Nat),(aH s).drop p=A++10::R→(∀c ∈ A,c≠10)→j6 s p=p+A.length
 |[],R,p,h,_=>by
  obtain ⟨h1,h2⟩:=dj h
  rw[j6,dif_neg (fun q=>q.2 h2)]
  rfl
 |c::A,R,p,h,hc=>by
  obtain ⟨h1,h2⟩:=dj h
  rw[j6,dif_pos ⟨h1,by rw[h2];exact hc c List.mem_cons_self⟩,G8 A R (p+1) (di (A:=[c]) h) (fun x hx=>hc x (zF _ hx)),List.length_cons]
  omega
def Bo:List Nat→Prop
 |[]=>True
 |[_]=>True
 |c::d::r=>¬(c=42∧d=47)∧Bo (d::r)
theorem rE {s:ByteArray}:∀(A R:List Nat) (p:Nat),(aH s).drop p=A++42::47::R→Bo A→dD s p=p+A.length
 |[],R,p,h,_=>by
  obtain ⟨h1,h2⟩:=dj h
  obtain ⟨h3,h4⟩:=dj (di (A:=[42]) h)
  rw[dD,dif_neg (fun q=>q.2 ⟨h2,h4⟩)]
  rfl
 |[c],R,p,h,_=>by
  obtain ⟨h1,h2⟩:=dj h
  obtain ⟨h3,h4⟩:=dj (di (A:=[c]) h)
  rw[dD,dif_pos ⟨by show p+1<s.size;exact h3,fun q=>by have:=q.2;rw[show p+1=p+[c].length from rfl,h4] at this;omega⟩,rE [] R (p+1) (di (A:=[c]) h) trivial]
  rfl
 |c::d::A,R,p,h,hn=>by
  obtain ⟨h1,h2⟩:=dj h
  obtain ⟨h3,h4⟩:=dj (di (A:=[c]) h)
  rw[dD,dif_pos ⟨by show p+1<s.size;exact h3,fun q=>hn.1 ⟨h2.symm.trans q.1,by rw[←h4];exact q.2⟩⟩,rE (d::A) R (p+1) (di (A:=[c]) h) hn.2]
  simp only[List.length_cons]
  omega
theorem pl {s:ByteArray}{p:Nat} (A R:List Nat) (h:(aH s).drop p=47::47::(A++10::R)) (hc:∀c ∈ A,c≠10):bA s s.size p=bA s s.size (p+(A.length+2)):=by
 obtain ⟨h1,h2⟩:=dj h
 obtain ⟨h3,h4⟩:=dj (di (A:=[47]) h)
 rw[Ag h3 h2 h4,G8 (47::47::A) R p h (fun c gJ=>by
  rcases List.mem_cons.1 gJ with rfl|gJ
  ·decide
  ·rcases List.mem_cons.1 gJ with rfl|gJ
   ·decide
   ·exact hc c gJ)]
 rfl
theorem ps {s:ByteArray}{p:Nat} (A R:List Nat) (h:(aH s).drop p=47::42::(A++42::47::R)) (hn:Bo A):bA s s.size p=bA s s.size (p+(A.length+4)):=by
 obtain ⟨h1,h2⟩:=dj h
 obtain ⟨h3,h4⟩:=dj (di (A:=[47]) h)
 have h5:(aH s).drop (p+2)=A++42::47::R:=di (A:=[47,42]) h
 have FL:=rE A R (p+2) h5 hn
 obtain ⟨h6,_⟩:=dj (di (A:=[42]) (di (A:=A) h5))
 have h7:p+2+A.length+1<s.size:=h6
 rw[Af h3 h2 h4 (by rw[FL];omega),FL,show p+2+A.length+2=p+(A.length+4) by omega]
structure tc (s:ByteArray) (t:Tok) (e:Nat):Prop where
 lt:t.place<s.size
 one:cJ s t.place=(t.kind,e,0)
 text:t.text=s.extract t.place e
 le:e≤s.size
 gt:t.place<e
theorem tc.size {s:ByteArray}{t:Tok}{e:Nat} (g:tc s t e):t.text.size=e-t.place:=by rw[g.text,extract_size s _ _ g.le]
theorem tc.str {s:ByteArray}{t:Tok}{e:Nat} (g:tc s t e):aH t.text=sub s t.place (e-t.place):=by rw[g.text,bc];rfl
theorem yb (s:ByteArray) (k j:Nat) (h1:k≤j) (h2:j<ew s k):isLet (ax s j)∨bZ (ax s j):=by
 rw[ew] at h2
 split at h2
 ·rename_i h
  by_cases e:j=k
  ·subst e;exact h.2
  ·exact yb s (k+1) j (by omega) h2
 ·omega
termination_by s.size-k
decreasing_by omega
theorem yg {B q:Nat} (hq:rO B q=none) (R1 R2:List Nat):∀(A:List Nat) (f v n:Nat),dR B f (A++q::R1) v n=dR B f (A++q::R2) v n
 |[],f,v,n=>by
  show dR B f (q::R1) v n=dR B f (q::R2) v n
  rw[mu hq,mu hq]
 |c::A,0,v,n=>by rw[mr,mr]
 |c::A,f+1,v,n=>by
  show dR B (f+1) (c::(A++q::R1)) v n=dR B (f+1) (c::(A++q::R2)) v n
  cases h:rO B c with
  |none=>rw[mu h,mu h]
  |some d=>rw[sj h,sj h,yg hq R1 R2 A f]
theorem N7 {q:Nat} (hq:q=39∨q=34) (R1 R2:List Nat) (a:Nat):∀(A:List Nat),fP (a::(A++q::R1))=fP (a::(A++q::R2))
 |[]=>by
  show fP (a::q::R1)=fP (a::q::R2)
  rcases hq with rfl|rfl<;>rfl
 |c::A=>by
  show fP (a::c::(A++q::R1))=fP (a::c::(A++q::R2))
  have d16:rO 16 q=none:=by rcases hq with rfl|rfl<;>rfl
  have d8:rO 8 q=none:=by rcases hq with rfl|rfl<;>rfl
  rw[fP,fP,yg d16 R1 R2 A,show c::(A++q::R1)=(c::A)++q::R1 from rfl,show c::(A++q::R2)=(c::A)++q::R2 from rfl,yg d8 R1 R2 (c::A)]
theorem PX {s Q:ByteArray}{q:Nat} (hq:q=39∨q=34):∀(m:Nat) (A R1 R2 l:List Nat) (k p:Nat),A.length≤m→(aH s).drop k=A++q::R1→(aH Q).drop p=A++q::R2→gC s q k=some (l,k+A.length+1)→gC Q q p=some (l,p+A.length+1):=by
 intro m
 induction m with
 |zero =>
  intro A R1 R2 l k p hm h1 h2 hu
  obtain rfl:=List.eq_nil_of_length_eq_zero (Nat.le_zero.1 hm)
  obtain ⟨a1,a2⟩:=dj h1
  obtain ⟨b1,b2⟩:=dj h2
  rw[ir a1 a2] at hu
  have:=(Prod.mk.inj (zC hu)).1
  rw[ir b1 b2,←this]
  rfl
 |succ m ih =>
  intro A R1 R2 l k p hm h1 h2 hu
  cases A with
  |nil=>exact ih [] R1 R2 l k p (by simp) h1 h2 hu
  |cons c A =>
   obtain ⟨a1,a2⟩:=dj h1
   obtain ⟨b1,b2⟩:=dj h2
   by_cases BO:c=q
   ·rw[ir a1 (a2.trans BO)] at hu
    have:=(Prod.mk.inj (zC hu)).2
    rw[List.length_cons] at this
    omega
   ·have hp:db Q p=db s k:=by
     unfold db
     rw[a2,b2,h1,h2]
     split
     ·rfl
     ·split
      ·exact (N7 hq R1 R2 c A).symm
      ·rfl
    cases Pq:db s k with
    |none=>rw[rz a1 (by rw[a2];exact BO) Pq] at hu;cases hu
    |some t =>
     obtain ⟨b,n⟩:=t
     obtain ⟨p1,p2,p3⟩:=hU Pq a1
     rw[lf a1 (by rw[a2];exact BO) Pq] at hu
     obtain ⟨⟨l',e'⟩,jR,oJ⟩:=Option.map_eq_some_iff.1 hu
     obtain ⟨rfl,he⟩:=Prod.mk.inj oJ
     have he:e'=k+(c::A).length+1:=he
     obtain ⟨u1,_⟩:=zQ _ (k+n) l' e' (zD _) jR
     have hn:n≤(c::A).length:=by omega
     have M4:c::A=(c::A).take n++(c::A).drop n:=(List.take_append_drop n _).symm
     have hl:((c::A).take n).length=n:=by rw[List.length_take];omega
     have g1:(aH s).drop (k+n)=(c::A).drop n++q::R1:=by
      have:=di (Q:=s) (p:=k) (A:=(c::A).take n) (R:=(c::A).drop n++q::R1) (by rw[h1,←List.append_assoc,←M4])
      rwa [hl] at this
     have g2:(aH Q).drop (p+n)=(c::A).drop n++q::R2:=by
      have:=di (Q:=Q) (p:=p) (A:=(c::A).take n) (R:=(c::A).drop n++q::R2) (by rw[h2,←List.append_assoc,←M4])
      rwa [hl] at this
     have UM:((c::A).drop n).length=(c::A).length-n:=List.length_drop
     have hi:=ih ((c::A).drop n) R1 R2 l' (k+n) (p+n) (by rw[List.length_cons] at hm UM;omega) g1 g2 (by rw[jR,he,UM];congr 2;omega)
     rw[lf b1 (by rw[b2];exact BO) (hp.trans Pq),hi,UM]
     show some (b::l',p+n+((c::A).length-n)+1)=_
     congr 2
     omega
theorem PW {s:ByteArray}{q:Nat}:∀{k:Nat}{l:List Nat}{e:Nat},gC s q k=some (l,e)→ax s (e-1)=q:=by
 have:∀(m k:Nat) (l:List Nat) (e:Nat),s.size-k≤m→gC s q k=some (l,e)→ax s (e-1)=q:=by
  intro m
  induction m with
  |zero=>intro k l e hm h;rw[mA (by omega)] at h;cases h
  |succ m ih =>
   intro k l e hm h
   by_cases hk:k<s.size
   ·by_cases hq:ax s k=q
    ·rw[ir hk hq] at h
     have:=(Prod.mk.inj (zC h)).2
     rw[←this]
     exact hq
    ·cases hp:db s k with
     |none=>rw[rz hk hq hp] at h;cases h
     |some t =>
      obtain ⟨b,n⟩:=t
      obtain ⟨p1,p2,p3⟩:=hU hp hk
      rw[lf hk hq hp] at h
      obtain ⟨⟨l',e'⟩,h1,h2⟩:=Option.map_eq_some_iff.1 h
      have h3:e'=e:=(Prod.mk.inj h2).2
      rw[←h3]
      exact ih (k+n) l' e' (by omega) h1
   ·rw[mA hk] at h;cases h
 intro k l e h
 exact this _ k l e (zD _) h
theorem JC {s B:ByteArray}{t:Tok}{e p c:Nat}{R:List Nat} (g:tc s t e) (h:(aH B).drop p=aH t.text++c::R) (hcn:¬(isLet c∨bZ c)):cJ B p=(t.kind,p+t.text.size,0)∧bA B B.size p=(p,true)∧p<B.size∧B.extract p (p+t.text.size)=t.text:=by
 have bU:=g.size
 have Ig:=g.gt
 have hle:=g.le
 have eH:=g.one
 have hlen:(aH t.text).length=t.text.size:=bk _
 have hBl:p+t.text.size+1≤B.size:=by
  have:=congrArg List.length h
  rw[List.length_drop,bk,zK,hlen,List.length_cons] at this
  omega
 have hb:∀j,j<t.text.size→ax B (p+j)=ax s (t.place+j):=fun j hj=>by
  have e1:((aH B).drop p)[j]?=some (ax s (t.place+j)):=by rw[h,List.getElem?_append_left (by omega),g.str,TF (by omega) (by omega)]
  rw[List.getElem?_drop,eY B (p+j) (by omega)] at e1
  exact zC e1
 have ba:ax B (p+t.text.size)=c:=by
  have:=(dj (di (A:=aH t.text) h)).2
  rwa [hlen] at this
 have dZ:ax B p=ax s t.place:=by
  have:=hb 0 (by omega)
  rwa [Nat.add_zero,Nat.add_zero] at this
 have hx:B.extract p (p+t.text.size)=t.text:=by
  apply qd
  rw[bc,h,show p+t.text.size-p=(aH t.text).length by omega,List.take_left']
  rfl
 have cP:ew s t.place=e→ew B p=p+t.text.size:=fun he=>by
  refine ow B t.text.size p (fun j hj=>⟨by omega,?_⟩) (fun _=>by rw[ba];exact hcn)
  rw[hb j hj]
  exact yb s t.place (t.place+j) (by omega) (by omega)
 refine ⟨?_,?_,by omega,hx⟩
 ·unfold cJ at eH ⊢
  rw[dZ]
  by_cases h1:isLet (ax s t.place)
  ·rw[if_pos h1] at eH ⊢
   obtain ⟨e1,e2⟩:=Prod.mk.inj eH
   have e3:=(Prod.mk.inj e2).1
   rw[cP e3,←e1]
  ·rw[if_neg h1] at eH ⊢
   by_cases h2:bZ (ax s t.place)
   ·rw[if_pos h2] at eH ⊢
    split at eH
    ·cases (Prod.mk.inj (Prod.mk.inj eH).2).2
    ·rename_i hw
     obtain ⟨e1,e2⟩:=Prod.mk.inj eH
     have e3:=(Prod.mk.inj e2).1
     rw[cP e3,hx,if_neg (by rw[g.text,←e3];exact hw),←e1]
   ·rw[if_neg h2] at eH ⊢
    by_cases h3:ax s t.place=39∨ax s t.place=34
    ·rw[if_pos h3] at eH ⊢
     split at eH
     ·cases (Prod.mk.inj (Prod.mk.inj eH).2).2
     ·rename_i l e' hu
      obtain ⟨e1,e2⟩:=Prod.mk.inj eH
      have e3:e'=e:=(Prod.mk.inj e2).1
      subst e3
      have gw:=PW hu
      obtain ⟨u1,u2,_⟩:=zQ _ (t.place+1) l e' (zD _) hu
      obtain ⟨A,hA⟩:∃A,A=sub s (t.place+1) (e'-t.place-2):=⟨_,rfl⟩
      have hAl:A.length=e'-t.place-2:=by rw[hA];exact P5 (by omega)
      have QK:(aH s).drop (t.place+1)=A++ax s t.place::(aH s).drop e':=by
       have iq:e'-1<(aH s).length:=by rw[bk];omega
       have hd:(aH s).drop (e'-1)=ax s t.place::(aH s).drop e':=by
        rw[List.drop_eq_getElem_cons iq,show e'-1+1=e' by omega]
        congr 1
        have:=eY s (e'-1) (by omega)
        rw[List.getElem?_eq_getElem iq] at this
        exact (zC this).trans gw
       rw[←hd,hA]
       unfold sub
       rw[show (aH s).drop (e'-1)=((aH s).drop (t.place+1)).drop (e'-t.place-2) by rw[List.drop_drop];congr 1;omega,List.take_append_drop]
      have FN:(aH B).drop (p+1)=A++ax s t.place::(c::R):=by
       have ht:aH t.text=ax s t.place::(A++[ax s t.place]):=by
        rw[g.str]
        unfold sub
        have KN:t.place<(aH s).length:=by rw[bk];omega
        rw[List.drop_eq_getElem_cons KN,QK]
        have h00:(aH s)[t.place]=ax s t.place:=by
         have:=eY s t.place (by omega)
         rw[List.getElem?_eq_getElem KN] at this
         exact zC this
        rw[h00,show e'-t.place=(A.length+1)+1 by omega,List.take_succ_cons]
        congr 1
        rw[List.take_append,List.take_of_length_le (by omega),show A.length+1-A.length=1 by omega]
        rfl
       have:=di (Q:=B) (p:=p) (A:=[ax s t.place]) (R:=A++ax s t.place::(c::R)) (by rw[h,ht];simp)
       exact this
      have gJ:=PX h3 A.length A _ _ l (t.place+1) (p+1) (zD _) QK FN (by rw[hu];congr 2;omega)
      rw[gJ,←e1]
      show (3,p+1+A.length+1,0)=_
      congr 2
      omega
    ·rw[if_neg h3] at eH ⊢
     split at eH
     ·rename_i h4
      obtain ⟨e1,e2⟩:=Prod.mk.inj eH
      have e3:=(Prod.mk.inj e2).1
      rw[if_pos h4,←e1,show t.text.size=1 by omega]
     ·cases (Prod.mk.inj (Prod.mk.inj eH).2).2
 ·have YC:¬l7 (ax s t.place)∧¬ax s t.place=47:=by
   have Y6:isLet (ax s t.place)∨bZ (ax s t.place)∨(ax s t.place=39∨ax s t.place=34)∨jl (ax s t.place):=by
    unfold cJ at eH
    by_cases h1:isLet (ax s t.place)
    ·exact .inl h1
    ·rw[if_neg h1] at eH
     by_cases h2:bZ (ax s t.place)
     ·exact .inr (.inl h2)
     ·rw[if_neg h2] at eH
      by_cases h3:ax s t.place=39∨ax s t.place=34
      ·exact .inr (.inr (.inl h3))
      ·rw[if_neg h3] at eH
       by_cases h4:jl (ax s t.place)
       ·exact .inr (.inr (.inr h4))
       ·rw[if_neg h4] at eH
        cases (Prod.mk.inj (Prod.mk.inj eH).2).2
   unfold isLet bZ jl at Y6
   unfold l7
   simp only[List.mem_cons,List.mem_nil_iff,or_false] at Y6
   omega
  exact iP (by omega) (by rw[dZ];exact YC.1) (by rw[dZ];exact YC.2)
def abd (s:ByteArray):Tok:=⟨5,s.size,⟨#[]⟩⟩
def VP (s:ByteArray):Nat→List Tok→Prop
 |_,[]=>True
 |k,t::r=>k≤t.place∧t.place+t.text.size≤s.size∧s.extract t.place (t.place+t.text.size)=t.text∧1≤t.kind∧t.kind≤5∧(t.text.size=0↔r=[])∧VP s (t.place+t.text.size) r
theorem E' {s:ByteArray}:∀(f k n:Nat) (ts:List Tok),k≤s.size→n≤16383→jV s f k n=.inl ts→∃pre,ts=pre++[abd s]∧(∀t ∈ pre,∃e,tc s t e)∧n+pre.length≤16383∧VP s k ts:=by
 intro f
 induction f with
 |zero=>intro k n ts _ _ h;cases h
 |succ f ih =>
  intro k n ts hk hn h
  have hp:=Dg s s.size k hk
  rw[jV] at h
  split at h
  ·cases h
  ·split at h
   ·rename_i h1 h2
    refine ⟨[],?_,fun t ht=>by simp at ht,by simpa using hn,?_⟩
    ·rw[←Sum.inl.inj h,h2];rfl
    ·rw[←Sum.inl.inj h,h2]
     refine ⟨by show k≤s.size;exact hk,by show s.size+0≤s.size;omega,?_,by show 1≤5;decide,by show 5≤5;decide,⟨fun _=>rfl,fun _=>rfl⟩,trivial⟩
     show s.extract s.size (s.size+0)=⟨#[]⟩
     exact xH (by rw[ByteArray.size_extract];omega)
   ·split at h
    ·cases h
    ·split at h
     ·rename_i h1 h2 h3 h4
      have cw:(bA s s.size k).1<s.size:=by omega
      have UB:=vz cw h4
      generalize hq:(bA s s.size k).1=q at h hp cw UB h4
      cases hr:jV s f (cJ s q).2.1 (n+1) with
      |inr e=>rw[hr] at h;cases h
      |inl l =>
       rw[hr] at h
       obtain ⟨pre,e1,e2,e3,e4⟩:=ih (cJ s q).2.1 (n+1) l UB.2 (by omega) hr
       have Cx:=Sum.inl.inj h
       have hg:tc s ⟨(cJ s q).1,q,s.extract q (cJ s q).2.1⟩ (cJ s q).2.1:=by
        refine ⟨cw,?_,rfl,UB.2,UB.1⟩
        show cJ s q=((cJ s q).1,(cJ s q).2.1,0)
        rw[←h4]
       have bU:(s.extract q (cJ s q).2.1).size=(cJ s q).2.1-q:=extract_size s _ _ UB.2
       refine ⟨⟨(cJ s q).1,q,s.extract q (cJ s q).2.1⟩::pre,?_,?_,by rw[List.length_cons];omega,?_⟩
       ·rw[←Cx,e1];rfl
       ·intro t ht
        rcases List.mem_cons.1 ht with rfl|ht
        ·exact ⟨_,hg⟩
        ·exact e2 t ht
       ·rw[←Cx]
        have SS:1≤(cJ s q).1∧(cJ s q).1≤5:=by
         unfold cJ at h4 ⊢
         by_cases g1:isLet (ax s q)
         ·rw[if_pos g1];simp
         ·rw[if_neg g1] at h4 ⊢
          by_cases g2:bZ (ax s q)
          ·rw[if_pos g2] at h4 ⊢
           split at h4
           ·cases h4
           ·rename_i g;rw[if_neg g];simp
          ·rw[if_neg g2] at h4 ⊢
           by_cases g3:ax s q=39∨ax s q=34
           ·rw[if_pos g3] at h4 ⊢
            split at h4
            ·cases h4
            ·show 1≤3∧3≤5;decide
           ·rw[if_neg g3] at h4 ⊢
            split at h4
            ·rename_i g;rw[if_pos g];simp
            ·cases h4
        have gw:q+(s.extract q (cJ s q).2.1).size=(cJ s q).2.1:=by rw[bU];omega
        refine ⟨hp.1,?_,?_,SS.1,SS.2,?_,?_⟩
        ·show q+(s.extract q (cJ s q).2.1).size≤s.size;omega
        ·show s.extract q (q+(s.extract q (cJ s q).2.1).size)=_;rw[gw]
        ·show (s.extract q (cJ s q).2.1).size=0↔l=[]
         constructor
         ·intro z;omega
         ·intro z;rw[e1] at z;simp at z
        ·show VP s (q+(s.extract q (cJ s q).2.1).size) l
         rw[gw]
         exact e4
     ·cases h
def dec (u:Nat):ByteArray:=⟨(Lib.decDigits u).toArray⟩
theorem Dv (B M:Nat):∀(a b:List Nat) (n:Nat),cK B M (a++b) n=match cK B M a n with
  |none=>none
  |some m=>cK B M b m
 |[],b,n=>rfl
 |c::a,b,n=>by
  show cK B M (c::(a++b)) n=_
  rw[cK,cK]
  cases Eg c with
  |none=>rfl
  |some d =>
   simp only
   split
   ·exact Dv B M a b _
   ·rfl
theorem ID {d:Nat} (h:d<10):Eg (48+d)=some d:=by
 have:∀x:Fin 10,Eg (48+x.val)=some x.val:=by decide
 exact this ⟨d,h⟩
theorem wI {d:Nat} (h:d<10):(UInt8.ofNat (48+d)).toNat=48+d:=by simp;omega
theorem IE:∀(u:Nat),∀x ∈ (Lib.decDigits u).map UInt8.toNat,48≤x∧x≤57:=by
 intro u
 induction u using Nat.strongRecOn with
 |_ u ih =>
  intro x hx
  rw[Lib.decDigits] at hx
  split at hx
  ·rename_i h
   rw[List.map_singleton,List.mem_singleton,wI h] at hx
   omega
  ·rename_i h
   rw[List.map_append,List.mem_append] at hx
   rcases hx with hx|hx
   ·exact ih (u / 10) (by omega) x hx
   ·rw[List.map_singleton,List.mem_singleton,wI (by omega)] at hx
    omega
theorem RH:∀(u:Nat),u≤2147483648→cK 10 9223372036854775807 ((Lib.decDigits u).map UInt8.toNat) 0=some u:=by
 intro u
 induction u using Nat.strongRecOn with
 |_ u ih =>
  intro hu
  rw[Lib.decDigits]
  split
  ·rename_i h
   rw[List.map_singleton,wI h,cK,ID h]
   simp only
   rw[if_pos ⟨h,by omega⟩,cK]
   congr 1
   omega
  ·rename_i h
   rw[List.map_append,Dv,ih (u / 10) (by omega) (by omega)]
   simp only
   rw[List.map_singleton,wI (by omega),cK,ID (by omega)]
   simp only
   rw[if_pos ⟨by omega,by omega⟩,cK]
   congr 1
   omega
theorem Kg:∀(u:Nat),1≤u→∃c r,(Lib.decDigits u).map UInt8.toNat=c::r∧c≠48:=by
 intro u
 induction u using Nat.strongRecOn with
 |_ u ih =>
  intro hu
  rw[Lib.decDigits]
  split
  ·rename_i h
   exact ⟨48+u,[],by rw[List.map_singleton,wI h],by omega⟩
  ·rename_i h
   obtain ⟨c,r,h1,h2⟩:=ih (u / 10) (by omega) (by omega)
   exact ⟨c,_,by rw[List.map_append,h1];rfl,h2⟩
theorem RI (u:Nat):aH (dec u)=(Lib.decDigits u).map UInt8.toNat:=rfl
theorem Om {u:Nat} (h:u≤2147483648):wv (aH (dec u))=some u:=by
 rw[RI]
 by_cases h0:u=0
 ·subst h0
  rw[Lib.decDigits,dif_pos (by decide)]
  rfl
 ·obtain ⟨c,r,h1,h2⟩:=Kg u (by omega)
  have hv:=RH u h
  rw[h1] at hv ⊢
  unfold wv
  rw[if_neg,if_neg,if_neg (by simp)]
  ·exact hv
  ·show ¬[c]=[48]
   simpa using h2
  ·rintro (q|q)
   ·cases r<;>simp at q
    exact h2 q.1
   ·cases r<;>simp at q
    exact h2 q.1
theorem Eh {u:Nat} (h:u≤2147483648):1≤(dec u).size∧(dec u).size≤20:=by
 have e:(dec u).size=(Lib.decDigits u).length:=rfl
 rw[e,Lib.decDigits_length]
 exact ⟨Lib.nDigits_pos u,Lib.nDigits_le20 u (by omega)⟩
theorem Dw (u:Nat) (h:u≤2147483648):jh (dec u)=((u:Int),0):=by
 unfold jh
 rw[if_neg (by have:=(Eh h).2;omega),Om h]
def aR (x:ByteArray):Prop:=mL x=true∧1≤x.size∧x.size≤30
theorem xl {x:ByteArray} (h:aR x):(∀k,k<x.size→isLet (ax x k)∨bZ (ax x k))∧isLet (ax x 0):=by
 have hp:mW x:=by have:=h.1;unfold mL at this;exact of_decide_eq_true this
 exact ⟨fun k hk=>hp.2.2 k _ (eY x k hk),hp.2.1 _ (eY x 0 (by have:=h.2.1;omega))⟩
def lit (q:UInt8) (x:ByteArray):ByteArray:=(⟨#[q]⟩++x)++⟨#[q]⟩
theorem vD (q:UInt8) (x:ByteArray):aH (lit q x)=q.toNat::(aH x++[q.toNat]):=by
 unfold lit aH
 rw[ByteArray.data_append,ByteArray.data_append]
 simp
theorem xw (q:UInt8) (x:ByteArray):(lit q x).size=x.size+2:=by
 rw[←bk,vD]
 simp[bk]
theorem K8 {Q:ByteArray}{q:Nat} (hq:q=39∨q=34):∀(A R:List Nat) (p:Nat),(aH Q).drop p=A++q::R→(∀c ∈ A,isLet c∨bZ c)→gC Q q p=some (A,p+A.length+1)
 |[],R,p,h,_=>by
  obtain ⟨h1,h2⟩:=dj h
  rw[ir h1 h2]
  rfl
 |c::A,R,p,h,hc=>by
  obtain ⟨h1,h2⟩:=dj (R:=A++q::R) h
  have UP:=hc c List.mem_cons_self
  unfold isLet bZ at UP
  have hp:db Q p=some (c,1):=by
   unfold db
   rw[h2,if_neg (by omega),if_neg (by omega)]
  have hn:(aH Q).drop (p+1)=A++q::R:=di (A:=[c]) h
  rw[lf h1 (by rw[h2];omega) hp,K8 hq A R (p+1) hn (fun x hx=>hc x (zF _ hx)),List.length_cons,show p+1+A.length+1=p+(A.length+1)+1 by omega]
  rfl
theorem nX {x:ByteArray} (h:aR x):∀c ∈ aH x,isLet c∨bZ c:=fun c hc=>by
 obtain ⟨j,hj⟩:=List.getElem?_of_mem hc
 have hl:j<x.size:=by
  have:=(zB hj).1
  rwa [bk] at this
 rw[eY x j hl] at hj
 rw[←zC hj]
 exact (xl h).1 j hl
theorem MP {q:UInt8}{x:ByteArray} (hq:q=39∨q=34) (h:aR x):gC (lit q x) q.toNat 1=some (aH x,(lit q x).size):=by
 have hs:(aH (lit q x)).drop 1=aH x++q.toNat::[]:=by rw[vD];rfl
 rw[K8 (by rcases hq with rfl|rfl<;>decide) (aH x) [] 1 hs (nX h),bk,xw]
 congr 2
 omega
theorem DF (q:UInt8) (x:ByteArray):ax (lit q x) 0=q.toNat:=(dj (R:=aH x++[q.toNat]) (p:=0) (by rw[vD];rfl)).2
theorem Hy {q:UInt8}{x:ByteArray} (hq:q=39∨q=34) (h:aR x):∀c ∈ aH (lit q x),c<128:=fun c hc=>by
 rw[vD] at hc
 have h1:q.toNat<128:=by rcases hq with rfl|rfl<;>decide
 rcases List.mem_cons.1 hc with rfl|hc
 ·exact h1
 ·rcases List.mem_append.1 hc with hc|hc
  ·have:=nX h c hc
   unfold isLet bZ at this
   omega
  ·rw[List.mem_singleton.1 hc];exact h1
theorem A3 {s:ByteArray} (h:∀c ∈ aH s,c<128):dq s 0=-1:=I2 (fun k hk=>h _ (List.mem_of_getElem? (eY s k hk))) s.size 0 (by omega)
theorem pY (q:UInt8) (x:ByteArray) (hq:q=39∨q=34) (h:aR x):gh (lit q x)=(x,0):=by
 have h1:=xw q x
 have h2:=h.2.2
 have hu:lD (lit q x)=some (aH x,(lit q x).size):=by
  unfold lD
  rw[if_neg (by omega),DF,if_pos (by rcases hq with rfl|rfl<;>decide)]
  exact MP hq h
 unfold gh
 rw[if_neg (by omega),if_neg (by rw[A3 (Hy hq h)];decide),hu]
 simp only
 rw[if_pos trivial]
 congr 1
 unfold ti aH
 obtain ⟨⟨l⟩⟩:=x
 simp only[List.map_map]
 congr 2
 exact (List.map_congr_left (g:=id) fun c _=>by simp).trans (List.map_id l)
theorem wM:aR ⟨#[112,114,111,116,111,51]⟩:=by
 refine ⟨?_,by decide,by decide⟩
 kernel_rfl
end Go.Proofs.YtmlphohdcejniaaGreatDoor
