import Derived.Test.YtghioefalckgoaaGreatDoorM46
import Derived.Shelf.Vars
set_option maxHeartbeats 8000000
set_option maxRecDepth 100000
namespace Go.Proofs.YtghioefalckgoaaGreatDoor
open Go.RowKit
attribute [local go_sem ↓] Go.wp_at_zero Go.wp_at_succ
theorem yn {j:Nat} (y:Value):¬vQ 26 j y:=by
 rintro (h|h|h|h|h|h)<;>exact absurd h.1 (by decide)
theorem slice_inj {a b:Option Addr}{n m c d:Nat} (h:Value.slice a n c=.slice b m d):a=b∧n=m∧c=d:=by injection h with h1 h2 h3;exact ⟨h1,h2,h3⟩
theorem xq {B:Nat→Prop}{w0:World}{v vi vm ve:Value}{F:Fl}{cm ce:List Value} (h:Dp B w0 v F vi vm ve cm ce) {f:Nat} (hd:∀m ∈ F.ms,zZ f m) :
  Calls Tryz.prog 18 #[v] w0 fun e w'=>e=.returned (.tuple #[])∧Sp B w0 w':=by
 obtain ⟨pk,is,ms,es⟩:=F
 obtain ⟨a1,c1,e1,m1,-⟩:=h.hi.wr
 obtain ⟨a2,c2,e2,m2,-⟩:=h.hm.wr
 obtain ⟨a3,c3,e3,m3,-⟩:=h.he.wr
 obtain rfl:=h.is
 subst e1 e2 e3
 simp only at m1 m2 m3 hd ⊢
 have kb:=aE w0 (.cells #[.string pk,.slice a1 is.length c1,.slice a2 ms.length c2,.slice a3 es.length c3] 26)
 have hb:Below w0.heap.size w0 (w0.alloc (.cells #[.string pk,.slice a1 is.length c1,.slice a2 ms.length c2,.slice a3 es.length c3] 26)):=(zE _ _).alloc (zD _) _
 obtain ⟨V,hV⟩:∃V,w0.alloc (.cells #[.string pk,.slice a1 is.length c1,.slice a2 ms.length c2,.slice a3 es.length c3] 26)=V:=⟨_,rfl⟩
 rw[hV] at kb hb
 have h:=h.mono (aC hb)
 have HV0:=ak (Sp.below (B:=B) hb)
 have HX:Hid (∀w',Sp B V w'→w'.cell? ⟨w0.heap.size,1,none⟩=some (.slice a1 is.length c1)∧w'.cell? ⟨w0.heap.size,2,none⟩=some (.slice a2 ms.length c2)∧w'.cell? ⟨w0.heap.size,3,none⟩=some (.slice a3 es.length c3)):=fun w' h=>⟨h.cell kb (j:=1) rfl yn,h.cell kb (j:=2) rfl yn,h.cell kb (j:=3) rfl yn⟩
 have HM:Hid (∀w',Sp B V w'→Calls Tryz.prog 39 #[.slice a2 ms.length c2] w' fun e w2=>e=.returned (.tuple #[])∧Sp B w' w2):=fun w' hs=>by
  obtain ⟨x3,y3,z3⟩:=h.hm.sp hs
  obtain ⟨l3,p3,q3⟩:=h.eI.sp hs 0 x3 rfl z3
  have y4:fW B w' 57 7 (.slice a2 ms.length c2) l3.length x3:=by rw[q3.len];exact y3
  have:=qA f B w' _ l3 x3 y4 p3 (q3.dp f hd)
  exact this
 obtain ⟨a1',LH,e1,-,k1⟩:=h.hi.wr
 obtain ⟨rfl,-,rfl⟩:=slice_inj e1
 obtain ⟨a3',Pq,e3,-,k3⟩:=Ks h.he h.ep
 obtain ⟨rfl,-,rfl⟩:=slice_inj e3
 have K1:=ak k1
 have K3:=ak k3
 have EB:=ak (Sp.refl B V)
 obtain ⟨x1,x2,x3⟩:=ab HX V (ab EB)
 obtain ⟨nI,LA⟩:∃n,is.length=n:=⟨_,rfl⟩
 obtain ⟨nM,Fu⟩:∃n,ms.length=n:=⟨_,rfl⟩
 obtain ⟨nE,hn3⟩:∃n,es.length=n:=⟨_,rfl⟩
 rw[LA] at K1 m1 hV HX x1;rw[Fu] at m2 hV HX HM x2;rw[hn3] at K3 m3 hV HX x3
 rw[LA,Fu,hn3]
 clear h hd kb hb k1 k3 e1 e3 LA Fu hn3
 go_enter Tryz.func18,Tryz.ntmps18
 go_wp2
 go_loopg [2] nI (fun gk vq wr=>∃(k:Nat),vq=.int .i64 (k:Int)∧gk=nI-k∧k≤nI∧Hid (Sp B V wr))
 case atStart=>exact ⟨0,rfl,rfl,by omega,ab EB⟩
 case round =>
  obtain ⟨k,rfl,bd,fY,Le⟩:=hrel
  have bH:=ak bd
  clear bd EB
  clear x1 x2 x3
  obtain ⟨x1,x2,x3⟩:=ab HX wr (ab Le)
  by_cases aU:k<nI
  ·obtain ⟨g,cur,rfl,hg,hh,hn⟩:=ab K1 (by omega)
   obtain ⟨fI,jP,iL,-⟩:=(ab Le).cH g cur _ hh
   obtain ⟨y0,d0,z0⟩:=dw (j:=k) jP (by omega)
   obtain ⟨s0,t0⟩:=Sp.put (ab Le) (⟨_,jP⟩:nv wr g 9) hg (j:=k) (y:=.string ⟨#[115,112,111,105,108,116]⟩) (DK _)
   have vV:=ak s0
   have i0:(0:Int)≤(k:Int):=zH _
   have i1:(k:Int)<(nI:Int):=by omega
   have bn:=ak aU
   clear hh hg hn jP iL aU s0 t0
   go_wp2
   go_roundg (nI-(k+1))
   case measure=>have:=ab bH;have:=ab bn;omega
   case rel=>exact ⟨k+1,by go_num,rfl,ab bn,ab vV⟩
  ·obtain rfl:k=nI:=by omega
   obtain ⟨woa,lM⟩:∃x,x=wr:=⟨_,rfl⟩
   subst lM
   clear aU fY bH
   go_wp2
   go_loopg [3] nE (fun gk vq wr=>∃(k:Nat),vq=.int .i64 (k:Int)∧gk=nE-k∧k≤nE∧Hid (Sp B V wr))
   case atStart=>exact ⟨0,rfl,rfl,by omega,ab Le⟩
   case round =>
    obtain ⟨k,rfl,bd,fY,qu⟩:=hrel
    have bH:=ak bd
    clear bd Le
    clear x1 x2 x3
    obtain ⟨x1,x2,x3⟩:=ab HX wr (ab qu)
    by_cases aU:k<nE
    ·obtain ⟨g2,Dd,UI,vv,YW,YY,n1,n2,n3,rfl,cE,BR,e0,e1,e2,e3,r1,r2,r3⟩:=ab K3 k aU
     have HC:=ak (fun s':ByteArray=>mU (nm:=s') r1 r2 r3 (ab qu))
     obtain ⟨b1,d1,rfl,-,-⟩:=r1
     obtain ⟨b2,d2,rfl,-,-⟩:=r2
     obtain ⟨b3,d3,rfl,-,-⟩:=r3
     have HQ:Hid (∀w',Sp B V w'→∃s',w'.cell? ⟨g2,k*4,none⟩=some (.string s')∧w'.frozen? ⟨g2,k*4,none⟩=false):=fun w' h=>h.text BR e0 (fun y hy=>(fh hy).2)
     have q1:=(ab qu).cell BR e1 (fun y hy=>by have:=(fh hy).1;omega)
     have q2:=(ab qu).cell BR e2 (fun y hy=>by have:=(fh hy).1;omega)
     have q3:=(ab qu).cell BR e3 (fun y hy=>by have:=(fh hy).1;omega)
     obtain ⟨s',q0,z0⟩:=ab HQ wr (ab qu)
     have HT:Hid (∀w',Sp B V w'→Sp B V (w'.setCell ⟨g2,k*4,none⟩ (.string ⟨#[115,112,111,105,108,116]⟩))):=fun w' h=>by
      obtain ⟨c',h5,-,-⟩:=h.cH g2 Dd _ BR
      exact (Sp.put h ⟨_,h5⟩ cE (OG (by omega))).1
     have i0:(0:Int)≤(k:Int):=zH _
     have i1:(k:Int)<(nE:Int):=by omega
     have bn:=ak aU
     clear BR cE e0 e1 e2 e3 aU z0
     go_wp2_with fail
     refine (ab HC s').mono ?_
     rintro e' w2 ⟨rfl,ff⟩
     have pE:=ak ((ab qu).trans ff)
     clear ff HC q0 q1 q2 q3 qu
     clear x1 x2 x3
     obtain ⟨x1,x2,x3⟩:=ab HX w2 (ab pE)
     obtain ⟨s2,q0,z0⟩:=ab HQ w2 (ab pE)
     have vV:=ak (ab HT w2 (ab pE))
     go_wp2
     go_roundg (nE-(k+1))
     case measure=>have:=ab bH;have:=ab bn;omega
     case rel=>exact ⟨k+1,by go_num,rfl,ab bn,ab vV⟩
    ·obtain rfl:k=nE:=by omega
     obtain ⟨wob,lM⟩:∃x,x=wr:=⟨_,rfl⟩
     subst lM
     clear aU fY bH
     go_wp2_with fail
     refine (ab HM _ (ab qu)).mono ?_
     rintro e' w2 ⟨rfl,ff⟩
     have vV:=ak ((ab HV0).trans ((ab qu).trans ff))
     clear ff
     go_wp2
     go_end0
     exact ⟨rfl,ab vV⟩
theorem nC {f:Nat} (hf:f≤200) {W:World}{v u vi vm ve ui um ue:Value}{F G:Fl}{cm ce zV Wo:List Value} (h:zy W v F vi vm ve cm ce) (h':zy W u G ui um ue zV Wo) (hd:∀m ∈ F.ms,zZ f m) (JT:∀m ∈ G.ms,zZ f m) (w0:World) (hw:Below W.heap.size W w0) :
  Calls Tryz.prog 16 #[v,u] w0 (Ev w0 (F=G)):=by
 obtain ⟨pk,is,ms,es⟩:=F
 obtain ⟨XG,QA,Cx,FR⟩:=G
 obtain ⟨rfl,hi,hm,eI,he,ep⟩:=h
 obtain ⟨rfl,Fy,hm',Q6,he',Ri⟩:=h'
 simp only at hi hm eI he ep Fy hm' Q6 he' Ri hd JT ⊢
 have HI:=ak (fun w' hb=>gK hi Fy w' hb)
 have HM:=ak (fun w' hb=>uK f W vm um ms Cx cm zV hm eI hm' Q6 hd JT w' hb 0 (by omega) (by omega))
 have HE:=ak (fun w' hb=>mX he ep he' Ri w' hb)
 obtain ⟨ai,ci,rfl,-,-⟩:=hi
 obtain ⟨am,cq,rfl,-,-⟩:=hm
 obtain ⟨ae,cn,rfl,-,-⟩:=he
 obtain ⟨ai',ci',rfl,-,-⟩:=Fy
 obtain ⟨TO,TG,rfl,-,-⟩:=hm'
 obtain ⟨TR,TH,rfl,-,-⟩:=he'
 have wB:=ak (uz hw #[.string pk,.slice ai is.length ci,.slice am ms.length cq,.slice ae es.length cn] #[.string XG,.slice ai' QA.length ci',.slice TO Cx.length TG,.slice TR FR.length TH] 26)
 have wH:Hid (Below w0.heap.size w0 ((w0.alloc (.cells #[.string pk,.slice ai is.length ci,.slice am ms.length cq,.slice ae es.length cn] 26)).alloc (.cells #[.string XG,.slice ai' QA.length ci',.slice TO Cx.length TG,.slice TR FR.length TH] 26))):=((zE _ _).alloc (zD _) _).alloc (by rw[zJ];omega) _
 have X0:=(ab wB).x
 have Y0:=(ab wB).y
 clear eI ep Q6 Ri hd JT hw hf
 by_cases hp:pk=XG
 ·subst hp
  have e1:(pk.toList==pk.toList)=true:=by simp
  go_enter Tryz.func16,Tryz.ntmps16
  go_wp2_with fail
  refine (ab HI _ (ab wB).bl).mono ?_
  rintro e' w1 ⟨q1,rfl,yO,aY⟩
  have n8:=ak ((ab wB).up aY)
  have ei:=ak ((ab wH).trans (aY.mono (ab wH).size))
  have X1:=(ab n8).x
  have Y1:=(ab n8).y
  have qj:=ak yO
  clear aY wB wH HI yO X0 Y0
  cases q1 with
  |false =>
   have HN:Hid (¬(⟨pk,is,ms,es⟩:Fl)=⟨pk,QA,Cx,FR⟩):=fun e=>by have:=(ab qj).2 (by injection e);cases this
   go_wp2
   go_ret
   exact nV (ab HN) (ab ei)
  |true =>
   go_wp2_with fail
   refine (ab HM _ (ab n8).bl).mono ?_
   rintro e' w2 ⟨q2,rfl,yN,b9⟩
   have qq:=ak ((ab n8).up b9)
   have dF:=ak ((ab ei).trans (b9.mono (ab ei).size))
   have X2:=(ab qq).x
   have Y2:=(ab qq).y
   have LL:=ak yN
   clear b9 n8 ei HM yN X1 Y1
   cases q2 with
   |false =>
    have HN:Hid (¬(⟨pk,is,ms,es⟩:Fl)=⟨pk,QA,Cx,FR⟩):=fun e=>by have:=(ab LL).2 (by injection e);cases this
    go_wp2
    go_ret
    exact nV (ab HN) (ab dF)
   |true =>
    go_wp2_with fail
    refine (ab HE _ (ab qq).bl).mono ?_
    rintro e' w3 ⟨q3,rfl,vl,cY⟩
    have GY:=ak ((ab qq).up cY)
    have lG:=ak ((ab dF).trans (cY.mono (ab dF).size))
    have X3:=(ab GY).x
    have Y3:=(ab GY).y
    have WO:=ak vl
    clear cY qq dF HE vl X2 Y2
    cases q3 with
    |false =>
     have HN:Hid (¬(⟨pk,is,ms,es⟩:Fl)=⟨pk,QA,Cx,FR⟩):=fun e=>by have:=(ab WO).2 (by injection e);cases this
     go_wp2
     go_ret
     exact nV (ab HN) (ab lG)
    |true =>
     have h1:=(ab qj).1 (by trivial)
     have h2:=(ab LL).1 (by trivial)
     have h3:=(ab WO).1 (by trivial)
     have HN:Hid ((⟨pk,is,ms,es⟩:Fl)=⟨pk,QA,Cx,FR⟩):=by show _=_;rw[h1,h2,h3]
     clear h1 h2 h3
     go_wp2
     go_ret
     exact Tc (ab HN) (ab lG)
 ·have e1:=lS hp
  have HN:Hid (¬(⟨pk,is,ms,es⟩:Fl)=⟨XG,QA,Cx,FR⟩):=fun e=>hp (by injection e)
  clear hp HI HM HE
  go_enter Tryz.func16,Tryz.ntmps16
  go_wp2
  go_ret
  exact nV (ab HN) (ab wH)
def OC (s:ByteArray):Bool:=decide (1≤s.size)&&decide (s.size≤255)&&(match aO s with|x::_=>decide (isLet x) |[]=>false)&&(aO s).all (fun x=>decide (isLet x∨dq x))
theorem tg {s:ByteArray} (h:OC s=true):dG s=true:=by
 unfold OC at h
 simp only[Bool.and_eq_true,decide_eq_true_eq] at h
 obtain ⟨⟨⟨h1,h2⟩,h3⟩,h4⟩:=h
 refine @decide_eq_true _ (Classical.propDecidable _) ⟨⟨h1,h2⟩,fun x hx=>?_,fun j x hx=>?_⟩
 ·split at h3
  ·rename_i y r hy
   rw[hy] at hx
   obtain rfl:y=x:=by simpa using hx
   exact of_decide_eq_true h3
  ·cases h3
 ·exact of_decide_eq_true (List.all_eq_true.1 h4 x (List.mem_of_getElem? hx))
def Pm:Fd:=⟨1,⟨#[]⟩,⟨#[105,110,116,51,50]⟩,⟨#[97]⟩,1,0⟩
def Qq:Ms:=.mk ⟨#[77]⟩ [Pm] [] [] [] [] []
def RA:Fl:=⟨⟨#[112]⟩,[],[Qq],[]⟩
def MN:ByteArray:=⟨#[115,121,110,116,97,120,32,61,32,34,112,114,111,116,111,51,34,59,10,112,97,99,107,97,103,101,32,112,59,10,109,101,115,115,97,103,101,32,77,32,123,10,32,32,105,110,116,51,50,32,97,32,61,32,49,59,10,125,10]⟩
theorem MH:fj ⟨#[112]⟩=true:=by
 unfold fj
 rw[show pieces ⟨#[112]⟩=[⟨#[112]⟩] by kernel_rfl]
 simp only[List.all_cons,List.all_nil,Bool.and_true]
 rw[tg (by kernel_rfl)]
 rfl
theorem PY:mT ⟨#[105,110,116,51,50]⟩=true:=by
 unfold mT fj
 rw[show oe ⟨#[105,110,116,51,50]⟩=⟨#[105,110,116,51,50]⟩ by kernel_rfl,show pieces ⟨#[105,110,116,51,50]⟩=[⟨#[105,110,116,51,50]⟩] by kernel_rfl]
 simp only[List.all_cons,List.all_nil,Bool.and_true]
 rw[tg (by kernel_rfl)]
 rfl
theorem NF:eK Pm=true:=by
 unfold eK Pm
 simp only
 rw[PY,tg (s:=⟨#[97]⟩) (by kernel_rfl),show GF (mf ⟨#[105,110,116,51,50]⟩) (Cp ⟨1,⟨#[]⟩,⟨#[105,110,116,51,50]⟩,⟨#[97]⟩,1,0⟩)=false by kernel_rfl]
 unfold vL
 simp only[if_true,toList_data]
 rfl
theorem ND:(jG RA).isSome=true:=by
 unfold jG RA
 simp only
 rw[MH,Bool.or_true,if_pos rfl]
 have e1:kQ (([]:List ByteArray).length+[Qq].length+([]:List En).length) 4096=some 4095:=by kernel_rfl
 have e2:kQ ([Pm].length+([]:List ByteArray).length+([]:List Ms).length+([]:List En).length+([]:List (Int×Int)).length+([]:List ByteArray).length) 4095=some 4094:=by kernel_rfl
 have e3:Cw ⟨#[77]⟩ [Pm] [] [] []=true:=by
  unfold Cw
  simp only[List.all_cons,List.all_nil,Bool.and_true]
  rw[NF,tg (s:=⟨#[77]⟩) (by kernel_rfl)]
  kernel_rfl
 rw[e1]
 simp only[List.all_nil,if_true]
 have e4:mY 32 Qq 4095=some 4094:=by
  show mY (31+1) (.mk ⟨#[77]⟩ [Pm] [] [] [] [] []) 4095=_
  rw[mY,e2]
  simp only
  rw[if_pos e3]
  rfl
 unfold gi
 rw[e4]
 rfl
theorem NC:zS (gu RA)=MN:=by kernel_rfl
theorem Uo:(match ny MN with|.inl _=>true|.inr _=>false)=true:=by kernel_rfl
theorem Md:fz RA=(MN,0):=by
 unfold fz
 rw[if_pos ND,NC]
 have h:=Uo
 split at h
 ·rename_i ts hts;rw[hts]
 ·cases h
theorem jY (W:World) (x:Int):Calls Tryz.prog 9 #[.int .i64 x] W fun e w=>e=.returned (.int .i64 x)∧w=W:=by
 go_enter Tryz.func9,Tryz.ntmps9
 go_wp2
 go_ret
 exact ⟨rfl,rfl⟩
theorem ZN:∀m ∈ RA.ms,wm 32 m:=by
 intro m hm
 obtain rfl:m=Qq:=by simpa[RA] using hm
 refine ⟨fun d hd=>?_,fun m hm=>by simp at hm⟩
 obtain rfl:d=Pm:=by simpa using hd
 decide
theorem JS {W:World} (hM:gj W) (hE:ji W) (hP:gG W) (hF:jS W):Calls Tryz.prog 6 #[] W fun e w=>e=.returned (.bool true)∧Below W.heap.size W w:=by
 obtain ⟨V0,Ny⟩:∃V,W.alloc (.cells #[.int .i64 1,.string ⟨#[]⟩,.string ⟨#[105,110,116,51,50]⟩,.string ⟨#[97]⟩,.int .i64 1,.int .i64 0] 53)=V:=⟨_,rfl⟩
 have k0:=aE W (.cells #[.int .i64 1,.string ⟨#[]⟩,.string ⟨#[105,110,116,51,50]⟩,.string ⟨#[97]⟩,.int .i64 1,.int .i64 0] 53)
 have s0:=zJ W (.cells #[.int .i64 1,.string ⟨#[]⟩,.string ⟨#[105,110,116,51,50]⟩,.string ⟨#[97]⟩,.int .i64 1,.int .i64 0] 53)
 have b0:Below W.heap.size W (W.alloc (.cells #[.int .i64 1,.string ⟨#[]⟩,.string ⟨#[105,110,116,51,50]⟩,.string ⟨#[97]⟩,.int .i64 1,.int .i64 0] 53)):=(zE _ _).alloc (zD _) _
 rw[Ny] at k0 s0 b0
 obtain ⟨V,hV⟩:∃V',V0.alloc (.cells #[.string ⟨#[77]⟩,.slice (some ⟨W.heap.size,0,none⟩) 1 1,.slice none 0 0,.slice none 0 0,.slice none 0 0,.slice none 0 0,.slice none 0 0] 57)=V':=⟨_,rfl⟩
 have k1:=aE V0 (.cells #[.string ⟨#[77]⟩,.slice (some ⟨W.heap.size,0,none⟩) 1 1,.slice none 0 0,.slice none 0 0,.slice none 0 0,.slice none 0 0,.slice none 0 0] 57)
 have b1:Below V0.heap.size V0 (V0.alloc (.cells #[.string ⟨#[77]⟩,.slice (some ⟨W.heap.size,0,none⟩) 1 1,.slice none 0 0,.slice none 0 0,.slice none 0 0,.slice none 0 0,.slice none 0 0] 57)):=(zE _ _).alloc (zD _) _
 rw[hV] at k1 b1
 have hb:Below W.heap.size W V:=b0.trans (b1.mono b0.size)
 have k2:=(b1.block _ (show W.heap.size<V0.heap.size by omega)).trans k0
 have l1:=(zA k1).1
 have l2:=(zA k2).1
 have gR:zy V (.agg #[.string ⟨#[112]⟩,.slice none 0 0,.slice (some ⟨V0.heap.size,0,none⟩) 1 1,.slice none 0 0]) RA (.slice none 0 0) (.slice (some ⟨V0.heap.size,0,none⟩) 1 1) (.slice none 0 0) [.string ⟨#[77]⟩,.slice (some ⟨W.heap.size,0,none⟩) 1 1,.slice none 0 0,.slice none 0 0,.slice none 0 0,.slice none 0 0,.slice none 0 0] []:=by
  refine ⟨rfl,lj _ _,⟨_,_,rfl,by show 1≤_;omega,fun _=>⟨_,_,rfl,l1,fun j x hx=>?_⟩⟩,?_,lj _ _,.nil⟩
  ·rw[Nat.zero_add,cell_of_row _ _ _ _ _ _ k1,←Array.getElem?_toList]
   exact hx
  ·refine .cons (fs:=[Pm]) ⟨_,_,rfl,by show 1≤_;omega,fun _=>⟨_,_,rfl,l2,fun j x hx=>?_⟩⟩ (lj _ _) (lj _ _) .nil (lj _ _) .nil (lj _ _) (lj _ _) .nil
   rw[Nat.zero_add,cell_of_row _ _ _ _ _ _ k2,←Array.getElem?_toList]
   exact hx
 have HT:=ak (Af (hM.up hb hM.1) (hE.up hb) (hP.up hb) (hF.up hb) gR ZN)
 rw[Md] at HT
 have HB:=ak hb
 have HS:=ak s0
 unfold MN at HT
 clear hM hE hP hF k0 s0 b0 k1 b1 hb k2 l1 l2 gR
 go_enter Tryz.func6,Tryz.ntmps6
 go_wp2_with fail
 refine (ab HT).mono ?_
 rintro e w ⟨rfl,aY⟩
 have ei:=ak ((ab HB).trans (aY.mono (ab HB).size))
 clear aY HT HB
 go_wp2_with fail
 refine (jY w 0).mono ?_
 rintro e w' ⟨rfl,rfl⟩
 go_wp2
 go_ret
 exact ⟨rfl,ab ei⟩
structure Pg (W:World) (pg:Nat) (L:List Nat) (v:Value) (w:World):Prop where
 bh:Below W.heap.size W w
 low:W.heap.size≤pg
 cH:w.heap[pg]?=some (.cells #[v] 159 (0,0))
 own:w.ownsRow W.heap.size 5 1 v L.length (nb L)
theorem Pg.below {W w w':World}{pg:Nat}{L:List Nat}{v:Value} (h:Pg W pg L v w) (hb:Below w.heap.size w w'):Pg W pg L v w' :=
 ⟨h.bh.trans (hb.mono h.bh.size),h.low,(hb.block _ (zA h.cH).1).trans h.cH,cM h.own hb⟩
end Go.Proofs.YtghioefalckgoaaGreatDoor
namespace Go.Proofs.YtghioefalckgoaaGreatDoor
open Go.RowKit Go.Lib
attribute [local go_sem ↓] Go.wp_at_zero Go.wp_at_succ
end Go.Proofs.YtghioefalckgoaaGreatDoor
namespace Go.Proofs.YtghioefalckgoaaGreatDoor
open Go.RowKit
attribute [local go_sem ↓] Go.wp_at_zero Go.wp_at_succ
end Go.Proofs.YtghioefalckgoaaGreatDoor
namespace Go.Proofs.YtghioefalckgoaaGreatDoor
def aaC (n:Nat) (os:List ByteArray) (G:List Fd):List Nat:=match G with
 |[]=>[]
 |d::_=>bK n [pN,⟨#[32]⟩,os.getD (d.aH.toNat-1) ⟨#[]⟩,⟨#[32,123]⟩]++G.flatMap (bY (n+1))
def eg (n:Nat) (os:List ByteArray) (fs:List Fd) (i:Nat):List Nat:=if OK fs i≠0∧(fs[i]?).map Fd.aH=some (OK fs i) then ((ck (fs.take i)).dropLast.flatMap (hI n os))++aaC n os ((ck (fs.take i)).getLastD []) else (ck (fs.take i)).flatMap (hI n os)
end Go.Proofs.YtghioefalckgoaaGreatDoor
namespace Go.Proofs.YtghioefalckgoaaGreatDoor
open Go.RowKit
attribute [local go_sem ↓] Go.wp_at_zero Go.wp_at_succ
end Go.Proofs.YtghioefalckgoaaGreatDoor
namespace Go.Proofs.YtghioefalckgoaaGreatDoor
open Go.RowKit Go.Lib
attribute [local go_sem ↓] Go.wp_at_zero Go.wp_at_succ
def VB (B j v:Nat):Prop:=v<B ^ j
theorem VB.next {B j v d:Nat} (h:VB B j v) (hd:d<B):VB B (j+1) (v*B+d):=by
 unfold VB at *
 rw[Nat.pow_succ]
 have:(v+1)*B≤B ^ j*B:=Nat.mul_le_mul_right B h
 rw[Nat.add_mul,Nat.one_mul] at this
 omega
theorem Bytes.drew {base:Nat}{W:World}{v:Value}{l:List Nat} (h:Bytes base W v l) (n:Nat):Bytes base (W.drewN n) v l:=h
end Go.Proofs.YtghioefalckgoaaGreatDoor
namespace Go.Proofs.YtghioefalckgoaaGreatDoor
open Go.RowKit
attribute [local go_sem ↓] Go.wp_at_zero Go.wp_at_succ
def qm (W:World) (v:Value) (ts:List Tok):Prop:=∃(a:Option Addr) (c:Nat),v=.slice a ts.length c∧ts.length≤c∧(0<ts.length→∃g,a=some ⟨g,0,none⟩∧g<W.heap.size∧∀i t,ts[i]?=some t→W.cell? ⟨g,i*3,none⟩=some (.int .i64 (t.kind:Int))∧W.cell? ⟨g,i*3+1,none⟩=some (.int .i64 (t.place:Int))∧W.cell? ⟨g,i*3+2,none⟩=some (.string t.text))
theorem vA (W:World):qm W (.slice none 0 0) []:=⟨none,0,rfl,zD _,fun h=>by simp at h⟩
theorem qm.up {W w:World}{v:Value}{ts:List Tok} (h:qm W v ts) (hb:Below W.heap.size W w):qm w v ts:=by
 obtain ⟨a,c,rfl,hc,h3⟩:=h
 refine ⟨a,c,rfl,hc,fun hp=>?_⟩
 obtain ⟨g,rfl,h4,h5⟩:=h3 hp
 exact ⟨g,rfl,Nat.lt_of_lt_of_le h4 hb.size,fun i t ht=>⟨(hb.cell (p:=⟨g,i*3,none⟩) h4).trans (h5 i t ht).1,(hb.cell (p:=⟨g,i*3+1,none⟩) h4).trans (h5 i t ht).2.1,(hb.cell (p:=⟨g,i*3+2,none⟩) h4).trans (h5 i t ht).2.2⟩⟩
theorem xl:∀(ts:List Tok) (i:Nat) (t:Tok),ts[i]?=some t→(eD ts)[i*3]?=some (.int .i64 (t.kind:Int))∧(eD ts)[i*3+1]?=some (.int .i64 (t.place:Int))∧(eD ts)[i*3+2]?=some (.string t.text)
 |[],i,t,h=>by simp at h
 |x::r,0,t,h=>by
  obtain rfl:x=t:=by simpa using h
  exact ⟨rfl,rfl,rfl⟩
 |x::r,i+1,t,h=>by
  have:=xl r i t (by simpa using h)
  rw[show (i+1)*3=i*3+3 by omega]
  exact this
theorem FD {W:World}{B:Nat}{v:Value}{ts:List Tok} (h:W.ownsRow B 154 3 v ts.length (eD ts)):qm W v ts:=by
 obtain ⟨h1,⟨rfl,h0⟩|⟨g,c,cur,rfl,h2,h3,h4,h5,h6,h7⟩⟩:=h
 ·obtain rfl:=List.eq_nil_of_length_eq_zero h0
  exact vA W
 ·refine ⟨_,c,rfl,h4,fun hp=>⟨g,rfl,(zA h3).1,fun i t ht=>?_⟩⟩
  have mQ:∀(j:Nat) (u:Value),(eD ts)[j]?=some u→W.cell? ⟨g,j,none⟩=some u:=fun j u hj=>by
   rw[cell_of_row _ _ _ _ _ _ h3,←Array.getElem?_toList]
   rw[←h7,List.getElem?_take] at hj
   split at hj
   ·exact hj
   ·cases hj
  obtain ⟨e1,e2,e3⟩:=xl ts i t ht
  exact ⟨mQ _ _ e1,mQ _ _ e2,mQ _ _ e3⟩
theorem Od.ret {s:ByteArray}{W w:World}{e:Ending} (h:Od s W e w):∃(v:Value) (k c:Nat) (ts:List Tok),e=.returned (.tuple #[v,.int .i64 (k:Int),.int .i64 (c:Int)])∧qm w v ts∧((c=0∧k=0∧ny s=.inl ts)∨(c≠0∧ts=[]∧v=.slice none 0 0∧ny s=.inr (k,c))):=by
 obtain ⟨_,h2⟩:=h
 cases ht:ny s with
 |inl ts =>
  rw[ht] at h2
  obtain ⟨v,rfl,h3⟩:=h2
  exact ⟨v,0,0,ts,rfl,FD h3,.inl ⟨rfl,rfl,rfl⟩⟩
 |inr p =>
  obtain ⟨k,c⟩:=p
  rw[ht] at h2
  obtain ⟨hc,rfl⟩:=h2
  exact ⟨_,k,c,[],rfl,vA w,.inr ⟨hc,rfl,rfl,rfl⟩⟩
theorem DB:∀(k f:Nat) (m:Ms),wm k m→wm k (ri f m)
 |0,_,_,_=>trivial
 |k+1,0,.mk _ _ _ _ _ _ _,h=>⟨h.1,fun m hm=>by simp at hm⟩
 |k+1,f+1,.mk _ _ _ _ _ _ _,h=>⟨h.1,fun m hm=>by obtain ⟨x,hx,rfl⟩:=List.mem_map.1 hm;exact DB k f x (h.2 x hx)⟩
theorem IN:∀(k f:Nat) (m:Ms),Dk k m→Dk k (ri f m)
 |0,0,.mk _ _ _ _ _ _ _,h=>by obtain ⟨a,b,-,c⟩:=h.s;exact ⟨a,b,by simp,c⟩
 |0,f+1,.mk _ _ _ _ _ _ _,h=>by obtain ⟨a,b,c,d⟩:=h.s;exact ⟨a,b,by rw[List.length_map];exact c,d⟩
 |k+1,0,.mk _ _ _ _ _ _ _,h=>by obtain ⟨a,b,-,c⟩:=h.s;exact ⟨⟨a,b,by simp,c⟩,fun m hm=>by simp at hm⟩
 |k+1,f+1,.mk _ _ _ _ _ _ _,h=>by
  obtain ⟨a,b,c,d⟩:=h.s
  exact ⟨⟨a,b,by rw[List.length_map];exact c,d⟩,fun m hm=>by obtain ⟨x,hx,rfl⟩:=List.mem_map.1 hm;exact IN k f x (h.2 x hx)⟩
theorem LJ.cut {F:Fl} (h:LJ F):LJ (FZ F):=⟨h.i,by show (F.ms.map _).length*160≤_;rw[List.length_map];exact h.m,fun m hm=>by obtain ⟨x,hx,rfl⟩:=List.mem_map.1 (show m ∈ F.ms.map (ri 199) from hm);exact IN 200 199 x (h.ms x hx),h.e,h.es⟩
theorem ZR {w:World}{b:Nat}{v0 v1 v2 v3:Value}{t:TypeId} (h:w.heap[b]?=some (.cells #[v0,v1,v2,v3] t (0,0))) (u0 u1 u2 u3:Value) :
  ((((w.setCell ⟨b,0,none⟩ u0).setCell ⟨b,1,none⟩ u1).setCell ⟨b,2,none⟩ u2).setCell ⟨b,3,none⟩ u3).heap[b]?=some (.cells #[u0,u1,u2,u3] t (0,0))∧w.grownBy ((((w.setCell ⟨b,0,none⟩ u0).setCell ⟨b,1,none⟩ u1).setCell ⟨b,2,none⟩ u2).setCell ⟨b,3,none⟩ u3) (some b):=by
 obtain ⟨a1,a2⟩:=aI (j:=0) h u0
 obtain ⟨b1,b2⟩:=aI (j:=1) a1 u1
 obtain ⟨c1,c2⟩:=aI (j:=2) b1 u2
 obtain ⟨d1,d2⟩:=aI (j:=3) c1 u3
 exact ⟨d1,((a2.trans b2).trans c2).trans d2⟩
theorem V8 {w:World}{b:Nat}{cs:Array Value}{t:TypeId} (h:w.heap[b]?=some (.cells cs t (0,0))):w.frozen? ⟨b,0,none⟩=false∧w.frozen? ⟨b,1,none⟩=false∧w.frozen? ⟨b,2,none⟩=false∧w.frozen? ⟨b,3,none⟩=false:=by simp[World.frozen?,h]
theorem kT {R:Nat→Prop}{w:World}{v vi vm ve:Value}{F:Fl}{cm ce:List Value} (h:Dp R w v F vi vm ve cm ce):∃bi di bm dm be de,vi=.slice bi F.bp.length di∧vm=.slice bm F.ms.length dm∧ve=.slice be F.es.length de:=by
 obtain ⟨a,b,e1,-⟩:=h.hi.rl
 obtain ⟨c,d,e2,-⟩:=h.hm.rl
 obtain ⟨e,f,e3,-⟩:=h.he.rl
 exact ⟨a,b,c,d,e,f,e1,e2,e3⟩
theorem Sp.file {B:Nat→Prop}{w w':World} (h:Sp B w w') {b:Nat}{cs:Array Value} (hb:w.heap[b]?=some (.cells cs 26 (0,0))):w'.heap[b]?=some (.cells cs 26 (0,0)):=by
 obtain ⟨c',h1,h2,h3⟩:=h.cH b cs _ hb
 have:c'=cs:=by
  apply Array.ext_getElem?
  intro j
  by_cases hj:j<cs.size
  ·rw[Array.getElem?_eq_getElem hj]
   rcases h3 j _ (Array.getElem?_eq_getElem hj) with e|⟨y,-,hy⟩
   ·exact e
   ·exact absurd hy (yn y)
  ·rw[Array.getElem?_eq_none (by omega),Array.getElem?_eq_none (by omega)]
 rw[h1,this]
structure LkF (F G:Fl):Prop where
 i:G.bp.length=F.bp.length
 m:Bz F.ms G.ms
 e:Gm F.es G.es
theorem LkF.re {F G:Fl} (h:LkF F G) (k:LJ F):LJ G:=⟨by rw[h.i];exact k.i,by rw[h.m.len];exact k.m,h.m.re 200 k.ms,by rw[h.e.len];exact k.e,h.e.re k.es⟩
theorem E2 {W:World}{v vi vm ve:Value}{F:Fl}{cm ce:List Value} (hM:gj W) (hE:ji W) (hP:gG W) (hF:jS W) (vC:zy W v F vi vm ve cm ce) (iL:∀m ∈ F.ms,wm 32 m) :
  Calls Tryz.prog 24 #[v] W fun e w=>e=.returned (.int .i64 (fz F).2)∧Below W.heap.size W w:=by
 have bq:Below W.heap.size W (W.alloc (.cells #[.string F.dj,vi,vm,ve] 26)):=(zE _ _).alloc (zD _) _
 have k0:=aE W (.cells #[.string F.dj,vi,vm,ve] 26)
 obtain ⟨V,hV⟩:∃V,W.alloc (.cells #[.string F.dj,vi,vm,ve] 26)=V:=⟨_,rfl⟩
 rw[hV] at bq k0
 have HT:=ak (Af (hM.up bq hM.1) (hE.up bq) (hP.up bq) (hF.up bq) (vC.up bq) iL)
 obtain ⟨pk,is,ms,es⟩:=F
 obtain ⟨rfl,⟨ai,ci,rfl,-,-⟩,⟨am,Em,rfl,-,-⟩,-,⟨ae,ce1,rfl,-,-⟩,-⟩:=vC
 simp only at hV k0 HT ⊢
 obtain ⟨c0,c1,c2,c3⟩:=eN k0
 have HB:=ak bq
 obtain ⟨⟨t1,t2⟩,ht⟩:∃T,fz ⟨pk,is,ms,es⟩=T:=⟨_,rfl⟩
 rw[ht] at HT ⊢
 simp only at HT ⊢
 clear hM hE hP hF iL k0 bq ht
 go_enter Tryz.func24,Tryz.ntmps24
 go_wp2_with fail
 refine (ab HT).mono ?_
 rintro e w1 ⟨rfl,aY⟩
 have ei:=ak ((ab HB).trans (aY.mono (ab HB).size))
 clear aY HB HT
 go_wp2
 go_ret
 exact ⟨rfl,ab ei⟩
end Go.Proofs.YtghioefalckgoaaGreatDoor
