import Derived.Test.YtjophoclfccmcaaGreatDoorM32
set_option maxHeartbeats 4000000
set_option maxRecDepth 100000
namespace Go.Proofs.YtjophoclfccmcaaGreatDoor
open Go.RowKit
def kn1:ByteArray:=⟨#[115,121,110,116,97,120,32,61,32,34,112,114,111,116,111,51,34,59,32,112,97,99,107,97,103,101,32,97,46,98,59,32,105,109,112,111,114,116,32,34,120,46,112,114,111,116,111,34,59,32,109,101,115,115,97,103,101,32,77,32,123,32,105,110,116,51,50,32,97,32,61,32,49,59,32,125]⟩
def kn2:ByteArray:=⟨#[115,121,110,116,97,120,32,61,32,34,112,114,111,116,111,51,34,59,32,115,101,114,118,105,99,101,32,83,32,123,125]⟩
def knF:Fl:=⟨⟨#[97,46,98]⟩,[⟨#[120,46,112,114,111,116,111]⟩],[.mk ⟨#[77]⟩ [⟨1,⟨#[]⟩,⟨#[105,110,116,51,50]⟩,⟨#[97]⟩,1,0⟩] [] [] [] [] []],[]⟩
theorem U':Sy (kV kn2)=52:=by kernel_rfl
theorem U9:QX (kV kn2)=19:=by kernel_rfl
theorem Vb:Sy (kV kn1)=0:=by kernel_rfl
theorem Va:QX (kV kn1)=0:=by kernel_rfl
theorem NN:KT (kV kn1)=knF:=by kernel_rfl
end Go.Proofs.YtjophoclfccmcaaGreatDoor
namespace Go.Proofs.YtjophoclfccmcaaGreatDoor
open Go.RowKit
attribute [local go_sem ↓] Go.wp_at_zero Go.wp_at_succ
theorem Wy (w:World) (a b c d e f:Obj):Below w.heap.size w ((((((w.alloc a).alloc b).alloc c).alloc d).alloc e).alloc f)∧((((((w.alloc a).alloc b).alloc c).alloc d).alloc e).alloc f).heap.size=w.heap.size+6 ∧
  (((((w.alloc a).alloc b).alloc c).alloc d).alloc e |>.alloc f).heap[w.heap.size]?=some a∧(((((w.alloc a).alloc b).alloc c).alloc d).alloc e |>.alloc f).heap[w.heap.size+1]?=some b∧(((((w.alloc a).alloc b).alloc c).alloc d).alloc e |>.alloc f).heap[w.heap.size+1+1]?=some c∧(((((w.alloc a).alloc b).alloc c).alloc d).alloc e |>.alloc f).heap[w.heap.size+1+1+1]?=some d∧(((((w.alloc a).alloc b).alloc c).alloc d).alloc e |>.alloc f).heap[w.heap.size+1+1+1+1]?=some e∧(((((w.alloc a).alloc b).alloc c).alloc d).alloc e |>.alloc f).heap[w.heap.size+1+1+1+1+1]?=some f:=by
 have hs:∀(x:World) (o:Obj),(x.alloc o).heap.size=x.heap.size+1:=fun x o=>zJ _ _
 have hn:∀(x:World) (o:Obj) (k:Nat),k=x.heap.size→(x.alloc o).heap[k]?=some o:=fun x o k h=>by rw[h];exact aH x o
 have ho:∀(x:World) (o:Obj) (k:Nat),k<x.heap.size→(x.alloc o).heap[k]?=x.heap[k]?:=fun x o k h=>Below.heap_alloc x o k h
 refine ⟨⟨rfl,rfl,rfl,?_,fun k hk=>?_⟩,?_,?_,?_,?_,?_,?_,?_⟩
 ·simp only[hs];omega
 ·rw[ho _ _ _ (by simp only[hs];omega),ho _ _ _ (by simp only[hs];omega),ho _ _ _ (by simp only[hs];omega),ho _ _ _ (by simp only[hs];omega),ho _ _ _ (by simp only[hs];omega),ho _ _ _ hk]
 ·simp only[hs]
 ·rw[ho _ _ _ (by simp only[hs];omega),ho _ _ _ (by simp only[hs];omega),ho _ _ _ (by simp only[hs];omega),ho _ _ _ (by simp only[hs];omega),ho _ _ _ (by simp only[hs];omega),hn _ _ _ rfl]
 ·rw[ho _ _ _ (by simp only[hs];omega),ho _ _ _ (by simp only[hs];omega),ho _ _ _ (by simp only[hs];omega),ho _ _ _ (by simp only[hs];omega),hn _ _ _ (by simp only[hs])]
 ·rw[ho _ _ _ (by simp only[hs];omega),ho _ _ _ (by simp only[hs];omega),ho _ _ _ (by simp only[hs];omega),hn _ _ _ (by simp only[hs])]
 ·rw[ho _ _ _ (by simp only[hs];omega),ho _ _ _ (by simp only[hs];omega),hn _ _ _ (by simp only[hs])]
 ·rw[ho _ _ _ (by simp only[hs];omega),hn _ _ _ (by simp only[hs])]
 ·rw[hn _ _ _ (by simp only[hs])]
theorem row_one {w:World}{g t sz:Nat}{cs:Array Value} (h:w.heap[g]?=some (.cells cs t (0,0))) (hz:cs.size=1*sz):je (fun _=>True) w t sz (.slice (some ⟨g,0,none⟩) 1 1) 1 cs.toList :=
 ⟨⟨by rw[Array.length_toList];exact hz,.inr ⟨g,1,cs,rfl,Nat.zero_le _,h,zD _,by decide,hz,by rw[←hz,←Array.length_toList,List.take_length]⟩⟩,fun _ _=>trivial⟩
theorem RM {A:World}{g1 g2 g3:Nat} (h2:A.heap[g1]?=some (.cells #[.string ⟨#[120,46,112,114,111,116,111]⟩] 9 (0,0))) (h3:A.heap[g2]?=some (.cells #[.int .i64 1,.string ⟨#[]⟩,.string ⟨#[105,110,116,51,50]⟩,.string ⟨#[97]⟩,.int .i64 1,.int .i64 0] 45 (0,0)))
  (h4:A.heap[g3]?=some (.cells #[.string ⟨#[77]⟩,.slice (some ⟨g2,0,none⟩) 1 1,.slice none 0 0,.slice none 0 0,.slice none 0 0,.slice none 0 0,.slice none 0 0] 49 (0,0))) :
  NF knF (.agg #[.string ⟨#[97,46,98]⟩,.slice (some ⟨g1,0,none⟩) 1 1,.slice (some ⟨g3,0,none⟩) 1 1,.slice none 0 0]) (fun _=>True) A:=by
 have hn:∀t sz,je (fun _=>True) A t sz (.slice none 0 0) 0 []:=fun t sz=>⟨⟨by simp,.inl ⟨rfl,rfl⟩⟩,fun g h=>by cases h⟩
 exact ⟨_,_,_,_,[],rfl,row_one h2 rfl,row_one h4 rfl,.cons (row_one h3 rfl) (hn _ _) (hn _ _) .nil (hn _ _) .nil (hn _ _) (hn _ _) .nil,hn _ _,.nil⟩
theorem Kl {W:World} (hF:nG W) (hE:gU W) (hM:oO W):Calls Tryz.prog 7 #[] W (pT W):=by
 have HF:=ab hF
 have HE:=ab hE
 have HM:=ab hM
 clear hF hE hM
 go_enter Tryz.func7,Tryz.ntmps7
 go_wp2_with fail
 refine (AJ (aa HF) (aa HE) (aa HM) kn1).mono ?_
 intro e w1 hr
 obtain ⟨ia,il,ic,ma,ml,mc,ea,el,ec,rfl,hn,bQ⟩:=qZ hr
 rw[NN] at hn
 rw[NN,Vb,Va]
 have HN:=ab hn
 have lO:=ab bQ
 clear hr hn bQ
 go_wp2_with fail
 obtain ⟨hA,hs,q0,q1,q2,q3,q4,q5⟩:=Wy w1 (.cells #[.string knF.iT,.slice ia il ic,.slice ma ml mc,.slice ea el ec] 27) (.cells #[.int .i64 0,.int .i64 0,.int .i64 0,.string ⟨#[]⟩] 30) (.cells #[.string ⟨#[120,46,112,114,111,116,111]⟩] 9) (.cells #[.int .i64 1,.string ⟨#[]⟩,.string ⟨#[105,110,116,51,50]⟩,.string ⟨#[97]⟩,.int .i64 1,.int .i64 0] 45)
  (.cells #[.string ⟨#[77]⟩,.slice (some ⟨w1.heap.size+1+1+1,0,none⟩) 1 1,.slice none 0 0,.slice none 0 0,.slice none 0 0,.slice none 0 0,.slice none 0 0] 49) (.cells #[.string ⟨#[97,46,98]⟩,.slice (some ⟨w1.heap.size+1+1,0,none⟩) 1 1,.slice (some ⟨w1.heap.size+1+1+1+1,0,none⟩) 1 1,.slice none 0 0] 27)
 have LF:=(aa lO).trans (hA.mono (aa lO).size)
 refine (AJ ((aa HF).up LF) ((aa HE).up LF) ((aa HM).up LF (aa HM).1) kn2).mono ?_
 intro e w2 hr
 obtain ⟨NY,NV,NX,NC,Nj,Nz,Pc,O',Pb,rfl,-,br⟩:=qZ hr
 rw[U',U9]
 obtain ⟨pk,Tx⟩:∃pk,(KT (kV kn2)).iT=pk:=⟨_,rfl⟩
 rw[Tx]
 have ck:=br.size
 rw[hs] at ck
 have q0':=(br.block _ (by rw[hs];omega)).trans q0
 have q1':=(br.block _ (by rw[hs];omega)).trans q1
 have q5':=(br.block _ (by rw[hs];omega)).trans q5
 have kl:=LF.trans (br.mono LF.size)
 have Zz:=((aa HN).up hA).up br
 have Y9:=(RM q2 q3 q4).up br
 have HN2:=ab Zz
 have Lr:=ab Y9
 have jm:=ab kl
 have X0:∀o o' j,((w2.alloc o).alloc o').cell? ⟨w1.heap.size,j,none⟩=(#[.string knF.iT,.slice ia il ic,.slice ma ml mc,.slice ea el ec]:Array Value)[j]?:=fun o o' j=>(World.cell?_alloc_lt _ _ _ (by rw[zJ];show w1.heap.size<_;omega)).trans ((World.cell?_alloc_lt _ _ _ (by show w1.heap.size<_;omega)).trans (qD q0' j))
 have X1:∀o o' j,((w2.alloc o).alloc o').cell? ⟨w1.heap.size+1,j,none⟩=(#[.int .i64 0,.int .i64 0,.int .i64 0,.string ⟨#[]⟩]:Array Value)[j]?:=fun o o' j=>(World.cell?_alloc_lt _ _ _ (by rw[zJ];show w1.heap.size+1<_;omega)).trans ((World.cell?_alloc_lt _ _ _ (by show w1.heap.size+1<_;omega)).trans (qD q1' j))
 have X5:∀o o' j,((w2.alloc o).alloc o').cell? ⟨w1.heap.size+1+1+1+1+1,j,none⟩=(#[.string ⟨#[97,46,98]⟩,.slice (some ⟨w1.heap.size+1+1,0,none⟩) 1 1,.slice (some ⟨w1.heap.size+1+1+1+1,0,none⟩) 1 1,.slice none 0 0]:Array Value)[j]?:=fun o o' j=>(World.cell?_alloc_lt _ _ _ (by rw[zJ];show w1.heap.size+1+1+1+1+1<_;omega)).trans ((World.cell?_alloc_lt _ _ _ (by show w1.heap.size+1+1+1+1+1<_;omega)).trans (qD q5' j))
 have oP:=ab (kI (aa jm) #[.string pk,.slice NY NV NX,.slice NC Nj Nz,.slice Pc O' Pb] #[.int .i64 52,.int .i64 0,.int .i64 19,.string ⟨#[]⟩] 27 30)
 clear hr br Tx q0 q1 q2 q3 q4 q5 q0' q1' q5' kl Zz Y9 ck hs hA LF HN lO
 go_wp2_with fail
 have H0:=aa oP
 have TJ:=(kI (zE w2.heap.size w2) #[.string pk,.slice NY NV NX,.slice NC Nj Nz,.slice Pc O' Pb] #[.int .i64 52,.int .i64 0,.int .i64 19,.string ⟨#[]⟩] 27 30).bl
 refine (mW ((aa HN2).up TJ) ((aa Lr).up TJ)).mono ?_
 rintro e w3 ⟨rfl,qM⟩
 have CA:=ab (H0.up qM)
 have X3:=(aa CA).x
 have Y3:=(aa CA).y
 clear H0 TJ qM oP X0 X1 X5 HN2 Lr jm
 go_wp2
 go_ret
 exact ⟨rfl,(aa CA).bl⟩
end Go.Proofs.YtjophoclfccmcaaGreatDoor
