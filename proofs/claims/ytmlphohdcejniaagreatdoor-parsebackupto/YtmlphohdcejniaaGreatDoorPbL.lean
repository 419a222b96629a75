import Derived.Test.YtmlphohdcejniaaGreatDoorM20
set_option maxHeartbeats 4000000
set_option maxRecDepth 100000
namespace Go.Proofs.YtmlphohdcejniaaGreatDoor
open Go.RowKit
attribute [local go_sem ↓] Go.wp_at_zero Go.wp_at_succ
def kr (p b:Nat):List (ByteArray×Value):=[(⟨#[114,101,115,101,114,118,101,100]⟩,.func (.func 163) #[] #[.pointer (some ⟨p,0,none⟩),.pointer (some ⟨p+1,0,none⟩)]),(⟨#[111,112,116,105,111,110]⟩,.func (.func 104) #[.pointer (some ⟨b,0,none⟩)] #[])]
theorem DB (w0:World) (b g:Nat):Calls Tryz.prog 127 #[.pointer (some ⟨b,0,none⟩),.pointer (some ⟨g,0,none⟩)] w0 fun e w=>e=.returned (.map (some (w0.heap.size+2)))∧Below w0.heap.size w0 w∧aP w0.heap.size #[.pointer (some ⟨b,0,none⟩)] 107 (fun k=>w0.heap.size≤k) w∧aP (w0.heap.size+1) #[.pointer (some ⟨g,0,none⟩)] 170 (fun k=>w0.heap.size≤k) w∧gL (w0.heap.size+2) (kr w0.heap.size b) (fun k=>w0.heap.size≤k) w:=by
 obtain ⟨p,hp⟩:∃p,w0.heap.size=p:=⟨_,rfl⟩
 have Lw:=oP ((w0.alloc (.cells #[.pointer (some ⟨b,0,none⟩)] 107)).alloc (.cells #[.pointer (some ⟨g,0,none⟩)] 170))
 have dN:Below w0.heap.size w0 (((w0.alloc (.cells #[.pointer (some ⟨b,0,none⟩)] 107)).alloc (.cells #[.pointer (some ⟨g,0,none⟩)] 170)).alloc (.map #[] 0)):=(((zE _ _).alloc (zD _) _).alloc (by simp only[zJ];omega) _).alloc (by simp only[zJ];omega) _
 have h4:(((w0.alloc (.cells #[.pointer (some ⟨b,0,none⟩)] 107)).alloc (.cells #[.pointer (some ⟨g,0,none⟩)] 170)).alloc (.map #[] 0)).heap[p]?=some (.cells #[.pointer (some ⟨b,0,none⟩)] 107 (0,0)):=by
  rw[←hp,Below.heap_alloc _ _ _ (by simp only[zJ];omega),Below.heap_alloc _ _ _ (by simp only[zJ];omega)]
  exact aC _ _
 have h5:(((w0.alloc (.cells #[.pointer (some ⟨b,0,none⟩)] 107)).alloc (.cells #[.pointer (some ⟨g,0,none⟩)] 170)).alloc (.map #[] 0)).heap[p+1]?=some (.cells #[.pointer (some ⟨g,0,none⟩)] 170 (0,0)):=by
  rw[←hp,Below.heap_alloc _ _ _ (by simp only[zJ];omega)]
  have:=aC (w0.alloc (.cells #[.pointer (some ⟨b,0,none⟩)] 107)) (.cells #[.pointer (some ⟨g,0,none⟩)] 170)
  simpa only[zJ] using this
 simp only[zJ,hp,Nat.add_assoc,Nat.reduceAdd] at Lw
 have UL:(((w0.alloc (.cells #[.pointer (some ⟨b,0,none⟩)] 107)).alloc (.cells #[.pointer (some ⟨g,0,none⟩)] 170)).alloc (.map #[] 0)).cell? ⟨p,0,none⟩=some (.pointer (some ⟨b,0,none⟩)):=by rw[cell_of_row _ _ _ _ _ _ h4];rfl
 have hP:gL (p+2) [] (fun k=>p≤k) (((w0.alloc (.cells #[.pointer (some ⟨b,0,none⟩)] 107)).alloc (.cells #[.pointer (some ⟨g,0,none⟩)] 170)).alloc (.map #[] 0)):=⟨Lw.1,by omega⟩
 have Ai:(((w0.alloc (.cells #[.pointer (some ⟨b,0,none⟩)] 107)).alloc (.cells #[.pointer (some ⟨g,0,none⟩)] 170)).alloc (.map #[] 0)).grownBy (((w0.alloc (.cells #[.pointer (some ⟨b,0,none⟩)] 107)).alloc (.cells #[.pointer (some ⟨g,0,none⟩)] 170)).alloc (.map #[] 0)) (some (p+2)):=zI _ _
 obtain ⟨v1,r1,m1,g1⟩:=bM hP ⟨#[114,101,115,101,114,118,101,100]⟩ (.func (.func 163) #[] #[.pointer (some ⟨p,0,none⟩),.pointer (some ⟨p+1,0,none⟩)]) (by rfl)
 have kk:=Ai.trans g1
 have qa:v1.cell? ⟨p,0,none⟩=some (.pointer (some ⟨b,0,none⟩)):=by rw[cell_of_row _ _ _ _ _ _ ((kk.block p (zA h4).1 (by simp)).trans h4)];rfl
 obtain ⟨v2,r2,m2,g2⟩:=bM m1 ⟨#[111,112,116,105,111,110]⟩ (.func (.func 104) #[.pointer (some ⟨b,0,none⟩)] #[]) (by rfl)
 have dP:=kk.trans g2
 have fX:v2.cell? ⟨p,0,none⟩=some (.pointer (some ⟨b,0,none⟩)):=by rw[cell_of_row _ _ _ _ _ _ ((dP.block p (zA h4).1 (by simp)).trans h4)];rfl
 have HE:Hid (Below p w0 v2∧aP p #[.pointer (some ⟨b,0,none⟩)] 107 (fun k=>p≤k) v2∧aP (p+1) #[.pointer (some ⟨g,0,none⟩)] 170 (fun k=>p≤k) v2∧gL (p+2) (kr p b) (fun k=>p≤k) v2):=⟨hp ▸ dN.grown dP dN.size (fun k e=>by simp at e;omega),⟨(dP.block p (zA h4).1 (by simp)).trans h4,zD _⟩,⟨(dP.block (p+1) (zA h5).1 (by simp)).trans h5,by omega⟩,m2⟩
 have UA:=@run_makeMap Tryz.prog
 rw[hp]
 clear Lw hP dN h4 h5 Ai m1 g1 kk m2 g2 dP
 subst hp
 go_enter Tryz.func127,Tryz.ntmps127
 go_wp2
 go_ret
 exact ⟨rfl,aa HE⟩
def iT (b:Nat):List (ByteArray×Value):=[(⟨#[111,112,116,105,111,110]⟩,.func (.func 104) #[.pointer (some ⟨b,0,none⟩)] #[]),(⟨#[103,114,111,117,112]⟩,.func (.func 104) #[.pointer (some ⟨b,0,none⟩)] #[]),(⟨#[111,112,116,105,111,110,97,108]⟩,.func (.func 104) #[.pointer (some ⟨b,0,none⟩)] #[]),(⟨#[114,101,112,101,97,116,101,100]⟩,.func (.func 104) #[.pointer (some ⟨b,0,none⟩)] #[]),(⟨#[114,101,113,117,105,114,101,100]⟩,.func (.func 104) #[.pointer (some ⟨b,0,none⟩)] #[]),(⟨#[111,110,101,111,102]⟩,.func (.func 104) #[.pointer (some ⟨b,0,none⟩)] #[]),(⟨#[109,101,115,115,97,103,101]⟩,.func (.func 104) #[.pointer (some ⟨b,0,none⟩)] #[]),(⟨#[101,110,117,109]⟩,.func (.func 104) #[.pointer (some ⟨b,0,none⟩)] #[]),(⟨#[114,101,115,101,114,118,101,100]⟩,.func (.func 104) #[.pointer (some ⟨b,0,none⟩)] #[])]
theorem CI (w0:World) (b:Nat):Calls Tryz.prog 172 #[.pointer (some ⟨b,0,none⟩)] w0 fun e w=>e=.returned (.map (some w0.heap.size))∧Below w0.heap.size w0 w∧gL w0.heap.size (iT b) (fun k=>w0.heap.size≤k) w:=by
 have dN:Below w0.heap.size w0 (w0.alloc (.map #[] 0)):=(zE _ _).alloc (zD _) _
 have hP:=oP w0
 have Ai:(w0.alloc (.map #[] 0)).grownBy (w0.alloc (.map #[] 0)) (some w0.heap.size):=zI _ _
 obtain ⟨v1,r1,m1,g1⟩:=bM hP ⟨#[111,112,116,105,111,110]⟩ (.func (.func 104) #[.pointer (some ⟨b,0,none⟩)] #[]) (by rfl)
 have kk:=Ai.trans g1
 obtain ⟨v2,r2,m2,g2⟩:=bM m1 ⟨#[103,114,111,117,112]⟩ (.func (.func 104) #[.pointer (some ⟨b,0,none⟩)] #[]) (by rfl)
 have dP:=kk.trans g2
 obtain ⟨v3,r3,m3,g3⟩:=bM m2 ⟨#[111,112,116,105,111,110,97,108]⟩ (.func (.func 104) #[.pointer (some ⟨b,0,none⟩)] #[]) (by rfl)
 have eY:=dP.trans g3
 obtain ⟨v4,r4,m4,g4⟩:=bM m3 ⟨#[114,101,112,101,97,116,101,100]⟩ (.func (.func 104) #[.pointer (some ⟨b,0,none⟩)] #[]) (by rfl)
 have qF:=eY.trans g4
 obtain ⟨v5,r5,m5,g5⟩:=bM m4 ⟨#[114,101,113,117,105,114,101,100]⟩ (.func (.func 104) #[.pointer (some ⟨b,0,none⟩)] #[]) (by rfl)
 have NH:=qF.trans g5
 obtain ⟨v6,r6,m6,g6⟩:=bM m5 ⟨#[111,110,101,111,102]⟩ (.func (.func 104) #[.pointer (some ⟨b,0,none⟩)] #[]) (by rfl)
 have rS:=NH.trans g6
 obtain ⟨v7,r7,m7,g7⟩:=bM m6 ⟨#[109,101,115,115,97,103,101]⟩ (.func (.func 104) #[.pointer (some ⟨b,0,none⟩)] #[]) (by rfl)
 have qE:=rS.trans g7
 obtain ⟨v8,r8,m8,g8⟩:=bM m7 ⟨#[101,110,117,109]⟩ (.func (.func 104) #[.pointer (some ⟨b,0,none⟩)] #[]) (by rfl)
 have UH:=qE.trans g8
 obtain ⟨v9,r9,m9,g9⟩:=bM m8 ⟨#[114,101,115,101,114,118,101,100]⟩ (.func (.func 104) #[.pointer (some ⟨b,0,none⟩)] #[]) (by rfl)
 have xr:=UH.trans g9
 have HE:Hid (Below w0.heap.size w0 v9∧gL w0.heap.size (iT b) (fun k=>w0.heap.size≤k) v9):=⟨dN.grown xr dN.size (fun k e=>by simp at e;omega),m9⟩
 have UA:=@run_makeMap Tryz.prog
 clear hP dN Ai m1 g1 kk m2 g2 dP m3 g3 eY m4 g4 qF m5 g5 NH m6 g6 rS m7 g7 qE m8 g8 UH m9 g9 xr
 go_enter Tryz.func172,Tryz.ntmps172
 go_wp2
 go_ret
 exact ⟨rfl,aa HE⟩
def iI (p b:Nat):List (ByteArray×Value):=[(⟨#[109,101,115,115,97,103,101]⟩,.func (.func 151) #[] #[.pointer (some ⟨p+1,0,none⟩),.pointer (some ⟨p,0,none⟩)]),(⟨#[101,110,117,109]⟩,.func (.func 152) #[] #[.pointer (some ⟨p+1,0,none⟩),.pointer (some ⟨p,0,none⟩)]),(⟨#[111,110,101,111,102]⟩,.func (.func 153) #[] #[.pointer (some ⟨p,0,none⟩),.pointer (some ⟨p+1,0,none⟩)]),(⟨#[114,101,115,101,114,118,101,100]⟩,.func (.func 155) #[] #[.pointer (some ⟨p,0,none⟩),.pointer (some ⟨p+1,0,none⟩)]),(⟨#[111,112,116,105,111,110,97,108]⟩,.func (.func 157) #[] #[.pointer (some ⟨p+1,0,none⟩),.pointer (some ⟨p,0,none⟩)]),(⟨#[114,101,112,101,97,116,101,100]⟩,.func (.func 159) #[] #[.pointer (some ⟨p+1,0,none⟩),.pointer (some ⟨p,0,none⟩)]),(⟨#[109,97,112]⟩,.func (.func 160) #[] #[.pointer (some ⟨p+1,0,none⟩),.pointer (some ⟨p,0,none⟩)]),(⟨#[111,112,116,105,111,110]⟩,.func (.func 104) #[.pointer (some ⟨b,0,none⟩)] #[]),(⟨#[101,120,116,101,110,100]⟩,.func (.func 104) #[.pointer (some ⟨b,0,none⟩)] #[]),(⟨#[101,120,116,101,110,115,105,111,110,115]⟩,.func (.func 104) #[.pointer (some ⟨b,0,none⟩)] #[]),(⟨#[103,114,111,117,112]⟩,.func (.func 104) #[.pointer (some ⟨b,0,none⟩)] #[]),(⟨#[114,101,113,117,105,114,101,100]⟩,.func (.func 104) #[.pointer (some ⟨b,0,none⟩)] #[])]
theorem B4 (w0:World) (b g:Nat):Calls Tryz.prog 124 #[.pointer (some ⟨b,0,none⟩),.pointer (some ⟨g,0,none⟩)] w0 fun e w=>e=.returned (.map (some (w0.heap.size+2)))∧Below w0.heap.size w0 w∧aP w0.heap.size #[.pointer (some ⟨b,0,none⟩)] 107 (fun k=>w0.heap.size≤k) w∧aP (w0.heap.size+1) #[.pointer (some ⟨g,0,none⟩)] 167 (fun k=>w0.heap.size≤k) w∧gL (w0.heap.size+2) (iI w0.heap.size b) (fun k=>w0.heap.size≤k) w:=by
 obtain ⟨p,hp⟩:∃p,w0.heap.size=p:=⟨_,rfl⟩
 have Lw:=oP ((w0.alloc (.cells #[.pointer (some ⟨b,0,none⟩)] 107)).alloc (.cells #[.pointer (some ⟨g,0,none⟩)] 167))
 have dN:Below w0.heap.size w0 (((w0.alloc (.cells #[.pointer (some ⟨b,0,none⟩)] 107)).alloc (.cells #[.pointer (some ⟨g,0,none⟩)] 167)).alloc (.map #[] 0)):=(((zE _ _).alloc (zD _) _).alloc (by simp only[zJ];omega) _).alloc (by simp only[zJ];omega) _
 have h4:(((w0.alloc (.cells #[.pointer (some ⟨b,0,none⟩)] 107)).alloc (.cells #[.pointer (some ⟨g,0,none⟩)] 167)).alloc (.map #[] 0)).heap[p]?=some (.cells #[.pointer (some ⟨b,0,none⟩)] 107 (0,0)):=by
  rw[←hp,Below.heap_alloc _ _ _ (by simp only[zJ];omega),Below.heap_alloc _ _ _ (by simp only[zJ];omega)]
  exact aC _ _
 have h5:(((w0.alloc (.cells #[.pointer (some ⟨b,0,none⟩)] 107)).alloc (.cells #[.pointer (some ⟨g,0,none⟩)] 167)).alloc (.map #[] 0)).heap[p+1]?=some (.cells #[.pointer (some ⟨g,0,none⟩)] 167 (0,0)):=by
  rw[←hp,Below.heap_alloc _ _ _ (by simp only[zJ];omega)]
  have:=aC (w0.alloc (.cells #[.pointer (some ⟨b,0,none⟩)] 107)) (.cells #[.pointer (some ⟨g,0,none⟩)] 167)
  simpa only[zJ] using this
 simp only[zJ,hp,Nat.add_assoc,Nat.reduceAdd] at Lw
 have UL:(((w0.alloc (.cells #[.pointer (some ⟨b,0,none⟩)] 107)).alloc (.cells #[.pointer (some ⟨g,0,none⟩)] 167)).alloc (.map #[] 0)).cell? ⟨p,0,none⟩=some (.pointer (some ⟨b,0,none⟩)):=by rw[cell_of_row _ _ _ _ _ _ h4];rfl
 have hP:gL (p+2) [] (fun k=>p≤k) (((w0.alloc (.cells #[.pointer (some ⟨b,0,none⟩)] 107)).alloc (.cells #[.pointer (some ⟨g,0,none⟩)] 167)).alloc (.map #[] 0)):=⟨Lw.1,by omega⟩
 have Ai:(((w0.alloc (.cells #[.pointer (some ⟨b,0,none⟩)] 107)).alloc (.cells #[.pointer (some ⟨g,0,none⟩)] 167)).alloc (.map #[] 0)).grownBy (((w0.alloc (.cells #[.pointer (some ⟨b,0,none⟩)] 107)).alloc (.cells #[.pointer (some ⟨g,0,none⟩)] 167)).alloc (.map #[] 0)) (some (p+2)):=zI _ _
 obtain ⟨v1,r1,m1,g1⟩:=bM hP ⟨#[109,101,115,115,97,103,101]⟩ (.func (.func 151) #[] #[.pointer (some ⟨p+1,0,none⟩),.pointer (some ⟨p,0,none⟩)]) (by rfl)
 have kk:=Ai.trans g1
 have qa:v1.cell? ⟨p,0,none⟩=some (.pointer (some ⟨b,0,none⟩)):=by rw[cell_of_row _ _ _ _ _ _ ((kk.block p (zA h4).1 (by simp)).trans h4)];rfl
 obtain ⟨v2,r2,m2,g2⟩:=bM m1 ⟨#[101,110,117,109]⟩ (.func (.func 152) #[] #[.pointer (some ⟨p+1,0,none⟩),.pointer (some ⟨p,0,none⟩)]) (by rfl)
 have dP:=kk.trans g2
 have fX:v2.cell? ⟨p,0,none⟩=some (.pointer (some ⟨b,0,none⟩)):=by rw[cell_of_row _ _ _ _ _ _ ((dP.block p (zA h4).1 (by simp)).trans h4)];rfl
 obtain ⟨v3,r3,m3,g3⟩:=bM m2 ⟨#[111,110,101,111,102]⟩ (.func (.func 153) #[] #[.pointer (some ⟨p,0,none⟩),.pointer (some ⟨p+1,0,none⟩)]) (by rfl)
 have eY:=dP.trans g3
 have kC:v3.cell? ⟨p,0,none⟩=some (.pointer (some ⟨b,0,none⟩)):=by rw[cell_of_row _ _ _ _ _ _ ((eY.block p (zA h4).1 (by simp)).trans h4)];rfl
 obtain ⟨v4,r4,m4,g4⟩:=bM m3 ⟨#[114,101,115,101,114,118,101,100]⟩ (.func (.func 155) #[] #[.pointer (some ⟨p,0,none⟩),.pointer (some ⟨p+1,0,none⟩)]) (by rfl)
 have qF:=eY.trans g4
 have QJ:v4.cell? ⟨p,0,none⟩=some (.pointer (some ⟨b,0,none⟩)):=by rw[cell_of_row _ _ _ _ _ _ ((qF.block p (zA h4).1 (by simp)).trans h4)];rfl
 obtain ⟨v5,r5,m5,g5⟩:=bM m4 ⟨#[111,112,116,105,111,110,97,108]⟩ (.func (.func 157) #[] #[.pointer (some ⟨p+1,0,none⟩),.pointer (some ⟨p,0,none⟩)]) (by rfl)
 have NH:=qF.trans g5
 have hc5:v5.cell? ⟨p,0,none⟩=some (.pointer (some ⟨b,0,none⟩)):=by rw[cell_of_row _ _ _ _ _ _ ((NH.block p (zA h4).1 (by simp)).trans h4)];rfl
 obtain ⟨v6,r6,m6,g6⟩:=bM m5 ⟨#[114,101,112,101,97,116,101,100]⟩ (.func (.func 159) #[] #[.pointer (some ⟨p+1,0,none⟩),.pointer (some ⟨p,0,none⟩)]) (by rfl)
 have rS:=NH.trans g6
 have hc6:v6.cell? ⟨p,0,none⟩=some (.pointer (some ⟨b,0,none⟩)):=by rw[cell_of_row _ _ _ _ _ _ ((rS.block p (zA h4).1 (by simp)).trans h4)];rfl
 obtain ⟨v7,r7,m7,g7⟩:=bM m6 ⟨#[109,97,112]⟩ (.func (.func 160) #[] #[.pointer (some ⟨p+1,0,none⟩),.pointer (some ⟨p,0,none⟩)]) (by rfl)
 have qE:=rS.trans g7
 have UK:v7.cell? ⟨p,0,none⟩=some (.pointer (some ⟨b,0,none⟩)):=by rw[cell_of_row _ _ _ _ _ _ ((qE.block p (zA h4).1 (by simp)).trans h4)];rfl
 obtain ⟨v8,r8,m8,g8⟩:=bM m7 ⟨#[111,112,116,105,111,110]⟩ (.func (.func 104) #[.pointer (some ⟨b,0,none⟩)] #[]) (by rfl)
 have UH:=qE.trans g8
 have hc8:v8.cell? ⟨p,0,none⟩=some (.pointer (some ⟨b,0,none⟩)):=by rw[cell_of_row _ _ _ _ _ _ ((UH.block p (zA h4).1 (by simp)).trans h4)];rfl
 obtain ⟨v9,r9,m9,g9⟩:=bM m8 ⟨#[101,120,116,101,110,100]⟩ (.func (.func 104) #[.pointer (some ⟨b,0,none⟩)] #[]) (by rfl)
 have xr:=UH.trans g9
 have hc9:v9.cell? ⟨p,0,none⟩=some (.pointer (some ⟨b,0,none⟩)):=by rw[cell_of_row _ _ _ _ _ _ ((xr.block p (zA h4).1 (by simp)).trans h4)];rfl
 obtain ⟨v10,r10,m10,g10⟩:=bM m9 ⟨#[101,120,116,101,110,115,105,111,110,115]⟩ (.func (.func 104) #[.pointer (some ⟨b,0,none⟩)] #[]) (by rfl)
 have SK:=xr.trans g10
 have abC:v10.cell? ⟨p,0,none⟩=some (.pointer (some ⟨b,0,none⟩)):=by rw[cell_of_row _ _ _ _ _ _ ((SK.block p (zA h4).1 (by simp)).trans h4)];rfl
 obtain ⟨v11,r11,m11,g11⟩:=bM m10 ⟨#[103,114,111,117,112]⟩ (.func (.func 104) #[.pointer (some ⟨b,0,none⟩)] #[]) (by rfl)
 have SJ:=SK.trans g11
 have abB:v11.cell? ⟨p,0,none⟩=some (.pointer (some ⟨b,0,none⟩)):=by rw[cell_of_row _ _ _ _ _ _ ((SJ.block p (zA h4).1 (by simp)).trans h4)];rfl
 obtain ⟨v12,r12,m12,g12⟩:=bM m11 ⟨#[114,101,113,117,105,114,101,100]⟩ (.func (.func 104) #[.pointer (some ⟨b,0,none⟩)] #[]) (by rfl)
 have LA:=SJ.trans g12
 have abA:v12.cell? ⟨p,0,none⟩=some (.pointer (some ⟨b,0,none⟩)):=by rw[cell_of_row _ _ _ _ _ _ ((LA.block p (zA h4).1 (by simp)).trans h4)];rfl
 have HE:Hid (Below p w0 v12∧aP p #[.pointer (some ⟨b,0,none⟩)] 107 (fun k=>p≤k) v12∧aP (p+1) #[.pointer (some ⟨g,0,none⟩)] 167 (fun k=>p≤k) v12∧gL (p+2) (iI p b) (fun k=>p≤k) v12):=⟨hp ▸ dN.grown LA dN.size (fun k e=>by simp at e;omega),⟨(LA.block p (zA h4).1 (by simp)).trans h4,zD _⟩,⟨(LA.block (p+1) (zA h5).1 (by simp)).trans h5,by omega⟩,m12⟩
 have UA:=@run_makeMap Tryz.prog
 rw[hp]
 clear Lw hP dN h4 h5 Ai m1 g1 kk m2 g2 dP m3 g3 eY m4 g4 qF m5 g5 NH m6 g6 rS m7 g7 qE m8 g8 UH m9 g9 xr m10 g10 SK m11 g11 SJ m12 g12 LA
 subst hp
 go_enter Tryz.func124,Tryz.ntmps124
 go_wp2
 go_ret
 exact ⟨rfl,aa HE⟩
def nL (p b:Nat):List (ByteArray×Value):=[(⟨#[112,97,99,107,97,103,101]⟩,.func (.func 96) #[] #[.pointer (some ⟨p,0,none⟩),.pointer (some ⟨p+1,0,none⟩)]),(⟨#[105,109,112,111,114,116]⟩,.func (.func 98) #[] #[.pointer (some ⟨p+1,0,none⟩),.pointer (some ⟨p,0,none⟩)]),(⟨#[109,101,115,115,97,103,101]⟩,.func (.func 100) #[] #[.pointer (some ⟨p+1,0,none⟩),.pointer (some ⟨p,0,none⟩)]),(⟨#[101,110,117,109]⟩,.func (.func 102) #[] #[.pointer (some ⟨p+1,0,none⟩),.pointer (some ⟨p,0,none⟩)]),(⟨#[111,112,116,105,111,110]⟩,.func (.func 104) #[.pointer (some ⟨b,0,none⟩)] #[]),(⟨#[115,101,114,118,105,99,101]⟩,.func (.func 104) #[.pointer (some ⟨b,0,none⟩)] #[]),(⟨#[101,120,116,101,110,100]⟩,.func (.func 104) #[.pointer (some ⟨b,0,none⟩)] #[])]
theorem JS (w0:World) (b g:Nat):Calls Tryz.prog 79 #[.pointer (some ⟨b,0,none⟩),.pointer (some ⟨g,0,none⟩)] w0 fun e w=>e=.returned (.map (some (w0.heap.size+2)))∧Below w0.heap.size w0 w∧aP w0.heap.size #[.pointer (some ⟨b,0,none⟩)] 107 (fun k=>w0.heap.size≤k) w∧aP (w0.heap.size+1) #[.pointer (some ⟨g,0,none⟩)] 135 (fun k=>w0.heap.size≤k) w∧gL (w0.heap.size+2) (nL w0.heap.size b) (fun k=>w0.heap.size≤k) w:=by
 obtain ⟨p,hp⟩:∃p,w0.heap.size=p:=⟨_,rfl⟩
 have Lw:=oP ((w0.alloc (.cells #[.pointer (some ⟨b,0,none⟩)] 107)).alloc (.cells #[.pointer (some ⟨g,0,none⟩)] 135))
 have dN:Below w0.heap.size w0 (((w0.alloc (.cells #[.pointer (some ⟨b,0,none⟩)] 107)).alloc (.cells #[.pointer (some ⟨g,0,none⟩)] 135)).alloc (.map #[] 0)):=(((zE _ _).alloc (zD _) _).alloc (by simp only[zJ];omega) _).alloc (by simp only[zJ];omega) _
 have h4:(((w0.alloc (.cells #[.pointer (some ⟨b,0,none⟩)] 107)).alloc (.cells #[.pointer (some ⟨g,0,none⟩)] 135)).alloc (.map #[] 0)).heap[p]?=some (.cells #[.pointer (some ⟨b,0,none⟩)] 107 (0,0)):=by
  rw[←hp,Below.heap_alloc _ _ _ (by simp only[zJ];omega),Below.heap_alloc _ _ _ (by simp only[zJ];omega)]
  exact aC _ _
 have h5:(((w0.alloc (.cells #[.pointer (some ⟨b,0,none⟩)] 107)).alloc (.cells #[.pointer (some ⟨g,0,none⟩)] 135)).alloc (.map #[] 0)).heap[p+1]?=some (.cells #[.pointer (some ⟨g,0,none⟩)] 135 (0,0)):=by
  rw[←hp,Below.heap_alloc _ _ _ (by simp only[zJ];omega)]
  have:=aC (w0.alloc (.cells #[.pointer (some ⟨b,0,none⟩)] 107)) (.cells #[.pointer (some ⟨g,0,none⟩)] 135)
  simpa only[zJ] using this
 simp only[zJ,hp,Nat.add_assoc,Nat.reduceAdd] at Lw
 have UL:(((w0.alloc (.cells #[.pointer (some ⟨b,0,none⟩)] 107)).alloc (.cells #[.pointer (some ⟨g,0,none⟩)] 135)).alloc (.map #[] 0)).cell? ⟨p,0,none⟩=some (.pointer (some ⟨b,0,none⟩)):=by rw[cell_of_row _ _ _ _ _ _ h4];rfl
 have hP:gL (p+2) [] (fun k=>p≤k) (((w0.alloc (.cells #[.pointer (some ⟨b,0,none⟩)] 107)).alloc (.cells #[.pointer (some ⟨g,0,none⟩)] 135)).alloc (.map #[] 0)):=⟨Lw.1,by omega⟩
 have Ai:(((w0.alloc (.cells #[.pointer (some ⟨b,0,none⟩)] 107)).alloc (.cells #[.pointer (some ⟨g,0,none⟩)] 135)).alloc (.map #[] 0)).grownBy (((w0.alloc (.cells #[.pointer (some ⟨b,0,none⟩)] 107)).alloc (.cells #[.pointer (some ⟨g,0,none⟩)] 135)).alloc (.map #[] 0)) (some (p+2)):=zI _ _
 obtain ⟨v1,r1,m1,g1⟩:=bM hP ⟨#[112,97,99,107,97,103,101]⟩ (.func (.func 96) #[] #[.pointer (some ⟨p,0,none⟩),.pointer (some ⟨p+1,0,none⟩)]) (by rfl)
 have kk:=Ai.trans g1
 have qa:v1.cell? ⟨p,0,none⟩=some (.pointer (some ⟨b,0,none⟩)):=by rw[cell_of_row _ _ _ _ _ _ ((kk.block p (zA h4).1 (by simp)).trans h4)];rfl
 obtain ⟨v2,r2,m2,g2⟩:=bM m1 ⟨#[105,109,112,111,114,116]⟩ (.func (.func 98) #[] #[.pointer (some ⟨p+1,0,none⟩),.pointer (some ⟨p,0,none⟩)]) (by rfl)
 have dP:=kk.trans g2
 have fX:v2.cell? ⟨p,0,none⟩=some (.pointer (some ⟨b,0,none⟩)):=by rw[cell_of_row _ _ _ _ _ _ ((dP.block p (zA h4).1 (by simp)).trans h4)];rfl
 obtain ⟨v3,r3,m3,g3⟩:=bM m2 ⟨#[109,101,115,115,97,103,101]⟩ (.func (.func 100) #[] #[.pointer (some ⟨p+1,0,none⟩),.pointer (some ⟨p,0,none⟩)]) (by rfl)
 have eY:=dP.trans g3
 have kC:v3.cell? ⟨p,0,none⟩=some (.pointer (some ⟨b,0,none⟩)):=by rw[cell_of_row _ _ _ _ _ _ ((eY.block p (zA h4).1 (by simp)).trans h4)];rfl
 obtain ⟨v4,r4,m4,g4⟩:=bM m3 ⟨#[101,110,117,109]⟩ (.func (.func 102) #[] #[.pointer (some ⟨p+1,0,none⟩),.pointer (some ⟨p,0,none⟩)]) (by rfl)
 have qF:=eY.trans g4
 have QJ:v4.cell? ⟨p,0,none⟩=some (.pointer (some ⟨b,0,none⟩)):=by rw[cell_of_row _ _ _ _ _ _ ((qF.block p (zA h4).1 (by simp)).trans h4)];rfl
 obtain ⟨v5,r5,m5,g5⟩:=bM m4 ⟨#[111,112,116,105,111,110]⟩ (.func (.func 104) #[.pointer (some ⟨b,0,none⟩)] #[]) (by rfl)
 have NH:=qF.trans g5
 have hc5:v5.cell? ⟨p,0,none⟩=some (.pointer (some ⟨b,0,none⟩)):=by rw[cell_of_row _ _ _ _ _ _ ((NH.block p (zA h4).1 (by simp)).trans h4)];rfl
 obtain ⟨v6,r6,m6,g6⟩:=bM m5 ⟨#[115,101,114,118,105,99,101]⟩ (.func (.func 104) #[.pointer (some ⟨b,0,none⟩)] #[]) (by rfl)
 have rS:=NH.trans g6
 have hc6:v6.cell? ⟨p,0,none⟩=some (.pointer (some ⟨b,0,none⟩)):=by rw[cell_of_row _ _ _ _ _ _ ((rS.block p (zA h4).1 (by simp)).trans h4)];rfl
 obtain ⟨v7,r7,m7,g7⟩:=bM m6 ⟨#[101,120,116,101,110,100]⟩ (.func (.func 104) #[.pointer (some ⟨b,0,none⟩)] #[]) (by rfl)
 have qE:=rS.trans g7
 have UK:v7.cell? ⟨p,0,none⟩=some (.pointer (some ⟨b,0,none⟩)):=by rw[cell_of_row _ _ _ _ _ _ ((qE.block p (zA h4).1 (by simp)).trans h4)];rfl
 have HE:Hid (Below p w0 v7∧aP p #[.pointer (some ⟨b,0,none⟩)] 107 (fun k=>p≤k) v7∧aP (p+1) #[.pointer (some ⟨g,0,none⟩)] 135 (fun k=>p≤k) v7∧gL (p+2) (nL p b) (fun k=>p≤k) v7):=⟨hp ▸ dN.grown qE dN.size (fun k e=>by simp at e;omega),⟨(qE.block p (zA h4).1 (by simp)).trans h4,zD _⟩,⟨(qE.block (p+1) (zA h5).1 (by simp)).trans h5,by omega⟩,m7⟩
 have UA:=@run_makeMap Tryz.prog
 rw[hp]
 clear Lw hP dN h4 h5 Ai m1 g1 kk m2 g2 dP m3 g3 eY m4 g4 qF m5 g5 NH m6 g6 rS m7 g7 qE
 subst hp
 go_enter Tryz.func79,Tryz.ntmps79
 go_wp2
 go_ret
 exact ⟨rfl,aa HE⟩
end Go.Proofs.YtmlphohdcejniaaGreatDoor
