import Derived.Test.YtmlphohdcejniaaGreatDoorM19
set_option maxHeartbeats 4000000
set_option maxRecDepth 100000
namespace Go.Proofs.YtmlphohdcejniaaGreatDoor
open Go.RowKit
attribute [local go_sem ↓] Go.wp_at_zero Go.wp_at_succ
def ld (p b:Nat):List (ByteArray×Value):=[(⟨#[114,101,115,101,114,118,101,100]⟩,.func (.func 163) #[] #[.pointer (some ⟨p,0,none⟩),.pointer (some ⟨p+1,0,none⟩)]),(⟨#[111,112,116,105,111,110]⟩,.func (.func 104) #[.pointer (some ⟨b,0,none⟩)] #[])]
theorem E6 (w0:World) (b g:Nat):Calls Tryz.prog 127 #[.pointer (some ⟨b,0,none⟩),.pointer (some ⟨g,0,none⟩)] w0 fun e w=>e=.returned (.map (some (w0.heap.size+2)))∧Below w0.heap.size w0 w∧aP w0.heap.size #[.pointer (some ⟨b,0,none⟩)] 107 (fun k=>w0.heap.size≤k) w∧aP (w0.heap.size+1) #[.pointer (some ⟨g,0,none⟩)] 170 (fun k=>w0.heap.size≤k) w∧ij (w0.heap.size+2) (ld w0.heap.size b) (fun k=>w0.heap.size≤k) w:=by
 obtain ⟨p,hp⟩:∃p,w0.heap.size=p:=⟨_,rfl⟩
 have Nd:=pX ((w0.alloc (.cells #[.pointer (some ⟨b,0,none⟩)] 107)).alloc (.cells #[.pointer (some ⟨g,0,none⟩)] 170))
 have dZ:Below w0.heap.size w0 (((w0.alloc (.cells #[.pointer (some ⟨b,0,none⟩)] 107)).alloc (.cells #[.pointer (some ⟨g,0,none⟩)] 170)).alloc (.map #[] 0)):=(((zE _ _).alloc (zD _) _).alloc (by simp only[zJ];omega) _).alloc (by simp only[zJ];omega) _
 have h4:(((w0.alloc (.cells #[.pointer (some ⟨b,0,none⟩)] 107)).alloc (.cells #[.pointer (some ⟨g,0,none⟩)] 170)).alloc (.map #[] 0)).heap[p]?=some (.cells #[.pointer (some ⟨b,0,none⟩)] 107 (0,0)):=by
  rw[←hp,Below.heap_alloc _ _ _ (by simp only[zJ];omega),Below.heap_alloc _ _ _ (by simp only[zJ];omega)]
  exact aC _ _
 have h5:(((w0.alloc (.cells #[.pointer (some ⟨b,0,none⟩)] 107)).alloc (.cells #[.pointer (some ⟨g,0,none⟩)] 170)).alloc (.map #[] 0)).heap[p+1]?=some (.cells #[.pointer (some ⟨g,0,none⟩)] 170 (0,0)):=by
  rw[←hp,Below.heap_alloc _ _ _ (by simp only[zJ];omega)]
  have:=aC (w0.alloc (.cells #[.pointer (some ⟨b,0,none⟩)] 107)) (.cells #[.pointer (some ⟨g,0,none⟩)] 170)
  simpa only[zJ] using this
 simp only[zJ,hp,Nat.add_assoc,Nat.reduceAdd] at Nd
 have WM:(((w0.alloc (.cells #[.pointer (some ⟨b,0,none⟩)] 107)).alloc (.cells #[.pointer (some ⟨g,0,none⟩)] 170)).alloc (.map #[] 0)).cell? ⟨p,0,none⟩=some (.pointer (some ⟨b,0,none⟩)):=by rw[cell_of_row _ _ _ _ _ _ h4];rfl
 have hP:ij (p+2) [] (fun k=>p≤k) (((w0.alloc (.cells #[.pointer (some ⟨b,0,none⟩)] 107)).alloc (.cells #[.pointer (some ⟨g,0,none⟩)] 170)).alloc (.map #[] 0)):=⟨Nd.1,by omega⟩
 have BN:(((w0.alloc (.cells #[.pointer (some ⟨b,0,none⟩)] 107)).alloc (.cells #[.pointer (some ⟨g,0,none⟩)] 170)).alloc (.map #[] 0)).grownBy (((w0.alloc (.cells #[.pointer (some ⟨b,0,none⟩)] 107)).alloc (.cells #[.pointer (some ⟨g,0,none⟩)] 170)).alloc (.map #[] 0)) (some (p+2)):=zI _ _
 obtain ⟨v1,r1,m1,g1⟩:=bQ hP ⟨#[114,101,115,101,114,118,101,100]⟩ (.func (.func 163) #[] #[.pointer (some ⟨p,0,none⟩),.pointer (some ⟨p+1,0,none⟩)]) (by rfl)
 have kV:=BN.trans g1
 have ri:v1.cell? ⟨p,0,none⟩=some (.pointer (some ⟨b,0,none⟩)):=by rw[cell_of_row _ _ _ _ _ _ ((kV.block p (zA h4).1 (by simp)).trans h4)];rfl
 obtain ⟨v2,r2,m2,g2⟩:=bQ m1 ⟨#[111,112,116,105,111,110]⟩ (.func (.func 104) #[.pointer (some ⟨b,0,none⟩)] #[]) (by rfl)
 have ej:=kV.trans g2
 have gJ:v2.cell? ⟨p,0,none⟩=some (.pointer (some ⟨b,0,none⟩)):=by rw[cell_of_row _ _ _ _ _ _ ((ej.block p (zA h4).1 (by simp)).trans h4)];rfl
 have HE:Hid (Below p w0 v2∧aP p #[.pointer (some ⟨b,0,none⟩)] 107 (fun k=>p≤k) v2∧aP (p+1) #[.pointer (some ⟨g,0,none⟩)] 170 (fun k=>p≤k) v2∧ij (p+2) (ld p b) (fun k=>p≤k) v2):=⟨hp ▸ dZ.grown ej dZ.size (fun k e=>by simp at e;omega),⟨(ej.block p (zA h4).1 (by simp)).trans h4,zD _⟩,⟨(ej.block (p+1) (zA h5).1 (by simp)).trans h5,by omega⟩,m2⟩
 have Wx:=@run_makeMap Tryz.prog
 rw[hp]
 clear Nd hP dZ h4 h5 BN m1 g1 kV m2 g2 ej
 subst hp
 go_enter Tryz.func127,Tryz.ntmps127
 go_wp2
 go_ret
 exact ⟨rfl,aa HE⟩
def jw (b:Nat):List (ByteArray×Value):=[(⟨#[111,112,116,105,111,110]⟩,.func (.func 104) #[.pointer (some ⟨b,0,none⟩)] #[]),(⟨#[103,114,111,117,112]⟩,.func (.func 104) #[.pointer (some ⟨b,0,none⟩)] #[]),(⟨#[111,112,116,105,111,110,97,108]⟩,.func (.func 104) #[.pointer (some ⟨b,0,none⟩)] #[]),(⟨#[114,101,112,101,97,116,101,100]⟩,.func (.func 104) #[.pointer (some ⟨b,0,none⟩)] #[]),(⟨#[114,101,113,117,105,114,101,100]⟩,.func (.func 104) #[.pointer (some ⟨b,0,none⟩)] #[]),(⟨#[111,110,101,111,102]⟩,.func (.func 104) #[.pointer (some ⟨b,0,none⟩)] #[]),(⟨#[109,101,115,115,97,103,101]⟩,.func (.func 104) #[.pointer (some ⟨b,0,none⟩)] #[]),(⟨#[101,110,117,109]⟩,.func (.func 104) #[.pointer (some ⟨b,0,none⟩)] #[]),(⟨#[114,101,115,101,114,118,101,100]⟩,.func (.func 104) #[.pointer (some ⟨b,0,none⟩)] #[])]
theorem Ej (w0:World) (b:Nat):Calls Tryz.prog 172 #[.pointer (some ⟨b,0,none⟩)] w0 fun e w=>e=.returned (.map (some w0.heap.size))∧Below w0.heap.size w0 w∧ij w0.heap.size (jw b) (fun k=>w0.heap.size≤k) w:=by
 have dZ:Below w0.heap.size w0 (w0.alloc (.map #[] 0)):=(zE _ _).alloc (zD _) _
 have hP:=pX w0
 have BN:(w0.alloc (.map #[] 0)).grownBy (w0.alloc (.map #[] 0)) (some w0.heap.size):=zI _ _
 obtain ⟨v1,r1,m1,g1⟩:=bQ hP ⟨#[111,112,116,105,111,110]⟩ (.func (.func 104) #[.pointer (some ⟨b,0,none⟩)] #[]) (by rfl)
 have kV:=BN.trans g1
 obtain ⟨v2,r2,m2,g2⟩:=bQ m1 ⟨#[103,114,111,117,112]⟩ (.func (.func 104) #[.pointer (some ⟨b,0,none⟩)] #[]) (by rfl)
 have ej:=kV.trans g2
 obtain ⟨v3,r3,m3,g3⟩:=bQ m2 ⟨#[111,112,116,105,111,110,97,108]⟩ (.func (.func 104) #[.pointer (some ⟨b,0,none⟩)] #[]) (by rfl)
 have fB:=ej.trans g3
 obtain ⟨v4,r4,m4,g4⟩:=bQ m3 ⟨#[114,101,112,101,97,116,101,100]⟩ (.func (.func 104) #[.pointer (some ⟨b,0,none⟩)] #[]) (by rfl)
 have rY:=fB.trans g4
 obtain ⟨v5,r5,m5,g5⟩:=bQ m4 ⟨#[114,101,113,117,105,114,101,100]⟩ (.func (.func 104) #[.pointer (some ⟨b,0,none⟩)] #[]) (by rfl)
 have Pr:=rY.trans g5
 obtain ⟨v6,r6,m6,g6⟩:=bQ m5 ⟨#[111,110,101,111,102]⟩ (.func (.func 104) #[.pointer (some ⟨b,0,none⟩)] #[]) (by rfl)
 have pR:=Pr.trans g6
 obtain ⟨v7,r7,m7,g7⟩:=bQ m6 ⟨#[109,101,115,115,97,103,101]⟩ (.func (.func 104) #[.pointer (some ⟨b,0,none⟩)] #[]) (by rfl)
 have rX:=pR.trans g7
 obtain ⟨v8,r8,m8,g8⟩:=bQ m7 ⟨#[101,110,117,109]⟩ (.func (.func 104) #[.pointer (some ⟨b,0,none⟩)] #[]) (by rfl)
 have WG:=rX.trans g8
 obtain ⟨v9,r9,m9,g9⟩:=bQ m8 ⟨#[114,101,115,101,114,118,101,100]⟩ (.func (.func 104) #[.pointer (some ⟨b,0,none⟩)] #[]) (by rfl)
 have yM:=WG.trans g9
 have HE:Hid (Below w0.heap.size w0 v9∧ij w0.heap.size (jw b) (fun k=>w0.heap.size≤k) v9):=⟨dZ.grown yM dZ.size (fun k e=>by simp at e;omega),m9⟩
 have Wx:=@run_makeMap Tryz.prog
 clear hP dZ BN m1 g1 kV m2 g2 ej m3 g3 fB m4 g4 rY m5 g5 Pr m6 g6 pR m7 g7 rX m8 g8 WG m9 g9 yM
 go_enter Tryz.func172,Tryz.ntmps172
 go_wp2
 go_ret
 exact ⟨rfl,aa HE⟩
def jk (p b:Nat):List (ByteArray×Value):=[(⟨#[109,101,115,115,97,103,101]⟩,.func (.func 151) #[] #[.pointer (some ⟨p+1,0,none⟩),.pointer (some ⟨p,0,none⟩)]),(⟨#[101,110,117,109]⟩,.func (.func 152) #[] #[.pointer (some ⟨p+1,0,none⟩),.pointer (some ⟨p,0,none⟩)]),(⟨#[111,110,101,111,102]⟩,.func (.func 153) #[] #[.pointer (some ⟨p,0,none⟩),.pointer (some ⟨p+1,0,none⟩)]),(⟨#[114,101,115,101,114,118,101,100]⟩,.func (.func 155) #[] #[.pointer (some ⟨p,0,none⟩),.pointer (some ⟨p+1,0,none⟩)]),(⟨#[111,112,116,105,111,110,97,108]⟩,.func (.func 157) #[] #[.pointer (some ⟨p+1,0,none⟩),.pointer (some ⟨p,0,none⟩)]),(⟨#[114,101,112,101,97,116,101,100]⟩,.func (.func 159) #[] #[.pointer (some ⟨p+1,0,none⟩),.pointer (some ⟨p,0,none⟩)]),(⟨#[109,97,112]⟩,.func (.func 160) #[] #[.pointer (some ⟨p+1,0,none⟩),.pointer (some ⟨p,0,none⟩)]),(⟨#[111,112,116,105,111,110]⟩,.func (.func 104) #[.pointer (some ⟨b,0,none⟩)] #[]),(⟨#[101,120,116,101,110,100]⟩,.func (.func 104) #[.pointer (some ⟨b,0,none⟩)] #[]),(⟨#[101,120,116,101,110,115,105,111,110,115]⟩,.func (.func 104) #[.pointer (some ⟨b,0,none⟩)] #[]),(⟨#[103,114,111,117,112]⟩,.func (.func 104) #[.pointer (some ⟨b,0,none⟩)] #[]),(⟨#[114,101,113,117,105,114,101,100]⟩,.func (.func 104) #[.pointer (some ⟨b,0,none⟩)] #[])]
theorem DE (w0:World) (b g:Nat):Calls Tryz.prog 124 #[.pointer (some ⟨b,0,none⟩),.pointer (some ⟨g,0,none⟩)] w0 fun e w=>e=.returned (.map (some (w0.heap.size+2)))∧Below w0.heap.size w0 w∧aP w0.heap.size #[.pointer (some ⟨b,0,none⟩)] 107 (fun k=>w0.heap.size≤k) w∧aP (w0.heap.size+1) #[.pointer (some ⟨g,0,none⟩)] 167 (fun k=>w0.heap.size≤k) w∧ij (w0.heap.size+2) (jk w0.heap.size b) (fun k=>w0.heap.size≤k) w:=by
 obtain ⟨p,hp⟩:∃p,w0.heap.size=p:=⟨_,rfl⟩
 have Nd:=pX ((w0.alloc (.cells #[.pointer (some ⟨b,0,none⟩)] 107)).alloc (.cells #[.pointer (some ⟨g,0,none⟩)] 167))
 have dZ:Below w0.heap.size w0 (((w0.alloc (.cells #[.pointer (some ⟨b,0,none⟩)] 107)).alloc (.cells #[.pointer (some ⟨g,0,none⟩)] 167)).alloc (.map #[] 0)):=(((zE _ _).alloc (zD _) _).alloc (by simp only[zJ];omega) _).alloc (by simp only[zJ];omega) _
 have h4:(((w0.alloc (.cells #[.pointer (some ⟨b,0,none⟩)] 107)).alloc (.cells #[.pointer (some ⟨g,0,none⟩)] 167)).alloc (.map #[] 0)).heap[p]?=some (.cells #[.pointer (some ⟨b,0,none⟩)] 107 (0,0)):=by
  rw[←hp,Below.heap_alloc _ _ _ (by simp only[zJ];omega),Below.heap_alloc _ _ _ (by simp only[zJ];omega)]
  exact aC _ _
 have h5:(((w0.alloc (.cells #[.pointer (some ⟨b,0,none⟩)] 107)).alloc (.cells #[.pointer (some ⟨g,0,none⟩)] 167)).alloc (.map #[] 0)).heap[p+1]?=some (.cells #[.pointer (some ⟨g,0,none⟩)] 167 (0,0)):=by
  rw[←hp,Below.heap_alloc _ _ _ (by simp only[zJ];omega)]
  have:=aC (w0.alloc (.cells #[.pointer (some ⟨b,0,none⟩)] 107)) (.cells #[.pointer (some ⟨g,0,none⟩)] 167)
  simpa only[zJ] using this
 simp only[zJ,hp,Nat.add_assoc,Nat.reduceAdd] at Nd
 have WM:(((w0.alloc (.cells #[.pointer (some ⟨b,0,none⟩)] 107)).alloc (.cells #[.pointer (some ⟨g,0,none⟩)] 167)).alloc (.map #[] 0)).cell? ⟨p,0,none⟩=some (.pointer (some ⟨b,0,none⟩)):=by rw[cell_of_row _ _ _ _ _ _ h4];rfl
 have hP:ij (p+2) [] (fun k=>p≤k) (((w0.alloc (.cells #[.pointer (some ⟨b,0,none⟩)] 107)).alloc (.cells #[.pointer (some ⟨g,0,none⟩)] 167)).alloc (.map #[] 0)):=⟨Nd.1,by omega⟩
 have BN:(((w0.alloc (.cells #[.pointer (some ⟨b,0,none⟩)] 107)).alloc (.cells #[.pointer (some ⟨g,0,none⟩)] 167)).alloc (.map #[] 0)).grownBy (((w0.alloc (.cells #[.pointer (some ⟨b,0,none⟩)] 107)).alloc (.cells #[.pointer (some ⟨g,0,none⟩)] 167)).alloc (.map #[] 0)) (some (p+2)):=zI _ _
 obtain ⟨v1,r1,m1,g1⟩:=bQ hP ⟨#[109,101,115,115,97,103,101]⟩ (.func (.func 151) #[] #[.pointer (some ⟨p+1,0,none⟩),.pointer (some ⟨p,0,none⟩)]) (by rfl)
 have kV:=BN.trans g1
 have ri:v1.cell? ⟨p,0,none⟩=some (.pointer (some ⟨b,0,none⟩)):=by rw[cell_of_row _ _ _ _ _ _ ((kV.block p (zA h4).1 (by simp)).trans h4)];rfl
 obtain ⟨v2,r2,m2,g2⟩:=bQ m1 ⟨#[101,110,117,109]⟩ (.func (.func 152) #[] #[.pointer (some ⟨p+1,0,none⟩),.pointer (some ⟨p,0,none⟩)]) (by rfl)
 have ej:=kV.trans g2
 have gJ:v2.cell? ⟨p,0,none⟩=some (.pointer (some ⟨b,0,none⟩)):=by rw[cell_of_row _ _ _ _ _ _ ((ej.block p (zA h4).1 (by simp)).trans h4)];rfl
 obtain ⟨v3,r3,m3,g3⟩:=bQ m2 ⟨#[111,110,101,111,102]⟩ (.func (.func 153) #[] #[.pointer (some ⟨p,0,none⟩),.pointer (some ⟨p+1,0,none⟩)]) (by rfl)
 have fB:=ej.trans g3
 have lr:v3.cell? ⟨p,0,none⟩=some (.pointer (some ⟨b,0,none⟩)):=by rw[cell_of_row _ _ _ _ _ _ ((fB.block p (zA h4).1 (by simp)).trans h4)];rfl
 obtain ⟨v4,r4,m4,g4⟩:=bQ m3 ⟨#[114,101,115,101,114,118,101,100]⟩ (.func (.func 155) #[] #[.pointer (some ⟨p,0,none⟩),.pointer (some ⟨p+1,0,none⟩)]) (by rfl)
 have rY:=fB.trans g4
 have SY:v4.cell? ⟨p,0,none⟩=some (.pointer (some ⟨b,0,none⟩)):=by rw[cell_of_row _ _ _ _ _ _ ((rY.block p (zA h4).1 (by simp)).trans h4)];rfl
 obtain ⟨v5,r5,m5,g5⟩:=bQ m4 ⟨#[111,112,116,105,111,110,97,108]⟩ (.func (.func 157) #[] #[.pointer (some ⟨p+1,0,none⟩),.pointer (some ⟨p,0,none⟩)]) (by rfl)
 have Pr:=rY.trans g5
 have hc5:v5.cell? ⟨p,0,none⟩=some (.pointer (some ⟨b,0,none⟩)):=by rw[cell_of_row _ _ _ _ _ _ ((Pr.block p (zA h4).1 (by simp)).trans h4)];rfl
 obtain ⟨v6,r6,m6,g6⟩:=bQ m5 ⟨#[114,101,112,101,97,116,101,100]⟩ (.func (.func 159) #[] #[.pointer (some ⟨p+1,0,none⟩),.pointer (some ⟨p,0,none⟩)]) (by rfl)
 have pR:=Pr.trans g6
 have hc6:v6.cell? ⟨p,0,none⟩=some (.pointer (some ⟨b,0,none⟩)):=by rw[cell_of_row _ _ _ _ _ _ ((pR.block p (zA h4).1 (by simp)).trans h4)];rfl
 obtain ⟨v7,r7,m7,g7⟩:=bQ m6 ⟨#[109,97,112]⟩ (.func (.func 160) #[] #[.pointer (some ⟨p+1,0,none⟩),.pointer (some ⟨p,0,none⟩)]) (by rfl)
 have rX:=pR.trans g7
 have WL:v7.cell? ⟨p,0,none⟩=some (.pointer (some ⟨b,0,none⟩)):=by rw[cell_of_row _ _ _ _ _ _ ((rX.block p (zA h4).1 (by simp)).trans h4)];rfl
 obtain ⟨v8,r8,m8,g8⟩:=bQ m7 ⟨#[111,112,116,105,111,110]⟩ (.func (.func 104) #[.pointer (some ⟨b,0,none⟩)] #[]) (by rfl)
 have WG:=rX.trans g8
 have hc8:v8.cell? ⟨p,0,none⟩=some (.pointer (some ⟨b,0,none⟩)):=by rw[cell_of_row _ _ _ _ _ _ ((WG.block p (zA h4).1 (by simp)).trans h4)];rfl
 obtain ⟨v9,r9,m9,g9⟩:=bQ m8 ⟨#[101,120,116,101,110,100]⟩ (.func (.func 104) #[.pointer (some ⟨b,0,none⟩)] #[]) (by rfl)
 have yM:=WG.trans g9
 have hc9:v9.cell? ⟨p,0,none⟩=some (.pointer (some ⟨b,0,none⟩)):=by rw[cell_of_row _ _ _ _ _ _ ((yM.block p (zA h4).1 (by simp)).trans h4)];rfl
 obtain ⟨v10,r10,m10,g10⟩:=bQ m9 ⟨#[101,120,116,101,110,115,105,111,110,115]⟩ (.func (.func 104) #[.pointer (some ⟨b,0,none⟩)] #[]) (by rfl)
 have UJ:=yM.trans g10
 have ab5:v10.cell? ⟨p,0,none⟩=some (.pointer (some ⟨b,0,none⟩)):=by rw[cell_of_row _ _ _ _ _ _ ((UJ.block p (zA h4).1 (by simp)).trans h4)];rfl
 obtain ⟨v11,r11,m11,g11⟩:=bQ m10 ⟨#[103,114,111,117,112]⟩ (.func (.func 104) #[.pointer (some ⟨b,0,none⟩)] #[]) (by rfl)
 have UI:=UJ.trans g11
 have ab4:v11.cell? ⟨p,0,none⟩=some (.pointer (some ⟨b,0,none⟩)):=by rw[cell_of_row _ _ _ _ _ _ ((UI.block p (zA h4).1 (by simp)).trans h4)];rfl
 obtain ⟨v12,r12,m12,g12⟩:=bQ m11 ⟨#[114,101,113,117,105,114,101,100]⟩ (.func (.func 104) #[.pointer (some ⟨b,0,none⟩)] #[]) (by rfl)
 have Nj:=UI.trans g12
 have ab3:v12.cell? ⟨p,0,none⟩=some (.pointer (some ⟨b,0,none⟩)):=by rw[cell_of_row _ _ _ _ _ _ ((Nj.block p (zA h4).1 (by simp)).trans h4)];rfl
 have HE:Hid (Below p w0 v12∧aP p #[.pointer (some ⟨b,0,none⟩)] 107 (fun k=>p≤k) v12∧aP (p+1) #[.pointer (some ⟨g,0,none⟩)] 167 (fun k=>p≤k) v12∧ij (p+2) (jk p b) (fun k=>p≤k) v12):=⟨hp ▸ dZ.grown Nj dZ.size (fun k e=>by simp at e;omega),⟨(Nj.block p (zA h4).1 (by simp)).trans h4,zD _⟩,⟨(Nj.block (p+1) (zA h5).1 (by simp)).trans h5,by omega⟩,m12⟩
 have Wx:=@run_makeMap Tryz.prog
 rw[hp]
 clear Nd hP dZ h4 h5 BN m1 g1 kV m2 g2 ej m3 g3 fB m4 g4 rY m5 g5 Pr m6 g6 pR m7 g7 rX m8 g8 WG m9 g9 yM m10 g10 UJ m11 g11 UI m12 g12 Nj
 subst hp
 go_enter Tryz.func124,Tryz.ntmps124
 go_wp2
 go_ret
 exact ⟨rfl,aa HE⟩
def oQ (p b:Nat):List (ByteArray×Value):=[(⟨#[112,97,99,107,97,103,101]⟩,.func (.func 96) #[] #[.pointer (some ⟨p,0,none⟩),.pointer (some ⟨p+1,0,none⟩)]),(⟨#[105,109,112,111,114,116]⟩,.func (.func 98) #[] #[.pointer (some ⟨p+1,0,none⟩),.pointer (some ⟨p,0,none⟩)]),(⟨#[109,101,115,115,97,103,101]⟩,.func (.func 100) #[] #[.pointer (some ⟨p+1,0,none⟩),.pointer (some ⟨p,0,none⟩)]),(⟨#[101,110,117,109]⟩,.func (.func 102) #[] #[.pointer (some ⟨p+1,0,none⟩),.pointer (some ⟨p,0,none⟩)]),(⟨#[111,112,116,105,111,110]⟩,.func (.func 104) #[.pointer (some ⟨b,0,none⟩)] #[]),(⟨#[115,101,114,118,105,99,101]⟩,.func (.func 104) #[.pointer (some ⟨b,0,none⟩)] #[]),(⟨#[101,120,116,101,110,100]⟩,.func (.func 104) #[.pointer (some ⟨b,0,none⟩)] #[])]
theorem Lj (w0:World) (b g:Nat):Calls Tryz.prog 79 #[.pointer (some ⟨b,0,none⟩),.pointer (some ⟨g,0,none⟩)] w0 fun e w=>e=.returned (.map (some (w0.heap.size+2)))∧Below w0.heap.size w0 w∧aP w0.heap.size #[.pointer (some ⟨b,0,none⟩)] 107 (fun k=>w0.heap.size≤k) w∧aP (w0.heap.size+1) #[.pointer (some ⟨g,0,none⟩)] 135 (fun k=>w0.heap.size≤k) w∧ij (w0.heap.size+2) (oQ w0.heap.size b) (fun k=>w0.heap.size≤k) w:=by
 obtain ⟨p,hp⟩:∃p,w0.heap.size=p:=⟨_,rfl⟩
 have Nd:=pX ((w0.alloc (.cells #[.pointer (some ⟨b,0,none⟩)] 107)).alloc (.cells #[.pointer (some ⟨g,0,none⟩)] 135))
 have dZ:Below w0.heap.size w0 (((w0.alloc (.cells #[.pointer (some ⟨b,0,none⟩)] 107)).alloc (.cells #[.pointer (some ⟨g,0,none⟩)] 135)).alloc (.map #[] 0)):=(((zE _ _).alloc (zD _) _).alloc (by simp only[zJ];omega) _).alloc (by simp only[zJ];omega) _
 have h4:(((w0.alloc (.cells #[.pointer (some ⟨b,0,none⟩)] 107)).alloc (.cells #[.pointer (some ⟨g,0,none⟩)] 135)).alloc (.map #[] 0)).heap[p]?=some (.cells #[.pointer (some ⟨b,0,none⟩)] 107 (0,0)):=by
  rw[←hp,Below.heap_alloc _ _ _ (by simp only[zJ];omega),Below.heap_alloc _ _ _ (by simp only[zJ];omega)]
  exact aC _ _
 have h5:(((w0.alloc (.cells #[.pointer (some ⟨b,0,none⟩)] 107)).alloc (.cells #[.pointer (some ⟨g,0,none⟩)] 135)).alloc (.map #[] 0)).heap[p+1]?=some (.cells #[.pointer (some ⟨g,0,none⟩)] 135 (0,0)):=by
  rw[←hp,Below.heap_alloc _ _ _ (by simp only[zJ];omega)]
  have:=aC (w0.alloc (.cells #[.pointer (some ⟨b,0,none⟩)] 107)) (.cells #[.pointer (some ⟨g,0,none⟩)] 135)
  simpa only[zJ] using this
 simp only[zJ,hp,Nat.add_assoc,Nat.reduceAdd] at Nd
 have WM:(((w0.alloc (.cells #[.pointer (some ⟨b,0,none⟩)] 107)).alloc (.cells #[.pointer (some ⟨g,0,none⟩)] 135)).alloc (.map #[] 0)).cell? ⟨p,0,none⟩=some (.pointer (some ⟨b,0,none⟩)):=by rw[cell_of_row _ _ _ _ _ _ h4];rfl
 have hP:ij (p+2) [] (fun k=>p≤k) (((w0.alloc (.cells #[.pointer (some ⟨b,0,none⟩)] 107)).alloc (.cells #[.pointer (some ⟨g,0,none⟩)] 135)).alloc (.map #[] 0)):=⟨Nd.1,by omega⟩
 have BN:(((w0.alloc (.cells #[.pointer (some ⟨b,0,none⟩)] 107)).alloc (.cells #[.pointer (some ⟨g,0,none⟩)] 135)).alloc (.map #[] 0)).grownBy (((w0.alloc (.cells #[.pointer (some ⟨b,0,none⟩)] 107)).alloc (.cells #[.pointer (some ⟨g,0,none⟩)] 135)).alloc (.map #[] 0)) (some (p+2)):=zI _ _
 obtain ⟨v1,r1,m1,g1⟩:=bQ hP ⟨#[112,97,99,107,97,103,101]⟩ (.func (.func 96) #[] #[.pointer (some ⟨p,0,none⟩),.pointer (some ⟨p+1,0,none⟩)]) (by rfl)
 have kV:=BN.trans g1
 have ri:v1.cell? ⟨p,0,none⟩=some (.pointer (some ⟨b,0,none⟩)):=by rw[cell_of_row _ _ _ _ _ _ ((kV.block p (zA h4).1 (by simp)).trans h4)];rfl
 obtain ⟨v2,r2,m2,g2⟩:=bQ m1 ⟨#[105,109,112,111,114,116]⟩ (.func (.func 98) #[] #[.pointer (some ⟨p+1,0,none⟩),.pointer (some ⟨p,0,none⟩)]) (by rfl)
 have ej:=kV.trans g2
 have gJ:v2.cell? ⟨p,0,none⟩=some (.pointer (some ⟨b,0,none⟩)):=by rw[cell_of_row _ _ _ _ _ _ ((ej.block p (zA h4).1 (by simp)).trans h4)];rfl
 obtain ⟨v3,r3,m3,g3⟩:=bQ m2 ⟨#[109,101,115,115,97,103,101]⟩ (.func (.func 100) #[] #[.pointer (some ⟨p+1,0,none⟩),.pointer (some ⟨p,0,none⟩)]) (by rfl)
 have fB:=ej.trans g3
 have lr:v3.cell? ⟨p,0,none⟩=some (.pointer (some ⟨b,0,none⟩)):=by rw[cell_of_row _ _ _ _ _ _ ((fB.block p (zA h4).1 (by simp)).trans h4)];rfl
 obtain ⟨v4,r4,m4,g4⟩:=bQ m3 ⟨#[101,110,117,109]⟩ (.func (.func 102) #[] #[.pointer (some ⟨p+1,0,none⟩),.pointer (some ⟨p,0,none⟩)]) (by rfl)
 have rY:=fB.trans g4
 have SY:v4.cell? ⟨p,0,none⟩=some (.pointer (some ⟨b,0,none⟩)):=by rw[cell_of_row _ _ _ _ _ _ ((rY.block p (zA h4).1 (by simp)).trans h4)];rfl
 obtain ⟨v5,r5,m5,g5⟩:=bQ m4 ⟨#[111,112,116,105,111,110]⟩ (.func (.func 104) #[.pointer (some ⟨b,0,none⟩)] #[]) (by rfl)
 have Pr:=rY.trans g5
 have hc5:v5.cell? ⟨p,0,none⟩=some (.pointer (some ⟨b,0,none⟩)):=by rw[cell_of_row _ _ _ _ _ _ ((Pr.block p (zA h4).1 (by simp)).trans h4)];rfl
 obtain ⟨v6,r6,m6,g6⟩:=bQ m5 ⟨#[115,101,114,118,105,99,101]⟩ (.func (.func 104) #[.pointer (some ⟨b,0,none⟩)] #[]) (by rfl)
 have pR:=Pr.trans g6
 have hc6:v6.cell? ⟨p,0,none⟩=some (.pointer (some ⟨b,0,none⟩)):=by rw[cell_of_row _ _ _ _ _ _ ((pR.block p (zA h4).1 (by simp)).trans h4)];rfl
 obtain ⟨v7,r7,m7,g7⟩:=bQ m6 ⟨#[101,120,116,101,110,100]⟩ (.func (.func 104) #[.pointer (some ⟨b,0,none⟩)] #[]) (by rfl)
 have rX:=pR.trans g7
 have WL:v7.cell? ⟨p,0,none⟩=some (.pointer (some ⟨b,0,none⟩)):=by rw[cell_of_row _ _ _ _ _ _ ((rX.block p (zA h4).1 (by simp)).trans h4)];rfl
 have HE:Hid (Below p w0 v7∧aP p #[.pointer (some ⟨b,0,none⟩)] 107 (fun k=>p≤k) v7∧aP (p+1) #[.pointer (some ⟨g,0,none⟩)] 135 (fun k=>p≤k) v7∧ij (p+2) (oQ p b) (fun k=>p≤k) v7):=⟨hp ▸ dZ.grown rX dZ.size (fun k e=>by simp at e;omega),⟨(rX.block p (zA h4).1 (by simp)).trans h4,zD _⟩,⟨(rX.block (p+1) (zA h5).1 (by simp)).trans h5,by omega⟩,m7⟩
 have Wx:=@run_makeMap Tryz.prog
 rw[hp]
 clear Nd hP dZ h4 h5 BN m1 g1 kV m2 g2 ej m3 g3 fB m4 g4 rY m5 g5 Pr m6 g6 pR m7 g7 rX
 subst hp
 go_enter Tryz.func79,Tryz.ntmps79
 go_wp2
 go_ret
 exact ⟨rfl,aa HE⟩
end Go.Proofs.YtmlphohdcejniaaGreatDoor
