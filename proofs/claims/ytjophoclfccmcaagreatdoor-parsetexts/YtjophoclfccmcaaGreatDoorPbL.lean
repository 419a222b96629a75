import Derived.Test.YtjophoclfccmcaaGreatDoorM21
set_option maxHeartbeats 4000000
set_option maxRecDepth 100000
namespace Go.Proofs.YtjophoclfccmcaaGreatDoor
open Go.RowKit
attribute [local go_sem ↓] Go.wp_at_zero Go.wp_at_succ
def lB (p b:Nat):List (ByteArray×Value):=[(⟨#[114,101,115,101,114,118,101,100]⟩,.func (.func 156) #[] #[.pointer (some ⟨p,0,none⟩),.pointer (some ⟨p+1,0,none⟩)]),(⟨#[111,112,116,105,111,110]⟩,.func (.func 106) #[.pointer (some ⟨b,0,none⟩)] #[])]
theorem Fq (w0:World) (b g:Nat):Calls Tryz.prog 128 #[.pointer (some ⟨b,0,none⟩),.pointer (some ⟨g,0,none⟩)] w0 fun e w=>e=.returned (.map (some (w0.heap.size+2)))∧Below w0.heap.size w0 w∧aX w0.heap.size #[.pointer (some ⟨b,0,none⟩)] 74 (fun k=>w0.heap.size≤k) w∧aX (w0.heap.size+1) #[.pointer (some ⟨g,0,none⟩)] 161 (fun k=>w0.heap.size≤k) w∧iH (w0.heap.size+2) (lB w0.heap.size b) (fun k=>w0.heap.size≤k) w:=by
 obtain ⟨p,hp⟩:∃p,w0.heap.size=p:=⟨_,rfl⟩
 have N8:=qK ((w0.alloc (.cells #[.pointer (some ⟨b,0,none⟩)] 74)).alloc (.cells #[.pointer (some ⟨g,0,none⟩)] 161))
 have eC:Below w0.heap.size w0 (((w0.alloc (.cells #[.pointer (some ⟨b,0,none⟩)] 74)).alloc (.cells #[.pointer (some ⟨g,0,none⟩)] 161)).alloc (.map #[] 0)):=(((zE _ _).alloc (zD _) _).alloc (by simp only[zJ];omega) _).alloc (by simp only[zJ];omega) _
 have h4:(((w0.alloc (.cells #[.pointer (some ⟨b,0,none⟩)] 74)).alloc (.cells #[.pointer (some ⟨g,0,none⟩)] 161)).alloc (.map #[] 0)).heap[p]?=some (.cells #[.pointer (some ⟨b,0,none⟩)] 74 (0,0)):=by
  rw[←hp,Below.heap_alloc _ _ _ (by simp only[zJ];omega),Below.heap_alloc _ _ _ (by simp only[zJ];omega)]
  exact aF _ _
 have h5:(((w0.alloc (.cells #[.pointer (some ⟨b,0,none⟩)] 74)).alloc (.cells #[.pointer (some ⟨g,0,none⟩)] 161)).alloc (.map #[] 0)).heap[p+1]?=some (.cells #[.pointer (some ⟨g,0,none⟩)] 161 (0,0)):=by
  rw[←hp,Below.heap_alloc _ _ _ (by simp only[zJ];omega)]
  have:=aF (w0.alloc (.cells #[.pointer (some ⟨b,0,none⟩)] 74)) (.cells #[.pointer (some ⟨g,0,none⟩)] 161)
  simpa only[zJ] using this
 simp only[zJ,hp,Nat.add_assoc,Nat.reduceAdd] at N8
 have hc0:(((w0.alloc (.cells #[.pointer (some ⟨b,0,none⟩)] 74)).alloc (.cells #[.pointer (some ⟨g,0,none⟩)] 161)).alloc (.map #[] 0)).cell? ⟨p,0,none⟩=some (.pointer (some ⟨b,0,none⟩)):=by rw[cell_of_row _ _ _ _ _ _ h4];rfl
 have hP:iH (p+2) [] (fun k=>p≤k) (((w0.alloc (.cells #[.pointer (some ⟨b,0,none⟩)] 74)).alloc (.cells #[.pointer (some ⟨g,0,none⟩)] 161)).alloc (.map #[] 0)):=⟨N8.1,by omega⟩
 have Ge:(((w0.alloc (.cells #[.pointer (some ⟨b,0,none⟩)] 74)).alloc (.cells #[.pointer (some ⟨g,0,none⟩)] 161)).alloc (.map #[] 0)).grownBy (((w0.alloc (.cells #[.pointer (some ⟨b,0,none⟩)] 74)).alloc (.cells #[.pointer (some ⟨g,0,none⟩)] 161)).alloc (.map #[] 0)) (some (p+2)):=zI _ _
 obtain ⟨v1,r1,m1,g1⟩:=ca hP ⟨#[114,101,115,101,114,118,101,100]⟩ (.func (.func 156) #[] #[.pointer (some ⟨p,0,none⟩),.pointer (some ⟨p+1,0,none⟩)]) (by rfl)
 have lY:=Ge.trans g1
 have p':v1.cell? ⟨p,0,none⟩=some (.pointer (some ⟨b,0,none⟩)):=by rw[cell_of_row _ _ _ _ _ _ ((lY.block p (zA h4).1 (by simp)).trans h4)];rfl
 obtain ⟨v2,r2,m2,g2⟩:=ca m1 ⟨#[111,112,116,105,111,110]⟩ (.func (.func 106) #[.pointer (some ⟨b,0,none⟩)] #[]) (by rfl)
 have lv:=lY.trans g2
 have fB:v2.cell? ⟨p,0,none⟩=some (.pointer (some ⟨b,0,none⟩)):=by rw[cell_of_row _ _ _ _ _ _ ((lv.block p (zA h4).1 (by simp)).trans h4)];rfl
 have HE:Hid (Below p w0 v2∧aX p #[.pointer (some ⟨b,0,none⟩)] 74 (fun k=>p≤k) v2∧aX (p+1) #[.pointer (some ⟨g,0,none⟩)] 161 (fun k=>p≤k) v2∧iH (p+2) (lB p b) (fun k=>p≤k) v2):=⟨hp ▸ eC.grown lv eC.size (fun k e=>by simp at e;omega),⟨(lv.block p (zA h4).1 (by simp)).trans h4,zD _⟩,⟨(lv.block (p+1) (zA h5).1 (by simp)).trans h5,by omega⟩,m2⟩
 have Xe:=@run_makeMap Tryz.prog
 rw[hp]
 clear N8 hP eC h4 h5 Ge m1 g1 lY m2 g2 lv
 subst hp
 go_enter Tryz.func128,Tryz.ntmps128
 go_wp2
 go_ret
 exact ⟨rfl,aa HE⟩
def jW (b:Nat):List (ByteArray×Value):=[(⟨#[111,112,116,105,111,110]⟩,.func (.func 106) #[.pointer (some ⟨b,0,none⟩)] #[]),(⟨#[103,114,111,117,112]⟩,.func (.func 106) #[.pointer (some ⟨b,0,none⟩)] #[]),(⟨#[111,112,116,105,111,110,97,108]⟩,.func (.func 106) #[.pointer (some ⟨b,0,none⟩)] #[]),(⟨#[114,101,112,101,97,116,101,100]⟩,.func (.func 106) #[.pointer (some ⟨b,0,none⟩)] #[]),(⟨#[114,101,113,117,105,114,101,100]⟩,.func (.func 106) #[.pointer (some ⟨b,0,none⟩)] #[]),(⟨#[111,110,101,111,102]⟩,.func (.func 106) #[.pointer (some ⟨b,0,none⟩)] #[]),(⟨#[109,101,115,115,97,103,101]⟩,.func (.func 106) #[.pointer (some ⟨b,0,none⟩)] #[]),(⟨#[101,110,117,109]⟩,.func (.func 106) #[.pointer (some ⟨b,0,none⟩)] #[]),(⟨#[114,101,115,101,114,118,101,100]⟩,.func (.func 106) #[.pointer (some ⟨b,0,none⟩)] #[])]
theorem Ev (w0:World) (b:Nat):Calls Tryz.prog 169 #[.pointer (some ⟨b,0,none⟩)] w0 fun e w=>e=.returned (.map (some w0.heap.size))∧Below w0.heap.size w0 w∧iH w0.heap.size (jW b) (fun k=>w0.heap.size≤k) w:=by
 have eC:Below w0.heap.size w0 (w0.alloc (.map #[] 0)):=(zE _ _).alloc (zD _) _
 have hP:=qK w0
 have Ge:(w0.alloc (.map #[] 0)).grownBy (w0.alloc (.map #[] 0)) (some w0.heap.size):=zI _ _
 obtain ⟨v1,r1,m1,g1⟩:=ca hP ⟨#[111,112,116,105,111,110]⟩ (.func (.func 106) #[.pointer (some ⟨b,0,none⟩)] #[]) (by rfl)
 have lY:=Ge.trans g1
 obtain ⟨v2,r2,m2,g2⟩:=ca m1 ⟨#[103,114,111,117,112]⟩ (.func (.func 106) #[.pointer (some ⟨b,0,none⟩)] #[]) (by rfl)
 have lv:=lY.trans g2
 obtain ⟨v3,r3,m3,g3⟩:=ca m2 ⟨#[111,112,116,105,111,110,97,108]⟩ (.func (.func 106) #[.pointer (some ⟨b,0,none⟩)] #[]) (by rfl)
 have cO:=lv.trans g3
 obtain ⟨v4,r4,m4,g4⟩:=ca m3 ⟨#[114,101,112,101,97,116,101,100]⟩ (.func (.func 106) #[.pointer (some ⟨b,0,none⟩)] #[]) (by rfl)
 have kZ:=cO.trans g4
 obtain ⟨v5,r5,m5,g5⟩:=ca m4 ⟨#[114,101,113,117,105,114,101,100]⟩ (.func (.func 106) #[.pointer (some ⟨b,0,none⟩)] #[]) (by rfl)
 have KF:=kZ.trans g5
 obtain ⟨v6,r6,m6,g6⟩:=ca m5 ⟨#[111,110,101,111,102]⟩ (.func (.func 106) #[.pointer (some ⟨b,0,none⟩)] #[]) (by rfl)
 have ug:=KF.trans g6
 obtain ⟨v7,r7,m7,g7⟩:=ca m6 ⟨#[109,101,115,115,97,103,101]⟩ (.func (.func 106) #[.pointer (some ⟨b,0,none⟩)] #[]) (by rfl)
 have sL:=ug.trans g7
 obtain ⟨v8,r8,m8,g8⟩:=ca m7 ⟨#[101,110,117,109]⟩ (.func (.func 106) #[.pointer (some ⟨b,0,none⟩)] #[]) (by rfl)
 have Xl:=sL.trans g8
 obtain ⟨v9,r9,m9,g9⟩:=ca m8 ⟨#[114,101,115,101,114,118,101,100]⟩ (.func (.func 106) #[.pointer (some ⟨b,0,none⟩)] #[]) (by rfl)
 have yP:=Xl.trans g9
 have HE:Hid (Below w0.heap.size w0 v9∧iH w0.heap.size (jW b) (fun k=>w0.heap.size≤k) v9):=⟨eC.grown yP eC.size (fun k e=>by simp at e;omega),m9⟩
 have Xe:=@run_makeMap Tryz.prog
 clear hP eC Ge m1 g1 lY m2 g2 lv m3 g3 cO m4 g4 kZ m5 g5 KF m6 g6 ug m7 g7 sL m8 g8 Xl m9 g9 yP
 go_enter Tryz.func169,Tryz.ntmps169
 go_wp2
 go_ret
 exact ⟨rfl,aa HE⟩
def jJ (p b:Nat):List (ByteArray×Value):=[(⟨#[109,101,115,115,97,103,101]⟩,.func (.func 144) #[] #[.pointer (some ⟨p+1,0,none⟩),.pointer (some ⟨p,0,none⟩)]),(⟨#[101,110,117,109]⟩,.func (.func 145) #[] #[.pointer (some ⟨p+1,0,none⟩),.pointer (some ⟨p,0,none⟩)]),(⟨#[111,110,101,111,102]⟩,.func (.func 146) #[] #[.pointer (some ⟨p,0,none⟩),.pointer (some ⟨p+1,0,none⟩)]),(⟨#[114,101,115,101,114,118,101,100]⟩,.func (.func 148) #[] #[.pointer (some ⟨p,0,none⟩),.pointer (some ⟨p+1,0,none⟩)]),(⟨#[111,112,116,105,111,110,97,108]⟩,.func (.func 150) #[] #[.pointer (some ⟨p+1,0,none⟩),.pointer (some ⟨p,0,none⟩)]),(⟨#[114,101,112,101,97,116,101,100]⟩,.func (.func 152) #[] #[.pointer (some ⟨p+1,0,none⟩),.pointer (some ⟨p,0,none⟩)]),(⟨#[109,97,112]⟩,.func (.func 153) #[] #[.pointer (some ⟨p+1,0,none⟩),.pointer (some ⟨p,0,none⟩)]),(⟨#[111,112,116,105,111,110]⟩,.func (.func 106) #[.pointer (some ⟨b,0,none⟩)] #[]),(⟨#[101,120,116,101,110,100]⟩,.func (.func 106) #[.pointer (some ⟨b,0,none⟩)] #[]),(⟨#[101,120,116,101,110,115,105,111,110,115]⟩,.func (.func 106) #[.pointer (some ⟨b,0,none⟩)] #[]),(⟨#[103,114,111,117,112]⟩,.func (.func 106) #[.pointer (some ⟨b,0,none⟩)] #[]),(⟨#[114,101,113,117,105,114,101,100]⟩,.func (.func 106) #[.pointer (some ⟨b,0,none⟩)] #[])]
theorem DN (w0:World) (b g:Nat):Calls Tryz.prog 125 #[.pointer (some ⟨b,0,none⟩),.pointer (some ⟨g,0,none⟩)] w0 fun e w=>e=.returned (.map (some (w0.heap.size+2)))∧Below w0.heap.size w0 w∧aX w0.heap.size #[.pointer (some ⟨b,0,none⟩)] 74 (fun k=>w0.heap.size≤k) w∧aX (w0.heap.size+1) #[.pointer (some ⟨g,0,none⟩)] 158 (fun k=>w0.heap.size≤k) w∧iH (w0.heap.size+2) (jJ w0.heap.size b) (fun k=>w0.heap.size≤k) w:=by
 obtain ⟨p,hp⟩:∃p,w0.heap.size=p:=⟨_,rfl⟩
 have N8:=qK ((w0.alloc (.cells #[.pointer (some ⟨b,0,none⟩)] 74)).alloc (.cells #[.pointer (some ⟨g,0,none⟩)] 158))
 have eC:Below w0.heap.size w0 (((w0.alloc (.cells #[.pointer (some ⟨b,0,none⟩)] 74)).alloc (.cells #[.pointer (some ⟨g,0,none⟩)] 158)).alloc (.map #[] 0)):=(((zE _ _).alloc (zD _) _).alloc (by simp only[zJ];omega) _).alloc (by simp only[zJ];omega) _
 have h4:(((w0.alloc (.cells #[.pointer (some ⟨b,0,none⟩)] 74)).alloc (.cells #[.pointer (some ⟨g,0,none⟩)] 158)).alloc (.map #[] 0)).heap[p]?=some (.cells #[.pointer (some ⟨b,0,none⟩)] 74 (0,0)):=by
  rw[←hp,Below.heap_alloc _ _ _ (by simp only[zJ];omega),Below.heap_alloc _ _ _ (by simp only[zJ];omega)]
  exact aF _ _
 have h5:(((w0.alloc (.cells #[.pointer (some ⟨b,0,none⟩)] 74)).alloc (.cells #[.pointer (some ⟨g,0,none⟩)] 158)).alloc (.map #[] 0)).heap[p+1]?=some (.cells #[.pointer (some ⟨g,0,none⟩)] 158 (0,0)):=by
  rw[←hp,Below.heap_alloc _ _ _ (by simp only[zJ];omega)]
  have:=aF (w0.alloc (.cells #[.pointer (some ⟨b,0,none⟩)] 74)) (.cells #[.pointer (some ⟨g,0,none⟩)] 158)
  simpa only[zJ] using this
 simp only[zJ,hp,Nat.add_assoc,Nat.reduceAdd] at N8
 have hc0:(((w0.alloc (.cells #[.pointer (some ⟨b,0,none⟩)] 74)).alloc (.cells #[.pointer (some ⟨g,0,none⟩)] 158)).alloc (.map #[] 0)).cell? ⟨p,0,none⟩=some (.pointer (some ⟨b,0,none⟩)):=by rw[cell_of_row _ _ _ _ _ _ h4];rfl
 have hP:iH (p+2) [] (fun k=>p≤k) (((w0.alloc (.cells #[.pointer (some ⟨b,0,none⟩)] 74)).alloc (.cells #[.pointer (some ⟨g,0,none⟩)] 158)).alloc (.map #[] 0)):=⟨N8.1,by omega⟩
 have Ge:(((w0.alloc (.cells #[.pointer (some ⟨b,0,none⟩)] 74)).alloc (.cells #[.pointer (some ⟨g,0,none⟩)] 158)).alloc (.map #[] 0)).grownBy (((w0.alloc (.cells #[.pointer (some ⟨b,0,none⟩)] 74)).alloc (.cells #[.pointer (some ⟨g,0,none⟩)] 158)).alloc (.map #[] 0)) (some (p+2)):=zI _ _
 obtain ⟨v1,r1,m1,g1⟩:=ca hP ⟨#[109,101,115,115,97,103,101]⟩ (.func (.func 144) #[] #[.pointer (some ⟨p+1,0,none⟩),.pointer (some ⟨p,0,none⟩)]) (by rfl)
 have lY:=Ge.trans g1
 have p':v1.cell? ⟨p,0,none⟩=some (.pointer (some ⟨b,0,none⟩)):=by rw[cell_of_row _ _ _ _ _ _ ((lY.block p (zA h4).1 (by simp)).trans h4)];rfl
 obtain ⟨v2,r2,m2,g2⟩:=ca m1 ⟨#[101,110,117,109]⟩ (.func (.func 145) #[] #[.pointer (some ⟨p+1,0,none⟩),.pointer (some ⟨p,0,none⟩)]) (by rfl)
 have lv:=lY.trans g2
 have fB:v2.cell? ⟨p,0,none⟩=some (.pointer (some ⟨b,0,none⟩)):=by rw[cell_of_row _ _ _ _ _ _ ((lv.block p (zA h4).1 (by simp)).trans h4)];rfl
 obtain ⟨v3,r3,m3,g3⟩:=ca m2 ⟨#[111,110,101,111,102]⟩ (.func (.func 146) #[] #[.pointer (some ⟨p,0,none⟩),.pointer (some ⟨p+1,0,none⟩)]) (by rfl)
 have cO:=lv.trans g3
 have pc:v3.cell? ⟨p,0,none⟩=some (.pointer (some ⟨b,0,none⟩)):=by rw[cell_of_row _ _ _ _ _ _ ((cO.block p (zA h4).1 (by simp)).trans h4)];rfl
 obtain ⟨v4,r4,m4,g4⟩:=ca m3 ⟨#[114,101,115,101,114,118,101,100]⟩ (.func (.func 148) #[] #[.pointer (some ⟨p,0,none⟩),.pointer (some ⟨p+1,0,none⟩)]) (by rfl)
 have kZ:=cO.trans g4
 have hc4:v4.cell? ⟨p,0,none⟩=some (.pointer (some ⟨b,0,none⟩)):=by rw[cell_of_row _ _ _ _ _ _ ((kZ.block p (zA h4).1 (by simp)).trans h4)];rfl
 obtain ⟨v5,r5,m5,g5⟩:=ca m4 ⟨#[111,112,116,105,111,110,97,108]⟩ (.func (.func 150) #[] #[.pointer (some ⟨p+1,0,none⟩),.pointer (some ⟨p,0,none⟩)]) (by rfl)
 have KF:=kZ.trans g5
 have hc5:v5.cell? ⟨p,0,none⟩=some (.pointer (some ⟨b,0,none⟩)):=by rw[cell_of_row _ _ _ _ _ _ ((KF.block p (zA h4).1 (by simp)).trans h4)];rfl
 obtain ⟨v6,r6,m6,g6⟩:=ca m5 ⟨#[114,101,112,101,97,116,101,100]⟩ (.func (.func 152) #[] #[.pointer (some ⟨p+1,0,none⟩),.pointer (some ⟨p,0,none⟩)]) (by rfl)
 have ug:=KF.trans g6
 have hc6:v6.cell? ⟨p,0,none⟩=some (.pointer (some ⟨b,0,none⟩)):=by rw[cell_of_row _ _ _ _ _ _ ((ug.block p (zA h4).1 (by simp)).trans h4)];rfl
 obtain ⟨v7,r7,m7,g7⟩:=ca m6 ⟨#[109,97,112]⟩ (.func (.func 153) #[] #[.pointer (some ⟨p+1,0,none⟩),.pointer (some ⟨p,0,none⟩)]) (by rfl)
 have sL:=ug.trans g7
 have Xq:v7.cell? ⟨p,0,none⟩=some (.pointer (some ⟨b,0,none⟩)):=by rw[cell_of_row _ _ _ _ _ _ ((sL.block p (zA h4).1 (by simp)).trans h4)];rfl
 obtain ⟨v8,r8,m8,g8⟩:=ca m7 ⟨#[111,112,116,105,111,110]⟩ (.func (.func 106) #[.pointer (some ⟨b,0,none⟩)] #[]) (by rfl)
 have Xl:=sL.trans g8
 have hc8:v8.cell? ⟨p,0,none⟩=some (.pointer (some ⟨b,0,none⟩)):=by rw[cell_of_row _ _ _ _ _ _ ((Xl.block p (zA h4).1 (by simp)).trans h4)];rfl
 obtain ⟨v9,r9,m9,g9⟩:=ca m8 ⟨#[101,120,116,101,110,100]⟩ (.func (.func 106) #[.pointer (some ⟨b,0,none⟩)] #[]) (by rfl)
 have yP:=Xl.trans g9
 have hc9:v9.cell? ⟨p,0,none⟩=some (.pointer (some ⟨b,0,none⟩)):=by rw[cell_of_row _ _ _ _ _ _ ((yP.block p (zA h4).1 (by simp)).trans h4)];rfl
 obtain ⟨v10,r10,m10,g10⟩:=ca m9 ⟨#[101,120,116,101,110,115,105,111,110,115]⟩ (.func (.func 106) #[.pointer (some ⟨b,0,none⟩)] #[]) (by rfl)
 have Vq:=yP.trans g10
 have adn:v10.cell? ⟨p,0,none⟩=some (.pointer (some ⟨b,0,none⟩)):=by rw[cell_of_row _ _ _ _ _ _ ((Vq.block p (zA h4).1 (by simp)).trans h4)];rfl
 obtain ⟨v11,r11,m11,g11⟩:=ca m10 ⟨#[103,114,111,117,112]⟩ (.func (.func 106) #[.pointer (some ⟨b,0,none⟩)] #[]) (by rfl)
 have Vp:=Vq.trans g11
 have adm:v11.cell? ⟨p,0,none⟩=some (.pointer (some ⟨b,0,none⟩)):=by rw[cell_of_row _ _ _ _ _ _ ((Vp.block p (zA h4).1 (by simp)).trans h4)];rfl
 obtain ⟨v12,r12,m12,g12⟩:=ca m11 ⟨#[114,101,113,117,105,114,101,100]⟩ (.func (.func 106) #[.pointer (some ⟨b,0,none⟩)] #[]) (by rfl)
 have Oa:=Vp.trans g12
 have adl:v12.cell? ⟨p,0,none⟩=some (.pointer (some ⟨b,0,none⟩)):=by rw[cell_of_row _ _ _ _ _ _ ((Oa.block p (zA h4).1 (by simp)).trans h4)];rfl
 have HE:Hid (Below p w0 v12∧aX p #[.pointer (some ⟨b,0,none⟩)] 74 (fun k=>p≤k) v12∧aX (p+1) #[.pointer (some ⟨g,0,none⟩)] 158 (fun k=>p≤k) v12∧iH (p+2) (jJ p b) (fun k=>p≤k) v12):=⟨hp ▸ eC.grown Oa eC.size (fun k e=>by simp at e;omega),⟨(Oa.block p (zA h4).1 (by simp)).trans h4,zD _⟩,⟨(Oa.block (p+1) (zA h5).1 (by simp)).trans h5,by omega⟩,m12⟩
 have Xe:=@run_makeMap Tryz.prog
 rw[hp]
 clear N8 hP eC h4 h5 Ge m1 g1 lY m2 g2 lv m3 g3 cO m4 g4 kZ m5 g5 KF m6 g6 ug m7 g7 sL m8 g8 Xl m9 g9 yP m10 g10 Vq m11 g11 Vp m12 g12 Oa
 subst hp
 go_enter Tryz.func125,Tryz.ntmps125
 go_wp2
 go_ret
 exact ⟨rfl,aa HE⟩
def px (p b:Nat):List (ByteArray×Value):=[(⟨#[112,97,99,107,97,103,101]⟩,.func (.func 98) #[] #[.pointer (some ⟨p,0,none⟩),.pointer (some ⟨p+1,0,none⟩)]),(⟨#[105,109,112,111,114,116]⟩,.func (.func 100) #[] #[.pointer (some ⟨p+1,0,none⟩),.pointer (some ⟨p,0,none⟩)]),(⟨#[109,101,115,115,97,103,101]⟩,.func (.func 102) #[] #[.pointer (some ⟨p+1,0,none⟩),.pointer (some ⟨p,0,none⟩)]),(⟨#[101,110,117,109]⟩,.func (.func 104) #[] #[.pointer (some ⟨p+1,0,none⟩),.pointer (some ⟨p,0,none⟩)]),(⟨#[111,112,116,105,111,110]⟩,.func (.func 106) #[.pointer (some ⟨b,0,none⟩)] #[]),(⟨#[115,101,114,118,105,99,101]⟩,.func (.func 106) #[.pointer (some ⟨b,0,none⟩)] #[]),(⟨#[101,120,116,101,110,100]⟩,.func (.func 106) #[.pointer (some ⟨b,0,none⟩)] #[])]
theorem L1 (w0:World) (b g:Nat):Calls Tryz.prog 62 #[.pointer (some ⟨b,0,none⟩),.pointer (some ⟨g,0,none⟩)] w0 fun e w=>e=.returned (.map (some (w0.heap.size+2)))∧Below w0.heap.size w0 w∧aX w0.heap.size #[.pointer (some ⟨b,0,none⟩)] 74 (fun k=>w0.heap.size≤k) w∧aX (w0.heap.size+1) #[.pointer (some ⟨g,0,none⟩)] 108 (fun k=>w0.heap.size≤k) w∧iH (w0.heap.size+2) (px w0.heap.size b) (fun k=>w0.heap.size≤k) w:=by
 obtain ⟨p,hp⟩:∃p,w0.heap.size=p:=⟨_,rfl⟩
 have N8:=qK ((w0.alloc (.cells #[.pointer (some ⟨b,0,none⟩)] 74)).alloc (.cells #[.pointer (some ⟨g,0,none⟩)] 108))
 have eC:Below w0.heap.size w0 (((w0.alloc (.cells #[.pointer (some ⟨b,0,none⟩)] 74)).alloc (.cells #[.pointer (some ⟨g,0,none⟩)] 108)).alloc (.map #[] 0)):=(((zE _ _).alloc (zD _) _).alloc (by simp only[zJ];omega) _).alloc (by simp only[zJ];omega) _
 have h4:(((w0.alloc (.cells #[.pointer (some ⟨b,0,none⟩)] 74)).alloc (.cells #[.pointer (some ⟨g,0,none⟩)] 108)).alloc (.map #[] 0)).heap[p]?=some (.cells #[.pointer (some ⟨b,0,none⟩)] 74 (0,0)):=by
  rw[←hp,Below.heap_alloc _ _ _ (by simp only[zJ];omega),Below.heap_alloc _ _ _ (by simp only[zJ];omega)]
  exact aF _ _
 have h5:(((w0.alloc (.cells #[.pointer (some ⟨b,0,none⟩)] 74)).alloc (.cells #[.pointer (some ⟨g,0,none⟩)] 108)).alloc (.map #[] 0)).heap[p+1]?=some (.cells #[.pointer (some ⟨g,0,none⟩)] 108 (0,0)):=by
  rw[←hp,Below.heap_alloc _ _ _ (by simp only[zJ];omega)]
  have:=aF (w0.alloc (.cells #[.pointer (some ⟨b,0,none⟩)] 74)) (.cells #[.pointer (some ⟨g,0,none⟩)] 108)
  simpa only[zJ] using this
 simp only[zJ,hp,Nat.add_assoc,Nat.reduceAdd] at N8
 have hc0:(((w0.alloc (.cells #[.pointer (some ⟨b,0,none⟩)] 74)).alloc (.cells #[.pointer (some ⟨g,0,none⟩)] 108)).alloc (.map #[] 0)).cell? ⟨p,0,none⟩=some (.pointer (some ⟨b,0,none⟩)):=by rw[cell_of_row _ _ _ _ _ _ h4];rfl
 have hP:iH (p+2) [] (fun k=>p≤k) (((w0.alloc (.cells #[.pointer (some ⟨b,0,none⟩)] 74)).alloc (.cells #[.pointer (some ⟨g,0,none⟩)] 108)).alloc (.map #[] 0)):=⟨N8.1,by omega⟩
 have Ge:(((w0.alloc (.cells #[.pointer (some ⟨b,0,none⟩)] 74)).alloc (.cells #[.pointer (some ⟨g,0,none⟩)] 108)).alloc (.map #[] 0)).grownBy (((w0.alloc (.cells #[.pointer (some ⟨b,0,none⟩)] 74)).alloc (.cells #[.pointer (some ⟨g,0,none⟩)] 108)).alloc (.map #[] 0)) (some (p+2)):=zI _ _
 obtain ⟨v1,r1,m1,g1⟩:=ca hP ⟨#[112,97,99,107,97,103,101]⟩ (.func (.func 98) #[] #[.pointer (some ⟨p,0,none⟩),.pointer (some ⟨p+1,0,none⟩)]) (by rfl)
 have lY:=Ge.trans g1
 have p':v1.cell? ⟨p,0,none⟩=some (.pointer (some ⟨b,0,none⟩)):=by rw[cell_of_row _ _ _ _ _ _ ((lY.block p (zA h4).1 (by simp)).trans h4)];rfl
 obtain ⟨v2,r2,m2,g2⟩:=ca m1 ⟨#[105,109,112,111,114,116]⟩ (.func (.func 100) #[] #[.pointer (some ⟨p+1,0,none⟩),.pointer (some ⟨p,0,none⟩)]) (by rfl)
 have lv:=lY.trans g2
 have fB:v2.cell? ⟨p,0,none⟩=some (.pointer (some ⟨b,0,none⟩)):=by rw[cell_of_row _ _ _ _ _ _ ((lv.block p (zA h4).1 (by simp)).trans h4)];rfl
 obtain ⟨v3,r3,m3,g3⟩:=ca m2 ⟨#[109,101,115,115,97,103,101]⟩ (.func (.func 102) #[] #[.pointer (some ⟨p+1,0,none⟩),.pointer (some ⟨p,0,none⟩)]) (by rfl)
 have cO:=lv.trans g3
 have pc:v3.cell? ⟨p,0,none⟩=some (.pointer (some ⟨b,0,none⟩)):=by rw[cell_of_row _ _ _ _ _ _ ((cO.block p (zA h4).1 (by simp)).trans h4)];rfl
 obtain ⟨v4,r4,m4,g4⟩:=ca m3 ⟨#[101,110,117,109]⟩ (.func (.func 104) #[] #[.pointer (some ⟨p+1,0,none⟩),.pointer (some ⟨p,0,none⟩)]) (by rfl)
 have kZ:=cO.trans g4
 have hc4:v4.cell? ⟨p,0,none⟩=some (.pointer (some ⟨b,0,none⟩)):=by rw[cell_of_row _ _ _ _ _ _ ((kZ.block p (zA h4).1 (by simp)).trans h4)];rfl
 obtain ⟨v5,r5,m5,g5⟩:=ca m4 ⟨#[111,112,116,105,111,110]⟩ (.func (.func 106) #[.pointer (some ⟨b,0,none⟩)] #[]) (by rfl)
 have KF:=kZ.trans g5
 have hc5:v5.cell? ⟨p,0,none⟩=some (.pointer (some ⟨b,0,none⟩)):=by rw[cell_of_row _ _ _ _ _ _ ((KF.block p (zA h4).1 (by simp)).trans h4)];rfl
 obtain ⟨v6,r6,m6,g6⟩:=ca m5 ⟨#[115,101,114,118,105,99,101]⟩ (.func (.func 106) #[.pointer (some ⟨b,0,none⟩)] #[]) (by rfl)
 have ug:=KF.trans g6
 have hc6:v6.cell? ⟨p,0,none⟩=some (.pointer (some ⟨b,0,none⟩)):=by rw[cell_of_row _ _ _ _ _ _ ((ug.block p (zA h4).1 (by simp)).trans h4)];rfl
 obtain ⟨v7,r7,m7,g7⟩:=ca m6 ⟨#[101,120,116,101,110,100]⟩ (.func (.func 106) #[.pointer (some ⟨b,0,none⟩)] #[]) (by rfl)
 have sL:=ug.trans g7
 have Xq:v7.cell? ⟨p,0,none⟩=some (.pointer (some ⟨b,0,none⟩)):=by rw[cell_of_row _ _ _ _ _ _ ((sL.block p (zA h4).1 (by simp)).trans h4)];rfl
 have HE:Hid (Below p w0 v7∧aX p #[.pointer (some ⟨b,0,none⟩)] 74 (fun k=>p≤k) v7∧aX (p+1) #[.pointer (some ⟨g,0,none⟩)] 108 (fun k=>p≤k) v7∧iH (p+2) (px p b) (fun k=>p≤k) v7):=⟨hp ▸ eC.grown sL eC.size (fun k e=>by simp at e;omega),⟨(sL.block p (zA h4).1 (by simp)).trans h4,zD _⟩,⟨(sL.block (p+1) (zA h5).1 (by simp)).trans h5,by omega⟩,m7⟩
 have Xe:=@run_makeMap Tryz.prog
 rw[hp]
 clear N8 hP eC h4 h5 Ge m1 g1 lY m2 g2 lv m3 g3 cO m4 g4 kZ m5 g5 KF m6 g6 ug m7 g7 sL
 subst hp
 go_enter Tryz.func62,Tryz.ntmps62
 go_wp2
 go_ret
 exact ⟨rfl,aa HE⟩
end Go.Proofs.YtjophoclfccmcaaGreatDoor
