import Derived.Test.YtjophoclfccmcaaGreatDoorM21
set_option maxHeartbeats 4000000
set_option maxRecDepth 100000
namespace Go.Proofs.YtjophoclfccmcaaGreatDoor
open Go.RowKit
attribute [local go_sem ↓] Go.wp_at_zero Go.wp_at_succ
def lC (p b:Nat):List (ByteArray×Value):=[(⟨#[114,101,115,101,114,118,101,100]⟩,.func (.func 156) #[] #[.pointer (some ⟨p,0,none⟩),.pointer (some ⟨p+1,0,none⟩)]),(⟨#[111,112,116,105,111,110]⟩,.func (.func 106) #[.pointer (some ⟨b,0,none⟩)] #[])]
theorem Fg (w0:World) (b g:Nat):Calls Tryz.prog 128 #[.pointer (some ⟨b,0,none⟩),.pointer (some ⟨g,0,none⟩)] w0 fun e w=>e=.returned (.map (some (w0.heap.size+2)))∧Below w0.heap.size w0 w∧aW w0.heap.size #[.pointer (some ⟨b,0,none⟩)] 74 (fun k=>w0.heap.size≤k) w∧aW (w0.heap.size+1) #[.pointer (some ⟨g,0,none⟩)] 161 (fun k=>w0.heap.size≤k) w∧iJ (w0.heap.size+2) (lC w0.heap.size b) (fun k=>w0.heap.size≤k) w:=by
 obtain ⟨p,hp⟩:∃p,w0.heap.size=p:=⟨_,rfl⟩
 have Oj:=qP ((w0.alloc (.cells #[.pointer (some ⟨b,0,none⟩)] 74)).alloc (.cells #[.pointer (some ⟨g,0,none⟩)] 161))
 have eK:Below w0.heap.size w0 (((w0.alloc (.cells #[.pointer (some ⟨b,0,none⟩)] 74)).alloc (.cells #[.pointer (some ⟨g,0,none⟩)] 161)).alloc (.map #[] 0)):=(((zE _ _).alloc (zD _) _).alloc (by simp only[zJ];omega) _).alloc (by simp only[zJ];omega) _
 have h4:(((w0.alloc (.cells #[.pointer (some ⟨b,0,none⟩)] 74)).alloc (.cells #[.pointer (some ⟨g,0,none⟩)] 161)).alloc (.map #[] 0)).heap[p]?=some (.cells #[.pointer (some ⟨b,0,none⟩)] 74 (0,0)):=by
  rw[←hp,Below.heap_alloc _ _ _ (by simp only[zJ];omega),Below.heap_alloc _ _ _ (by simp only[zJ];omega)]
  exact aH _ _
 have h5:(((w0.alloc (.cells #[.pointer (some ⟨b,0,none⟩)] 74)).alloc (.cells #[.pointer (some ⟨g,0,none⟩)] 161)).alloc (.map #[] 0)).heap[p+1]?=some (.cells #[.pointer (some ⟨g,0,none⟩)] 161 (0,0)):=by
  rw[←hp,Below.heap_alloc _ _ _ (by simp only[zJ];omega)]
  have:=aH (w0.alloc (.cells #[.pointer (some ⟨b,0,none⟩)] 74)) (.cells #[.pointer (some ⟨g,0,none⟩)] 161)
  simpa only[zJ] using this
 simp only[zJ,hp,Nat.add_assoc,Nat.reduceAdd] at Oj
 have hc0:(((w0.alloc (.cells #[.pointer (some ⟨b,0,none⟩)] 74)).alloc (.cells #[.pointer (some ⟨g,0,none⟩)] 161)).alloc (.map #[] 0)).cell? ⟨p,0,none⟩=some (.pointer (some ⟨b,0,none⟩)):=by rw[cell_of_row _ _ _ _ _ _ h4];rfl
 have hP:iJ (p+2) [] (fun k=>p≤k) (((w0.alloc (.cells #[.pointer (some ⟨b,0,none⟩)] 74)).alloc (.cells #[.pointer (some ⟨g,0,none⟩)] 161)).alloc (.map #[] 0)):=⟨Oj.1,by omega⟩
 have F9:(((w0.alloc (.cells #[.pointer (some ⟨b,0,none⟩)] 74)).alloc (.cells #[.pointer (some ⟨g,0,none⟩)] 161)).alloc (.map #[] 0)).grownBy (((w0.alloc (.cells #[.pointer (some ⟨b,0,none⟩)] 74)).alloc (.cells #[.pointer (some ⟨g,0,none⟩)] 161)).alloc (.map #[] 0)) (some (p+2)):=zI _ _
 obtain ⟨v1,r1,m1,g1⟩:=ca hP ⟨#[114,101,115,101,114,118,101,100]⟩ (.func (.func 156) #[] #[.pointer (some ⟨p,0,none⟩),.pointer (some ⟨p+1,0,none⟩)]) (by rfl)
 have l8:=F9.trans g1
 have pN:v1.cell? ⟨p,0,none⟩=some (.pointer (some ⟨b,0,none⟩)):=by rw[cell_of_row _ _ _ _ _ _ ((l8.block p (zA h4).1 (by simp)).trans h4)];rfl
 obtain ⟨v2,r2,m2,g2⟩:=ca m1 ⟨#[111,112,116,105,111,110]⟩ (.func (.func 106) #[.pointer (some ⟨b,0,none⟩)] #[]) (by rfl)
 have lz:=l8.trans g2
 have fh:v2.cell? ⟨p,0,none⟩=some (.pointer (some ⟨b,0,none⟩)):=by rw[cell_of_row _ _ _ _ _ _ ((lz.block p (zA h4).1 (by simp)).trans h4)];rfl
 have HE:Hid (Below p w0 v2∧aW p #[.pointer (some ⟨b,0,none⟩)] 74 (fun k=>p≤k) v2∧aW (p+1) #[.pointer (some ⟨g,0,none⟩)] 161 (fun k=>p≤k) v2∧iJ (p+2) (lC p b) (fun k=>p≤k) v2):=⟨hp ▸ eK.grown lz eK.size (fun k e=>by simp at e;omega),⟨(lz.block p (zA h4).1 (by simp)).trans h4,zD _⟩,⟨(lz.block (p+1) (zA h5).1 (by simp)).trans h5,by omega⟩,m2⟩
 have Qm:=@run_makeMap Tryz.prog
 rw[hp]
 clear Oj hP eK h4 h5 F9 m1 g1 l8 m2 g2 lz
 subst hp
 go_enter Tryz.func128,Tryz.ntmps128
 go_wp2
 go_ret
 exact ⟨rfl,aa HE⟩
def jT (b:Nat):List (ByteArray×Value):=[(⟨#[111,112,116,105,111,110]⟩,.func (.func 106) #[.pointer (some ⟨b,0,none⟩)] #[]),(⟨#[103,114,111,117,112]⟩,.func (.func 106) #[.pointer (some ⟨b,0,none⟩)] #[]),(⟨#[111,112,116,105,111,110,97,108]⟩,.func (.func 106) #[.pointer (some ⟨b,0,none⟩)] #[]),(⟨#[114,101,112,101,97,116,101,100]⟩,.func (.func 106) #[.pointer (some ⟨b,0,none⟩)] #[]),(⟨#[114,101,113,117,105,114,101,100]⟩,.func (.func 106) #[.pointer (some ⟨b,0,none⟩)] #[]),(⟨#[111,110,101,111,102]⟩,.func (.func 106) #[.pointer (some ⟨b,0,none⟩)] #[]),(⟨#[109,101,115,115,97,103,101]⟩,.func (.func 106) #[.pointer (some ⟨b,0,none⟩)] #[]),(⟨#[101,110,117,109]⟩,.func (.func 106) #[.pointer (some ⟨b,0,none⟩)] #[]),(⟨#[114,101,115,101,114,118,101,100]⟩,.func (.func 106) #[.pointer (some ⟨b,0,none⟩)] #[])]
theorem Ej (w0:World) (b:Nat):Calls Tryz.prog 169 #[.pointer (some ⟨b,0,none⟩)] w0 fun e w=>e=.returned (.map (some w0.heap.size))∧Below w0.heap.size w0 w∧iJ w0.heap.size (jT b) (fun k=>w0.heap.size≤k) w:=by
 have eK:Below w0.heap.size w0 (w0.alloc (.map #[] 0)):=(zE _ _).alloc (zD _) _
 have hP:=qP w0
 have F9:(w0.alloc (.map #[] 0)).grownBy (w0.alloc (.map #[] 0)) (some w0.heap.size):=zI _ _
 obtain ⟨v1,r1,m1,g1⟩:=ca hP ⟨#[111,112,116,105,111,110]⟩ (.func (.func 106) #[.pointer (some ⟨b,0,none⟩)] #[]) (by rfl)
 have l8:=F9.trans g1
 obtain ⟨v2,r2,m2,g2⟩:=ca m1 ⟨#[103,114,111,117,112]⟩ (.func (.func 106) #[.pointer (some ⟨b,0,none⟩)] #[]) (by rfl)
 have lz:=l8.trans g2
 obtain ⟨v3,r3,m3,g3⟩:=ca m2 ⟨#[111,112,116,105,111,110,97,108]⟩ (.func (.func 106) #[.pointer (some ⟨b,0,none⟩)] #[]) (by rfl)
 have cN:=lz.trans g3
 obtain ⟨v4,r4,m4,g4⟩:=ca m3 ⟨#[114,101,112,101,97,116,101,100]⟩ (.func (.func 106) #[.pointer (some ⟨b,0,none⟩)] #[]) (by rfl)
 have ld:=cN.trans g4
 obtain ⟨v5,r5,m5,g5⟩:=ca m4 ⟨#[114,101,113,117,105,114,101,100]⟩ (.func (.func 106) #[.pointer (some ⟨b,0,none⟩)] #[]) (by rfl)
 have KD:=ld.trans g5
 obtain ⟨v6,r6,m6,g6⟩:=ca m5 ⟨#[111,110,101,111,102]⟩ (.func (.func 106) #[.pointer (some ⟨b,0,none⟩)] #[]) (by rfl)
 have uk:=KD.trans g6
 obtain ⟨v7,r7,m7,g7⟩:=ca m6 ⟨#[109,101,115,115,97,103,101]⟩ (.func (.func 106) #[.pointer (some ⟨b,0,none⟩)] #[]) (by rfl)
 have sO:=uk.trans g7
 obtain ⟨v8,r8,m8,g8⟩:=ca m7 ⟨#[101,110,117,109]⟩ (.func (.func 106) #[.pointer (some ⟨b,0,none⟩)] #[]) (by rfl)
 have XD:=sO.trans g8
 obtain ⟨v9,r9,m9,g9⟩:=ca m8 ⟨#[114,101,115,101,114,118,101,100]⟩ (.func (.func 106) #[.pointer (some ⟨b,0,none⟩)] #[]) (by rfl)
 have tN:=XD.trans g9
 have HE:Hid (Below w0.heap.size w0 v9∧iJ w0.heap.size (jT b) (fun k=>w0.heap.size≤k) v9):=⟨eK.grown tN eK.size (fun k e=>by simp at e;omega),m9⟩
 have Qm:=@run_makeMap Tryz.prog
 clear hP eK F9 m1 g1 l8 m2 g2 lz m3 g3 cN m4 g4 ld m5 g5 KD m6 g6 uk m7 g7 sO m8 g8 XD m9 g9 tN
 go_enter Tryz.func169,Tryz.ntmps169
 go_wp2
 go_ret
 exact ⟨rfl,aa HE⟩
def jH (p b:Nat):List (ByteArray×Value):=[(⟨#[109,101,115,115,97,103,101]⟩,.func (.func 144) #[] #[.pointer (some ⟨p+1,0,none⟩),.pointer (some ⟨p,0,none⟩)]),(⟨#[101,110,117,109]⟩,.func (.func 145) #[] #[.pointer (some ⟨p+1,0,none⟩),.pointer (some ⟨p,0,none⟩)]),(⟨#[111,110,101,111,102]⟩,.func (.func 146) #[] #[.pointer (some ⟨p,0,none⟩),.pointer (some ⟨p+1,0,none⟩)]),(⟨#[114,101,115,101,114,118,101,100]⟩,.func (.func 148) #[] #[.pointer (some ⟨p,0,none⟩),.pointer (some ⟨p+1,0,none⟩)]),(⟨#[111,112,116,105,111,110,97,108]⟩,.func (.func 150) #[] #[.pointer (some ⟨p+1,0,none⟩),.pointer (some ⟨p,0,none⟩)]),(⟨#[114,101,112,101,97,116,101,100]⟩,.func (.func 152) #[] #[.pointer (some ⟨p+1,0,none⟩),.pointer (some ⟨p,0,none⟩)]),(⟨#[109,97,112]⟩,.func (.func 153) #[] #[.pointer (some ⟨p+1,0,none⟩),.pointer (some ⟨p,0,none⟩)]),(⟨#[111,112,116,105,111,110]⟩,.func (.func 106) #[.pointer (some ⟨b,0,none⟩)] #[]),(⟨#[101,120,116,101,110,100]⟩,.func (.func 106) #[.pointer (some ⟨b,0,none⟩)] #[]),(⟨#[101,120,116,101,110,115,105,111,110,115]⟩,.func (.func 106) #[.pointer (some ⟨b,0,none⟩)] #[]),(⟨#[103,114,111,117,112]⟩,.func (.func 106) #[.pointer (some ⟨b,0,none⟩)] #[]),(⟨#[114,101,113,117,105,114,101,100]⟩,.func (.func 106) #[.pointer (some ⟨b,0,none⟩)] #[])]
theorem DG (w0:World) (b g:Nat):Calls Tryz.prog 125 #[.pointer (some ⟨b,0,none⟩),.pointer (some ⟨g,0,none⟩)] w0 fun e w=>e=.returned (.map (some (w0.heap.size+2)))∧Below w0.heap.size w0 w∧aW w0.heap.size #[.pointer (some ⟨b,0,none⟩)] 74 (fun k=>w0.heap.size≤k) w∧aW (w0.heap.size+1) #[.pointer (some ⟨g,0,none⟩)] 158 (fun k=>w0.heap.size≤k) w∧iJ (w0.heap.size+2) (jH w0.heap.size b) (fun k=>w0.heap.size≤k) w:=by
 obtain ⟨p,hp⟩:∃p,w0.heap.size=p:=⟨_,rfl⟩
 have Oj:=qP ((w0.alloc (.cells #[.pointer (some ⟨b,0,none⟩)] 74)).alloc (.cells #[.pointer (some ⟨g,0,none⟩)] 158))
 have eK:Below w0.heap.size w0 (((w0.alloc (.cells #[.pointer (some ⟨b,0,none⟩)] 74)).alloc (.cells #[.pointer (some ⟨g,0,none⟩)] 158)).alloc (.map #[] 0)):=(((zE _ _).alloc (zD _) _).alloc (by simp only[zJ];omega) _).alloc (by simp only[zJ];omega) _
 have h4:(((w0.alloc (.cells #[.pointer (some ⟨b,0,none⟩)] 74)).alloc (.cells #[.pointer (some ⟨g,0,none⟩)] 158)).alloc (.map #[] 0)).heap[p]?=some (.cells #[.pointer (some ⟨b,0,none⟩)] 74 (0,0)):=by
  rw[←hp,Below.heap_alloc _ _ _ (by simp only[zJ];omega),Below.heap_alloc _ _ _ (by simp only[zJ];omega)]
  exact aH _ _
 have h5:(((w0.alloc (.cells #[.pointer (some ⟨b,0,none⟩)] 74)).alloc (.cells #[.pointer (some ⟨g,0,none⟩)] 158)).alloc (.map #[] 0)).heap[p+1]?=some (.cells #[.pointer (some ⟨g,0,none⟩)] 158 (0,0)):=by
  rw[←hp,Below.heap_alloc _ _ _ (by simp only[zJ];omega)]
  have:=aH (w0.alloc (.cells #[.pointer (some ⟨b,0,none⟩)] 74)) (.cells #[.pointer (some ⟨g,0,none⟩)] 158)
  simpa only[zJ] using this
 simp only[zJ,hp,Nat.add_assoc,Nat.reduceAdd] at Oj
 have hc0:(((w0.alloc (.cells #[.pointer (some ⟨b,0,none⟩)] 74)).alloc (.cells #[.pointer (some ⟨g,0,none⟩)] 158)).alloc (.map #[] 0)).cell? ⟨p,0,none⟩=some (.pointer (some ⟨b,0,none⟩)):=by rw[cell_of_row _ _ _ _ _ _ h4];rfl
 have hP:iJ (p+2) [] (fun k=>p≤k) (((w0.alloc (.cells #[.pointer (some ⟨b,0,none⟩)] 74)).alloc (.cells #[.pointer (some ⟨g,0,none⟩)] 158)).alloc (.map #[] 0)):=⟨Oj.1,by omega⟩
 have F9:(((w0.alloc (.cells #[.pointer (some ⟨b,0,none⟩)] 74)).alloc (.cells #[.pointer (some ⟨g,0,none⟩)] 158)).alloc (.map #[] 0)).grownBy (((w0.alloc (.cells #[.pointer (some ⟨b,0,none⟩)] 74)).alloc (.cells #[.pointer (some ⟨g,0,none⟩)] 158)).alloc (.map #[] 0)) (some (p+2)):=zI _ _
 obtain ⟨v1,r1,m1,g1⟩:=ca hP ⟨#[109,101,115,115,97,103,101]⟩ (.func (.func 144) #[] #[.pointer (some ⟨p+1,0,none⟩),.pointer (some ⟨p,0,none⟩)]) (by rfl)
 have l8:=F9.trans g1
 have pN:v1.cell? ⟨p,0,none⟩=some (.pointer (some ⟨b,0,none⟩)):=by rw[cell_of_row _ _ _ _ _ _ ((l8.block p (zA h4).1 (by simp)).trans h4)];rfl
 obtain ⟨v2,r2,m2,g2⟩:=ca m1 ⟨#[101,110,117,109]⟩ (.func (.func 145) #[] #[.pointer (some ⟨p+1,0,none⟩),.pointer (some ⟨p,0,none⟩)]) (by rfl)
 have lz:=l8.trans g2
 have fh:v2.cell? ⟨p,0,none⟩=some (.pointer (some ⟨b,0,none⟩)):=by rw[cell_of_row _ _ _ _ _ _ ((lz.block p (zA h4).1 (by simp)).trans h4)];rfl
 obtain ⟨v3,r3,m3,g3⟩:=ca m2 ⟨#[111,110,101,111,102]⟩ (.func (.func 146) #[] #[.pointer (some ⟨p,0,none⟩),.pointer (some ⟨p+1,0,none⟩)]) (by rfl)
 have cN:=lz.trans g3
 have px:v3.cell? ⟨p,0,none⟩=some (.pointer (some ⟨b,0,none⟩)):=by rw[cell_of_row _ _ _ _ _ _ ((cN.block p (zA h4).1 (by simp)).trans h4)];rfl
 obtain ⟨v4,r4,m4,g4⟩:=ca m3 ⟨#[114,101,115,101,114,118,101,100]⟩ (.func (.func 148) #[] #[.pointer (some ⟨p,0,none⟩),.pointer (some ⟨p+1,0,none⟩)]) (by rfl)
 have ld:=cN.trans g4
 have hc4:v4.cell? ⟨p,0,none⟩=some (.pointer (some ⟨b,0,none⟩)):=by rw[cell_of_row _ _ _ _ _ _ ((ld.block p (zA h4).1 (by simp)).trans h4)];rfl
 obtain ⟨v5,r5,m5,g5⟩:=ca m4 ⟨#[111,112,116,105,111,110,97,108]⟩ (.func (.func 150) #[] #[.pointer (some ⟨p+1,0,none⟩),.pointer (some ⟨p,0,none⟩)]) (by rfl)
 have KD:=ld.trans g5
 have hc5:v5.cell? ⟨p,0,none⟩=some (.pointer (some ⟨b,0,none⟩)):=by rw[cell_of_row _ _ _ _ _ _ ((KD.block p (zA h4).1 (by simp)).trans h4)];rfl
 obtain ⟨v6,r6,m6,g6⟩:=ca m5 ⟨#[114,101,112,101,97,116,101,100]⟩ (.func (.func 152) #[] #[.pointer (some ⟨p+1,0,none⟩),.pointer (some ⟨p,0,none⟩)]) (by rfl)
 have uk:=KD.trans g6
 have hc6:v6.cell? ⟨p,0,none⟩=some (.pointer (some ⟨b,0,none⟩)):=by rw[cell_of_row _ _ _ _ _ _ ((uk.block p (zA h4).1 (by simp)).trans h4)];rfl
 obtain ⟨v7,r7,m7,g7⟩:=ca m6 ⟨#[109,97,112]⟩ (.func (.func 153) #[] #[.pointer (some ⟨p+1,0,none⟩),.pointer (some ⟨p,0,none⟩)]) (by rfl)
 have sO:=uk.trans g7
 have XI:v7.cell? ⟨p,0,none⟩=some (.pointer (some ⟨b,0,none⟩)):=by rw[cell_of_row _ _ _ _ _ _ ((sO.block p (zA h4).1 (by simp)).trans h4)];rfl
 obtain ⟨v8,r8,m8,g8⟩:=ca m7 ⟨#[111,112,116,105,111,110]⟩ (.func (.func 106) #[.pointer (some ⟨b,0,none⟩)] #[]) (by rfl)
 have XD:=sO.trans g8
 have hc8:v8.cell? ⟨p,0,none⟩=some (.pointer (some ⟨b,0,none⟩)):=by rw[cell_of_row _ _ _ _ _ _ ((XD.block p (zA h4).1 (by simp)).trans h4)];rfl
 obtain ⟨v9,r9,m9,g9⟩:=ca m8 ⟨#[101,120,116,101,110,100]⟩ (.func (.func 106) #[.pointer (some ⟨b,0,none⟩)] #[]) (by rfl)
 have tN:=XD.trans g9
 have hc9:v9.cell? ⟨p,0,none⟩=some (.pointer (some ⟨b,0,none⟩)):=by rw[cell_of_row _ _ _ _ _ _ ((tN.block p (zA h4).1 (by simp)).trans h4)];rfl
 obtain ⟨v10,r10,m10,g10⟩:=ca m9 ⟨#[101,120,116,101,110,115,105,111,110,115]⟩ (.func (.func 106) #[.pointer (some ⟨b,0,none⟩)] #[]) (by rfl)
 have VH:=tN.trans g10
 have adF:v10.cell? ⟨p,0,none⟩=some (.pointer (some ⟨b,0,none⟩)):=by rw[cell_of_row _ _ _ _ _ _ ((VH.block p (zA h4).1 (by simp)).trans h4)];rfl
 obtain ⟨v11,r11,m11,g11⟩:=ca m10 ⟨#[103,114,111,117,112]⟩ (.func (.func 106) #[.pointer (some ⟨b,0,none⟩)] #[]) (by rfl)
 have VG:=VH.trans g11
 have adE:v11.cell? ⟨p,0,none⟩=some (.pointer (some ⟨b,0,none⟩)):=by rw[cell_of_row _ _ _ _ _ _ ((VG.block p (zA h4).1 (by simp)).trans h4)];rfl
 obtain ⟨v12,r12,m12,g12⟩:=ca m11 ⟨#[114,101,113,117,105,114,101,100]⟩ (.func (.func 106) #[.pointer (some ⟨b,0,none⟩)] #[]) (by rfl)
 have Ol:=VG.trans g12
 have adD:v12.cell? ⟨p,0,none⟩=some (.pointer (some ⟨b,0,none⟩)):=by rw[cell_of_row _ _ _ _ _ _ ((Ol.block p (zA h4).1 (by simp)).trans h4)];rfl
 have HE:Hid (Below p w0 v12∧aW p #[.pointer (some ⟨b,0,none⟩)] 74 (fun k=>p≤k) v12∧aW (p+1) #[.pointer (some ⟨g,0,none⟩)] 158 (fun k=>p≤k) v12∧iJ (p+2) (jH p b) (fun k=>p≤k) v12):=⟨hp ▸ eK.grown Ol eK.size (fun k e=>by simp at e;omega),⟨(Ol.block p (zA h4).1 (by simp)).trans h4,zD _⟩,⟨(Ol.block (p+1) (zA h5).1 (by simp)).trans h5,by omega⟩,m12⟩
 have Qm:=@run_makeMap Tryz.prog
 rw[hp]
 clear Oj hP eK h4 h5 F9 m1 g1 l8 m2 g2 lz m3 g3 cN m4 g4 ld m5 g5 KD m6 g6 uk m7 g7 sO m8 g8 XD m9 g9 tN m10 g10 VH m11 g11 VG m12 g12 Ol
 subst hp
 go_enter Tryz.func125,Tryz.ntmps125
 go_wp2
 go_ret
 exact ⟨rfl,aa HE⟩
def pD (p b:Nat):List (ByteArray×Value):=[(⟨#[112,97,99,107,97,103,101]⟩,.func (.func 98) #[] #[.pointer (some ⟨p,0,none⟩),.pointer (some ⟨p+1,0,none⟩)]),(⟨#[105,109,112,111,114,116]⟩,.func (.func 100) #[] #[.pointer (some ⟨p+1,0,none⟩),.pointer (some ⟨p,0,none⟩)]),(⟨#[109,101,115,115,97,103,101]⟩,.func (.func 102) #[] #[.pointer (some ⟨p+1,0,none⟩),.pointer (some ⟨p,0,none⟩)]),(⟨#[101,110,117,109]⟩,.func (.func 104) #[] #[.pointer (some ⟨p+1,0,none⟩),.pointer (some ⟨p,0,none⟩)]),(⟨#[111,112,116,105,111,110]⟩,.func (.func 106) #[.pointer (some ⟨b,0,none⟩)] #[]),(⟨#[115,101,114,118,105,99,101]⟩,.func (.func 106) #[.pointer (some ⟨b,0,none⟩)] #[]),(⟨#[101,120,116,101,110,100]⟩,.func (.func 106) #[.pointer (some ⟨b,0,none⟩)] #[])]
theorem L4 (w0:World) (b g:Nat):Calls Tryz.prog 62 #[.pointer (some ⟨b,0,none⟩),.pointer (some ⟨g,0,none⟩)] w0 fun e w=>e=.returned (.map (some (w0.heap.size+2)))∧Below w0.heap.size w0 w∧aW w0.heap.size #[.pointer (some ⟨b,0,none⟩)] 74 (fun k=>w0.heap.size≤k) w∧aW (w0.heap.size+1) #[.pointer (some ⟨g,0,none⟩)] 108 (fun k=>w0.heap.size≤k) w∧iJ (w0.heap.size+2) (pD w0.heap.size b) (fun k=>w0.heap.size≤k) w:=by
 obtain ⟨p,hp⟩:∃p,w0.heap.size=p:=⟨_,rfl⟩
 have Oj:=qP ((w0.alloc (.cells #[.pointer (some ⟨b,0,none⟩)] 74)).alloc (.cells #[.pointer (some ⟨g,0,none⟩)] 108))
 have eK:Below w0.heap.size w0 (((w0.alloc (.cells #[.pointer (some ⟨b,0,none⟩)] 74)).alloc (.cells #[.pointer (some ⟨g,0,none⟩)] 108)).alloc (.map #[] 0)):=(((zE _ _).alloc (zD _) _).alloc (by simp only[zJ];omega) _).alloc (by simp only[zJ];omega) _
 have h4:(((w0.alloc (.cells #[.pointer (some ⟨b,0,none⟩)] 74)).alloc (.cells #[.pointer (some ⟨g,0,none⟩)] 108)).alloc (.map #[] 0)).heap[p]?=some (.cells #[.pointer (some ⟨b,0,none⟩)] 74 (0,0)):=by
  rw[←hp,Below.heap_alloc _ _ _ (by simp only[zJ];omega),Below.heap_alloc _ _ _ (by simp only[zJ];omega)]
  exact aH _ _
 have h5:(((w0.alloc (.cells #[.pointer (some ⟨b,0,none⟩)] 74)).alloc (.cells #[.pointer (some ⟨g,0,none⟩)] 108)).alloc (.map #[] 0)).heap[p+1]?=some (.cells #[.pointer (some ⟨g,0,none⟩)] 108 (0,0)):=by
  rw[←hp,Below.heap_alloc _ _ _ (by simp only[zJ];omega)]
  have:=aH (w0.alloc (.cells #[.pointer (some ⟨b,0,none⟩)] 74)) (.cells #[.pointer (some ⟨g,0,none⟩)] 108)
  simpa only[zJ] using this
 simp only[zJ,hp,Nat.add_assoc,Nat.reduceAdd] at Oj
 have hc0:(((w0.alloc (.cells #[.pointer (some ⟨b,0,none⟩)] 74)).alloc (.cells #[.pointer (some ⟨g,0,none⟩)] 108)).alloc (.map #[] 0)).cell? ⟨p,0,none⟩=some (.pointer (some ⟨b,0,none⟩)):=by rw[cell_of_row _ _ _ _ _ _ h4];rfl
 have hP:iJ (p+2) [] (fun k=>p≤k) (((w0.alloc (.cells #[.pointer (some ⟨b,0,none⟩)] 74)).alloc (.cells #[.pointer (some ⟨g,0,none⟩)] 108)).alloc (.map #[] 0)):=⟨Oj.1,by omega⟩
 have F9:(((w0.alloc (.cells #[.pointer (some ⟨b,0,none⟩)] 74)).alloc (.cells #[.pointer (some ⟨g,0,none⟩)] 108)).alloc (.map #[] 0)).grownBy (((w0.alloc (.cells #[.pointer (some ⟨b,0,none⟩)] 74)).alloc (.cells #[.pointer (some ⟨g,0,none⟩)] 108)).alloc (.map #[] 0)) (some (p+2)):=zI _ _
 obtain ⟨v1,r1,m1,g1⟩:=ca hP ⟨#[112,97,99,107,97,103,101]⟩ (.func (.func 98) #[] #[.pointer (some ⟨p,0,none⟩),.pointer (some ⟨p+1,0,none⟩)]) (by rfl)
 have l8:=F9.trans g1
 have pN:v1.cell? ⟨p,0,none⟩=some (.pointer (some ⟨b,0,none⟩)):=by rw[cell_of_row _ _ _ _ _ _ ((l8.block p (zA h4).1 (by simp)).trans h4)];rfl
 obtain ⟨v2,r2,m2,g2⟩:=ca m1 ⟨#[105,109,112,111,114,116]⟩ (.func (.func 100) #[] #[.pointer (some ⟨p+1,0,none⟩),.pointer (some ⟨p,0,none⟩)]) (by rfl)
 have lz:=l8.trans g2
 have fh:v2.cell? ⟨p,0,none⟩=some (.pointer (some ⟨b,0,none⟩)):=by rw[cell_of_row _ _ _ _ _ _ ((lz.block p (zA h4).1 (by simp)).trans h4)];rfl
 obtain ⟨v3,r3,m3,g3⟩:=ca m2 ⟨#[109,101,115,115,97,103,101]⟩ (.func (.func 102) #[] #[.pointer (some ⟨p+1,0,none⟩),.pointer (some ⟨p,0,none⟩)]) (by rfl)
 have cN:=lz.trans g3
 have px:v3.cell? ⟨p,0,none⟩=some (.pointer (some ⟨b,0,none⟩)):=by rw[cell_of_row _ _ _ _ _ _ ((cN.block p (zA h4).1 (by simp)).trans h4)];rfl
 obtain ⟨v4,r4,m4,g4⟩:=ca m3 ⟨#[101,110,117,109]⟩ (.func (.func 104) #[] #[.pointer (some ⟨p+1,0,none⟩),.pointer (some ⟨p,0,none⟩)]) (by rfl)
 have ld:=cN.trans g4
 have hc4:v4.cell? ⟨p,0,none⟩=some (.pointer (some ⟨b,0,none⟩)):=by rw[cell_of_row _ _ _ _ _ _ ((ld.block p (zA h4).1 (by simp)).trans h4)];rfl
 obtain ⟨v5,r5,m5,g5⟩:=ca m4 ⟨#[111,112,116,105,111,110]⟩ (.func (.func 106) #[.pointer (some ⟨b,0,none⟩)] #[]) (by rfl)
 have KD:=ld.trans g5
 have hc5:v5.cell? ⟨p,0,none⟩=some (.pointer (some ⟨b,0,none⟩)):=by rw[cell_of_row _ _ _ _ _ _ ((KD.block p (zA h4).1 (by simp)).trans h4)];rfl
 obtain ⟨v6,r6,m6,g6⟩:=ca m5 ⟨#[115,101,114,118,105,99,101]⟩ (.func (.func 106) #[.pointer (some ⟨b,0,none⟩)] #[]) (by rfl)
 have uk:=KD.trans g6
 have hc6:v6.cell? ⟨p,0,none⟩=some (.pointer (some ⟨b,0,none⟩)):=by rw[cell_of_row _ _ _ _ _ _ ((uk.block p (zA h4).1 (by simp)).trans h4)];rfl
 obtain ⟨v7,r7,m7,g7⟩:=ca m6 ⟨#[101,120,116,101,110,100]⟩ (.func (.func 106) #[.pointer (some ⟨b,0,none⟩)] #[]) (by rfl)
 have sO:=uk.trans g7
 have XI:v7.cell? ⟨p,0,none⟩=some (.pointer (some ⟨b,0,none⟩)):=by rw[cell_of_row _ _ _ _ _ _ ((sO.block p (zA h4).1 (by simp)).trans h4)];rfl
 have HE:Hid (Below p w0 v7∧aW p #[.pointer (some ⟨b,0,none⟩)] 74 (fun k=>p≤k) v7∧aW (p+1) #[.pointer (some ⟨g,0,none⟩)] 108 (fun k=>p≤k) v7∧iJ (p+2) (pD p b) (fun k=>p≤k) v7):=⟨hp ▸ eK.grown sO eK.size (fun k e=>by simp at e;omega),⟨(sO.block p (zA h4).1 (by simp)).trans h4,zD _⟩,⟨(sO.block (p+1) (zA h5).1 (by simp)).trans h5,by omega⟩,m7⟩
 have Qm:=@run_makeMap Tryz.prog
 rw[hp]
 clear Oj hP eK h4 h5 F9 m1 g1 l8 m2 g2 lz m3 g3 cN m4 g4 ld m5 g5 KD m6 g6 uk m7 g7 sO
 subst hp
 go_enter Tryz.func62,Tryz.ntmps62
 go_wp2
 go_ret
 exact ⟨rfl,aa HE⟩
end Go.Proofs.YtjophoclfccmcaaGreatDoor
