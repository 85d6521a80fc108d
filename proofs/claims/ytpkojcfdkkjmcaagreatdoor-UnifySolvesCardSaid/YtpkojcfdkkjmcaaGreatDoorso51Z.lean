/- The fixed fact of layer 12. -/
import Derived.Deep.RegionHeld3
import Derived.Test.YtpkojcfdkkjmcaaGreatDoorso49Z
namespace Go.Proofs.YtpkojcfdkkjmcaaGreatDoor
set_option maxRecDepth 100000
open Go.RowKit
abbrev oVa:Obj:=.cells #[.int .i64 0] 3
abbrev oVb (q:Nat):Obj:=.cells #[.int .i64 1,.string ⟨#[]⟩,.int .i64 0,.slice none 0 0,.int .i64 4,.string fSC,.int .i64 0,.slice (some ⟨q,0,none⟩) 1 1,.int .i64 2,.string aSC,.int .i64 0,.slice none 0 0,.int .i64 2,.string bSC,.int .i64 0,.slice none 0 0] 86
theorem gV_gr {w:World} {a b:Nat} (fa:w.heap[a]?=some oVa) (fb:w.heap[b]?=some (oVb a)):Gr w (.slice (some ⟨b,0,none⟩) 4 4) (.slice none 0 0) gV:=by
 refine⟨⟨some ⟨b,0,none⟩,4,rfl,fun j hj=>?_⟩,Ri.nil _⟩
 have hj2:j=0∨j=1∨j=2∨j=3:=by
  have:j<4:=hj
  omega
 rcases hj2 with rfl | rfl | rfl | rfl
 ·exact⟨b,0,.slice none 0 0,rfl,by simp[World.cell?,fb,gV],by simp[World.cell?,fb,gV],by simp[World.cell?,fb,gV],by simp[World.cell?,fb],Ri.nil _⟩
 ·exact⟨b,0,.slice (some ⟨a,0,none⟩) 1 1,rfl,by simp[World.cell?,fb,gV],by simp[World.cell?,fb,gV],by simp[World.cell?,fb,gV],by simp[World.cell?,fb],ri_lit1 fa⟩
 ·exact⟨b,0,.slice none 0 0,rfl,by simp[World.cell?,fb,gV],by simp[World.cell?,fb,gV],by simp[World.cell?,fb,gV],by simp[World.cell?,fb],Ri.nil _⟩
 ·exact⟨b,0,.slice none 0 0,rfl,by simp[World.cell?,fb,gV],by simp[World.cell?,fb,gV],by simp[World.cell?,fb,gV],by simp[World.cell?,fb],Ri.nil _⟩
theorem gV_sized:Sized gV:=by
 intro n hn
 have h:n=⟨1,⟨#[]⟩,0,[]⟩∨n=⟨4,fSC,0,[0]⟩∨n=⟨2,aSC,0,[]⟩∨n=⟨2,bSC,0,[]⟩:=by simpa[gV] using hn
 rcases h with rfl | rfl | rfl | rfl <;> decide
abbrev Skv (g i j:Nat) (x y:Int) (w:World):Prop:=w.cell? ⟨g,i,none⟩=some (.int .i64 x)/\w.cell? ⟨g,j,none⟩=some (.int .i64 y)
theorem skv_dr {g i j:Nat} {x y:Int} {w:World} (h:Skv g i j x y w):Skv g i j x y w.drew:=h
theorem few0:Few ⟨lV,nV,[],[],0⟩:=⟨by decide,by decide,by decide,by decide⟩
theorem ndV:nV.Nodup:=by decide
set_option maxHeartbeats 8000000 in
theorem ulives_any (w:World) :
  Calls Tryz.prog 6 #[] w fun e w'=>e=.returned (.bool true)/\Below w.heap.size w w':=by
 have hb2:Below w.heap.size w ((w.alloc oVa).alloc (oVb w.heap.size)):=(below_alloc w _).alloc (by simp) _
 have hG:Gr ((w.alloc oVa).alloc (oVb w.heap.size)) (.slice (some ⟨w.heap.size+1,0,none⟩) 4 4) (.slice none 0 0) gV:=by
  refine gV_gr (a:=w.heap.size) ((Below.heap_alloc _ _ _ (by simp)).trans (heap_alloc_new w _)) ?_
  have h9:=heap_alloc_new (w.alloc oVa) (oVb w.heap.size)
  rw[show (w.alloc oVa).heap.size=w.heap.size+1 by simp] at h9
  exact h9
 have hld:=hid (laid_ok hG gV_sized (by decide) 50 (by decide) (by decide) gV_put)
 rw[gV_hs,show gV.nodes.length=4 from rfl] at hld
 have Hb2:=hid hb2
 clear hG hb2
 go_enter Tryz.func6,Tryz.ntmps6
 go_wp2_with (go_at_call 29;refine hld.out.mono ?_;rintro e w1 ⟨⟨hb,F,ao,c,rfl,ho,hH,hF,hj,_⟩,hb1⟩;have HO:=hid ho;have HH:=hid hH;have HF:=hid hF;have HJ:=hid hj;have Hb1:=hid (Below.next Hb2.out hb1);have hBz:=hid hb1.size;clear ho hH hF hj hb1)
 obtain⟨g,rfl⟩:∃g,ao=some ⟨g,0,none⟩:=by
  rcases HO.out.2 with⟨h1,h2⟩ | ⟨g,cap,cur,h1,_⟩
  ·exact absurd h2 (by decide)
  ·injection h1 with h1 _ _
   exact⟨g,h1⟩
 have zg:=(HO.out.lt g rfl).2
 have e0:w1.cell? ⟨g,0,none⟩=some (.int .i64 0):=(HO.out.cellAt 0 (by decide)).trans rfl
 have e1:w1.cell? ⟨g,1,none⟩=some (.int .i64 1):=(HO.out.cellAt 1 (by decide)).trans rfl
 have e2:w1.cell? ⟨g,2,none⟩=some (.int .i64 2):=(HO.out.cellAt 2 (by decide)).trans rfl
 have e3:w1.cell? ⟨g,3,none⟩=some (.int .i64 3):=(HO.out.cellAt 3 (by decide)).trans rfl
 have hc4:4<=c:=by
  obtain⟨ao9,c9,e9,h9,_⟩:=own_slq HO.out
  injection e9 with _ _ e9
  omega
 have hu1:Hid (∀wx,Below w1.heap.size w1 wx->Calls Tryz.prog 38 #[.pointer (some ⟨hb,0,none⟩),.int .i64 2,.int .i64 3] wx fun e w'=>e=.returned (.tuple #[.bool false,.nilIface])/\Below wx.heap.size wx w'):=fun wx hbx=>(unify_any (HH.out.below hbx) HJ.out.si.now (by decide) ndV few0 (Nat.le_trans hBz.out hbx.size) cbV.2.2.1 cbV.2.2.2).mono fun e w' ⟨ok,h1,hy,hn⟩=>by
  cases ok with
  | true=>
   obtain⟨E,n,s',h2,_⟩:=hy rfl
   exact (noV h2).elim
  | false=>exact⟨h1,(hn rfl).2⟩
 have hu2:Hid (∀wx,Below w1.heap.size w1 wx->Calls Tryz.prog 38 #[.pointer (some ⟨hb,0,none⟩),.int .i64 0,.int .i64 1] wx fun e w'=>e=.returned (.tuple #[.bool true,.nilIface])/\Below w.heap.size wx w'/\∀i,w'.cell? ⟨g,i,none⟩=wx.cell? ⟨g,i,none⟩):=fun wx hbx=>(unify_any (HH.out.below hbx) HJ.out.si.now (by decide) ndV few0 (Nat.le_trans hBz.out hbx.size) cbV.1 cbV.2.1).mono fun e w' ⟨ok,h1,hy,hn⟩=>by
  cases ok with
  | true=>
   obtain⟨E,n,s',_,_,hm⟩:=hy rfl
   exact⟨h1,hm.below (fun k hk=>by have:=(HF.out k hk).1;simp at this;omega) (by have:=Hb1.out.size;have:=hbx.size;omega),fun i=>by
    have h9:=hm.block g (Nat.lt_of_lt_of_le zg hbx.size) (fun h8=>(HF.out g h8).2 rfl)
    simp[World.cell?,h9]⟩
  | false=>exact (yesV (hn rfl).1).elim
 clear hld HO HH HF HJ hBz
 go_cut [3,4] from 20 to 30 (fun s3 s4 wc=>s3=.bool false/\s4=.nilIface/\Hid (Below w1.heap.size w1 wc))
 case first=>
  go_region_held3 (fun w'=>Skv g 2 3 2 3 w') (first | (with_reducible exact⟨e2,e3⟩) | (with_reducible exact skv_dr ⟨e2,e3⟩))
   (first | (go_at_call 38;refine (hu1.out _ (by first | (with_reducible exact Below.refl _ _) | (with_reducible exact (Below.refl _ _).drew) | (with_reducible exact below_drewN (Below.refl _ _) _))).mono ?_;rintro e w2 ⟨rfl,hb2⟩;have Hb3:=hid hb2;clear hb2;have e2:=(Hb3.out.cell (p:=⟨g,2,none⟩) zg).trans e2;have e3:=(Hb3.out.cell (p:=⟨g,3,none⟩) zg).trans e3))
  all_goals go_wp2_with fail
  all_goals go_meet
  all_goals exact⟨rfl,rfl,hid (Below.next (Below.refl _ w1).drew Hb3.out)⟩
 case rest=>
  obtain⟨rfl,rfl,hW⟩:=hcut
  have d0:=(hW.out.cell (p:=⟨g,0,none⟩) zg).trans e0
  have d1:=(hW.out.cell (p:=⟨g,1,none⟩) zg).trans e1
  have zw:g<wc.heap.size:=Nat.lt_of_lt_of_le zg hW.out.size
  have hx1:=hid (hu2.out wc.drew hW.out.drew)
  clear e0 e1 e2 e3 hu1 hu2 zg
  go_wp2_with fail
  go_cut [5,6] from 31 to 41 (fun s5 s6 wx=>s5=.bool true/\s6=.nilIface/\Hid (Below w.heap.size wc.drew wx))
  case first=>
   go_region_held3 (fun w'=>Skv g 0 1 0 1 w') (first | (with_reducible exact⟨d0,d1⟩) | (with_reducible exact skv_dr ⟨d0,d1⟩))
    (first | (go_at_call 38;refine hx1.out.mono ?_;rintro e w2 ⟨rfl,hb2,hcl⟩;have Hb3:=hid hb2;have f0:=(hcl 0).trans d0;have f1:=(hcl 1).trans d1;clear d0 d1;have d0:=f0;have d1:=f1;clear hb2 hcl f0 f1))
   all_goals go_wp2_with fail
   all_goals go_meet
   all_goals exact⟨rfl,rfl,Hb3⟩
  case rest=>
   obtain⟨rfl,rfl,hX⟩:=hcut
   have hfin:=hid (Below.trans (Below.trans Hb1.out (hW.out.drew.mono (Nat.le_trans (by have:=Hb1.out.size;omega) (Nat.le_refl _)))) hX.out)
   go_wp2
   go_ret
   exact⟨rfl,hfin.out⟩
end Go.Proofs.YtpkojcfdkkjmcaaGreatDoor
