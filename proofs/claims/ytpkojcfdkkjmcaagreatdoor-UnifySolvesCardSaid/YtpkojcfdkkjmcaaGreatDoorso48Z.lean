/- Package unify: join. -/
import Derived.Test.YtpkojcfdkkjmcaaGreatDoorso47Z
import Derived.Test.YtpkojcfdkkjmcaaGreatDoorso08Z
namespace Go.Proofs.YtpkojcfdkkjmcaaGreatDoor
set_option maxRecDepth 100000
open Go.RowKit Go.Maps
section
variable {W w0 w1:World} {l:List Int} {V:Nat->Bool} {nm:List ByteArray} {B hb ub mq:Nat} {ledv tdv:Value} {ls:List (Nat×Value)} {td:List (Nat×Nat)} {L:List Nat} {E:Nat->Nat} {P:List (Nat×Nat)} {a b:Nat}
set_option maxHeartbeats 8000000 in
theorem ujoin_any (hH:Uh W B hb l nm) (hnd:nm.Nodup) (h:Um W l nm hb ub mq ledv tdv ls td L w0) (hE:Ld L E) (hJ:Jn l nm P E ls [] 0) (ha:a<l.length/\cellB l (a:Int)=true) (hb2:b<l.length/\cellB l (b:Int)=true) :
  Calls Tryz.prog 115 #[.pointer (some ⟨ub,0,none⟩),.agg #[.int .i64 (a:Int),.int .i64 (b:Int)]] w0 fun e w'=>∃(ok:Bool) (ledv' tdv':Value) (ls':List (Nat×Value)) (td':List (Nat×Nat)) (L':List Nat) (E':Nat->Nat),e=.returned (.bool ok)/\Ust W l nm hb ub mq ledv tdv w0 ledv' tdv' ls' td' L' w'/\Ld L' E'/\(ok=true->Jn l nm (P++[(utI l a,utI l b)]) E' ls' [] 0)/\(ok=false->NoSol (utN l nm) (P++[(utI l a,utI l b)])):=by
 obtain⟨i0,hi,hz0,hz1,hz2⟩:=info_parts infoPr
 have hJ1:=hid (hJ.begin ha hb2)
 have hb1:Below w0.heap.size w0 (w0.alloc (.cells #[.int .i64 (a:Int),.int .i64 (b:Int)] 72)):=below_alloc w0 _
 have U1:=h.next hb1
 have x1:=heap_alloc_new w0 (.cells #[.int .i64 (a:Int),.int .i64 (b:Int)] 72)
 have HU0:=hid (Ust.of h hb1)
 have HE:=hid hE
 have HH:=hid hH
 have hW0:=h.b.size
 have hsz:Hid ((w0.alloc (.cells #[.int .i64 (a:Int),.int .i64 (b:Int)] 72)).heap.size=w0.heap.size+1):=by simp[Hid]
 clear h hE hJ hH hb1
 go_enter Tryz.func115,Tryz.ntmps115
 go_wp2
 generalize w0.alloc (.cells #[.int .i64 (a:Int),.int .i64 (b:Int)] 72)=w1 at *
 obtain⟨⟨z0,z1,z2,z3⟩,⟨z4,z5⟩,z6⟩:=U1.cells
 obtain⟨⟨x2,x3⟩,x4⟩:=blk2y x1
 obtain⟨la,lc',rfl,hlc1,hlc2,hla,hla2⟩:=own_slq U1.td
 have hct:=own_cut U1.td (k:=0) (Nat.zero_le _)
 have hW1:W.heap.size<=w1.heap.size:=U1.b.size
 have hnw:=heap_alloc_new w1 (.cells #[.int .i64 (a:Int),.int .i64 (b:Int)] 72)
 have hown:(w1.alloc (.cells #[.int .i64 (a:Int),.int .i64 (b:Int)] 72)).drew.ownsRow W.heap.size 72 2 (.slice la 0 lc') 0 []:=by
  have h9:=World.ownsRow.alloc hct (.cells #[.int .i64 (a:Int),.int .i64 (b:Int)] 72)
  rw[Nat.zero_mul,List.take_zero] at h9
  exact h9
 have HU1:=hid U1
 clear U1 hct
 have hfin:Hid (∀(g6 cap6:Nat) (w6:World),(Um W l nm hb ub mq ledv (.slice (some ⟨g6,0,none⟩) 1 cap6) ls [(a,b)] L (w6.setCell ⟨ub,3,none⟩ (.slice (some ⟨g6,0,none⟩) 1 cap6))/\Ik w1 (w6.setCell ⟨ub,3,none⟩ (.slice (some ⟨g6,0,none⟩) 1 cap6))/\Mo (uSt ub mq ledv (.slice la td.length lc')) w1 (w6.setCell ⟨ub,3,none⟩ (.slice (some ⟨g6,0,none⟩) 1 cap6)))->((Value.slice la td.length lc').ownBlock=some g6∨w1.heap.size<=g6)->Ust W l nm hb ub mq ledv (.slice la td.length lc') w0 ledv (.slice (some ⟨g6,0,none⟩) 1 cap6) ls [(a,b)] L (w6.setCell ⟨ub,3,none⟩ (.slice (some ⟨g6,0,none⟩) 1 cap6))):=fun g6 cap6 w6 h1 h2=>HU0.out.trans ⟨h1.1,h1.2.1,h1.2.2,fun _ h=>Or.inl h,fun q hq=>by
  have e9:g6=q:=by simpa[Value.ownBlock] using hq
  rw[←e9]
  exact h2⟩
 go_cut [5] from 6 to 16 (fun _ wc=>∃(g6 cap6:Nat),Hid (Ust W l nm hb ub mq ledv (.slice la td.length lc') w0 ledv (.slice (some ⟨g6,0,none⟩) 1 cap6) ls [(a,b)] L wc))
 case first=>
  cases la with
  | none=>
   obtain⟨hl0,rfl⟩:=hla rfl
   go_region_law
    (refine step_append_lies _ (by rfl) _ _ _ (by rfl) W.heap.size 72 i0 (.agg #[.int .i64 0,.int .i64 0]) 2 16 Tryz.underlying67 hi hz0 hz1 hz2 rfl (by omega) _ 0 [] (by rfl) hown ⟨w1.heap.size,0,none⟩ 1 1 [.int .i64 (a:Int),.int .i64 (b:Int)] (by rfl) (by rfl) (World.news_of_block (cs:=#[.int .i64 (a:Int),.int .i64 (b:Int)]) (t:=72) (fr:=(0,0)) hnw) (by simp[Value.oneCell']) (by omega) (by unfold maxLen;omega) (by omega) (by simp;omega) _ (by rfl) ?_;intro g6 cap6 w6 hown6 hg6 hat6 hlt6;have hP:=hid (HU1.out.renew hown6 hg6);have hAt:=hid hat6;obtain⟨⟨q2,q2f⟩,q5⟩:=hP.out.2;clear hown6 hg6 hat6 hlt6)
   all_goals go_wp2_with fail
   all_goals go_meet
   all_goals exact⟨g6,cap6,hfin.out g6 cap6 _ hP.out.1 (hAt.out.elim Or.inl (fun h9=>Or.inr (by simp at h9;omega)))⟩
  | some a9=>
   obtain⟨g9,rfl⟩:∃g,a9=⟨g,0,none⟩:=⟨_,hla2 a9 rfl⟩
   go_region_law
    (refine step_append_lies _ (by rfl) _ _ _ (by rfl) W.heap.size 72 i0 (.agg #[.int .i64 0,.int .i64 0]) 2 16 Tryz.underlying67 hi hz0 hz1 hz2 rfl (by omega) _ 0 [] (by rfl) hown ⟨w1.heap.size,0,none⟩ 1 1 [.int .i64 (a:Int),.int .i64 (b:Int)] (by rfl) (by rfl) (World.news_of_block (cs:=#[.int .i64 (a:Int),.int .i64 (b:Int)]) (t:=72) (fr:=(0,0)) hnw) (by simp[Value.oneCell']) (by omega) (by unfold maxLen;omega) (by omega) (by simp;omega) _ (by rfl) ?_;intro g6 cap6 w6 hown6 hg6 hat6 hlt6;have hP:=hid (HU1.out.renew hown6 hg6);have hAt:=hid hat6;obtain⟨⟨q2,q2f⟩,q5⟩:=hP.out.2;clear hown6 hg6 hat6 hlt6)
   all_goals go_wp2_with fail
   all_goals go_meet
   all_goals exact⟨g6,cap6,hfin.out g6 cap6 _ hP.out.1 (hAt.out.elim Or.inl (fun h9=>Or.inr (by simp at h9;omega)))⟩
 case rest=>
  obtain⟨g6,cap6,hS⟩:=hcut
  clear hown hnw hfin HU1 HU0 z0 z1 z2 z3 z4 z5 z6 x1 x2 x3 x4 hla hla2 hlc1 hlc2 hi hz0 hz1 hz2 hsz
  go_wp2
  go_loopg [5] (9*(utT l).length+2) (fun gk s5 wr=>∃(i:Nat) (ledv1 tdv1:Value) (ls1:List (Nat×Value)) (td1:List (Nat×Nat)) (L1:List Nat) (E1:Nat->Nat),s5=.int .i64 (i:Int)/\Hid (Ust W l nm hb ub mq ledv (.slice la td.length lc') w0 ledv1 tdv1 ls1 td1 L1 wr)/\Hid (Ld L1 E1)/\Hid (Jn l nm (P++[(utI l a,utI l b)]) E1 ls1 td1 i)/\Hid (9*fixN E1 (utT l).length+(td1.length-i)<=gk))
  case atStart=>exact⟨0,ledv,_,ls,[(a,b)],L,E,rfl,hS,HE,hJ1,show _<=_ by have:=fixN_top E (utT l).length;simp only[List.length_cons,List.length_nil];omega⟩
  case round=>
   obtain⟨i,ledv1,tdv1,ls1,td1,L1,E1,rfl,hS1,hE1,hJ,hgk⟩:=hrel
   clear hS hJ1 HE
   have hsum:td1.length<=1000000:=by
    have h1:=hJ.out.sum
    have h2:=ut_len (l:=l)
    have h3:=HH.out.l6
    omega
   have hlen:ls1.length<=100000:=by
    have h1:=hJ.out.cnt
    have h2:=ut_len (l:=l)
    have h3:=HH.out.l6
    omega
   have hile:=hJ.out.le
   obtain⟨⟨z0,z1,z2,z3⟩,⟨z4,z5⟩,z6⟩:=hS1.out.m.cells
   obtain⟨la1,lc1,rfl,hlc1,hlc2,hla,hla2⟩:=own_slq hS1.out.m.td
   by_cases hlt:i<td1.length
   ·obtain⟨g1,c9,e9,zg,r0,r1⟩:=hS1.out.m.row hlt
    injection e9 with e9 _ e10
    subst e9 e10
    have hlti:(i:Int)<(td1.length:Int):=by omega
    obtain⟨pc1,pc2⟩:=hJ.out.cel (td1.getD i (0,0)) (by rw[show td1.getD i (0,0)=td1[i] by simp[List.getD,hlt]];exact List.getElem_mem hlt)
    obtain⟨p1,hp1⟩:∃p1,p1=(td1.getD i (0,0)).1:=⟨_,rfl⟩
    obtain⟨p2,hp2⟩:∃p2,p2=(td1.getD i (0,0)).2:=⟨_,rfl⟩
    rw[←hp1] at r0 pc1
    rw[←hp2] at r1 pc2
    have Hp1:=hid hp1
    have Hp2:=hid hp2
    have hrow:Hid (∀(wx:World) (L2:List Nat),Um W l nm hb ub mq ledv1 (.slice (some ⟨g1,0,none⟩) td1.length lc1) ls1 td1 L2 wx->wx.cell? ⟨ub,3,none⟩=some (.slice (some ⟨g1,0,none⟩) td1.length lc1)/\wx.cell? ⟨g1,i*2+1,none⟩=some (.int .i64 (p2:Int))/\g1<wx.heap.size/\ub<wx.heap.size):=fun wx L2 hx=>by
     obtain⟨g2,c8,e8,y1,y2,y3⟩:=hx.row hlt
     injection e8 with e8 _ _
     injection e8 with e8
     injection e8 with e8 _ _
     subst e8
     rw[hp2]
     exact⟨hx.cells.1.2.2.2,y3,y1,hx.cells.2.2⟩
    have hS1d:Hid (Ust W l nm hb ub mq ledv (.slice la td.length lc') w0 ledv1 (.slice (some ⟨g1,0,none⟩) td1.length lc1) ls1 td1 L1 wr.drew):=hS1.out.trans (Ust.of hS1.out.m (Below.refl _ _).drew)
    have hc1:=hid (jh_one HH.out hS1d.out.m hE1.out pc1)
    have hc2:Hid (∀wd wx d1 u1,Jh1 W l nm hb ub mq ledv1 (.slice (some ⟨g1,0,none⟩) td1.length lc1) ls1 td1 E1 p1 wd d1 u1 wx->Calls Tryz.prog 155 #[.pointer (some ⟨ub,0,none⟩),.int .i64 (p2:Int)] wx fun e w'=>∃d u,e=.returned (tmU l nm d u)/\Jh2 W l nm hb ub mq ledv1 (.slice (some ⟨g1,0,none⟩) td1.length lc1) ls1 td1 E1 p1 p2 wd d1 u1 d u w'):=fun wd wx d1 u1 hx=>jh_two HH.out hx pc2
    have hc3:Hid (∀wd wx d1 u1 d2 u2,Jh2 W l nm hb ub mq ledv1 (.slice (some ⟨g1,0,none⟩) td1.length lc1) ls1 td1 E1 p1 p2 wd d1 u1 d2 u2 wx->Calls Tryz.prog 154 #[.pointer (some ⟨ub,0,none⟩),tmU l nm d1 u1,tmU l nm d2 u2] wx fun e w'=>∃ok,e=.returned (.bool ok)/\Jh3 W l nm hb ub mq ledv1 (.slice (some ⟨g1,0,none⟩) td1.length lc1) ls1 td1 E1 p1 p2 wd ok w'):=fun wd wx d1 u1 d2 u2 hx=>jh_meet HH.out hnd hE1.out.idem hlen hsum hx
    have hfi:Hid (∀ok wx,Jh3 W l nm hb ub mq ledv1 (.slice (some ⟨g1,0,none⟩) td1.length lc1) ls1 td1 E1 p1 p2 wr.drew ok wx->∃ledv' tdv' ls' td' L' E',Jr W w0 l nm hb ub mq ledv (.slice la td.length lc') (P++[(utI l a,utI l b)]) E1 td1 i ok ledv' tdv' ls' td' L' E' wx):=fun ok wx hx=>jh_end HH.out hJ.out hlt hS1d.out (by rw[←hp1,←hp2];exact hx)
    clear hp1 hp2 pc1 pc2 hile hla hla2 hS1 hE1
    go_wp2
    obtain⟨va,hva⟩:∃va:Value,va=.agg #[.int .i64 (a:Int),.int .i64 (b:Int)]:=⟨_,rfl⟩
    rw[←hva]
    have Hva:=hid hva
    clear hva
    refine wp_region_any (by kernel_rfl) ?_
    change wpAny _ _ _ _ _ _ _ wr.drew
    have Dc3:Hid (wr.drew.cell? ⟨ub,3,none⟩=some (.slice (some ⟨g1,0,none⟩) td1.length lc1)):=z3
    have Dr0:Hid (wr.drew.cell? ⟨g1,i*2,none⟩=some (.int .i64 (p1:Int))):=r0
    have Dr1:Hid (wr.drew.cell? ⟨g1,i*2+1,none⟩=some (.int .i64 (p2:Int))):=r1
    clear z0 z1 z2 z3 z4 z5 z6 r0 r1 zg hS1d
    generalize wr.drew=wd at *
    refine wpAny_invS (fun la a wx=>la.size=23/\Clo (fun k=>match k with | 3=>[2] | 4=>[3] | 5=>[4] | 7=>[5,6] | 8=>[7] | 9=>[8] | 10=>[1,9] | 13=>[12] | 14=>[13] | 15=>[14] | 17=>[15,16] | 18=>[17] | 19=>[18] | 20=>[11,19,10] | 21=>[0,10,20] | 22=>[21] | _=>[]) la/\∃d1:Nat,∃u1:Value,∃d2:Nat,∃u2:Value,∃ok:Bool,a=(⟨#[.pointer (some ⟨ub,0,none⟩),va,undef,.pointer (some ⟨w0.heap.size,0,none⟩),u4,.int .i64 (i:Int),u6,u7,u8,u9,u10,u11,u12,u13,u14,u15,u16,.int .i64 (i:Int),.pointer (some ⟨ub,0,none⟩),.pointer (some ⟨ub,0,none⟩),.pointer (some ⟨ub,3,none⟩),.slice (some ⟨g1,0,none⟩) td1.length lc1,.int .i64 (td1.length:Int),.bool true,u24,u25,(selV (bitA la 0) (.pointer (some ⟨ub,0,none⟩)) u26),(selV (bitA la 1) (.pointer (some ⟨ub,0,none⟩)) u27),(selV (bitA la 2) (.pointer (some ⟨ub,0,none⟩)) u28),(selV (bitA la 3) (.pointer (some ⟨ub,0,none⟩)) u29),(selV (bitA la 4) (.pointer (some ⟨ub,3,none⟩)) u30),(selV (bitA la 5) (.slice (some ⟨g1,0,none⟩) td1.length lc1) u31),(selV (bitA la 6) (.int .i64 (i:Int)) u32),(selV (bitA la 7) (.pointer (some ⟨g1,i*2,none⟩)) u33),(selV (bitA la 8) (.pointer (some ⟨g1,i*2,none⟩)) u34),(selV (bitA la 9) (.int .i64 (p1:Int)) u35),(selV (bitA la 10) (tmU l nm d1 u1) u36),(selV (bitA la 11) (.pointer (some ⟨ub,0,none⟩)) u37),(selV (bitA la 12) (.pointer (some ⟨ub,0,none⟩)) u38),(selV (bitA la 13) (.pointer (some ⟨ub,0,none⟩)) u39),(selV (bitA la 14) (.pointer (some ⟨ub,3,none⟩)) u40),(selV (bitA la 15) (.slice (some ⟨g1,0,none⟩) td1.length lc1) u41),(selV (bitA la 16) (.int .i64 (i:Int)) u42),(selV (bitA la 17) (.pointer (some ⟨g1,i*2,none⟩)) u43),(selV (bitA la 18) (.pointer (some ⟨g1,i*2+1,none⟩)) u44),(selV (bitA la 19) (.int .i64 (p2:Int)) u45),(selV (bitA la 20) (tmU l nm d2 u2) u46),(selV (bitA la 21) (.bool ok) u47),(selV (bitA la 22) (.bool (!ok)) u48)],[]⟩:Act)/\(bitA la 10=false->wx=wd)/\(bitA la 10=true->bitA la 20=false->Jh1 W l nm hb ub mq ledv1 (.slice (some ⟨g1,0,none⟩) td1.length lc1) ls1 td1 E1 p1 wd d1 u1 wx)/\(bitA la 20=true->bitA la 21=false->Jh2 W l nm hb ub mq ledv1 (.slice (some ⟨g1,0,none⟩) td1.length lc1) ls1 td1 E1 p1 p2 wd d1 u1 d2 u2 wx)/\(bitA la 21=true->Jh3 W l nm hb ub mq ledv1 (.slice (some ⟨g1,0,none⟩) td1.length lc1) ls1 td1 E1 p1 p2 wd ok wx)) ?_ ?_ _ _ _ _ (by decide) ?_
    case refine_3=>
     exact⟨by simp,Clo.start _ _,0,undef,0,undef,false,rfl,fun _=>rfl,fun e=>absurd e (by decide),fun e=>absurd e (by decide),fun e=>absurd e (by decide)⟩
    case refine_1=>
     rintro la a wx ⟨hl,hcl,d1,u1,d2,u2,ok,rfl,hs0,hs1,hs2,hs3⟩ i hi
     obtain⟨i1,i2,i3⟩:=ready_spec hi
     have hiN:i<23:=i1
     rw[←goppN hl hiN] at i2
     clear hi i1
     have hcs:i=0∨i=1∨i=2∨i=3∨i=4∨i=5∨i=6∨i=7∨i=8∨i=9∨i=10∨i=11∨i=12∨i=13∨i=14∨i=15∨i=16∨i=17∨i=18∨i=19∨i=20∨i=21∨i=22:=by omega
     rcases hcs with rfl | rfl | rfl | rfl | rfl | rfl | rfl | rfl | rfl | rfl | rfl | rfl | rfl | rfl | rfl | rfl | rfl | rfl | rfl | rfl | rfl | rfl | rfl
     ·have b21:bitA la 21=false:=by cases e:bitA la 21 with | false=>rfl | true=>exact absurd (hcl 21 e 0 (by decide)) (by rw[i2];simp)
      clear b21
      have HL:=hid hl;clear hl
      refine wpOpS_step rfl (fun K hK=>?_)
      go_simp
      refine hK _ _ ⟨by simpa using HL.out,hcl.step HL.out (by decide) ?_,d1,u1,d2,u2,ok,?_,?_,?_,?_,?_⟩
      ·intro d hd;cases hd
      ·simp only[gsetN la 0 _ HL.out (by decide)];rfl
      ·intro e10;rw[gsetN la 0 10 HL.out (by decide),if_neg (by decide)] at e10;exact hs0 e10
      ·intro e10 e20;rw[gsetN la 0 10 HL.out (by decide),if_neg (by decide)] at e10;rw[gsetN la 0 20 HL.out (by decide),if_neg (by decide)] at e20;exact hs1 e10 e20
      ·intro e20 e21;rw[gsetN la 0 20 HL.out (by decide),if_neg (by decide)] at e20;rw[gsetN la 0 21 HL.out (by decide),if_neg (by decide)] at e21;exact hs2 e20 e21
      ·intro e21;rw[gsetN la 0 21 HL.out (by decide),if_neg (by decide)] at e21;exact hs3 e21
     ·have b10:bitA la 10=false:=by cases e:bitA la 10 with | false=>rfl | true=>exact absurd (hcl 10 e 1 (by decide)) (by rw[i2];simp)
      have b20:bitA la 20=false:=by cases e:bitA la 20 with | false=>rfl | true=>exact absurd (hcl 10 (hcl 20 e 10 (by decide)) 1 (by decide)) (by rw[i2];simp)
      have b21:bitA la 21=false:=by cases e:bitA la 21 with | false=>rfl | true=>exact absurd (hcl 10 (hcl 21 e 10 (by decide)) 1 (by decide)) (by rw[i2];simp)
      have e0:=hs0 b10
      subst e0
      have HL:=hid hl;clear hl
      have Hb10:=hid b10;clear b10
      have Hb20:=hid b20;clear b20
      have Hb21:=hid b21;clear b21
      refine wpOpS_step rfl (fun K hK=>?_)
      go_simp
      refine hK _ _ ⟨by simpa using HL.out,hcl.step HL.out (by decide) ?_,d1,u1,d2,u2,ok,?_,?_,?_,?_,?_⟩
      ·intro d hd;cases hd
      ·simp only[gsetN la 1 _ HL.out (by decide)];rfl
      ·intro _;rfl
      ·intro e;rw[gsetN la 1 10 HL.out (by decide),if_neg (by decide),Hb10.out] at e;cases e
      ·intro e;rw[gsetN la 1 20 HL.out (by decide),if_neg (by decide),Hb20.out] at e;cases e
      ·intro e;rw[gsetN la 1 21 HL.out (by decide),if_neg (by decide),Hb21.out] at e;cases e
     ·have b10:bitA la 10=false:=by cases e:bitA la 10 with | false=>rfl | true=>exact absurd (hcl 3 (hcl 4 (hcl 5 (hcl 7 (hcl 8 (hcl 9 (hcl 10 e 9 (by decide)) 8 (by decide)) 7 (by decide)) 5 (by decide)) 4 (by decide)) 3 (by decide)) 2 (by decide)) (by rw[i2];simp)
      have b20:bitA la 20=false:=by cases e:bitA la 20 with | false=>rfl | true=>exact absurd (hcl 3 (hcl 4 (hcl 5 (hcl 7 (hcl 8 (hcl 9 (hcl 10 (hcl 20 e 10 (by decide)) 9 (by decide)) 8 (by decide)) 7 (by decide)) 5 (by decide)) 4 (by decide)) 3 (by decide)) 2 (by decide)) (by rw[i2];simp)
      have b21:bitA la 21=false:=by cases e:bitA la 21 with | false=>rfl | true=>exact absurd (hcl 3 (hcl 4 (hcl 5 (hcl 7 (hcl 8 (hcl 9 (hcl 10 (hcl 21 e 10 (by decide)) 9 (by decide)) 8 (by decide)) 7 (by decide)) 5 (by decide)) 4 (by decide)) 3 (by decide)) 2 (by decide)) (by rw[i2];simp)
      have e0:=hs0 b10
      subst e0
      have HL:=hid hl;clear hl
      have Hb10:=hid b10;clear b10
      have Hb20:=hid b20;clear b20
      have Hb21:=hid b21;clear b21
      refine wpOpS_step rfl (fun K hK=>?_)
      go_simp
      refine hK _ _ ⟨by simpa using HL.out,hcl.step HL.out (by decide) ?_,d1,u1,d2,u2,ok,?_,?_,?_,?_,?_⟩
      ·intro d hd;cases hd
      ·simp only[gsetN la 2 _ HL.out (by decide)];rfl
      ·intro _;rfl
      ·intro e;rw[gsetN la 2 10 HL.out (by decide),if_neg (by decide),Hb10.out] at e;cases e
      ·intro e;rw[gsetN la 2 20 HL.out (by decide),if_neg (by decide),Hb20.out] at e;cases e
      ·intro e;rw[gsetN la 2 21 HL.out (by decide),if_neg (by decide),Hb21.out] at e;cases e
     ·have i4:bitA la 2=true:=by simpa[Region.binds,bitA] using i3
      have b10:bitA la 10=false:=by cases e:bitA la 10 with | false=>rfl | true=>exact absurd (hcl 4 (hcl 5 (hcl 7 (hcl 8 (hcl 9 (hcl 10 e 9 (by decide)) 8 (by decide)) 7 (by decide)) 5 (by decide)) 4 (by decide)) 3 (by decide)) (by rw[i2];simp)
      have b20:bitA la 20=false:=by cases e:bitA la 20 with | false=>rfl | true=>exact absurd (hcl 4 (hcl 5 (hcl 7 (hcl 8 (hcl 9 (hcl 10 (hcl 20 e 10 (by decide)) 9 (by decide)) 8 (by decide)) 7 (by decide)) 5 (by decide)) 4 (by decide)) 3 (by decide)) (by rw[i2];simp)
      have b21:bitA la 21=false:=by cases e:bitA la 21 with | false=>rfl | true=>exact absurd (hcl 4 (hcl 5 (hcl 7 (hcl 8 (hcl 9 (hcl 10 (hcl 21 e 10 (by decide)) 9 (by decide)) 8 (by decide)) 7 (by decide)) 5 (by decide)) 4 (by decide)) 3 (by decide)) (by rw[i2];simp)
      have e0:=hs0 b10
      subst e0
      have HL:=hid hl;clear hl
      have Hb10:=hid b10;clear b10
      have Hb20:=hid b20;clear b20
      have Hb21:=hid b21;clear b21
      refine wpOpS_step rfl (fun K hK=>?_)
      simp only[i4,selV_t]
      go_simp
      refine hK _ _ ⟨by simpa using HL.out,hcl.step HL.out (by decide) ?_,d1,u1,d2,u2,ok,?_,?_,?_,?_,?_⟩
      ·show ∀d∈[2],_;simp only[List.mem_singleton];rintro d rfl;exact i4
      ·simp only[gsetN la 3 _ HL.out (by decide),i4];rfl
      ·intro _;rfl
      ·intro e;rw[gsetN la 3 10 HL.out (by decide),if_neg (by decide),Hb10.out] at e;cases e
      ·intro e;rw[gsetN la 3 20 HL.out (by decide),if_neg (by decide),Hb20.out] at e;cases e
      ·intro e;rw[gsetN la 3 21 HL.out (by decide),if_neg (by decide),Hb21.out] at e;cases e
     ·have i4:bitA la 3=true:=by simpa[Region.binds,bitA] using i3
      have b10:bitA la 10=false:=by cases e:bitA la 10 with | false=>rfl | true=>exact absurd (hcl 5 (hcl 7 (hcl 8 (hcl 9 (hcl 10 e 9 (by decide)) 8 (by decide)) 7 (by decide)) 5 (by decide)) 4 (by decide)) (by rw[i2];simp)
      have b20:bitA la 20=false:=by cases e:bitA la 20 with | false=>rfl | true=>exact absurd (hcl 5 (hcl 7 (hcl 8 (hcl 9 (hcl 10 (hcl 20 e 10 (by decide)) 9 (by decide)) 8 (by decide)) 7 (by decide)) 5 (by decide)) 4 (by decide)) (by rw[i2];simp)
      have b21:bitA la 21=false:=by cases e:bitA la 21 with | false=>rfl | true=>exact absurd (hcl 5 (hcl 7 (hcl 8 (hcl 9 (hcl 10 (hcl 21 e 10 (by decide)) 9 (by decide)) 8 (by decide)) 7 (by decide)) 5 (by decide)) 4 (by decide)) (by rw[i2];simp)
      have e0:=hs0 b10
      subst e0
      have HL:=hid hl;clear hl
      have Hb10:=hid b10;clear b10
      have Hb20:=hid b20;clear b20
      have Hb21:=hid b21;clear b21
      refine wpOpS_step rfl (fun K hK=>?_)
      simp only[i4,selV_t]
      go_simp
      refine hK _ _ ⟨by simpa using HL.out,hcl.step HL.out (by decide) ?_,d1,u1,d2,u2,ok,?_,?_,?_,?_,?_⟩
      ·show ∀d∈[3],_;simp only[List.mem_singleton];rintro d rfl;exact i4
      ·simp only[gsetN la 4 _ HL.out (by decide),i4];rfl
      ·intro _;rfl
      ·intro e;rw[gsetN la 4 10 HL.out (by decide),if_neg (by decide),Hb10.out] at e;cases e
      ·intro e;rw[gsetN la 4 20 HL.out (by decide),if_neg (by decide),Hb20.out] at e;cases e
      ·intro e;rw[gsetN la 4 21 HL.out (by decide),if_neg (by decide),Hb21.out] at e;cases e
     ·have i4:bitA la 4=true:=by simpa[Region.binds,bitA] using i3
      have b10:bitA la 10=false:=by cases e:bitA la 10 with | false=>rfl | true=>exact absurd (hcl 7 (hcl 8 (hcl 9 (hcl 10 e 9 (by decide)) 8 (by decide)) 7 (by decide)) 5 (by decide)) (by rw[i2];simp)
      have b20:bitA la 20=false:=by cases e:bitA la 20 with | false=>rfl | true=>exact absurd (hcl 7 (hcl 8 (hcl 9 (hcl 10 (hcl 20 e 10 (by decide)) 9 (by decide)) 8 (by decide)) 7 (by decide)) 5 (by decide)) (by rw[i2];simp)
      have b21:bitA la 21=false:=by cases e:bitA la 21 with | false=>rfl | true=>exact absurd (hcl 7 (hcl 8 (hcl 9 (hcl 10 (hcl 21 e 10 (by decide)) 9 (by decide)) 8 (by decide)) 7 (by decide)) 5 (by decide)) (by rw[i2];simp)
      have e0:=hs0 b10
      subst e0
      have c3:=Dc3.out
      have HL:=hid hl;clear hl
      have Hb10:=hid b10;clear b10
      have Hb20:=hid b20;clear b20
      have Hb21:=hid b21;clear b21
      refine wpOpS_step rfl (fun K hK=>?_)
      simp only[i4,selV_t]
      go_simp
      refine hK _ _ ⟨by simpa using HL.out,hcl.step HL.out (by decide) ?_,d1,u1,d2,u2,ok,?_,?_,?_,?_,?_⟩
      ·show ∀d∈[4],_;simp only[List.mem_singleton];rintro d rfl;exact i4
      ·simp only[gsetN la 5 _ HL.out (by decide),i4];rfl
      ·intro _;rfl
      ·intro e;rw[gsetN la 5 10 HL.out (by decide),if_neg (by decide),Hb10.out] at e;cases e
      ·intro e;rw[gsetN la 5 20 HL.out (by decide),if_neg (by decide),Hb20.out] at e;cases e
      ·intro e;rw[gsetN la 5 21 HL.out (by decide),if_neg (by decide),Hb21.out] at e;cases e
     ·have b10:bitA la 10=false:=by cases e:bitA la 10 with | false=>rfl | true=>exact absurd (hcl 7 (hcl 8 (hcl 9 (hcl 10 e 9 (by decide)) 8 (by decide)) 7 (by decide)) 6 (by decide)) (by rw[i2];simp)
      have b20:bitA la 20=false:=by cases e:bitA la 20 with | false=>rfl | true=>exact absurd (hcl 7 (hcl 8 (hcl 9 (hcl 10 (hcl 20 e 10 (by decide)) 9 (by decide)) 8 (by decide)) 7 (by decide)) 6 (by decide)) (by rw[i2];simp)
      have b21:bitA la 21=false:=by cases e:bitA la 21 with | false=>rfl | true=>exact absurd (hcl 7 (hcl 8 (hcl 9 (hcl 10 (hcl 21 e 10 (by decide)) 9 (by decide)) 8 (by decide)) 7 (by decide)) 6 (by decide)) (by rw[i2];simp)
      have e0:=hs0 b10
      subst e0
      have HL:=hid hl;clear hl
      have Hb10:=hid b10;clear b10
      have Hb20:=hid b20;clear b20
      have Hb21:=hid b21;clear b21
      refine wpOpS_step rfl (fun K hK=>?_)
      go_simp
      refine hK _ _ ⟨by simpa using HL.out,hcl.step HL.out (by decide) ?_,d1,u1,d2,u2,ok,?_,?_,?_,?_,?_⟩
      ·intro d hd;cases hd
      ·simp only[gsetN la 6 _ HL.out (by decide)];rfl
      ·intro _;rfl
      ·intro e;rw[gsetN la 6 10 HL.out (by decide),if_neg (by decide),Hb10.out] at e;cases e
      ·intro e;rw[gsetN la 6 20 HL.out (by decide),if_neg (by decide),Hb20.out] at e;cases e
      ·intro e;rw[gsetN la 6 21 HL.out (by decide),if_neg (by decide),Hb21.out] at e;cases e
     ·have i4:bitA la 5=true/\bitA la 6=true:=by simpa[Region.binds,bitA] using i3
      have b10:bitA la 10=false:=by cases e:bitA la 10 with | false=>rfl | true=>exact absurd (hcl 8 (hcl 9 (hcl 10 e 9 (by decide)) 8 (by decide)) 7 (by decide)) (by rw[i2];simp)
      have b20:bitA la 20=false:=by cases e:bitA la 20 with | false=>rfl | true=>exact absurd (hcl 8 (hcl 9 (hcl 10 (hcl 20 e 10 (by decide)) 9 (by decide)) 8 (by decide)) 7 (by decide)) (by rw[i2];simp)
      have b21:bitA la 21=false:=by cases e:bitA la 21 with | false=>rfl | true=>exact absurd (hcl 8 (hcl 9 (hcl 10 (hcl 21 e 10 (by decide)) 9 (by decide)) 8 (by decide)) 7 (by decide)) (by rw[i2];simp)
      have e0:=hs0 b10
      subst e0
      have HL:=hid hl;clear hl
      have Hb10:=hid b10;clear b10
      have Hb20:=hid b20;clear b20
      have Hb21:=hid b21;clear b21
      refine wpOpS_step rfl (fun K hK=>?_)
      simp only[i4.1,i4.2,selV_t]
      go_simp
      refine hK _ _ ⟨by simpa using HL.out,hcl.step HL.out (by decide) ?_,d1,u1,d2,u2,ok,?_,?_,?_,?_,?_⟩
      ·show ∀d∈[5,6],_;simp only[List.mem_cons,List.not_mem_nil,or_false];rintro d (rfl | rfl) <;> first | exact i4.1 | exact i4.2
      ·simp only[gsetN la 7 _ HL.out (by decide),i4.1,i4.2];rfl
      ·intro _;rfl
      ·intro e;rw[gsetN la 7 10 HL.out (by decide),if_neg (by decide),Hb10.out] at e;cases e
      ·intro e;rw[gsetN la 7 20 HL.out (by decide),if_neg (by decide),Hb20.out] at e;cases e
      ·intro e;rw[gsetN la 7 21 HL.out (by decide),if_neg (by decide),Hb21.out] at e;cases e
     ·have i4:bitA la 7=true:=by simpa[Region.binds,bitA] using i3
      have b10:bitA la 10=false:=by cases e:bitA la 10 with | false=>rfl | true=>exact absurd (hcl 9 (hcl 10 e 9 (by decide)) 8 (by decide)) (by rw[i2];simp)
      have b20:bitA la 20=false:=by cases e:bitA la 20 with | false=>rfl | true=>exact absurd (hcl 9 (hcl 10 (hcl 20 e 10 (by decide)) 9 (by decide)) 8 (by decide)) (by rw[i2];simp)
      have b21:bitA la 21=false:=by cases e:bitA la 21 with | false=>rfl | true=>exact absurd (hcl 9 (hcl 10 (hcl 21 e 10 (by decide)) 9 (by decide)) 8 (by decide)) (by rw[i2];simp)
      have e0:=hs0 b10
      subst e0
      have HL:=hid hl;clear hl
      have Hb10:=hid b10;clear b10
      have Hb20:=hid b20;clear b20
      have Hb21:=hid b21;clear b21
      refine wpOpS_step rfl (fun K hK=>?_)
      simp only[i4,selV_t]
      go_simp
      refine hK _ _ ⟨by simpa using HL.out,hcl.step HL.out (by decide) ?_,d1,u1,d2,u2,ok,?_,?_,?_,?_,?_⟩
      ·show ∀d∈[7],_;simp only[List.mem_singleton];rintro d rfl;exact i4
      ·simp only[gsetN la 8 _ HL.out (by decide),i4];rfl
      ·intro _;rfl
      ·intro e;rw[gsetN la 8 10 HL.out (by decide),if_neg (by decide),Hb10.out] at e;cases e
      ·intro e;rw[gsetN la 8 20 HL.out (by decide),if_neg (by decide),Hb20.out] at e;cases e
      ·intro e;rw[gsetN la 8 21 HL.out (by decide),if_neg (by decide),Hb21.out] at e;cases e
     ·have i4:bitA la 8=true:=by simpa[Region.binds,bitA] using i3
      have b10:bitA la 10=false:=by cases e:bitA la 10 with | false=>rfl | true=>exact absurd (hcl 10 e 9 (by decide)) (by rw[i2];simp)
      have b20:bitA la 20=false:=by cases e:bitA la 20 with | false=>rfl | true=>exact absurd (hcl 10 (hcl 20 e 10 (by decide)) 9 (by decide)) (by rw[i2];simp)
      have b21:bitA la 21=false:=by cases e:bitA la 21 with | false=>rfl | true=>exact absurd (hcl 10 (hcl 21 e 10 (by decide)) 9 (by decide)) (by rw[i2];simp)
      have e0:=hs0 b10
      subst e0
      have c0:=Dr0.out
      have HL:=hid hl;clear hl
      have Hb10:=hid b10;clear b10
      have Hb20:=hid b20;clear b20
      have Hb21:=hid b21;clear b21
      refine wpOpS_step rfl (fun K hK=>?_)
      simp only[i4,selV_t]
      go_simp
      refine hK _ _ ⟨by simpa using HL.out,hcl.step HL.out (by decide) ?_,d1,u1,d2,u2,ok,?_,?_,?_,?_,?_⟩
      ·show ∀d∈[8],_;simp only[List.mem_singleton];rintro d rfl;exact i4
      ·simp only[gsetN la 9 _ HL.out (by decide),i4];rfl
      ·intro _;rfl
      ·intro e;rw[gsetN la 9 10 HL.out (by decide),if_neg (by decide),Hb10.out] at e;cases e
      ·intro e;rw[gsetN la 9 20 HL.out (by decide),if_neg (by decide),Hb20.out] at e;cases e
      ·intro e;rw[gsetN la 9 21 HL.out (by decide),if_neg (by decide),Hb21.out] at e;cases e
     ·have i4:bitA la 1=true/\bitA la 9=true:=by simpa[Region.binds,bitA] using i3
      have b10:bitA la 10=false:=i2
      have b20:bitA la 20=false:=by cases e:bitA la 20 with | false=>rfl | true=>exact absurd (hcl 20 e 10 (by decide)) (by rw[i2];simp)
      have b21:bitA la 21=false:=by cases e:bitA la 21 with | false=>rfl | true=>exact absurd (hcl 21 e 10 (by decide)) (by rw[i2];simp)
      have e0:=hs0 b10
      subst e0
      have HL:=hid hl;clear hl
      have Hb10:=hid b10;clear b10
      have Hb20:=hid b20;clear b20
      have Hb21:=hid b21;clear b21
      refine wpOpS_step rfl (fun K hK=>?_)
      simp only[i4.1,i4.2,selV_t]
      go_simp
      go_at_call 155
      refine hc1.out.mono ?_
      rintro e wy ⟨d1',u1',rfl,hQ1⟩
      refine hK _ _ ⟨by simpa using HL.out,hcl.step HL.out (by decide) ?_,d1',u1',d2,u2,ok,?_,?_,?_,?_,?_⟩
      ·show ∀d∈[1,9],_;simp only[List.mem_cons,List.not_mem_nil,or_false];rintro d (rfl | rfl) <;> first | exact i4.1 | exact i4.2
      ·simp only[gsetN la 10 _ HL.out (by decide),i4.1,i4.2,Hb10.out];rfl
      ·intro e10;rw[gsetN la 10 10 HL.out (by decide),if_pos rfl] at e10;cases e10
      ·intro _ _;exact hQ1
      ·intro e;rw[gsetN la 10 20 HL.out (by decide),if_neg (by decide),Hb20.out] at e;cases e
      ·intro e;rw[gsetN la 10 21 HL.out (by decide),if_neg (by decide),Hb21.out] at e;cases e
     ·have b20:bitA la 20=false:=by cases e:bitA la 20 with | false=>rfl | true=>exact absurd (hcl 20 e 11 (by decide)) (by rw[i2];simp)
      have b21:bitA la 21=false:=by cases e:bitA la 21 with | false=>rfl | true=>exact absurd (hcl 20 (hcl 21 e 20 (by decide)) 11 (by decide)) (by rw[i2];simp)
      clear b20 b21
      have HL:=hid hl;clear hl
      refine wpOpS_step rfl (fun K hK=>?_)
      go_simp
      refine hK _ _ ⟨by simpa using HL.out,hcl.step HL.out (by decide) ?_,d1,u1,d2,u2,ok,?_,?_,?_,?_,?_⟩
      ·intro d hd;cases hd
      ·simp only[gsetN la 11 _ HL.out (by decide)];rfl
      ·intro e10;rw[gsetN la 11 10 HL.out (by decide),if_neg (by decide)] at e10;exact hs0 e10
      ·intro e10 e20;rw[gsetN la 11 10 HL.out (by decide),if_neg (by decide)] at e10;rw[gsetN la 11 20 HL.out (by decide),if_neg (by decide)] at e20;exact hs1 e10 e20
      ·intro e20 e21;rw[gsetN la 11 20 HL.out (by decide),if_neg (by decide)] at e20;rw[gsetN la 11 21 HL.out (by decide),if_neg (by decide)] at e21;exact hs2 e20 e21
      ·intro e21;rw[gsetN la 11 21 HL.out (by decide),if_neg (by decide)] at e21;exact hs3 e21
     ·have b20:bitA la 20=false:=by cases e:bitA la 20 with | false=>rfl | true=>exact absurd (hcl 13 (hcl 14 (hcl 15 (hcl 17 (hcl 18 (hcl 19 (hcl 20 e 19 (by decide)) 18 (by decide)) 17 (by decide)) 15 (by decide)) 14 (by decide)) 13 (by decide)) 12 (by decide)) (by rw[i2];simp)
      have b21:bitA la 21=false:=by cases e:bitA la 21 with | false=>rfl | true=>exact absurd (hcl 13 (hcl 14 (hcl 15 (hcl 17 (hcl 18 (hcl 19 (hcl 20 (hcl 21 e 20 (by decide)) 19 (by decide)) 18 (by decide)) 17 (by decide)) 15 (by decide)) 14 (by decide)) 13 (by decide)) 12 (by decide)) (by rw[i2];simp)
      clear b20 b21
      have HL:=hid hl;clear hl
      refine wpOpS_step rfl (fun K hK=>?_)
      go_simp
      refine hK _ _ ⟨by simpa using HL.out,hcl.step HL.out (by decide) ?_,d1,u1,d2,u2,ok,?_,?_,?_,?_,?_⟩
      ·intro d hd;cases hd
      ·simp only[gsetN la 12 _ HL.out (by decide)];rfl
      ·intro e10;rw[gsetN la 12 10 HL.out (by decide),if_neg (by decide)] at e10;exact hs0 e10
      ·intro e10 e20;rw[gsetN la 12 10 HL.out (by decide),if_neg (by decide)] at e10;rw[gsetN la 12 20 HL.out (by decide),if_neg (by decide)] at e20;exact hs1 e10 e20
      ·intro e20 e21;rw[gsetN la 12 20 HL.out (by decide),if_neg (by decide)] at e20;rw[gsetN la 12 21 HL.out (by decide),if_neg (by decide)] at e21;exact hs2 e20 e21
      ·intro e21;rw[gsetN la 12 21 HL.out (by decide),if_neg (by decide)] at e21;exact hs3 e21
     ·have i4:bitA la 12=true:=by simpa[Region.binds,bitA] using i3
      have b20:bitA la 20=false:=by cases e:bitA la 20 with | false=>rfl | true=>exact absurd (hcl 14 (hcl 15 (hcl 17 (hcl 18 (hcl 19 (hcl 20 e 19 (by decide)) 18 (by decide)) 17 (by decide)) 15 (by decide)) 14 (by decide)) 13 (by decide)) (by rw[i2];simp)
      have b21:bitA la 21=false:=by cases e:bitA la 21 with | false=>rfl | true=>exact absurd (hcl 14 (hcl 15 (hcl 17 (hcl 18 (hcl 19 (hcl 20 (hcl 21 e 20 (by decide)) 19 (by decide)) 18 (by decide)) 17 (by decide)) 15 (by decide)) 14 (by decide)) 13 (by decide)) (by rw[i2];simp)
      clear b20 b21
      have HL:=hid hl;clear hl
      refine wpOpS_step rfl (fun K hK=>?_)
      simp only[i4,selV_t]
      go_simp
      refine hK _ _ ⟨by simpa using HL.out,hcl.step HL.out (by decide) ?_,d1,u1,d2,u2,ok,?_,?_,?_,?_,?_⟩
      ·show ∀d∈[12],_;simp only[List.mem_singleton];rintro d rfl;exact i4
      ·simp only[gsetN la 13 _ HL.out (by decide),i4];rfl
      ·intro e10;rw[gsetN la 13 10 HL.out (by decide),if_neg (by decide)] at e10;exact hs0 e10
      ·intro e10 e20;rw[gsetN la 13 10 HL.out (by decide),if_neg (by decide)] at e10;rw[gsetN la 13 20 HL.out (by decide),if_neg (by decide)] at e20;exact hs1 e10 e20
      ·intro e20 e21;rw[gsetN la 13 20 HL.out (by decide),if_neg (by decide)] at e20;rw[gsetN la 13 21 HL.out (by decide),if_neg (by decide)] at e21;exact hs2 e20 e21
      ·intro e21;rw[gsetN la 13 21 HL.out (by decide),if_neg (by decide)] at e21;exact hs3 e21
     ·have i4:bitA la 13=true:=by simpa[Region.binds,bitA] using i3
      have b20:bitA la 20=false:=by cases e:bitA la 20 with | false=>rfl | true=>exact absurd (hcl 15 (hcl 17 (hcl 18 (hcl 19 (hcl 20 e 19 (by decide)) 18 (by decide)) 17 (by decide)) 15 (by decide)) 14 (by decide)) (by rw[i2];simp)
      have b21:bitA la 21=false:=by cases e:bitA la 21 with | false=>rfl | true=>exact absurd (hcl 15 (hcl 17 (hcl 18 (hcl 19 (hcl 20 (hcl 21 e 20 (by decide)) 19 (by decide)) 18 (by decide)) 17 (by decide)) 15 (by decide)) 14 (by decide)) (by rw[i2];simp)
      clear b20 b21
      have HL:=hid hl;clear hl
      refine wpOpS_step rfl (fun K hK=>?_)
      simp only[i4,selV_t]
      go_simp
      refine hK _ _ ⟨by simpa using HL.out,hcl.step HL.out (by decide) ?_,d1,u1,d2,u2,ok,?_,?_,?_,?_,?_⟩
      ·show ∀d∈[13],_;simp only[List.mem_singleton];rintro d rfl;exact i4
      ·simp only[gsetN la 14 _ HL.out (by decide),i4];rfl
      ·intro e10;rw[gsetN la 14 10 HL.out (by decide),if_neg (by decide)] at e10;exact hs0 e10
      ·intro e10 e20;rw[gsetN la 14 10 HL.out (by decide),if_neg (by decide)] at e10;rw[gsetN la 14 20 HL.out (by decide),if_neg (by decide)] at e20;exact hs1 e10 e20
      ·intro e20 e21;rw[gsetN la 14 20 HL.out (by decide),if_neg (by decide)] at e20;rw[gsetN la 14 21 HL.out (by decide),if_neg (by decide)] at e21;exact hs2 e20 e21
      ·intro e21;rw[gsetN la 14 21 HL.out (by decide),if_neg (by decide)] at e21;exact hs3 e21
     ·have i4:bitA la 14=true:=by simpa[Region.binds,bitA] using i3
      have b20:bitA la 20=false:=by cases e:bitA la 20 with | false=>rfl | true=>exact absurd (hcl 17 (hcl 18 (hcl 19 (hcl 20 e 19 (by decide)) 18 (by decide)) 17 (by decide)) 15 (by decide)) (by rw[i2];simp)
      have b21:bitA la 21=false:=by cases e:bitA la 21 with | false=>rfl | true=>exact absurd (hcl 17 (hcl 18 (hcl 19 (hcl 20 (hcl 21 e 20 (by decide)) 19 (by decide)) 18 (by decide)) 17 (by decide)) 15 (by decide)) (by rw[i2];simp)
      have c3:wx.cell? ⟨ub,3,none⟩=some (.slice (some ⟨g1,0,none⟩) td1.length lc1):=by cases e10:bitA la 10 with | false=>rw[hs0 e10];exact Dc3.out | true=>obtain⟨L2,_,_,hm2,_⟩:=hs1 e10 b20;exact (hrow.out _ _ hm2.m).1
      clear b20 b21
      have HL:=hid hl;clear hl
      refine wpOpS_step rfl (fun K hK=>?_)
      simp only[i4,selV_t]
      go_simp
      refine hK _ _ ⟨by simpa using HL.out,hcl.step HL.out (by decide) ?_,d1,u1,d2,u2,ok,?_,?_,?_,?_,?_⟩
      ·show ∀d∈[14],_;simp only[List.mem_singleton];rintro d rfl;exact i4
      ·simp only[gsetN la 15 _ HL.out (by decide),i4];rfl
      ·intro e10;rw[gsetN la 15 10 HL.out (by decide),if_neg (by decide)] at e10;exact hs0 e10
      ·intro e10 e20;rw[gsetN la 15 10 HL.out (by decide),if_neg (by decide)] at e10;rw[gsetN la 15 20 HL.out (by decide),if_neg (by decide)] at e20;exact hs1 e10 e20
      ·intro e20 e21;rw[gsetN la 15 20 HL.out (by decide),if_neg (by decide)] at e20;rw[gsetN la 15 21 HL.out (by decide),if_neg (by decide)] at e21;exact hs2 e20 e21
      ·intro e21;rw[gsetN la 15 21 HL.out (by decide),if_neg (by decide)] at e21;exact hs3 e21
     ·have b20:bitA la 20=false:=by cases e:bitA la 20 with | false=>rfl | true=>exact absurd (hcl 17 (hcl 18 (hcl 19 (hcl 20 e 19 (by decide)) 18 (by decide)) 17 (by decide)) 16 (by decide)) (by rw[i2];simp)
      have b21:bitA la 21=false:=by cases e:bitA la 21 with | false=>rfl | true=>exact absurd (hcl 17 (hcl 18 (hcl 19 (hcl 20 (hcl 21 e 20 (by decide)) 19 (by decide)) 18 (by decide)) 17 (by decide)) 16 (by decide)) (by rw[i2];simp)
      clear b20 b21
      have HL:=hid hl;clear hl
      refine wpOpS_step rfl (fun K hK=>?_)
      go_simp
      refine hK _ _ ⟨by simpa using HL.out,hcl.step HL.out (by decide) ?_,d1,u1,d2,u2,ok,?_,?_,?_,?_,?_⟩
      ·intro d hd;cases hd
      ·simp only[gsetN la 16 _ HL.out (by decide)];rfl
      ·intro e10;rw[gsetN la 16 10 HL.out (by decide),if_neg (by decide)] at e10;exact hs0 e10
      ·intro e10 e20;rw[gsetN la 16 10 HL.out (by decide),if_neg (by decide)] at e10;rw[gsetN la 16 20 HL.out (by decide),if_neg (by decide)] at e20;exact hs1 e10 e20
      ·intro e20 e21;rw[gsetN la 16 20 HL.out (by decide),if_neg (by decide)] at e20;rw[gsetN la 16 21 HL.out (by decide),if_neg (by decide)] at e21;exact hs2 e20 e21
      ·intro e21;rw[gsetN la 16 21 HL.out (by decide),if_neg (by decide)] at e21;exact hs3 e21
     ·have i4:bitA la 15=true/\bitA la 16=true:=by simpa[Region.binds,bitA] using i3
      have b20:bitA la 20=false:=by cases e:bitA la 20 with | false=>rfl | true=>exact absurd (hcl 18 (hcl 19 (hcl 20 e 19 (by decide)) 18 (by decide)) 17 (by decide)) (by rw[i2];simp)
      have b21:bitA la 21=false:=by cases e:bitA la 21 with | false=>rfl | true=>exact absurd (hcl 18 (hcl 19 (hcl 20 (hcl 21 e 20 (by decide)) 19 (by decide)) 18 (by decide)) 17 (by decide)) (by rw[i2];simp)
      clear b20 b21
      have HL:=hid hl;clear hl
      refine wpOpS_step rfl (fun K hK=>?_)
      simp only[i4.1,i4.2,selV_t]
      go_simp
      refine hK _ _ ⟨by simpa using HL.out,hcl.step HL.out (by decide) ?_,d1,u1,d2,u2,ok,?_,?_,?_,?_,?_⟩
      ·show ∀d∈[15,16],_;simp only[List.mem_cons,List.not_mem_nil,or_false];rintro d (rfl | rfl) <;> first | exact i4.1 | exact i4.2
      ·simp only[gsetN la 17 _ HL.out (by decide),i4.1,i4.2];rfl
      ·intro e10;rw[gsetN la 17 10 HL.out (by decide),if_neg (by decide)] at e10;exact hs0 e10
      ·intro e10 e20;rw[gsetN la 17 10 HL.out (by decide),if_neg (by decide)] at e10;rw[gsetN la 17 20 HL.out (by decide),if_neg (by decide)] at e20;exact hs1 e10 e20
      ·intro e20 e21;rw[gsetN la 17 20 HL.out (by decide),if_neg (by decide)] at e20;rw[gsetN la 17 21 HL.out (by decide),if_neg (by decide)] at e21;exact hs2 e20 e21
      ·intro e21;rw[gsetN la 17 21 HL.out (by decide),if_neg (by decide)] at e21;exact hs3 e21
     ·have i4:bitA la 17=true:=by simpa[Region.binds,bitA] using i3
      have b20:bitA la 20=false:=by cases e:bitA la 20 with | false=>rfl | true=>exact absurd (hcl 19 (hcl 20 e 19 (by decide)) 18 (by decide)) (by rw[i2];simp)
      have b21:bitA la 21=false:=by cases e:bitA la 21 with | false=>rfl | true=>exact absurd (hcl 19 (hcl 20 (hcl 21 e 20 (by decide)) 19 (by decide)) 18 (by decide)) (by rw[i2];simp)
      clear b20 b21
      have HL:=hid hl;clear hl
      refine wpOpS_step rfl (fun K hK=>?_)
      simp only[i4,selV_t]
      go_simp
      refine hK _ _ ⟨by simpa using HL.out,hcl.step HL.out (by decide) ?_,d1,u1,d2,u2,ok,?_,?_,?_,?_,?_⟩
      ·show ∀d∈[17],_;simp only[List.mem_singleton];rintro d rfl;exact i4
      ·simp only[gsetN la 18 _ HL.out (by decide),i4];rfl
      ·intro e10;rw[gsetN la 18 10 HL.out (by decide),if_neg (by decide)] at e10;exact hs0 e10
      ·intro e10 e20;rw[gsetN la 18 10 HL.out (by decide),if_neg (by decide)] at e10;rw[gsetN la 18 20 HL.out (by decide),if_neg (by decide)] at e20;exact hs1 e10 e20
      ·intro e20 e21;rw[gsetN la 18 20 HL.out (by decide),if_neg (by decide)] at e20;rw[gsetN la 18 21 HL.out (by decide),if_neg (by decide)] at e21;exact hs2 e20 e21
      ·intro e21;rw[gsetN la 18 21 HL.out (by decide),if_neg (by decide)] at e21;exact hs3 e21
     ·have i4:bitA la 18=true:=by simpa[Region.binds,bitA] using i3
      have b20:bitA la 20=false:=by cases e:bitA la 20 with | false=>rfl | true=>exact absurd (hcl 20 e 19 (by decide)) (by rw[i2];simp)
      have b21:bitA la 21=false:=by cases e:bitA la 21 with | false=>rfl | true=>exact absurd (hcl 20 (hcl 21 e 20 (by decide)) 19 (by decide)) (by rw[i2];simp)
      have c1:wx.cell? ⟨g1,i*2+1,none⟩=some (.int .i64 (p2:Int)):=by cases e10:bitA la 10 with | false=>rw[hs0 e10];exact Dr1.out | true=>obtain⟨L2,_,_,hm2,_⟩:=hs1 e10 b20;exact (hrow.out _ _ hm2.m).2.1
      clear b20 b21
      have HL:=hid hl;clear hl
      refine wpOpS_step rfl (fun K hK=>?_)
      simp only[i4,selV_t]
      go_simp
      refine hK _ _ ⟨by simpa using HL.out,hcl.step HL.out (by decide) ?_,d1,u1,d2,u2,ok,?_,?_,?_,?_,?_⟩
      ·show ∀d∈[18],_;simp only[List.mem_singleton];rintro d rfl;exact i4
      ·simp only[gsetN la 19 _ HL.out (by decide),i4];rfl
      ·intro e10;rw[gsetN la 19 10 HL.out (by decide),if_neg (by decide)] at e10;exact hs0 e10
      ·intro e10 e20;rw[gsetN la 19 10 HL.out (by decide),if_neg (by decide)] at e10;rw[gsetN la 19 20 HL.out (by decide),if_neg (by decide)] at e20;exact hs1 e10 e20
      ·intro e20 e21;rw[gsetN la 19 20 HL.out (by decide),if_neg (by decide)] at e20;rw[gsetN la 19 21 HL.out (by decide),if_neg (by decide)] at e21;exact hs2 e20 e21
      ·intro e21;rw[gsetN la 19 21 HL.out (by decide),if_neg (by decide)] at e21;exact hs3 e21
     ·have j11:bitA la 11=true:=dep_at i3 rfl (j:=0) rfl rfl
      have j19:bitA la 19=true:=dep_at i3 rfl (j:=1) rfl rfl
      have j10:bitA la 10=true:=dep_at i3 rfl (j:=2) rfl rfl
      have b20:bitA la 20=false:=i2
      have b21:bitA la 21=false:=by cases e:bitA la 21 with | false=>rfl | true=>exact absurd (hcl 21 e 20 (by decide)) (by rw[i2];simp)
      have e0:=hs1 j10 b20
      have HL:=hid hl;clear hl
      have Hb20:=hid b20;clear b20
      have Hb21:=hid b21;clear b21
      refine wpOpS_step rfl (fun K hK=>?_)
      simp only[j11,j19,selV_t]
      go_simp
      go_at_call 155
      refine (hc2.out _ _ _ _ e0).mono ?_
      rintro e wy ⟨d2',u2',rfl,hQ2⟩
      refine hK _ _ ⟨by simpa using HL.out,hcl.step HL.out (by decide) ?_,d1,u1,d2',u2',ok,?_,?_,?_,?_,?_⟩
      ·show ∀d∈[11,19,10],_;simp only[List.mem_cons,List.not_mem_nil,or_false];rintro d (rfl | rfl | rfl) <;> first | exact j11 | exact j19 | exact j10
      ·simp only[gsetN la 20 _ HL.out (by decide),j11,j19,j10,Hb20.out];rfl
      ·intro e10;rw[gsetN la 20 10 HL.out (by decide),if_neg (by decide),j10] at e10;cases e10
      ·intro e10 e20;rw[gsetN la 20 20 HL.out (by decide),if_pos rfl] at e20;cases e20
      ·intro _ _;exact hQ2
      ·intro e;rw[gsetN la 20 21 HL.out (by decide),if_neg (by decide),Hb21.out] at e;cases e
     ·have j0:bitA la 0=true:=dep_at i3 rfl (j:=0) rfl rfl
      have j10:bitA la 10=true:=dep_at i3 rfl (j:=1) rfl rfl
      have j20:bitA la 20=true:=dep_at i3 rfl (j:=2) rfl rfl
      have b21:bitA la 21=false:=i2
      have e0:=hs2 j20 b21
      have HL:=hid hl;clear hl
      have Hb21:=hid b21;clear b21
      refine wpOpS_step rfl (fun K hK=>?_)
      simp only[j0,j10,j20,selV_t]
      go_simp
      go_at_call 154
      refine (hc3.out _ _ _ _ _ _ e0).mono ?_
      rintro e wy ⟨ok',rfl,hQ3⟩
      have bl22:bitA la 22=false:=by cases e:bitA la 22 with | false=>rfl | true=>exact absurd (hcl 22 e 21 (by decide)) (by rw[Hb21.out];simp)
      refine hK _ _ ⟨by simpa using HL.out,hcl.step HL.out (by decide) ?_,d1,u1,d2,u2,ok',?_,?_,?_,?_,?_⟩
      ·show ∀d∈[0,10,20],_;simp only[List.mem_cons,List.not_mem_nil,or_false];rintro d (rfl | rfl | rfl) <;> first | exact j0 | exact j10 | exact j20
      ·simp only[gsetN la 21 _ HL.out (by decide),j0,j10,j20,Hb21.out,bl22];rfl
      ·intro e10;rw[gsetN la 21 10 HL.out (by decide),if_neg (by decide),j10] at e10;cases e10
      ·intro e10 e20;rw[gsetN la 21 20 HL.out (by decide),if_neg (by decide),j20] at e20;cases e20
      ·intro e20 e21;rw[gsetN la 21 21 HL.out (by decide),if_pos rfl] at e21;cases e21
      ·intro _;exact hQ3
     ·have i4:bitA la 21=true:=by simpa[Region.binds,bitA] using i3
      have HL:=hid hl;clear hl
      refine wpOpS_step rfl (fun K hK=>?_)
      simp only[i4,selV_t]
      go_simp
      refine hK _ _ ⟨by simpa using HL.out,hcl.step HL.out (by decide) ?_,d1,u1,d2,u2,ok,?_,?_,?_,?_,?_⟩
      ·show ∀d∈[21],_;simp only[List.mem_singleton];rintro d rfl;exact i4
      ·simp only[gsetN la 22 _ HL.out (by decide),i4];rfl
      ·intro e10;rw[gsetN la 22 10 HL.out (by decide),if_neg (by decide)] at e10;exact hs0 e10
      ·intro e10 e20;rw[gsetN la 22 10 HL.out (by decide),if_neg (by decide)] at e10;rw[gsetN la 22 20 HL.out (by decide),if_neg (by decide)] at e20;exact hs1 e10 e20
      ·intro e20 e21;rw[gsetN la 22 20 HL.out (by decide),if_neg (by decide)] at e20;rw[gsetN la 22 21 HL.out (by decide),if_neg (by decide)] at e21;exact hs2 e20 e21
      ·intro e21;rw[gsetN la 22 21 HL.out (by decide),if_neg (by decide)] at e21;exact hs3 e21
    case refine_2=>
     rintro la a wx ⟨hl,hcl,d1,u1,d2,u2,ok,rfl,hs0,hs1,hs2,hs3⟩ hr
     have n0:bitA la 0=true:=by
      rw[goppN hl (by omega)]
      exact noneN hr (i:=0) (by decide) (by simp[Region.binds])
     have m0:la[0]?.getD false=true:=by simpa[bitA] using n0
     have n1:bitA la 1=true:=by
      rw[goppN hl (by omega)]
      exact noneN hr (i:=1) (by decide) (by simp[Region.binds])
     have m1:la[1]?.getD false=true:=by simpa[bitA] using n1
     have n2:bitA la 2=true:=by
      rw[goppN hl (by omega)]
      exact noneN hr (i:=2) (by decide) (by simp[Region.binds])
     have m2:la[2]?.getD false=true:=by simpa[bitA] using n2
     have n3:bitA la 3=true:=by
      rw[goppN hl (by omega)]
      exact noneN hr (i:=3) (by decide) (by simp[Region.binds,m2])
     have m3:la[3]?.getD false=true:=by simpa[bitA] using n3
     have n4:bitA la 4=true:=by
      rw[goppN hl (by omega)]
      exact noneN hr (i:=4) (by decide) (by simp[Region.binds,m3])
     have m4:la[4]?.getD false=true:=by simpa[bitA] using n4
     have n5:bitA la 5=true:=by
      rw[goppN hl (by omega)]
      exact noneN hr (i:=5) (by decide) (by simp[Region.binds,m4])
     have m5:la[5]?.getD false=true:=by simpa[bitA] using n5
     have n6:bitA la 6=true:=by
      rw[goppN hl (by omega)]
      exact noneN hr (i:=6) (by decide) (by simp[Region.binds])
     have m6:la[6]?.getD false=true:=by simpa[bitA] using n6
     have n7:bitA la 7=true:=by
      rw[goppN hl (by omega)]
      exact noneN hr (i:=7) (by decide) (by simp[Region.binds,m5,m6])
     have m7:la[7]?.getD false=true:=by simpa[bitA] using n7
     have n8:bitA la 8=true:=by
      rw[goppN hl (by omega)]
      exact noneN hr (i:=8) (by decide) (by simp[Region.binds,m7])
     have m8:la[8]?.getD false=true:=by simpa[bitA] using n8
     have n9:bitA la 9=true:=by
      rw[goppN hl (by omega)]
      exact noneN hr (i:=9) (by decide) (by simp[Region.binds,m8])
     have m9:la[9]?.getD false=true:=by simpa[bitA] using n9
     have n10:bitA la 10=true:=by
      rw[goppN hl (by omega)]
      exact noneN hr (i:=10) (by decide) (by simp[Region.binds,m1,m9])
     have m10:la[10]?.getD false=true:=by simpa[bitA] using n10
     have n11:bitA la 11=true:=by
      rw[goppN hl (by omega)]
      exact noneN hr (i:=11) (by decide) (by simp[Region.binds])
     have m11:la[11]?.getD false=true:=by simpa[bitA] using n11
     have n12:bitA la 12=true:=by
      rw[goppN hl (by omega)]
      exact noneN hr (i:=12) (by decide) (by simp[Region.binds])
     have m12:la[12]?.getD false=true:=by simpa[bitA] using n12
     have n13:bitA la 13=true:=by
      rw[goppN hl (by omega)]
      exact noneN hr (i:=13) (by decide) (by simp[Region.binds,m12])
     have m13:la[13]?.getD false=true:=by simpa[bitA] using n13
     have n14:bitA la 14=true:=by
      rw[goppN hl (by omega)]
      exact noneN hr (i:=14) (by decide) (by simp[Region.binds,m13])
     have m14:la[14]?.getD false=true:=by simpa[bitA] using n14
     have n15:bitA la 15=true:=by
      rw[goppN hl (by omega)]
      exact noneN hr (i:=15) (by decide) (by simp[Region.binds,m14])
     have m15:la[15]?.getD false=true:=by simpa[bitA] using n15
     have n16:bitA la 16=true:=by
      rw[goppN hl (by omega)]
      exact noneN hr (i:=16) (by decide) (by simp[Region.binds])
     have m16:la[16]?.getD false=true:=by simpa[bitA] using n16
     have n17:bitA la 17=true:=by
      rw[goppN hl (by omega)]
      exact noneN hr (i:=17) (by decide) (by simp[Region.binds,m15,m16])
     have m17:la[17]?.getD false=true:=by simpa[bitA] using n17
     have n18:bitA la 18=true:=by
      rw[goppN hl (by omega)]
      exact noneN hr (i:=18) (by decide) (by simp[Region.binds,m17])
     have m18:la[18]?.getD false=true:=by simpa[bitA] using n18
     have n19:bitA la 19=true:=by
      rw[goppN hl (by omega)]
      exact noneN hr (i:=19) (by decide) (by simp[Region.binds,m18])
     have m19:la[19]?.getD false=true:=by simpa[bitA] using n19
     have n20:bitA la 20=true:=by
      rw[goppN hl (by omega)]
      exact noneN hr (i:=20) (by decide) (by simp[Region.binds,m11,m19,m10])
     have m20:la[20]?.getD false=true:=by simpa[bitA] using n20
     have n21:bitA la 21=true:=by
      rw[goppN hl (by omega)]
      exact noneN hr (i:=21) (by decide) (by simp[Region.binds,m0,m10,m20])
     have m21:la[21]?.getD false=true:=by simpa[bitA] using n21
     have n22:bitA la 22=true:=by
      rw[goppN hl (by omega)]
      exact noneN hr (i:=22) (by decide) (by simp[Region.binds,m21])
     have m22:la[22]?.getD false=true:=by simpa[bitA] using n22
     have hfin:=hs3 n21
     simp only[n0,n1,n2,n3,n4,n5,n6,n7,n8,n9,n10,n11,n12,n13,n14,n15,n16,n17,n18,n19,n20,n21,n22,selV_t]
     clear n0 m0 n1 m1 n2 m2 n3 m3 n4 m4 n5 m5 n6 m6 n7 m7 n8 m8 n9 m9 n10 m10 n11 m11 n12 m12 n13 m13 n14 m14 n15 m15 n16 m16 n17 m17 n18 m18 n19 m19 n20 m20 n21 m21 n22 m22 hr hcl hs0 hs1 hs2 hs3
     obtain⟨ledv',tdv',ls',td',L',E',hr⟩:=hfi.out _ _ hfin
     have HR:=hid hr
     clear hr hfin hc1 hc2 hc3 hfi hrow
     have e9:=Hva.out
     subst e9
     cases ok with
     | false=>
      go_wp2
      go_ret
      exact Or.inl ⟨rfl,ledv',tdv',ls',td',L',HR.out.u,⟨E',HR.out.d⟩,HR.out.no rfl⟩
     | true=>
      go_wp2
      go_roundg (9*fixN E' (utT l).length+(td'.length-(i+1)))
      case measure=>have h1:=(HR.out.yes rfl).2;have h2:=hgk.out;omega
      case rel=>exact⟨i+1,ledv',tdv',ls',td',L',E',congrArg (Value.int .i64) (by omega),HR.out.u,HR.out.d,(HR.out.yes rfl).1,Nat.le_refl _⟩
   ·obtain rfl:i=td1.length:=by omega
    go_wp2
    go_ret
    exact⟨true,ledv1,_,ls1,td1,L1,E1,rfl,hS1.out,hE1.out,fun _=>hJ.out.fin,fun e=>(by cases e)⟩
end
end Go.Proofs.YtpkojcfdkkjmcaaGreatDoor
