/- Package unify: write. -/
import Derived.Test.YtpkojcfdkkjmcaaGreatDoorso43Z
import Derived.Test.YtpkojcfdkkjmcaaGreatDoorso41Z
namespace Go.Proofs.YtpkojcfdkkjmcaaGreatDoor
set_option maxRecDepth 100000
open Go.RowKit Go.Maps
section
variable {W W' w0 w:World} {l:List Int} {V:Nat->Bool} {nm:List ByteArray} {B hb ab tb ub mq:Nat} {m:Int} {av tv:Value} {tq:Nat} {ptv trv0:Value} {ledv tdv:Value} {ls:List (Nat×Value)} {td:List (Nat×Nat)} {L:List Nat} {s:Hst} {E:Nat->Nat} {P:List (Nat×Nat)} {i:Nat}
theorem tmcs_at:∀{ls:List (Nat×Value)} {j:Nat},j<ls.length->∀k,k<6->(ls.flatMap (fun p=>tmc l nm p.1 p.2))[j*6+k]?=(tmc l nm (ls.getD j (0,undef)).1 (ls.getD j (0,undef)).2)[k]?
 | [],j,h,_,_=>by simp at h
 | p::r,0,_,k,hk=>by
  rw[List.flatMap_cons,Nat.zero_mul,Nat.zero_add,List.getElem?_append_left (by simp[tmc];omega)]
  rfl
 | p::r,j+1,h,k,hk=>by
  have h9:=tmcs_at (ls:=r) (j:=j) (by simpa using h) k hk
  rw[List.flatMap_cons,List.getElem?_append_right (by simp[tmc];omega)]
  rw[show (j+1)*6+k-(tmc l nm p.1 p.2).length=j*6+k by simp[tmc];omega,h9]
  rfl
theorem Um.lrow (h:Um W l nm hb ub mq ledv tdv ls td L w) {j:Nat} (hj:j<ls.length):∃g c,ledv=.slice (some ⟨g,0,none⟩) ls.length c/\g<w.heap.size/\∀k,k<6->w.cell? ⟨g,j*6+k,none⟩=(tmc l nm (ls.getD j (0,undef)).1 (ls.getD j (0,undef)).2)[k]?:=by
 have h0:=h.led
 obtain⟨ao,c,rfl,_⟩:=own_slq h0
 obtain⟨g,rfl⟩:∃g,ao=some ⟨g,0,none⟩:=by
  rcases h0.2 with⟨h1,h2⟩ | ⟨g,cap,cur,h1,_⟩
  ·omega
  ·injection h1 with h1 _ _
   exact⟨g,h1⟩
 exact⟨g,c,rfl,(h0.lt g rfl).2,fun k hk=>(h0.cellAt (j*6+k) (by omega)).trans (tmcs_at hj k hk)⟩
set_option maxHeartbeats 8000000 in
theorem uwrite_any (h:Uw W w0 l nm hb ub mq ledv tdv ls td E B ab tb m av tv tq trv0 ptv s 0 w0) (hns:s.ns=nm) (hnd:nm.Nodup) (hf:Few s) (hB:B<=W.heap.size) (hs:Snd l V) (hn:NsB l nm.length) (hl:l.length<=65536) {td2:List (Nat×Nat)} (hJ:Jn l nm P E ls td2 i) :
  Calls Tryz.prog 116 #[.pointer (some ⟨ub,0,none⟩)] w0 fun e w'=>e=.returned (.tuple #[])/\Uw W w0 l nm hb ub mq ledv tdv ls td E B ab tb m av tv tq trv0 ptv s ls.length w':=by
 have hll:ls.length<=65536:=by
  have h1:=hJ.cnt
  have h2:=ut_len (l:=l)
  omega
 have H:=hid h
 have HJ:=hid hJ
 have HS:=hid hs
 have HN:=hid hn
 have HF:=hid hf
 have HNS:=hid hns
 have HB:=hid hB
 obtain⟨W2,L2,_,hu2,_⟩:=h.um
 obtain⟨la,lc,hle,_⟩:=own_slq hu2.led
 subst hle
 obtain⟨⟨z0,z1,z2,z3⟩,⟨z4,z5⟩,z6⟩:=hu2.cells
 clear h hJ hs hn hf hns hB hu2
 go_enter Tryz.func116,Tryz.ntmps116
 go_wp2
 clear z0 z1 z2 z3 z4 z5 z6
 go_loopw [3,4,10] (fun _ _ s10 wr=>∃j:Nat,s10=.int .i64 (j:Int)/\j<=ls.length/\Hid (Uw W w0 l nm hb ub mq (.slice la ls.length lc) tdv ls td E B ab tb m av tv tq trv0 ptv s j wr)) (fun _ _ s10 _=>ls.length-(intOf s10).toNat)
 case atStart=>exact⟨0,rfl,Nat.zero_le _,H⟩
 case round=>
  obtain⟨j,rfl,hj,hS⟩:=hrel
  clear H
  by_cases hlt:j<ls.length
  ·have hjz:(j:Int)<(ls.length:Int):=by omega
   obtain⟨W3,L3,eW3,hu3,hE3⟩:=hS.out.um
   obtain⟨g,c9,e9,zg,hc⟩:=hu3.lrow hlt
   injection e9 with e9 _ e10
   subst e9 e10
   have hT0:=hu3.lt (ls.getD j (0,undef)) (by rw[show ls.getD j (0,undef)=ls[j] by simp[List.getD,hlt]];exact List.getElem_mem hlt)
   obtain⟨d,hd⟩:∃d,d=(ls.getD j (0,undef)).1:=⟨_,rfl⟩
   obtain⟨u,hu⟩:∃u,u=(ls.getD j (0,undef)).2:=⟨_,rfl⟩
   rw[←hd,←hu] at hT0 hc
   obtain⟨ao,dd,hue,_⟩:=id hT0.args
   rw[hue] at hc hT0
   have c0:wr.cell? ⟨g,j*6,none⟩=some (.int .i64 (tdK (trmW l d))):=hc 0 (by omega)
   have c1:wr.cell? ⟨g,j*6+1,none⟩=some (.int .i64 (tdA (trmW l d))):=hc 1 (by omega)
   have c2:wr.cell? ⟨g,j*6+2,none⟩=some (.string (tdS l nm (trmW l d))):=hc 2 (by omega)
   have c3:wr.cell? ⟨g,j*6+3,none⟩=some (.int .i64 (tdN (trmW l d))):=hc 3 (by omega)
   have c4:wr.cell? ⟨g,j*6+4,none⟩=some (.slice ao (tdL l (trmW l d)).length dd):=hc 4 (by omega)
   have c5:wr.cell? ⟨g,j*6+5,none⟩=some (.int .i64 (d:Int)):=hc 5 (by omega)
   have hb1:=below_alloc wr (tmB l nm d (.slice ao (tdL l (trmW l d)).length dd))
   have hx1:=hid (heap_alloc_new wr (tmB l nm d (.slice ao (tdL l (trmW l d)).length dd)))
   have hend:=hid (uend_any HS.out HN.out hl (hu3.next hb1) hE3 (hT0.keep (Ik.below hb1)))
   have hS1:=hid (hS.out.next hb1)
   have hmz:=hid hu3.mlt
   have HT0:=hid hT0
   have Hd:=hid hd
   have HW3:=hid eW3
   have hcd:Hid (d<l.length/\cellB l (d:Int)=true):=⟨hT0.lt,hT0.cell⟩
   clear hc hT0 hd hu hue hu3 hE3 hb1 eW3 hS
   by_cases hk:tdK (trmW l d)=1
   ·have k1:(tdK (trmW l d) == 1)=true:=by simpa using hk
    have Hk:=hid hk
    clear hk
    go_wp2_with (first
     | (go_at_call 156;refine hend.out.mono ?_;rintro e w2 ⟨L4,d2,u2,rfl,hT2,hu2,hm2,hl2,hk2,hmo2⟩;obtain⟨ao2,dd2,hue2,_⟩:=id hT2.args;subst hue2;have hS2:=hid (((hS1.out.end_ hm2 HW3.out hl2 hk2 hmo2).next (below_alloc w2 (tmB l nm d2 (.slice ao2 (tdL l (trmW l d2)).length dd2)))));have hx2:=hid ((Below.heap_alloc w2 (tmB l nm d2 (.slice ao2 (tdL l (trmW l d2)).length dd2)) _ (by have:=hmo2.size;simp at this;omega)).trans ((hmo2.block _ (lt_of_block hx1.out) (fun h9=>by have:=hmz.out;omega)).trans hx1.out));have hx3:=hid (heap_alloc_new w2 (tmB l nm d2 (.slice ao2 (tdL l (trmW l d2)).length dd2)));obtain⟨W5,L5,_,hu5,_⟩:=hS2.out.um;obtain⟨⟨y0,y1,y2,y3⟩,_,y6⟩:=hu5.cells;obtain⟨⟨x0,x1,x2,x3,x4,x5⟩,_,x6⟩:=tm_cells hx2.out;obtain⟨⟨v0,v1,v2,v3,v4,v5⟩,_,v6⟩:=tm_cells hx3.out;have hce:Hid (d2<l.length/\cellB l (d2:Int)=true):=⟨hT2.lt,hT2.cell⟩;have He2:=hid hu2;clear hT2 hu2 hm2 hl2 hk2 hmo2 hu5))
    have hbd:Hid (Calls Tryz.prog 157 #[.pointer (some ⟨hb,0,none⟩),.int .i64 (d:Int),.int .i64 (d2:Int)] (w2.alloc (tmB l nm d2 (.slice ao2 (tdL l (trmW l d2)).length dd2))).drew fun r w'=>(∃rv,r=.returned rv)/\Uw W w0 l nm hb ub mq (.slice (some ⟨g,0,none⟩) ls.length lc) tdv ls td E B ab tb m av tv tq trv0 ptv s (j+1) w'):=by
     have h9:=(hS2.out.next (Below.refl _ _).drew).bind HNS.out HF.out HB.out HS.out HN.out hl HJ.out hlt (by rw[←Hd.out];exact hcd.out) hce.out (by rw[←Hd.out];exact He2.out) (by rw[←Hd.out];exact Hk.out)
     rw[←Hd.out] at h9
     exact h9
    have D0:Hid ((w2.alloc (tmB l nm d2 (.slice ao2 (tdL l (trmW l d2)).length dd2))).drew.cell? ⟨ub,0,none⟩=some (.pointer (some ⟨hb,0,none⟩))):=y0
    have D5:Hid ((w2.alloc (tmB l nm d2 (.slice ao2 (tdL l (trmW l d2)).length dd2))).drew.cell? ⟨wr.heap.size,5,none⟩=some (.int .i64 (d:Int))):=x5
    have V5:Hid ((w2.alloc (tmB l nm d2 (.slice ao2 (tdL l (trmW l d2)).length dd2))).drew.cell? ⟨w2.heap.size,5,none⟩=some (.int .i64 (d2:Int))):=v5
    obtain⟨wd,hwd⟩:∃wd,wd=(w2.alloc (tmB l nm d2 (.slice ao2 (tdL l (trmW l d2)).length dd2))).drew:=⟨_,rfl⟩
    clear hx1 hx2 hx3 hend hS1 hS2 HT0 y0 y1 y2 y3 y6 x0 x1 x2 x3 x4 x5 x6 v0 v1 v2 v3 v4 v5 v6
    refine wp_region_any (by kernel_rfl) ?_
    change wpAny _ _ _ _ _ _ _ (w2.alloc (tmB l nm d2 (.slice ao2 (tdL l (trmW l d2)).length dd2))).drew
    rw[←hwd] at D0 D5 V5 hbd ⊢
    clear hwd
    refine wpAny_invS (fun la a wx=>la.size=9/\Clo (fun k=>match k with | 1=>[0] | 2=>[1] | 3=>[2] | 5=>[4] | 7=>[6] | 8=>[3,5,7] | _=>[]) la/\∃rv:Value,a=(⟨#[.pointer (some ⟨ub,0,none⟩),undef,undef,.pointer (some ⟨wr.heap.size,0,none⟩),.pointer (some ⟨w2.heap.size,0,none⟩),.pointer (some ⟨ub,0,none⟩),.pointer (some ⟨ub,0,none⟩),.pointer (some ⟨ub,1,none⟩),.slice (some ⟨g,0,none⟩) ls.length lc,.int .i64 (ls.length:Int),.int .i64 (j:Int),.bool true,.pointer (some ⟨g,j*6,none⟩),.agg #[.int .i64 (tdK (trmW l d)),.int .i64 (tdA (trmW l d)),.string (tdS l nm (trmW l d)),.int .i64 (tdN (trmW l d)),.slice ao (tdL l (trmW l d)).length dd,.int .i64 (d:Int)],.pointer (some ⟨ub,0,none⟩),.agg #[.int .i64 (tdK (trmW l d)),.int .i64 (tdA (trmW l d)),.string (tdS l nm (trmW l d)),.int .i64 (tdN (trmW l d)),.slice ao (tdL l (trmW l d)).length dd,.int .i64 (d:Int)],tmU l nm d2 (.slice ao2 (tdL l (trmW l d2)).length dd2),.pointer (some ⟨wr.heap.size,0,none⟩),.pointer (some ⟨wr.heap.size,0,none⟩),.int .i64 (tdK (trmW l d)),.bool true,(selV (bitA la 0) (.pointer (some ⟨ub,0,none⟩)) u21),(selV (bitA la 1) (.pointer (some ⟨ub,0,none⟩)) u22),(selV (bitA la 2) (.pointer (some ⟨ub,0,none⟩)) u23),(selV (bitA la 3) (.pointer (some ⟨hb,0,none⟩)) u24),(selV (bitA la 4) (.pointer (some ⟨wr.heap.size,5,none⟩)) u25),(selV (bitA la 5) (.int .i64 (d:Int)) u26),(selV (bitA la 6) (.pointer (some ⟨w2.heap.size,5,none⟩)) u27),(selV (bitA la 7) (.int .i64 (d2:Int)) u28),(selV (bitA la 8) (rv) u29),u30,u31,u32,u33,u34,u35,u36,u37,u38,u39],[]⟩:Act)/\(bitA la 8=false->wx=wd)/\(bitA la 8=true->Uw W w0 l nm hb ub mq (.slice (some ⟨g,0,none⟩) ls.length lc) tdv ls td E B ab tb m av tv tq trv0 ptv s (j+1) wx)) ?_ ?_ _ _ _ _ (by decide) ?_
    case refine_3=>
     exact⟨by simp,Clo.start _ _,undef,rfl,fun _=>rfl,fun e=>absurd e (by decide)⟩
    case refine_1=>
     rintro la a wx ⟨hl,hcl,rv,rfl,hs0,hs1⟩ i hi
     obtain⟨i1,i2,i3⟩:=ready_spec hi
     have hiN:i<9:=i1
     rw[←goppN hl hiN] at i2
     clear hi i1
     have hcs:i=0∨i=1∨i=2∨i=3∨i=4∨i=5∨i=6∨i=7∨i=8:=by omega
     rcases hcs with rfl | rfl | rfl | rfl | rfl | rfl | rfl | rfl | rfl
     ·have b8:bitA la 8=false:=by cases e:bitA la 8 with | false=>rfl | true=>exact absurd (hcl 1 (hcl 2 (hcl 3 (hcl 8 e 3 (by decide)) 2 (by decide)) 1 (by decide)) 0 (by decide)) (by rw[i2];simp)
      have e0:=hs0 b8
      subst e0
      have HL:=hid hl;clear hl
      have Hb8:=hid b8;clear b8
      refine wpOpS_step rfl (fun K hK=>?_)
      go_simp
      refine hK _ _ ⟨by simpa using HL.out,hcl.step HL.out (by decide) ?_,rv,?_,?_,?_⟩
      ·intro d hd;cases hd
      ·simp only[gsetN la 0 _ HL.out (by decide)];rfl
      ·intro _;rfl
      ·intro e;rw[gsetN la 0 8 HL.out (by decide),if_neg (by decide),Hb8.out] at e;cases e
     ·have i4:bitA la 0=true:=by simpa[Region.binds,bitA] using i3
      have b8:bitA la 8=false:=by cases e:bitA la 8 with | false=>rfl | true=>exact absurd (hcl 2 (hcl 3 (hcl 8 e 3 (by decide)) 2 (by decide)) 1 (by decide)) (by rw[i2];simp)
      have e0:=hs0 b8
      subst e0
      have HL:=hid hl;clear hl
      have Hb8:=hid b8;clear b8
      refine wpOpS_step rfl (fun K hK=>?_)
      simp only[i4,selV_t]
      go_simp
      refine hK _ _ ⟨by simpa using HL.out,hcl.step HL.out (by decide) ?_,rv,?_,?_,?_⟩
      ·show ∀d∈[0],_;simp only[List.mem_singleton];rintro d rfl;exact i4
      ·simp only[gsetN la 1 _ HL.out (by decide),i4];rfl
      ·intro _;rfl
      ·intro e;rw[gsetN la 1 8 HL.out (by decide),if_neg (by decide),Hb8.out] at e;cases e
     ·have i4:bitA la 1=true:=by simpa[Region.binds,bitA] using i3
      have b8:bitA la 8=false:=by cases e:bitA la 8 with | false=>rfl | true=>exact absurd (hcl 3 (hcl 8 e 3 (by decide)) 2 (by decide)) (by rw[i2];simp)
      have e0:=hs0 b8
      subst e0
      have HL:=hid hl;clear hl
      have Hb8:=hid b8;clear b8
      refine wpOpS_step rfl (fun K hK=>?_)
      simp only[i4,selV_t]
      go_simp
      refine hK _ _ ⟨by simpa using HL.out,hcl.step HL.out (by decide) ?_,rv,?_,?_,?_⟩
      ·show ∀d∈[1],_;simp only[List.mem_singleton];rintro d rfl;exact i4
      ·simp only[gsetN la 2 _ HL.out (by decide),i4];rfl
      ·intro _;rfl
      ·intro e;rw[gsetN la 2 8 HL.out (by decide),if_neg (by decide),Hb8.out] at e;cases e
     ·have i4:bitA la 2=true:=by simpa[Region.binds,bitA] using i3
      have b8:bitA la 8=false:=by cases e:bitA la 8 with | false=>rfl | true=>exact absurd (hcl 8 e 3 (by decide)) (by rw[i2];simp)
      have e0:=hs0 b8
      subst e0
      have c0:=D0.out
      have HL:=hid hl;clear hl
      have Hb8:=hid b8;clear b8
      refine wpOpS_step rfl (fun K hK=>?_)
      simp only[i4,selV_t]
      go_simp
      refine hK _ _ ⟨by simpa using HL.out,hcl.step HL.out (by decide) ?_,rv,?_,?_,?_⟩
      ·show ∀d∈[2],_;simp only[List.mem_singleton];rintro d rfl;exact i4
      ·simp only[gsetN la 3 _ HL.out (by decide),i4];rfl
      ·intro _;rfl
      ·intro e;rw[gsetN la 3 8 HL.out (by decide),if_neg (by decide),Hb8.out] at e;cases e
     ·have b8:bitA la 8=false:=by cases e:bitA la 8 with | false=>rfl | true=>exact absurd (hcl 5 (hcl 8 e 5 (by decide)) 4 (by decide)) (by rw[i2];simp)
      have e0:=hs0 b8
      subst e0
      have HL:=hid hl;clear hl
      have Hb8:=hid b8;clear b8
      refine wpOpS_step rfl (fun K hK=>?_)
      go_simp
      refine hK _ _ ⟨by simpa using HL.out,hcl.step HL.out (by decide) ?_,rv,?_,?_,?_⟩
      ·intro d hd;cases hd
      ·simp only[gsetN la 4 _ HL.out (by decide)];rfl
      ·intro _;rfl
      ·intro e;rw[gsetN la 4 8 HL.out (by decide),if_neg (by decide),Hb8.out] at e;cases e
     ·have i4:bitA la 4=true:=by simpa[Region.binds,bitA] using i3
      have b8:bitA la 8=false:=by cases e:bitA la 8 with | false=>rfl | true=>exact absurd (hcl 8 e 5 (by decide)) (by rw[i2];simp)
      have e0:=hs0 b8
      subst e0
      have c0:=D5.out
      have HL:=hid hl;clear hl
      have Hb8:=hid b8;clear b8
      refine wpOpS_step rfl (fun K hK=>?_)
      simp only[i4,selV_t]
      go_simp
      refine hK _ _ ⟨by simpa using HL.out,hcl.step HL.out (by decide) ?_,rv,?_,?_,?_⟩
      ·show ∀d∈[4],_;simp only[List.mem_singleton];rintro d rfl;exact i4
      ·simp only[gsetN la 5 _ HL.out (by decide),i4];rfl
      ·intro _;rfl
      ·intro e;rw[gsetN la 5 8 HL.out (by decide),if_neg (by decide),Hb8.out] at e;cases e
     ·have b8:bitA la 8=false:=by cases e:bitA la 8 with | false=>rfl | true=>exact absurd (hcl 7 (hcl 8 e 7 (by decide)) 6 (by decide)) (by rw[i2];simp)
      have e0:=hs0 b8
      subst e0
      have HL:=hid hl;clear hl
      have Hb8:=hid b8;clear b8
      refine wpOpS_step rfl (fun K hK=>?_)
      go_simp
      refine hK _ _ ⟨by simpa using HL.out,hcl.step HL.out (by decide) ?_,rv,?_,?_,?_⟩
      ·intro d hd;cases hd
      ·simp only[gsetN la 6 _ HL.out (by decide)];rfl
      ·intro _;rfl
      ·intro e;rw[gsetN la 6 8 HL.out (by decide),if_neg (by decide),Hb8.out] at e;cases e
     ·have i4:bitA la 6=true:=by simpa[Region.binds,bitA] using i3
      have b8:bitA la 8=false:=by cases e:bitA la 8 with | false=>rfl | true=>exact absurd (hcl 8 e 7 (by decide)) (by rw[i2];simp)
      have e0:=hs0 b8
      subst e0
      have c0:=V5.out
      have HL:=hid hl;clear hl
      have Hb8:=hid b8;clear b8
      refine wpOpS_step rfl (fun K hK=>?_)
      simp only[i4,selV_t]
      go_simp
      refine hK _ _ ⟨by simpa using HL.out,hcl.step HL.out (by decide) ?_,rv,?_,?_,?_⟩
      ·show ∀d∈[6],_;simp only[List.mem_singleton];rintro d rfl;exact i4
      ·simp only[gsetN la 7 _ HL.out (by decide),i4];rfl
      ·intro _;rfl
      ·intro e;rw[gsetN la 7 8 HL.out (by decide),if_neg (by decide),Hb8.out] at e;cases e
     ·have i4:bitA la 3=true/\bitA la 5=true/\bitA la 7=true:=by simpa[Region.binds,bitA] using i3
      have b8:bitA la 8=false:=i2
      have e0:=hs0 b8
      subst e0
      have HL:=hid hl;clear hl
      have Hb8:=hid b8;clear b8
      refine wpOpS_step rfl (fun K hK=>?_)
      simp only[i4.1,i4.2.1,i4.2.2,selV_t]
      go_simp
      go_at_call 157
      refine hbd.out.mono ?_
      rintro e wy ⟨⟨rv',rfl⟩,hS4⟩
      refine hK _ _ ⟨by simpa using HL.out,hcl.step HL.out (by decide) ?_,rv',?_,?_,?_⟩
      ·show ∀d∈[3,5,7],_;simp only[List.mem_cons,List.not_mem_nil,or_false];rintro d (rfl | rfl | rfl) <;> first | exact i4.1 | exact i4.2.1 | exact i4.2.2
      ·simp only[gsetN la 8 _ HL.out (by decide),i4.1,i4.2.1,i4.2.2,Hb8.out];rfl
      ·intro e8;rw[gsetN la 8 8 HL.out (by decide),if_pos rfl] at e8;cases e8
      ·intro _;exact hS4
    case refine_2=>
     rintro la a wx ⟨hl,hcl,rv,rfl,hs0,hs1⟩ hr
     have n0:bitA la 0=true:=by
      rw[goppN hl (by omega)]
      exact noneN hr (i:=0) (by decide) (by simp[Region.binds])
     have m0:la[0]?.getD false=true:=by simpa[bitA] using n0
     have n1:bitA la 1=true:=by
      rw[goppN hl (by omega)]
      exact noneN hr (i:=1) (by decide) (by simp[Region.binds,m0])
     have m1:la[1]?.getD false=true:=by simpa[bitA] using n1
     have n2:bitA la 2=true:=by
      rw[goppN hl (by omega)]
      exact noneN hr (i:=2) (by decide) (by simp[Region.binds,m1])
     have m2:la[2]?.getD false=true:=by simpa[bitA] using n2
     have n3:bitA la 3=true:=by
      rw[goppN hl (by omega)]
      exact noneN hr (i:=3) (by decide) (by simp[Region.binds,m2])
     have m3:la[3]?.getD false=true:=by simpa[bitA] using n3
     have n4:bitA la 4=true:=by
      rw[goppN hl (by omega)]
      exact noneN hr (i:=4) (by decide) (by simp[Region.binds])
     have m4:la[4]?.getD false=true:=by simpa[bitA] using n4
     have n5:bitA la 5=true:=by
      rw[goppN hl (by omega)]
      exact noneN hr (i:=5) (by decide) (by simp[Region.binds,m4])
     have m5:la[5]?.getD false=true:=by simpa[bitA] using n5
     have n6:bitA la 6=true:=by
      rw[goppN hl (by omega)]
      exact noneN hr (i:=6) (by decide) (by simp[Region.binds])
     have m6:la[6]?.getD false=true:=by simpa[bitA] using n6
     have n7:bitA la 7=true:=by
      rw[goppN hl (by omega)]
      exact noneN hr (i:=7) (by decide) (by simp[Region.binds,m6])
     have m7:la[7]?.getD false=true:=by simpa[bitA] using n7
     have n8:bitA la 8=true:=by
      rw[goppN hl (by omega)]
      exact noneN hr (i:=8) (by decide) (by simp[Region.binds,m3,m5,m7])
     have m8:la[8]?.getD false=true:=by simpa[bitA] using n8
     have hfin:=hs1 n8
     simp only[n0,n1,n2,n3,n4,n5,n6,n7,n8,selV_t]
     clear n0 m0 n1 m1 n2 m2 n3 m3 n4 m4 n5 m5 n6 m6 n7 m7 n8 m8 hr hcl hs0 hs1
     have HS4:=hid hfin
     go_wp2
     go_roundw
     case rel=>exact⟨j+1,congrArg (Value.int .i64) (by omega),by omega,HS4⟩
     case measure=>simp[intOf];omega
   ·have k1:(tdK (trmW l d) == 1)=false:=beq_eq_false_iff_ne.2 hk
    have Hk:=hid hk
    clear hk
    go_wp2_with (first
     | (go_at_call 156;refine hend.out.mono ?_;rintro e w2 ⟨L4,d2,u2,rfl,hT2,hu2,hm2,hl2,hk2,hmo2⟩;obtain⟨ao2,dd2,hue2,_⟩:=id hT2.args;subst hue2;have hS2:=hid (((hS1.out.end_ hm2 HW3.out hl2 hk2 hmo2).next (below_alloc w2 (tmB l nm d2 (.slice ao2 (tdL l (trmW l d2)).length dd2)))));have hx2:=hid ((Below.heap_alloc w2 (tmB l nm d2 (.slice ao2 (tdL l (trmW l d2)).length dd2)) _ (by have:=hmo2.size;simp at this;omega)).trans ((hmo2.block _ (lt_of_block hx1.out) (fun h9=>by have:=hmz.out;omega)).trans hx1.out));have hx3:=hid (heap_alloc_new w2 (tmB l nm d2 (.slice ao2 (tdL l (trmW l d2)).length dd2)));obtain⟨W5,L5,_,hu5,_⟩:=hS2.out.um;obtain⟨⟨y0,y1,y2,y3⟩,_,y6⟩:=hu5.cells;obtain⟨⟨x0,x1,x2,x3,x4,x5⟩,_,x6⟩:=tm_cells hx2.out;obtain⟨⟨v0,v1,v2,v3,v4,v5⟩,_,v6⟩:=tm_cells hx3.out;have hce:Hid (d2<l.length/\cellB l (d2:Int)=true):=⟨hT2.lt,hT2.cell⟩;have He2:=hid hu2;clear hT2 hu2 hm2 hl2 hk2 hmo2 hu5))
    have hbd:Hid (Calls Tryz.prog 158 #[.pointer (some ⟨hb,0,none⟩),.int .i64 (d:Int),.int .i64 (d2:Int)] (w2.alloc (tmB l nm d2 (.slice ao2 (tdL l (trmW l d2)).length dd2))).drew fun r w'=>(∃rv,r=.returned rv)/\Uw W w0 l nm hb ub mq (.slice (some ⟨g,0,none⟩) ls.length lc) tdv ls td E B ab tb m av tv tq trv0 ptv s (j+1) w'):=by
     have h9:=(hS2.out.next (Below.refl _ _).drew).merge HNS.out hnd HF.out HB.out HS.out HN.out hl HJ.out hlt (by rw[←Hd.out];exact hcd.out) hce.out (by rw[←Hd.out];exact He2.out) (by rw[←Hd.out];exact Hk.out)
     rw[←Hd.out] at h9
     exact h9
    have D0:Hid ((w2.alloc (tmB l nm d2 (.slice ao2 (tdL l (trmW l d2)).length dd2))).drew.cell? ⟨ub,0,none⟩=some (.pointer (some ⟨hb,0,none⟩))):=y0
    have D5:Hid ((w2.alloc (tmB l nm d2 (.slice ao2 (tdL l (trmW l d2)).length dd2))).drew.cell? ⟨wr.heap.size,5,none⟩=some (.int .i64 (d:Int))):=x5
    have V5:Hid ((w2.alloc (tmB l nm d2 (.slice ao2 (tdL l (trmW l d2)).length dd2))).drew.cell? ⟨w2.heap.size,5,none⟩=some (.int .i64 (d2:Int))):=v5
    obtain⟨wd,hwd⟩:∃wd,wd=(w2.alloc (tmB l nm d2 (.slice ao2 (tdL l (trmW l d2)).length dd2))).drew:=⟨_,rfl⟩
    clear hx1 hx2 hx3 hend hS1 hS2 HT0 y0 y1 y2 y3 y6 x0 x1 x2 x3 x4 x5 x6 v0 v1 v2 v3 v4 v5 v6
    refine wp_region_any (by kernel_rfl) ?_
    change wpAny _ _ _ _ _ _ _ (w2.alloc (tmB l nm d2 (.slice ao2 (tdL l (trmW l d2)).length dd2))).drew
    rw[←hwd] at D0 D5 V5 hbd ⊢
    clear hwd
    refine wpAny_invS (fun la a wx=>la.size=9/\Clo (fun k=>match k with | 1=>[0] | 2=>[1] | 3=>[2] | 5=>[4] | 7=>[6] | 8=>[3,5,7] | _=>[]) la/\∃rv:Value,a=(⟨#[.pointer (some ⟨ub,0,none⟩),undef,undef,.pointer (some ⟨wr.heap.size,0,none⟩),.pointer (some ⟨w2.heap.size,0,none⟩),.pointer (some ⟨ub,0,none⟩),.pointer (some ⟨ub,0,none⟩),.pointer (some ⟨ub,1,none⟩),.slice (some ⟨g,0,none⟩) ls.length lc,.int .i64 (ls.length:Int),.int .i64 (j:Int),.bool true,.pointer (some ⟨g,j*6,none⟩),.agg #[.int .i64 (tdK (trmW l d)),.int .i64 (tdA (trmW l d)),.string (tdS l nm (trmW l d)),.int .i64 (tdN (trmW l d)),.slice ao (tdL l (trmW l d)).length dd,.int .i64 (d:Int)],.pointer (some ⟨ub,0,none⟩),.agg #[.int .i64 (tdK (trmW l d)),.int .i64 (tdA (trmW l d)),.string (tdS l nm (trmW l d)),.int .i64 (tdN (trmW l d)),.slice ao (tdL l (trmW l d)).length dd,.int .i64 (d:Int)],tmU l nm d2 (.slice ao2 (tdL l (trmW l d2)).length dd2),.pointer (some ⟨wr.heap.size,0,none⟩),.pointer (some ⟨wr.heap.size,0,none⟩),.int .i64 (tdK (trmW l d)),.bool false,u21,u22,u23,u24,u25,u26,u27,u28,u29,(selV (bitA la 0) (.pointer (some ⟨ub,0,none⟩)) u30),(selV (bitA la 1) (.pointer (some ⟨ub,0,none⟩)) u31),(selV (bitA la 2) (.pointer (some ⟨ub,0,none⟩)) u32),(selV (bitA la 3) (.pointer (some ⟨hb,0,none⟩)) u33),(selV (bitA la 4) (.pointer (some ⟨wr.heap.size,5,none⟩)) u34),(selV (bitA la 5) (.int .i64 (d:Int)) u35),(selV (bitA la 6) (.pointer (some ⟨w2.heap.size,5,none⟩)) u36),(selV (bitA la 7) (.int .i64 (d2:Int)) u37),(selV (bitA la 8) (rv) u38),u39],[]⟩:Act)/\(bitA la 8=false->wx=wd)/\(bitA la 8=true->Uw W w0 l nm hb ub mq (.slice (some ⟨g,0,none⟩) ls.length lc) tdv ls td E B ab tb m av tv tq trv0 ptv s (j+1) wx)) ?_ ?_ _ _ _ _ (by decide) ?_
    case refine_3=>
     exact⟨by simp,Clo.start _ _,undef,rfl,fun _=>rfl,fun e=>absurd e (by decide)⟩
    case refine_1=>
     rintro la a wx ⟨hl,hcl,rv,rfl,hs0,hs1⟩ i hi
     obtain⟨i1,i2,i3⟩:=ready_spec hi
     have hiN:i<9:=i1
     rw[←goppN hl hiN] at i2
     clear hi i1
     have hcs:i=0∨i=1∨i=2∨i=3∨i=4∨i=5∨i=6∨i=7∨i=8:=by omega
     rcases hcs with rfl | rfl | rfl | rfl | rfl | rfl | rfl | rfl | rfl
     ·have b8:bitA la 8=false:=by cases e:bitA la 8 with | false=>rfl | true=>exact absurd (hcl 1 (hcl 2 (hcl 3 (hcl 8 e 3 (by decide)) 2 (by decide)) 1 (by decide)) 0 (by decide)) (by rw[i2];simp)
      have e0:=hs0 b8
      subst e0
      have HL:=hid hl;clear hl
      have Hb8:=hid b8;clear b8
      refine wpOpS_step rfl (fun K hK=>?_)
      go_simp
      refine hK _ _ ⟨by simpa using HL.out,hcl.step HL.out (by decide) ?_,rv,?_,?_,?_⟩
      ·intro d hd;cases hd
      ·simp only[gsetN la 0 _ HL.out (by decide)];rfl
      ·intro _;rfl
      ·intro e;rw[gsetN la 0 8 HL.out (by decide),if_neg (by decide),Hb8.out] at e;cases e
     ·have i4:bitA la 0=true:=by simpa[Region.binds,bitA] using i3
      have b8:bitA la 8=false:=by cases e:bitA la 8 with | false=>rfl | true=>exact absurd (hcl 2 (hcl 3 (hcl 8 e 3 (by decide)) 2 (by decide)) 1 (by decide)) (by rw[i2];simp)
      have e0:=hs0 b8
      subst e0
      have HL:=hid hl;clear hl
      have Hb8:=hid b8;clear b8
      refine wpOpS_step rfl (fun K hK=>?_)
      simp only[i4,selV_t]
      go_simp
      refine hK _ _ ⟨by simpa using HL.out,hcl.step HL.out (by decide) ?_,rv,?_,?_,?_⟩
      ·show ∀d∈[0],_;simp only[List.mem_singleton];rintro d rfl;exact i4
      ·simp only[gsetN la 1 _ HL.out (by decide),i4];rfl
      ·intro _;rfl
      ·intro e;rw[gsetN la 1 8 HL.out (by decide),if_neg (by decide),Hb8.out] at e;cases e
     ·have i4:bitA la 1=true:=by simpa[Region.binds,bitA] using i3
      have b8:bitA la 8=false:=by cases e:bitA la 8 with | false=>rfl | true=>exact absurd (hcl 3 (hcl 8 e 3 (by decide)) 2 (by decide)) (by rw[i2];simp)
      have e0:=hs0 b8
      subst e0
      have HL:=hid hl;clear hl
      have Hb8:=hid b8;clear b8
      refine wpOpS_step rfl (fun K hK=>?_)
      simp only[i4,selV_t]
      go_simp
      refine hK _ _ ⟨by simpa using HL.out,hcl.step HL.out (by decide) ?_,rv,?_,?_,?_⟩
      ·show ∀d∈[1],_;simp only[List.mem_singleton];rintro d rfl;exact i4
      ·simp only[gsetN la 2 _ HL.out (by decide),i4];rfl
      ·intro _;rfl
      ·intro e;rw[gsetN la 2 8 HL.out (by decide),if_neg (by decide),Hb8.out] at e;cases e
     ·have i4:bitA la 2=true:=by simpa[Region.binds,bitA] using i3
      have b8:bitA la 8=false:=by cases e:bitA la 8 with | false=>rfl | true=>exact absurd (hcl 8 e 3 (by decide)) (by rw[i2];simp)
      have e0:=hs0 b8
      subst e0
      have c0:=D0.out
      have HL:=hid hl;clear hl
      have Hb8:=hid b8;clear b8
      refine wpOpS_step rfl (fun K hK=>?_)
      simp only[i4,selV_t]
      go_simp
      refine hK _ _ ⟨by simpa using HL.out,hcl.step HL.out (by decide) ?_,rv,?_,?_,?_⟩
      ·show ∀d∈[2],_;simp only[List.mem_singleton];rintro d rfl;exact i4
      ·simp only[gsetN la 3 _ HL.out (by decide),i4];rfl
      ·intro _;rfl
      ·intro e;rw[gsetN la 3 8 HL.out (by decide),if_neg (by decide),Hb8.out] at e;cases e
     ·have b8:bitA la 8=false:=by cases e:bitA la 8 with | false=>rfl | true=>exact absurd (hcl 5 (hcl 8 e 5 (by decide)) 4 (by decide)) (by rw[i2];simp)
      have e0:=hs0 b8
      subst e0
      have HL:=hid hl;clear hl
      have Hb8:=hid b8;clear b8
      refine wpOpS_step rfl (fun K hK=>?_)
      go_simp
      refine hK _ _ ⟨by simpa using HL.out,hcl.step HL.out (by decide) ?_,rv,?_,?_,?_⟩
      ·intro d hd;cases hd
      ·simp only[gsetN la 4 _ HL.out (by decide)];rfl
      ·intro _;rfl
      ·intro e;rw[gsetN la 4 8 HL.out (by decide),if_neg (by decide),Hb8.out] at e;cases e
     ·have i4:bitA la 4=true:=by simpa[Region.binds,bitA] using i3
      have b8:bitA la 8=false:=by cases e:bitA la 8 with | false=>rfl | true=>exact absurd (hcl 8 e 5 (by decide)) (by rw[i2];simp)
      have e0:=hs0 b8
      subst e0
      have c0:=D5.out
      have HL:=hid hl;clear hl
      have Hb8:=hid b8;clear b8
      refine wpOpS_step rfl (fun K hK=>?_)
      simp only[i4,selV_t]
      go_simp
      refine hK _ _ ⟨by simpa using HL.out,hcl.step HL.out (by decide) ?_,rv,?_,?_,?_⟩
      ·show ∀d∈[4],_;simp only[List.mem_singleton];rintro d rfl;exact i4
      ·simp only[gsetN la 5 _ HL.out (by decide),i4];rfl
      ·intro _;rfl
      ·intro e;rw[gsetN la 5 8 HL.out (by decide),if_neg (by decide),Hb8.out] at e;cases e
     ·have b8:bitA la 8=false:=by cases e:bitA la 8 with | false=>rfl | true=>exact absurd (hcl 7 (hcl 8 e 7 (by decide)) 6 (by decide)) (by rw[i2];simp)
      have e0:=hs0 b8
      subst e0
      have HL:=hid hl;clear hl
      have Hb8:=hid b8;clear b8
      refine wpOpS_step rfl (fun K hK=>?_)
      go_simp
      refine hK _ _ ⟨by simpa using HL.out,hcl.step HL.out (by decide) ?_,rv,?_,?_,?_⟩
      ·intro d hd;cases hd
      ·simp only[gsetN la 6 _ HL.out (by decide)];rfl
      ·intro _;rfl
      ·intro e;rw[gsetN la 6 8 HL.out (by decide),if_neg (by decide),Hb8.out] at e;cases e
     ·have i4:bitA la 6=true:=by simpa[Region.binds,bitA] using i3
      have b8:bitA la 8=false:=by cases e:bitA la 8 with | false=>rfl | true=>exact absurd (hcl 8 e 7 (by decide)) (by rw[i2];simp)
      have e0:=hs0 b8
      subst e0
      have c0:=V5.out
      have HL:=hid hl;clear hl
      have Hb8:=hid b8;clear b8
      refine wpOpS_step rfl (fun K hK=>?_)
      simp only[i4,selV_t]
      go_simp
      refine hK _ _ ⟨by simpa using HL.out,hcl.step HL.out (by decide) ?_,rv,?_,?_,?_⟩
      ·show ∀d∈[6],_;simp only[List.mem_singleton];rintro d rfl;exact i4
      ·simp only[gsetN la 7 _ HL.out (by decide),i4];rfl
      ·intro _;rfl
      ·intro e;rw[gsetN la 7 8 HL.out (by decide),if_neg (by decide),Hb8.out] at e;cases e
     ·have i4:bitA la 3=true/\bitA la 5=true/\bitA la 7=true:=by simpa[Region.binds,bitA] using i3
      have b8:bitA la 8=false:=i2
      have e0:=hs0 b8
      subst e0
      have HL:=hid hl;clear hl
      have Hb8:=hid b8;clear b8
      refine wpOpS_step rfl (fun K hK=>?_)
      simp only[i4.1,i4.2.1,i4.2.2,selV_t]
      go_simp
      go_at_call 158
      refine hbd.out.mono ?_
      rintro e wy ⟨⟨rv',rfl⟩,hS4⟩
      refine hK _ _ ⟨by simpa using HL.out,hcl.step HL.out (by decide) ?_,rv',?_,?_,?_⟩
      ·show ∀d∈[3,5,7],_;simp only[List.mem_cons,List.not_mem_nil,or_false];rintro d (rfl | rfl | rfl) <;> first | exact i4.1 | exact i4.2.1 | exact i4.2.2
      ·simp only[gsetN la 8 _ HL.out (by decide),i4.1,i4.2.1,i4.2.2,Hb8.out];rfl
      ·intro e8;rw[gsetN la 8 8 HL.out (by decide),if_pos rfl] at e8;cases e8
      ·intro _;exact hS4
    case refine_2=>
     rintro la a wx ⟨hl,hcl,rv,rfl,hs0,hs1⟩ hr
     have n0:bitA la 0=true:=by
      rw[goppN hl (by omega)]
      exact noneN hr (i:=0) (by decide) (by simp[Region.binds])
     have m0:la[0]?.getD false=true:=by simpa[bitA] using n0
     have n1:bitA la 1=true:=by
      rw[goppN hl (by omega)]
      exact noneN hr (i:=1) (by decide) (by simp[Region.binds,m0])
     have m1:la[1]?.getD false=true:=by simpa[bitA] using n1
     have n2:bitA la 2=true:=by
      rw[goppN hl (by omega)]
      exact noneN hr (i:=2) (by decide) (by simp[Region.binds,m1])
     have m2:la[2]?.getD false=true:=by simpa[bitA] using n2
     have n3:bitA la 3=true:=by
      rw[goppN hl (by omega)]
      exact noneN hr (i:=3) (by decide) (by simp[Region.binds,m2])
     have m3:la[3]?.getD false=true:=by simpa[bitA] using n3
     have n4:bitA la 4=true:=by
      rw[goppN hl (by omega)]
      exact noneN hr (i:=4) (by decide) (by simp[Region.binds])
     have m4:la[4]?.getD false=true:=by simpa[bitA] using n4
     have n5:bitA la 5=true:=by
      rw[goppN hl (by omega)]
      exact noneN hr (i:=5) (by decide) (by simp[Region.binds,m4])
     have m5:la[5]?.getD false=true:=by simpa[bitA] using n5
     have n6:bitA la 6=true:=by
      rw[goppN hl (by omega)]
      exact noneN hr (i:=6) (by decide) (by simp[Region.binds])
     have m6:la[6]?.getD false=true:=by simpa[bitA] using n6
     have n7:bitA la 7=true:=by
      rw[goppN hl (by omega)]
      exact noneN hr (i:=7) (by decide) (by simp[Region.binds,m6])
     have m7:la[7]?.getD false=true:=by simpa[bitA] using n7
     have n8:bitA la 8=true:=by
      rw[goppN hl (by omega)]
      exact noneN hr (i:=8) (by decide) (by simp[Region.binds,m3,m5,m7])
     have m8:la[8]?.getD false=true:=by simpa[bitA] using n8
     have hfin:=hs1 n8
     simp only[n0,n1,n2,n3,n4,n5,n6,n7,n8,selV_t]
     clear n0 m0 n1 m1 n2 m2 n3 m3 n4 m4 n5 m5 n6 m6 n7 m7 n8 m8 hr hcl hs0 hs1
     have HS4:=hid hfin
     go_wp2
     go_roundw
     case rel=>exact⟨j+1,congrArg (Value.int .i64) (by omega),by omega,HS4⟩
     case measure=>simp[intOf];omega
  ·obtain rfl:j=ls.length:=by omega
   go_wp2
   go_end0
   exact⟨rfl,hS.out⟩
end
end Go.Proofs.YtpkojcfdkkjmcaaGreatDoor
