/- UnifySolves of layer 12 holds at every graph and every two numbers: what all nodes have become behind Unify is what Solve answers. -/
import Derived.Test.YtpkojcfdkkjmcaaGreatDoorso36Z
import Derived.Test.YtpkojcfdkkjmcaaGreatDoorso52Z
/- UnifySolves: its walk at good graphs and nodes. -/
namespace Go.Proofs.YtpkojcfdkkjmcaaGreatDoor
set_option maxRecDepth 100000
open Go.RowKit Go.Maps
section
variable {W:World} {nv rv:Value} {g:Gf}
theorem fits_least {g:Gf} (hg:Good g) {ps:List (Int×Int)} {t:Gf} (h:LeastS g ps t):Fits t:=by
 obtain⟨E,ee,hU,he,rfl⟩:=h
 have h1:=gE_good hg hU.rng
 have h2:=trim_good0 (quo_good h1 (al_eqv h1 he))
 exact⟨by have:=h2.nodes;omega,by have:=h2.roots;omega,fun n hn=>by have:=(good_args (h2.node n hn)).2;omega⟩
theorem same_tt {w:World} {nv rv mv sv:Value} {B C:Nat} {av bv:List Value} {t:Gf} (ha:Og w B nv rv av t) (hb:Og w C mv sv bv t) (hF:Fits t) :
  Calls Tryz.prog 36 #[.agg #[nv,rv],.agg #[mv,sv]] w fun e w'=>e=.returned (.bool true)/\Below w.heap.size w w':=(same_any ha.gr hb.gr hF).mono fun e w' ⟨e1,e2⟩=>⟨by rw[e1,eqG_yes],e2⟩
theorem og_sls {w:World} {nv rv:Value} {B:Nat} {av:List Value} {t:Gf} (ha:Og w B nv rv av t):∃na n nc ra m rc,nv=.slice na n nc/\rv=.slice ra m rc:=by
 obtain⟨na,nc,h1⟩:=ha.nsl
 obtain⟨ra,rc,h2,_⟩:=ha.r
 exact⟨_,_,_,_,_,_,h1,h2⟩
theorem cell_keep {w w':World} {q k:Nat} (h:w'.heap[q]?=w.heap[q]?):w'.cell? ⟨q,k,none⟩=w.cell? ⟨q,k,none⟩:=by simp[World.cell?,h]
set_option maxHeartbeats 16000000 in
theorem solves_main (hG:Gr W nv rv g) (hS:Sized g) (hs:smallK 200 g=true) (hc:one (chk g)=[]) (i j:Nat) (hi:i<g.nodes.length) (hj:j<g.nodes.length) :
  Calls Tryz.prog 5 #[.agg #[nv,rv],.int .i64 (i:Int),.int .i64 (j:Int)] W fun e w'=>e=.returned (.bool true)/\Below W.heap.size W w':=by
 obtain⟨i0,hif,hz0,hz1,hz2⟩:=info_parts infoI
 have hsz:=smallK_fits hs
 have hb0:=hid (below_alloc W (grO nv rv))
 have hx0:=hid (heap_alloc_new W (grO nv rv))
 have hsm:=hid (fun w1 (h:Below W.heap.size W w1)=>smallK_any (K:=200) (by decide) (hG.below h))
 rw[hs] at hsm
 have hck:=hid (fun w1 (h:Below W.heap.size W w1)=>check_any (hG.below h) hS)
 rw[hc] at hck
 obtain⟨hp1,hp2⟩:=putc_small (z:=10000) hc (by omega) (by decide)
 have hld:=hid (fun w1 (h:Below W.heap.size W w1)=>laid_ok (hG.below h) hS (by omega) 10000 (by decide) (by decide) hp1)
 have Hp2:=hid hp2
 have HGr:=hid hG
 obtain⟨avs,hA⟩:=gra_of hG
 have HA:=hid hA
 clear hA
 have HCk:=hid hc
 have HSz:Hid (Sized (gAll g)):=hS
 obtain⟨na,nc,rfl,_⟩:=hG.1
 obtain⟨ra,rc,rfl,_⟩:=hG.2
 have hnz:g.nodes.length<=200:=hsz.2.1
 have hi0:¬((i:Int)<0):=by omega
 have hj0:¬((j:Int)<0):=by omega
 have hi1:¬((g.nodes.length:Int)<=(i:Int)):=by omega
 have hj1:¬((g.nodes.length:Int)<=(j:Int)):=by omega
 have hi2:(i:Int)<(g.nodes.length:Int):=by omega
 have hj2:(j:Int)<(g.nodes.length:Int):=by omega
 have t1:True:=trivial
 clear hG hS hs hc hp1 hp2 hsz
 go_enter Tryz.func5,Tryz.ntmps5
 go_wp2_with (first
  | (go_at_call 6;refine (ulives_any _).mono ?_;rintro e w1 ⟨rfl,hb1⟩;have HX1:=hid ((hb1.block _ (by simp)).trans hx0.out);have Hb1:=hid (Below.next hb0.out hb1);obtain⟨⟨x0,x1⟩,_⟩:=cblk2 HX1.out;have x2:=lt_of_block HX1.out;clear hb1)
  | (go_at_call 9;refine (hsm.out _ Hb1.out).mono ?_;rintro e w2 ⟨rfl,hb2⟩;have HX2:=hid ((hb2.block _ (lt_of_block HX1.out)).trans HX1.out);have Hb2:=hid (Below.next Hb1.out hb2);clear hb2 x0 x1 x2;obtain⟨⟨x0,x1⟩,_⟩:=cblk2 HX2.out;have x2:=lt_of_block HX2.out)
  | (go_at_call 28;refine (hck.out _ Hb2.out).mono ?_;rintro e w3 ⟨⟨ev,rfl,hE⟩,hb3⟩;obtain rfl:ev=.nilIface:=hE;have HX3:=hid ((hb3.block _ (lt_of_block HX2.out)).trans HX2.out);have Hb3:=hid (Below.next Hb2.out hb3);clear hb3 x0 x1 x2;obtain⟨⟨x0,x1⟩,_⟩:=cblk2 HX3.out;have x2:=lt_of_block HX3.out)
  | (go_at_call 29;have _m:=t1;clear t1 _m;refine (hld.out _ Hb3.out).mono ?_;rintro e w4 ⟨⟨hb,F,ao,c4,rfl,ho,hH,hF,hjj,hpm⟩,hb4⟩;obtain⟨q,rfl,hqc,hqz,hB⟩:=bs_of Hb3.out hb4 Hp2.out (by omega) ho hH hF hjj hpm;have Ho4:=hid (row_obj ho (k:=q) rfl);have S4:=hid hB;have Hpm:=hid hpm;have Hb4:=hid (Below.next Hb3.out hb4);have HX4:=hid ((hb4.block _ (lt_of_block HX3.out)).trans HX3.out);clear ho hH hF hjj hpm hb4 hB x0 x1 x2;obtain⟨⟨x0,x1⟩,_⟩:=cblk2 HX4.out;have x2:=lt_of_block HX4.out)
  | (go_at_call 29;refine (hld.out _ Hb4.out).mono ?_;rintro e w5 ⟨⟨hb2,F,ao,c5,rfl,ho,hH,hF,hjj,hpm⟩,hb5⟩;obtain⟨p,rfl,hpc,hpz,hB⟩:=bs_of (Below.refl _ w4) hb5 Hp2.out (by omega) ho hH hF hjj hpm;have Ho5:=hid (row_obj ho (k:=p) rfl);have S5:=hid hB;have Hb5:=hid (Below.next Hb4.out hb5);have HX5:=hid ((hb5.block _ (lt_of_block HX4.out)).trans HX4.out);clear ho hH hF hjj hpm hb5 hB x0 x1 x2;obtain⟨⟨x0,x1⟩,_⟩:=cblk2 HX5.out;have x2:=lt_of_block HX5.out))
 have HL0:=hid (lai_start (.slice na g.nodes.length nc) w5)
 have hns:g.nodes.length<=4096:=by omega
 clear x0 x1 x2 HX1 HX2 HX3 HX4 Hb1 Hb2 Hb3 Hb4 hsm hck hld hb0 hx0
 go_loopw [12,79] (fun _ s79 wr=>∃(k:Nat) (ao:Option Addr) (c:Nat),s79=.int .i64 (k:Int)/\k<=g.nodes.length/\Hid (Lai (.slice na g.nodes.length nc) w5 wr k ao c)) (fun _ s79 _=>g.nodes.length-(intOf s79).toNat)
 case atStart=>exact⟨0,none,0,rfl,Nat.zero_le _,HL0⟩
 case round=>
  obtain⟨k,ao,c,rfl,hk,hL⟩:=hrel
  clear HL0
  by_cases hlt:k<g.nodes.length
  ·have hkz:(k:Int)<(g.nodes.length:Int):=by omega
   obtain⟨⟨x0,x1⟩,_⟩:=cblk2 hL.out.x
   have x2:=lt_of_block hL.out.x
   have hown:=World.ownsRow.alloc hL.out.o (.cells #[.int .i64 (k:Int)] 3)
   have hnw2:=heap_alloc_new wr (.cells #[.int .i64 (k:Int)] 3)
   have hkm:k+1<=maxLen:=by unfold maxLen;omega
   have hws:w5.heap.size+1<=wr.heap.size:=x2
   go_wp2_with (at_builtin;refine wpList_append_lies _ rfl _ _ 36 rfl (w5.heap.size+1) 3 i0 (.int .i64 0) 1 8 Tryz.underlying36 hif hz0 hz1 hz2 rfl (by decide) _ k _ rfl hown ⟨wr.heap.size,0,none⟩ 1 1 [.int .i64 (k:Int)] rfl rfl (World.news_of_block (cs:=#[.int .i64 (k:Int)]) (t:=3) (fr:=(0,0)) hnw2) (by simp[Value.oneCell']) (by decide) (by omega) (by omega) (by simp;omega) _ rfl ?_;intro g6 cap6 w6 hown6 hg6 hat6 hlt6;obtain⟨⟨q0,q1,q2⟩,hN⟩:=hL.out.step hown6 hg6;have HN:=hid hN;clear hown6 hg6 hat6 hlt6 hN)
   go_roundw
   case rel=>exact⟨k+1,some ⟨g6,0,none⟩,cap6,congrArg (Value.int .i64) (by omega),by omega,HN⟩
   case measure=>simp[intOf];omega
  ·obtain rfl:k=g.nodes.length:=by omega
   obtain⟨⟨x0,x1⟩,_⟩:=cblk2 hL.out.x
   have x2:=lt_of_block hL.out.x
   by_cases hN:NoSol (gAll g).nodes [(i,j)]
   ·have hgA:Gr (wr.alloc (.cells #[.int .i64 (i:Int),.int .i64 (j:Int)] 72)) (.slice na g.nodes.length nc) (.slice ao g.nodes.length c) (gAll g):=(hL.out.gra HA.out Hb5.out (Mo.ofBelow (below_alloc wr _)) (fun k hk=>hk)).gr
    have hRp:Rp (wr.alloc (.cells #[.int .i64 (i:Int),.int .i64 (j:Int)] 72)) (.slice (some ⟨wr.heap.size,0,none⟩) 1 1) [((i:Int),(j:Int))]:=⟨_,1,rfl,fun y hy=>by
     have e:y=0:=by simp at hy;omega
     subst e
     obtain⟨⟨z2,z3⟩,_⟩:=blk2y (heap_alloc_new wr (.cells #[.int .i64 (i:Int),.int .i64 (j:Int)] 72))
     exact⟨wr.heap.size,0,rfl,z2,z3⟩⟩
    have hst:=hid (solve_no hgA HSz.out hRp (by simp) (gall_chk HCk.out hi hj).1 hN)
    have HL:=hid (And.intro hL.out.b hL.out.x)
    have HLo:=hid hL.out.o
    have HNo:=hid hN
    clear hgA hRp hN hL x0 x1 x2
    obtain⟨⟨x0,x1⟩,_⟩:=cblk2 HL.out.2
    have x2:=lt_of_block HL.out.2
    have HB:=hid (b2_of S4.out S5.out (X:=Xo w5) (fun k hk=>hk))
    have Hr4:=hid S4.out.r
    have Hr5:=hid S5.out.r
    go_wp2_with (go_at_call 37;refine hst.out.mono ?_;rintro e w6 ⟨rfl,hb6⟩;have Hb6r:=hid hb6;have Hb6:=hid (Below.next (HL.out.1.alloc (by have:=HL.out.1.size;omega) (.cells #[.int .i64 (i:Int),.int .i64 (j:Int)] 72)) hb6);clear hb6)
    generalize hw7:w6.alloc (.cells #[.slice none 0 0,.slice none 0 0] 38)=w7
    have Hb7:Hid (Below w5.heap.size w5 w7):=by rw[←hw7];exact Hb6.out.alloc Hb6.out.size _
    have HT:Hid (w7.heap[w6.heap.size]?=some (grO (.slice none 0 0) (.slice none 0 0))):=by rw[←hw7];exact heap_alloc_new w6 _
    have Hrw:Hid (w7.ownsRow (w5.heap.size+1) 3 1 (.slice ao g.nodes.length c) g.nodes.length (((List.range g.nodes.length).map (fun (i:Nat)=>(i:Int))).map (Value.int .i64))):=by
     rw[←hw7]
     exact row_keep HLo.out (fun k hk=>by
      have h1:=(HLo.out.lt k hk).2
      exact ((below_alloc w6 _).block k (Nat.lt_of_lt_of_le h1 (Nat.le_trans (below_alloc wr _).size Hb6r.out.size))).trans ((Hb6r.out.block k (Nat.lt_of_lt_of_le h1 (below_alloc wr _).size)).trans ((below_alloc wr _).block k h1)))
    have Hbx:Hid (w7.heap[w5.heap.size]?=some (.cells #[.slice na g.nodes.length nc,.slice ao g.nodes.length c] 38)):=by
     have h1:=lt_of_block HL.out.2
     rw[←hw7]
     exact ((below_alloc w6 _).block _ (Nat.lt_of_lt_of_le h1 (Nat.le_trans (below_alloc wr _).size Hb6r.out.size))).trans ((Hb6r.out.block _ (Nat.lt_of_lt_of_le h1 (below_alloc wr _).size)).trans (((below_alloc wr _).block _ h1).trans HL.out.2))
    have Hq7:Hid (∀k,k<g.nodes.length->w7.cell? ⟨q,k,none⟩=some (.int .i64 (k:Int))):=fun k hk=>by
     obtain⟨cur,hcur⟩:=Ho4.out
     have h5:=S5.out.b.block q (lt_of_block hcur)
     exact (cell_keep ((Hb7.out.block q (lt_of_block (h5.trans hcur))).trans h5)).trans (Hr4.out k hk)
    have Hp7:Hid (∀k,k<g.nodes.length->w7.cell? ⟨p,k,none⟩=some (.int .i64 (k:Int))):=fun k hk=>by
     obtain⟨cur,hcur⟩:=Ho5.out
     exact (cell_keep (Hb7.out.block p (lt_of_block hcur))).trans (Hr5.out k hk)
    obtain⟨X7,S7,Hxq,Hxp,Hxn⟩:∃X7:Nat->Prop,Hid (B2 W 10000 hb (putHs hs0 (gAll g)) hb2 (putHs hs0 (gAll g)) X7 w7)/\Hid (X7 q)/\Hid (X7 p)/\Hid (∀k,w5.heap.size<=k->k<w7.heap.size->X7 k):=⟨_,HB.out.more Hb7.out,(by
     obtain⟨cur,hcur⟩:=Ho4.out
     exact Or.inl (xo_of ((S5.out.b.block q (lt_of_block hcur)).trans hcur) (Or.inl rfl))),(by
     obtain⟨cur,hcur⟩:=Ho5.out
     exact Or.inl (xo_of hcur (Or.inl rfl))),fun k h1 h2=>Or.inr ⟨h1,h2⟩⟩
    have Hz6:Hid (w5.heap.size<=w6.heap.size):=Hb6.out.size
    have H0:Hid (SndN (wdP [] [] (gAll g)) (nsP [] (gAll g)).length/\(wdP [] [] (gAll g)).length<=4000):=⟨S7.out.sn,S7.out.l4⟩
    clear hw7 hst Hb6 HB Hb6r HLo Hr4 Hr5 x0 x1 x2 HL
    have d0:=Hq7.out i hi
    have d1:=Hq7.out j hj
    have hun:=hid ((S7.out.next (Below.refl _ w7).drew).no Hpm.out hi hj HNo.out)
    go_cut [16,17] from 99 to 111 (fun s16 s17 wx=>s16=.bool false/\s17=.nilIface/\Hid (B2 W 10000 hb (putHs hs0 (gAll g)) hb2 (putHs hs0 (gAll g)) X7 wx/\∀k,X7 k->wx.heap[k]?=w7.heap[k]?))
    case first=>
     go_region_held3 (fun w'=>Skv q i j (i:Int) (j:Int) w') (first | (with_reducible exact⟨d0,d1⟩) | (with_reducible exact skv_dr ⟨d0,d1⟩))
      (first | (go_at_call 38;refine hun.out.mono ?_;rintro e w8 ⟨rfl,hB,hx⟩;have HU:Hid (B2 W 10000 hb (putHs hs0 (gAll g)) hb2 (putHs hs0 (gAll g)) X7 w8/\∀k,X7 k->w8.heap[k]?=w7.heap[k]?):=⟨hB,hx⟩;clear hB hx d0 d1;have d0:=(cell_keep (HU.out.2 q Hxq.out)).trans (Hq7.out i hi);have d1:=(cell_keep (HU.out.2 q Hxq.out)).trans (Hq7.out j hj)))
     all_goals go_wp2_with fail
     all_goals go_meet
     all_goals exact⟨rfl,rfl,HU⟩
    case rest=>
     obtain⟨rfl,rfl,HU⟩:=hcut
     clear d0 d1 hun S7
     go_wp2_with fail
     have d0:=(cell_keep (HU.out.2 p Hxp.out)).trans (Hp7.out j hj)
     have d1:=(cell_keep (HU.out.2 p Hxp.out)).trans (Hp7.out i hi)
     have hun:=hid ((HU.out.1.swap.next (Below.refl _ wc).drew).no Hpm.out hj hi (nosol_swap.1 HNo.out))
     go_cut [18,19] from 112 to 124 (fun s18 s19 wx=>s18=.bool false/\s19=.nilIface/\Hid (B2 W 10000 hb2 (putHs hs0 (gAll g)) hb (putHs hs0 (gAll g)) X7 wx/\∀k,X7 k->wx.heap[k]?=w7.heap[k]?))
     case first=>
      go_region_held3 (fun w'=>Skv p j i (j:Int) (i:Int) w') (first | (with_reducible exact⟨d0,d1⟩) | (with_reducible exact skv_dr ⟨d0,d1⟩))
       (first | (go_at_call 38;refine hun.out.mono ?_;rintro e w8 ⟨rfl,hB,hx⟩;have HV:Hid (B2 W 10000 hb2 (putHs hs0 (gAll g)) hb (putHs hs0 (gAll g)) X7 w8/\∀k,X7 k->w8.heap[k]?=w7.heap[k]?):=⟨hB,fun k hk=>(hx k hk).trans (HU.out.2 k hk)⟩;clear hB hx d0 d1;have d0:=(cell_keep (HV.out.2 p Hxp.out)).trans (Hp7.out j hj);have d1:=(cell_keep (HV.out.2 p Hxp.out)).trans (Hp7.out i hi)))
      all_goals go_wp2_with fail
      all_goals go_meet
      all_goals exact⟨rfl,rfl,HV⟩
     case rest=>
      obtain⟨rfl,rfl,HV⟩:=hcut
      clear d0 d1 hun
      have hHT:=hid ((HV.out.2 _ (Hxn.out _ Hz6.out (lt_of_block HT.out))).trans HT.out)
      have Hbx2:=hid ((HV.out.2 _ (Hxn.out _ (Nat.le_refl _) (lt_of_block Hbx.out))).trans Hbx.out)
      have Hrw2:=hid (row_keep Hrw.out (fun k hk=>HV.out.2 k (Hxn.out k (by have:=(Hrw.out.lt k hk).1;omega) (Hrw.out.lt k hk).2)))
      have hgr:=hid (all_gr HGr.out HV.out.1.b Hrw2.out)
      have hs2:=hid (solve_yes hgr.out HSz.out (⟨none,0,rfl,fun _ h=>absurd h (Nat.not_lt_zero _)⟩:Rp wc (.slice none 0 0) []) (by simp) (gall_chk HCk.out hi hj).2 nosol_nil)
      obtain⟨⟨x0,x1⟩,_⟩:=cblk2 Hbx2.out
      have x2:=lt_of_block Hbx2.out
      go_wp2_with (go_at_call 37;refine hs2.out.mono ?_;rintro e w9 ⟨⟨t,tn,tc,tr,trc,tav,rfl,hLs,hOg⟩,hb9⟩;have HLs:=hid hLs;have HOg:=hid hOg;have Hb9:=hid hb9;have HT9:=hid ((hb9.block _ (lt_of_block hHT.out)).trans hHT.out);clear hLs hOg hb9 x0 x1 x2;obtain⟨⟨y0,y1⟩,y3,y4⟩:=cblk2 HT9.out;have y2:=lt_of_block HT9.out)
      generalize hwf:(w9.setCell ⟨w6.heap.size,0,none⟩ (.slice tn t.nodes.length tc)).setCell ⟨w6.heap.size,1,none⟩ (.slice tr t.roots.length trc)=wf
      have Hms:Hid (Mo (fun k=>k=w6.heap.size) w9 wf):=by rw[←hwf];exact set2_mo _ _ _ _
      have hHTf:Hid (wf.heap[w6.heap.size]?=some (grO (.slice tn t.nodes.length tc) (.slice tr t.roots.length trc))):=by rw[←hwf];exact set2_at HT9.out
      have hW6:W.heap.size<=w6.heap.size:=Nat.le_trans Hb5.out.size Hz6.out
      have HVf:=hid ((HV.out.1.next Hb9.out).graph hW6 HT9.out Hms.out)
      have h6c:=lt_of_block hHT.out
      have hqw:q<w5.heap.size:=by
       obtain⟨cur,hcur⟩:=Ho4.out
       exact Nat.lt_of_lt_of_le (lt_of_block hcur) S5.out.b.size
      have hpw:p<w5.heap.size:=by
       obtain⟨cur,hcur⟩:=Ho5.out
       exact lt_of_block hcur
      have h65:=Hz6.out
      have hc9:=Hb9.out.size
      have HOtf:=hid (og_keep HOg.out (w':=wf) (fun k h1 h2=>Hms.out.block k h2 (fun e=>by omega)))
      have hqc2:=HV.out.1.xz q Hxq.out
      have hpc2:=HV.out.1.xz p Hxp.out
      have Hqf:Hid (∀k,k<g.nodes.length->wf.cell? ⟨q,k,none⟩=some (.int .i64 (k:Int))):=fun k hk=>(cell_keep (Hms.out.block q (by omega) (fun e=>by omega))).trans ((cell_keep (Hb9.out.block q hqc2)).trans ((cell_keep (HV.out.2 q Hxq.out)).trans (Hq7.out k hk)))
      have Hpf:Hid (∀k,k<g.nodes.length->wf.cell? ⟨p,k,none⟩=some (.int .i64 (k:Int))):=fun k hk=>(cell_keep (Hms.out.block p (by omega) (fun e=>by omega))).trans ((cell_keep (Hb9.out.block p hpc2)).trans ((cell_keep (HV.out.2 p Hxp.out)).trans (Hp7.out k hk)))
      have hg1:=hid (HVf.out.swap.getN (cv:=.slice (some ⟨q,0,none⟩) g.nodes.length c4) Hpm.out (by omega) HLs.out (ri_cells Hqf.out))
      have hg2:=hid (fun w' (h:Below wf.heap.size wf w')=>(HVf.out.next h).getN (cv:=.slice (some ⟨p,0,none⟩) g.nodes.length c5) Hpm.out (by omega) HLs.out (ri_cells (fun k hk=>(h.cell (p:=⟨p,k,none⟩) (HVf.out.xz p Hxp.out)).trans (Hpf.out k hk))))
      have hft:=hid (fits_least (gall_good HCk.out) HLs.out)
      have HbW:=hid HVf.out.b
      have t2:True:=trivial
      have t3:True:=trivial
      obtain⟨⟨x0,x1⟩,_⟩:=cblk2 hHTf.out
      have x2:=lt_of_block hHTf.out
      clear HT HV HU Hq7 Hp7 H0 HLs HNo Hxq Hxp Hxn S4 S5 hs2 hgr Hrw Hrw2 Hbx Hbx2 Hb9 HT9 HVf HOg hHT y0 y1 y2 y3 y4
      go_wp2_with (first
       | (go_at_call 21;have _m:=t2;clear t2 _m;refine hg1.out.mono ?_;rintro e wa ⟨⟨anv,arv,aav,rfl,ha⟩,hba⟩;obtain⟨a1,a2,a3,a4,a5,a6,rfl,rfl⟩:=og_sls ha;have HA1:=hid ha;have Hba:=hid hba;have HT2:=hid ((hba.block _ (lt_of_block hHTf.out)).trans hHTf.out);clear ha hba x0 x1 x2;obtain⟨⟨x0,x1⟩,_⟩:=cblk2 HT2.out;have x2:=lt_of_block HT2.out)
       | (go_at_call 21;refine (hg2.out _ (Hba.out.alloc Hba.out.size _)).mono ?_;rintro e wb ⟨⟨bnv,brv,bav,rfl,ha⟩,hbb⟩;obtain⟨b1,b2,b3,b4,b5,b6,rfl,rfl⟩:=og_sls ha;have OA2:=hid (((HA1.out.below (below_alloc wa (grO (.slice a1 a2 a3) (.slice a4 a5 a6)))).below hbb).below (below_alloc wb (grO (.slice b1 b2 b3) (.slice b4 b5 b6))));have OT2:=hid ((((HOtf.out.below Hba.out).below (below_alloc wa (grO (.slice a1 a2 a3) (.slice a4 a5 a6)))).below hbb).below (below_alloc wb (grO (.slice b1 b2 b3) (.slice b4 b5 b6))));have OB2:=hid (ha.below (below_alloc wb (grO (.slice b1 b2 b3) (.slice b4 b5 b6))));have HT3:=hid ((hbb.block _ (Nat.lt_of_lt_of_le (lt_of_block HT2.out) (below_alloc wa (grO (.slice a1 a2 a3) (.slice a4 a5 a6))).size)).trans (((below_alloc wa (grO (.slice a1 a2 a3) (.slice a4 a5 a6))).block _ (lt_of_block HT2.out)).trans HT2.out));have HA3:=hid ((hbb.block _ (lt_of_block (heap_alloc_new wa (grO (.slice a1 a2 a3) (.slice a4 a5 a6))))).trans (heap_alloc_new wa (grO (.slice a1 a2 a3) (.slice a4 a5 a6))));have HbX:=hid (Below.next (Below.next (Below.next HbW.out Hba.out) (below_alloc wa (grO (.slice a1 a2 a3) (.slice a4 a5 a6)))) hbb);clear ha hbb x0 x1 x2;obtain⟨⟨x0,x1⟩,_⟩:=cblk2 HT3.out;have x2:=lt_of_block HT3.out;obtain⟨⟨z0,z1⟩,_⟩:=cblk2 HA3.out;have z2:=lt_of_block HA3.out)
       | (go_at_call 36;have _m:=t3;clear t3 _m;refine (same_tt OA2.out OT2.out hft.out).mono ?_;rintro e wd ⟨rfl,hbd⟩;have OB3:=hid (OB2.out.below hbd);have OT3:=hid (OT2.out.below hbd);have HT4:=hid ((hbd.block _ (Nat.lt_of_lt_of_le (lt_of_block HT3.out) (below_alloc wb (grO (.slice b1 b2 b3) (.slice b4 b5 b6))).size)).trans (((below_alloc wb (grO (.slice b1 b2 b3) (.slice b4 b5 b6))).block _ (lt_of_block HT3.out)).trans HT3.out));have HB4:=hid ((hbd.block _ (lt_of_block (heap_alloc_new wb (grO (.slice b1 b2 b3) (.slice b4 b5 b6))))).trans (heap_alloc_new wb (grO (.slice b1 b2 b3) (.slice b4 b5 b6))));have HbY:=hid (Below.next (Below.next HbX.out (below_alloc wb (grO (.slice b1 b2 b3) (.slice b4 b5 b6)))) hbd);clear hbd x0 x1 x2 z0 z1 z2;obtain⟨⟨x0,x1⟩,_⟩:=cblk2 HT4.out;have x2:=lt_of_block HT4.out;obtain⟨⟨z0,z1⟩,_⟩:=cblk2 HB4.out;have z2:=lt_of_block HB4.out)
       | (go_at_call 36;refine (same_tt OB3.out OT3.out hft.out).mono ?_;rintro e we ⟨rfl,hbe⟩;have HbZ:=hid (Below.next HbY.out hbe);clear hbe))
      go_ret
      exact⟨rfl,HbZ.out⟩
   ·have hgA:Gr (wr.alloc (.cells #[.int .i64 (i:Int),.int .i64 (j:Int)] 72)) (.slice na g.nodes.length nc) (.slice ao g.nodes.length c) (gAll g):=(hL.out.gra HA.out Hb5.out (Mo.ofBelow (below_alloc wr _)) (fun k hk=>hk)).gr
    have hRp:Rp (wr.alloc (.cells #[.int .i64 (i:Int),.int .i64 (j:Int)] 72)) (.slice (some ⟨wr.heap.size,0,none⟩) 1 1) [((i:Int),(j:Int))]:=⟨_,1,rfl,fun y hy=>by
     have e:y=0:=by simp at hy;omega
     subst e
     obtain⟨⟨z2,z3⟩,_⟩:=blk2y (heap_alloc_new wr (.cells #[.int .i64 (i:Int),.int .i64 (j:Int)] 72))
     exact⟨wr.heap.size,0,rfl,z2,z3⟩⟩
    have hst:=hid (solve_yes hgA HSz.out hRp (by simp) (gall_chk HCk.out hi hj).1 hN)
    have HL:=hid (And.intro hL.out.b hL.out.x)
    have HNo:=hid hN
    clear hgA hRp hN hL x0 x1 x2
    obtain⟨⟨x0,x1⟩,_⟩:=cblk2 HL.out.2
    have x2:=lt_of_block HL.out.2
    have HB:=hid (b2_of S4.out S5.out (X:=Xo w5) (fun k hk=>hk))
    have Hr4:=hid S4.out.r
    have Hr5:=hid S5.out.r
    go_wp2_with (go_at_call 37;refine hst.out.mono ?_;rintro e w6 ⟨⟨t,tn,tc,tr,trc,tav,rfl,hLs,hOg⟩,hb6⟩;have HLs:=hid hLs;have HOg:=hid hOg;have Hb6:=hid (Below.next (HL.out.1.alloc (by have:=HL.out.1.size;omega) (.cells #[.int .i64 (i:Int),.int .i64 (j:Int)] 72)) hb6);clear hLs hOg hb6)
    generalize hw7:w6.alloc (.cells #[.slice tn t.nodes.length tc,.slice tr t.roots.length trc] 38)=w7
    have Hb7:Hid (Below w5.heap.size w5 w7):=by rw[←hw7];exact Hb6.out.alloc Hb6.out.size _
    have HT:Hid (w7.heap[w6.heap.size]?=some (grO (.slice tn t.nodes.length tc) (.slice tr t.roots.length trc))):=by rw[←hw7];exact heap_alloc_new w6 _
    have HO7:Hid (∃B7,w5.heap.size<=B7/\Og w7 B7 (.slice tn t.nodes.length tc) (.slice tr t.roots.length trc) tav t):=by
     rw[←hw7]
     refine⟨_,?_,HOg.out.below (below_alloc w6 _)⟩
     have:=HL.out.1.size
     simp
     omega
    have Hq7:Hid (∀k,k<g.nodes.length->w7.cell? ⟨q,k,none⟩=some (.int .i64 (k:Int))):=fun k hk=>by
     obtain⟨cur,hcur⟩:=Ho4.out
     have h5:=S5.out.b.block q (lt_of_block hcur)
     exact (cell_keep ((Hb7.out.block q (lt_of_block (h5.trans hcur))).trans h5)).trans (Hr4.out k hk)
    have Hp7:Hid (∀k,k<g.nodes.length->w7.cell? ⟨p,k,none⟩=some (.int .i64 (k:Int))):=fun k hk=>by
     obtain⟨cur,hcur⟩:=Ho5.out
     exact (cell_keep (Hb7.out.block p (lt_of_block hcur))).trans (Hr5.out k hk)
    obtain⟨X7,S7,Hxq,Hxp,Hxn⟩:∃X7:Nat->Prop,Hid (B2 W 10000 hb (putHs hs0 (gAll g)) hb2 (putHs hs0 (gAll g)) X7 w7)/\Hid (X7 q)/\Hid (X7 p)/\Hid (∀k,w5.heap.size<=k->k<w7.heap.size->X7 k):=⟨_,HB.out.more Hb7.out,(by
     obtain⟨cur,hcur⟩:=Ho4.out
     exact Or.inl (xo_of ((S5.out.b.block q (lt_of_block hcur)).trans hcur) (Or.inl rfl))),(by
     obtain⟨cur,hcur⟩:=Ho5.out
     exact Or.inl (xo_of hcur (Or.inl rfl))),fun k h1 h2=>Or.inr ⟨h1,h2⟩⟩
    have Hz6:Hid (w5.heap.size<=w6.heap.size):=Hb6.out.size
    have H0:Hid (SndN (wdP [] [] (gAll g)) (nsP [] (gAll g)).length/\(wdP [] [] (gAll g)).length<=4000):=⟨S7.out.sn,S7.out.l4⟩
    clear hw7 hst HOg Hb6 HB Hr4 Hr5 x0 x1 x2 HL
    have d0:=Hq7.out i hi
    have d1:=Hq7.out j hj
    have hun:=hid ((S7.out.next (Below.refl _ w7).drew).yes Hpm.out hi hj HNo.out)
    go_cut [16,17] from 99 to 111 (fun s16 s17 wx=>∃s1:Hst,s16=.bool true/\s17=.nilIface/\Hid (Ry g i j s1/\B2 W 10000 hb s1 hb2 (putHs hs0 (gAll g)) X7 wx/\∀k,X7 k->wx.heap[k]?=w7.heap[k]?))
    case first=>
     go_region_held3 (fun w'=>Skv q i j (i:Int) (j:Int) w') (first | (with_reducible exact⟨d0,d1⟩) | (with_reducible exact skv_dr ⟨d0,d1⟩))
      (first | (go_at_call 38;refine hun.out.mono ?_;rintro e w8 ⟨s1,rfl,hy,hB,hx⟩;have HU:Hid (Ry g i j s1/\B2 W 10000 hb s1 hb2 (putHs hs0 (gAll g)) X7 w8/\∀k,X7 k->w8.heap[k]?=w7.heap[k]?):=⟨hy,hB,hx⟩;clear hy hB hx d0 d1;have d0:=(cell_keep (HU.out.2.2 q Hxq.out)).trans (Hq7.out i hi);have d1:=(cell_keep (HU.out.2.2 q Hxq.out)).trans (Hq7.out j hj)))
     all_goals go_wp2_with fail
     all_goals go_meet
     all_goals exact⟨s1,rfl,rfl,HU⟩
    case rest=>
     obtain⟨s1,rfl,rfl,HU⟩:=hcut
     clear d0 d1 hun S7
     go_wp2_with fail
     have d0:=(cell_keep (HU.out.2.2 p Hxp.out)).trans (Hp7.out j hj)
     have d1:=(cell_keep (HU.out.2.2 p Hxp.out)).trans (Hp7.out i hi)
     have hun:=hid ((HU.out.2.1.swap.next (Below.refl _ wc).drew).yes Hpm.out hj hi (fun h=>HNo.out (nosol_swap.2 h)))
     go_cut [18,19] from 112 to 124 (fun s18 s19 wx=>∃s2:Hst,s18=.bool true/\s19=.nilIface/\Hid (Ry g j i s2/\B2 W 10000 hb2 s2 hb s1 X7 wx/\∀k,X7 k->wx.heap[k]?=w7.heap[k]?))
     case first=>
      go_region_held3 (fun w'=>Skv p j i (j:Int) (i:Int) w') (first | (with_reducible exact⟨d0,d1⟩) | (with_reducible exact skv_dr ⟨d0,d1⟩))
       (first | (go_at_call 38;refine hun.out.mono ?_;rintro e w8 ⟨s2,rfl,hy,hB,hx⟩;have HV:Hid (Ry g j i s2/\B2 W 10000 hb2 s2 hb s1 X7 w8/\∀k,X7 k->w8.heap[k]?=w7.heap[k]?):=⟨hy,hB,fun k hk=>(hx k hk).trans (HU.out.2.2 k hk)⟩;clear hy hB hx d0 d1;have d0:=(cell_keep (HV.out.2.2 p Hxp.out)).trans (Hp7.out j hj);have d1:=(cell_keep (HV.out.2.2 p Hxp.out)).trans (Hp7.out i hi)))
      all_goals go_wp2_with fail
      all_goals go_meet
      all_goals exact⟨s2,rfl,rfl,HV⟩
     case rest=>
      obtain⟨s2,rfl,rfl,HV⟩:=hcut
      clear d0 d1 hun
      have hg1:=hid (HV.out.2.1.swap.getY (cv:=.slice (some ⟨q,0,none⟩) g.nodes.length c4) HU.out.1 H0.out.1 H0.out.2 Hpm.out (by omega) hi hj HLs.out (ri_cells (fun k hk=>(cell_keep (HV.out.2.2 q Hxq.out)).trans (Hq7.out k hk))))
      have hHT:=hid ((HV.out.2.2 _ (Hxn.out _ Hz6.out (lt_of_block HT.out))).trans HT.out)
      obtain⟨B7,hB7,hOt0⟩:=HO7.out
      have HOt:=hid (og_keep hOt0 (w':=wc) (fun k h1 h2=>HV.out.2.2 k (Hxn.out k (by omega) h2)))
      have hft:=hid (fits_least (gall_good HCk.out) HLs.out)
      have hg2:=hid (fun w' (h:Below wc.heap.size wc w')=>(HV.out.2.1.next h).getY (cv:=.slice (some ⟨p,0,none⟩) g.nodes.length c5) HV.out.1.swap H0.out.1 H0.out.2 Hpm.out (by omega) hi hj HLs.out (ri_cells (fun k hk=>(h.cell (p:=⟨p,k,none⟩) (HV.out.2.1.xz p Hxp.out)).trans ((cell_keep (HV.out.2.2 p Hxp.out)).trans (Hp7.out k hk)))))
      have HbW:=hid HV.out.2.1.b
      have t2:True:=trivial
      have t3:True:=trivial
      obtain⟨⟨x0,x1⟩,_⟩:=cblk2 hHT.out
      have x2:=lt_of_block hHT.out
      clear hOt0 HO7 HT HV HU Hq7 Hp7 H0 HLs HNo Hxq Hxp Hxn S4 S5
      go_wp2_with (first
       | (go_at_call 21;have _m:=t2;clear t2 _m;refine hg1.out.mono ?_;rintro e wa ⟨⟨anv,arv,aav,rfl,ha⟩,hba⟩;obtain⟨a1,a2,a3,a4,a5,a6,rfl,rfl⟩:=og_sls ha;have HA1:=hid ha;have Hba:=hid hba;have HT2:=hid ((hba.block _ (lt_of_block hHT.out)).trans hHT.out);clear ha hba x0 x1 x2;obtain⟨⟨x0,x1⟩,_⟩:=cblk2 HT2.out;have x2:=lt_of_block HT2.out)
       | (go_at_call 21;refine (hg2.out _ (Hba.out.alloc Hba.out.size _)).mono ?_;rintro e wb ⟨⟨bnv,brv,bav,rfl,ha⟩,hbb⟩;obtain⟨b1,b2,b3,b4,b5,b6,rfl,rfl⟩:=og_sls ha;have OA2:=hid (((HA1.out.below (below_alloc wa (grO (.slice a1 a2 a3) (.slice a4 a5 a6)))).below hbb).below (below_alloc wb (grO (.slice b1 b2 b3) (.slice b4 b5 b6))));have OT2:=hid ((((HOt.out.below Hba.out).below (below_alloc wa (grO (.slice a1 a2 a3) (.slice a4 a5 a6)))).below hbb).below (below_alloc wb (grO (.slice b1 b2 b3) (.slice b4 b5 b6))));have OB2:=hid (ha.below (below_alloc wb (grO (.slice b1 b2 b3) (.slice b4 b5 b6))));have HT3:=hid ((hbb.block _ (Nat.lt_of_lt_of_le (lt_of_block HT2.out) (below_alloc wa (grO (.slice a1 a2 a3) (.slice a4 a5 a6))).size)).trans (((below_alloc wa (grO (.slice a1 a2 a3) (.slice a4 a5 a6))).block _ (lt_of_block HT2.out)).trans HT2.out));have HA3:=hid ((hbb.block _ (lt_of_block (heap_alloc_new wa (grO (.slice a1 a2 a3) (.slice a4 a5 a6))))).trans (heap_alloc_new wa (grO (.slice a1 a2 a3) (.slice a4 a5 a6))));have HbX:=hid (Below.next (Below.next (Below.next HbW.out Hba.out) (below_alloc wa (grO (.slice a1 a2 a3) (.slice a4 a5 a6)))) hbb);clear ha hbb x0 x1 x2;obtain⟨⟨x0,x1⟩,_⟩:=cblk2 HT3.out;have x2:=lt_of_block HT3.out;obtain⟨⟨z0,z1⟩,_⟩:=cblk2 HA3.out;have z2:=lt_of_block HA3.out)
       | (go_at_call 36;have _m:=t3;clear t3 _m;refine (same_tt OA2.out OT2.out hft.out).mono ?_;rintro e wd ⟨rfl,hbd⟩;have OB3:=hid (OB2.out.below hbd);have OT3:=hid (OT2.out.below hbd);have HT4:=hid ((hbd.block _ (Nat.lt_of_lt_of_le (lt_of_block HT3.out) (below_alloc wb (grO (.slice b1 b2 b3) (.slice b4 b5 b6))).size)).trans (((below_alloc wb (grO (.slice b1 b2 b3) (.slice b4 b5 b6))).block _ (lt_of_block HT3.out)).trans HT3.out));have HB4:=hid ((hbd.block _ (lt_of_block (heap_alloc_new wb (grO (.slice b1 b2 b3) (.slice b4 b5 b6))))).trans (heap_alloc_new wb (grO (.slice b1 b2 b3) (.slice b4 b5 b6))));have HbY:=hid (Below.next (Below.next HbX.out (below_alloc wb (grO (.slice b1 b2 b3) (.slice b4 b5 b6)))) hbd);clear hbd x0 x1 x2 z0 z1 z2;obtain⟨⟨x0,x1⟩,_⟩:=cblk2 HT4.out;have x2:=lt_of_block HT4.out;obtain⟨⟨z0,z1⟩,_⟩:=cblk2 HB4.out;have z2:=lt_of_block HB4.out)
       | (go_at_call 36;refine (same_tt OB3.out OT3.out hft.out).mono ?_;rintro e we ⟨rfl,hbe⟩;have HbZ:=hid (Below.next HbY.out hbe);clear hbe))
      go_ret
      exact⟨rfl,HbZ.out⟩
end
end Go.Proofs.YtpkojcfdkkjmcaaGreatDoor
/- UnifySolves: the short ways, and all of it. -/
namespace Go.Proofs.YtpkojcfdkkjmcaaGreatDoor
set_option maxRecDepth 100000
open Go.RowKit Go.Maps
set_option maxHeartbeats 8000000 in
theorem solves_small {W:World} {nv rv:Value} {g:Gf} (hG:Gr W nv rv g) (hs:smallK 200 g=false) (i j:Int) :
  Calls Tryz.prog 5 #[.agg #[nv,rv],.int .i64 i,.int .i64 j] W fun e w'=>e=.returned (.bool true)/\Below W.heap.size W w':=by
 have hb0:=hid (below_alloc W (grO nv rv))
 have hx0:=hid (heap_alloc_new W (grO nv rv))
 have hsm:=hid (fun w1 (h:Below W.heap.size W w1)=>smallK_any (K:=200) (by decide) (hG.below h))
 rw[hs] at hsm
 obtain⟨na,nc,rfl,_⟩:=hG.1
 obtain⟨ra,rc,rfl,_⟩:=hG.2
 have t1:True:=trivial
 clear hG hs
 go_enter Tryz.func5,Tryz.ntmps5
 go_wp2_with (first
  | (go_at_call 6;have _m:=t1;clear t1 _m;refine (ulives_any _).mono ?_;rintro e w1 ⟨rfl,hb1⟩;have HX1:=hid ((hb1.block _ (by simp)).trans hx0.out);have Hb1:=hid (Below.next hb0.out hb1);obtain⟨⟨x0,x1⟩,_⟩:=cblk2 HX1.out;have x2:=lt_of_block HX1.out;clear hb1)
  | (go_at_call 9;refine (hsm.out _ Hb1.out).mono ?_;rintro e w2 ⟨rfl,hb2⟩;have HX2:=hid ((hb2.block _ (lt_of_block HX1.out)).trans HX1.out);have Hb2:=hid (Below.next Hb1.out hb2);clear hb2 x0 x1 x2;obtain⟨⟨x0,x1⟩,_⟩:=cblk2 HX2.out;have x2:=lt_of_block HX2.out)
  | (go_at_call 6;refine (ulives_any _).mono ?_;rintro e w5 ⟨rfl,hb5⟩;have Hb5:=hid (Below.next Hb2.out hb5);clear hb5))
 go_ret
 exact⟨rfl,Hb5.out⟩
set_option maxHeartbeats 8000000 in
theorem solves_check {W:World} {nv rv:Value} {g:Gf} (hG:Gr W nv rv g) (hS:Sized g) (hs:smallK 200 g=true) (hc:one (chk g)≠[]) (i j:Int) :
  Calls Tryz.prog 5 #[.agg #[nv,rv],.int .i64 i,.int .i64 j] W fun e w'=>e=.returned (.bool true)/\Below W.heap.size W w':=by
 have hb0:=hid (below_alloc W (grO nv rv))
 have hx0:=hid (heap_alloc_new W (grO nv rv))
 have hsm:=hid (fun w1 (h:Below W.heap.size W w1)=>smallK_any (K:=200) (by decide) (hG.below h))
 rw[hs] at hsm
 have hck:Hid (∀w1,Below W.heap.size W w1->Calls Tryz.prog 28 #[.agg #[nv,rv]] w1 fun e w'=>(∃b,e=.returned (.iface 130 (.pointer (some ⟨b,0,none⟩))))/\Below w1.heap.size w1 w'):=fun w1 h=>(check_any (hG.below h) hS).mono fun e w' ⟨⟨ev,e1,hE⟩,hb⟩=>⟨by
  match h9:one (chk g),hc,hE with
  | [],hc,_=>exact absurd rfl hc
  | x::r,_,hE=>
   obtain⟨_,b,ev',e2,_⟩:=hE
   exact⟨b,by rw[e1,e2]⟩,hb⟩
 obtain⟨na,nc,rfl,_⟩:=hG.1
 obtain⟨ra,rc,rfl,_⟩:=hG.2
 have t1:True:=trivial
 clear hG hs hc
 go_enter Tryz.func5,Tryz.ntmps5
 go_wp2_with (first
  | (go_at_call 6;have _m:=t1;clear t1 _m;refine (ulives_any _).mono ?_;rintro e w1 ⟨rfl,hb1⟩;have HX1:=hid ((hb1.block _ (by simp)).trans hx0.out);have Hb1:=hid (Below.next hb0.out hb1);obtain⟨⟨x0,x1⟩,_⟩:=cblk2 HX1.out;have x2:=lt_of_block HX1.out;clear hb1)
  | (go_at_call 9;refine (hsm.out _ Hb1.out).mono ?_;rintro e w2 ⟨rfl,hb2⟩;have HX2:=hid ((hb2.block _ (lt_of_block HX1.out)).trans HX1.out);have Hb2:=hid (Below.next Hb1.out hb2);clear hb2 x0 x1 x2;obtain⟨⟨x0,x1⟩,_⟩:=cblk2 HX2.out;have x2:=lt_of_block HX2.out)
  | (go_at_call 28;refine (hck.out _ Hb2.out).mono ?_;rintro e w3 ⟨⟨b,rfl⟩,hb3⟩;have HX3:=hid ((hb3.block _ (lt_of_block HX2.out)).trans HX2.out);have Hb3:=hid (Below.next Hb2.out hb3);clear hb3 x0 x1 x2;obtain⟨⟨x0,x1⟩,_⟩:=cblk2 HX3.out;have x2:=lt_of_block HX3.out)
  | (go_at_call 6;refine (ulives_any _).mono ?_;rintro e w5 ⟨rfl,hb5⟩;have Hb5:=hid (Below.next Hb3.out hb5);clear hb5))
 go_ret
 exact⟨rfl,Hb5.out⟩
set_option maxHeartbeats 8000000 in
theorem solves_out {W:World} {nv rv:Value} {g:Gf} (hG:Gr W nv rv g) (hS:Sized g) (hs:smallK 200 g=true) (hc:one (chk g)=[]) (i j:Int) (ho:¬(0<=i/\0<=j/\i<(g.nodes.length:Int)/\j<(g.nodes.length:Int))) :
  Calls Tryz.prog 5 #[.agg #[nv,rv],.int .i64 i,.int .i64 j] W fun e w'=>e=.returned (.bool true)/\Below W.heap.size W w':=by
 have hsz:=(smallK_fits hs).2.1
 have hb0:=hid (below_alloc W (grO nv rv))
 have hx0:=hid (heap_alloc_new W (grO nv rv))
 have hsm:=hid (fun w1 (h:Below W.heap.size W w1)=>smallK_any (K:=200) (by decide) (hG.below h))
 rw[hs] at hsm
 have hck:=hid (fun w1 (h:Below W.heap.size W w1)=>check_any (hG.below h) hS)
 rw[hc] at hck
 obtain⟨na,nc,rfl,_⟩:=hG.1
 obtain⟨ra,rc,rfl,_⟩:=hG.2
 clear hG hs hc
 have hway:i<0∨(¬i<0/\j<0)∨(¬i<0/\¬j<0/\(g.nodes.length:Int)<=i)∨(¬i<0/\¬j<0/\¬(g.nodes.length:Int)<=i/\(g.nodes.length:Int)<=j):=by omega
 clear ho
 rcases hway with k1 | ⟨k1,k2⟩ | ⟨k1,k2,k3⟩ | ⟨k1,k2,k3,k4⟩
 all_goals
  have t1:True:=trivial
  go_enter Tryz.func5,Tryz.ntmps5
  go_wp2_with (first
   | (go_at_call 6;have _m:=t1;clear t1 _m;refine (ulives_any _).mono ?_;rintro e w1 ⟨rfl,hb1⟩;have HX1:=hid ((hb1.block _ (by simp)).trans hx0.out);have Hb1:=hid (Below.next hb0.out hb1);obtain⟨⟨x0,x1⟩,_⟩:=cblk2 HX1.out;have x2:=lt_of_block HX1.out;clear hb1)
   | (go_at_call 9;refine (hsm.out _ Hb1.out).mono ?_;rintro e w2 ⟨rfl,hb2⟩;have HX2:=hid ((hb2.block _ (lt_of_block HX1.out)).trans HX1.out);have Hb2:=hid (Below.next Hb1.out hb2);clear hb2 x0 x1 x2;obtain⟨⟨x0,x1⟩,_⟩:=cblk2 HX2.out;have x2:=lt_of_block HX2.out)
   | (go_at_call 28;refine (hck.out _ Hb2.out).mono ?_;rintro e w3 ⟨⟨ev,rfl,hE⟩,hb3⟩;obtain rfl:ev=.nilIface:=hE;have HX3:=hid ((hb3.block _ (lt_of_block HX2.out)).trans HX2.out);have Hb3:=hid (Below.next Hb2.out hb3);clear hb3 x0 x1 x2;obtain⟨⟨x0,x1⟩,_⟩:=cblk2 HX3.out;have x2:=lt_of_block HX3.out)
   | (go_at_call 6;refine (ulives_any _).mono ?_;rintro e w5 ⟨rfl,hb5⟩;have Hb5:=hid (Below.next Hb3.out hb5);clear hb5))
  go_ret
  exact⟨rfl,Hb5.out⟩
theorem unifySolves_walk {W:World} (_:ErrC W) {nv rv:Value} {g:Gf} (hG:Gr W nv rv g) (hS:Sized g) (i j:Int) :
  Calls Tryz.prog 5 #[.agg #[nv,rv],.int .i64 i,.int .i64 j] W fun e w'=>e=.returned (.bool true)/\Below W.heap.size W w':=by
 cases hs:smallK 200 g with
 | false=>exact solves_small hG hs i j
 | true=>
  by_cases hc:one (chk g)=[]
  ·by_cases ho:0<=i/\0<=j/\i<(g.nodes.length:Int)/\j<(g.nodes.length:Int)
   ·obtain⟨a,rfl⟩:∃a:Nat,i=(a:Int):=⟨i.toNat,by omega⟩
    obtain⟨b,rfl⟩:∃b:Nat,j=(b:Int):=⟨j.toNat,by omega⟩
    exact solves_main hG hS hs hc a b (by omega) (by omega)
   ·exact solves_out hG hS hs hc i j ho
  ·exact solves_check hG hS hs hc i j
end Go.Proofs.YtpkojcfdkkjmcaaGreatDoor
namespace Go.Proofs.YtpkojcfdkkjmcaaGreatDoor
set_option maxRecDepth 100000
open Go.ChangeShapes Go.WideShapes Go.ChangeAt Go.RowKit
theorem unifySolves_lifted (os:Os) (started:os.Started) (H:Type) (enc:TypeId×Value->H) :
  ReturnsInHanded {} Tryz.checked os 5 .any (fun w args=>(Rows.unifySolvesSpec.pre enc Tryz.prog Tryz.f5 [] false w args/\laidMetH Tryz.prog Rows.unifySolvesRow.laid w)/\sizedMet enc Tryz.prog Tryz.f5 (OpenSpec.ofChange Rows.unifySolvesSpec) false w args)
   (Rows.unifySolvesSpec.post enc Tryz.prog Tryz.f5 false true false false):=by
 refine returnsInHanded_of_change_and (C:=Tryz.checked) (X:=fun w _=>laidMetH Tryz.prog Rows.unifySolvesRow.laid w) (fun _ _ _ hh h=>h.of_heap hh) own started (by kernel_rfl) Tryz.func5
  (ChangeSpec.witness_shaped (enc:=enc) (C:=Tryz.checked) (os:=os) (X:=fun w _=>laidMetH Tryz.prog Rows.unifySolvesRow.laid w) false (World.doorLaid Tryz.prog 16 os) #[.agg #[.slice none 0 0,.slice none 0 0],.int .i64 0,.int .i64 0] 8 rfl (World.shaped_of_RefB (by kernel_rfl) (by kernel_rfl)) (by kernel_rfl) (by kernel_rfl) (by kernel_rfl) (door_met os _)) ?_
 intro W base args ds gs before hval0 hW _ _ hL _
 have hval:∀(j:Nat) t v,Tryz.f5.params[j]?=some t->args[j]?=some v->Value.okWide Tryz.prog W .any base t v:=hval0
 have hW':=hW
 obtain⟨p,q,hA0,hV,rfl,hfz,hnd⟩:=hW
 have hA:DataW.TrodAll enc Tryz.prog W 0 (fun _=>true) true Tryz.f5.params.toList args.toList ds p:=hA0
 rw[Tryz.params5] at hA hval
 obtain⟨v0,vs0,d0,ds0,p0,q0,hargs,rfl,rfl,h0,r0⟩:=trodAll_cons hA
 obtain⟨v1,vs1,d1,ds1,p1,q1,rfl,rfl,rfl,h1,r1⟩:=trodAll_cons r0
 obtain⟨v2,vs2,d2,ds2,p2,q2,rfl,rfl,rfl,h2,r2⟩:=trodAll_cons r1
 obtain⟨rfl,rfl,rfl⟩:=trodAll_nil r2
 obtain rfl:args=#[v0,v1,v2]:=by cases args;simp_all
 obtain⟨rfl,rfl⟩:=trodVars_none hV
 clear hA0 hval0
 obtain⟨a1,rfl,rfl,rfl,w1⟩:=open_int Tryz.underlying3 (hval 1 3 v1 rfl rfl) h1
 obtain⟨a2,rfl,rfl,rfl,w2⟩:=open_int Tryz.underlying3 (hval 2 3 v2 rfl rfl) h2
 simp only[List.append_nil] at hW'
 have hlt0:∀x∈p0,x.block<W.heap.size:=fun x hx=>by simpa using hW'.lt x (by simp[hx])
 have hargs0:∀(W':World),Below W.heap.size W W'->DataW.Trod enc Tryz.prog W' 0 (fun b=>decide (b<W.heap.size)) true 38 v0 d0 p0:=
  fun W' hn=>Below.trod laidOut (by kernel_rfl) (of_decide_eq_true (by kernel_rfl)) h0 hn hlt0
 obtain⟨nv0,rv0,g0,rfl,hG0,hS0⟩:=graph_of (hval 0 38 v0 rfl rfl) h0
 refine (unifySolves_walk (ready_of_laid hL) hG0 hS0 a1 a2).mono fun e W' ⟨he,hg⟩=>?_
 subst he
 refine⟨_,rfl,_,_,_,[],p0++([]++([]++([]))),[],hW',?_,?_,rfl,hg.frame _,fun h=>by cases h⟩
 ·exact trodAll_cons_mk (shut_bool Tryz.underlying4 _) trodAll_mk0
 ·exact (trodAll_cons_mk (hargs0 _ hg) (trodAll_cons_mk (shut_int Tryz.underlying3 w1) (trodAll_cons_mk (shut_int Tryz.underlying3 w2) trodAll_mk0)))
theorem unifySolves_said:Rows.UnifySolvesSaid:=
 OpenClaim.holds_of_wide 5 Tryz.f5 rfl rfl rfl rfl rfl rfl rfl ⟨rfl,rfl,rfl,rfl,rfl⟩ rfl rfl rfl rfl rfl (by kernel_rfl) Tryz.func5 (by kernel_rfl)
  (of_decide_eq_true (by kernel_rfl)) (by unfold Func.isWrapper;first | (rw[if_pos (by decide +kernel)];kernel_rfl) | (rw[if_neg (by decide +kernel)];exact⟨rfl,rfl⟩))
  (fun os started H enc _=>unifySolves_lifted os started H enc)
theorem unifySolves_card:Rows.UnifySolvesCardSaid:=
 Claim7.holds_tied_plain_at .later [] [.handle] true (true, "0ee76debb156bd100e03f8a759bbbd14d687bb0a2ffaddbd8cfa24b9f2e5ac40") true
  unifySolves_said (fun _ h=>by cases h) (by kernel_rfl) (fun _ h=>by cases h) unifySolves_row_tie rfl ⟨rfl,rfl⟩ (by kernel_rfl) rfl
  (fun f fn hf hfn=>by
   obtain rfl:f=5:=Option.some.inj ((show Tryz.prog.funcNamed Rows.unifySolvesRow.func=some 5 by kernel_rfl).symm.trans hf) |>.symm
   obtain rfl:fn=Tryz.f5:=(Option.some.inj (Tryz.func5.symm.trans hfn)).symm
   exact⟨by kernel_rfl,fun j t ht=>by
    rw[Tryz.params5] at ht
    have hm:t∈[38,3,3]:=by simpa using Array.mem_of_getElem? ht
    have hall:([38,3,3].all fun u=>!Tryz.prog.wantsStandIn u)=true:=by kernel_rfl
    exact (show Tryz.prog.wantsStandIn t=false by simpa using List.all_eq_true.1 hall t hm)⟩)
  (by kernel_rfl)
#print axioms unifySolves_card
end Go.Proofs.YtpkojcfdkkjmcaaGreatDoor
