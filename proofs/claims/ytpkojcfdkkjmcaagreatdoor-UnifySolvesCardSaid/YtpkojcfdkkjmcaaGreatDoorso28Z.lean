/- Package cells: the nodes of cells, as they are read. -/
import Derived.Test.YtpkojcfdkkjmcaaGreatDoorso24Z
import Derived.Test.YtpkojcfdkkjmcaaGreatDoorso22Z
import Derived.Test.YtpkojcfdkkjmcaaGreatDoorso03Z
namespace Go.Proofs.YtpkojcfdkkjmcaaGreatDoor
set_option maxRecDepth 100000
open Go.RowKit
structure Rg (w:World) (B rb hb:Nat) (tv:Value) (mq:Nat) (TS:List Int):Prop where
 blk:w.heap[rb]?=some (.cells #[.pointer (some ⟨hb,0,none⟩),tv,.map (some mq)] 180)
 base:B<=rb
 own:w.ownsRow B 120 1 tv TS.length (TS.map (Value.int .u64))
 mb:B<=mq
 map:∃D,w.ownsMap Tryz.prog 120 (plainElem Tryz.prog 3) mq TS.length D/\MapT TS D
 nodup:TS.Nodup
 rng:∀x∈TS,0<=x/\x<=18446744073709551615
def r_foot (rb:Nat) (tv:Value) (mq:Nat):List Nat:=rb::mq::tv.ownBlock.toList
theorem r_mem_foot {rb mq k:Nat} {tv:Value}:k∈r_foot rb tv mq↔k=rb∨k=mq∨tv.ownBlock=some k:=by simp[r_foot]
theorem mapU_keep {w w':World} {q n:Nat} {D:DataW Unit} {ks:List Nat} (h:w.ownsMap Tryz.prog 120 (plainElem Tryz.prog 3) q n D) (hm:a_Mod ks w w') (hk:q∉ks):w'.ownsMap Tryz.prog 120 (plainElem Tryz.prog 3) q n D:=by
 obtain⟨es,clock,hb,rest⟩:=h
 exact⟨es,clock,by rw[hm.block q (lt_of_block hb) hk];exact hb,rest⟩
section
variable {w w':World} {B rb hb mq:Nat} {tv:Value} {TS:List Int}
theorem Rg.lt (h:Rg w B rb hb tv mq TS):rb<w.heap.size/\mq<w.heap.size:=by
 obtain⟨D,⟨es,clock,hq,_⟩,_⟩:=h.map
 exact⟨lt_of_block h.blk,lt_of_block hq⟩
theorem Rg.ap (h:Rg w B rb hb tv mq TS):rb≠mq/\tv.ownBlock≠some rb/\tv.ownBlock≠some mq:=by
 obtain⟨D,⟨es,clock,hq,_⟩,_⟩:=h.map
 refine⟨fun e=>?_,fun e=>?_,fun e=>?_⟩
 ·subst e
  have:=h.blk
  rw[hq] at this
  simp at this
 ·obtain⟨cur,hc⟩:=row_obj h.own e
  have:=h.blk
  rw[hc] at this
  injection this with this
  injection this with _ this
  exact absurd this (by decide)
 ·obtain⟨cur,hc⟩:=row_obj h.own e
  rw[hq] at hc
  simp at hc
theorem Rg.keep {ks:List Nat} (h:Rg w B rb hb tv mq TS) (hm:a_Mod ks w w') (hk:∀k∈ks,k∉r_foot rb tv mq):Rg w' B rb hb tv mq TS:=by
 obtain⟨D,hD,hO⟩:=h.map
 exact⟨(hm.block rb h.lt.1 (fun hx=>hk _ hx (r_mem_foot.2 (Or.inl rfl)))).trans h.blk,h.base,row_keep h.own (fun k hk2=>hm.block k (h.own.lt k hk2).2 (fun hx=>hk _ hx (r_mem_foot.2 (Or.inr (Or.inr hk2))))),h.mb,⟨D,mapU_keep hD hm (fun hx=>hk _ hx (r_mem_foot.2 (Or.inr (Or.inl rfl)))),hO⟩,h.nodup,h.rng⟩
theorem Rg.below (h:Rg w B rb hb tv mq TS) (hb':Below w.heap.size w w'):Rg w' B rb hb tv mq TS:=h.keep (ks:=[]) (a_Mod.ofBelow hb') (fun _ hx=>by cases hx)
theorem Rg.cells (h:Rg w B rb hb tv mq TS):(w.cell? ⟨rb,0,none⟩=some (.pointer (some ⟨hb,0,none⟩))/\w.cell? ⟨rb,1,none⟩=some tv/\w.cell? ⟨rb,2,none⟩=some (.map (some mq)))/\w.frozen? ⟨rb,1,none⟩=false:=by
 have e:=h.blk
 refine⟨⟨?_,?_,?_⟩,?_⟩
 ·simp[World.cell?,e]
 ·simp[World.cell?,e]
 ·simp[World.cell?,e]
 ·simp[World.frozen?,e]
end
theorem Rg.push {w w3 w4:World} {B rb hb mq g cap:Nat} {tv:Value} {TS:List Int} {t:Int} {o:Obj} {D:DataW Unit} (h:Rg w B rb hb tv mq TS) (hO:MapT TS D) (hD:w.ownsMap Tryz.prog 120 (plainElem Tryz.prog 3) mq TS.length D)
  (hm3:w3.ownsMap Tryz.prog 120 (plainElem Tryz.prog 3) mq (TS.length+1) (D.put (.int .u64 t) (.lit (.int .i64 (TS.length:Int))))) (hg3:w.grownBy w3 (some mq))
  (hg4:(w3.alloc o).grownBy w4 tv.ownBlock) (hown:w4.ownsRow B 120 1 (.slice (some ⟨g,0,none⟩) (TS.length+1) cap) (TS.length+1) (TS.map (Value.int .u64)++[.int .u64 t]))
  (hat:tv.ownBlock=some g∨g=w3.heap.size+1) (hn:t∉TS) (hr:0<=t/\t<=18446744073709551615) :
  (w4.heap[rb]?=some (.cells #[.pointer (some ⟨hb,0,none⟩),tv,.map (some mq)] 180))/\Rg (w4.setCell ⟨rb,1,none⟩ (.slice (some ⟨g,0,none⟩) (TS.length+1) cap)) B rb hb (.slice (some ⟨g,0,none⟩) (TS.length+1) cap) mq (TS++[t])/\a_Mod (r_foot rb tv mq) w (w4.setCell ⟨rb,1,none⟩ (.slice (some ⟨g,0,none⟩) (TS.length+1) cap))/\(tv.ownBlock=some g∨w.heap.size<=g):=by
 obtain⟨a1,a2,a3⟩:=h.ap
 obtain⟨z1,z2⟩:=h.lt
 have hz3:=hg3.size
 have hM3:a_Mod (r_foot rb tv mq) w w3:=(a_Mod.refl _ w).grown hg3 (fun k e=>Or.inl (r_mem_foot.2 (Or.inr (Or.inl (by simpa using e.symm)))))
 have hM4:a_Mod (r_foot rb tv mq) w w4:=(hM3.alloc o).grown hg4 (fun k e=>Or.inl (r_mem_foot.2 (Or.inr (Or.inr e))))
 have hb4:w4.heap[rb]?=some (.cells #[.pointer (some ⟨hb,0,none⟩),tv,.map (some mq)] 180):=by
  rw[hg4.block rb (by simp;omega) (fun e=>a2 e.symm),Below.heap_alloc _ _ _ (by omega),hg3.block rb z1 (fun e=>a1 (by simpa using e))]
  exact h.blk
 have hgr:tv.ownBlock=some g∨w.heap.size<=g:=by
  rcases hat with e | e
  ·exact Or.inl e
  ·exact Or.inr (by omega)
 have hgp:g≠rb/\g≠mq:=by
  rcases hat with e | e
  ·exact⟨fun e2=>a2 (e2 ▸ e),fun e2=>a3 (e2 ▸ e)⟩
  ·exact⟨by omega,by omega⟩
 have hs:a_Mod [rb] w4 (w4.setCell ⟨rb,1,none⟩ (.slice (some ⟨g,0,none⟩) (TS.length+1) cap)):=(a_Mod.refl [rb] w4).setCell (p:=⟨rb,1,none⟩) (Or.inl (by simp)) _
 refine⟨hb4,⟨heap_setCell_same w4 rb 1 _ _ _ hb4,h.base,?_,h.mb,⟨_,?_,mapT_put hO hD.isMap hn⟩,?_,fun x hx=>?_⟩,hM4.setCell (p:=⟨rb,1,none⟩) (Or.inl (r_mem_foot.2 (Or.inl rfl))) _,hgr⟩
 ·rw[List.length_append,List.length_singleton,List.map_append]
  exact row_keep hown (fun k hk=>hs.block k (hown.lt k hk).2 (fun hx=>by
   have e:k=rb:=by simpa using hx
   have e2:g=k:=by simpa[Value.ownBlock] using hk
   exact hgp.1 (e2.trans e)))
 ·have h4:=((hm3.alloc o).kept hg4 (fun e=>a3 e.symm)).setCell (a:=⟨rb,1,none⟩) (fun e=>a1 e.symm) (.slice (some ⟨g,0,none⟩) (TS.length+1) cap)
  exact h4.mono (by simp)
 ·have:=addT_nodup (t:=t) h.nodup
  unfold addT at this
  rw[if_neg hn] at this
  exact this
 ·rcases List.mem_append.1 hx with hx | hx
  ·exact h.rng x hx
  ·simp at hx
   rw[hx]
   exact hr
end Go.Proofs.YtpkojcfdkkjmcaaGreatDoor
namespace Go.Proofs.YtpkojcfdkkjmcaaGreatDoor
set_option maxRecDepth 100000
open Go.RowKit Go.Maps
theorem trm_rng {l:List Int} {V:Nat->Bool} (h:Snd l V) (hl:l.length<=65536) {k:Nat} (hk:k<l.length):0<=trmW l k/\trmW l k<=18446744073709551615:=by
 obtain⟨j,hj,e,e2⟩:=trm_ends h _ k hk (Nat.le_refl _)
 rw[e2]
 unfold endW
 split
 ·obtain⟨_,_,s3,s4⟩:=word_str (j:=j) (by omega)
  exact⟨s3,s4⟩
 ·exact h.rng (wdN l j) (by unfold wdN;simp[List.getD,hj])
theorem lit_inj {a b:Int} (h:(DataW.lit (.int .i64 a):DataW Unit)=.lit (.int .i64 b)):a=b:=by
 injection h with h
 injection h
theorem rg_out {w:World} {B B' rb hb mq n:Nat} {tv v:Value} {TS:List Int} {xs:List Value} (h:Rg w B rb hb tv mq TS) (ho:w.ownsRow B' 3 1 v n xs):∀k,v.ownBlock=some k->k∉r_foot rb tv mq:=fun k hk hf=>by
 obtain⟨cur,hc⟩:=row_obj ho hk
 rcases r_mem_foot.1 hf with e | e | e
 ·subst e
  have:=h.blk
  rw[hc] at this
  injection this with this
  injection this with _ this
  exact absurd this (by decide)
 ·subst e
  obtain⟨D,⟨es,clock,hq,_⟩,_⟩:=h.map
  rw[hq] at hc
  simp at hc
 ·obtain⟨cur2,hc2⟩:=row_obj h.own e
  rw[hc] at hc2
  injection hc2 with hc2
  injection hc2 with _ hc2
  exact absurd hc2 (by decide)
theorem rg_grow {W w w6:World} {B rb hb mq n:Nat} {tv0 tv v:Value} {TS:List Int} {xs:List Value} {o:Obj} (hm:a_Mod (r_foot rb tv0 mq) W w) (h:Rg w B rb hb tv mq TS) (ho:w.ownsRow W.heap.size 3 1 v n xs) (hg:(w.alloc o).grownBy w6 v.ownBlock):a_Mod (r_foot rb tv0 mq) W w6/\Rg w6 B rb hb tv mq TS:=
 ⟨(hm.alloc o).grown hg (fun k e=>Or.inr (ho.lt k e).1),h.keep (grown_mod hg) (fun k hk=>rg_out h ho k (by simpa using hk))⟩
theorem rg_mod {W w w':World} {rb mq:Nat} {tv0 tv:Value} (hm:a_Mod (r_foot rb tv0 mq) W w) (hn:a_Nx W tv0 tv) (h:a_Mod (r_foot rb tv mq) w w'):a_Mod (r_foot rb tv0 mq) W w':=hm.trans h (fun x hx=>by
 rcases r_mem_foot.1 hx with e | e | e
 ·exact Or.inl (r_mem_foot.2 (Or.inl e))
 ·exact Or.inl (r_mem_foot.2 (Or.inr (Or.inl e)))
 ·rcases hn x e with e | e
  ·exact Or.inl (r_mem_foot.2 (Or.inr (Or.inr e)))
  ·exact Or.inr e)
theorem rd_cells {w:World} {q:Nat} {u0 u1 u2:Value} {T:TypeId} (h:w.heap[q]?=some (.cells #[u0,u1,u2] T)):(w.cell? ⟨q,0,none⟩=some u0/\w.cell? ⟨q,1,none⟩=some u1/\w.cell? ⟨q,2,none⟩=some u2)/\w.frozen? ⟨q,1,none⟩=false/\q<w.heap.size:=by
 refine⟨⟨?_,?_,?_⟩,?_,lt_of_block h⟩ <;> simp[World.cell?,World.frozen?,h]
theorem nx_push {W w2:World} {tv tv':Value} {g n cap:Nat} (h:a_Nx W tv tv') (hg:tv'.ownBlock=some g∨w2.heap.size<=g) (hz:W.heap.size<=w2.heap.size):a_Nx W tv (.slice (some ⟨g,0,none⟩) n cap):=fun k hk=>by
 have e:g=k:=by simpa[Value.ownBlock] using hk
 subst e
 rcases hg with e | e
 ·exact h g e
 ·exact Or.inr (by omega)
theorem alloc_set_new (w:World) (p:Addr) (v:Value) (o:Obj):((w.setCell p v).alloc o).heap[w.heap.size]?=some o:=by
 have h:=heap_alloc_new (w.setCell p v) o
 rw[show (w.setCell p v).heap.size=w.heap.size by simp] at h
 exact h
theorem rg_new {W w w3 w4:World} {B rb hb mq g cap N:Nat} {tv0 tv ov:Value} {TS:List Int} {t:Int} {o:Obj} {D:DataW Unit} {xs:List Value} (hm:a_Mod (r_foot rb tv0 mq) W w) (hx:a_Nx W tv0 tv) (ho:w.ownsRow W.heap.size 3 1 ov N xs) (h:Rg w B rb hb tv mq TS) (hO:MapT TS D) (hD:w.ownsMap Tryz.prog 120 (plainElem Tryz.prog 3) mq TS.length D)
  (hm3:w3.ownsMap Tryz.prog 120 (plainElem Tryz.prog 3) mq (TS.length+1) (D.put (.int .u64 t) (.lit (.int .i64 (TS.length:Int))))) (hg3:w.grownBy w3 (some mq))
  (hg4:(w3.alloc o).grownBy w4 tv.ownBlock) (hown:w4.ownsRow B 120 1 (.slice (some ⟨g,0,none⟩) (TS.length+1) cap) (TS.length+1) (TS.map (Value.int .u64)++[.int .u64 t]))
  (hat:tv.ownBlock=some g∨g=w3.heap.size+1) (hn:t∉TS) (hr:0<=t/\t<=18446744073709551615) :
  (w4.heap[rb]?=some (.cells #[.pointer (some ⟨hb,0,none⟩),tv,.map (some mq)] 180))/\Rg (w4.setCell ⟨rb,1,none⟩ (.slice (some ⟨g,0,none⟩) (TS.length+1) cap)) B rb hb (.slice (some ⟨g,0,none⟩) (TS.length+1) cap) mq (TS++[t])/\a_Mod (r_foot rb tv0 mq) W (w4.setCell ⟨rb,1,none⟩ (.slice (some ⟨g,0,none⟩) (TS.length+1) cap))/\a_Nx W tv0 (.slice (some ⟨g,0,none⟩) (TS.length+1) cap)/\(w4.setCell ⟨rb,1,none⟩ (.slice (some ⟨g,0,none⟩) (TS.length+1) cap)).ownsRow W.heap.size 3 1 ov N xs:=by
 obtain⟨pb,pR,pM,pN⟩:=Rg.push h hO hD hm3 hg3 hg4 hown hat hn hr
 exact⟨pb,pR,rg_mod hm hx pM,nx_push hx pN hm.size,row_keep ho (fun q hq=>pM.block q (ho.lt q hq).2 (rg_out h ho q hq))⟩
section
variable {W:World} {B rb hb mq:Nat} {tv:Value} {TS:List Int} {Bh ab tb:Nat} {m:Int} {av:Value} {l:List Int} {htv:Value} {tq:Nat} {ns:List ByteArray} {trv ptv:Value} {n:Int} {V:Nat->Bool}
set_option maxHeartbeats 16000000 in
theorem nodes_any (hR:Rg W B rb hb tv mq TS) (hB:B<=W.heap.size) (HHk:∀w',a_Mod (r_foot rb tv mq) W w'->Hp w' Bh hb ab tb m av l htv tq ns trv ptv n) (hs:Snd l V) {cv:Value} {cs:List Int} (hCk:∀w',a_Mod (r_foot rb tv mq) W w'->Ri w' cv cs) (hcs:∀x∈cs,0<=x/\x<(l.length:Int)) (hl:cs.length<=5000) (hTl:TS.length<=70000) :
  Calls Tryz.prog 105 #[.pointer (some ⟨rb,0,none⟩),cv] W fun e w'=>∃ao c tv',e=.returned (.slice ao cs.length c)/\w'.ownsRow W.heap.size 3 1 (.slice ao cs.length c) cs.length ((cs.map (fun c=>posF (addsJ l cs TS cs.length) (tmC l c))).map (Value.int .i64))/\Rg w' B rb hb tv' mq (addsJ l cs TS cs.length)/\a_Mod (r_foot rb tv mq) W w'/\a_Nx W tv tv':=by
 obtain⟨i0,hi,hz0,hz1,hz2⟩:=info_parts infoI
 obtain⟨i2,hi2,hy0,hy1,hy2⟩:=info_parts Tryz.infoU
 have hl6:l.length<=65536:=by
  have h1:=(HHk W (a_Mod.refl _ _)).ar.len
  have h2:=(HHk W (a_Mod.refl _ _)).ar.m2
  omega
 have HR:=hid hR
 have HHK:=hid HHk
 have HS:=hid hs
 have HCk:=hid hCk
 have Hcs:=hid hcs
 obtain⟨ca,cc,rfl,_⟩:=hCk W (a_Mod.refl _ _)
 have hal:Hid (∀j,(addsJ l cs TS j).length<=TS.length+j):=adds_len
 clear hR HHk hs hCk hcs
 go_enter Tryz.func105,Tryz.ntmps105
 go_wp2
 go_loopw [5,7,8,9,10,13] (fun o _ _ _ _ i wr=>∃(j:Nat) (ao:Option Addr) (c:Nat) (tv':Value),j<=cs.length/\i=.int .i64 (j:Int)/\o=.slice ao j c/\Hid (a_Mod (r_foot rb tv mq) W wr)/\Hid (Rg wr B rb hb tv' mq (addsJ l cs TS j))/\Hid (a_Nx W tv tv')/\Hid (wr.ownsRow W.heap.size 3 1 (.slice ao j c) j ((outJ l cs TS j).map (Value.int .i64)))) (fun _ _ _ _ _ i _=>cs.length-(intOf i).toNat)
 case atStart=>exact⟨0,none,0,tv,Nat.zero_le _,rfl,rfl,a_Mod.refl _ _,HR,a_Nx.refl _ _,World.ownsRow_nil _ _ _ _⟩
 case round=>
  clear HR
  obtain⟨j,ao,c,tv',hj,rfl,rfl,hm,hR,hN,hO⟩:=hrel
  by_cases hlt:j<cs.length
  ·have hji:(j:Int)<(cs.length:Int):=by omega
   obtain⟨mb,mo,hma,m0⟩:=(HCk.out wr hm.out).at hlt
   have zm:=lt_of_cell m0
   have hmr:=Hcs.out _ (getD_mem hlt)
   have hst:Hid (addsJ l cs TS (j+1)=addT (addsJ l cs TS j) (tmC l (cs.getD j 0))):=rfl
   have hos:Hid (outJ l cs TS (j+1)=outJ l cs TS j++[posF (addsJ l cs TS (j+1)) (tmC l (cs.getD j 0))]):=out_succ j
   have hTj:=hal.out j
   subst hma
   generalize cs.getD j 0=y at *
   obtain⟨yn,rfl⟩:∃yn:Nat,y=(yn:Int):=⟨y.toNat,by omega⟩
   have hyn:yn<l.length:=by omega
   have hHp:=HHK.out wr hm.out
   obtain⟨⟨h0,_⟩,zh⟩:=hHp.cells
   obtain⟨⟨r0,r1,r2⟩,rf⟩:=hR.out.cells
   have zr:=hR.out.lt.1
   have htr:=hid (fun w1 (hbb:Below wr.heap.size wr w1)=>term_any (hHp.below hbb).ar HS.out yn hyn)
   have hrt:=trm_rng HS.out hl6 hyn
   rw[show tmC l (yn:Int)=trmW l yn from rfl] at hst hos
   generalize trmW l yn=t at *
   have hkey:=keyOf_int_mk (P:=Tryz.prog) Tryz.underlying120 (WalkArith.wf_u64 hrt)
   obtain⟨D,hD,hMT⟩:=hR.out.map
   have h1:=hMT.1 t
   have HD:=hid hD
   have HMT:=hid hMT
   generalize addsJ l cs TS j=TJ at *
   clear hmr hHp hD hMT
   by_cases hin:t∈TJ
   ·have e1:addsJ l cs TS (j+1)=TJ:=by rw[hst.out];unfold addT;rw[if_pos hin]
    rw[e1] at hos
    have HE1:=hid e1
    rw[decide_eq_true hin] at h1
    have h2:=HMT.out.2 t hin
    generalize posF TJ t=P at *
    clear e1 hst hin
    go_wp2_with (first
     | (go_at_call 142;refine (htr.out _ (Below.refl _ _)).mono ?_;rintro e w2 ⟨rfl,hb2⟩;have Hb2:=hid hb2;have HR2:=hid (hR.out.below hb2);have HO2:=hid (row_keep hO.out (fun q hq=>hb2.block q (hO.out.lt q hq).2));have HM2:=hid (rg_mod hm.out hN.out (a_Mod.ofBelow hb2));obtain⟨⟨s0,s1,s2⟩,sf⟩:=HR2.out.cells;have zs:=HR2.out.lt.1;have hD2:=mapU_keep (ks:=[]) HD.out (a_Mod.ofBelow hb2) (by simp);have hO1:=World.ownsRow.alloc HO2.out (.cells #[.int .i64 P] 3);have hzw:W.heap.size<=w2.heap.size:=HM2.out.size;clear hb2)
     | (at_lookup;refine wpList_lookup_own_ok_int _ rfl _ _ 178 rfl 120 3 .i64 (int_keyed Tryz.underlying120) Tryz.underlying178 Tryz.underlying3 (n_zeroInt _) mq _ D rfl hD2 _ _ rfl hkey ?_;intro cz hat hwc;rw[h2] at hat;obtain rfl:=lit_inj hat;clear hat)
     | (at_builtin;go_must (refine wpList_append_lies _ rfl _ _ 36 rfl W.heap.size 3 i0 (.int .i64 0) 1 8 Tryz.underlying36 hi hz0 hz1 hz2 rfl (by decide) _ j _ rfl hO1 ⟨w2.heap.size,0,none⟩ 1 1 [.int .i64 P] rfl rfl (World.news_of_block (cs:=#[.int .i64 P]) (t:=3) (fr:=(0,0)) (heap_alloc_new w2 _)) (by simp[Value.oneCell']) (by decide) (by unfold maxLen;omega) (by omega) (by simp;omega) _ rfl ?_;intro g6 cap w6 hown6 hg6 hat6 hlt6)))
    have HG:=hid (rg_grow HM2.out HR2.out HO2.out hg6)
    go_roundw
    case rel=>exact⟨j+1,some ⟨g6,0,none⟩,cap,tv',by omega,by go_num,rfl,hid HG.out.1,(by rw[HE1.out];exact hid HG.out.2),hN,(show World.ownsRow _ _ _ _ _ _ _ by rw[hos.out,List.map_append];exact hown6)⟩
    case measure=>simp[intOf];omega
   ·have e1:addsJ l cs TS (j+1)=TJ++[t]:=by rw[hst.out];unfold addT;rw[if_neg hin]
    have e2:posF (TJ++[t]) t=(TJ.length:Int):=by rw[posF_snoc hin,if_pos rfl]
    rw[e1,e2] at hos
    have HE1:=hid e1
    rw[decide_eq_false hin] at h1
    have Hin:=hid hin
    have Hrt:=hid hrt
    obtain⟨ta,tc,htv'⟩:∃ta tc,tv'=.slice ta TJ.length tc:=by
     rcases hR.out.own.2 with⟨e,hn0⟩ | ⟨g,cap,cur,e,_⟩
     ·exact⟨none,0,by rw[e,hn0]⟩
     ·exact⟨_,cap,e⟩
    subst htv'
    have hwn:(Lit.int .i64 (TJ.length:Int)).wf=true:=WalkArith.wf_i64 (by omega)
    obtain⟨ap1,ap2,ap3⟩:=hR.out.ap
    have Hap:=hid ap1
    have Hap3:=hid ap3
    have Hap2:=hid ap2
    clear e1 e2 hst hin ap1 ap2 ap3 hrt
    go_wp2_with (first
     | (go_at_call 142;refine (htr.out _ (Below.refl _ _)).mono ?_;rintro e w2 ⟨rfl,hb2⟩;have Hb2:=hid hb2;have HR2:=hid (hR.out.below hb2);have HO2:=hid (row_keep hO.out (fun q hq=>hb2.block q (hO.out.lt q hq).2));have HM2:=hid (rg_mod hm.out hN.out (a_Mod.ofBelow hb2));obtain⟨⟨s0,s1,s2⟩,sf⟩:=HR2.out.cells;have zs:=HR2.out.lt.1;have hD2:=mapU_keep (ks:=[]) HD.out (a_Mod.ofBelow hb2) (by simp);have HD2:=hid hD2;have hzw:W.heap.size<=w2.heap.size:=HM2.out.size;clear hb2)
     | (at_lookup;refine wpList_lookup_own_ok_int _ rfl _ _ 178 rfl 120 3 .i64 (int_keyed Tryz.underlying120) Tryz.underlying178 Tryz.underlying3 (n_zeroInt _) mq _ D rfl hD2 _ _ rfl hkey ?_;intro cz hat hwc;clear hat)
     | (at_mapUpdate;refine wpList_mapUpdate_own _ rfl _ _ _ 178 rfl 120 3 (int_keyed Tryz.underlying120) Tryz.underlying178 _ mq TJ.length _ rfl hD2 (by unfold maxLen;omega) _ _ _ rfl rfl hkey _ [] (plainElem_int Tryz.underlying3 hwn) ?_;intro w3 hD3 hg3;have HD3:=hid hD3;have HG3:=hid hg3;obtain⟨⟨x0,x1,x2⟩,xf,xz⟩:=rd_cells ((hg3.block rb HR2.out.lt.1 (fun e=>Hap.out (by simpa using e))).trans HR2.out.blk);have hT1:=World.ownsRow.alloc (row_keep HR2.out.own (fun q hq=>hg3.block q (HR2.out.own.lt q hq).2 (fun e=>Hap3.out (by rw[hq];exact e)))) (.cells #[.int .u64 t] 120);have hz3:w2.heap.size<=w3.heap.size:=hg3.size;clear hD3 hg3 hD2 s0 s1 s2 sf)
     | (at_builtin;have _m:=hT1;go_must (refine wpList_append_lies _ rfl _ _ 151 rfl B 120 i2 (.int .u64 0) 1 8 Tryz.underlying151 hi2 hy0 hy1 hy2 rfl (by decide) _ TJ.length _ rfl hT1 ⟨w3.heap.size,0,none⟩ 1 1 [.int .u64 t] rfl rfl (World.news_of_block (cs:=#[.int .u64 t]) (t:=120) (fr:=(0,0)) (heap_alloc_new w3 _)) (by simp[Value.oneCell']) (by decide) (by unfold maxLen;omega) (by omega) (by simp;omega) (w3.heap.size+1) (by simp) ?_;intro g4 cap4 w4 hown4 hg4 hat4 hlt4;obtain⟨pb,pR,pM,pN,pO⟩:=rg_new HM2.out hN.out HO2.out HR2.out HMT.out HD2.out HD3.out HG3.out hg4 hown4 hat4 Hin.out Hrt.out;obtain⟨⟨x0,x1,x2⟩,xf,xz⟩:=rd_cells pb;have HR5:=hid pR;have HM5:=hid pM;have HN5:=hid pN;have HO5:=hid pO;have hO1:=World.ownsRow.alloc pO (.cells #[.int .i64 (TJ.length:Int)] 3);have hz5:=pM.size;clear pb pR pM pN pO hown4 hg4 hat4 hT1 _m))
     | (at_builtin;go_must (refine wpList_append_lies _ rfl _ _ 36 rfl W.heap.size 3 i0 (.int .i64 0) 1 8 Tryz.underlying36 hi hz0 hz1 hz2 rfl (by decide) _ j _ rfl hO1 ⟨w4.heap.size,0,none⟩ 1 1 [.int .i64 (TJ.length:Int)] rfl rfl (World.news_of_block (cs:=#[.int .i64 (TJ.length:Int)]) (t:=3) (fr:=(0,0)) (alloc_set_new _ _ _ _)) (by simp[Value.oneCell']) (by decide) (by unfold maxLen;omega) (by omega) (by simp at hz5 ⊢;omega) _ rfl ?_;intro g6 cap w6 hown6 hg6 hat6 hlt6)))
    have HG:=hid (rg_grow HM5.out HR5.out HO5.out hg6)
    go_roundw
    case rel=>exact⟨j+1,some ⟨g6,0,none⟩,cap,_,by omega,by go_num,rfl,hid HG.out.1,(by rw[HE1.out];exact hid HG.out.2),HN5,(show World.ownsRow _ _ _ _ _ _ _ by rw[hos.out,List.map_append];exact hown6)⟩
    case measure=>simp[intOf];omega
  ·obtain rfl:j=cs.length:=by omega
   rw[out_all] at hO
   go_wp2
   go_ret
   exact⟨ao,c,tv',rfl,hO.out,hR.out,hm.out,hN.out⟩
end
end Go.Proofs.YtpkojcfdkkjmcaaGreatDoor
namespace Go.Proofs.YtpkojcfdkkjmcaaGreatDoor
set_option maxRecDepth 100000
open Go.RowKit
theorem On.push2 {w w1 w2:World} {B:Nat} {nv:Value} {avs:List Value} {ns:List Nd} {n:Nd} {ao:Option Addr} {c g cap:Nat} (h:On w B nv avs ns) (hbk:∀k∈blocks (nv::avs),w1.heap[k]?=w.heap[k]?) (hsz:w.heap.size<=w1.heap.size)
  (ha:w1.ownsRow w.heap.size 3 1 (.slice ao n.args.length c) n.args.length (n.args.map (Value.int .i64))) (hB:B<=w.heap.size)
  (hg:w1.grownBy w2 nv.ownBlock) (hown:w2.ownsRow B 86 4 (.slice (some ⟨g,0,none⟩) (ns.length+1) cap) (ns.length+1) (ncells ns avs++[.int .i64 n.kind,.string n.name,.int .i64 n.num,.slice ao n.args.length c]))
  (hat:nv.ownBlock=some g∨w1.heap.size<=g):On w2 B (.slice (some ⟨g,0,none⟩) (ns.length+1) cap) (avs++[.slice ao n.args.length c]) (ns++[n]):=by
 have h1:=h.keep hbk
 have hnd:=h.nd
 have hlt:=h.lt
 have hnew:∀k,Value.ownBlock (.slice ao n.args.length c)=some k->w.heap.size<=k/\k<w1.heap.size:=fun k e=>ha.lt k e
 have hnv:∀k,nv.ownBlock=some k->k∉blocks avs:=fun k e hk=>by
  have:blocks (nv::avs)=k::blocks avs:=by simp[blocks,e]
  rw[this] at hnd
  exact (List.nodup_cons.1 hnd).1 hk
 have hkeep:∀k∈blocks avs,w2.heap[k]?=w1.heap[k]?:=fun k hk=>by
  have hk':k∈blocks (nv::avs):=by
   obtain⟨v,hv,e⟩:=List.mem_filterMap.1 hk
   exact List.mem_filterMap.2 ⟨v,by simp[hv],e⟩
  exact hg.block k (by have:=(hlt k hk').2;have:=hsz;omega) (fun e=>hnv k e.symm hk)
 refine⟨?_,by simp[h.len],fun j hj=>?_,?_⟩
 ·rw[List.length_append,List.length_singleton,ncells_snoc ns avs n _ h.len]
  exact hown
 ·by_cases e:j<ns.length
  ·obtain⟨aa,ac,e1,e2⟩:=h1.a j e
   have ej:j<avs.length:=by rw[h.len];exact e
   have en:(ns++[n]).getD j nd0=ns.getD j nd0:=by simp[List.getD,List.getElem?_append_left e]
   have ev:(avs++[Value.slice ao n.args.length c]).getD j undef=avs.getD j undef:=by simp[List.getD,List.getElem?_append_left ej]
   rw[en,ev]
   refine⟨aa,ac,e1,own_block e2 (fun k ek=>hkeep k (List.mem_filterMap.2 ⟨avs.getD j undef,by simp[List.getD,ej],by rw[e1];exact ek⟩))⟩
  ·have e':j=ns.length:=by simp at hj;omega
   subst e'
   have en:(ns++[n]).getD ns.length nd0=n:=by simp[List.getD]
   have ev:(avs++[Value.slice ao n.args.length c]).getD ns.length undef=.slice ao n.args.length c:=by rw[←h.len];simp[List.getD]
   rw[en,ev]
   refine⟨ao,c,rfl,own_base (B:=w.heap.size) (own_block ha (fun k ek=>hg.block k (hnew k ek).2 (fun e2=>?_))) hB⟩
   have:=(h.n.lt k e2.symm).2
   have:=(hnew k ek).1
   omega
 ·have hgn:g∉blocks avs:=fun hk=>by
   rcases hat with e | e
   ·exact hnv g e hk
   ·have hk':g∈blocks (nv::avs):=by
     obtain⟨v,hv,e⟩:=List.mem_filterMap.1 hk
     exact List.mem_filterMap.2 ⟨v,by simp[hv],e⟩
    have:=(hlt g hk').2
    have:=hsz
    omega
  have hnd':(blocks avs).Nodup:=by
   cases e:nv.ownBlock with
   | none=>simpa[blocks,e] using hnd
   | some k=>
    have:blocks (nv::avs)=k::blocks avs:=by simp[blocks,e]
    rw[this] at hnd
    exact (List.nodup_cons.1 hnd).2
  have hbl:blocks (.slice (some ⟨g,0,none⟩) (ns.length+1) cap::(avs++[.slice ao n.args.length c]))=g::(blocks avs++blocks [.slice ao n.args.length c]):=by simp[blocks,Value.ownBlock]
  rw[hbl]
  have hav:∀k∈blocks avs,k<w.heap.size:=fun k hk=>by
   obtain⟨v,hv,e⟩:=List.mem_filterMap.1 hk
   exact (hlt k (List.mem_filterMap.2 ⟨v,by simp[hv],e⟩)).2
  cases eb:Value.ownBlock (.slice ao n.args.length c) with
  | none=>
   have:blocks [.slice ao n.args.length c]=[]:=by simp[blocks,eb]
   rw[this,List.append_nil]
   exact List.nodup_cons.2 ⟨hgn,hnd'⟩
  | some k=>
   have:blocks [.slice ao n.args.length c]=[k]:=by simp[blocks,eb]
   rw[this]
   have hk:=hnew k eb
   refine List.nodup_cons.2 ⟨fun hx=>?_,List.nodup_append.2 ⟨hnd',by simp,fun a ha b hb' e=>?_⟩⟩
   ·rcases List.mem_append.1 hx with hx | hx
    ·exact hgn hx
    ·simp at hx
     subst hx
     rcases hat with e | e
     ·have:=(h.n.lt g e).2
      omega
     ·omega
   ·simp at hb'
    subst hb' e
    have:=hav a ha
    omega
theorem on_obj {w:World} {B:Nat} {nv:Value} {avs:List Value} {ns:List Nd} (h:On w B nv avs ns):∀k∈blocks (nv::avs),∃cur T,w.heap[k]?=some (.cells cur T (0,0))/\(T=86∨T=3):=fun k hk=>by
 obtain⟨v,hv,e⟩:=List.mem_filterMap.1 hk
 rcases List.mem_cons.1 hv with rfl | hv
 ·obtain⟨cur,hc⟩:=row_obj h.n e
  exact⟨cur,_,hc,Or.inl rfl⟩
 ·obtain⟨j,hj,rfl⟩:=List.getElem_of_mem hv
  obtain⟨ao,c,h1,h2⟩:=h.a j (by rw[←h.len];exact hj)
  have h3:avs[j]=.slice ao (ns.getD j nd0).args.length c:=by
   rw[←h1]
   simp[List.getD,hj]
  rw[h3] at e
  obtain⟨cur,hc⟩:=row_obj h2 e
  exact⟨cur,_,hc,Or.inr rfl⟩
theorem rg_not {w:World} {B rb hb mq k:Nat} {tv:Value} {TS:List Int} {cur:Array Value} {T:TypeId} (h:Rg w B rb hb tv mq TS) (hk:w.heap[k]?=some (.cells cur T (0,0))) (h1:T≠180) (h2:T≠120):k∉r_foot rb tv mq:=fun hf=>by
 rcases r_mem_foot.1 hf with e | e | e
 ·subst e
  have:=h.blk
  rw[hk] at this
  injection this with this
  injection this with _ this
  exact h1 this
 ·subst e
  obtain⟨D,⟨es,clock,hq,_⟩,_⟩:=h.map
  rw[hq] at hk
  simp at hk
 ·obtain⟨cur2,hc2⟩:=row_obj h.own e
  rw[hk] at hc2
  injection hc2 with hc2
  injection hc2 with _ hc2
  exact h2 hc2
theorem alloc3 (W:World) (a b c:Obj):(((W.alloc a).alloc b).alloc c).heap[W.heap.size]?=some a/\(((W.alloc a).alloc b).alloc c).heap[W.heap.size+1]?=some b/\(((W.alloc a).alloc b).alloc c).heap[W.heap.size+2]?=some c:=by
 have s1:(W.alloc a).heap.size=W.heap.size+1:=by simp
 have s2:((W.alloc a).alloc b).heap.size=W.heap.size+2:=by simp
 have h0:=heap_alloc_new W a
 have h1:=heap_alloc_new (W.alloc a) b
 have h2:=heap_alloc_new ((W.alloc a).alloc b) c
 rw[s1] at h1
 rw[s2] at h2
 refine⟨?_,?_,h2⟩
 ·rw[Below.heap_alloc _ _ _ (by omega),Below.heap_alloc _ _ _ (by omega)]
  exact h0
 ·rw[Below.heap_alloc _ _ _ (by omega)]
  exact h1
structure Rx (W w:World) (hb rb mq gb:Nat) (tv nv rv:Value) (TS:List Int) (avs:List Value) (nds:List Nd) (rts:List Int):Prop where
 b:Below W.heap.size W w
 x:w.heap[W.heap.size]?=some (.cells #[.slice none 0 0,.slice none 0 0] 38)
 r:Rg w (W.heap.size+1) rb hb tv mq TS
 g:w.heap[gb]?=some (.cells #[nv,rv] 38)
 gz:W.heap.size+1<=gb
 on:On w (W.heap.size+1) nv avs nds
 ro:w.ownsRow (W.heap.size+1) 3 1 rv rts.length (rts.map (Value.int .i64))
section
variable {W w w':World} {hb rb mq gb:Nat} {tv nv rv:Value} {TS:List Int} {avs:List Value} {nds:List Nd} {rts:List Int}
theorem Rx.next (h:Rx W w hb rb mq gb tv nv rv TS avs nds rts) (hb':Below w.heap.size w w'):Rx W w' hb rb mq gb tv nv rv TS avs nds rts:=
 ⟨Below.next h.b hb',(hb'.block _ (lt_of_block h.x)).trans h.x,h.r.below hb',(hb'.block _ (lt_of_block h.g)).trans h.g,h.gz,h.on.below hb',row_keep h.ro (fun k hk=>hb'.block k (h.ro.lt k hk).2)⟩
theorem Rx.terms {tv':Value} {TS':List Int} (h:Rx W w hb rb mq gb tv nv rv TS avs nds rts) (hm:a_Mod (r_foot rb tv mq) w w') (hR:Rg w' (W.heap.size+1) rb hb tv' mq TS'):Rx W w' hb rb mq gb tv' nv rv TS' avs nds rts:=by
 have hf:∀k∈r_foot rb tv mq,W.heap.size+1<=k:=fun k hk=>by
  rcases r_mem_foot.1 hk with e | e | e
  ·rw[e]
   exact h.r.base
  ·rw[e]
   exact h.r.mb
  ·exact (h.r.own.lt k e).1
 have hB:Below (W.heap.size+1) w w':=hm.below hf (Nat.lt_of_lt_of_le (lt_of_block h.x) (Nat.le_refl _))
 refine⟨h.b.trans (hB.mono (by omega)),(hB.block _ (by omega)).trans h.x,hR,(hm.block _ (lt_of_block h.g) (rg_not h.r h.g (by decide) (by decide))).trans h.g,h.gz,h.on.keep (fun k hk=>?_),row_keep h.ro (fun k hk=>hm.block k (h.ro.lt k hk).2 (rg_out h.r h.ro k hk))⟩
 obtain⟨cur,T,hc,hT⟩:=on_obj h.on k hk
 exact hm.block k (lt_of_block hc) (rg_not h.r hc (by rcases hT with rfl | rfl <;> decide) (by rcases hT with rfl | rfl <;> decide))
theorem Rx.step {wc w6:World} {tv':Value} {TS':List Int} {n:Nd} {aa:Option Addr} {ac g cap:Nat} {o:Obj} (h:Rx W wc hb rb mq gb tv nv rv TS avs nds rts) (hm:a_Mod (r_foot rb tv mq) wc w) (hR:Rg w (W.heap.size+1) rb hb tv' mq TS')
  (ha:w.ownsRow wc.heap.size 3 1 (.slice aa n.args.length ac) n.args.length (n.args.map (Value.int .i64))) (hg:(w.alloc o).grownBy w6 nv.ownBlock) (hown:w6.ownsRow (W.heap.size+1) 86 4 (.slice (some ⟨g,0,none⟩) (nds.length+1) cap) (nds.length+1) (ncells nds avs++[.int .i64 n.kind,.string n.name,.int .i64 n.num,.slice aa n.args.length ac])) (hat:nv.ownBlock=some g∨g=w.heap.size+1) :
  w6.heap[gb]?=some (.cells #[nv,rv] 38)/\Rx W (w6.setCell ⟨gb,0,none⟩ (.slice (some ⟨g,0,none⟩) (nds.length+1) cap)) hb rb mq gb tv' (.slice (some ⟨g,0,none⟩) (nds.length+1) cap) rv TS' (avs++[.slice aa n.args.length ac]) (nds++[n]) rts:=by
 have h5:=h.terms hm hR
 have hnvo:∀k,nv.ownBlock=some k->∃cur,w.heap[k]?=some (.cells cur 86 (0,0)):=fun k hk=>row_obj h5.on.n hk
 have hz5:=h5.b.size
 have hzg:=lt_of_block h5.g
 have hzx:=lt_of_block h5.x
 have hne:∀{k:Nat} {cur:Array Value} {T:TypeId},w.heap[k]?=some (.cells cur T (0,0))->T≠86->nv.ownBlock≠some k:=fun {k cur T} hk hT e=>by
  obtain⟨c2,h2⟩:=hnvo k e
  rw[hk] at h2
  injection h2 with h2
  injection h2 with _ h2
  exact hT h2
 have hkp:∀{k:Nat},k<w.heap.size->nv.ownBlock≠some k->w6.heap[k]?=w.heap[k]?:=fun {k} hk hn=>by
  rw[hg.block k (by simp;omega) (fun e=>hn e.symm),Below.heap_alloc _ _ _ hk]
 have hg6:w6.heap[gb]?=some (.cells #[nv,rv] 38):=(hkp hzg (hne h5.g (by decide))).trans h5.g
 have hR6:Rg w6 (W.heap.size+1) rb hb tv' mq TS':=hR.keep (grown_mod hg) (fun k hk=>by
  obtain⟨cur,hc⟩:=hnvo k (by simpa using hk)
  exact rg_not hR hc (by decide) (by decide))
 have hsz6:w.heap.size<=w6.heap.size:=by
  have:=hg.size
  simp at this
  omega
 have hon6:On w6 (W.heap.size+1) (.slice (some ⟨g,0,none⟩) (nds.length+1) cap) (avs++[.slice aa n.args.length ac]) (nds++[n]):=by
  have hk0:∀k∈blocks (nv::avs),(w.alloc o).heap[k]?=wc.heap[k]?:=fun k hk=>by
   obtain⟨cur,T,hc,hT⟩:=on_obj h.on k hk
   rw[Below.heap_alloc _ _ _ (Nat.lt_of_lt_of_le (lt_of_block hc) hm.size)]
   exact hm.block k (lt_of_block hc) (rg_not h.r hc (by rcases hT with rfl | rfl <;> decide) (by rcases hT with rfl | rfl <;> decide))
  refine On.push2 h.on hk0 (by have:=hm.size;simp;omega) (World.ownsRow.alloc ha o) (Nat.lt_of_lt_of_le (lt_of_block h.x) (Nat.le_refl _)) hg hown ?_
  rcases hat with e | e
  ·exact Or.inl e
  ·exact Or.inr (by simp;omega)
 have hro6:w6.ownsRow (W.heap.size+1) 3 1 rv rts.length (rts.map (Value.int .i64)):=row_keep h5.ro (fun k hk=>by
  obtain⟨cur,hc⟩:=row_obj h5.ro hk
  exact hkp (lt_of_block hc) (hne hc (by decide)))
 have hB6:Below (W.heap.size+1) w w6:=⟨hg.os,hg.tape,hg.output,hsz6,fun k hk=>hkp (by omega) (fun e=>by have:=(h5.on.n.lt k e).1;omega)⟩
 have hs:a_Mod [gb] w6 (w6.setCell ⟨gb,0,none⟩ (.slice (some ⟨g,0,none⟩) (nds.length+1) cap)):=(a_Mod.refl [gb] w6).setCell (p:=⟨gb,0,none⟩) (Or.inl (by simp)) _
 have hx6:=(hB6.block _ (by omega)).trans h5.x
 refine⟨hg6,⟨(h5.b.trans (hB6.mono (by omega))).setCell (p:=⟨gb,0,none⟩) (by have:=h.gz;show W.heap.size<=gb;omega) _,?_,hR6.keep hs (fun k hk=>?_),heap_setCell_same w6 gb 0 _ _ _ hg6,h.gz,?_,?_⟩⟩
 ·rw[Below.heap_setCell _ _ _ _ (by have:=h.gz;show W.heap.size≠gb;omega)]
  exact hx6
 ·have e:k=gb:=by simpa using hk
  subst e
  exact rg_not hR6 hg6 (by decide) (by decide)
 ·refine hon6.keep (fun k hk=>Below.heap_setCell _ _ _ _ (fun e=>?_))
  obtain⟨cur,T,hc,hT⟩:=on_obj hon6 k hk
  have e':k=gb:=e
  subst e'
  rw[hg6] at hc
  injection hc with hc
  injection hc with _ hc
  rcases hT with rfl | rfl <;> exact absurd hc (by decide)
 ·refine row_keep hro6 (fun k hk=>Below.heap_setCell _ _ _ _ (fun e=>?_))
  obtain⟨cur,hc⟩:=row_obj hro6 hk
  have e':k=gb:=e
  subst e'
  rw[hg6] at hc
  injection hc with hc
  injection hc with _ hc
  exact absurd hc (by decide)
end
end Go.Proofs.YtpkojcfdkkjmcaaGreatDoor
namespace Go.Proofs.YtpkojcfdkkjmcaaGreatDoor
set_option maxRecDepth 100000
open Go.RowKit
structure G7 (wd:World) (gb cb rb:Nat) (OLD vK vS vN vD:Value) (N5 A6:Value->World->Prop) (lit:Value->Obj) (b0 b1 b2 b3 b4 b5 b6 b7 b8 b9 b10 b11 b12 b13 b14 b15 b16:Bool) (x35 x36 x37 x38 x39 x40 x41 x42 x43 x44 x45 x46 x47 x48 x49 x50:Value) (w:World):Prop where
 e0:b0=true->x35=.pointer (some ⟨gb,0,none⟩)
 e1:b1=true->x36=OLD
 e2:b2=true->x37=.pointer (some ⟨cb,0,none⟩)
 e3:b3=true->x38=vK
 e4:b4=true->x39=.pointer (some ⟨cb,2,none⟩)
 e5:b5=true->x40=vS
 e6:b6=true->x41=.pointer (some ⟨cb,3,none⟩)
 e7:b7=true->x42=vN
 e8:b8=true->x43=.pointer (some ⟨rb,0,none⟩)
 e9:b9=true->x44=.pointer (some ⟨cb,4,none⟩)
 e10:b10=true->x45=vD
 e12:b12=true->x47=.agg #[vK,vS,vN,x46]
 c11:b11=true->b10=true
 c12:b12=true->b3=true/\b5=true/\b7=true/\b11=true
 c13:b13=true->b12=true
 c14:b14=true->b1=true/\b13=true
 c15:b15=true->b14=true
 e15:b15=true->x50=.pointer (some ⟨gb,0,none⟩)
 c16:b16=true->b15=true
 s0:b11=false->w=wd
 s1:b11=true->b13=false->N5 x46 w
 s2:b13=true->b14=false->∃w5,N5 x46 w5/\x48=.slice (some ⟨w5.heap.size,0,none⟩) 1 1/\w=w5.alloc (lit x46)
 s3:b14=true->b16=false->A6 x49 w
 s4:b16=true->∃w6,A6 x49 w6/\w=w6.setCell ⟨gb,0,none⟩ x49
section
variable {wd w w':World} {gb cb rb:Nat} {OLD vK vS vN vD:Value} {N5 A6:Value->World->Prop} {lit:Value->Obj} {b0 b1 b2 b3 b4 b5 b6 b7 b8 b9 b10 b11 b12 b13 b14 b15 b16:Bool} {x35 x36 x37 x38 x39 x40 x41 x42 x43 x44 x45 x46 x47 x48 x49 x50:Value}
theorem G7.t0 (h:G7 wd gb cb rb OLD vK vS vN vD N5 A6 lit false b1 b2 b3 b4 b5 b6 b7 b8 b9 b10 b11 b12 b13 b14 b15 b16 x35 x36 x37 x38 x39 x40 x41 x42 x43 x44 x45 x46 x47 x48 x49 x50 w):G7 wd gb cb rb OLD vK vS vN vD N5 A6 lit true b1 b2 b3 b4 b5 b6 b7 b8 b9 b10 b11 b12 b13 b14 b15 b16 (.pointer (some ⟨gb,0,none⟩)) x36 x37 x38 x39 x40 x41 x42 x43 x44 x45 x46 x47 x48 x49 x50 w:=
 ⟨fun _=>rfl,h.e1,h.e2,h.e3,h.e4,h.e5,h.e6,h.e7,h.e8,h.e9,h.e10,h.e12,h.c11,h.c12,h.c13,h.c14,h.c15,h.e15,h.c16,h.s0,h.s1,h.s2,h.s3,h.s4⟩
theorem G7.t1 (h:G7 wd gb cb rb OLD vK vS vN vD N5 A6 lit b0 false b2 b3 b4 b5 b6 b7 b8 b9 b10 b11 b12 b13 b14 b15 b16 x35 x36 x37 x38 x39 x40 x41 x42 x43 x44 x45 x46 x47 x48 x49 x50 w):G7 wd gb cb rb OLD vK vS vN vD N5 A6 lit b0 true b2 b3 b4 b5 b6 b7 b8 b9 b10 b11 b12 b13 b14 b15 b16 x35 (OLD) x37 x38 x39 x40 x41 x42 x43 x44 x45 x46 x47 x48 x49 x50 w:=
 ⟨h.e0,fun _=>rfl,h.e2,h.e3,h.e4,h.e5,h.e6,h.e7,h.e8,h.e9,h.e10,h.e12,h.c11,h.c12,h.c13,fun e=>⟨rfl,(h.c14 e).2⟩,h.c15,h.e15,h.c16,h.s0,h.s1,h.s2,h.s3,h.s4⟩
theorem G7.t2 (h:G7 wd gb cb rb OLD vK vS vN vD N5 A6 lit b0 b1 false b3 b4 b5 b6 b7 b8 b9 b10 b11 b12 b13 b14 b15 b16 x35 x36 x37 x38 x39 x40 x41 x42 x43 x44 x45 x46 x47 x48 x49 x50 w):G7 wd gb cb rb OLD vK vS vN vD N5 A6 lit b0 b1 true b3 b4 b5 b6 b7 b8 b9 b10 b11 b12 b13 b14 b15 b16 x35 x36 (.pointer (some ⟨cb,0,none⟩)) x38 x39 x40 x41 x42 x43 x44 x45 x46 x47 x48 x49 x50 w:=
 ⟨h.e0,h.e1,fun _=>rfl,h.e3,h.e4,h.e5,h.e6,h.e7,h.e8,h.e9,h.e10,h.e12,h.c11,h.c12,h.c13,h.c14,h.c15,h.e15,h.c16,h.s0,h.s1,h.s2,h.s3,h.s4⟩
theorem G7.t3 (h:G7 wd gb cb rb OLD vK vS vN vD N5 A6 lit b0 b1 b2 false b4 b5 b6 b7 b8 b9 b10 b11 b12 b13 b14 b15 b16 x35 x36 x37 x38 x39 x40 x41 x42 x43 x44 x45 x46 x47 x48 x49 x50 w):G7 wd gb cb rb OLD vK vS vN vD N5 A6 lit b0 b1 b2 true b4 b5 b6 b7 b8 b9 b10 b11 b12 b13 b14 b15 b16 x35 x36 x37 (vK) x39 x40 x41 x42 x43 x44 x45 x46 x47 x48 x49 x50 w:=
 ⟨h.e0,h.e1,h.e2,fun _=>rfl,h.e4,h.e5,h.e6,h.e7,h.e8,h.e9,h.e10,h.e12,h.c11,fun e=>⟨rfl,(h.c12 e).2.1,(h.c12 e).2.2.1,(h.c12 e).2.2.2⟩,h.c13,h.c14,h.c15,h.e15,h.c16,h.s0,h.s1,h.s2,h.s3,h.s4⟩
theorem G7.t4 (h:G7 wd gb cb rb OLD vK vS vN vD N5 A6 lit b0 b1 b2 b3 false b5 b6 b7 b8 b9 b10 b11 b12 b13 b14 b15 b16 x35 x36 x37 x38 x39 x40 x41 x42 x43 x44 x45 x46 x47 x48 x49 x50 w):G7 wd gb cb rb OLD vK vS vN vD N5 A6 lit b0 b1 b2 b3 true b5 b6 b7 b8 b9 b10 b11 b12 b13 b14 b15 b16 x35 x36 x37 x38 (.pointer (some ⟨cb,2,none⟩)) x40 x41 x42 x43 x44 x45 x46 x47 x48 x49 x50 w:=
 ⟨h.e0,h.e1,h.e2,h.e3,fun _=>rfl,h.e5,h.e6,h.e7,h.e8,h.e9,h.e10,h.e12,h.c11,h.c12,h.c13,h.c14,h.c15,h.e15,h.c16,h.s0,h.s1,h.s2,h.s3,h.s4⟩
theorem G7.t5 (h:G7 wd gb cb rb OLD vK vS vN vD N5 A6 lit b0 b1 b2 b3 b4 false b6 b7 b8 b9 b10 b11 b12 b13 b14 b15 b16 x35 x36 x37 x38 x39 x40 x41 x42 x43 x44 x45 x46 x47 x48 x49 x50 w):G7 wd gb cb rb OLD vK vS vN vD N5 A6 lit b0 b1 b2 b3 b4 true b6 b7 b8 b9 b10 b11 b12 b13 b14 b15 b16 x35 x36 x37 x38 x39 (vS) x41 x42 x43 x44 x45 x46 x47 x48 x49 x50 w:=
 ⟨h.e0,h.e1,h.e2,h.e3,h.e4,fun _=>rfl,h.e6,h.e7,h.e8,h.e9,h.e10,h.e12,h.c11,fun e=>⟨(h.c12 e).1,rfl,(h.c12 e).2.2.1,(h.c12 e).2.2.2⟩,h.c13,h.c14,h.c15,h.e15,h.c16,h.s0,h.s1,h.s2,h.s3,h.s4⟩
theorem G7.t6 (h:G7 wd gb cb rb OLD vK vS vN vD N5 A6 lit b0 b1 b2 b3 b4 b5 false b7 b8 b9 b10 b11 b12 b13 b14 b15 b16 x35 x36 x37 x38 x39 x40 x41 x42 x43 x44 x45 x46 x47 x48 x49 x50 w):G7 wd gb cb rb OLD vK vS vN vD N5 A6 lit b0 b1 b2 b3 b4 b5 true b7 b8 b9 b10 b11 b12 b13 b14 b15 b16 x35 x36 x37 x38 x39 x40 (.pointer (some ⟨cb,3,none⟩)) x42 x43 x44 x45 x46 x47 x48 x49 x50 w:=
 ⟨h.e0,h.e1,h.e2,h.e3,h.e4,h.e5,fun _=>rfl,h.e7,h.e8,h.e9,h.e10,h.e12,h.c11,h.c12,h.c13,h.c14,h.c15,h.e15,h.c16,h.s0,h.s1,h.s2,h.s3,h.s4⟩
theorem G7.t7 (h:G7 wd gb cb rb OLD vK vS vN vD N5 A6 lit b0 b1 b2 b3 b4 b5 b6 false b8 b9 b10 b11 b12 b13 b14 b15 b16 x35 x36 x37 x38 x39 x40 x41 x42 x43 x44 x45 x46 x47 x48 x49 x50 w):G7 wd gb cb rb OLD vK vS vN vD N5 A6 lit b0 b1 b2 b3 b4 b5 b6 true b8 b9 b10 b11 b12 b13 b14 b15 b16 x35 x36 x37 x38 x39 x40 x41 (vN) x43 x44 x45 x46 x47 x48 x49 x50 w:=
 ⟨h.e0,h.e1,h.e2,h.e3,h.e4,h.e5,h.e6,fun _=>rfl,h.e8,h.e9,h.e10,h.e12,h.c11,fun e=>⟨(h.c12 e).1,(h.c12 e).2.1,rfl,(h.c12 e).2.2.2⟩,h.c13,h.c14,h.c15,h.e15,h.c16,h.s0,h.s1,h.s2,h.s3,h.s4⟩
theorem G7.t8 (h:G7 wd gb cb rb OLD vK vS vN vD N5 A6 lit b0 b1 b2 b3 b4 b5 b6 b7 false b9 b10 b11 b12 b13 b14 b15 b16 x35 x36 x37 x38 x39 x40 x41 x42 x43 x44 x45 x46 x47 x48 x49 x50 w):G7 wd gb cb rb OLD vK vS vN vD N5 A6 lit b0 b1 b2 b3 b4 b5 b6 b7 true b9 b10 b11 b12 b13 b14 b15 b16 x35 x36 x37 x38 x39 x40 x41 x42 (.pointer (some ⟨rb,0,none⟩)) x44 x45 x46 x47 x48 x49 x50 w:=
 ⟨h.e0,h.e1,h.e2,h.e3,h.e4,h.e5,h.e6,h.e7,fun _=>rfl,h.e9,h.e10,h.e12,h.c11,h.c12,h.c13,h.c14,h.c15,h.e15,h.c16,h.s0,h.s1,h.s2,h.s3,h.s4⟩
theorem G7.t9 (h:G7 wd gb cb rb OLD vK vS vN vD N5 A6 lit b0 b1 b2 b3 b4 b5 b6 b7 b8 false b10 b11 b12 b13 b14 b15 b16 x35 x36 x37 x38 x39 x40 x41 x42 x43 x44 x45 x46 x47 x48 x49 x50 w):G7 wd gb cb rb OLD vK vS vN vD N5 A6 lit b0 b1 b2 b3 b4 b5 b6 b7 b8 true b10 b11 b12 b13 b14 b15 b16 x35 x36 x37 x38 x39 x40 x41 x42 x43 (.pointer (some ⟨cb,4,none⟩)) x45 x46 x47 x48 x49 x50 w:=
 ⟨h.e0,h.e1,h.e2,h.e3,h.e4,h.e5,h.e6,h.e7,h.e8,fun _=>rfl,h.e10,h.e12,h.c11,h.c12,h.c13,h.c14,h.c15,h.e15,h.c16,h.s0,h.s1,h.s2,h.s3,h.s4⟩
theorem G7.t10 (h:G7 wd gb cb rb OLD vK vS vN vD N5 A6 lit b0 b1 b2 b3 b4 b5 b6 b7 b8 b9 false b11 b12 b13 b14 b15 b16 x35 x36 x37 x38 x39 x40 x41 x42 x43 x44 x45 x46 x47 x48 x49 x50 w):G7 wd gb cb rb OLD vK vS vN vD N5 A6 lit b0 b1 b2 b3 b4 b5 b6 b7 b8 b9 true b11 b12 b13 b14 b15 b16 x35 x36 x37 x38 x39 x40 x41 x42 x43 x44 (vD) x46 x47 x48 x49 x50 w:=
 ⟨h.e0,h.e1,h.e2,h.e3,h.e4,h.e5,h.e6,h.e7,h.e8,h.e9,fun _=>rfl,h.e12,fun _=>rfl,h.c12,h.c13,h.c14,h.c15,h.e15,h.c16,h.s0,h.s1,h.s2,h.s3,h.s4⟩
theorem G7.no12 (h:G7 wd gb cb rb OLD vK vS vN vD N5 A6 lit b0 b1 b2 b3 b4 b5 b6 b7 b8 b9 b10 false b12 b13 b14 b15 b16 x35 x36 x37 x38 x39 x40 x41 x42 x43 x44 x45 x46 x47 x48 x49 x50 w):b12=false/\b13=false/\b14=false/\b15=false/\b16=false:=by
 have k2:b12=false:=by cases e:b12 with | false=>rfl | true=>exact absurd (h.c12 e).2.2.2 (by simp)
 have k3:b13=false:=by cases e:b13 with | false=>rfl | true=>rw[h.c13 e] at k2;cases k2
 have k4:b14=false:=by cases e:b14 with | false=>rfl | true=>rw[(h.c14 e).2] at k3;cases k3
 have k5:b15=false:=by cases e:b15 with | false=>rfl | true=>rw[h.c15 e] at k4;cases k4
 exact⟨k2,k3,k4,k5,by cases e:b16 with | false=>rfl | true=>rw[h.c16 e] at k5;cases k5⟩
theorem G7.t11 (h:G7 wd gb cb rb OLD vK vS vN vD N5 A6 lit b0 b1 b2 b3 b4 b5 b6 b7 b8 b9 true false b12 b13 b14 b15 b16 x35 x36 x37 x38 x39 x40 x41 x42 x43 x44 x45 x46 x47 x48 x49 x50 w) {x:Value} (hN:N5 x w'):G7 wd gb cb rb OLD vK vS vN vD N5 A6 lit b0 b1 b2 b3 b4 b5 b6 b7 b8 b9 true true b12 b13 b14 b15 b16 x35 x36 x37 x38 x39 x40 x41 x42 x43 x44 x45 x x47 x48 x49 x50 w':=by
 obtain⟨rfl,rfl,rfl,rfl,rfl⟩:=h.no12
 exact⟨h.e0,h.e1,h.e2,h.e3,h.e4,h.e5,h.e6,h.e7,h.e8,h.e9,h.e10,nofun,fun _=>rfl,nofun,nofun,nofun,nofun,nofun,nofun,nofun,fun _ _=>hN,nofun,nofun,nofun⟩
theorem G7.no13 (h:G7 wd gb cb rb OLD vK vS vN vD N5 A6 lit b0 b1 b2 b3 b4 b5 b6 b7 b8 b9 b10 b11 false b13 b14 b15 b16 x35 x36 x37 x38 x39 x40 x41 x42 x43 x44 x45 x46 x47 x48 x49 x50 w):b13=false/\b14=false/\b15=false/\b16=false:=by
 have k3:b13=false:=by cases e:b13 with | false=>rfl | true=>exact absurd (h.c13 e) (by simp)
 have k4:b14=false:=by cases e:b14 with | false=>rfl | true=>rw[(h.c14 e).2] at k3;cases k3
 have k5:b15=false:=by cases e:b15 with | false=>rfl | true=>rw[h.c15 e] at k4;cases k4
 exact⟨k3,k4,k5,by cases e:b16 with | false=>rfl | true=>rw[h.c16 e] at k5;cases k5⟩
theorem G7.t12 (h:G7 wd gb cb rb OLD vK vS vN vD N5 A6 lit b0 b1 b2 true b4 true b6 true b8 b9 b10 true false b13 b14 b15 b16 x35 x36 x37 x38 x39 x40 x41 x42 x43 x44 x45 x46 x47 x48 x49 x50 w):G7 wd gb cb rb OLD vK vS vN vD N5 A6 lit b0 b1 b2 true b4 true b6 true b8 b9 b10 true true b13 b14 b15 b16 x35 x36 x37 x38 x39 x40 x41 x42 x43 x44 x45 x46 (.agg #[vK,vS,vN,x46]) x48 x49 x50 w:=by
 obtain⟨rfl,rfl,rfl,rfl⟩:=h.no13
 exact⟨h.e0,h.e1,h.e2,h.e3,h.e4,h.e5,h.e6,h.e7,h.e8,h.e9,h.e10,fun _=>rfl,h.c11,fun _=>⟨rfl,rfl,rfl,rfl⟩,nofun,nofun,nofun,nofun,nofun,nofun,fun _ _=>h.s1 rfl rfl,nofun,nofun,nofun⟩
theorem G7.t13 (h:G7 wd gb cb rb OLD vK vS vN vD N5 A6 lit b0 b1 b2 b3 b4 b5 b6 b7 b8 b9 b10 b11 true false b14 b15 b16 x35 x36 x37 x38 x39 x40 x41 x42 x43 x44 x45 x46 x47 x48 x49 x50 w):G7 wd gb cb rb OLD vK vS vN vD N5 A6 lit b0 b1 b2 b3 b4 b5 b6 b7 b8 b9 b10 b11 true true b14 b15 b16 x35 x36 x37 x38 x39 x40 x41 x42 x43 x44 x45 x46 x47 (.slice (some ⟨w.heap.size,0,none⟩) 1 1) x49 x50 (w.alloc (lit x46)):=by
 have k4:b14=false:=by cases e:b14 with | false=>rfl | true=>exact absurd (h.c14 e).2 (by simp)
 have k5:b15=false:=by cases e:b15 with | false=>rfl | true=>rw[h.c15 e] at k4;cases k4
 have k6:b16=false:=by cases e:b16 with | false=>rfl | true=>rw[h.c16 e] at k5;cases k5
 have k1:=(h.c12 rfl).2.2.2
 subst k4 k5 k6 k1
 exact⟨h.e0,h.e1,h.e2,h.e3,h.e4,h.e5,h.e6,h.e7,h.e8,h.e9,h.e10,h.e12,h.c11,h.c12,fun _=>rfl,nofun,nofun,nofun,nofun,nofun,nofun,fun _ _=>⟨w,h.s1 rfl rfl,rfl,rfl⟩,nofun,nofun⟩
theorem G7.t14 (h:G7 wd gb cb rb OLD vK vS vN vD N5 A6 lit b0 true b2 b3 b4 b5 b6 b7 b8 b9 b10 b11 b12 true false b15 b16 x35 x36 x37 x38 x39 x40 x41 x42 x43 x44 x45 x46 x47 x48 x49 x50 w) {v:Value} (hA:A6 v w'):G7 wd gb cb rb OLD vK vS vN vD N5 A6 lit b0 true b2 b3 b4 b5 b6 b7 b8 b9 b10 b11 b12 true true b15 b16 x35 x36 x37 x38 x39 x40 x41 x42 x43 x44 x45 x46 x47 x48 v x50 w':=by
 have k5:b15=false:=by cases e:b15 with | false=>rfl | true=>exact absurd (h.c15 e) (by simp)
 have k6:b16=false:=by cases e:b16 with | false=>rfl | true=>rw[h.c16 e] at k5;cases k5
 have k2:=h.c13 rfl
 have k1:=(h.c12 k2).2.2.2
 subst k5 k6 k1
 exact⟨h.e0,h.e1,h.e2,h.e3,h.e4,h.e5,h.e6,h.e7,h.e8,h.e9,h.e10,h.e12,h.c11,h.c12,h.c13,fun _=>⟨rfl,rfl⟩,nofun,nofun,nofun,nofun,nofun,nofun,fun _ _=>hA,nofun⟩
theorem G7.t15 (h:G7 wd gb cb rb OLD vK vS vN vD N5 A6 lit b0 b1 b2 b3 b4 b5 b6 b7 b8 b9 b10 b11 b12 b13 true false b16 x35 x36 x37 x38 x39 x40 x41 x42 x43 x44 x45 x46 x47 x48 x49 x50 w):G7 wd gb cb rb OLD vK vS vN vD N5 A6 lit b0 b1 b2 b3 b4 b5 b6 b7 b8 b9 b10 b11 b12 b13 true true b16 x35 x36 x37 x38 x39 x40 x41 x42 x43 x44 x45 x46 x47 x48 x49 (.pointer (some ⟨gb,0,none⟩)) w:=by
 exact⟨h.e0,h.e1,h.e2,h.e3,h.e4,h.e5,h.e6,h.e7,h.e8,h.e9,h.e10,h.e12,h.c11,h.c12,h.c13,h.c14,fun _=>rfl,fun _=>rfl,fun _=>rfl,h.s0,h.s1,h.s2,h.s3,h.s4⟩
theorem G7.t16 (h:G7 wd gb cb rb OLD vK vS vN vD N5 A6 lit b0 b1 b2 b3 b4 b5 b6 b7 b8 b9 b10 b11 b12 b13 true true false x35 x36 x37 x38 x39 x40 x41 x42 x43 x44 x45 x46 x47 x48 x49 x50 w):G7 wd gb cb rb OLD vK vS vN vD N5 A6 lit b0 b1 b2 b3 b4 b5 b6 b7 b8 b9 b10 b11 b12 b13 true true true x35 x36 x37 x38 x39 x40 x41 x42 x43 x44 x45 x46 x47 x48 x49 x50 (w.setCell ⟨gb,0,none⟩ x49):=by
 have k3:=(h.c14 rfl).2
 have k2:=h.c13 k3
 have k1:=(h.c12 k2).2.2.2
 subst k3 k1
 exact⟨h.e0,h.e1,h.e2,h.e3,h.e4,h.e5,h.e6,h.e7,h.e8,h.e9,h.e10,h.e12,h.c11,h.c12,h.c13,h.c14,fun _=>rfl,h.e15,fun _=>rfl,nofun,nofun,nofun,nofun,fun _=>⟨w,h.s3 rfl rfl,rfl⟩⟩
end
section
variable {wd w:World} {gb cb rb:Nat} {OLD vK vS vN vD:Value} {N5 A6:Value->World->Prop} {lit:Value->Obj} {b0 b1 b2 b3 b4 b5 b6 b7 b8 b9 b10 b11 b12 b13 b14 b15 b16:Bool} {x35 x36 x37 x38 x39 x40 x41 x42 x43 x44 x45 x46 x47 x48 x49 x50:Value}
theorem G7.old (h:G7 wd gb cb rb OLD vK vS vN vD N5 A6 lit b0 false b2 b3 b4 b5 b6 b7 b8 b9 b10 b11 b12 b13 b14 b15 b16 x35 x36 x37 x38 x39 x40 x41 x42 x43 x44 x45 x46 x47 x48 x49 x50 w) {p:Addr} {v:Value} (h0:wd.cell? p=some v) (h1:∀x w,N5 x w->w.cell? p=some v):w.cell? p=some v:=by
 have k4:b14=false:=by cases e:b14 with | false=>rfl | true=>exact absurd (h.c14 e).1 (by simp)
 cases e1:b11 with
 | false=>rw[h.s0 e1];exact h0
 | true=>
  cases e3:b13 with
  | false=>exact h1 _ _ (h.s1 e1 e3)
  | true=>
   obtain⟨w5,hN,_,rfl⟩:=h.s2 e3 k4
   have h2:=h1 _ _ hN
   rw[World.cell?_alloc_lt _ _ _ (World.block_lt_of_cell? w5 p h2)]
   exact h2
theorem G7.loc (h:G7 wd gb cb rb OLD vK vS vN vD N5 A6 lit b0 b1 b2 b3 b4 b5 b6 b7 b8 b9 b10 b11 false b13 b14 b15 b16 x35 x36 x37 x38 x39 x40 x41 x42 x43 x44 x45 x46 x47 x48 x49 x50 w) {p:Addr} {v:Value} (h0:wd.cell? p=some v) (h1:∀x w,N5 x w->w.cell? p=some v):w.cell? p=some v:=by
 obtain⟨k3,_⟩:=h.no13
 cases e1:b11 with
 | false=>rw[h.s0 e1];exact h0
 | true=>exact h1 _ _ (h.s1 e1 k3)
end
theorem gset7 (l:Array Bool) (i j:Nat) (hl:l.size=17) (hi:i<17):(l.setIfInBounds i true).getD j false=if i=j then true else l.getD j false:=by
 simp only[Array.getD_eq_getD_getElem?,Array.getElem?_setIfInBounds]
 split
 ·rename_i e
  rw[if_pos (by omega)]
  rfl
 ·rfl
theorem gopp7 {l:Array Bool} {i:Nat} (hl:l.size=17) (hi:i<17):l.getD i false=l.getD i true:=by
 have h:i<l.size:=by omega
 simp[Array.getD_eq_getD_getElem?,h]
theorem none7 {md:Region.Mode} {ops:Array Oper} {l:Array Bool} (h:Region.ready md ops l=[]) {i:Nat} (hi:i<ops.size) (hd:((ops[i]?).map (·.after.all fun e=>!Region.binds md e || l.getD e.on false)).getD false=true):l.getD i true=true:=by
 cases e:l.getD i true with
 | true=>rfl
 | false=>
  have:i∈Region.ready md ops l:=by
   unfold Region.ready
   refine List.mem_filter.2 ⟨List.mem_range.2 hi,?_⟩
   rw[Bool.and_eq_true,e]
   exact⟨rfl,hd⟩
  rw[h] at this
  cases this
end Go.Proofs.YtpkojcfdkkjmcaaGreatDoor
