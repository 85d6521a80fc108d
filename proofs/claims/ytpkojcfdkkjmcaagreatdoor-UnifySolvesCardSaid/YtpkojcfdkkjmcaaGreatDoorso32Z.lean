/- Package cells: 'read'. -/
import Derived.Test.YtpkojcfdkkjmcaaGreatDoorso28Z
import Derived.Test.YtpkojcfdkkjmcaaGreatDoorso26Z
namespace Go.Proofs.YtpkojcfdkkjmcaaGreatDoor
set_option maxRecDepth 100000
open Go.RowKit Go.Maps
theorem rg_form {w:World} {B rb hb mq:Nat} {tv:Value} {TS:List Int} (h:Rg w B rb hb tv mq TS):∃ta tc,tv=.slice ta TS.length tc:=by
 rcases h.own.2 with⟨e,hn0⟩ | ⟨g,cap,cur,e,_⟩
 ·exact⟨none,0,by rw[e,hn0]⟩
 ·exact⟨_,cap,e⟩
theorem rg_at {w:World} {B rb hb mq:Nat} {ta:Option Addr} {tc:Nat} {TS:List Int} (h:Rg w B rb hb (.slice ta TS.length tc) mq TS) {k:Nat} (hk:k<TS.length):∃q,ta=some ⟨q,0,none⟩/\w.cell? ⟨q,k,none⟩=some (.int .u64 (TS.getD k 0)):=by
 rcases h.own.2 with⟨_,hn0⟩ | ⟨g,cap,cur,e,_⟩
 ·omega
 ·injection e with e _ _
  subst e
  refine⟨g,rfl,?_⟩
  rw[h.own.cellAt k (by omega)]
  simp[List.getD,hk]
section
variable {W wq:World} {Bh hb ab tb rb mq gb:Nat} {m:Int} {av:Value} {l:List Int} {htv:Value} {tq:Nat} {ns:List ByteArray} {trv ptv:Value} {n:Int} {V:Nat->Bool} {tv nv rv:Value} {TS:List Int} {avs:List Value} {nds:List Nd} {rts:List Int}
theorem nodes_rx (hX:Rx W wq hb rb mq gb tv nv rv TS avs nds rts) (hH:Hp W Bh hb ab tb m av l htv tq ns trv ptv n) (hs:Snd l V) {ao:Option Addr} {c B':Nat} {ds:List Int} (hd:wq.ownsRow B' 3 1 (.slice ao ds.length c) ds.length (ds.map (Value.int .i64))) (hds:∀x∈ds,0<=x/\x<(l.length:Int)) (hl:ds.length<=5000) (hTl:TS.length<=70000) :
  Calls Tryz.prog 105 #[.pointer (some ⟨rb,0,none⟩),.slice ao ds.length c] wq fun e w'=>∃ao' c' ta' tc',e=.returned (.slice ao' ds.length c')/\w'.ownsRow wq.heap.size 3 1 (.slice ao' ds.length c') ds.length ((ds.map (fun c=>posF (addsJ l ds TS ds.length) (tmC l c))).map (Value.int .i64))/\Rg w' (W.heap.size+1) rb hb (.slice ta' (addsJ l ds TS ds.length).length tc') mq (addsJ l ds TS ds.length)/\a_Mod (r_foot rb tv mq) wq w':=by
 have hf:∀k∈r_foot rb tv mq,W.heap.size<=k:=fun k hk=>by
  rcases r_mem_foot.1 hk with e | e | e
  ·have:=hX.r.base
   omega
  ·have:=hX.r.mb
   omega
  ·have:=(hX.r.own.lt k e).1
   omega
 have hz:=lt_of_block hX.x
 refine (nodes_any hX.r (by omega) (fun w' h=>hH.below (hX.b.trans (h.below hf (by omega)))) hs (fun w' h=>ri_own (row_keep hd (fun k hk=>h.block k (hd.lt k hk).2 (rg_out hX.r hd k hk)))) hds hl hTl).mono ?_
 rintro e w' ⟨ao',c',tv',rfl,h1,h2,h3,_⟩
 obtain⟨ta',tc',rfl⟩:=rg_form h2
 exact⟨ao',c',ta',tc',rfl,h1,h2,h3⟩
end
theorem on_row {w:World} {B k:Nat} {nv:Value} {avs:List Value} {nds:List Nd} (hk:nds.length=k) (h:On w B nv avs nds):w.ownsRow B 86 4 nv k (ncells nds avs):=by
 rw[←hk]
 exact h.n
theorem rx_step {W w wc w6:World} {hb rb mq gb k len:Nat} {tv tv' nv rv:Value} {TS TS':List Int} {avs:List Value} {nds:List Nd} {rts:List Int} {n:Nd} {aa:Option Addr} {ac g cap:Nat} {o:Obj} (hk:nds.length=k) (h:Rx W wc hb rb mq gb tv nv rv TS avs nds rts) (hm:a_Mod (r_foot rb tv mq) wc w) (hR:Rg w (W.heap.size+1) rb hb tv' mq TS')
  (hlen:n.args.length=len) (ha:w.ownsRow wc.heap.size 3 1 (.slice aa len ac) len (n.args.map (Value.int .i64))) (hg:(w.alloc o).grownBy w6 nv.ownBlock) (hown:w6.ownsRow (W.heap.size+1) 86 4 (.slice (some ⟨g,0,none⟩) (k+1) cap) (k+1) (ncells nds avs++[.int .i64 n.kind,.string n.name,.int .i64 n.num,.slice aa len ac])) (hat:nv.ownBlock=some g∨g=w.heap.size+1) :
  w6.heap[gb]?=some (.cells #[nv,rv] 38)/\Rx W (w6.setCell ⟨gb,0,none⟩ (.slice (some ⟨g,0,none⟩) (k+1) cap)) hb rb mq gb tv' (.slice (some ⟨g,0,none⟩) (k+1) cap) rv TS' (avs++[.slice aa len ac]) (nds++[n]) rts:=by
 subst hk hlen
 exact Rx.step h hm hR ha hg hown hat
theorem ret_gr1 {w:World} {fn:Func} {t:Tmp} (hfn:fn.results=#[.cell t 38]) {tmps:Array Value} {q:Nat} {u0 u1:Value} (h4:tmps[t]?.getD undef=.pointer (some ⟨q,0,none⟩)) (hq:w.heap[q]?=some (.cells #[u0,u1] 38)):(results fn tmps).run Tryz.prog w=.ok (.agg #[u0,u1]) w:=by
 obtain⟨⟨z0,z1⟩,_⟩:=cblk2 hq
 simp[results,hfn,go_sem,h4,z0,z1]
theorem rx_gr {W w:World} {hb rb mq gb nc rc:Nat} {tv:Value} {na ro:Option Addr} {l:List Int} {ns:List ByteArray} {cs TS RT:List Int} {avs:List Value} (h:Rx W w hb rb mq gb tv (.slice na TS.length nc) (.slice ro cs.length rc) TS avs (rdN l ns TS TS.length) RT) (hRT:RT=cs.map (fun c=>posF TS (tmC l c))) {v0 v1:Value} :
  Gr ((w.setCell ⟨W.heap.size,0,none⟩ v0).setCell ⟨W.heap.size,1,none⟩ v1) (.slice na TS.length nc) (.slice ro cs.length rc) (rdG l ns cs TS):=by
 have hk:∀k,W.heap.size+1<=k->((w.setCell ⟨W.heap.size,0,none⟩ v0).setCell ⟨W.heap.size,1,none⟩ v1).heap[k]?=w.heap[k]?:=fun k hk=>by
  rw[Below.heap_setCell _ _ _ _ (by show k≠W.heap.size;omega),Below.heap_setCell _ _ _ _ (by show k≠W.heap.size;omega)]
 have hon:=h.on.keep (w':=(w.setCell ⟨W.heap.size,0,none⟩ v0).setCell ⟨W.heap.size,1,none⟩ v1) (fun k hk2=>hk k (h.on.lt k hk2).1)
 have hro:=row_keep (w':=(w.setCell ⟨W.heap.size,0,none⟩ v0).setCell ⟨W.heap.size,1,none⟩ v1) h.ro (fun k hk2=>hk k (h.ro.lt k hk2).1)
 have hl:(rdN l ns TS TS.length).length=TS.length:=by simp[rdN]
 have hlr:RT.length=cs.length:=by rw[hRT];simp
 refine⟨?_,?_⟩
 ·have h1:=On.rn (ao:=na) (c:=nc) (by rw[hl];exact hon)
  rw[hl] at h1
  exact h1
 ·have h2:=ri_own (ao:=ro) (c:=rc) (L:=RT) (by rw[hlr] at hro ⊢;exact hro)
  rw[hlr,hRT] at h2
  exact h2
section
variable {W:World} {Bh hb ab tb:Nat} {m:Int} {av:Value} {l:List Int} {htv:Value} {tq:Nat} {ns:List ByteArray} {trv ptv:Value} {n:Int} {V:Nat->Bool}
set_option maxHeartbeats 16000000 in
theorem read_any (hH:Hp W Bh hb ab tb m av l htv tq ns trv ptv n) (hs:Snd l V) (hn:NsB l ns.length) {cv:Value} {cs:List Int} (hC:Ri W cv cs) (hcs:∀x∈cs,0<=x/\x<(l.length:Int)) (hl:cs.length<=5000) :
  Calls Tryz.prog 59 #[.pointer (some ⟨hb,0,none⟩),cv] W fun e w'=>(∃nv rv TS,e=.returned (.agg #[nv,rv])/\Gr w' nv rv (rdG l ns cs TS)/\Rfi l cs TS)/\Below W.heap.size W w':=by
 obtain⟨i1,hi1,hy0,hy1,hy2⟩:=info_parts infoN
 have hl6:l.length<=65536:=by
  have h1:=hH.ar.len
  have h2:=hH.ar.m2
  omega
 have hmm:=@run_makeMap Tryz.prog
 have hb0:=below_alloc W (.cells #[.slice none 0 0,.slice none 0 0] 38)
 have hb1:=Below.next hb0 (below_alloc _ (.map #[] 0))
 have hb2:=Below.next hb1 (below_alloc _ (.cells #[.pointer (some ⟨hb,0,none⟩),.slice none 0 0,.map (some (W.heap.size+1))] 180))
 obtain⟨x0,x1,x2⟩:=alloc3 W (.cells #[.slice none 0 0,.slice none 0 0] 38) (.map #[] 0) (.cells #[.pointer (some ⟨hb,0,none⟩),.slice none 0 0,.map (some (W.heap.size+1))] 180)
 have hom:=(World.ownsMap_made (W.alloc (.cells #[.slice none 0 0,.slice none 0 0] 38)) Tryz.prog 120 (plainElem (H:=Unit) Tryz.prog 3)).alloc (.cells #[.pointer (some ⟨hb,0,none⟩),.slice none 0 0,.map (some (W.heap.size+1))] 180)
 rw[show (W.alloc (.cells #[.slice none 0 0,.slice none 0 0] 38)).heap.size=W.heap.size+1 by simp] at hom
 have hR0:Rg (((W.alloc (.cells #[.slice none 0 0,.slice none 0 0] 38)).alloc (.map #[] 0)).alloc (.cells #[.pointer (some ⟨hb,0,none⟩),.slice none 0 0,.map (some (W.heap.size+1))] 180)) (W.heap.size+1) (W.heap.size+2) hb (.slice none 0 0) (W.heap.size+1) []:=
  ⟨x2,by omega,World.ownsRow_nil _ _ _ _,Nat.le_refl _,⟨_,hom,mapT_nil⟩,List.nodup_nil,fun _ hx=>by cases hx⟩
 have hfo:∀k∈r_foot (W.heap.size+2) (.slice none 0 0) (W.heap.size+1),W.heap.size<=k:=fun k hk=>by
  rcases r_mem_foot.1 hk with e | e | e
  ·omega
  ·omega
  ·cases e
 have hnd:=hid (nodes_any hR0 (by first | (simp;done) | (simp;omega)) (fun w' h=>hH.below (hb2.trans (h.below hfo (by first | (simp;done) | (simp;omega))))) hs (cv:=cv) (fun w' h=>hC.below (hb2.trans (h.below hfo (by first | (simp;done) | (simp;omega))))) hcs hl (by simp))
 have HH:=hid hH
 have HS:=hid hs
 have Hn:=hid hn
 have Hcs:=hid hcs
 have hRz:Hid (∀w1:World,a_Mod (r_foot (W.heap.size+2) (.slice none 0 0) (W.heap.size+1)) (((W.alloc (.cells #[.slice none 0 0,.slice none 0 0] 38)).alloc (.map #[] 0)).alloc (.cells #[.pointer (some ⟨hb,0,none⟩),.slice none 0 0,.map (some (W.heap.size+1))] 180)) w1->Below W.heap.size W w1/\w1.heap[W.heap.size]?=some (.cells #[.slice none 0 0,.slice none 0 0] 38)):=fun w1 h=>by
  have h1:=h.below hfo (by first | (simp;done) | (simp;omega))
  have h2:Below (W.heap.size+1) _ w1:=h.below (fun k hk=>by
   rcases r_mem_foot.1 hk with e | e | e
   ·omega
   ·omega
   ·cases e) (by first | (simp;done) | (simp;omega))
  exact⟨hb2.trans h1,(h2.block _ (by omega)).trans x0⟩
 clear hH hs hn hcs hC hb0 hb1 hb2 x0 x1 x2 hom hR0 hfo
 go_enter Tryz.func59,Tryz.ntmps59
 go_wp2_with (go_at_call 105;refine hnd.out.mono ?_;rintro e w1 ⟨ro,rc,tv1,rfl,ho1,hR1,hm1,_⟩;have HO1:=hid ho1;have HR1:=hid hR1;have HZ1:=hid (hRz.out w1 hm1);clear ho1 hR1 hm1)
 obtain⟨ta0,tc0,e0⟩:=rg_form HR1.out
 subst e0
 have hT1:=hid (Rfi.start HS.out Hcs.out)
 have hX1:Hid (Rx W (w1.alloc (.cells #[.slice none 0 0,.slice ro cs.length rc] 38)) hb (W.heap.size+2) (W.heap.size+1) w1.heap.size (.slice ta0 (addsJ l cs [] cs.length).length tc0) (.slice none 0 0) (.slice ro cs.length rc) (addsJ l cs [] cs.length) [] (rdN l ns (addsJ l cs [] cs.length) 0) (cs.map (fun c=>posF (addsJ l cs [] cs.length) (tmC l c)))):=by
  have hbl:=below_alloc w1 (.cells #[.slice none 0 0,.slice ro cs.length rc] 38)
  have hz1:=lt_of_block HZ1.out.2
  refine⟨Below.next HZ1.out.1 hbl,(hbl.block _ hz1).trans HZ1.out.2,HR1.out.below hbl,heap_alloc_new _ _,by omega,On.nil _ _,?_⟩
  rw[List.length_map]
  exact own_base (row_keep HO1.out (fun k hk=>hbl.block k (HO1.out.lt k hk).2)) (by first | (simp;done) | (simp;omega))
 obtain⟨T0,hT0⟩:∃T0,T0=addsJ l cs [] cs.length:=⟨_,rfl⟩
 rw[←hT0] at hX1 hT1
 obtain⟨RT,hRT⟩:∃RT,RT=cs.map (fun c=>posF T0 (tmC l c)):=⟨_,rfl⟩
 rw[←hRT] at hX1
 have HRT:=hid hRT
 clear hRT hT0 hnd HR1 HO1 hRz
 go_loopw [7,8] (fun i _ wr=>∃(k:Nat) (ta:Option Addr) (tc:Nat) (na:Option Addr) (nc:Nat) (TS:List Int) (avs:List Value),i=.int .i64 (k:Int)/\k<=TS.length/\Hid (Rx W wr hb (W.heap.size+2) (W.heap.size+1) w1.heap.size (.slice ta TS.length tc) (.slice na k nc) (.slice ro cs.length rc) TS avs (rdN l ns TS k) RT)/\Hid (Rmi l cs TS k)/\Hid (RT=cs.map (fun c=>posF TS (tmC l c)))) (fun i _ _=>l.length-(intOf i).toNat)
 case atStart=>exact⟨0,ta0,tc0,none,0,T0,[],rfl,Nat.zero_le _,hX1,hT1,HRT⟩
 case round=>
  clear hX1 hT1 HRT HZ1
  obtain⟨k,ta,tc,na,nc,TS,avs,rfl,hk,hX,hM,hRT⟩:=hrel
  obtain⟨⟨r0,r1,r2⟩,_⟩:=hX.out.r.cells
  have zr:=hX.out.r.lt.1
  obtain⟨⟨g0,g1⟩,gf,_⟩:=cblk2 hX.out.g
  have zg:=lt_of_block hX.out.g
  have hTl:=inT_len hM.out.inT hM.out.nodup
  by_cases hlt:k<TS.length
  ·have hki:(k:Int)<(TS.length:Int):=by omega
   obtain⟨q,hq,t0⟩:=rg_at hX.out.r hlt
   subst hq
   have zt:=lt_of_cell t0
   have hin:=hM.out.inT _ (getD_mem hlt)
   have hMs:=hid (Rmi.step HS.out Hn.out hl6 hM.out hlt)
   have hst:=hid (rd_step (ns:=ns) hM.out.cl hlt)
   have hnl:(rdN l ns TS k).length=k:=by simp[rdN];omega
   have hTw:Hid (Tw l ns (TS.getD k 0)):=by
    obtain⟨j,hj,e⟩:=hin
    rw[e]
    exact trm_tw HS.out Hn.out hl6 hj
   generalize TS.getD k 0=t at *
   have htd:=hid (fun w2 (hbb:Below wr.heap.size wr w2)=>ctold_any (HH.out.below (Below.next hX.out.b hbb)) t hTw.out)
   have hds:=hid (args_ok HS.out hTw.out)
   have hd8:=args_eight hTw.out
   have hndt:Hid (ndT l ns (addsJ l (tdL l t) TS (tdL l t).length) t=⟨tdK t,tdS l ns t,tdN t,(tdL l t).map (fun c=>posF (addsJ l (tdL l t) TS (tdL l t).length) (tmC l c))⟩):=rfl
   generalize tdL l t=DS at *
   generalize tdK t=tK at *
   generalize tdA t=tA at *
   generalize tdS l ns t=tS at *
   generalize tdN t=tN at *
   have hpre:Hid (TS <+: addsJ l DS TS DS.length):=adds_le (Nat.zero_le _)
   generalize hTSe:addsJ l DS TS DS.length=TS' at *
   clear hin
   go_wp2_with (go_at_call 106;refine (htd.out _ (Below.refl _ _)).mono ?_;rintro e w2 ⟨⟨da,dc,rfl,hd⟩,hb2⟩;have HD:=hid hd;have HX2:=hid (hX.out.next hb2);clear hd hb2)
   have hbc:=below_alloc w2 (.cells #[.int .i64 tK,.int .i64 tA,.string tS,.int .i64 tN,.slice da DS.length dc] 183)
   have HXc:=hid ((HX2.out.next hbc).next (Below.refl _ _).drew)
   have HCc:=hid (show (w2.alloc (.cells #[.int .i64 tK,.int .i64 tA,.string tS,.int .i64 tN,.slice da DS.length dc] 183)).drew.heap[w2.heap.size]?=some (.cells #[.int .i64 tK,.int .i64 tA,.string tS,.int .i64 tN,.slice da DS.length dc] 183) from heap_alloc_new w2 _)
   have hrow:=hid (show (w2.alloc (.cells #[.int .i64 tK,.int .i64 tA,.string tS,.int .i64 tN,.slice da DS.length dc] 183)).drew.ownsRow _ 3 1 (.slice da DS.length dc) DS.length (DS.map (Value.int .i64)) from row_keep HD.out (fun q hq=>hbc.block q (HD.out.lt q hq).2))
   refine wp_region_any (by kernel_rfl) ?_
   change wpAny _ _ _ _ _ _ _ (w2.alloc (.cells #[.int .i64 tK,.int .i64 tA,.string tS,.int .i64 tN,.slice da DS.length dc] 183)).drew
   generalize (w2.alloc (.cells #[.int .i64 tK,.int .i64 tA,.string tS,.int .i64 tN,.slice da DS.length dc] 183)).drew=wd at *
   obtain⟨⟨c0,_,c2,c3,c4⟩,_,cz⟩:=cel_cells HCc.out
   obtain⟨⟨G0,_⟩,GF,_⟩:=cblk2 HXc.out.g
   have hnr:=hid (nodes_rx HXc.out HH.out HS.out hrow.out hds.out (by omega) (by omega))
   rw[hTSe] at hnr
   have n5g:∀x w5,(fun (x:Value) (w5:World)=>∃oa oc ta' tc',x=.slice oa DS.length oc/\w5.ownsRow wd.heap.size 3 1 (.slice oa DS.length oc) DS.length ((DS.map (fun c=>posF TS' (tmC l c))).map (Value.int .i64))/\Rg w5 (W.heap.size+1) (W.heap.size+2) hb (.slice ta' TS'.length tc') (W.heap.size+1) TS'/\a_Mod (r_foot (W.heap.size+2) (.slice (some ⟨q,0,none⟩) TS.length tc) (W.heap.size+1)) wd w5) x w5->w5.cell? ⟨w1.heap.size,0,none⟩=some (.slice na k nc):=fun x w5 hN=>by
    obtain⟨oa,oc,ta',tc',_,_,h2,h3⟩:=hN
    exact (cblk2 (HXc.out.terms h3 h2).g).1.1
   have n5c:∀x w5,(fun (x:Value) (w5:World)=>∃oa oc ta' tc',x=.slice oa DS.length oc/\w5.ownsRow wd.heap.size 3 1 (.slice oa DS.length oc) DS.length ((DS.map (fun c=>posF TS' (tmC l c))).map (Value.int .i64))/\Rg w5 (W.heap.size+1) (W.heap.size+2) hb (.slice ta' TS'.length tc') (W.heap.size+1) TS'/\a_Mod (r_foot (W.heap.size+2) (.slice (some ⟨q,0,none⟩) TS.length tc) (W.heap.size+1)) wd w5) x w5->w5.heap[w2.heap.size]?=some (.cells #[.int .i64 tK,.int .i64 tA,.string tS,.int .i64 tN,.slice da DS.length dc] 183):=fun x w5 hN=>by
    obtain⟨oa,oc,ta',tc',_,_,h2,h3⟩:=hN
    exact (h3.block _ cz (rg_not HXc.out.r HCc.out (by decide) (by decide))).trans HCc.out
   refine wpAny_inv (fun la a w=>la.size=17/\∃x35 x36 x37 x38 x39 x40 x41 x42 x43 x44 x45 x46 x47 x48 x49 x50,a=(⟨#[.pointer (some ⟨hb,0,none⟩),cv,undef,undef,.pointer (some ⟨W.heap.size,0,none⟩),.pointer (some ⟨W.heap.size+1+1,0,none⟩),.pointer (some ⟨w1.heap.size,0,none⟩),.int .i64 (k:Int),.pointer (some ⟨w2.heap.size,0,none⟩),.pointer (some ⟨hb,0,none⟩),.map (some (W.heap.size+1)),.agg #[.pointer (some ⟨hb,0,none⟩),.slice none 0 0,.map (some (W.heap.size+1))],.pointer (some ⟨W.heap.size+1+1,0,none⟩),.pointer (some ⟨W.heap.size+1+1,0,none⟩),cv,.slice ro cs.length rc,.agg #[.slice none 0 0,.slice ro cs.length rc],.int .i64 (k:Int),.pointer (some ⟨W.heap.size+1+1,0,none⟩),.pointer (some ⟨W.heap.size+1+1,0,none⟩),.pointer (some ⟨W.heap.size+1+1,1,none⟩),.slice (some ⟨q,0,none⟩) TS.length tc,.int .i64 (TS.length:Int),.bool true,u24,u25,.pointer (some ⟨hb,0,none⟩),.pointer (some ⟨W.heap.size+1+1,0,none⟩),.pointer (some ⟨W.heap.size+1+1,0,none⟩),.pointer (some ⟨W.heap.size+1+1,1,none⟩),.slice (some ⟨q,0,none⟩) TS.length tc,.int .i64 (k:Int),.pointer (some ⟨q,k,none⟩),.int .u64 t,.agg #[.int .i64 tK,.int .i64 tA,.string tS,.int .i64 tN,.slice da DS.length dc],x35,x36,x37,x38,x39,x40,x41,x42,x43,x44,x45,x46,x47,x48,x49,x50,undef],[]⟩:Act)/\G7 wd w1.heap.size w2.heap.size (W.heap.size+1+1) (.slice na k nc) (.int .i64 tK) (.string tS) (.int .i64 tN) (.slice da DS.length dc) (fun (x:Value) (w5:World)=>∃oa oc ta' tc',x=.slice oa DS.length oc/\w5.ownsRow wd.heap.size 3 1 (.slice oa DS.length oc) DS.length ((DS.map (fun c=>posF TS' (tmC l c))).map (Value.int .i64))/\Rg w5 (W.heap.size+1) (W.heap.size+2) hb (.slice ta' TS'.length tc') (W.heap.size+1) TS'/\a_Mod (r_foot (W.heap.size+2) (.slice (some ⟨q,0,none⟩) TS.length tc) (W.heap.size+1)) wd w5) (fun (v:Value) (w6:World)=>∃g6 cap6 ta' tc' avs',v=.slice (some ⟨g6,0,none⟩) (k+1) cap6/\w6.heap[w1.heap.size]?=some (.cells #[.slice na k nc,.slice ro cs.length rc] 38)/\Rx W (w6.setCell ⟨w1.heap.size,0,none⟩ (.slice (some ⟨g6,0,none⟩) (k+1) cap6)) hb (W.heap.size+2) (W.heap.size+1) w1.heap.size (.slice ta' TS'.length tc') (.slice (some ⟨g6,0,none⟩) (k+1) cap6) (.slice ro cs.length rc) TS' avs' (rdN l ns TS k++[⟨tK,tS,tN,DS.map (fun c=>posF TS' (tmC l c))⟩]) RT) (fun x=>.cells #[.int .i64 tK,.string tS,.int .i64 tN,x] 86) (la.getD 0 false) (la.getD 1 false) (la.getD 2 false) (la.getD 3 false) (la.getD 4 false) (la.getD 5 false) (la.getD 6 false) (la.getD 7 false) (la.getD 8 false) (la.getD 9 false) (la.getD 10 false) (la.getD 11 false) (la.getD 12 false) (la.getD 13 false) (la.getD 14 false) (la.getD 15 false) (la.getD 16 false) x35 x36 x37 x38 x39 x40 x41 x42 x43 x44 x45 x46 x47 x48 x49 x50 w) ?_ ?_ _ _ _ _ (by decide) ?_
   case refine_3=>
    refine⟨by simp,u35,u36,u37,u38,u39,u40,u41,u42,u43,u44,u45,u46,u47,u48,u49,u50,rfl,?_⟩
    exact⟨nofun,nofun,nofun,nofun,nofun,nofun,nofun,nofun,nofun,nofun,nofun,nofun,nofun,nofun,nofun,nofun,nofun,nofun,nofun,fun _=>rfl,nofun,nofun,nofun,nofun⟩
   case refine_1=>
    rintro la a w ⟨hl,x35,x36,x37,x38,x39,x40,x41,x42,x43,x44,x45,x46,x47,x48,x49,x50,rfl,hsp⟩ i hi
    obtain⟨i1,i2,i3⟩:=ready_spec hi
    have hi17:i<17:=i1
    rw[←gopp7 hl hi17] at i2
    clear hi i1
    have hcs:i=0∨i=1∨i=2∨i=3∨i=4∨i=5∨i=6∨i=7∨i=8∨i=9∨i=10∨i=11∨i=12∨i=13∨i=14∨i=15∨i=16:=by omega
    rcases hcs with rfl | rfl | rfl | rfl | rfl | rfl | rfl | rfl | rfl | rfl | rfl | rfl | rfl | rfl | rfl | rfl | rfl
    ·rw[i2] at hsp
     refine wpOp_step rfl (fun K hK=>?_)
     go_simp
     refine hK _ _ ⟨by simpa using hl,_,_,_,_,_,_,_,_,_,_,_,_,_,_,_,_,rfl,?_⟩
     simp only[gset7 la 0 _ hl (by decide)]
     exact hsp.t0
    ·have i4:la.getD 0 false=true:=by simpa[Region.binds] using i3
     have e1:=hsp.e0 i4
     subst e1
     rw[i2] at hsp
     have y0:=G7.old hsp G0 n5g
     refine wpOp_step rfl (fun K hK=>?_)
     go_simp
     refine hK _ _ ⟨by simpa using hl,_,_,_,_,_,_,_,_,_,_,_,_,_,_,_,_,rfl,?_⟩
     simp only[gset7 la 1 _ hl (by decide)]
     exact hsp.t1
    ·rw[i2] at hsp
     refine wpOp_step rfl (fun K hK=>?_)
     go_simp
     refine hK _ _ ⟨by simpa using hl,_,_,_,_,_,_,_,_,_,_,_,_,_,_,_,_,rfl,?_⟩
     simp only[gset7 la 2 _ hl (by decide)]
     exact hsp.t2
    ·have i4:la.getD 2 false=true:=by simpa[Region.binds] using i3
     have e1:=hsp.e2 i4
     subst e1
     have b12:la.getD 12 false=false:=by cases e:la.getD 12 false with | false=>rfl | true=>exact absurd i2 (by rw[(hsp.c12 e).1];simp)
     rw[i2] at hsp
     have hq:=hsp
     rw[b12] at hq
     have y0:=G7.loc hq c0 (fun x w5 hN=>(cel_cells (n5c x w5 hN)).1.1)
     clear hq
     refine wpOp_step rfl (fun K hK=>?_)
     go_simp
     refine hK _ _ ⟨by simpa using hl,_,_,_,_,_,_,_,_,_,_,_,_,_,_,_,_,rfl,?_⟩
     simp only[gset7 la 3 _ hl (by decide)]
     exact hsp.t3
    ·rw[i2] at hsp
     refine wpOp_step rfl (fun K hK=>?_)
     go_simp
     refine hK _ _ ⟨by simpa using hl,_,_,_,_,_,_,_,_,_,_,_,_,_,_,_,_,rfl,?_⟩
     simp only[gset7 la 4 _ hl (by decide)]
     exact hsp.t4
    ·have i4:la.getD 4 false=true:=by simpa[Region.binds] using i3
     have e1:=hsp.e4 i4
     subst e1
     have b12:la.getD 12 false=false:=by cases e:la.getD 12 false with | false=>rfl | true=>exact absurd i2 (by rw[(hsp.c12 e).2.1];simp)
     rw[i2] at hsp
     have hq:=hsp
     rw[b12] at hq
     have y0:=G7.loc hq c2 (fun x w5 hN=>(cel_cells (n5c x w5 hN)).1.2.2.1)
     clear hq
     refine wpOp_step rfl (fun K hK=>?_)
     go_simp
     refine hK _ _ ⟨by simpa using hl,_,_,_,_,_,_,_,_,_,_,_,_,_,_,_,_,rfl,?_⟩
     simp only[gset7 la 5 _ hl (by decide)]
     exact hsp.t5
    ·rw[i2] at hsp
     refine wpOp_step rfl (fun K hK=>?_)
     go_simp
     refine hK _ _ ⟨by simpa using hl,_,_,_,_,_,_,_,_,_,_,_,_,_,_,_,_,rfl,?_⟩
     simp only[gset7 la 6 _ hl (by decide)]
     exact hsp.t6
    ·have i4:la.getD 6 false=true:=by simpa[Region.binds] using i3
     have e1:=hsp.e6 i4
     subst e1
     have b12:la.getD 12 false=false:=by cases e:la.getD 12 false with | false=>rfl | true=>exact absurd i2 (by rw[(hsp.c12 e).2.2.1];simp)
     rw[i2] at hsp
     have hq:=hsp
     rw[b12] at hq
     have y0:=G7.loc hq c3 (fun x w5 hN=>(cel_cells (n5c x w5 hN)).1.2.2.2.1)
     clear hq
     refine wpOp_step rfl (fun K hK=>?_)
     go_simp
     refine hK _ _ ⟨by simpa using hl,_,_,_,_,_,_,_,_,_,_,_,_,_,_,_,_,rfl,?_⟩
     simp only[gset7 la 7 _ hl (by decide)]
     exact hsp.t7
    ·rw[i2] at hsp
     refine wpOp_step rfl (fun K hK=>?_)
     go_simp
     refine hK _ _ ⟨by simpa using hl,_,_,_,_,_,_,_,_,_,_,_,_,_,_,_,_,rfl,?_⟩
     simp only[gset7 la 8 _ hl (by decide)]
     exact hsp.t8
    ·rw[i2] at hsp
     refine wpOp_step rfl (fun K hK=>?_)
     go_simp
     refine hK _ _ ⟨by simpa using hl,_,_,_,_,_,_,_,_,_,_,_,_,_,_,_,_,rfl,?_⟩
     simp only[gset7 la 9 _ hl (by decide)]
     exact hsp.t9
    ·have i4:la.getD 9 false=true:=by simpa[Region.binds] using i3
     have e1:=hsp.e9 i4
     subst e1
     have b11:la.getD 11 false=false:=by cases e:la.getD 11 false with | false=>rfl | true=>exact absurd i2 (by rw[hsp.c11 e];simp)
     have e2:=(hsp.s0 b11).symm
     subst e2
     rw[i2] at hsp
     refine wpOp_step rfl (fun K hK=>?_)
     go_simp
     refine hK _ _ ⟨by simpa using hl,_,_,_,_,_,_,_,_,_,_,_,_,_,_,_,_,rfl,?_⟩
     simp only[gset7 la 10 _ hl (by decide)]
     exact hsp.t10
    ·have i4:la.getD 8 false=true/\la.getD 10 false=true:=by simpa[Region.binds] using i3
     have e1:=hsp.e8 i4.1
     have e2:=hsp.e10 i4.2
     subst e1 e2
     rw[i2,i4.2] at hsp
     have e3:=(hsp.s0 rfl).symm
     subst e3
     refine wpOp_step rfl (fun K hK=>?_)
     go_simp
     go_at_call 105
     refine hnr.out.mono ?_
     rintro e w5 ⟨oa,oc,ta',tc',rfl,hA5,hR5,hm5⟩
     have hN5:(fun (x:Value) (w5:World)=>∃oa oc ta' tc',x=.slice oa DS.length oc/\w5.ownsRow wd.heap.size 3 1 (.slice oa DS.length oc) DS.length ((DS.map (fun c=>posF TS' (tmC l c))).map (Value.int .i64))/\Rg w5 (W.heap.size+1) (W.heap.size+2) hb (.slice ta' TS'.length tc') (W.heap.size+1) TS'/\a_Mod (r_foot (W.heap.size+2) (.slice (some ⟨q,0,none⟩) TS.length tc) (W.heap.size+1)) wd w5) (.slice oa DS.length oc) w5:=⟨oa,oc,ta',tc',rfl,hA5,hR5,hm5⟩
     refine hK _ _ ⟨by simpa using hl,_,_,_,_,_,_,_,_,_,_,_,_,_,_,_,_,rfl,?_⟩
     simp only[gset7 la 11 _ hl (by decide),i4.2]
     exact hsp.t11 hN5
    ·have i4:la.getD 3 false=true/\la.getD 5 false=true/\la.getD 7 false=true/\la.getD 11 false=true:=by simpa[Region.binds] using i3
     have e1:=hsp.e3 i4.1
     have e2:=hsp.e5 i4.2.1
     have e3:=hsp.e7 i4.2.2.1
     subst e1 e2 e3
     rw[i2,i4.1,i4.2.1,i4.2.2.1,i4.2.2.2] at hsp
     obtain⟨oa,oc,ta',tc',rfl,_⟩:=hsp.s1 rfl hsp.no13.1
     refine wpOp_step rfl (fun K hK=>?_)
     go_simp
     refine hK _ _ ⟨by simpa using hl,_,_,_,_,_,_,_,_,_,_,_,_,_,_,_,_,rfl,?_⟩
     simp only[gset7 la 12 _ hl (by decide),i4.1,i4.2.1,i4.2.2.1,i4.2.2.2]
     exact hsp.t12
    ·have i4:la.getD 12 false=true:=by simpa[Region.binds] using i3
     have e1:=hsp.e12 i4
     subst e1
     have b11:=(hsp.c12 i4).2.2.2
     rw[i2,i4] at hsp
     obtain⟨oa,oc,ta',tc',rfl,_⟩:=hsp.s1 b11 rfl
     refine wpOp_step rfl (fun K hK=>?_)
     go_simp
     refine hK _ _ ⟨by simpa using hl,_,_,_,_,_,_,_,_,_,_,_,_,_,_,_,_,rfl,?_⟩
     simp only[gset7 la 13 _ hl (by decide),i4]
     exact hsp.t13
    ·have i4:la.getD 1 false=true/\la.getD 13 false=true:=by
       simp[Region.binds] at i3
       exact⟨by simpa using i3.1,by simpa using i3.2.1⟩
     have e1:=hsp.e1 i4.1
     subst e1
     rw[i2,i4.1,i4.2] at hsp
     obtain⟨w5,⟨oa,oc,ta',tc',rfl,hA5,hR5,hm5⟩,rfl,rfl⟩:=hsp.s2 rfl rfl
     have HX5:=HXc.out.terms hm5 hR5
     have hon5:=World.ownsRow.alloc (on_row hnl HX5.on) (.cells #[.int .i64 tK,.string tS,.int .i64 tN,.slice oa DS.length oc] 86)
     have hz5:=lt_of_block HX5.x
     refine wpOp_step rfl (fun K hK=>?_)
     refine step_append_lies _ (by rfl) _ _ _ (by rfl) (W.heap.size+1) 86 i1 (.agg #[.int .i64 0,.string ⟨#[]⟩,.int .i64 0,.slice none 0 0]) 4 56 Tryz.underlying35 hi1 hy0 hy1 hy2 rfl (by omega) _ k (ncells (rdN l ns TS k) avs) (by rfl) hon5 ⟨w5.heap.size,0,none⟩ 1 1 [.int .i64 tK,.string tS,.int .i64 tN,.slice oa DS.length oc] (by rfl) (by rfl) (World.news_of_block (cs:=#[.int .i64 tK,.string tS,.int .i64 tN,.slice oa DS.length oc]) (t:=86) (fr:=(0,0)) (heap_alloc_new w5 _)) (by simp[Value.oneCell']) (by omega) (by unfold maxLen;omega) (by omega) (by simp;omega) (w5.heap.size+1) (by simp) ?_
     intro g6 cap6 w6 hown6 hg6 hat6 hlt6
     obtain⟨pb,pX⟩:=rx_step hnl (n:=⟨tK,tS,tN,DS.map (fun c=>posF TS' (tmC l c))⟩) HXc.out hm5 hR5 (len:=DS.length) (by simp) hA5 hg6 hown6 hat6
     refine hK _ _ ⟨by simpa using hl,_,_,_,_,_,_,_,_,_,_,_,_,_,_,_,_,rfl,?_⟩
     simp only[gset7 la 14 _ hl (by decide),i4.1,i4.2]
     exact hsp.t14 ⟨g6,cap6,ta',tc',_,rfl,pb,pX⟩
    ·have i4:la.getD 14 false=true:=by
       simp[Region.binds] at i3
       simpa using i3.2.2.2.2.2.2.2.2.2.2.2.2.2.2
     rw[i2,i4] at hsp
     refine wpOp_step rfl (fun K hK=>?_)
     go_simp
     refine hK _ _ ⟨by simpa using hl,_,_,_,_,_,_,_,_,_,_,_,_,_,_,_,_,rfl,?_⟩
     simp only[gset7 la 15 _ hl (by decide),i4]
     exact hsp.t15
    ·have i4:la.getD 15 false=true/\la.getD 14 false=true:=by
       simp[Region.binds] at i3
       exact⟨by simpa using i3.1,by simpa using i3.2.1⟩
     have e1:=hsp.e15 i4.1
     subst e1
     rw[i2,i4.1,i4.2] at hsp
     obtain⟨g6,cap6,ta',tc',avs',rfl,pb,pX⟩:=hsp.s3 rfl rfl
     obtain⟨⟨y0,_⟩,yf,_⟩:=cblk2 pb
     refine wpOp_step rfl (fun K hK=>?_)
     go_simp
     refine hK _ _ ⟨by simpa using hl,_,_,_,_,_,_,_,_,_,_,_,_,_,_,_,_,rfl,?_⟩
     simp only[gset7 la 16 _ hl (by decide),i4.1,i4.2]
     exact hsp.t16
   case refine_2=>
    rintro la a w ⟨hl,x35,x36,x37,x38,x39,x40,x41,x42,x43,x44,x45,x46,x47,x48,x49,x50,rfl,hsp⟩ hr
    have n0:la.getD 0 false=true:=by
     rw[gopp7 hl (by omega)]
     exact none7 hr (i:=0) (by decide) (by simp[Region.binds])
    have m0:la[0]?.getD false=true:=by simpa using n0
    have n1:la.getD 1 false=true:=by
     rw[gopp7 hl (by omega)]
     exact none7 hr (i:=1) (by decide) (by simp[Region.binds,m0])
    have m1:la[1]?.getD false=true:=by simpa using n1
    have n2:la.getD 2 false=true:=by
     rw[gopp7 hl (by omega)]
     exact none7 hr (i:=2) (by decide) (by simp[Region.binds])
    have m2:la[2]?.getD false=true:=by simpa using n2
    have n3:la.getD 3 false=true:=by
     rw[gopp7 hl (by omega)]
     exact none7 hr (i:=3) (by decide) (by simp[Region.binds,m2])
    have m3:la[3]?.getD false=true:=by simpa using n3
    have n4:la.getD 4 false=true:=by
     rw[gopp7 hl (by omega)]
     exact none7 hr (i:=4) (by decide) (by simp[Region.binds])
    have m4:la[4]?.getD false=true:=by simpa using n4
    have n5:la.getD 5 false=true:=by
     rw[gopp7 hl (by omega)]
     exact none7 hr (i:=5) (by decide) (by simp[Region.binds,m4])
    have m5:la[5]?.getD false=true:=by simpa using n5
    have n6:la.getD 6 false=true:=by
     rw[gopp7 hl (by omega)]
     exact none7 hr (i:=6) (by decide) (by simp[Region.binds])
    have m6:la[6]?.getD false=true:=by simpa using n6
    have n7:la.getD 7 false=true:=by
     rw[gopp7 hl (by omega)]
     exact none7 hr (i:=7) (by decide) (by simp[Region.binds,m6])
    have m7:la[7]?.getD false=true:=by simpa using n7
    have n8:la.getD 8 false=true:=by
     rw[gopp7 hl (by omega)]
     exact none7 hr (i:=8) (by decide) (by simp[Region.binds])
    have m8:la[8]?.getD false=true:=by simpa using n8
    have n9:la.getD 9 false=true:=by
     rw[gopp7 hl (by omega)]
     exact none7 hr (i:=9) (by decide) (by simp[Region.binds])
    have m9:la[9]?.getD false=true:=by simpa using n9
    have n10:la.getD 10 false=true:=by
     rw[gopp7 hl (by omega)]
     exact none7 hr (i:=10) (by decide) (by simp[Region.binds,m9])
    have m10:la[10]?.getD false=true:=by simpa using n10
    have n11:la.getD 11 false=true:=by
     rw[gopp7 hl (by omega)]
     exact none7 hr (i:=11) (by decide) (by simp[Region.binds,m8,m10])
    have m11:la[11]?.getD false=true:=by simpa using n11
    have n12:la.getD 12 false=true:=by
     rw[gopp7 hl (by omega)]
     exact none7 hr (i:=12) (by decide) (by simp[Region.binds,m3,m5,m7,m11])
    have m12:la[12]?.getD false=true:=by simpa using n12
    have n13:la.getD 13 false=true:=by
     rw[gopp7 hl (by omega)]
     exact none7 hr (i:=13) (by decide) (by simp[Region.binds,m12])
    have m13:la[13]?.getD false=true:=by simpa using n13
    have n14:la.getD 14 false=true:=by
     rw[gopp7 hl (by omega)]
     exact none7 hr (i:=14) (by decide) (by simp[Region.binds,m1,m13,m11])
    have m14:la[14]?.getD false=true:=by simpa using n14
    have n15:la.getD 15 false=true:=by
     rw[gopp7 hl (by omega)]
     exact none7 hr (i:=15) (by decide) (by simp[Region.binds,m0,m1,m2,m3,m4,m5,m6,m7,m8,m9,m10,m11,m12,m13,m14])
    have m15:la[15]?.getD false=true:=by simpa using n15
    have n16:la.getD 16 false=true:=by
     rw[gopp7 hl (by omega)]
     exact none7 hr (i:=16) (by decide) (by simp[Region.binds,m0,m1,m2,m3,m4,m5,m6,m7,m8,m9,m10,m11,m12,m13,m14,m15])
    have m16:la[16]?.getD false=true:=by simpa using n16
    obtain⟨w6,⟨g6,cap6,ta',tc',avs',rfl,pb,pX⟩,rfl⟩:=hsp.s4 n16
    have HX7:=hid pX
    clear n0 m0 n1 m1 n2 m2 n3 m3 n4 m4 n5 m5 n6 m6 n7 m7 n8 m8 n9 m9 n10 m10 n11 m11 n12 m12 n13 m13 n14 m14 n15 m15 n16 m16 pb pX hsp hr
    go_wp2
    go_roundw
    case rel=>
     have hple:=hpre.out.length_le
     refine⟨k+1,ta',tc',some ⟨g6,0,none⟩,cap6,TS',avs',by go_num,by omega,?_,hMs,hid (hRT.out.trans (rts_pre hpre.out hM.out.root))⟩
     rw[hst.out.1,hndt.out]
     exact HX7
    case measure=>simp[intOf];omega
  ·obtain rfl:k=TS.length:=by omega
   have hx:=hid hX.out.x
   have hE:Hid (Gr ((wr.setCell ⟨W.heap.size,0,none⟩ (.slice na TS.length nc)).setCell ⟨W.heap.size,1,none⟩ (.slice ro cs.length rc)) (.slice na TS.length nc) (.slice ro cs.length rc) (rdG l ns cs TS)):=rx_gr hX.out hRT.out
   have hbE:=hid ((hX.out.b.setCell (p:=⟨W.heap.size,0,none⟩) (Nat.le_refl _) (.slice na TS.length nc)).setCell (p:=⟨W.heap.size,1,none⟩) (Nat.le_refl _) (.slice ro cs.length rc))
   obtain⟨⟨y0,y1⟩,yf0,yf1⟩:=cblk2 hx.out
   have hxe:=heap_setCell_same _ W.heap.size 1 _ _ (.slice ro cs.length rc) (heap_setCell_same wr W.heap.size 0 _ _ (.slice na TS.length nc) hx.out)
   have zx:=lt_of_block hx.out
   go_wp2
   exact bodyPost_ret (ret_gr1 Tryz.results59 (by rfl) hxe) rfl ⟨⟨_,_,TS,rfl,hE.out,hM.out.fin⟩,hbE.out⟩
end
end Go.Proofs.YtpkojcfdkkjmcaaGreatDoor
namespace Go.Proofs.YtpkojcfdkkjmcaaGreatDoor
set_option maxRecDepth 100000
open Go.RowKit
theorem ret_grE {w:World} {fn:Func} {t s:Tmp} (hfn:fn.results=#[.cell t 38,.tmp s]) {tmps:Array Value} {q:Nat} {u0 u1 v1:Value} (h4:tmps[t]?.getD undef=.pointer (some ⟨q,0,none⟩)) (h5:tmps[s]?.getD undef=v1) (hq:w.heap[q]?=some (.cells #[u0,u1] 38)):(results fn tmps).run Tryz.prog w=.ok (.tuple #[.agg #[u0,u1],v1]) w:=by
 obtain⟨⟨z0,z1⟩,_⟩:=cblk2 hq
 simp[results,hfn,go_sem,h4,h5,z0,z1]
abbrev gr0:Obj:=.cells #[.slice none 0 0,.slice none 0 0] 38
section
variable {W:World} {Bh hb ab tb:Nat} {m:Int} {av:Value} {l:List Int} {htv:Value} {tq:Nat} {ns:List ByteArray} {trv ptv:Value} {n:Int} {V:Nat->Bool}
set_option maxHeartbeats 4000000 in
theorem get_ok (hH:Hp W Bh hb ab tb m av l htv tq ns trv ptv n) (hs:Snd l V) (hn:NsB l ns.length) {cv:Value} {cs:List Int} (hC:Ri W cv cs) (hcs:∀x∈cs,cellB l x=true) (hl:cs.length<=4096) (hT:∀TS,Rfi l cs TS->TS.length<=4096) :
  Calls Tryz.prog 21 #[.pointer (some ⟨hb,0,none⟩),cv] W fun e w'=>(∃nv rv avs TS ee,e=.returned (.tuple #[.agg #[nv,rv],.nilIface])/\Rfi l cs TS/\Good (rdG l ns cs TS)/\(∀x y:Nat,(ee x y=true↔Al (rdG l ns cs TS) (x:Int) (y:Int)))/\Og w' W.heap.size nv rv avs (trimF (quoF ee (rdG l ns cs TS))))/\Below W.heap.size W w':=by
 have hl6:l.length<=65536:=by
  have h1:=hH.ar.len
  have h2:=hH.ar.m2
  omega
 have hb0:=below_alloc W gr0
 have hx0:=hid (heap_alloc_new W gr0)
 have hck:=hid (checkedC_any (hH.below hb0).ar (hC.below hb0) (by omega))
 have hbf:badF l cs=[]:=by
  unfold badF badC
  rw[if_neg (by rw[ixOf_miss 0 (fun x=>!cellB l x) cs (fun j hj=>by simp only[hcs _ (getD_mem hj),Bool.not_true])];omega)]
 rw[hbf] at hck
 have hrg:∀x∈cs,0<=x/\x<(l.length:Int):=fun x hx=>by
  have h1:=hcs x hx
  unfold cellB at h1
  simp only[Bool.and_eq_true] at h1
  simpa[inB] using h1.1.1
 have hrd:=hid (fun w1 (hbb:Below W.heap.size W w1)=>read_any (hH.below hbb) hs hn (hC.below hbb) hrg (by omega))
 have hgd:=hid (fun TS (h:Rfi l cs TS)=>rd_good hs hn hl6 hH.tb.good h (hT TS h) hl)
 have hTl:=hid hT
 have HH:=hid hH
 have Hb0:=hid hb0
 obtain⟨⟨c0,_⟩,c5⟩:=(hH.below hb0).cells
 obtain⟨ca,cc,rfl,_⟩:=hC
 clear hH hs hn hcs hT hb0 hbf hrg
 go_enter Tryz.func21,Tryz.ntmps21
 go_wp2_with (first
  | (go_at_call 57;refine (self_some _ _).mono ?_;rintro e w2 ⟨rfl,hw⟩;replace hw:=hw.symm;subst hw)
  | (go_at_call 58;refine hck.out.mono ?_;rintro e w1 ⟨⟨ev,rfl,hev⟩,hb1⟩;have hev1:ev=.nilIface:=hev;subst hev1;have Hb1:=hid (Below.next Hb0.out hb1);have HX1:=hid ((hb1.block _ (by simp)).trans hx0.out);clear hev hb1)
  | (go_at_call 59;refine (hrd.out _ Hb1.out).mono ?_;rintro e w2 ⟨⟨nv,rv,TS,rfl,hG2,hF2⟩,hb2⟩;have HG2:=hid hG2;have HF2:=hid hF2;have hT2:=hTl.out TS hF2;have hnn:(rdG l ns cs TS).nodes.length=TS.length:=rd_nodes hF2;obtain⟨na,nc,rfl,_⟩:=hG2.1;obtain⟨ra,rc,rfl,_⟩:=hG2.2;rw[hnn];have Hb2:=hid (Below.next Hb1.out hb2);have HX2:=hid ((hb2.block _ (lt_of_block HX1.out)).trans HX1.out);have Hbx:=hid (below_alloc w2 (.cells #[.slice na TS.length nc,.slice ra (rdG l ns cs TS).roots.length rc] 38));have Hnx:=hid (heap_alloc_new w2 (.cells #[.slice na TS.length nc,.slice ra (rdG l ns cs TS).roots.length rc] 38));clear hG2 hF2 hb2))
 have hgq:=hgd.out TS HF2.out
 obtain⟨ee,hee⟩:=al_dec (rdG l ns cs TS)
 rw[hnn] at HG2
 refine (quot_good (HG2.out.below Hbx.out) (good_sized hgq) (chk_of_good hgq) ee hee).mono ?_
 rintro e w4 ⟨⟨nv',rv',avs,rfl,hO4⟩,hb4⟩
 have Hgq:=hid hgq
 have Hee:=hid hee
 have HO4:=hid hO4
 obtain⟨na4,nc4,rfl⟩:=hO4.nsl
 obtain⟨ra4,rc4,rfl,_⟩:=hO4.r
 have Hbf:=hid (Below.next Hb2.out (Below.next Hbx.out hb4))
 have HX4:=hid ((hb4.block _ (by have:=lt_of_block HX2.out;simp;omega)).trans ((Hbx.out.block _ (lt_of_block HX2.out)).trans HX2.out))
 obtain⟨⟨y0,y1⟩,yf0,yf1⟩:=cblk2 HX4.out
 have zx:=lt_of_block HX4.out
 have hz2:=lt_of_block HX2.out
 have hxe:=heap_setCell_same _ W.heap.size 1 _ _ (.slice ra4 (trimF (quoF ee (rdG l ns cs TS))).roots.length rc4) (heap_setCell_same w4 W.heap.size 0 _ _ (.slice na4 (trimF (quoF ee (rdG l ns cs TS))).nodes.length nc4) HX4.out)
 have Hxe:=hid hxe
 clear hO4 hb4 hgq hee hxe HG2 hnn
 have hqz:W.heap.size<(w2.alloc (.cells #[.slice na TS.length nc,.slice ra (rdG l ns cs TS).roots.length rc] 38)).heap.size:=by simp;omega
 have HOf:=hid (og_base (og_far (i:=1) (v:=.slice ra4 (trimF (quoF ee (rdG l ns cs TS))).roots.length rc4) (og_far (i:=0) (v:=.slice na4 (trimF (quoF ee (rdG l ns cs TS))).nodes.length nc4) HO4.out hqz) hqz) (Nat.le_of_lt hqz))
 clear HO4
 go_wp2
 exact bodyPost_ret (ret_grE Tryz.results21 (by rfl) (by rfl) Hxe.out) rfl ⟨⟨_,_,avs,TS,ee,rfl,HF2.out,Hgq.out,Hee.out,HOf.out⟩,(Hbf.out.setCell (p:=⟨W.heap.size,0,none⟩) (Nat.le_refl _) _).setCell (p:=⟨W.heap.size,1,none⟩) (Nat.le_refl _) _⟩
end
end Go.Proofs.YtpkojcfdkkjmcaaGreatDoor
