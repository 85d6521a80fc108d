/- Package cells: the graph that is read, as plain data. -/
import Derived.Test.YtbfbkmkjcekpaaaGreatDoorow38Z
import Derived.Test.YtbfbkmkjcekpaaaGreatDoorow34Z
import Derived.Test.YtbfbkmkjcekpaaaGreatDoorow37Z
namespace Go.Proofs.YtbfbkmkjcekpaaaGreatDoor
set_option maxRecDepth 100000
open Go.RowKit
def ndT (l:List Int) (ns:List ByteArray) (TS:List Int) (t:Int):Nd:=⟨tdK t,tdS l ns t,tdN t,(tdL l t).map (fun c=>posF TS (tmC l c))⟩
def rdN (l:List Int) (ns:List ByteArray) (TS:List Int) (n:Nat):List Nd:=(TS.take n).map (ndT l ns TS)
def ClT (l TS:List Int) (n:Nat):Prop:=∀i,i<n->∀c∈tdL l (TS.getD i 0),tmC l c∈TS
def InT (l TS:List Int):Prop:=∀t∈TS,∃k,k<l.length/\t=trmW l k
def Mn (l cs TS:List Int):Prop:=∀P:Int->Prop,(∀c∈cs,P (tmC l c))->(∀t,P t->∀c∈tdL l t,P (tmC l c))->∀t∈TS,P t
def rdG (l:List Int) (ns:List ByteArray) (cs TS:List Int):Gf:=⟨rdN l ns TS TS.length,cs.map (fun c=>posF TS (tmC l c))⟩
structure Rfi (l cs TS:List Int):Prop where
 nodup:TS.Nodup
 cl:ClT l TS TS.length
 inT:InT l TS
 mn:Mn l cs TS
 root:∀c∈cs,tmC l c∈TS
section
variable {l:List Int} {ns:List ByteArray} {TS:List Int} {V:Nat->Bool}
theorem args_ok (hs:Snd l V) {t:Int} (ht:Tw l ns t):∀c∈tdL l t,0<=c/\c<(l.length:Int):=fun c hc=>by
 unfold tdL at hc
 split at hc
 ·rename_i h3
  obtain⟨_,hy,h4,hg,_⟩:=ht.str h3
  have h4':wdN l (valOf t).toNat % 8=4:=h4
  have hfv:=fun_val (wdN l (valOf t).toNat) hg h4'
  obtain⟨a1,_⟩:=hs.args _ hy h4
  unfold rchL at hc
  rw[if_neg (by omega),if_pos h4'] at hc
  obtain⟨i,hi,rfl⟩:=List.mem_map.1 hc
  rw[List.mem_range] at hi
  unfold arN' vlN at a1
  omega
 ·cases hc
theorem args_eight {t:Int} (ht:Tw l ns t):(tdL l t).length<=8:=by
 unfold tdL
 split
 ·rename_i h3
  obtain⟨_,hy,h4,hg,_⟩:=ht.str h3
  have h4':wdN l (valOf t).toNat % 8=4:=h4
  have hfv:=fun_val (wdN l (valOf t).toNat) hg h4'
  unfold rchL
  rw[if_neg (by omega),if_pos h4']
  simp
  omega
 ·exact Nat.zero_le _
theorem rd_step {n:Nat} (hC:ClT l TS n) (hn:n<TS.length) :
  rdN l ns (addsJ l (tdL l (TS.getD n 0)) TS (tdL l (TS.getD n 0)).length) (n+1)=rdN l ns TS n++[ndT l ns (addsJ l (tdL l (TS.getD n 0)) TS (tdL l (TS.getD n 0)).length) (TS.getD n 0)]/\ClT l (addsJ l (tdL l (TS.getD n 0)) TS (tdL l (TS.getD n 0)).length) (n+1):=by
 have hp:TS <+: addsJ l (tdL l (TS.getD n 0)) TS (tdL l (TS.getD n 0)).length:=adds_le (Nat.zero_le _)
 have hmem:∀c∈tdL l (TS.getD n 0),tmC l c∈addsJ l (tdL l (TS.getD n 0)) TS (tdL l (TS.getD n 0)).length:=fun c hc=>by
  obtain⟨i,hi,rfl⟩:=list_mem_getD hc
  exact adds_mem hi
 generalize addsJ l (tdL l (TS.getD n 0)) TS (tdL l (TS.getD n 0)).length=TS' at *
 obtain⟨r,rfl⟩:=hp
 have ht:(TS++r).take (n+1)=TS.take n++[TS.getD n 0]:=by
  rw[List.take_append_of_le_length (by omega),List.take_add_one]
  simp[List.getD,hn]
 refine⟨?_,fun i hi c hc=>?_⟩
 ·unfold rdN
  rw[ht,List.map_append]
  congr 1
  apply List.map_congr_left
  intro x hx
  obtain⟨i,hi,hxi⟩:=list_mem_getD hx
  have hi':i<n/\i<TS.length:=by
   rw[List.length_take] at hi
   omega
  have hxe:x=TS.getD i 0:=by
   rw[←hxi]
   simp[List.getD,hi'.1]
  unfold ndT
  congr 1
  apply List.map_congr_left
  intro c hc
  exact posF_pre (List.prefix_append _ _) (hC i hi'.1 c (by rw[←hxe];exact hc))
 ·have hg:∀j,j<TS.length->(TS++r).getD j 0=TS.getD j 0:=fun j hj=>by simp[List.getD,List.getElem?_append_left hj]
  by_cases e:i=n
  ·subst e
   rw[hg i hn] at hc
   exact hmem c hc
  ·rw[hg i (by omega)] at hc
   exact List.mem_append_left _ (hC i (by omega) c hc)
theorem inT_adds {cs:List Int} (hcs:∀x∈cs,0<=x/\x<(l.length:Int)) (h:InT l TS):InT l (addsJ l cs TS cs.length):=
 adds_all h _ (fun i hi=>⟨(cs.getD i 0).toNat,by have:=hcs _ (getD_mem hi);omega,rfl⟩)
theorem mn_adds {cs ds:List Int} (h:Mn l cs TS) (hd:∀P:Int->Prop,(∀c∈cs,P (tmC l c))->(∀t,P t->∀c∈tdL l t,P (tmC l c))->∀c∈ds,P (tmC l c)):Mn l cs (addsJ l ds TS ds.length):=fun P h1 h2=>
 adds_all (h P h1 h2) _ (fun _ hi=>hd P h1 h2 _ (getD_mem hi))
theorem inT_len (h:InT l TS) (hn:TS.Nodup):TS.length<=l.length:=by
 have:=len_le_of_subset ((List.range l.length).map (trmW l)) TS hn (fun x hx=>by
  obtain⟨k,hk,rfl⟩:=h x hx
  exact List.mem_map.2 ⟨k,List.mem_range.2 hk,rfl⟩)
 simpa using this
structure Rmi (l cs TS:List Int) (k:Nat):Prop where
 nodup:TS.Nodup
 cl:ClT l TS k
 inT:InT l TS
 mn:Mn l cs TS
 root:∀c∈cs,tmC l c∈TS
theorem Rfi.start (_hs:Snd l V) {cs:List Int} (hcs:∀x∈cs,0<=x/\x<(l.length:Int)):Rmi l cs (addsJ l cs [] cs.length) 0:=
 ⟨adds_nodup List.nodup_nil _,fun i hi=>absurd hi (Nat.not_lt_zero _),inT_adds hcs (fun _ h=>by cases h),mn_adds (fun _ _ _ _ h=>by cases h) (fun _ h1 _=>h1),fun c hc=>by
  obtain⟨i,hi,rfl⟩:=list_mem_getD hc
  exact adds_mem hi⟩
theorem Rmi.step (hs:Snd l V) (hn:NsB l ns.length) (hl:l.length<=65536) {cs:List Int} {k:Nat} (h:Rmi l cs TS k) (hk:k<TS.length):Rmi l cs (addsJ l (tdL l (TS.getD k 0)) TS (tdL l (TS.getD k 0)).length) (k+1):=by
 have hp:TS <+: addsJ l (tdL l (TS.getD k 0)) TS (tdL l (TS.getD k 0)).length:=adds_le (Nat.zero_le _)
 obtain⟨j,hj,e⟩:=h.inT _ (getD_mem hk)
 have hTw:Tw l ns (TS.getD k 0):=by
  rw[e]
  exact trm_tw hs hn hl hj
 exact⟨adds_nodup h.nodup _,(rd_step (ns:=ns) h.cl hk).2,inT_adds (args_ok hs hTw) h.inT,mn_adds h.mn (fun P h1 h2=>h2 _ (h.mn P h1 h2 _ (getD_mem hk))),fun c hc=>hp.subset (h.root c hc)⟩
theorem Rmi.fin {cs:List Int} (h:Rmi l cs TS TS.length):Rfi l cs TS:=⟨h.nodup,h.cl,h.inT,h.mn,h.root⟩
theorem rts_pre {cs TS':List Int} (h:TS <+: TS') (hr:∀c∈cs,tmC l c∈TS):cs.map (fun c=>posF TS (tmC l c))=cs.map (fun c=>posF TS' (tmC l c)):=by
 apply List.map_congr_left
 intro c hc
 exact (posF_pre h (hr c hc)).symm
end
end Go.Proofs.YtbfbkmkjcekpaaaGreatDoor
namespace Go.Proofs.YtbfbkmkjcekpaaaGreatDoor
set_option maxRecDepth 100000
open Go.RowKit
structure Tq (w3 w:World) (rv:Value) (ns:List Nd) (ao:Option Addr) (c:Nat) (avs:List Value):Prop where
 b:Below w3.heap.size w3 w
 out:w.heap[w3.heap.size]?=some (.cells #[.slice ao ns.length c,rv] 25 (0,0))
 on:On w (w3.heap.size+1) (.slice ao ns.length c) avs ns
theorem Tq.step {w3 wr w4 w5:World} {rv:Value} {NS:List Nd} {n:Nd} {F:Int->Int} {ao aa:Option Addr} {c ac j g cap:Nat} {avs:List Value} (hT:Tq w3 wr rv NS ao c avs) (hL:NS.length=j) (hb:Below wr.heap.size wr w4)
  (ha:w4.ownsRow wr.heap.size 3 1 (.slice aa n.args.length ac) n.args.length ((n.args.map F).map (Value.int .i64))) (o:Obj)
  (hg:(w4.alloc o).grownBy w5 (Value.ownBlock (.slice ao j c))) (hown:w5.ownsRow (w3.heap.size+1) 74 4 (.slice (some ⟨g,0,none⟩) (j+1) cap) (j+1) (ncells NS avs++[.int .i64 n.kind,.string n.name,.int .i64 n.num,.slice aa n.args.length ac]))
  (hat:Value.ownBlock (.slice ao j c)=some g∨g=w4.heap.size+1) :
  Tq w3 (w5.setCell ⟨w3.heap.size,0,none⟩ (.slice (some ⟨g,0,none⟩) (j+1) cap)) rv (NS++[renum F n]) (some ⟨g,0,none⟩) cap (avs++[.slice aa n.args.length ac]):=by
 subst hL
 have hl:(renum F n).args.length=n.args.length:=by simp[renum]
 have hz:=lt_of_block hT.out
 have hz4:=hb.size
 have hnv:∀k,Value.ownBlock (.slice ao NS.length c)=some k->w3.heap.size+1<=k:=fun k e=>(hT.on.n.lt k e).1
 have hP:On w5 (w3.heap.size+1) (.slice (some ⟨g,0,none⟩) (NS.length+1) cap) (avs++[.slice aa n.args.length ac]) (NS++[renum F n]):=by
  have hP:=On.push (n:=renum F n) (ao:=aa) (c:=ac) (g:=g) (cap:=cap) hT.on (hb.alloc hz4 o) (by rw[hl];exact ha.alloc o) (by omega) hg (by rw[hl];exact hown) (by
   rcases hat with e | e
   ·exact Or.inl e
   ·exact Or.inr (by simp;omega))
  rw[hl] at hP
  exact hP
 have hgb:w3.heap.size<g:=by
  rcases hat with e | e
  ·have:=hnv g e
   omega
  ·omega
 have h5:w5.heap[w3.heap.size]?=some (.cells #[.slice ao NS.length c,rv] 25):=by
  rw[hg.block _ (by simp;omega) (fun e=>by have:=hnv _ e.symm;omega),Below.heap_alloc _ _ _ (by omega),hb.block _ hz]
  exact hT.out
 refine⟨?_,?_,?_⟩
 ·have h1:Below w3.heap.size w3 (w4.alloc o):=(Below.next hT.b hb).alloc (by have:=hT.b.size;omega) o
  exact (h1.grown hg (by simp;omega) (fun k e=>by have:=hnv k e;omega)).setCell (Nat.le_refl _) _
 ·rw[blk2_set0 h5]
  simp
 ·rw[List.length_append,List.length_singleton]
  exact hP.keep (fun k hk=>Below.heap_setCell _ _ _ _ (by have:=(hP.lt k hk).1;show k≠w3.heap.size;omega))
theorem og_far {w:World} {B q i:Nat} {nv rv v:Value} {avs:List Value} {g:Gf} (h:Og w B nv rv avs g) (hq:q<B):Og (w.setCell ⟨q,i,none⟩ v) B nv rv avs g:=by
 have hk:∀k,B<=k->(w.setCell ⟨q,i,none⟩ v).heap[k]?=w.heap[k]?:=fun k hk=>Below.heap_setCell _ _ _ _ (by show k≠q;omega)
 obtain⟨ao,c,e,ho⟩:=h.r
 exact⟨h.on.keep (fun k hk'=>hk k (h.on.lt k hk').1),h.nsl,⟨ao,c,e,own_block ho (fun k ek=>hk k (ho.lt k ek).1)⟩,h.ap⟩
theorem og_base {w:World} {B B':Nat} {nv rv:Value} {avs:List Value} {g:Gf} (h:Og w B nv rv avs g) (hB:B'<=B):Og w B' nv rv avs g:=by
 obtain⟨ao,c,e,ho⟩:=h.r
 exact⟨⟨own_base h.on.n hB,h.on.len,fun j hj=>by
  obtain⟨a,b,e1,e2⟩:=h.on.a j hj
  exact⟨a,b,e1,own_base e2 hB⟩,h.on.nd⟩,h.nsl,⟨ao,c,e,own_base ho hB⟩,h.ap⟩
theorem good_sized {g:Gf} (hg:Good g):Sized g:=fun n hn=>by
 have:=good_name (hg.node n hn)
 omega
theorem ansC0 (e:Nat->Nat->Bool) (N:Nat):ansC e N 0=ints (csF e N):=rfl
theorem ansC1 (e:Nat->Nat->Bool) (N:Nat):ansC e N 1=ints (lsF e N):=rfl
theorem Fm.two {w:World} {B:Nat} {t2 t3:Value} {e:Nat->Nat->Bool} {N:Nat} (h:Fm w B [t2,t3] (ansC e N)):Ri w t2 (ints (csF e N))/\Ri w t3 (ints (lsF e N)):=by
 have h0:=h.own 0 (by simp)
 have h1:=h.own 1 (by simp)
 rw[ansC0] at h0
 rw[ansC1] at h1
 obtain⟨a0,c0,e0⟩:=own_sl h0
 obtain⟨a1,c1,e1⟩:=own_sl h1
 have e0':t2=.slice a0 (ints (csF e N)).length c0:=e0
 have e1':t3=.slice a1 (ints (lsF e N)).length c1:=e1
 subst e0' e1'
 exact⟨Ri.ofOwn h0,Ri.ofOwn h1⟩
set_option maxHeartbeats 8000000 in
theorem quot_good {W:World} {nv rv:Value} {g:Gf} (hG:Gr W nv rv g) (hS:Sized g) (hb:one (chk g)=[]) (ee:Nat->Nat->Bool) (he:∀x y:Nat,(ee x y=true↔Al g (x:Int) (y:Int))) :
  Calls Tryz.prog 16 #[.agg #[nv,rv]] W fun r w'=>(∃nv' rv' avs,r=.returned (.tuple #[.agg #[nv',rv'],.nilIface])/\Og w' W.heap.size nv' rv' avs (trimF (quoF ee g)))/\Below W.heap.size W w':=by
 obtain⟨i1,hi1,hy0,hy1,hy2⟩:=info_parts infoN
 have hg:=chk_good hb
 have hev:=al_eqv hg he
 have hq:=quo_good hg hev
 have hgn:=hg.nodes
 have hgr:=hg.roots
 have hll:=lsF_le ee g.nodes.length
 have hllt:=lsF_lt ee g.nodes.length
 have hcl:=csF_len ee g.nodes.length
 have hb2:Below W.heap.size W ((W.alloc (.cells #[nv,rv] 25)).alloc (.cells #[.slice none 0 0,.slice none 0 0] 25)):=(below_alloc W _).alloc (by simp) _
 have hal:=alike_good (hG.below hb2) hS hb ee (fun x y _ _=>he x y)
 obtain⟨na,nc,rfl,hNc⟩:=hG.1
 obtain⟨ra,rc,rfl,_⟩:=hG.2
 have hC:∀w1:World,Below ((W.alloc (.cells #[.slice na g.nodes.length nc,.slice ra g.roots.length rc] 25)).alloc (.cells #[.slice none 0 0,.slice none 0 0] 25)).heap.size ((W.alloc (.cells #[.slice na g.nodes.length nc,.slice ra g.roots.length rc] 25)).alloc (.cells #[.slice none 0 0,.slice none 0 0] 25)) w1->
   w1.heap[W.heap.size+1]?=some (.cells #[.slice none 0 0,.slice none 0 0] 25)/\w1.heap[W.heap.size]?=some (.cells #[.slice na g.nodes.length nc,.slice ra g.roots.length rc] 25)/\W.heap.size+1<w1.heap.size:=fun w1 hb=>by
  refine⟨?_,?_,?_⟩
  ·rw[hb.block _ (by simp)]
   simpa using heap_alloc_new (W.alloc (.cells #[.slice na g.nodes.length nc,.slice ra g.roots.length rc] 25)) (.cells #[.slice none 0 0,.slice none 0 0] 25)
  ·rw[hb.block _ (by simp <;> omega),Below.heap_alloc _ _ _ (by simp)]
   exact heap_alloc_new W _
  ·have:=hb.size
   simp at this
   omega
 have hcr:Hid (∀(w1:World) (t2:Value),Below W.heap.size W w1->Ri w1 t2 (ints (csF ee g.nodes.length))->Calls Tryz.prog 51 #[.slice ra g.roots.length rc,t2] w1 fun e w'=>(∃ao c,e=.returned (.slice ao g.roots.length c)/\w'.ownsRow w1.heap.size 3 1 (.slice ao g.roots.length c) g.roots.length ((g.roots.map (clsI ee g.nodes.length)).map (Value.int .i64)))/\Below w1.heap.size w1 w'):=fun w1 t2 h1 h2=>classesOf_any (hG.2.below h1) h2 (fun x hx=>by rw[ints_len,hcl];exact hg.root x hx) (by omega)
 have hHG:=hid hG
 clear hG
 go_enter Tryz.func16,Tryz.ntmps16
 have hlL:=ints_len (lsF ee g.nodes.length)
 obtain⟨L,hLd⟩:∃L,L=(lsF ee g.nodes.length).length:=⟨_,rfl⟩
 rw[←hLd] at hlL hll
 have HLd:=hid hLd
 clear hLd
 go_wp2_with (first
  | (go_at_call 50;refine hal.mono ?_;rintro e w1 ⟨⟨t2,t3,rfl,hF⟩,hb1⟩;obtain⟨k1,k0,k2⟩:=hC w1 hb1;obtain⟨⟨c0,c1⟩,_⟩:=blk2 k0;have hbw:=Below.next hb2 hb1;obtain⟨hR2,la,lc,rfl,hR3⟩:=hF.two;rw[hlL] at hR3 ⊢;clear hal hC hF)
  | (go_at_call 51;refine (hcr.out w1 t2 hbw hR2).mono ?_;rintro e w2 ⟨⟨ro,rcc,rfl,hro⟩,hb3⟩;clear c0 c1))
 have hT0:Hid (Tq w2 (w2.alloc (.cells #[.slice none 0 0,.slice ro g.roots.length rcc] 25)) (.slice ro g.roots.length rcc) [] none 0 []):=⟨below_alloc _ _,heap_alloc_new w2 _,On.nil _ _⟩
 have hbW2:=Below.next hbw hb3
 have hz2:=hb3.size
 have k0':w2.heap[W.heap.size]?=some (.cells #[.slice na g.nodes.length nc,.slice ra g.roots.length rc] 25):=by rw[hb3.block _ (by omega)];exact k0
 have k1':w2.heap[W.heap.size+1]?=some (.cells #[.slice none 0 0,.slice none 0 0] 25):=by rw[hb3.block _ k2];exact k1
 have hHR2:=hid (hR2.below hb3)
 have hHR3:Hid (∀j,j<L->∃b o,la=some ⟨b,o,none⟩/\w2.cell? ⟨b,o+j,none⟩=some (.int .i64 ((ints (lsF ee g.nodes.length)).getD j 0))):=fun j hj=>by
  obtain⟨b,o,h1,h2⟩:=hR3 j hj
  exact⟨b,o,h1,by rw[hb3.cell (p:=⟨b,o+j,none⟩) (lt_of_cell h2)];exact h2⟩
 have Hro:=hid hro
 have hHN:=hid hNc
 clear hcr hR2 hR3 hro k0 k1 hb2 hNc
 go_wp2
 go_loopw [28] (fun i wr=>∃(k:Nat) (ao:Option Addr) (c:Nat) (avs:List Value),k<=L/\i=.int .i64 k/\Hid (Tq w2 wr (.slice ro g.roots.length rcc) (((lsF ee g.nodes.length).take k).map (fun n=>renum (clsI ee g.nodes.length) (g.nodes.getD n nd0))) ao c avs)) (fun i _=>L-(intOf i).toNat)
 case atStart=>exact⟨0,none,0,[],Nat.zero_le _,rfl,by simpa[Hid] using hT0⟩
 case round=>
  clear hT0
  obtain⟨j,ao,c,avs,hj,rfl,hT⟩:=hrel
  by_cases hjl:j<L
  ·have hjl':j<(lsF ee g.nodes.length).length:=by rw[←HLd.out];exact hjl
   have hts:=ntake_snoc hjl'
   have hnN:=hllt _ (nget_mem hjl')
   obtain⟨lb,lo,hla,hlc⟩:=hHR3.out j hjl
   subst hla
   rw[ints_get hjl'] at hlc
   have hlc':wr.cell? ⟨lb,lo+j,none⟩=some (.int .i64 (((lsF ee g.nodes.length).getD j 0:Nat):Int)):=by rw[hT.out.b.cell (p:=⟨lb,lo+j,none⟩) (lt_of_cell hlc)];exact hlc
   generalize (lsF ee g.nodes.length).getD j 0=n at hts hnN hlc'
   have hbe:=Below.next hbW2 hT.out.b
   obtain⟨nb,no,av,rfl,hnd⟩:=hHN.out n hnN
   obtain⟨n0,n1,n2,n3,hA⟩:=hnd.below hbe
   have hga:=good_args (hg.node (g.nodes.getD n nd0) (by simp[List.getD,hnN]))
   have hNS:Hid (((lsF ee g.nodes.length).take (j+1)).map (fun n=>renum (clsI ee g.nodes.length) (g.nodes.getD n nd0))=((lsF ee g.nodes.length).take j).map (fun n=>renum (clsI ee g.nodes.length) (g.nodes.getD n nd0))++[renum (clsI ee g.nodes.length) (g.nodes.getD n nd0)]):=by
    show _=_
    rw[hts]
    simp
   have hL:(((lsF ee g.nodes.length).take j).map (fun n=>renum (clsI ee g.nodes.length) (g.nodes.getD n nd0))).length=j:=by simp;omega
   generalize ((lsF ee g.nodes.length).take j).map (fun n=>renum (clsI ee g.nodes.length) (g.nodes.getD n nd0))=NS at hT hNS hL
   have hcp:∀w:World,Below wr.heap.size wr w->Calls Tryz.prog 51 #[av,t2] w fun e w'=>(∃ao c,e=.returned (.slice ao (g.nodes.getD n nd0).args.length c)/\w'.ownsRow w.heap.size 3 1 (.slice ao (g.nodes.getD n nd0).args.length c) (g.nodes.getD n nd0).args.length (((g.nodes.getD n nd0).args.map (clsI ee g.nodes.length)).map (Value.int .i64)))/\Below w.heap.size w w':=fun w hb=>classesOf_any (hA.below hb) (hHR2.out.below (Below.next hT.out.b hb)) (fun x hx=>by rw[ints_len,hcl];exact hga.1 x hx) (by omega)
   have e0:wr.heap[W.heap.size]?=some (.cells #[.slice (some ⟨nb,no,none⟩) g.nodes.length nc,.slice ra g.roots.length rc] 25):=by rw[hT.out.b.block _ (by omega)];exact k0'
   obtain⟨⟨c0,_⟩,_⟩:=blk2 e0
   have hon:=hT.out.on
   rw[hL] at hon
   have honn:=hon.n
   rw[hL] at honn
   have hz4:=hT.out.b.size
   have hzo:=lt_of_block hT.out.out
   have hout:=hT.out.out
   rw[hL] at hout
   have hnv:∀k,Value.ownBlock (.slice ao j c)=some k->w2.heap.size+1<=k:=fun k e=>(hon.n.lt k e).1
   have hstep:=hid (fun (w4 w5:World) (aa:Option Addr) (ac gg cap:Nat)=>Tq.step (w4:=w4) (w5:=w5) (aa:=aa) (ac:=ac) (g:=gg) (cap:=cap) (F:=clsI ee g.nodes.length) (n:=g.nodes.getD n nd0) hT.out hL)
   have hal:=hga.2
   generalize g.nodes.getD n nd0=x at n0 n1 n2 n3 hcp hNS hstep hA hal
   obtain⟨kind,name,num,args⟩:=x
   dsimp only at n0 n1 n2 n3 hcp hstep hA hal
   obtain⟨aa0,ac0,rfl,_⟩:=hA
   have hbd:Below wr.heap.size wr (wr.alloc (.cells #[.int .i64 kind,.string name,.int .i64 num,.slice aa0 args.length ac0] 74)):=below_alloc wr _
   have hnw:=heap_alloc_new wr (.cells #[.int .i64 kind,.string name,.int .i64 num,.slice aa0 args.length ac0] 74)
   have hcall:=hcp _ hbd
   have hzd:=lt_of_block hnw
   have hfacts:=hid (fun (w4:World) (aa:Option Addr) (ac:Nat) (hb4:Below (wr.alloc (.cells #[.int .i64 kind,.string name,.int .i64 num,.slice aa0 args.length ac0] 74)).heap.size (wr.alloc (.cells #[.int .i64 kind,.string name,.int .i64 num,.slice aa0 args.length ac0] 74)) w4) (hao:w4.ownsRow (wr.alloc (.cells #[.int .i64 kind,.string name,.int .i64 num,.slice aa0 args.length ac0] 74)).heap.size 3 1 (.slice aa args.length ac) args.length ((args.map (clsI ee g.nodes.length)).map (Value.int .i64)))=>(show (w4.heap[wr.heap.size]?=some (.cells #[.int .i64 kind,.string name,.int .i64 num,.slice aa0 args.length ac0] 74))/\Below wr.heap.size wr (w4.setCell ⟨wr.heap.size,3,none⟩ (.slice aa args.length ac))/\(w4.setCell ⟨wr.heap.size,3,none⟩ (.slice aa args.length ac)).ownsRow wr.heap.size 3 1 (.slice aa args.length ac) args.length ((args.map (clsI ee g.nodes.length)).map (Value.int .i64)) from
    ⟨by rw[hb4.block _ hzd];exact hnw,(Below.next hbd hb4).setCell (Nat.le_refl _) _,own_base (own_block hao (fun k e=>Below.heap_setCell _ _ _ _ (by have:=(hao.lt k e).1;simp at this;show k≠wr.heap.size;omega))) (by simp)⟩))
   clear hcp hnd hga hT hlc hts e0 k0' k1' k2
   go_wp2_with (first
    | (go_at_call 51;refine hcall.mono ?_;rintro e w4 ⟨⟨aa,ac,rfl,hao⟩,hb4⟩;obtain⟨f0,hb4s,haos⟩:=hfacts.out w4 aa ac hb4 hao;obtain⟨⟨f1,f2,f3,f4⟩,f5,f6,f7,f8⟩:=blk4 f0;have hon4:=World.ownsRow.alloc (own_below honn hb4s) (.cells #[.int .i64 kind,.string name,.int .i64 num,.slice aa args.length ac] 74);have d4:(w4.setCell ⟨wr.heap.size,3,none⟩ (.slice aa args.length ac)).heap[w2.heap.size]?=some (.cells #[.slice ao j c,.slice ro g.roots.length rcc] 25):=(by rw[hb4s.block _ hzo];exact hout);obtain⟨⟨g0,_⟩,g1,_⟩:=blk2 d4;obtain⟨⟨gg0,_⟩,gg1,_⟩:=blk2 (((Below.next hbd hb4).block _ hzo).trans hout);have hsz4:(w4.setCell ⟨wr.heap.size,3,none⟩ (.slice aa args.length ac)).heap.size=w4.heap.size:=(by simp);have hz5:=hb4s.size;rw[hsz4] at hz5;have hnews:=heap_alloc_new (w4.setCell ⟨wr.heap.size,3,none⟩ (.slice aa args.length ac)) (.cells #[.int .i64 kind,.string name,.int .i64 num,.slice aa args.length ac] 74);rw[hsz4] at hnews;clear hao hb4 hfacts hcall)
    | (at_builtin;refine wpList_append_lies _ rfl _ _ _ rfl (w2.heap.size+1) 74 i1 (.agg #[.int .i64 0,.string ⟨#[]⟩,.int .i64 0,.slice none 0 0]) 4 56 Tryz.underlying22 hi1 hy0 hy1 hy2 rfl (by omega) _ j (ncells NS avs) rfl hon4 ⟨w4.heap.size,0,none⟩ 1 1 [.int .i64 kind,.string name,.int .i64 num,.slice aa args.length ac] rfl rfl (World.news_of_block (cs:=#[.int .i64 kind,.string name,.int .i64 num,.slice aa args.length ac]) (t:=74) (fr:=(0,0)) hnews) (by simp[Value.oneCell']) (by omega) (by unfold maxLen;omega) (by omega) (by simp;omega) (w4.heap.size+1) (by simp) ?_;intro gg cap w5 hown5 hgr5 hat hlt5;have d5:w5.heap[w2.heap.size]?=some (.cells #[.slice ao j c,.slice ro g.roots.length rcc] 25):=(by rw[hgr5.block _ (by simp;omega) (fun e=>by have:=hnv _ e.symm;omega),Below.heap_alloc _ _ _ (by simp;omega)];exact d4);obtain⟨⟨d0',_⟩,d1',_⟩:=blk2 d5))
   go_roundw
   case rel=>
    refine⟨j+1,some ⟨gg,0,none⟩,cap,avs++[.slice aa args.length ac],by omega,congrArg (Value.int .i64) (by omega),?_⟩
    show Tq _ _ _ _ _ _ _
    rw[hNS.out]
    exact hstep.out _ w5 aa ac gg cap hb4s haos _ hgr5 hown5 (by rw[hsz4];exact hat)
   case measure=>simp[intOf];omega
  ·have hTe:Hid (Tq w2 wr (.slice ro g.roots.length rcc) ((lsF ee g.nodes.length).map (fun n=>renum (clsI ee g.nodes.length) (g.nodes.getD n nd0))) ao c avs):=by
    have:=hT.out
    rw[List.take_of_length_le (by rw[←HLd.out];omega)] at this
    exact this
   clear hT
   have hOut:=hTe.out.out
   have hlm:((lsF ee g.nodes.length).map (fun n=>renum (clsI ee g.nodes.length) (g.nodes.getD n nd0))).length=L:=by rw[List.length_map];exact HLd.out.symm
   have hOn:=hTe.out.on
   rw[hlm] at hOut
   obtain⟨⟨o0,o1⟩,_⟩:=blk2 hOut
   have hGq:Gr wr (.slice ao L c) (.slice ro g.roots.length rcc) (quoF ee g):=by
    refine⟨?_,?_⟩
    ·have:=hOn.rn
     rw[hlm] at this
     exact this
    ·have h1:=Ri.ofOwn (l:=g.roots.map (clsI ee g.nodes.length)) (by rw[List.length_map];exact Hro.out)
     rw[List.length_map] at h1
     exact h1.below hTe.out.b
   have htr:=trim_good hGq (good_sized hq) (chk_of_good hq)
   have hbe:=Below.next hbW2 hTe.out.b
   have e1:wr.heap[W.heap.size+1]?=some (.cells #[.slice none 0 0,.slice none 0 0] 25):=by rw[hTe.out.b.block _ (by omega)];exact k1'
   have hze:=lt_of_block e1
   have hF:Hid (∀w5:World,Below wr.heap.size wr w5->w5.heap[W.heap.size+1]?=some (.cells #[.slice none 0 0,.slice none 0 0] 25)):=fun w5 hb=>by rw[hb.block _ hze];exact e1
   clear hGq hOn hOut e1 k0' k1' hTe
   go_wp2_with (go_at_call 52;refine htr.mono ?_;rintro e w5 ⟨⟨nv5,rv5,avs5,rfl,hO5⟩,hb5⟩;obtain⟨n5a,n5c,rfl⟩:=hO5.nsl;obtain⟨r5a,r5c,rfl,_⟩:=hO5.r;have j1:=hF.out w5 hb5;obtain⟨⟨r0,r1⟩,s0,s1⟩:=blk2 j1)
   refine bodyPost_ret (ret_gr Tryz.results16 (by rfl) (by rfl) (blk2_set j1)) rfl ⟨⟨_,_,avs5,rfl,?_⟩,?_⟩
   ·exact og_base (og_far (og_far hO5 (by omega)) (by omega)) (by omega)
   ·exact ((Below.next hbe hb5).setCell (by simp) _).setCell (by simp) _
end Go.Proofs.YtbfbkmkjcekpaaaGreatDoor
namespace Go.Proofs.YtbfbkmkjcekpaaaGreatDoor
set_option maxRecDepth 100000
open Go.RowKit
theorem may_fwdQ {i n:Nat} (h:i<n) (h6:i<65536):mayB (wordOf 5 (i:Int)) (n:Int)=true:=by
 have hf:fitsB 5 (i:Int)=true:=by
  simp[fitsB]
  omega
 unfold mayB
 rw[Bool.and_eq_true]
 refine⟨?_,?_⟩
 ·unfold goodB
  rw[wordOf_tag 5 (i:Int) (by omega) (by omega),wordOf_val 5 (i:Int) hf]
  exact hf
 ·rw[wordOf_val 5 (i:Int) hf,Bool.or_eq_true]
  exact Or.inr (decide_eq_true (by omega))
theorem trm_eq3 {x y:Int} (hx:x % 8=3) (hy:y % 8=3) (x0:0<=x) (x1:x<=18446744073709551615) (y0:0<=y) (y1:y<=18446744073709551615) (h:valOf x=valOf y):x=y:=by
 unfold valOf wrap64 at h
 omega
section
variable {w w1 w':World} {B hb ab tb:Nat} {m:Int} {av:Value} {l:List Int} {tv:Value} {tq:Nat} {ns:List ByteArray} {trv:Value} {tr:List Te} {ptv:Value} {pt:List Pe} {n:Int}
theorem Wrq.from {l':List Int} {tr':List Te} {n':Int} (hb1:Below w.heap.size w w1) (h:Wrq w1 w' B hb ab tb m av l' tv tq ns trv tr' ptv pt n'):Wrq w w' B hb ab tb m av l' tv tq ns trv tr' ptv pt n':=by
 obtain⟨trv',hq,hm,hx⟩:=h
 refine⟨trv',hq,(a_Mod.ofBelow hb1).trans hm (fun y hy=>Or.inl hy),fun q hq=>?_⟩
 rcases hx q hq with h | h
 ·exact Or.inl h
 ·exact Or.inr (Nat.le_trans hb1.size h)
theorem write_any (h:Hq w B hb ab tb m av l tv tq ns trv tr ptv pt n) (hB:B<=w.heap.size) (k:Nat) (x:Int) (hk:k<l.length) (x0:0<=x) (x1:x<=18446744073709551615) (hm:mayB x l.length=true) (n0:0<=n) (n1:n<=4611686018427387904) (hp:pt.length<=1000000) (htl:tr.length<=1000000) :
  Calls Tryz.prog 61 #[.pointer (some ⟨hb,0,none⟩),.int .i64 (k:Int),.int .u64 x] w fun e w'=>e=.returned (.tuple #[])/\Wrq w w' B hb ab tb m av (l.set k x) tv tq ns trv (trW l tr pt k) ptv pt (n+1):=by
 unfold trW
 cases hs:seesB pt k with
 | false=>
  rw[if_neg (by simp)]
  exact write_not h k x hk x0 x1 hm n0 n1 hs hp
 | true=>
  rw[if_pos rfl]
  exact write_seen h hB k x hk x0 x1 hm n0 n1 hs hp htl
def Act1 (w w':World) (B hb ab tb:Nat) (m:Int) (av:Value) (l:List Int) (tv:Value) (tq:Nat) (ns:List ByteArray) (trv:Value) (tr:List Te) (ptv:Value) (pt:List Pe) (n:Int):Prop:=
 Below w.heap.size w w'∨∃k x,k<l.length/\SndN (l.set k x) ns.length/\Wrq w w' B hb ab tb m av (l.set k x) tv tq ns trv (trW l tr pt k) ptv pt (n+1)
theorem bad_nil {l:List Int} {x y:Int} (h:badF l [x,y]=[]):cellB l x=true/\cellB l y=true:=by
 by_cases hx:cellB l x=true
 ·by_cases hy:cellB l y=true
  ·exact⟨hx,hy⟩
  ·exfalso
   have e:badC l [x,y]=((1:Nat):Int):=ixOf_hit 0 (fun x=>!cellB l x) [x,y] 1 (by simp) (fun j hj=>by
    have:j=0:=by omega
    subst this
    simp[hx]) (by simpa using hy)
   unfold badF at h
   rw[e,if_pos (by omega)] at h
   cases h
 ·exfalso
  have e:badC l [x,y]=((0:Nat):Int):=ixOf_hit 0 (fun x=>!cellB l x) [x,y] 0 (by simp) (fun j hj=>absurd hj (Nat.not_lt_zero _)) (by simpa using hx)
  unfold badF at h
  rw[e,if_pos (by omega)] at h
  cases h
theorem cell_nat {l:List Int} {x:Int} (h:cellB l x=true):∃k:Nat,x=(k:Int)/\k<l.length:=by
 unfold cellB at h
 simp only[Bool.and_eq_true] at h
 have h1:0<=x/\x<(l.length:Int):=by simpa[inB] using h.1.1
 exact⟨x.toNat,by omega,by omega⟩
theorem bind_act (h:Hq w B hb ab tb m av l tv tq ns trv tr ptv pt n) (hB:B<=w.heap.size) (hS:SndN l ns.length) (n0:0<=n) (n1:n<=4611686018427387904) (hp:pt.length<=1000000) (htl:tr.length<=1000000) (x y:Int) :
  Calls Tryz.prog 25 #[.pointer (some ⟨hb,0,none⟩),.int .i64 x,.int .i64 y] w fun e w'=>(∃ev,e=.returned ev)/\Act1 w w' B hb ab tb m av l tv tq ns trv tr ptv pt n:=by
 have hl6:l.length<=65536:=by
  have h1:=h.hp.ar.len
  have h2:=h.hp.ar.m2
  omega
 by_cases hbd:badF l [x,y]=[]
 ·obtain⟨ca,cb⟩:=bad_nil hbd
  obtain⟨a,rfl,ha⟩:=cell_nat ca
  obtain⟨b,rfl,hb'⟩:=cell_nat cb
  obtain⟨V,hV⟩:=hS.1
  obtain⟨⟨xa0,xa1⟩,ma,_⟩:=trm_may hV hl6 ha
  obtain⟨⟨xb0,xb1⟩,mb,_⟩:=trm_may hV hl6 hb'
  by_cases hv:trmW l a % 8=0
  ·by_cases he:trmW l a=trmW l b
   ·exact (bindq_same h.hp hV a b ca cb ha hb' hv he).mono fun e w' ⟨e1,e2⟩=>⟨⟨_,e1⟩,Or.inl e2⟩
   ·by_cases hsw:trmW l b % 8=0/\valOf (trmW l a)<valOf (trmW l b)
    ·obtain⟨k1,k2⟩:=bind_sndn hS hl6 hb' ha hsw.1 (fun _=>Int.le_of_lt hsw.2)
     exact (bindq_swap h.hp hV a b ca cb ha hb' hv he hsw.1 hsw.2 (Q:=fun w'=>Wrq w w' B hb ab tb m av _ tv tq ns trv _ ptv pt (n+1)) (fun w1 hb1=>(write_any (h.below hb1) (Nat.le_trans hB hb1.size) _ _ k1 xa0 xa1 ma n0 n1 hp htl).mono fun e w' ⟨e1,e2⟩=>⟨e1,e2.from hb1⟩)).mono fun e w' ⟨e1,e2⟩=>⟨⟨_,e1⟩,Or.inr ⟨_,_,k1,k2,e2⟩⟩
    ·obtain⟨k1,k2⟩:=bind_sndn hS hl6 ha hb' hv (fun h0=>by
      rcases Int.lt_or_le (valOf (trmW l a)) (valOf (trmW l b)) with h1 | h1
      ·exact absurd ⟨h0,h1⟩ hsw
      ·exact h1)
     exact (bindq_left h.hp hV a b ca cb ha hb' hv he hsw (Q:=fun w'=>Wrq w w' B hb ab tb m av _ tv tq ns trv _ ptv pt (n+1)) (fun w1 hb1=>(write_any (h.below hb1) (Nat.le_trans hB hb1.size) _ _ k1 xb0 xb1 mb n0 n1 hp htl).mono fun e w' ⟨e1,e2⟩=>⟨e1,e2.from hb1⟩)).mono fun e w' ⟨e1,e2⟩=>⟨⟨_,e1⟩,Or.inr ⟨_,_,k1,k2,e2⟩⟩
  ·exact (bindq_bound h.hp hV a b ca cb ha hb' hv).mono fun e w' ⟨⟨_,e1,_⟩,e2⟩=>⟨⟨_,e1⟩,Or.inl e2⟩
 ·exact (bindq_bad h.hp x y hbd).mono fun e w' ⟨⟨_,e1,_⟩,e2⟩=>⟨⟨_,e1⟩,Or.inl e2⟩
theorem merge_act (h:Hq w B hb ab tb m av l tv tq ns trv tr ptv pt n) (hB:B<=w.heap.size) (hS:SndN l ns.length) (n0:0<=n) (n1:n<=4611686018427387904) (hp:pt.length<=1000000) (htl:tr.length<=1000000) (x y:Int) :
  Calls Tryz.prog 26 #[.pointer (some ⟨hb,0,none⟩),.int .i64 x,.int .i64 y] w fun e w'=>(∃ev,e=.returned ev)/\Act1 w w' B hb ab tb m av l tv tq ns trv tr ptv pt n:=by
 have hl6:l.length<=65536:=by
  have h1:=h.hp.ar.len
  have h2:=h.hp.ar.m2
  omega
 by_cases hbd:badF l [x,y]=[]
 ·obtain⟨ca,cb⟩:=bad_nil hbd
  obtain⟨a,rfl,ha⟩:=cell_nat ca
  obtain⟨b,rfl,hb'⟩:=cell_nat cb
  obtain⟨V,hV⟩:=hS.1
  obtain⟨⟨⟨xa0,xa1⟩,_⟩,ka⟩:=trm_kinds hV hS.2 hl6 ha
  obtain⟨⟨⟨xb0,xb1⟩,_⟩,kb⟩:=trm_kinds hV hS.2 hl6 hb'
  have hno:∀(_:∀w1,Below w.heap.size w w1->Calls Tryz.prog 62 #[blkV ab,.int .u64 (trmW l a),.int .u64 (trmW l b)] w1 fun e w'=>e=.returned (.bool false)/\Below w1.heap.size w1 w'),Calls Tryz.prog 26 #[.pointer (some ⟨hb,0,none⟩),.int .i64 (a:Int),.int .i64 (b:Int)] w fun e w'=>(∃ev,e=.returned ev)/\Act1 w w' B hb ab tb m av l tv tq ns trv tr ptv pt n:=fun hal=>
   (mergeq_no h.hp hV a b ca cb ha hb' hal).mono fun e w' ⟨⟨_,e1,_⟩,e2⟩=>⟨⟨_,e1⟩,Or.inl e2⟩
  by_cases h3:trmW l a % 8=3/\trmW l b % 8=3
  ·obtain⟨i,hi,vi,ti⟩:∃i:Nat,i<l.length/\valOf (trmW l a)=(i:Int)/\tgN l i=4:=by
    rcases ka with⟨e,_⟩ | ⟨_,h⟩ | ⟨e,_⟩ | e
    ·omega
    ·exact h
    ·omega
    ·omega
   obtain⟨j,hj,vj,tj⟩:∃j:Nat,j<l.length/\valOf (trmW l b)=(j:Int)/\tgN l j=4:=by
    rcases kb with⟨e,_⟩ | ⟨_,h⟩ | ⟨e,_⟩ | e
    ·omega
    ·exact h
    ·omega
    ·omega
   by_cases hw:wdN l i=wdN l j
   ·rcases Nat.lt_trichotomy i j with hij | hij | hij
    ·have k2:=merge_sndn hS hl6 hj hij ti tj
     exact (mergeq_lt h.hp hV a b ca cb ha hb' h3.1 h3.2 i j hi hj vi vj hw hij (Q:=fun w'=>Wrq w w' B hb ab tb m av _ tv tq ns trv _ ptv pt (n+1)) (fun w1 hb1=>(write_any (h.below hb1) (Nat.le_trans hB hb1.size) _ _ hj (wordOf_bd 5 (i:Int)).1 (wordOf_bd 5 (i:Int)).2 (may_fwdQ (by omega) (by omega)) n0 n1 hp htl).mono fun e w' ⟨e1,e2⟩=>⟨e1,e2.from hb1⟩)).mono fun e w' ⟨e1,e2⟩=>⟨⟨_,e1⟩,Or.inr ⟨_,_,hj,k2,e2⟩⟩
    ·subst hij
     have he:trmW l a=trmW l b:=by
      exact trm_eq3 h3.1 h3.2 xa0 xa1 xb0 xb1 (vi.trans vj.symm)
     exact (mergeq_same h.hp hV a b ca cb ha hb' h3.1 i hi vi he).mono fun e w' ⟨e1,e2⟩=>⟨⟨_,e1⟩,Or.inl e2⟩
    ·have k2:=merge_sndn hS hl6 hi hij tj ti
     exact (mergeq_gt h.hp hV a b ca cb ha hb' h3.1 h3.2 i j hi hj vi vj hw hij (Q:=fun w'=>Wrq w w' B hb ab tb m av _ tv tq ns trv _ ptv pt (n+1)) (fun w1 hb1=>(write_any (h.below hb1) (Nat.le_trans hB hb1.size) _ _ hi (wordOf_bd 5 (j:Int)).1 (wordOf_bd 5 (j:Int)).2 (may_fwdQ (by omega) (by omega)) n0 n1 hp htl).mono fun e w' ⟨e1,e2⟩=>⟨e1,e2.from hb1⟩)).mono fun e w' ⟨e1,e2⟩=>⟨⟨_,e1⟩,Or.inr ⟨_,_,hi,k2,e2⟩⟩
   ·refine hno (fun w1 hb1=>?_)
    have:=alike_str (h.hp.below hb1).ar (trmW l a) (trmW l b) xa0 xa1 xb0 xb1 h3.1 h3.2 i j hi hj vi vj
    rwa[show (wdN l i == wdN l j)=false by simpa using hw] at this
  ·exact hno (fun w1 _=>alike_not (trmW l a) (trmW l b) w1 xa0 xa1 xb0 xb1 (by omega) ab)
 ·exact (mergeq_bad h.hp x y hbd).mono fun e w' ⟨⟨_,e1,_⟩,e2⟩=>⟨⟨_,e1⟩,Or.inl e2⟩
end
end Go.Proofs.YtbfbkmkjcekpaaaGreatDoor
