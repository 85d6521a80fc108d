/- Package cells: the graph that is read, as plain data. -/
import Derived.Deep.AppendLies
import Derived.Deep.RegionHeld3
import Derived.StillTailTactics
import Derived.Test.YtpkojcfdkkjmcaaGreatDoorso24Z
import Derived.Test.YtpkojcfdkkjmcaaGreatDoorso23Z
import Derived.Test.YtpkojcfdkkjmcaaGreatDoorso03Z
import Derived.Test.YtpkojcfdkkjmcaaGreatDoorso08Z
namespace Go.Proofs.YtpkojcfdkkjmcaaGreatDoor
set_option maxRecDepth 100000
open Go.RowKit
def ndT (l:List Int) (ns:List ByteArray) (TS:List Int) (t:Int):Nd:=⟨tdK t,tdS l ns t,tdN t,(tdL l t).map (fun c=>posF TS (tmC l c))⟩
def rdN (l:List Int) (ns:List ByteArray) (TS:List Int) (n:Nat):List Nd:=(TS.take n).map (ndT l ns TS)
def ClT (l TS:List Int) (n:Nat):Prop:=∀i,i<n->∀c∈tdL l (TS.getD i 0),tmC l c∈TS
def InT (l TS:List Int):Prop:=∀t∈TS,∃k,k<l.length/\t=trmW l k
def Mn (l cs TS:List Int):Prop:=∀P:Int->Prop,(∀c∈cs,P (tmC l c))->(∀t,P t->∀c∈tdL l t,P (tmC l c))->∀t∈TS,P t
def rdG (l:List Int) (ns:List ByteArray) (cs TS:List Int):Gf:=⟨rdN l ns TS TS.length,cs.map (fun c=>posF TS (tmC l c))⟩
structure Rfi (l cs TS:List Int):Prop where
 nodup:TS.Nodup
 cl:ClT l TS TS.length
 inT:InT l TS
 mn:Mn l cs TS
 root:∀c∈cs,tmC l c∈TS
section
variable {l:List Int} {ns:List ByteArray} {TS:List Int} {V:Nat->Bool}
theorem args_ok (hs:Snd l V) {t:Int} (ht:Tw l ns t):∀c∈tdL l t,0<=c/\c<(l.length:Int):=fun c hc=>by
 unfold tdL at hc
 split at hc
 ·rename_i h3
  obtain⟨_,hy,h4,hg,_⟩:=ht.str h3
  have h4':wdN l (valOf t).toNat % 8=4:=h4
  have hfv:=fun_val (wdN l (valOf t).toNat) hg h4'
  obtain⟨a1,_⟩:=hs.args _ hy h4
  unfold rchL at hc
  rw[if_neg (by omega),if_pos h4'] at hc
  obtain⟨i,hi,rfl⟩:=List.mem_map.1 hc
  rw[List.mem_range] at hi
  unfold arN' vlN at a1
  omega
 ·cases hc
theorem args_eight {t:Int} (ht:Tw l ns t):(tdL l t).length<=8:=by
 unfold tdL
 split
 ·rename_i h3
  obtain⟨_,hy,h4,hg,_⟩:=ht.str h3
  have h4':wdN l (valOf t).toNat % 8=4:=h4
  have hfv:=fun_val (wdN l (valOf t).toNat) hg h4'
  unfold rchL
  rw[if_neg (by omega),if_pos h4']
  simp
  omega
 ·exact Nat.zero_le _
theorem rd_step {n:Nat} (hC:ClT l TS n) (hn:n<TS.length) :
  rdN l ns (addsJ l (tdL l (TS.getD n 0)) TS (tdL l (TS.getD n 0)).length) (n+1)=rdN l ns TS n++[ndT l ns (addsJ l (tdL l (TS.getD n 0)) TS (tdL l (TS.getD n 0)).length) (TS.getD n 0)]/\ClT l (addsJ l (tdL l (TS.getD n 0)) TS (tdL l (TS.getD n 0)).length) (n+1):=by
 have hp:TS <+: addsJ l (tdL l (TS.getD n 0)) TS (tdL l (TS.getD n 0)).length:=adds_le (Nat.zero_le _)
 have hmem:∀c∈tdL l (TS.getD n 0),tmC l c∈addsJ l (tdL l (TS.getD n 0)) TS (tdL l (TS.getD n 0)).length:=fun c hc=>by
  obtain⟨i,hi,rfl⟩:=list_mem_getD hc
  exact adds_mem hi
 generalize addsJ l (tdL l (TS.getD n 0)) TS (tdL l (TS.getD n 0)).length=TS' at *
 obtain⟨r,rfl⟩:=hp
 have ht:(TS++r).take (n+1)=TS.take n++[TS.getD n 0]:=by
  rw[List.take_append_of_le_length (by omega),List.take_add_one]
  simp[List.getD,hn]
 refine⟨?_,fun i hi c hc=>?_⟩
 ·unfold rdN
  rw[ht,List.map_append]
  congr 1
  apply List.map_congr_left
  intro x hx
  obtain⟨i,hi,hxi⟩:=list_mem_getD hx
  have hi':i<n/\i<TS.length:=by
   rw[List.length_take] at hi
   omega
  have hxe:x=TS.getD i 0:=by
   rw[←hxi]
   simp[List.getD,hi'.1]
  unfold ndT
  congr 1
  apply List.map_congr_left
  intro c hc
  exact posF_pre (List.prefix_append _ _) (hC i hi'.1 c (by rw[←hxe];exact hc))
 ·have hg:∀j,j<TS.length->(TS++r).getD j 0=TS.getD j 0:=fun j hj=>by simp[List.getD,List.getElem?_append_left hj]
  by_cases e:i=n
  ·subst e
   rw[hg i hn] at hc
   exact hmem c hc
  ·rw[hg i (by omega)] at hc
   exact List.mem_append_left _ (hC i (by omega) c hc)
theorem inT_adds {cs:List Int} (hcs:∀x∈cs,0<=x/\x<(l.length:Int)) (h:InT l TS):InT l (addsJ l cs TS cs.length):=
 adds_all h _ (fun i hi=>⟨(cs.getD i 0).toNat,by have:=hcs _ (getD_mem hi);omega,rfl⟩)
theorem mn_adds {cs ds:List Int} (h:Mn l cs TS) (hd:∀P:Int->Prop,(∀c∈cs,P (tmC l c))->(∀t,P t->∀c∈tdL l t,P (tmC l c))->∀c∈ds,P (tmC l c)):Mn l cs (addsJ l ds TS ds.length):=fun P h1 h2=>
 adds_all (h P h1 h2) _ (fun _ hi=>hd P h1 h2 _ (getD_mem hi))
theorem inT_len (h:InT l TS) (hn:TS.Nodup):TS.length<=l.length:=by
 have:=len_le_of_subset ((List.range l.length).map (trmW l)) TS hn (fun x hx=>by
  obtain⟨k,hk,rfl⟩:=h x hx
  exact List.mem_map.2 ⟨k,List.mem_range.2 hk,rfl⟩)
 simpa using this
structure Rmi (l cs TS:List Int) (k:Nat):Prop where
 nodup:TS.Nodup
 cl:ClT l TS k
 inT:InT l TS
 mn:Mn l cs TS
 root:∀c∈cs,tmC l c∈TS
theorem Rfi.start (_hs:Snd l V) {cs:List Int} (hcs:∀x∈cs,0<=x/\x<(l.length:Int)):Rmi l cs (addsJ l cs [] cs.length) 0:=
 ⟨adds_nodup List.nodup_nil _,fun i hi=>absurd hi (Nat.not_lt_zero _),inT_adds hcs (fun _ h=>by cases h),mn_adds (fun _ _ _ _ h=>by cases h) (fun _ h1 _=>h1),fun c hc=>by
  obtain⟨i,hi,rfl⟩:=list_mem_getD hc
  exact adds_mem hi⟩
theorem Rmi.step (hs:Snd l V) (hn:NsB l ns.length) (hl:l.length<=65536) {cs:List Int} {k:Nat} (h:Rmi l cs TS k) (hk:k<TS.length):Rmi l cs (addsJ l (tdL l (TS.getD k 0)) TS (tdL l (TS.getD k 0)).length) (k+1):=by
 have hp:TS <+: addsJ l (tdL l (TS.getD k 0)) TS (tdL l (TS.getD k 0)).length:=adds_le (Nat.zero_le _)
 obtain⟨j,hj,e⟩:=h.inT _ (getD_mem hk)
 have hTw:Tw l ns (TS.getD k 0):=by
  rw[e]
  exact trm_tw hs hn hl hj
 exact⟨adds_nodup h.nodup _,(rd_step (ns:=ns) h.cl hk).2,inT_adds (args_ok hs hTw) h.inT,mn_adds h.mn (fun P h1 h2=>h2 _ (h.mn P h1 h2 _ (getD_mem hk))),fun c hc=>hp.subset (h.root c hc)⟩
theorem Rmi.fin {cs:List Int} (h:Rmi l cs TS TS.length):Rfi l cs TS:=⟨h.nodup,h.cl,h.inT,h.mn,h.root⟩
theorem rts_pre {cs TS':List Int} (h:TS <+: TS') (hr:∀c∈cs,tmC l c∈TS):cs.map (fun c=>posF TS (tmC l c))=cs.map (fun c=>posF TS' (tmC l c)):=by
 apply List.map_congr_left
 intro c hc
 exact (posF_pre h (hr c hc)).symm
end
end Go.Proofs.YtpkojcfdkkjmcaaGreatDoor
namespace Go.Proofs.YtpkojcfdkkjmcaaGreatDoor
set_option maxRecDepth 100000
open Go.RowKit
section
variable {l:List Int} {ns:List ByteArray} {cs TS:List Int} {V:Nat->Bool}
theorem trm_int (h:Snd l V) (hl:l.length<=65536) {k:Nat} (hk:k<l.length) (h2:trmW l k % 8=2):-1125899906842624<=valOf (trmW l k)/\valOf (trmW l k)<=1125899906842624:=by
 obtain⟨j,hj,e,e2⟩:=trm_ends h _ k hk (Nat.le_refl _)
 rw[e2] at h2 ⊢
 unfold endW at h2 ⊢
 split at h2
 ·obtain⟨s1,_⟩:=word_str (j:=j) (by omega)
  omega
 ·rename_i h4
  rw[if_neg h4]
  have hg:=h.good j hj
  unfold goodB at hg
  rw[h2] at hg
  simp[fitsB] at hg
  exact hg
theorem posF_in {x:Int} (h:x∈TS):0<=posF TS x/\posF TS x<(TS.length:Int):=by
 unfold posF
 rw[if_pos h]
 have:=pos_lt h
 omega
theorem rd_nodes (_h:Rfi l cs TS):(rdG l ns cs TS).nodes.length=TS.length:=by simp[rdG,rdN]
theorem rd_good (hs:Snd l V) (hn:NsB l ns.length) (hl:l.length<=65536) (hg:∀s∈ns,n_goodS s=true) (h:Rfi l cs TS) (h1:TS.length<=4096) (h2:cs.length<=4096):Good (rdG l ns cs TS):=by
 refine⟨by rw[rd_nodes h];exact h1,by simp[rdG];exact h2,fun nd hnd=>?_,fun x hx=>?_⟩
 ·rw[rd_nodes h]
  have hnd':nd∈(TS.take TS.length).map (ndT l ns TS):=hnd
  rw[List.take_length] at hnd'
  obtain⟨t,ht,rfl⟩:=List.mem_map.1 hnd'
  obtain⟨k,hk,hte⟩:=h.inT t ht
  have hTw:Tw l ns t:=by rw[hte];exact trm_tw hs hn hl hk
  have hcl:∀c∈tdL l t,tmC l c∈TS:=by
   obtain⟨i,hi,rfl⟩:=list_mem_getD ht
   exact h.cl i hi
  have hgD:∀i,i<ns.length->goodS (ns.getD i ⟨#[]⟩)=true:=fun i hi=>hg _ (by simp[List.getD,hi])
  have he:(⟨#[]⟩:ByteArray).toList=[]:=by rw[ByteArray.toList_eq]
  unfold goodNd ndT
  dsimp only
  rcases hTw.tag with e | e | e | e
  ·have k1:tdK t=1:=by simp[tdK,e]
   rw[if_pos k1]
   simp[tdS,tdN,tdL,e,he]
  ·have k1:tdK t=2:=by simp[tdK,e]
   rw[if_neg (by omega),if_pos k1]
   have hs1:tdS l ns t=ns.getD (valOf t).toNat ⟨#[]⟩:=by simp[tdS,e]
   rw[hs1,hgD _ (hTw.atom e).2]
   simp[tdN,tdL,e]
  ·have k1:tdK t=3:=by simp[tdK,e]
   rw[if_neg (by omega),if_neg (by omega),if_pos k1]
   have hi:=trm_int hs hl hk (by rw[←hte];exact e)
   rw[←hte] at hi
   simp[tdS,tdN,tdL,e,he,hi]
  ·have k1:tdK t=4:=by simp[tdK,e]
   rw[if_neg (by omega),if_neg (by omega),if_neg (by omega),if_pos k1]
   obtain⟨_,hy,h4,hgw,hnm⟩:=hTw.str e
   have hs1:tdS l ns t=ns.getD (valOf (wdN l (valOf t).toNat) / 16).toNat ⟨#[]⟩:=by simp[tdS,e]
   rw[hs1,hgD _ hnm]
   have h4':wdN l (valOf t).toNat % 8=4:=h4
   have hfv:=fun_val (wdN l (valOf t).toNat) hgw h4'
   have hln:(tdL l t).length=(valOf (wdN l (valOf t).toNat) % 16).toNat:=by
    unfold tdL rchL
    rw[if_pos e,if_neg (by omega),if_pos h4']
    simp
   have hst:((tdL l t).map (fun c=>posF TS (tmC l c))).any (strange TS.length)=false:=by
    rw[List.any_eq_false]
    intro x hx
    obtain⟨c,hc,rfl⟩:=List.mem_map.1 hx
    have:=posF_in (hcl c hc)
    simp[strange]
    omega
   rw[hst,List.length_map,hln]
   have hn0:tdN t=0:=by simp[tdN,e]
   rw[hn0]
   simp
   omega
 ·rw[rd_nodes h]
  have hx':x∈cs.map (fun c=>posF TS (tmC l c)):=hx
  obtain⟨c,hc,rfl⟩:=List.mem_map.1 hx'
  exact posF_in (h.root c hc)
end
end Go.Proofs.YtpkojcfdkkjmcaaGreatDoor
namespace Go.Proofs.YtpkojcfdkkjmcaaGreatDoor
set_option maxRecDepth 100000
open Go.RowKit
def EI (E:Nat->Nat) (x:Int):Int:=((E x.toNat:Nat):Int)
theorem ints_at {L:List Nat} {n:Nat} (h:n<L.length):((ints L).map (Value.int .i64))[n]?=some (.int .i64 ((L.getD n 0:Nat):Int)):=by
 simp[ints,List.getD,h]
theorem ints_set {L:List Nat} {n v:Nat}:((ints L).map (Value.int .i64)).set n (.int .i64 (v:Int))=(ints (L.set n v)).map (Value.int .i64):=by
 simp[ints,List.map_set]
def Lr (L:List Nat) (r:Nat->Nat):Prop:=∀n,n<L.length->L.getD n 0≠n->r (L.getD n 0)<r n
theorem Lr.half {L:List Nat} {E r:Nat->Nat} (h:Ld L E) (hr:Lr L r) {n:Nat} (hn:n<L.length):Lr (L.set n (L.getD (L.getD n 0) 0)) r:=fun i hi hne=>by
 have h1:=h.rng n hn
 rw[List.length_set] at hi
 rw[getD_setN hn] at hne ⊢
 split
 ·rename_i e
  subst e
  rw[if_pos rfl] at hne
  have e1:L.getD i 0≠i:=fun e=>hne (by rw[e,e])
  have a1:=hr i hn e1
  by_cases e2:L.getD (L.getD i 0) 0=L.getD i 0
  ·rw[e2];exact a1
  ·have a2:=hr _ h1 e2
   omega
 ·rename_i e
  rw[if_neg e] at hne
  exact hr i hi hne
structure Gp (S:Nat) (w:World) (gb:Nat) (gv rv:Value) (avs:List Value) (nds:List Nd) (rts:List Int):Prop where
 lo:S<=gb
 box:w.heap[gb]?=some (.cells #[gv,rv] 38)
 n:w.ownsRow S 86 4 gv nds.length (ncells nds avs)
 len:avs.length=nds.length
 a:∀j,j<nds.length->∃ao c,avs.getD j undef=.slice ao (nds.getD j nd0).args.length c/\w.ownsRow S 3 1 (.slice ao (nds.getD j nd0).args.length c) (nds.getD j nd0).args.length ((nds.getD j nd0).args.map (Value.int .i64))
 r:w.ownsRow S 3 1 rv rts.length (rts.map (Value.int .i64))
section
variable {S:Nat} {w w':World} {gb:Nat} {gv rv:Value} {avs:List Value} {nds:List Nd} {rts:List Int}
theorem Gp.keep (h:Gp S w gb gv rv avs nds rts) (hm:∀k,S<=k->k<w.heap.size->w'.heap[k]?=w.heap[k]?):Gp S w' gb gv rv avs nds rts:=by
 have kr:∀{e:TypeId} {z:Nat} {v:Value} {n:Nat} {xs:List Value},w.ownsRow S e z v n xs->w'.ownsRow S e z v n xs:=fun ho=>row_keep ho (fun k hk=>hm k (ho.lt k hk).1 (ho.lt k hk).2)
 refine⟨h.lo,(hm gb h.lo (lt_of_block h.box)).trans h.box,kr h.n,h.len,fun j hj=>?_,kr h.r⟩
 obtain⟨ao,c,e,ho⟩:=h.a j hj
 exact⟨ao,c,e,kr ho⟩
theorem Gp.gr (h:Gp S w gb gv rv avs nds rts):Gr w gv rv ⟨nds,rts⟩:=by
 obtain⟨ra,rc,rfl⟩:=own_sl h.r
 refine⟨?_,Ri.ofOwn h.r⟩
 obtain⟨na,nc,rfl⟩:=own_sl h.n
 refine⟨na,nc,rfl,fun j hj=>?_⟩
 obtain⟨ao,c,e,ho⟩:=h.a j hj
 rcases h.n.2 with⟨_,h0⟩ | ⟨g,cap,cur,e1,_⟩
 ·have hj':j<nds.length:=hj
  omega
 ·have e2:na=some ⟨g,0,none⟩:=by injection e1
  subst e2
  obtain⟨c0,c1,c2,c3⟩:=ncells_at nds avs j h.len hj
  have hj':j<nds.length:=hj
  have k0:=h.n.cellAt (j*4) (by omega)
  have k1:=h.n.cellAt (j*4+1) (by omega)
  have k2:=h.n.cellAt (j*4+2) (by omega)
  have k3:=h.n.cellAt (j*4+3) (by omega)
  rw[c0] at k0
  rw[c1] at k1
  rw[c2] at k2
  rw[c3,e] at k3
  exact⟨g,0,_,rfl,by rw[Nat.zero_add];exact k0,by rw[Nat.zero_add];exact k1,by rw[Nat.zero_add];exact k2,by rw[Nat.zero_add];exact k3,Ri.ofOwn ho⟩
theorem Gp.push {w2:World} {o:Obj} {g cap:Nat} {nd:Nd} {ao:Option Addr} {ac:Nat} (h:Gp S w gb gv rv avs nds rts) (ha:w.ownsRow S 3 1 (.slice ao nd.args.length ac) nd.args.length (nd.args.map (Value.int .i64)))
  (hown:w2.ownsRow S 86 4 (.slice (some ⟨g,0,none⟩) (nds.length+1) cap) (nds.length+1) (ncells nds avs++[.int .i64 nd.kind,.string nd.name,.int .i64 nd.num,.slice ao nd.args.length ac])) (hg:(w.alloc o).grownBy w2 gv.ownBlock) :
  Gp S (w2.setCell ⟨gb,0,none⟩ (.slice (some ⟨g,0,none⟩) (nds.length+1) cap)) gb (.slice (some ⟨g,0,none⟩) (nds.length+1) cap) rv (avs++[.slice ao nd.args.length ac]) (nds++[nd]) rts:=by
 have hs:=hg.size
 simp at hs
 have hzb:=lt_of_block h.box
 have hgn:∀k,gv.ownBlock=some k->k≠gb:=fun k hk=>by
  obtain⟨cur,hc⟩:=row_obj h.n hk
  exact obj_ne hc h.box (by decide)
 have b2:w2.heap[gb]?=some (.cells #[gv,rv] 38):=by
  rw[hg.block gb (by simp;omega) (fun e=>hgn gb e.symm rfl),Below.heap_alloc _ _ _ hzb]
  exact h.box
 have hgb:g≠gb:=by
  obtain⟨cur,hc⟩:=row_obj hown (k:=g) rfl
  exact obj_ne hc b2 (by decide)
 have ki:∀{v:Value} {n:Nat} {xs:List Value},w.ownsRow S 3 1 v n xs->(w2.setCell ⟨gb,0,none⟩ (.slice (some ⟨g,0,none⟩) (nds.length+1) cap)).ownsRow S 3 1 v n xs:=fun ho=>row_keep ho (fun k hk=>by
  obtain⟨cur,hc⟩:=row_obj ho hk
  have hlt:=(ho.lt k hk).2
  rw[Below.heap_setCell _ _ _ _ (obj_ne hc h.box (by decide)),hg.block k (by simp;omega) (fun e=>by
   obtain⟨cur2,hc2⟩:=row_obj h.n e.symm
   exact absurd rfl (obj_ne hc hc2 (by decide))),Below.heap_alloc _ _ _ hlt])
 refine⟨h.lo,blk2_set0 b2,?_,by simp[h.len],fun j hj=>?_,ki h.r⟩
 ·rw[ncells_snoc nds avs nd _ h.len,List.length_append]
  refine row_keep (w:=w2) hown (fun k hk=>?_)
  have e:g=k:=by simpa[Value.ownBlock] using hk
  subst e
  exact Below.heap_setCell _ _ _ _ hgb
 ·by_cases hj':j<nds.length
  ·obtain⟨ao',c',e,ho⟩:=h.a j hj'
   have e1:(nds++[nd]).getD j nd0=nds.getD j nd0:=by simp[List.getD,List.getElem?_append_left hj']
   have e2:(avs++[Value.slice ao nd.args.length ac]).getD j undef=avs.getD j undef:=by simp[List.getD,List.getElem?_append_left (show j<avs.length by rw[h.len];exact hj')]
   rw[e1,e2]
   exact⟨ao',c',e,ki ho⟩
  ·have ej:j=nds.length:=by simp at hj;omega
   subst ej
   have e1:(nds++[nd]).getD nds.length nd0=nd:=by simp[List.getD]
   have e2:(avs++[Value.slice ao nd.args.length ac]).getD nds.length undef=.slice ao nd.args.length ac:=by rw[←h.len];simp[List.getD]
   rw[e1,e2]
   exact⟨ao,ac,rfl,ki ha⟩
end
def gE (st:List Nd) (rs:List Int) (E:Nat->Nat):Gf:=⟨st.map (renum (EI E)),rs.map (EI E)⟩
theorem og_keep {w w':World} {B:Nat} {nv rv:Value} {avs:List Value} {g:Gf} (h:Og w B nv rv avs g) (hm:∀k,B<=k->k<w.heap.size->w'.heap[k]?=w.heap[k]?):Og w' B nv rv avs g:=by
 have kr:∀{e:TypeId} {z:Nat} {v:Value} {n:Nat} {xs:List Value},w.ownsRow B e z v n xs->w'.ownsRow B e z v n xs:=fun ho=>row_keep ho (fun k hk=>hm k (ho.lt k hk).1 (ho.lt k hk).2)
 refine⟨⟨kr h.on.n,h.on.len,fun j hj=>?_,h.on.nd⟩,h.nsl,?_,h.ap⟩
 ·obtain⟨ao,c,e,ho⟩:=h.on.a j hj
  exact⟨ao,c,e,kr ho⟩
 ·obtain⟨ao,c,e,ho⟩:=h.r
  exact⟨ao,c,e,kr ho⟩
end Go.Proofs.YtpkojcfdkkjmcaaGreatDoor
namespace Go.Proofs.YtpkojcfdkkjmcaaGreatDoor
set_option maxRecDepth 100000
open Go.RowKit
structure Mg (W0 w:World) (mb:Nat) (nv lv:Value) (ns:List Nd) (L:List Nat):Prop where
 nd:Rn W0 nv ns
 bel:Below W0.heap.size W0 w
 blk:w.heap[mb]?=some (.cells #[nv,lv] 200)
 base:W0.heap.size<=mb
 l:w.ownsRow W0.heap.size 3 1 lv L.length ((ints L).map (Value.int .i64))
 ll:L.length=ns.length
section
variable {W0 w w':World} {mb:Nat} {nv lv:Value} {ns:List Nd} {L:List Nat}
theorem Mg.lne (h:Mg W0 w mb nv lv ns L) {k:Nat} (hk:lv.ownBlock=some k):k≠mb:=by
 obtain⟨cur,hc⟩:=row_obj h.l hk
 exact obj_ne hc h.blk (by decide)
theorem Mg.keep (h:Mg W0 w mb nv lv ns L) (hb:Below W0.heap.size W0 w') (hm:w'.heap[mb]?=w.heap[mb]?) (hk:∀k,lv.ownBlock=some k->w'.heap[k]?=w.heap[k]?):Mg W0 w' mb nv lv ns L:=
 ⟨h.nd,hb,hm.trans h.blk,h.base,row_keep h.l hk,h.ll⟩
theorem Mg.next (h:Mg W0 w mb nv lv ns L) (hb:Below w.heap.size w w'):Mg W0 w' mb nv lv ns L:=
 h.keep (Below.next h.bel hb) (hb.block mb (lt_of_block h.blk)) (fun k hk=>hb.block k (h.l.lt k hk).2)
theorem Mg.lsome (h:Mg W0 w mb nv lv ns L) {n:Nat} (hn:n<ns.length):∃g c,lv=.slice (some ⟨g,0,none⟩) ns.length c:=by
 have hl:=h.l
 rw[h.ll] at hl
 rcases hl.2 with⟨_,h0⟩ | ⟨g,cap,cur,rfl,_⟩
 ·omega
 ·exact⟨g,cap,rfl⟩
theorem Mg.lcell {g c:Nat} (h:Mg W0 w mb nv (.slice (some ⟨g,0,none⟩) ns.length c) ns L) {n:Nat} (hn:n<ns.length):w.cell? ⟨g,n,none⟩=some (.int .i64 ((L.getD n 0:Nat):Int))/\w.frozen? ⟨g,n,none⟩=false:=by
 have hl:=h.l
 rw[h.ll] at hl
 exact⟨by rw[hl.cellAt n (by omega)];exact ints_at (by rw[h.ll];exact hn),hl.frozenAt n⟩
theorem Mg.led {g c:Nat} (h:Mg W0 w mb nv (.slice (some ⟨g,0,none⟩) ns.length c) ns L) (n v:Nat):Mg W0 (w.setCell ⟨g,n,none⟩ (.int .i64 (v:Int))) mb nv (.slice (some ⟨g,0,none⟩) ns.length c) ns (L.set n v):=by
 have hg:=(h.l.lt g rfl).1
 have hne:=h.lne (k:=g) rfl
 refine⟨h.nd,h.bel.setCell (p:=⟨g,n,none⟩) hg _,(Below.heap_setCell _ _ _ _ (Ne.symm hne)).trans h.blk,h.base,?_,by simp[h.ll]⟩
 have h1:=h.l
 rw[h.ll] at h1
 have h2:=(World.ownsRow.stored h1 n (.int .i64 (v:Int))).1
 rw[ints_set] at h2
 rw[List.length_set,h.ll]
 exact h2
def MgL (W0 w w':World) (mb:Nat) (nv lv:Value) (ns:List Nd) (E:Nat->Nat):Prop:=∃L,Mg W0 w' mb nv lv ns L/\Ld L E/\Mo (fun k=>lv.ownBlock=some k) w w'
theorem MgL.trans {w1 w2:World} {E:Nat->Nat} (hm:Mo (fun k=>lv.ownBlock=some k) w w1) (h:MgL W0 w1 w2 mb nv lv ns E):MgL W0 w w2 mb nv lv ns E:=by
 obtain⟨L,hk,hl,hm2⟩:=h
 exact⟨L,hk,hl,hm.trans hm2 (fun x hx=>Or.inl hx)⟩
theorem MgL.next {w1 w2:World} {E:Nat->Nat} (h:MgL W0 w w1 mb nv lv ns E) (hb:Below w1.heap.size w1 w2):MgL W0 w w2 mb nv lv ns E:=by
 obtain⟨L,hk,hl,hm⟩:=h
 exact⟨L,hk.next hb,hl,hm.trans (Mo.ofBelow hb:Mo (fun k=>lv.ownBlock=some k) w1 w2) (fun x hx=>Or.inl hx)⟩
end
theorem blk2y {w:World} {q:Nat} {u0 u1:Value} {T:TypeId} (h:w.heap[q]?=some (.cells #[u0,u1] T)):(w.cell? ⟨q,0,none⟩=some u0/\w.cell? ⟨q,1,none⟩=some u1)/\w.frozen? ⟨q,0,none⟩=false/\w.frozen? ⟨q,1,none⟩=false:=by
 refine⟨⟨?_,?_⟩,?_,?_⟩ <;> simp[World.cell?,World.frozen?,h]
set_option maxHeartbeats 4000000 in
theorem send_any {W0 w:World} {mb:Nat} {nv lv:Value} {ns:List Nd} {L:List Nat} {E:Nat->Nat} (h:Mg W0 w mb nv lv ns L) (hE:Ld L E) (n:Nat) (hn:n<ns.length) :
  Calls Tryz.prog 159 #[.pointer (some ⟨mb,0,none⟩),.int .i64 (n:Int)] w fun e w'=>e=.returned (.int .i64 (E n:Int))/\MgL W0 w w' mb nv lv ns E:=by
 obtain⟨g,c,rfl⟩:=h.lsome hn
 obtain⟨r,M,hM,hr⟩:=hE.rank
 have hS:Hid (∃(L:List Nat),Mg W0 w mb nv (.slice (some ⟨g,0,none⟩) ns.length c) ns L/\Ld L E/\Lr L r/\Mo (fun k=>(Value.slice (some ⟨g,0,none⟩) ns.length c).ownBlock=some k) w w):=⟨L,h,hE,hr,Mo.refl _ _⟩
 clear h hE hr hM
 go_enter Tryz.func159,Tryz.ntmps159
 go_wp2
 go_loopw [1] (fun i wr=>∃m:Nat,m<ns.length/\i=.int .i64 (m:Int)/\Hid (E m=E n)/\Hid (∃(L:List Nat),Mg W0 wr mb nv (.slice (some ⟨g,0,none⟩) ns.length c) ns L/\Ld L E/\Lr L r/\Mo (fun k=>(Value.slice (some ⟨g,0,none⟩) ns.length c).ownBlock=some k) w wr)) (fun i _=>r (intOf i).toNat)
 case atStart=>exact⟨n,hn,rfl,rfl,hS⟩
 case round=>
  clear hS
  obtain⟨m,hm,rfl,hEm,hS⟩:=hrel
  obtain⟨L,hK,hE,hr,hM⟩:=hS.out
  have hmL:m<L.length:=by rw[hK.ll];exact hm
  obtain⟨⟨c0,c1⟩,f0,f1⟩:=blk2y hK.blk
  obtain⟨d0,d1⟩:=hK.lcell hm
  have zk:=lt_of_cell c0
  have zg:=lt_of_cell d0
  have hkg:mb≠g:=Ne.symm (hK.lne (k:=g) rfl)
  have hm2:(m:Int)<(ns.length:Int):=by omega
  by_cases e:L.getD m 0=m
  ·have hE1:Hid (E n=m):=hEm.out.symm.trans ((hE.fix m hmL).1 e)
   have hfin:Hid (MgL W0 w wr mb nv (.slice (some ⟨g,0,none⟩) ns.length c) ns E):=⟨L,hK,hE,hM⟩
   rw[e] at d0
   clear e hK hE hr hM hS hEm
   go_wp2
   go_ret
   exact⟨ret_int (by rw[hE1.out]),hfin.out⟩
  ·have h2:=hE.rng m hmL
   rw[hK.ll] at h2
   have h2i:((L.getD m 0:Nat):Int)<(ns.length:Int):=by omega
   obtain⟨p0,p1⟩:=hK.lcell h2
   have h3:=hE.rng _ (show L.getD m 0<L.length by rw[hK.ll];exact h2)
   rw[hK.ll] at h3
   have hK2:=hid (hK.led m (L.getD (L.getD m 0) 0))
   have hE2:=hid (hE.half hmL)
   have hr2:=hid (Lr.half hE hr hmL)
   have hM2:=hid (hM.setCell (p:=⟨g,m,none⟩) (Or.inl rfl) (.int .i64 ((L.getD (L.getD m 0) 0:Nat):Int)))
   have hne:((L.getD m 0:Nat):Int)≠(m:Int):=by omega
   have hEs:Hid (E (L.getD (L.getD m 0) 0)=E n):=((hE.st _ (by rw[hK.ll];exact h2)).trans (hE.st m hmL)).trans hEm.out
   have hrk:Hid (r (L.getD (L.getD m 0) 0)<r m):=by
    have a1:=hr m hmL e
    by_cases e2:L.getD (L.getD m 0) 0=L.getD m 0
    ·show _<_
     rw[e2];exact a1
    ·have a2:=hr _ (by rw[hK.ll];exact h2) e2
     show _<_
     omega
   clear e hK hE hr hM hS hEm
   generalize L.getD (L.getD m 0) 0=y at *
   generalize L.getD m 0=x at *
   go_wp2
   go_still_tail 19,(by kernel_rfl)
   change wpList _ _ _ _ _ wr.drew
   go_wp2
   go_roundw
   case rel=>exact⟨y,h3,rfl,hEs,_,hK2.out.next (⟨rfl,rfl,rfl,Nat.le_refl _,fun _ _=>rfl⟩),hE2.out,hr2.out,⟨hM2.out.os,hM2.out.tape,hM2.out.output,hM2.out.size,hM2.out.block⟩⟩
   case measure=>simp[intOf];exact hrk.out
set_option maxHeartbeats 4000000 in
theorem sends_any {W0 w:World} {mb:Nat} {nv lv:Value} {ns:List Nd} {L:List Nat} {E:Nat->Nat} (h:Mg W0 w mb nv lv ns L) (hE:Ld L E) {v:Value} {l:List Int} (hv:∀w',Mo (fun k=>lv.ownBlock=some k) w w'->Ri w' v l) (hr:∀x∈l,0<=x/\x<(ns.length:Int)) (hl:l.length<=100000) :
  Calls Tryz.prog 123 #[.pointer (some ⟨mb,0,none⟩),v] w fun e w'=>(∃ao c,e=.returned (.slice ao l.length c)/\w'.ownsRow w.heap.size 3 1 (.slice ao l.length c) l.length ((l.map (EI E)).map (Value.int .i64)))/\MgL W0 w w' mb nv lv ns E:=by
 obtain⟨i0,hi,hz0,hz1,hz2⟩:=info_parts infoI
 have hV:=hid hv
 have hlB:Hid (∀k,lv.ownBlock=some k->k<w.heap.size):=fun k hk=>(h.l.lt k hk).2
 have hmB:Hid (mb<w.heap.size):=lt_of_block h.blk
 have hbB:Hid (W0.heap.size<=w.heap.size):=h.bel.size
 obtain⟨va,vc,rfl,_⟩:=hv w (Mo.refl _ _)
 have hS:Hid (MgL W0 w w mb nv lv ns E):=⟨L,h,hE,Mo.refl _ _⟩
 have hR:=hid hr
 clear h hE hv hr
 go_enter Tryz.func123,Tryz.ntmps123
 go_wp2
 go_loopw [5,10] (fun x i wr=>∃(j:Nat) (ao:Option Addr) (c:Nat),j<=l.length/\i=.int .i64 (j:Int)/\x=.slice ao j c/\Hid (wr.ownsRow w.heap.size 3 1 (.slice ao j c) j (((l.take j).map (EI E)).map (Value.int .i64)))/\Hid (MgL W0 w wr mb nv lv ns E)) (fun _ i _=>l.length-(intOf i).toNat)
 case atStart=>exact⟨0,none,0,by omega,rfl,rfl,World.ownsRow_nil _ _ _ _,hS⟩
 case round=>
  clear hS
  obtain⟨j,ao,c,hj,rfl,rfl,ho,hS⟩:=hrel
  by_cases hlt:j<l.length
  ·obtain⟨L',hK,hE,hM⟩:=hS.out
   obtain⟨va',vc',hve,hvc⟩:=hV.out wr hM
   have hve':va=va':=by injection hve
   subst hve'
   obtain⟨b,o,rfl,hu⟩:=hvc j hlt
   have hx:=hR.out _ (getD_mem hlt)
   have hst:Hid (((l.take (j+1)).map (EI E)).map (Value.int .i64)=((l.take j).map (EI E)).map (Value.int .i64)++[.int .i64 (EI E (l.getD j 0))]):=show _=_ by
    rw[List.take_add_one,List.map_append,List.map_append]
    simp[List.getD,hlt]
   have hzb:=lt_of_cell hu
   clear hve hvc hV
   generalize l.getD j 0=x at *
   obtain⟨xn,rfl⟩:∃xn:Nat,x=(xn:Int):=⟨x.toNat,by omega⟩
   have hcall:=send_any hK hE xn (by omega)
   have hEI:EI E (xn:Int)=((E xn:Nat):Int):=rfl
   rw[hEI] at hst
   have hnx:Hid (∀w1,MgL W0 wr w1 mb nv lv ns E->w1.ownsRow w.heap.size 3 1 (.slice ao j c) j (((l.take j).map (EI E)).map (Value.int .i64))/\w.heap.size<=w1.heap.size/\∀(w2:World) (o:Obj),(w1.alloc o).grownBy w2 (Value.slice ao j c).ownBlock->MgL W0 w w2 mb nv lv ns E):=fun w1 hL1=>by
    obtain⟨L1,hK1,hE1,hM1⟩:=hL1
    have hs1:=hM.size
    have hs2:=hM1.size
    have hbo:=hbB.out
    refine⟨row_keep ho.out (fun k hk=>?_),by omega,fun w2 o hg=>?_⟩
    ·have h1:=ho.out.lt k hk
     exact hM1.block k h1.2 (fun e=>by have:=hlB.out k e;omega)
    ·have hM2:=(hM.trans hM1 (fun x hx=>Or.inl hx)).alloc o
     have hM3:=hM2.grown hg (fun k hk=>Or.inr ((ho.out.lt k hk).1))
     have hold:∀k,k<w.heap.size->w2.heap[k]?=w1.heap[k]?:=fun k hk=>by
      rw[hg.block k (by simp;omega) (fun e=>by have:=(ho.out.lt k e.symm).1;omega)]
      exact Below.heap_alloc _ _ _ (by omega)
     refine⟨L1,hK1.keep (hK1.bel.trans ?_) (hold mb hmB.out) (fun k hk=>hold k (hlB.out k hk)),hE1,hM3⟩
     exact⟨hg.os,hg.tape,hg.output,by have:=hg.size;simp at this;omega,fun k hk=>hold k (by omega)⟩
   clear hK hE hM hS
   go_wp2_with (first
    | (go_at_call 159;refine hcall.mono ?_;rintro e w1 ⟨rfl,hL1⟩;obtain⟨ho1,hs1,hnn⟩:=hnx.out w1 hL1;have ho2:=World.ownsRow.alloc ho1 (.cells #[.int .i64 ((E xn:Nat):Int)] 3))
    | (at_builtin;go_must (refine wpList_append_lies _ rfl _ _ 36 rfl w.heap.size 3 i0 (.int .i64 0) 1 8 Tryz.underlying36 hi hz0 hz1 hz2 rfl (by decide) _ j _ rfl ho2 ⟨w1.heap.size,0,none⟩ 1 1 [.int .i64 ((E xn:Nat):Int)] rfl rfl (cell_one_new w1 _ _) (by simp[Value.oneCell']) (by decide) (by unfold maxLen;omega) (by omega) (by simp;omega) _ rfl ?_;intro g cap w2 hown2 hg2 hat2 hlt2)))
   go_roundw
   case rel=>exact⟨j+1,_,cap,by omega,by go_num,rfl,(show World.ownsRow _ _ _ _ _ _ _ by rw[hst.out];exact hown2),hnn w2 _ hg2⟩
   case measure=>simp[intOf];omega
  ·obtain rfl:j=l.length:=by omega
   have ho':=hid ho.out
   have hS':=hid hS.out
   clear ho hS
   go_wp2
   go_ret
   have h9:=ho'.out
   rw[List.take_length] at h9
   exact⟨⟨_,_,rfl,h9⟩,hS'.out⟩
end Go.Proofs.YtpkojcfdkkjmcaaGreatDoor
