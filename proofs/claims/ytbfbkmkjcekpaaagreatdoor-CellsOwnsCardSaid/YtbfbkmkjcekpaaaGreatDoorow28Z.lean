/- refined of package bisim: the classes are those of nodes that unfold alike. -/
import Derived.Test.YtbfbkmkjcekpaaaGreatDoorow25Z
import Derived.Test.YtbfbkmkjcekpaaaGreatDoorow24Z
import Derived.Test.YtbfbkmkjcekpaaaGreatDoorow16Z
namespace Go.Proofs.YtbfbkmkjcekpaaaGreatDoor
set_option maxRecDepth 100000
open Go.RowKit
theorem Pd.rf {g:Gf} (hg:Good g) {S S':Ps} {D d:Nat} {F:List (Int->Prop)} {T:Int->Prop} {ms:List Nat} (h:Rf g (fun x=>S.cl x.toNat) S.C D F T d) (hD:D<=S.C) (hT:∀n,n<g.nodes.length->(T (n:Int)↔n∈ms)) (hms:∀m∈ms,m<g.nodes.length)
  (k:Pd g.nodes.length S S' (ms.flatMap (fun a:Nat=>usrF g.nodes d (a:Int) g.nodes.length))):Rf g (fun x=>S'.cl x.toNat) S'.C D F T (d+1):=by
 have hN:∀x:Int,isN g x->x.toNat<g.nodes.length/\((x.toNat:Nat):Int)=x:=fun x hx=>⟨by have:=hx.1;have:=hx.2;omega,by have:=hx.1;omega⟩
 have hL:∀x:Int,isN g x->(x.toNat∈ms.flatMap (fun a:Nat=>usrF g.nodes d (a:Int) g.nodes.length)↔(d<(g.nd x).args.length/\T (g.arg x d))):=fun x hx=>by
  obtain⟨h1,h2⟩:=hN x hx
  rw[List.mem_flatMap]
  have hnd:g.nd x=g.nodes.getD x.toNat nd0:=rfl
  constructor
  ·rintro⟨a,ha,hm⟩
   obtain⟨_,h3,h4⟩:=usrF_mem.1 hm
   refine⟨by rw[hnd];exact h3,?_⟩
   unfold Gf.arg
   rw[hnd,h4]
   exact (hT a (hms a ha)).2 ha
  ·rintro⟨h3,h4⟩
   have h5:=arg_isN hg hx h3
   obtain⟨h6,h7⟩:=hN _ h5
   refine⟨(g.arg x d).toNat,(hT _ h6).1 (by rw[h7];exact h4),usrF_mem.2 ⟨h1,by rw[hnd] at h3;exact h3,?_⟩⟩
   rw[h7]
   rfl
 refine h.split hD (fun x hx=>k.iv.cls _ (hN x hx).1) (fun x hx=>k.new _ (hN x hx).1) (fun x y hx hy e=>k.fine _ _ (hN x hx).1 (hN y hy).1 e) (fun x y hx hy e=>?_)
 have:=k.same _ _ (hN x hx).1 (hN y hy).1 e
 rw[hL x hx,hL y hy] at this
 exact this
theorem Rf.start8 {g:Gf} {cls:Int->Nat} {C:Nat} (hlt:∀x,isN g x->cls x<C) (hl:∀x y,isN g x->isN g y->(cls x=cls y↔labE g x y)):Rf g cls C 0 [] (fun _=>True) 8:=by
 have h:=Rf.start hlt hl
 exact⟨h.lt,h.lab,h.al,h.old,fun _ _ _ _ _ _ _ _=>Iff.rfl,h.cl,h.sep⟩
def msF (S:Ps) (c:Nat):List Nat:=(List.range (S.be c-S.fi c)).map (fun j=>S.nd (S.fi c+j))
theorem msF_len (S:Ps) (c:Nat):(msF S c).length=S.be c-S.fi c:=by simp[msF]
theorem msF_get {S:Ps} {c j:Nat} (h:j<S.be c-S.fi c):(msF S c).getD j 0=S.nd (S.fi c+j):=by simp[msF,List.getD,h]
theorem msF_mem {N:Nat} {S:Ps} (h:Iv N S) {c:Nat} (hc:c<S.C) {n:Nat}:n∈msF S c↔n<N/\S.cl n=c:=by
 obtain⟨h1,h2,_⟩:=h.rng c hc
 unfold msF
 rw[List.mem_map]
 constructor
 ·rintro⟨j,hj,rfl⟩
  have hj':=List.mem_range.1 hj
  have h3:=h.np (S.fi c+j) (by omega)
  refine⟨h3.1,(h.mem _ c h3.1 hc).2 ?_⟩
  rw[h3.2]
  omega
 ·rintro⟨hn,e⟩
  have h3:=(h.mem n c hn hc).1 e
  refine⟨S.pl n-S.fi c,List.mem_range.2 (by omega),?_⟩
  have e2:S.fi c+(S.pl n-S.fi c)=S.pl n:=by omega
  rw[e2]
  exact (h.pn n hn).2
theorem msF_nodup {N:Nat} {S:Ps} (h:Iv N S) {c:Nat} (hc:c<S.C):(msF S c).Nodup:=by
 obtain⟨h1,h2,_⟩:=h.rng c hc
 unfold msF
 rw[List.nodup_iff_pairwise_ne,List.pairwise_map]
 refine List.Pairwise.imp_of_mem (R:=fun a b=>a<b) ?_ List.pairwise_lt_range
 intro a b ha hb hab e
 have ha':=List.mem_range.1 ha
 have hb':=List.mem_range.1 hb
 have h3:=(h.np (S.fi c+a) (by omega)).2
 have h4:=(h.np (S.fi c+b) (by omega)).2
 rw[e] at h3
 omega
theorem users_nodup (l:List Nd) (k N:Nat):∀ms:List Nat,ms.Nodup->(ms.flatMap (fun a:Nat=>usrF l k (a:Int) N)).Nodup
 | [],_=>by simp
 | m::r,h=>by
  have h1:=List.nodup_cons.1 h
  rw[List.flatMap_cons]
  refine List.nodup_append.2 ⟨usrF_nodup l k m N,users_nodup l k N r h1.2,fun a ha b hb e=>?_⟩
  subst e
  obtain⟨m',hm',hb'⟩:=List.mem_flatMap.1 hb
  have h2:=(usrF_mem.1 ha).2.2
  have h3:=(usrF_mem.1 hb').2.2
  have h4:m=m':=by omega
  exact h1.1 (by rw[h4];exact hm')
theorem users_lt {l:List Nd} {k N:Nat} {ms:List Nat}:∀n∈ms.flatMap (fun a:Nat=>usrF l k (a:Int) N),n<N:=fun n hn=>by
 obtain⟨_,_,h⟩:=List.mem_flatMap.1 hn
 exact (usrF_mem.1 h).1
theorem Ub.ru {w2 w':World} {B ub N k:Nat} {b:Nat->Nat} {vs:Nat->Nat->Value} {F:Nat->Nat->List Nat} (h:Ub w2 B ub N b vs F) (hk:k<8) (hreg:∀q,B<=q->q<w2.heap.size->w'.heap[q]?=w2.heap[q]?):Ru w' (b k) N (vs k) (F k)/\w'.cell? ⟨ub,k,none⟩=some (.slice (some ⟨b k,0,none⟩) N N):=by
 have hr:w'.heap[b k]?=some (.cells (rowV N (vs k)) 23 (0,0)):=by
  rw[hreg _ (h.ge.2 k hk) (lt_of_block (h.row k hk))]
  exact h.row k hk
 have ht:w'.heap[ub]?=some (.cells (rowV 8 (fun k=>.slice (some ⟨b k,0,none⟩) N N)) 63 (0,0)):=by
  rw[hreg _ h.ge.1 (lt_of_block h.top)]
  exact h.top
 refine⟨fun a ha=>⟨?_,?_⟩,?_⟩
 ·rw[cell_of_row w' _ a _ _ _ hr]
  exact rowV_at _ ha
 ·exact own_read (B:=B) (ints_len _) (own_block (h.own k a hk ha) (fun q e=>hreg q ((h.own k a hk ha).lt q e).1 ((h.own k a hk ha).lt q e).2))
 ·rw[cell_of_row w' _ k _ _ _ ht]
  exact rowV_at _ hk
structure Rq (W w1 w2 wr:World) (pb N:Nat) (v0 v1 v2 v3 v4 v5:Value) (S:Ps):Prop where
 pt:Pt wr W.heap.size pb v0 v1 v2 v3 v4 v5 (S.rows N)
 iv:Iv N S
 mq0:∀c,c<S.C->S.mq c=0
 reg:∀q,w1.heap.size<=q->q<w2.heap.size->wr.heap[q]?=w2.heap[q]?
 far:∀k∈pb::blocks [v0,v1,v2,v3,v4,v5],k<w1.heap.size∨w2.heap.size<=k
 sz:w2.heap.size<=wr.heap.size
 b:Below W.heap.size W wr
theorem Rq.below {W w1 w2 wr wr':World} {pb N:Nat} {v0 v1 v2 v3 v4 v5:Value} {S:Ps} (h:Rq W w1 w2 wr pb N v0 v1 v2 v3 v4 v5 S) (hb:Below wr.heap.size wr wr'):Rq W w1 w2 wr' pb N v0 v1 v2 v3 v4 v5 S:=
 ⟨h.pt.below hb,h.iv,h.mq0,fun q h1 h2=>(hb.block q (by have:=h.sz;omega)).trans (h.reg q h1 h2),h.far,Nat.le_trans h.sz hb.size,Below.next h.b hb⟩
theorem Ch.reg {w w':World} {K:List Nat} {a b:Nat} (h:Ch K w w') (hK:∀k∈K,k<a∨b<=k) (hb:b<=w.heap.size):∀q,a<=q->q<b->w'.heap[q]?=w.heap[q]?:=fun q h1 h2=>h.far q (by omega) (fun hm=>by
 have:=hK q hm
 omega)
theorem away_six {pb a b H:Nat} {v0 v1 v2 v3 v4 v5 u3 u4 u5:Value} (h:∀k∈pb::blocks [v0,v1,v2,v3,v4,v5],k<a∨b<=k) (hH:b<=H) (hk:∀k∈blocks [u3,u4,u5],k∈blocks [v0,v1,v2,v3,v4,v5]∨H<=k):∀k∈pb::blocks [v0,v1,v2,u3,u4,u5],k<a∨b<=k:=fun k hm=>by
 rcases List.mem_cons.1 hm with h1 | h1
 ·exact h k (by rw[h1];simp)
 ·refine blocks_six (v3:=v3) (v4:=v4) (v5:=v5) (P:=fun k=>k<a∨b<=k) h1 (fun k h2=>h k (List.mem_cons_of_mem _ h2)) (fun k h2=>?_)
  rcases hk k h2 with h3 | h3
  ·exact h k (List.mem_cons_of_mem _ h3)
  ·exact Or.inr (by omega)
theorem Rq.next {W w1 w2 wr wr':World} {pb N:Nat} {v0 v1 v2 v3 v4 v5 u3 u4 u5:Value} {S S':Ps} {L:List Nat} (h:Rq W w1 w2 wr pb N v0 v1 v2 v3 v4 v5 S) (hP:Pt wr' W.heap.size pb v0 v1 v2 u3 u4 u5 (S'.rows N)) (hd:Pd N S S' L) (hC:Ch (pb::blocks [v0,v1,v2,v3,v4,v5]) wr wr') (hk:∀k∈blocks [u3,u4,u5],k∈blocks [v0,v1,v2,v3,v4,v5]∨wr.heap.size<=k):Rq W w1 w2 wr' pb N v0 v1 v2 u3 u4 u5 S':=
 ⟨hP,hd.iv,hd.mk0,fun q h1 h2=>(hC.reg h.far h.sz q h1 h2).trans (h.reg q h1 h2),away_six h.far h.sz hk,Nat.le_trans h.sz hC.size,Ch.below h.b hC (fun k hk'=>by
  rcases List.mem_cons.1 hk' with h1 | h1
  ·rw[h1]
   exact h.pt.ge
  ·exact (h.pt.fm.lt k h1).1)⟩
end Go.Proofs.YtbfbkmkjcekpaaaGreatDoor
