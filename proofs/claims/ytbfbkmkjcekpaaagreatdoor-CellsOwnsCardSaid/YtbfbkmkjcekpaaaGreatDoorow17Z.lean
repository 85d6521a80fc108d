/- An append to a row of numbers that says whether the old row stays. -/
import Derived.Test.YtbfbkmkjcekpaaaGreatDoorow14Z
namespace Go.Proofs.YtbfbkmkjcekpaaaGreatDoor
set_option maxRecDepth 100000
open Go.RowKit
theorem run_append_still {w:World} {B:Nat} {v:Value} {l:List Int} (ty:TypeId) (hown:w.ownsRow B 3 1 v l.length (l.map (Value.int .i64))) (ad:Addr) (c:Nat) (s:Int)
  (hnews:∀j u,[Value.int .i64 s][j]?=some u->w.cell? (ad.add j)=some u) (hl:l.length<=5000) (hB:B<=w.heap.size) :
  ∃g cap w',(Builtin.append_ #[23,23] ty #[v,.slice (some ad) 1 c]).run Tryz.prog w=.ok (.slice (some ⟨g,0,none⟩) (l.length+1) cap) w'/\
   w'.ownsRow B 3 1 (.slice (some ⟨g,0,none⟩) (l.length+1) cap) (l.length+1) ((l++[s]).map (Value.int .i64))/\w.grownBy w' v.ownBlock/\(v.ownBlock=some g∨(g=w.heap.size/\w.grownBy w' none)):=by
 obtain⟨i0,hi,hz0,hz1,hz2⟩:=info_parts infoI
 have h1c:∀u∈[Value.int .i64 s],u.oneCell'=true:=by simp[Value.oneCell']
 obtain⟨v',w',hr,h2,h3,_,h5⟩:=run_append_own_at (P:=Tryz.prog) w B 23 ty 3 i0 (.int .i64 0) 1 8 Tryz.underlying23 hi hz0 hz1 hz2 rfl (by decide) v l.length (l.map (Value.int .i64)) hown ad 1 c [.int .i64 s] rfl hnews h1c (by unfold maxLen;omega) (by omega) hB
 have h2':w'.ownsRow B 3 1 v' (l.length+1) ((l++[s]).map (Value.int .i64)):=by simpa using h2
 rcases h2.2 with⟨_,h0⟩ | ⟨g,cap,cur,rfl,_⟩
 ·omega
 refine⟨g,cap,w',hr,h2',h3,?_⟩
 rcases h5 with h5 | h5
 ·exact Or.inl h5.symm
 ·have hg:g=w.heap.size:=by simpa[Value.ownBlock] using h5
  rcases hown.2 with⟨rfl,_⟩ | ⟨g0,cap0,cur0,rfl,_,hg0,_,_,hcs,_⟩
  ·exact Or.inr ⟨hg,h3⟩
  ·by_cases hroom:l.length+1<=cap0
   ·have hr2:=run_append_room (P:=Tryz.prog) w 23 ty 3 i0 Tryz.underlying23 hi g0 l.length cap0 cur0 hg0 ad 1 c [.int .i64 s] (by rw[hz1];rfl) hnews h1c hroom (by rw[hz1];simp;omega)
    rw[hr] at hr2
    injection hr2 with e1 e2
    have e3:g=g0:=by
     have e4:g=g0/\cap=cap0:=by simpa using e1
     exact e4.1
    exact Or.inl (by simp[Value.ownBlock,e3])
   ·have holds:∀j u,(l.map (Value.int .i64))[j]?=some u->w.cell? ((⟨g0,0,none⟩:Addr).add j)=some u:=hown.cells (g:=g0) rfl
    have hr2:=run_append_grow (P:=Tryz.prog) w 23 ty 3 i0 (.int .i64 0) Tryz.underlying23 hi hz0 ⟨g0,0,none⟩ l.length cap0 (l.map (Value.int .i64)) (by rw[hz1];exact hown.1) holds ad 1 c [.int .i64 s] (by rw[hz1];rfl) hnews (by omega) (by omega) (growslice_fits (by omega) (by rw[hz2];omega))
    rw[hr] at hr2
    injection hr2 with e1 e2
    refine Or.inr ⟨hg,?_⟩
    rw[e2]
    exact⟨rfl,rfl,rfl,by simp,fun k hk _=>heap_alloc_old w.drew _ hk⟩
theorem wpList_append_still {w:World} {ops:Array Oper} {rest:List Oper} {o:Oper} {a:Act} {Q:Exit->Act->World->Prop} (hgd:o.guard=none) (x y:Operand)
  (ho:o.op=.call { callee:=.builtin .append,args:=#[x,y],argTypes:=#[23,23] }) {B:Nat} {v:Value} {l:List Int} (hx:a.eval x=v) (hown:w.ownsRow B 3 1 v l.length (l.map (Value.int .i64))) (ad:Addr) (c:Nat) (s:Int)
  (hy:a.eval y=.slice (some ad) 1 c) (hnews:∀j u,[Value.int .i64 s][j]?=some u->w.cell? (ad.add j)=some u) (hl:l.length<=5000) (hB:B<=w.heap.size)
  (h:∀g cap w',w'.ownsRow B 3 1 (.slice (some ⟨g,0,none⟩) (l.length+1) cap) (l.length+1) ((l++[s]).map (Value.int .i64))->w.grownBy w' v.ownBlock->(v.ownBlock=some g∨(g=w.heap.size/\w.grownBy w' none))->
   wpList Tryz.prog ops Q rest (a.put o.dst (.slice (some ⟨g,0,none⟩) (l.length+1) cap)) w'):wpList Tryz.prog ops Q (o::rest) a w:=by
 refine wpList_plain hgd fun K hK=>?_
 obtain⟨g,cap,w',hr,h2,h3,h4⟩:=run_append_still o.type hown ad c s hnews hl hB
 unfold Oper.wp execOp
 simp only[ho,resolve,invoke,builtin,Sem.run_bind,Sem.run_pure,Result.andThen_ok,List.map_toArray,List.map_cons,List.map_nil,hx,hy,hr]
 exact hK _ _ (h g cap w' h2 h3 h4)
end Go.Proofs.YtbfbkmkjcekpaaaGreatDoor
namespace Go.Proofs.YtbfbkmkjcekpaaaGreatDoor
set_option maxRecDepth 100000
open Go.RowKit
def val (k j:Nat):Int:=-1000*((k:Int)+1)-(j:Int)
def rowK (k n:Nat):List Int:=(List.range n).map (fun j=>val k j)
theorem rowK_len (k n:Nat):(rowK k n).length=n:=by simp[rowK]
theorem rowK_snoc (k n:Nat):rowK k (n+1)=rowK k n++[val k n]:=by simp[rowK,List.range_succ]
theorem rowK_getD {k n j:Nat} (h:j<n):(rowK k n).getD j 0=val k j:=by simp[rowK,List.getD,h]
theorem rowK_of {k n:Nat} {l:List Int} (hl:l.length=n) (h:∀j,j<n->l.getD j 0=val k j):l=rowK k n:=by
 apply List.ext_getElem
 ·rw[hl,rowK_len]
 ·intro j h1 h2
  have h3:=h j (by omega)
  simp[List.getD,h1] at h3
  rw[h3]
  simp[rowK]
def ND (vs:List Value):Prop:=∀i j p q,i<vs.length->j<vs.length->i≠j->(vs.getD i undef).ownBlock=some p->(vs.getD j undef).ownBlock=some q->p≠q
theorem nd_of {vs:List Value} (h:(blocks vs).Nodup):ND vs:=by
 have h1:=List.nodup_iff_pairwise_ne.1 h
 unfold blocks at h1
 rw[List.pairwise_filterMap,List.pairwise_iff_getElem] at h1
 intro i j p q hi hj hij hp hq
 have ei:vs.getD i undef=vs[i]:=by simp[List.getD,hi]
 have ej:vs.getD j undef=vs[j]:=by simp[List.getD,hj]
 rw[ei] at hp
 rw[ej] at hq
 rcases Nat.lt_or_gt_of_ne hij with h2 | h2
 ·exact h1 i j hi hj h2 p hp q hq
 ·exact fun e=>h1 j i hj hi h2 q hq p hp e.symm
theorem mem_blocks {vs:List Value} {i q:Nat} (hi:i<vs.length) (h:(vs.getD i undef).ownBlock=some q):q∈blocks vs:=
 List.mem_filterMap.2 ⟨vs.getD i undef,by simp[List.getD,hi],h⟩
theorem own_form {w:World} {B:Nat} {e:TypeId} {s:Nat} {v:Value} {n:Nat} {xs:List Value} (h:w.ownsRow B e s v n xs):(v=.slice none 0 0/\n=0)∨∃q c,v=.slice (some ⟨q,0,none⟩) n c/\v.ownBlock=some q:=by
 rcases h.2 with⟨h1,h2⟩ | ⟨g,cap,_,h1,_⟩
 ·exact Or.inl ⟨h1,h2⟩
 ·exact Or.inr ⟨g,cap,h1,by rw[h1];rfl⟩
theorem own_sl {w:World} {B:Nat} {e:TypeId} {s:Nat} {v:Value} {n:Nat} {xs:List Value} (h:w.ownsRow B e s v n xs):∃a c,v=.slice a n c:=by
 rcases own_form h with⟨h1,h2⟩ | ⟨q,c,h1,_⟩
 ·exact⟨none,0,by rw[h1,h2]⟩
 ·exact⟨_,c,h1⟩
theorem own_block_obj {w:World} {B:Nat} {e:TypeId} {s:Nat} {v:Value} {n q:Nat} {xs:List Value} (h:w.ownsRow B e s v n xs) (hq:v.ownBlock=some q):∃cur:Array Value,w.heap[q]?=some (.cells cur e (0,0))/\cur.toList.take (n*s)=xs:=by
 rcases h.2 with⟨h1,_⟩ | ⟨g,cap,cur,h1,_,hg,_,_,_,ht⟩
 ·rw[h1] at hq
  cases hq
 ·rw[h1] at hq
  have e:g=q:=by simpa[Value.ownBlock] using hq
  subst e
  exact⟨cur,hg,ht⟩
theorem own_set {w:World} {B:Nat} {e:TypeId} {n q c t:Nat} {xs:List Value} (h:w.ownsRow B e 1 (.slice (some ⟨q,0,none⟩) n c) n xs) (v:Value):(w.setCell ⟨q,t,none⟩ v).ownsRow B e 1 (.slice (some ⟨q,0,none⟩) n c) n (xs.set t v):=by
 obtain⟨h1,h2⟩:=h
 rcases h2 with⟨h2,_⟩ | ⟨g,cap,cur,hv,hB,hg,hle,hm,hs,ht⟩
 ·cases h2
 ·have hv':=hv
  injection hv with e1 _ e3
  injection e1 with e1
  injection e1 with e1 _ _
  subst e1 e3
  refine⟨by simpa using h1,Or.inr ⟨q,c,cur.setIfInBounds t v,rfl,hB,heap_setCell_same w q t _ _ v hg,hle,hm,by simpa using hs,?_⟩⟩
  rw[Array.toList_setIfInBounds,List.take_set,ht]
structure Ap (W w:World) (B:Nat) (vs:List Value) (n:Nat->Nat) (f:Nat->List Int):Prop where
 os:w.os=W.os
 tape:w.tape=W.tape
 output:w.output=W.output
 size:W.heap.size<=w.heap.size
 far:∀q,q<W.heap.size->q∉blocks vs->w.heap[q]?=W.heap[q]?
 len:∀i,i<vs.length->(f i).length=n i
 own:∀i,i<vs.length->w.ownsRow B 3 1 (vs.getD i undef) (n i) ((f i).map (Value.int .i64))
def upd {α:Type} (f:Nat->α) (i:Nat) (x:α):Nat->α:=fun j=>if j=i then x else f j
theorem upd_same {α:Type} (f:Nat->α) (i:Nat) (x:α):upd f i x i=x:=if_pos rfl
theorem upd_other {α:Type} (f:Nat->α) {i j:Nat} (x:α) (h:j≠i):upd f i x j=f j:=if_neg h
theorem Ap.set {W w:World} {B:Nat} {vs:List Value} {n:Nat->Nat} {f:Nat->List Int} (h:Ap W w B vs n f) (hnd:ND vs) {i t q c:Nat} (hi:i<vs.length) (hv:vs.getD i undef=.slice (some ⟨q,0,none⟩) (n i) c) (x:Int):Ap W (w.setCell ⟨q,t,none⟩ (.int .i64 x)) B vs n (upd f i ((f i).set t x)):=by
 have hb:(vs.getD i undef).ownBlock=some q:=by rw[hv];rfl
 refine⟨h.os,h.tape,h.output,by simpa using h.size,fun k hk hn=>?_,fun j hj=>?_,fun j hj=>?_⟩
 ·rw[Below.heap_setCell _ _ _ _ (fun e=>hn (by
   have e':k=q:=e
   rw[e']
   exact mem_blocks hi hb))]
  exact h.far k hk hn
 ·by_cases e:j=i
  ·subst e
   rw[upd_same,List.length_set]
   exact h.len j hj
  ·rw[upd_other _ _ e]
   exact h.len j hj
 ·by_cases e:j=i
  ·subst e
   rw[upd_same,List.map_set]
   have:=h.own j hj
   rw[hv] at this ⊢
   exact own_set this _
  ·rw[upd_other _ _ e]
   exact own_block (h.own j hj) (fun k ek=>Below.heap_setCell _ _ _ _ (hnd j i k q hj hi e ek hb))
structure Gn (W1 w:World) (B:Nat) (vs us:List Value) (n m:Nat->Nat):Prop where
 os:w.os=W1.os
 tape:w.tape=W1.tape
 output:w.output=W1.output
 size:W1.heap.size<=w.heap.size
 far:∀q,q<W1.heap.size->q∉blocks vs->w.heap[q]?=W1.heap[q]?
 len:us.length=vs.length
 own:∀i,i<vs.length->w.ownsRow B 3 1 (us.getD i undef) (m i) ((rowK i (m i)).map (Value.int .i64))
 ge:∀i,i<vs.length->n i<=m i
 way:∀i,i<vs.length->(us.getD i undef).ownBlock=(vs.getD i undef).ownBlock∨((∀q,(us.getD i undef).ownBlock=some q->W1.heap.size<=q)/\Ri w (vs.getD i undef) (rowK i (n i)))
 nd:ND us
structure G0 (W1:World) (B:Nat) (vs:List Value) (n:Nat->Nat):Prop where
 own:∀i,i<vs.length->W1.ownsRow B 3 1 (vs.getD i undef) (n i) ((rowK i (n i)).map (Value.int .i64))
 nd:ND vs
theorem G0.start {W1:World} {B:Nat} {vs:List Value} {n:Nat->Nat} (h:G0 W1 B vs n):Gn W1 W1 B vs vs n n:=⟨rfl,rfl,rfl,Nat.le_refl _,fun _ _ _=>rfl,rfl,h.own,fun _ _=>Nat.le_refl _,fun _ _=>Or.inl rfl,h.nd⟩
theorem Ri.keepB {w w':World} {v:Value} {l:List Int} {q n c:Nat} (hv:v=.slice (some ⟨q,0,none⟩) n c) (h:Ri w v l) (hk:w'.heap[q]?=w.heap[q]?):Ri w' v l:=by
 obtain⟨ao,c',e,h⟩:=h
 refine⟨ao,c',e,fun j hj=>?_⟩
 obtain⟨b,o,hao,hc⟩:=h j hj
 refine⟨b,o,hao,?_⟩
 have hb:b=q:=by
  rw[hv] at e
  injection e with e1 _ _
  rw[hao] at e1
  injection e1 with e1
  injection e1 with e1 _ _
  exact e1.symm
 subst hb
 rw[World.cell?_of_block (a:=⟨b,o+j,none⟩) hk]
 exact hc
theorem Gn.read {W1 w:World} {B:Nat} {vs us:List Value} {n m:Nat->Nat} (h:Gn W1 w B vs us n m) (h0:G0 W1 B vs n) (i:Nat) (hi:i<vs.length):Ri w (vs.getD i undef) (rowK i (n i)):=by
 rcases h.way i hi with hw | hw
 ·rcases own_form (h0.own i hi) with⟨h1,h2⟩ | ⟨q,c,h1,h2⟩
  ·rw[h1,h2]
   exact Ri.nil w
  ·rw[h2] at hw
   obtain⟨cur,hg,ht⟩:=own_block_obj (h.own i hi) hw
   rw[h1]
   refine⟨some ⟨q,0,none⟩,c,by rw[rowK_len],fun j hj=>⟨q,0,rfl,?_⟩⟩
   rw[rowK_len] at hj
   have hge:=h.ge i hi
   rw[Nat.zero_add,cell_of_row w q j _ _ _ hg,rowK_getD hj]
   have h3:(cur.toList.take (m i*1))[j]?=((rowK i (m i)).map (Value.int .i64))[j]?:=by rw[ht]
   rw[List.getElem?_take_of_lt (by omega)] at h3
   have h4:cur[j]?=cur.toList[j]?:=by simp
   rw[h4,h3]
   have h5:j<m i:=by omega
   simp[rowK,h5]
 ·exact hw.2
theorem Gn.keep {W1 w w':World} {B:Nat} {vs us:List Value} {n m:Nat->Nat} (h:Gn W1 w B vs us n m) (h0:G0 W1 B vs n) (row:Option Nat) (ho:w'.os=w.os) (ht:w'.tape=w.tape) (hp:w'.output=w.output) (hs:w.heap.size<=w'.heap.size) (hk:∀k,k<w.heap.size->some k≠row->w'.heap[k]?=w.heap[k]?)
  (hr:∀r,row=some r->W1.heap.size<=r/\∀cur,w.heap[r]?≠some (.cells cur 3 (0,0))):Gn W1 w' B vs us n m:=by
 have hu:∀i,i<vs.length->∀k,(us.getD i undef).ownBlock=some k->w'.heap[k]?=w.heap[k]?:=fun i hi k ek=>by
  refine hk k ((h.own i hi).lt k ek).2 (fun e=>?_)
  obtain⟨cur,hc,_⟩:=own_block_obj (h.own i hi) ek
  exact (hr k e.symm).2 cur hc
 refine⟨ho.trans h.os,ht.trans h.tape,hp.trans h.output,Nat.le_trans h.size hs,fun q hq hn=>?_,h.len,fun i hi=>own_block (h.own i hi) (hu i hi),h.ge,fun i hi=>?_,h.nd⟩
 ·have:=h.size
  rw[hk q (by omega) (fun e=>by have:=(hr q e.symm).1;omega)]
  exact h.far q hq hn
 ·rcases h.way i hi with hw | ⟨hw1,hw2⟩
  ·exact Or.inl hw
  ·refine Or.inr ⟨hw1,?_⟩
   rcases own_form (h0.own i hi) with⟨h1,h2⟩ | ⟨q,c,h1,h2⟩
   ·rw[h1,h2]
    exact Ri.nil w'
   ·have hq:=((h0.own i hi).lt q h2).2
    have:=h.size
    exact Ri.keepB h1 hw2 (hk q (by omega) (fun e=>by have:=(hr q e.symm).1;omega))
theorem Gn.push {W1 w w2:World} {B:Nat} {vs us:List Value} {n m:Nat->Nat} {k g cap:Nat} {o:Obj} (h:Gn W1 w B vs us n m) (h0:G0 W1 B vs n) (hk:k<vs.length)
  (hown:w2.ownsRow B 3 1 (.slice (some ⟨g,0,none⟩) (m k+1) cap) (m k+1) ((rowK k (m k)++[val k (m k)]).map (Value.int .i64))) (hgr:(w.alloc o).grownBy w2 (us.getD k undef).ownBlock) (hat:(us.getD k undef).ownBlock=some g∨(g=(w.alloc o).heap.size/\(w.alloc o).grownBy w2 none)) :
  Gn W1 w2 B vs (us.set k (.slice (some ⟨g,0,none⟩) (m k+1) cap)) n (upd m k (m k+1)):=by
 have hsz:(w.alloc o).heap.size=w.heap.size+1:=by simp
 have hW:=h.size
 have hku:k<us.length:=by rw[h.len];exact hk
 have gs:(us.set k (.slice (some ⟨g,0,none⟩) (m k+1) cap)).getD k undef=.slice (some ⟨g,0,none⟩) (m k+1) cap:=by simp[List.getD,hku]
 have go:∀i,i≠k->(us.set k (.slice (some ⟨g,0,none⟩) (m k+1) cap)).getD i undef=us.getD i undef:=fun i e=>by simp[List.getD,List.getElem?_set_ne (fun e'=>e e'.symm)]
 have hold:∀q,q<w.heap.size->(us.getD k undef).ownBlock≠some q->w2.heap[q]?=w.heap[q]?:=fun q hq hne=>by
  rw[hgr.block q (by omega) (fun e=>hne e.symm),Below.heap_alloc _ _ _ hq]
 have hvk:∀i q,i<vs.length->i≠k->(vs.getD i undef).ownBlock=some q->(us.getD k undef).ownBlock≠some q:=fun i q hi e hq e'=>by
  have hql:=((h0.own i hi).lt q hq).2
  rcases h.way k hk with hw | hw
  ·rw[hw] at e'
   exact h0.nd i k q q hi hk e hq e' rfl
  ·have:=hw.1 q e'
   omega
 refine⟨hgr.os.trans h.os,hgr.tape.trans h.tape,hgr.output.trans h.output,by have:=hgr.size;omega,fun q hq hn=>?_,by simp[h.len],fun i hi=>?_,fun i hi=>?_,fun i hi=>?_,?_⟩
 ·rw[hold q (by omega) (fun e=>?_)]
  ·exact h.far q hq hn
  ·rcases h.way k hk with hw | hw
   ·rw[hw] at e
    exact hn (mem_blocks hk e)
   ·have:=hw.1 q e
    omega
 ·by_cases e:i=k
  ·subst e
   rw[gs,upd_same,rowK_snoc]
   exact hown
  ·rw[go i e,upd_other _ _ e]
   exact own_block (h.own i hi) (fun q eq=>hold q ((h.own i hi).lt q eq).2 (fun e'=>h.nd i k q q (by rw[h.len];exact hi) hku e eq e' rfl))
 ·have:=h.ge i hi
  by_cases e:i=k
  ·subst e
   rw[upd_same]
   omega
  ·rw[upd_other _ _ e]
   exact this
 ·by_cases e:i=k
  ·subst e
   rw[gs]
   have hrd:=h.read h0 i hi
   rcases hat with ha | ⟨ha,hgn⟩
   ·rcases h.way i hi with hw | hw
    ·exact Or.inl (by rw[←hw,ha];rfl)
    ·refine Or.inr ⟨fun q eq=>?_,?_⟩
     ·have eq':g=q:=by simpa[Value.ownBlock] using eq
      subst eq'
      exact hw.1 g ha
     ·rcases own_form (h0.own i hi) with⟨h1,h2⟩ | ⟨q,c,h1,h2⟩
      ·rw[h1,h2]
       exact Ri.nil w2
      ·have hql:=((h0.own i hi).lt q h2).2
       have hg1:=hw.1 g ha
       exact Ri.keepB h1 hrd (hold q (by omega) (fun e'=>by
        rw[ha] at e'
        injection e' with e'
        omega))
   ·refine Or.inr ⟨fun q eq=>?_,?_⟩
    ·have eq':g=q:=by simpa[Value.ownBlock] using eq
     omega
    ·rcases own_form (h0.own i hi) with⟨h1,h2⟩ | ⟨q,c,h1,h2⟩
     ·rw[h1,h2]
      exact Ri.nil w2
     ·have hql:=((h0.own i hi).lt q h2).2
      refine Ri.keepB h1 hrd ?_
      rw[hgn.block q (by omega) (by simp),Below.heap_alloc _ _ _ (by omega)]
  ·rw[go i e]
   rcases h.way i hi with hw | ⟨hw1,hw2⟩
   ·exact Or.inl hw
   ·refine Or.inr ⟨hw1,?_⟩
    rcases own_form (h0.own i hi) with⟨h1,h2⟩ | ⟨q,c,h1,h2⟩
    ·rw[h1,h2]
     exact Ri.nil w2
    ·have hql:=((h0.own i hi).lt q h2).2
     exact Ri.keepB h1 hw2 (hold q (by omega) (hvk i q hi e h2))
 ·intro i j p q hi hj hij hp hq
  have hi':i<us.length:=by simpa using hi
  have hj':j<us.length:=by simpa using hj
  have hold2:∀a pa,a<us.length->a≠k->(us.getD a undef).ownBlock=some pa->pa≠g:=fun a pa hal e hpa e'=>by
   rcases hat with ha | ⟨ha,_⟩
   ·exact h.nd a k pa g hal hku e hpa ha e'
   ·have:=((h.own a (by rw[←h.len];exact hal)).lt pa hpa).2
    omega
  by_cases ei:i=k
  ·subst ei
   rw[gs] at hp
   rw[go j (fun e=>hij e.symm)] at hq
   have ep:g=p:=by simpa[Value.ownBlock] using hp
   subst ep
   exact fun e=>hold2 j q hj' (fun e=>hij e.symm) hq e.symm
  ·by_cases ej:j=k
   ·subst ej
    rw[gs] at hq
    rw[go i ei] at hp
    have ep:g=q:=by simpa[Value.ownBlock] using hq
    subst ep
    exact hold2 i p hi' ei hp
   ·rw[go i ei] at hp
    rw[go j ej] at hq
    exact h.nd i j p q hi' hj' hij hp hq
end Go.Proofs.YtbfbkmkjcekpaaaGreatDoor
namespace Go.Proofs.YtbfbkmkjcekpaaaGreatDoor
set_option maxRecDepth 100000
open Go.RowKit
structure Ch (K:List Nat) (w w':World):Prop where
 os:w'.os=w.os
 tape:w'.tape=w.tape
 output:w'.output=w.output
 size:w.heap.size<=w'.heap.size
 far:∀k,k<w.heap.size->k∉K->w'.heap[k]?=w.heap[k]?
theorem Ch.refl (K:List Nat) (w:World):Ch K w w:=⟨rfl,rfl,rfl,Nat.le_refl _,fun _ _ _=>rfl⟩
theorem Ch.trans {K K':List Nat} {w w1 w2:World} (h:Ch K w w1) (h':Ch K' w1 w2) (hK:∀k∈K',k∈K∨w.heap.size<=k):Ch K w w2:=
 ⟨h'.os.trans h.os,h'.tape.trans h.tape,h'.output.trans h.output,Nat.le_trans h.size h'.size,fun k hk hn=>(h'.far k (by have:=h.size;omega) (fun hm=>by
  rcases hK k hm with h1 | h1
  ·exact hn h1
  ·omega)).trans (h.far k hk hn)⟩
theorem Ch.below {K:List Nat} {W w w':World} (hb:Below W.heap.size W w) (h:Ch K w w') (hK:∀k∈K,W.heap.size<=k):Below W.heap.size W w':=
 ⟨h.os.trans hb.os,h.tape.trans hb.tape,h.output.trans hb.output,Nat.le_trans hb.size h.size,fun k hk=>(h.far k (by have:=hb.size;omega) (fun hm=>by have:=hK k hm;omega)).trans (hb.block k hk)⟩
theorem Ch.of {K:List Nat} {w w':World} (h:Below w.heap.size w w'):Ch K w w':=⟨h.os,h.tape,h.output,h.size,fun k hk _=>h.block k hk⟩
theorem Ch.set {K:List Nat} {w:World} {q i:Nat} {v:Value} (hq:q∈K):Ch K w (w.setCell ⟨q,i,none⟩ v):=
 ⟨rfl,rfl,rfl,by simp,fun k _ hn=>Below.heap_setCell _ _ _ _ (fun e=>hn (by
  have e':k=q:=e
  rw[e']
  exact hq))⟩
theorem Ch.grown {K:List Nat} {w w1 w2:World} {row:Option Nat} (h:Ch K w w1) (hg:w1.grownBy w2 row) (hr:∀r,row=some r->r∈K∨w.heap.size<=r):Ch K w w2:=
 ⟨hg.os.trans h.os,hg.tape.trans h.tape,hg.output.trans h.output,Nat.le_trans h.size hg.size,fun k hk hn=>(hg.block k (by have:=h.size;omega) (fun e=>by
  rcases hr k e.symm with h1 | h1
  ·exact hn h1
  ·omega)).trans (h.far k hk hn)⟩
structure Fm (w:World) (B:Nat) (vs:List Value) (f:Nat->List Int):Prop where
 own:∀i,i<vs.length->w.ownsRow B 3 1 (vs.getD i undef) (f i).length ((f i).map (Value.int .i64))
 nd:ND vs
theorem Fm.keep {w w':World} {B:Nat} {vs:List Value} {f:Nat->List Int} (h:Fm w B vs f) (hk:∀k∈blocks vs,w'.heap[k]?=w.heap[k]?):Fm w' B vs f:=
 ⟨fun i hi=>own_block (h.own i hi) (fun k e=>hk k (mem_blocks hi e)),h.nd⟩
theorem Fm.lt {w:World} {B:Nat} {vs:List Value} {f:Nat->List Int} (h:Fm w B vs f):∀k∈blocks vs,B<=k/\k<w.heap.size:=fun k hk=>by
 obtain⟨v,hv,e⟩:=List.mem_filterMap.1 hk
 obtain⟨i,hi,rfl⟩:=List.getElem_of_mem hv
 have e1:vs.getD i undef=vs[i]:=by simp[List.getD,hi]
 exact (h.own i hi).lt k (by rw[e1];exact e)
theorem Fm.below {w w':World} {B:Nat} {vs:List Value} {f:Nat->List Int} (h:Fm w B vs f) (hb:Below w.heap.size w w'):Fm w' B vs f:=h.keep (fun k hk=>hb.block k (h.lt k hk).2)
theorem Fm.ty {w:World} {B q:Nat} {vs:List Value} {f:Nat->List Int} {cs:Array Value} {T:TypeId} (h:Fm w B vs f) (hq:w.heap[q]?=some (.cells cs T (0,0))) (hT:T≠3):q∉blocks vs:=fun hk=>by
 obtain⟨v,hv,e⟩:=List.mem_filterMap.1 hk
 obtain⟨i,hi,rfl⟩:=List.getElem_of_mem hv
 have e1:vs.getD i undef=vs[i]:=by simp[List.getD,hi]
 obtain⟨cur,hc,_⟩:=own_block_obj (h.own i hi) (by rw[e1];exact e)
 rw[hq] at hc
 simp at hc
 exact hT hc.2
theorem Fm.set {w:World} {B:Nat} {vs:List Value} {f:Nat->List Int} (h:Fm w B vs f) {i t q c:Nat} (hi:i<vs.length) (hv:vs.getD i undef=.slice (some ⟨q,0,none⟩) (f i).length c) (x:Int):Fm (w.setCell ⟨q,t,none⟩ (.int .i64 x)) B vs (upd f i ((f i).set t x)):=by
 have hb:(vs.getD i undef).ownBlock=some q:=by rw[hv];rfl
 refine⟨fun j hj=>?_,h.nd⟩
 by_cases e:j=i
 ·subst e
  rw[upd_same,List.map_set,List.length_set]
  have:=h.own j hj
  rw[hv] at this ⊢
  exact own_set this _
 ·rw[upd_other _ _ e]
  exact own_block (h.own j hj) (fun k ek=>Below.heap_setCell _ _ _ _ (h.nd j i k q hj hi e ek hb))
theorem Fm.push {w w2:World} {B:Nat} {vs:List Value} {f:Nat->List Int} {k g cap:Nat} {o:Obj} {x:Int} (h:Fm w B vs f) (hk:k<vs.length)
  (hown:w2.ownsRow B 3 1 (.slice (some ⟨g,0,none⟩) ((f k).length+1) cap) ((f k).length+1) ((f k++[x]).map (Value.int .i64))) (hgr:(w.alloc o).grownBy w2 (vs.getD k undef).ownBlock) (hat:(vs.getD k undef).ownBlock=some g∨g=w.heap.size+1) :
  Fm w2 B (vs.set k (.slice (some ⟨g,0,none⟩) ((f k).length+1) cap)) (upd f k (f k++[x])):=by
 have gs:(vs.set k (.slice (some ⟨g,0,none⟩) ((f k).length+1) cap)).getD k undef=.slice (some ⟨g,0,none⟩) ((f k).length+1) cap:=by simp[List.getD,hk]
 have go:∀i,i≠k->(vs.set k (.slice (some ⟨g,0,none⟩) ((f k).length+1) cap)).getD i undef=vs.getD i undef:=fun i e=>by simp[List.getD,List.getElem?_set_ne (fun e'=>e e'.symm)]
 have hne:∀a pa,a<vs.length->a≠k->(vs.getD a undef).ownBlock=some pa->pa≠g:=fun a pa ha e hpa e'=>by
  rcases hat with h1 | h1
  ·exact h.nd a k pa g ha hk e hpa h1 e'
  ·have:=((h.own a ha).lt pa hpa).2
   omega
 refine⟨fun i hi=>?_,fun i j p q hi hj hij hp hq=>?_⟩
 ·have hi':i<vs.length:=by simpa using hi
  by_cases e:i=k
  ·subst e
   rw[gs,upd_same,List.length_append,List.length_singleton]
   exact hown
  ·rw[go i e,upd_other _ _ e]
   refine own_block (h.own i hi') (fun q eq=>?_)
   have hq:=((h.own i hi').lt q eq).2
   rw[hgr.block q (by simp;omega) (fun e'=>h.nd i k q q hi' hk e eq e'.symm rfl),Below.heap_alloc _ _ _ hq]
 ·have hi':i<vs.length:=by simpa using hi
  have hj':j<vs.length:=by simpa using hj
  by_cases ei:i=k
  ·subst ei
   rw[gs] at hp
   rw[go j (fun e=>hij e.symm)] at hq
   have ep:g=p:=by simpa[Value.ownBlock] using hp
   subst ep
   exact fun e=>hne j q hj' (fun e=>hij e.symm) hq e.symm
  ·by_cases ej:j=k
   ·subst ej
    rw[gs] at hq
    rw[go i ei] at hp
    have ep:g=q:=by simpa[Value.ownBlock] using hq
    subst ep
    exact hne i p hi' ei hp
   ·rw[go i ei] at hp
    rw[go j ej] at hq
    exact h.nd i j p q hi' hj' hij hp hq
structure Pt (w:World) (B pb:Nat) (v0 v1 v2 v3 v4 v5:Value) (f:Nat->List Int):Prop where
 blk:w.heap[pb]?=some (.cells #[v0,v1,v2,v3,v4,v5] 158 (0,0))
 fm:Fm w B [v0,v1,v2,v3,v4,v5] f
 ge:B<=pb
theorem Pt.below {w w':World} {B pb:Nat} {v0 v1 v2 v3 v4 v5:Value} {f:Nat->List Int} (h:Pt w B pb v0 v1 v2 v3 v4 v5 f) (hb:Below w.heap.size w w'):Pt w' B pb v0 v1 v2 v3 v4 v5 f:=
 ⟨by rw[hb.block pb (lt_of_block h.blk)];exact h.blk,h.fm.below hb,h.ge⟩
theorem Pt.sl {w:World} {B pb:Nat} {v0 v1 v2 v3 v4 v5:Value} {f:Nat->List Int} (h:Pt w B pb v0 v1 v2 v3 v4 v5 f):(∃a c,v0=.slice a (f 0).length c)/\(∃a c,v1=.slice a (f 1).length c)/\(∃a c,v2=.slice a (f 2).length c)/\(∃a c,v3=.slice a (f 3).length c)/\(∃a c,v4=.slice a (f 4).length c)/\∃a c,v5=.slice a (f 5).length c:=
 ⟨own_sl (h.fm.own 0 (by simp)),own_sl (h.fm.own 1 (by simp)),own_sl (h.fm.own 2 (by simp)),own_sl (h.fm.own 3 (by simp)),own_sl (h.fm.own 4 (by simp)),own_sl (h.fm.own 5 (by simp))⟩
end Go.Proofs.YtbfbkmkjcekpaaaGreatDoor
namespace Go.Proofs.YtbfbkmkjcekpaaaGreatDoor
set_option maxRecDepth 100000
open Go.RowKit
theorem blk6 {w:World} {q:Nat} {u0 u1 u2 u3 u4 u5:Value} {T:TypeId} (h:w.heap[q]?=some (.cells #[u0,u1,u2,u3,u4,u5] T)):(w.cell? ⟨q,0,none⟩=some u0/\w.cell? ⟨q,1,none⟩=some u1/\w.cell? ⟨q,2,none⟩=some u2/\w.cell? ⟨q,3,none⟩=some u3/\w.cell? ⟨q,4,none⟩=some u4/\w.cell? ⟨q,5,none⟩=some u5)/\(w.frozen? ⟨q,0,none⟩=false/\w.frozen? ⟨q,1,none⟩=false/\w.frozen? ⟨q,2,none⟩=false/\w.frozen? ⟨q,3,none⟩=false/\w.frozen? ⟨q,4,none⟩=false/\w.frozen? ⟨q,5,none⟩=false):=by
 refine⟨⟨?_,?_,?_,?_,?_,?_⟩,?_,?_,?_,?_,?_,?_⟩ <;> simp[World.cell?,World.frozen?,h]
theorem own_cap7 {w:World} {B:Nat} {e:TypeId} {s n cap:Nat} {a:Addr} {xs:List Value} (h:w.ownsRow B e s (.slice (some a) n cap) n xs):n<=cap:=by
 rcases h.2 with⟨h,_⟩ | ⟨_,_,_,hv,_,_,hle,_⟩
 ·cases h
 ·injection hv with _ _ h3
  omega
def setL (cl xs:List Int) (v:Int):List Int:=xs.foldl (fun c x=>c.set x.toNat v) cl
theorem setL_snoc (cl xs:List Int) (v x:Int):setL cl (xs++[x]) v=(setL cl xs v).set x.toNat v:=by simp[setL]
theorem setL_len (v:Int):∀(xs cl:List Int),(setL cl xs v).length=cl.length
 | [],_=>rfl
 | x::r,cl=>by
  have:=setL_len v r (cl.set x.toNat v)
  rw[List.length_set] at this
  exact this
theorem upd_upd {α:Type} (f:Nat->α) (i:Nat) (x y:α):upd (upd f i x) i y=upd f i y:=by
 funext j
 unfold upd
 split <;> rfl
theorem Pt.drew {w:World} {B pb:Nat} {v0 v1 v2 v3 v4 v5:Value} {f:Nat->List Int} (h:Pt w B pb v0 v1 v2 v3 v4 v5 f):Pt w.drew B pb v0 v1 v2 v3 v4 v5 f:=⟨h.blk,⟨fun i hi=>own_block (h.fm.own i hi) (fun _ _=>rfl),h.fm.nd⟩,h.ge⟩
theorem Ch.drew {K:List Nat} {w w':World} (h:Ch K w w'):Ch K w w'.drew:=⟨h.os,h.tape,h.output,h.size,h.far⟩
theorem Ch.mono {K K':List Nat} {w w':World} (h:Ch K w w') (hs:∀k∈K,k∈K'):Ch K' w w':=⟨h.os,h.tape,h.output,h.size,fun k hk hn=>h.far k hk (fun hm=>hn (hs k hm))⟩
theorem Ch.alloc {K:List Nat} {w w':World} (h:Ch K w w') (o:Obj):Ch K w (w'.alloc o):=h.trans (Ch.of (K:=[]) (below_alloc w' o)) (fun _ hk=>absurd hk (by simp))
theorem Ch.put {K:List Nat} {w w':World} (h:Ch K w w') {q i:Nat} (v:Value) (hq:q∈K):Ch K w (w'.setCell ⟨q,i,none⟩ v):=h.trans (Ch.set hq) (fun _ hk=>Or.inl hk)
theorem Pt.far {w w2:World} {B pb:Nat} {v0 v1 v2 v3 v4 v5 v:Value} {f:Nat->List Int} {o:Obj} {i:Nat} (h:Pt w B pb v0 v1 v2 v3 v4 v5 f) (hi:i<6) (hv:[v0,v1,v2,v3,v4,v5].getD i undef=v) (hgr:(w.alloc o).grownBy w2 v.ownBlock):w2.heap[pb]?=some (.cells #[v0,v1,v2,v3,v4,v5] 158 (0,0)):=by
 subst hv
 have hpb:=lt_of_block h.blk
 have hrow:([v0,v1,v2,v3,v4,v5].getD i undef).ownBlock≠some pb:=fun e=>h.fm.ty h.blk (by decide) (mem_blocks (i:=i) (by simpa using hi) e)
 rw[hgr.block pb (by simp;omega) (fun e=>hrow e.symm),Below.heap_alloc _ _ _ hpb]
 exact h.blk
theorem Pt.setC {w:World} {B pb q c t m:Nat} {v0 v1 v3 v4 v5:Value} {f:Nat->List Int} (h:Pt w B pb v0 v1 (.slice (some ⟨q,0,none⟩) m c) v3 v4 v5 f) (hm:(f 2).length=m) (x:Int):Pt (w.setCell ⟨q,t,none⟩ (.int .i64 x)) B pb v0 v1 (.slice (some ⟨q,0,none⟩) m c) v3 v4 v5 (upd f 2 ((f 2).set t x)):=by
 subst hm
 have hne:pb≠q:=fun e=>h.fm.ty h.blk (by decide) (mem_blocks (i:=2) (by simp) (by rw[e];rfl))
 refine⟨by rw[Below.heap_setCell _ _ _ _ hne];exact h.blk,?_,h.ge⟩
 exact Fm.set (i:=2) (t:=t) h.fm (by simp) rfl x
theorem Pt.push3 {w w2:World} {B pb g cap:Nat} {v0 v1 v2 v3 v4 v5:Value} {f:Nat->List Int} {o:Obj} {x:Int} (h:Pt w B pb v0 v1 v2 v3 v4 v5 f) (hown:w2.ownsRow B 3 1 (.slice (some ⟨g,0,none⟩) ((f 3).length+1) cap) ((f 3).length+1) ((f 3++[x]).map (Value.int .i64))) (hgr:(w.alloc o).grownBy w2 v3.ownBlock) (hat:v3.ownBlock=some g∨g=w.heap.size+1) :
  Pt (w2.setCell ⟨pb,3,none⟩ (.slice (some ⟨g,0,none⟩) ((f 3).length+1) cap)) B pb v0 v1 v2 (.slice (some ⟨g,0,none⟩) ((f 3).length+1) cap) v4 v5 (upd f 3 (f 3++[x])):=by
 have hpb:=lt_of_block h.blk
 have hrow:v3.ownBlock≠some pb:=fun e=>h.fm.ty h.blk (by decide) (mem_blocks (i:=3) (by simp) e)
 have hF:=Fm.push (k:=3) h.fm (by simp) hown hgr hat
 have h2:w2.heap[pb]?=some (.cells #[v0,v1,v2,v3,v4,v5] 158 (0,0)):=by
  rw[hgr.block pb (by simp;omega) (fun e=>hrow e.symm),Below.heap_alloc _ _ _ hpb]
  exact h.blk
 refine⟨heap_setCell_same w2 pb 3 _ _ _ h2,?_,h.ge⟩
 exact hF.keep (fun k hk=>Below.heap_setCell _ _ _ _ (fun e=>hF.ty h2 (by decide) (by
  have e':k=pb:=e
  rw[←e']
  exact hk)))
theorem Pt.push4 {w w2:World} {B pb g cap:Nat} {v0 v1 v2 v3 v4 v5:Value} {f:Nat->List Int} {o:Obj} {x:Int} (h:Pt w B pb v0 v1 v2 v3 v4 v5 f) (hown:w2.ownsRow B 3 1 (.slice (some ⟨g,0,none⟩) ((f 4).length+1) cap) ((f 4).length+1) ((f 4++[x]).map (Value.int .i64))) (hgr:(w.alloc o).grownBy w2 v4.ownBlock) (hat:v4.ownBlock=some g∨g=w.heap.size+1) :
  Pt (w2.setCell ⟨pb,4,none⟩ (.slice (some ⟨g,0,none⟩) ((f 4).length+1) cap)) B pb v0 v1 v2 v3 (.slice (some ⟨g,0,none⟩) ((f 4).length+1) cap) v5 (upd f 4 (f 4++[x])):=by
 have hpb:=lt_of_block h.blk
 have hrow:v4.ownBlock≠some pb:=fun e=>h.fm.ty h.blk (by decide) (mem_blocks (i:=4) (by simp) e)
 have hF:=Fm.push (k:=4) h.fm (by simp) hown hgr hat
 have h2:w2.heap[pb]?=some (.cells #[v0,v1,v2,v3,v4,v5] 158 (0,0)):=by
  rw[hgr.block pb (by simp;omega) (fun e=>hrow e.symm),Below.heap_alloc _ _ _ hpb]
  exact h.blk
 refine⟨heap_setCell_same w2 pb 4 _ _ _ h2,?_,h.ge⟩
 exact hF.keep (fun k hk=>Below.heap_setCell _ _ _ _ (fun e=>hF.ty h2 (by decide) (by
  have e':k=pb:=e
  rw[←e']
  exact hk)))
theorem Pt.push5 {w w2:World} {B pb g cap:Nat} {v0 v1 v2 v3 v4 v5:Value} {f:Nat->List Int} {o:Obj} {x:Int} (h:Pt w B pb v0 v1 v2 v3 v4 v5 f) (hown:w2.ownsRow B 3 1 (.slice (some ⟨g,0,none⟩) ((f 5).length+1) cap) ((f 5).length+1) ((f 5++[x]).map (Value.int .i64))) (hgr:(w.alloc o).grownBy w2 v5.ownBlock) (hat:v5.ownBlock=some g∨g=w.heap.size+1) :
  Pt (w2.setCell ⟨pb,5,none⟩ (.slice (some ⟨g,0,none⟩) ((f 5).length+1) cap)) B pb v0 v1 v2 v3 v4 (.slice (some ⟨g,0,none⟩) ((f 5).length+1) cap) (upd f 5 (f 5++[x])):=by
 have hpb:=lt_of_block h.blk
 have hrow:v5.ownBlock≠some pb:=fun e=>h.fm.ty h.blk (by decide) (mem_blocks (i:=5) (by simp) e)
 have hF:=Fm.push (k:=5) h.fm (by simp) hown hgr hat
 have h2:w2.heap[pb]?=some (.cells #[v0,v1,v2,v3,v4,v5] 158 (0,0)):=by
  rw[hgr.block pb (by simp;omega) (fun e=>hrow e.symm),Below.heap_alloc _ _ _ hpb]
  exact h.blk
 refine⟨heap_setCell_same w2 pb 5 _ _ _ h2,?_,h.ge⟩
 exact hF.keep (fun k hk=>Below.heap_setCell _ _ _ _ (fun e=>hF.ty h2 (by decide) (by
  have e':k=pb:=e
  rw[←e']
  exact hk)))
set_option maxHeartbeats 4000000 in
theorem enter_any {w:World} {B pb a b:Nat} {v0 v1 v2 v3 v4 v5:Value} {f:Nat->List Int} (hP:Pt w B pb v0 v1 v2 v3 v4 v5 f) (hab:a<b) (hb:b<=(f 0).length) (hl:∀i,(f i).length<=4500) (hr:∀x∈f 0,0<=x/\x<((f 2).length:Int)) (hB:B<=w.heap.size) :
  Calls Tryz.prog 135 #[.pointer (some ⟨pb,0,none⟩),.int .i64 a,.int .i64 b] w fun e w'=>e=.returned (.tuple #[])/\∃u3 u4 u5,Pt w' B pb v0 v1 v2 u3 u4 u5 (upd (upd (upd (upd f 2 (setL (f 2) (((f 0).drop a).take (b-a)) (f 3).length)) 3 (f 3++[(a:Int)])) 4 (f 4++[(b:Int)])) 5 (f 5++[0]))/\Ch (pb::blocks [v0,v1,v2,v3,v4,v5]) w w'/\∀k∈blocks [u3,u4,u5],k∈blocks [v0,v1,v2,v3,v4,v5]∨w.heap.size<=k:=by
 obtain⟨q0,c0,rfl,hq0⟩:∃q c,v0=.slice (some ⟨q,0,none⟩) (f 0).length c/\v0.ownBlock=some q:=(own_form (hP.fm.own 0 (by simp))).resolve_left (fun h=>by omega)
 have hf2:0<(f 2).length:=by
  have:=hr _ (getD_mem (l:=f 0) (k:=0) (by omega))
  omega
 obtain⟨q2,c2,rfl,hq2⟩:∃q c,v2=.slice (some ⟨q,0,none⟩) (f 2).length c/\v2.ownBlock=some q:=(own_form (hP.fm.own 2 (by simp))).resolve_left (fun h=>by omega)
 obtain⟨_,⟨a1,c1,rfl⟩,_,⟨a3,c3,rfl⟩,⟨a4,c4,rfl⟩,⟨a5,c5,rfl⟩⟩:=hP.sl
 have hcap:(f 0).length<=c0:=own_cap7 (hP.fm.own 0 (by simp))
 have hca:¬c0=a:=by omega
 obtain⟨⟨z0,z1,z2,z3,z4,z5⟩,y0,y1,y2,y3,y4,y5⟩:=blk6 hP.blk
 have hl0:=hl 0
 have hl2:=hl 2
 have hl3:=hl 3
 have hst:Hid (Pt w B pb (.slice (some ⟨q0,0,none⟩) (f 0).length c0) (.slice a1 (f 1).length c1) (.slice (some ⟨q2,0,none⟩) (f 2).length c2) (.slice a3 (f 3).length c3) (.slice a4 (f 4).length c4) (.slice a5 (f 5).length c5) (upd f 2 (setL (f 2) (((f 0).drop a).take 0) (f 3).length))):=by
  have e:upd f 2 (setL (f 2) (((f 0).drop a).take 0) (f 3).length)=f:=by
   funext j
   unfold upd
   split
   ·rename_i e
    subst e
    simp[setL]
   ·rfl
  show Pt _ _ _ _ _ _ _ _ _ _
  rw[e]
  exact hP
 go_enter Tryz.func135,Tryz.ntmps135
 go_wp2
 go_loopw [16] (fun i wr=>∃t:Nat,t<=b-a/\i=.int .i64 t/\Hid (Pt wr B pb (.slice (some ⟨q0,0,none⟩) (f 0).length c0) (.slice a1 (f 1).length c1) (.slice (some ⟨q2,0,none⟩) (f 2).length c2) (.slice a3 (f 3).length c3) (.slice a4 (f 4).length c4) (.slice a5 (f 5).length c5) (upd f 2 (setL (f 2) (((f 0).drop a).take t) (f 3).length)))/\Hid (Ch [q2] w wr)) (fun i _=>b-a-(intOf i).toNat)
 case atStart=>exact⟨0,Nat.zero_le _,rfl,hst,Ch.refl _ _⟩
 case round=>
  clear hst z0 z1 z2 z3 z4 z5 y0 y1 y2 y3 y4 y5
  obtain⟨t,ht,rfl,hPt,hCh⟩:=hrel
  obtain⟨⟨z0,z1,z2,z3,z4,z5⟩,y0,y1,y2,y3,y4,y5⟩:=blk6 hPt.out.blk
  by_cases hlt:t<b-a
  ·have hx:=hr _ (getD_mem (l:=f 0) (k:=a+t) (by omega))
   obtain⟨n,hn⟩:∃n:Nat,(f 0).getD (a+t) 0=(n:Int):=⟨((f 0).getD (a+t) 0).toNat,by omega⟩
   rw[hn] at hx
   have e0:upd f 2 (setL (f 2) (((f 0).drop a).take t) (f 3).length) 0=f 0:=upd_other _ _ (by omega)
   have e2:upd f 2 (setL (f 2) (((f 0).drop a).take t) (f 3).length) 2=setL (f 2) (((f 0).drop a).take t) (f 3).length:=upd_same _ _ _
   have hts:((f 0).drop a).take (t+1)=((f 0).drop a).take t++[(n:Int)]:=by
    rw[take_snoc (by simp;omega),←hn]
    simp[List.getD]
   have hln:=setL_len ((f 3).length:Int) (((f 0).drop a).take t) (f 2)
   have ho0:=hPt.out.fm.own 0 (by simp)
   rw[e0] at ho0
   have d0:wr.cell? ⟨q0,a+t,none⟩=some (.int .i64 (n:Int)):=by
    have:=ho0.cells (g:=q0) rfl (a+t) (.int .i64 (n:Int)) (by
     have h1:a+t<(f 0).length:=by omega
     rw[←hn]
     simp[List.getD,h1])
    rw[Addr.add_lit,Nat.zero_add] at this
    exact this
   have ho2:=hPt.out.fm.own 2 (by simp)
   rw[e2] at ho2
   obtain⟨cur,hcur,_⟩:=own_block_obj ho2 rfl
   have d2:∃y,wr.cell? ⟨q2,n,none⟩=some y:=by
    have:=ho2.cells (g:=q2) rfl n (.int .i64 ((setL (f 2) (((f 0).drop a).take t) (f 3).length).getD n 0)) (by
     have h1:n<(setL (f 2) (((f 0).drop a).take t) (f 3).length).length:=by omega
     simp[List.getD,h1])
    rw[Addr.add_lit,Nat.zero_add] at this
    exact⟨_,this⟩
   obtain⟨y,d2⟩:=d2
   have g2:wr.frozen? ⟨q2,n,none⟩=false:=by simp[World.frozen?,hcur]
   have hP':=hid (Pt.setC (t:=n) hPt.out (by rw[e2];exact hln) ((f 3).length:Int))
   rw[e2,upd_upd] at hP'
   have hC':=hid (hCh.out.trans (Ch.set (w:=wr) (q:=q2) (i:=n) (v:=.int .i64 ((f 3).length:Int)) (K:=[q2]) (by simp)) (fun k hk=>Or.inl hk))
   have hfin:Hid (setL (f 2) (((f 0).drop a).take (t+1)) (f 3).length=(setL (f 2) (((f 0).drop a).take t) (f 3).length).set n (f 3).length):=by
    show _=_
    rw[hts,setL_snoc]
    rfl
   have hnN:n<(f 2).length:=by omega
   have hnI:(n:Int)<((f 2).length:Int):=by omega
   clear hPt hCh ho0 ho2 hcur hts e0 e2 hn hl hr
   go_wp2
   go_big_region
   go_wp2
   exact⟨⟨t+1,by omega,congrArg (Value.int .i64) (by omega),by rw[hfin.out];exact hP'.out.drew,hC'.out.drew⟩,by simp[intOf];omega⟩
  ·have htl:t=b-a:=by omega
   subst htl
   obtain⟨i0,hi,hj0,hj1,hj2⟩:=info_parts infoI
   have hl4:=hl 4
   have hl5:=hl 5
   have hBw:B<=wr.heap.size:=by have:=hCh.out.size;omega
   have o3:wr.ownsRow B 3 1 (.slice a3 (f 3).length c3) (f 3).length ((f 3).map (Value.int .i64)):=hPt.out.fm.own 3 (by simp)
   have hoz3:=World.ownsRow.alloc o3 (.cells #[.int .i64 (a:Int)] 3)
   have hnews3:=heap_alloc_new wr (.cells #[.int .i64 (a:Int)] 3)
   clear hl hr
   go_wp2_with (first
    | (at_builtin;refine wpList_append_lies _ rfl _ _ _ rfl B 3 i0 (.int .i64 0) 1 8 Tryz.underlying23 hi hj0 hj1 hj2 rfl (by decide) _ (f 3).length ((f 3).map (Value.int .i64)) rfl hoz3 ⟨wr.heap.size,0,none⟩ 1 1 [.int .i64 (a:Int)] rfl rfl (World.news_of_block (cs:=#[.int .i64 (a:Int)]) (t:=3) (fr:=(0,0)) hnews3) (by simp[Value.oneCell']) (by omega) (by unfold maxLen;omega) (by omega) (by simp;omega) (wr.heap.size+1) (by simp) ?_;clear hoz3;intro g3 k3 w3 hown3 hgr3 hat3 hlt3;have hb3:=Pt.far (i:=3) hPt.out (by omega) rfl hgr3;have hbw3:=hgr3.size;simp at hbw3;clear z0 z1 z2 z3 z4 z5 y0 y1 y2 y3 y4 y5;obtain⟨⟨z0,z1,z2,z3,z4,z5⟩,y0,y1,y2,y3,y4,y5⟩:=blk6 hb3;have hP3:Hid (Pt (w3.setCell ⟨pb,3,none⟩ (.slice (some ⟨g3,0,none⟩) ((f 3).length+1) k3)) B pb (.slice (some ⟨q0,0,none⟩) (f 0).length c0) (.slice a1 (f 1).length c1) (.slice (some ⟨q2,0,none⟩) (f 2).length c2) (.slice (some ⟨g3,0,none⟩) ((f 3).length+1) k3) (.slice a4 (f 4).length c4) (.slice a5 (f 5).length c5) (upd (upd f 2 (setL (f 2) (((f 0).drop a).take (b-a)) (f 3).length)) 3 (f 3++[(a:Int)]))):=Pt.push3 (f:=(upd f 2 (setL (f 2) (((f 0).drop a).take (b-a)) (f 3).length))) (x:=(a:Int)) hPt.out (by rw[List.map_append];exact hown3) hgr3 (hat3.elim Or.inl (fun h=>Or.inr (by simpa using h)));have o4:(w3.setCell ⟨pb,3,none⟩ (.slice (some ⟨g3,0,none⟩) ((f 3).length+1) k3)).ownsRow B 3 1 (.slice a4 (f 4).length c4) (f 4).length ((f 4).map (Value.int .i64)):=hP3.out.fm.own 4 (by simp);have hoz4:=World.ownsRow.alloc o4 (.cells #[.int .i64 (b:Int)] 3);have hs3:(w3.setCell ⟨pb,3,none⟩ (.slice (some ⟨g3,0,none⟩) ((f 3).length+1) k3)).heap.size=w3.heap.size:=(by simp);have hnews4:=heap_alloc_new (w3.setCell ⟨pb,3,none⟩ (.slice (some ⟨g3,0,none⟩) ((f 3).length+1) k3)) (.cells #[.int .i64 (b:Int)] 3);rw[hs3] at hnews4;clear hs3)
    | (at_builtin;refine wpList_append_lies _ rfl _ _ _ rfl B 3 i0 (.int .i64 0) 1 8 Tryz.underlying23 hi hj0 hj1 hj2 rfl (by decide) _ (f 4).length ((f 4).map (Value.int .i64)) rfl hoz4 ⟨w3.heap.size,0,none⟩ 1 1 [.int .i64 (b:Int)] rfl rfl (World.news_of_block (cs:=#[.int .i64 (b:Int)]) (t:=3) (fr:=(0,0)) hnews4) (by simp[Value.oneCell']) (by omega) (by unfold maxLen;omega) (by omega) (by simp;omega) (w3.heap.size+1) (by simp) ?_;clear hoz4;intro g4 k4 w4 hown4 hgr4 hat4 hlt4;have hb4:=Pt.far (i:=4) hP3.out (by omega) rfl hgr4;have hbw4:=hgr4.size;simp at hbw4;clear z0 z1 z2 z3 z4 z5 y0 y1 y2 y3 y4 y5;obtain⟨⟨z0,z1,z2,z3,z4,z5⟩,y0,y1,y2,y3,y4,y5⟩:=blk6 hb4;have hP4:Hid (Pt (w4.setCell ⟨pb,4,none⟩ (.slice (some ⟨g4,0,none⟩) ((f 4).length+1) k4)) B pb (.slice (some ⟨q0,0,none⟩) (f 0).length c0) (.slice a1 (f 1).length c1) (.slice (some ⟨q2,0,none⟩) (f 2).length c2) (.slice (some ⟨g3,0,none⟩) ((f 3).length+1) k3) (.slice (some ⟨g4,0,none⟩) ((f 4).length+1) k4) (.slice a5 (f 5).length c5) (upd (upd (upd f 2 (setL (f 2) (((f 0).drop a).take (b-a)) (f 3).length)) 3 (f 3++[(a:Int)])) 4 (f 4++[(b:Int)]))):=Pt.push4 (f:=(upd (upd f 2 (setL (f 2) (((f 0).drop a).take (b-a)) (f 3).length)) 3 (f 3++[(a:Int)]))) (x:=(b:Int)) hP3.out (by rw[List.map_append];exact hown4) hgr4 (hat4.elim Or.inl (fun h=>Or.inr (by simpa using h)));have o5:(w4.setCell ⟨pb,4,none⟩ (.slice (some ⟨g4,0,none⟩) ((f 4).length+1) k4)).ownsRow B 3 1 (.slice a5 (f 5).length c5) (f 5).length ((f 5).map (Value.int .i64)):=hP4.out.fm.own 5 (by simp);have hoz5:=World.ownsRow.alloc o5 (.cells #[.int .i64 0] 3);have hs4:(w4.setCell ⟨pb,4,none⟩ (.slice (some ⟨g4,0,none⟩) ((f 4).length+1) k4)).heap.size=w4.heap.size:=(by simp);have hnews5:=heap_alloc_new (w4.setCell ⟨pb,4,none⟩ (.slice (some ⟨g4,0,none⟩) ((f 4).length+1) k4)) (.cells #[.int .i64 0] 3);rw[hs4] at hnews5;clear hs4)
    | (at_builtin;refine wpList_append_lies _ rfl _ _ _ rfl B 3 i0 (.int .i64 0) 1 8 Tryz.underlying23 hi hj0 hj1 hj2 rfl (by decide) _ (f 5).length ((f 5).map (Value.int .i64)) rfl hoz5 ⟨w4.heap.size,0,none⟩ 1 1 [.int .i64 0] rfl rfl (World.news_of_block (cs:=#[.int .i64 0]) (t:=3) (fr:=(0,0)) hnews5) (by simp[Value.oneCell']) (by omega) (by unfold maxLen;omega) (by omega) (by simp;omega) (w4.heap.size+1) (by simp) ?_;clear hoz5;intro g5 k5 w5 hown5 hgr5 hat5 hlt5;have hb5:=Pt.far (i:=5) hP4.out (by omega) rfl hgr5;have hbw5:=hgr5.size;simp at hbw5;clear z0 z1 z2 z3 z4 z5 y0 y1 y2 y3 y4 y5;obtain⟨⟨z0,z1,z2,z3,z4,z5⟩,y0,y1,y2,y3,y4,y5⟩:=blk6 hb5;have hP5:Hid (Pt (w5.setCell ⟨pb,5,none⟩ (.slice (some ⟨g5,0,none⟩) ((f 5).length+1) k5)) B pb (.slice (some ⟨q0,0,none⟩) (f 0).length c0) (.slice a1 (f 1).length c1) (.slice (some ⟨q2,0,none⟩) (f 2).length c2) (.slice (some ⟨g3,0,none⟩) ((f 3).length+1) k3) (.slice (some ⟨g4,0,none⟩) ((f 4).length+1) k4) (.slice (some ⟨g5,0,none⟩) ((f 5).length+1) k5) (upd (upd (upd (upd f 2 (setL (f 2) (((f 0).drop a).take (b-a)) (f 3).length)) 3 (f 3++[(a:Int)])) 4 (f 4++[(b:Int)])) 5 (f 5++[0]))):=Pt.push5 (f:=(upd (upd (upd f 2 (setL (f 2) (((f 0).drop a).take (b-a)) (f 3).length)) 3 (f 3++[(a:Int)])) 4 (f 4++[(b:Int)]))) (x:=0) hP4.out (by rw[List.map_append];exact hown5) hgr5 (hat5.elim Or.inl (fun h=>Or.inr (by simpa using h)))))
   go_end0
   have hpbm:pb∈pb::blocks [.slice (some ⟨q0,0,none⟩) (f 0).length c0,.slice a1 (f 1).length c1,.slice (some ⟨q2,0,none⟩) (f 2).length c2,.slice a3 (f 3).length c3,.slice a4 (f 4).length c4,.slice a5 (f 5).length c5]:=by simp
   have m2:∀k,k∈blocks [.slice (some ⟨q0,0,none⟩) (f 0).length c0,.slice a1 (f 1).length c1,.slice (some ⟨q2,0,none⟩) (f 2).length c2,.slice a3 (f 3).length c3,.slice a4 (f 4).length c4,.slice a5 (f 5).length c5]->k∈pb::blocks [.slice (some ⟨q0,0,none⟩) (f 0).length c0,.slice a1 (f 1).length c1,.slice (some ⟨q2,0,none⟩) (f 2).length c2,.slice a3 (f 3).length c3,.slice a4 (f 4).length c4,.slice a5 (f 5).length c5]:=fun k hk=>List.mem_cons_of_mem _ hk
   have r3:∀r,Value.ownBlock (.slice a3 (f 3).length c3)=some r->r∈pb::blocks [.slice (some ⟨q0,0,none⟩) (f 0).length c0,.slice a1 (f 1).length c1,.slice (some ⟨q2,0,none⟩) (f 2).length c2,.slice a3 (f 3).length c3,.slice a4 (f 4).length c4,.slice a5 (f 5).length c5]:=fun r e=>m2 r (mem_blocks (i:=3) (by simp) e)
   have r4:∀r,Value.ownBlock (.slice a4 (f 4).length c4)=some r->r∈pb::blocks [.slice (some ⟨q0,0,none⟩) (f 0).length c0,.slice a1 (f 1).length c1,.slice (some ⟨q2,0,none⟩) (f 2).length c2,.slice a3 (f 3).length c3,.slice a4 (f 4).length c4,.slice a5 (f 5).length c5]:=fun r e=>m2 r (mem_blocks (i:=4) (by simp) e)
   have r5:∀r,Value.ownBlock (.slice a5 (f 5).length c5)=some r->r∈pb::blocks [.slice (some ⟨q0,0,none⟩) (f 0).length c0,.slice a1 (f 1).length c1,.slice (some ⟨q2,0,none⟩) (f 2).length c2,.slice a3 (f 3).length c3,.slice a4 (f 4).length c4,.slice a5 (f 5).length c5]:=fun r e=>m2 r (mem_blocks (i:=5) (by simp) e)
   have d1:Ch (pb::blocks [.slice (some ⟨q0,0,none⟩) (f 0).length c0,.slice a1 (f 1).length c1,.slice (some ⟨q2,0,none⟩) (f 2).length c2,.slice a3 (f 3).length c3,.slice a4 (f 4).length c4,.slice a5 (f 5).length c5]) w wr:=hCh.out.mono (fun k hk=>by
    have e:k=q2:=by simpa using hk
    subst e
    exact m2 k (mem_blocks (i:=2) (by simp) rfl))
   have hw:=d1.size
   have d3:=(((d1.alloc (.cells #[.int .i64 (a:Int)] 3)).grown hgr3 (fun r e=>Or.inl (r3 r e))).put (i:=3) (.slice (some ⟨g3,0,none⟩) ((f 3).length+1) k3) hpbm)
   have d4:=(((d3.alloc (.cells #[.int .i64 (b:Int)] 3)).grown hgr4 (fun r e=>Or.inl (r4 r e))).put (i:=4) (.slice (some ⟨g4,0,none⟩) ((f 4).length+1) k4) hpbm)
   have d5:=(((d4.alloc (.cells #[.int .i64 0] 3)).grown hgr5 (fun r e=>Or.inl (r5 r e))).put (i:=5) (.slice (some ⟨g5,0,none⟩) ((f 5).length+1) k5) hpbm)
   refine⟨rfl,_,_,_,hP5.out,d5,fun k hk=>?_⟩
   have hk':k=g3∨k=g4∨k=g5:=by simpa[blocks,Value.ownBlock] using hk
   rcases hk' with rfl | rfl | rfl
   ·rcases hat3 with h | h
    ·exact Or.inl (mem_blocks (i:=3) (by simp) h)
    ·exact Or.inr (by omega)
   ·rcases hat4 with h | h
    ·exact Or.inl (mem_blocks (i:=4) (by simp) h)
    ·exact Or.inr (by omega)
   ·rcases hat5 with h | h
    ·exact Or.inl (mem_blocks (i:=5) (by simp) h)
    ·exact Or.inr (by omega)
end Go.Proofs.YtbfbkmkjcekpaaaGreatDoor
namespace Go.Proofs.YtbfbkmkjcekpaaaGreatDoor
set_option maxRecDepth 100000
open Go.RowKit
theorem Fm.cell {w:World} {B:Nat} {vs:List Value} {f:Nat->List Int} (h:Fm w B vs f) {i q c j:Nat} (hi:i<vs.length) (hv:vs.getD i undef=.slice (some ⟨q,0,none⟩) (f i).length c) (hj:j<(f i).length):w.cell? ⟨q,j,none⟩=some (.int .i64 ((f i).getD j 0))/\w.frozen? ⟨q,j,none⟩=false:=by
 have ho:=h.own i hi
 rw[hv] at ho
 refine⟨?_,?_⟩
 ·have:=ho.cells (g:=q) rfl j (.int .i64 ((f i).getD j 0)) (by simp[List.getD,hj])
  rw[Addr.add_lit,Nat.zero_add] at this
  exact this
 ·obtain⟨cur,hc,_⟩:=own_block_obj ho rfl
  simp[World.frozen?,hc]
theorem Pt.set0 {w:World} {B pb q c t m:Nat} {v1 v2 v3 v4 v5:Value} {f:Nat->List Int} (h:Pt w B pb (.slice (some ⟨q,0,none⟩) m c) v1 v2 v3 v4 v5 f) (hm:(f 0).length=m) (x:Int):Pt (w.setCell ⟨q,t,none⟩ (.int .i64 x)) B pb (.slice (some ⟨q,0,none⟩) m c) v1 v2 v3 v4 v5 (upd f 0 ((f 0).set t x)):=by
 subst hm
 have hne:pb≠q:=fun e=>h.fm.ty h.blk (by decide) (mem_blocks (i:=0) (by simp) (by rw[e];rfl))
 refine⟨by rw[Below.heap_setCell _ _ _ _ hne];exact h.blk,?_,h.ge⟩
 exact Fm.set (i:=0) (t:=t) h.fm (by simp) rfl x
theorem Pt.set1 {w:World} {B pb q c t m:Nat} {v0 v2 v3 v4 v5:Value} {f:Nat->List Int} (h:Pt w B pb v0 (.slice (some ⟨q,0,none⟩) m c) v2 v3 v4 v5 f) (hm:(f 1).length=m) (x:Int):Pt (w.setCell ⟨q,t,none⟩ (.int .i64 x)) B pb v0 (.slice (some ⟨q,0,none⟩) m c) v2 v3 v4 v5 (upd f 1 ((f 1).set t x)):=by
 subst hm
 have hne:pb≠q:=fun e=>h.fm.ty h.blk (by decide) (mem_blocks (i:=1) (by simp) (by rw[e];rfl))
 refine⟨by rw[Below.heap_setCell _ _ _ _ hne];exact h.blk,?_,h.ge⟩
 exact Fm.set (i:=1) (t:=t) h.fm (by simp) rfl x
theorem Pt.set5 {w:World} {B pb q c t m:Nat} {v0 v1 v2 v3 v4:Value} {f:Nat->List Int} (h:Pt w B pb v0 v1 v2 v3 v4 (.slice (some ⟨q,0,none⟩) m c) f) (hm:(f 5).length=m) (x:Int):Pt (w.setCell ⟨q,t,none⟩ (.int .i64 x)) B pb v0 v1 v2 v3 v4 (.slice (some ⟨q,0,none⟩) m c) (upd f 5 ((f 5).set t x)):=by
 subst hm
 have hne:pb≠q:=fun e=>h.fm.ty h.blk (by decide) (mem_blocks (i:=5) (by simp) (by rw[e];rfl))
 refine⟨by rw[Below.heap_setCell _ _ _ _ hne];exact h.blk,?_,h.ge⟩
 exact Fm.set (i:=5) (t:=t) h.fm (by simp) rfl x
theorem Pt.drewN {w:World} {B pb:Nat} {v0 v1 v2 v3 v4 v5:Value} {f:Nat->List Int} (h:Pt w B pb v0 v1 v2 v3 v4 v5 f) (q:Nat):Pt (w.drewN q) B pb v0 v1 v2 v3 v4 v5 f:=⟨h.blk,⟨fun i hi=>own_block (h.fm.own i hi) (fun _ _=>rfl),h.fm.nd⟩,h.ge⟩
theorem Fm.cellN {w:World} {B:Nat} {vs:List Value} {f:Nat->List Int} (h:Fm w B vs f) {i q c j n:Nat} (hi:i<vs.length) (hv:vs.getD i undef=.slice (some ⟨q,0,none⟩) n c) (hn:(f i).length=n) (hj:j<n):w.cell? ⟨q,j,none⟩=some (.int .i64 ((f i).getD j 0))/\w.frozen? ⟨q,j,none⟩=false:=by
 subst hn
 exact h.cell hi hv hj
set_option maxHeartbeats 4000000 in
theorem mark_any {w:World} {B pb n c a o m p:Nat} {v0 v1 v2 v3 v4 v5:Value} {f:Nat->List Int} (hP:Pt w B pb v0 v1 v2 v3 v4 v5 f) (hl:∀i,(f i).length<=4500)
  (h0:(f 1).length=(f 0).length) (h2:(f 2).length=(f 0).length) (hn:n<(f 0).length) (hc:(f 2).getD n 0=(c:Int)) (hc3:c<(f 3).length) (hc5:c<(f 5).length) (h3:(f 3).getD c 0=(a:Int)) (h5:(f 5).getD c 0=(m:Int)) (ham:a+m<(f 0).length) (ho:(f 0).getD (a+m) 0=(o:Int)) (hor:o<(f 0).length) (hp:(f 1).getD n 0=(p:Int)) (hpr:p<(f 0).length) :
  Calls Tryz.prog 136 #[.pointer (some ⟨pb,0,none⟩),.int .i64 n] w fun e w'=>e=.returned (.tuple #[])/\Pt w' B pb v0 v1 v2 v3 v4 v5 (upd (upd (upd f 0 (((f 0).set p (o:Int)).set (a+m) (n:Int))) 1 (((f 1).set o (p:Int)).set n ((a:Int)+(m:Int)))) 5 ((f 5).set c ((m:Int)+1)))/\Ch (blocks [v0,v1,v2,v3,v4,v5]) w w':=by
 obtain⟨q0,c0,rfl,_⟩:∃q c,v0=.slice (some ⟨q,0,none⟩) (f 0).length c/\v0.ownBlock=some q:=(own_form (hP.fm.own 0 (by simp))).resolve_left (fun h=>by omega)
 obtain⟨q1,c1,rfl,_⟩:∃q c,v1=.slice (some ⟨q,0,none⟩) (f 1).length c/\v1.ownBlock=some q:=(own_form (hP.fm.own 1 (by simp))).resolve_left (fun h=>by omega)
 obtain⟨q2,c2,rfl,_⟩:∃q c,v2=.slice (some ⟨q,0,none⟩) (f 2).length c/\v2.ownBlock=some q:=(own_form (hP.fm.own 2 (by simp))).resolve_left (fun h=>by omega)
 obtain⟨q3,c3,rfl,_⟩:∃q c,v3=.slice (some ⟨q,0,none⟩) (f 3).length c/\v3.ownBlock=some q:=(own_form (hP.fm.own 3 (by simp))).resolve_left (fun h=>by omega)
 obtain⟨q5,c5,rfl,_⟩:∃q c,v5=.slice (some ⟨q,0,none⟩) (f 5).length c/\v5.ownBlock=some q:=(own_form (hP.fm.own 5 (by simp))).resolve_left (fun h=>by omega)
 obtain⟨_,_,_,_,⟨a4,c4,rfl⟩,_⟩:=hP.sl
 obtain⟨⟨z0,z1,z2,z3,z4,z5⟩,_⟩:=blk6 hP.blk
 have k2:=hP.fm.cell (i:=2) (j:=n) (by simp) rfl (by omega)
 have k3:=hP.fm.cell (i:=3) (j:=c) (by simp) rfl hc3
 have k5:=hP.fm.cell (i:=5) (j:=c) (by simp) rfl hc5
 have k0:=hP.fm.cell (i:=0) (j:=a+m) (by simp) rfl ham
 have k1:=hP.fm.cell (i:=1) (j:=n) (by simp) rfl (by omega)
 rw[hc] at k2
 rw[h3] at k3
 rw[h5] at k5
 rw[ho] at k0
 rw[hp] at k1
 obtain⟨k2,_⟩:=k2
 obtain⟨k3,_⟩:=k3
 obtain⟨k5,k5f⟩:=k5
 obtain⟨k0,k0f⟩:=k0
 obtain⟨k1,k1f⟩:=k1
 have hl0:=hl 0
 have hn1:n<(f 1).length:=by omega
 have hn2:n<(f 2).length:=by omega
 have hor1:o<(f 1).length:=by omega
 have hwr:IntKind.i64.wrap ((a:Int)+(m:Int))=((a+m:Nat):Int):=by rw[IntKind.wrap_i64];omega
 have hh5:=hid h5
 have hl5:=hl 5
 clear hc h3 h5 ho hp hl h0 h2
 go_enter Tryz.func136,Tryz.ntmps136
 go_wp2
 go_quiet (fail)
 have x0:=hP.fm.cell (i:=0) (j:=p) (by simp) rfl hpr
 have x1:=hP.fm.cell (i:=1) (j:=o) (by simp) rfl hor1
 obtain⟨x0,x0f⟩:=x0
 obtain⟨x1,x1f⟩:=x1
 have hP0:=hP.drewN (nq+1)
 have n10:¬q1=q0:=fun e=>hP.fm.nd 1 0 q1 q0 (by simp) (by simp) (by omega) rfl rfl e
 have n01:¬q0=q1:=fun e=>n10 e.symm
 have np0:¬pb=q0:=fun e=>hP.fm.ty hP.blk (by decide) (mem_blocks (i:=0) (by simp) (by rw[e];rfl))
 have np1:¬pb=q1:=fun e=>hP.fm.ty hP.blk (by decide) (mem_blocks (i:=1) (by simp) (by rw[e];rfl))
 go_wp2
 have hP1:=((hP0.set0 (t:=p) rfl (o:Int)).set1 (t:=o) rfl (p:Int))
 have m0:q0∈blocks [.slice (some ⟨q0,0,none⟩) (f 0).length c0,.slice (some ⟨q1,0,none⟩) (f 1).length c1,.slice (some ⟨q2,0,none⟩) (f 2).length c2,.slice (some ⟨q3,0,none⟩) (f 3).length c3,.slice a4 (f 4).length c4,.slice (some ⟨q5,0,none⟩) (f 5).length c5]:=mem_blocks (i:=0) (by simp) rfl
 have m1:q1∈blocks [.slice (some ⟨q0,0,none⟩) (f 0).length c0,.slice (some ⟨q1,0,none⟩) (f 1).length c1,.slice (some ⟨q2,0,none⟩) (f 2).length c2,.slice (some ⟨q3,0,none⟩) (f 3).length c3,.slice a4 (f 4).length c4,.slice (some ⟨q5,0,none⟩) (f 5).length c5]:=mem_blocks (i:=1) (by simp) rfl
 have m5:q5∈blocks [.slice (some ⟨q0,0,none⟩) (f 0).length c0,.slice (some ⟨q1,0,none⟩) (f 1).length c1,.slice (some ⟨q2,0,none⟩) (f 2).length c2,.slice (some ⟨q3,0,none⟩) (f 3).length c3,.slice a4 (f 4).length c4,.slice (some ⟨q5,0,none⟩) (f 5).length c5]:=mem_blocks (i:=5) (by simp) rfl
 have hC1:Ch (blocks [.slice (some ⟨q0,0,none⟩) (f 0).length c0,.slice (some ⟨q1,0,none⟩) (f 1).length c1,.slice (some ⟨q2,0,none⟩) (f 2).length c2,.slice (some ⟨q3,0,none⟩) (f 3).length c3,.slice a4 (f 4).length c4,.slice (some ⟨q5,0,none⟩) (f 5).length c5]) w (((w.drewN (nq+1)).setCell ⟨q0,p,none⟩ (.int .i64 (o:Int))).setCell ⟨q1,o,none⟩ (.int .i64 (p:Int))):=((show Ch _ w (w.drewN (nq+1)) from ⟨rfl,rfl,rfl,Nat.le_refl _,fun _ _ _=>rfl⟩).put _ m0).put _ m1
 go_big_region
 generalize (((w.drewN (nq+1)).setCell ⟨q0,p,none⟩ (.int .i64 (o:Int))).setCell ⟨q1,o,none⟩ (.int .i64 (p:Int)))=w1 at hP1 hC1 ⊢
 have hCh:=hid hC1
 have hm0:=hid m0
 have hm1:=hid m1
 have hm5:=hid m5
 clear z0 z1 z2 z3 z4 z5 k0 k1 k2 k3 k5 k0f k1f k5f x0 x1 x0f x1f hP0 hP hC1 m0 m1 m5
 obtain⟨⟨z0,z1,z2,z3,z4,z5⟩,_⟩:=blk6 hP1.blk
 have y0:=hP1.fm.cellN (i:=0) (j:=a+m) (by simp) rfl (by show ((f 0).set p (o:Int)).length=_;simp) ham
 have y1:=hP1.fm.cellN (i:=1) (j:=n) (by simp) rfl (by show ((f 1).set o (p:Int)).length=_;simp) hn1
 obtain⟨y0,y0f⟩:=y0
 obtain⟨y1,y1f⟩:=y1
 have hP2:=hid ((hP1.set0 (t:=a+m) (by show ((f 0).set p (o:Int)).length=_;simp) (n:Int)).set1 (t:=n) (by show ((f 1).set o (p:Int)).length=_;simp) ((a:Int)+(m:Int)))
 have hC2:=hid ((hCh.out.put (i:=a+m) (.int .i64 (n:Int)) hm0.out).put (i:=n) (.int .i64 ((a:Int)+(m:Int))) hm1.out)
 generalize (upd (upd f 0 ((f 0).set p (o:Int))) 1 ((upd f 0 ((f 0).set p (o:Int)) 1).set o (p:Int)) 0).getD (a+m) 0=Y0 at y0
 generalize (upd (upd f 0 ((f 0).set p (o:Int))) 1 ((upd f 0 ((f 0).set p (o:Int)) 1).set o (p:Int)) 1).getD n 0=Y1 at y1
 go_wp2
 go_big_region
 have hP3:=hP2.out.drew
 have hC3:=hC2.out.drew
 generalize ((w1.setCell ⟨q0,a+m,none⟩ (.int .i64 (n:Int))).setCell ⟨q1,n,none⟩ (.int .i64 ((a:Int)+(m:Int)))).drew=w2 at hP3 hC3 ⊢
 have hCe:=hid (hC3.put (i:=c) (.int .i64 ((m:Int)+1)) hm5.out)
 have hPe:=hid (hP3.set5 (t:=c) rfl ((m:Int)+1))
 have y5:=hP3.fm.cellN (i:=5) (j:=c) (by simp) rfl rfl hc5
 have y5c:w2.cell? ⟨q5,c,none⟩=some (.int .i64 (m:Int)):=by
  rw[←hh5.out]
  exact y5.1
 have y5f:=y5.2
 clear z0 z1 z2 z3 z4 z5 y0 y1 y0f y1f y5 hP1 hP2 hC2 hCh
 obtain⟨⟨z0,z1,z2,z3,z4,z5⟩,_⟩:=blk6 hP3.blk
 have hm4:(m:Int)<=4500:=by omega
 clear hP3 hC3
 go_wp2
 go_end0
 refine⟨rfl,?_,hCe.out⟩
 have hf:∀F:Nat->List Int,(∀j,(upd (upd (upd f 0 (((f 0).set p (o:Int)).set (a+m) (n:Int))) 1 (((f 1).set o (p:Int)).set n ((a:Int)+(m:Int)))) 5 ((f 5).set c ((m:Int)+1))) j=F j)->upd (upd (upd f 0 (((f 0).set p (o:Int)).set (a+m) (n:Int))) 1 (((f 1).set o (p:Int)).set n ((a:Int)+(m:Int)))) 5 ((f 5).set c ((m:Int)+1))=F:=fun F h=>funext h
 rw[hf _ (fun j=>?_)]
 ·exact hPe.out
 ·skip
  by_cases e5:j=5
  ·subst e5
   rfl
  ·by_cases e1:j=1
   ·subst e1
    rfl
   ·by_cases e0:j=0
    ·subst e0
     rfl
    ·simp[upd,e5,e1,e0]
end Go.Proofs.YtbfbkmkjcekpaaaGreatDoor
