/- Nodes and graphs that lie in memory of their own: rows that are new, each in a block of its own. -/
import Derived.Test.YtpkojcfdkkjmcaaGreatDoorso05Z
import Derived.Test.YtpkojcfdkkjmcaaGreatDoorso04Z
namespace Go.Proofs.YtpkojcfdkkjmcaaGreatDoor
set_option maxRecDepth 100000
open Go.RowKit
theorem infoN:(Tryz.prog.info? 86).map (fun i=>(i.zero,i.size,i.bytes))=some (some (.agg #[.int .i64 0,.string ⟨#[]⟩,.int .i64 0,.slice none 0 0]),4,56):=by kernel_rfl
def ncells:List Nd->List Value->List Value
 | n::r,v::vs=>.int .i64 n.kind :: .string n.name :: .int .i64 n.num::v::ncells r vs
 | _,_=>[]
theorem ncells_snoc:∀(ns:List Nd) (vs:List Value) (n:Nd) (v:Value),vs.length=ns.length->ncells (ns++[n]) (vs++[v])=ncells ns vs++[.int .i64 n.kind,.string n.name,.int .i64 n.num,v]
 | [],[],_,_,_=>rfl
 | m::r,u::vs,n,v,h=>by
  have:=ncells_snoc r vs n v (by simpa using h)
  simp only[List.cons_append,ncells,this]
theorem ncells_at:∀(ns:List Nd) (vs:List Value) (j:Nat),vs.length=ns.length->j<ns.length->
  (ncells ns vs)[j*4]?=some (.int .i64 (ns.getD j nd0).kind)/\(ncells ns vs)[j*4+1]?=some (.string (ns.getD j nd0).name)/\(ncells ns vs)[j*4+2]?=some (.int .i64 (ns.getD j nd0).num)/\(ncells ns vs)[j*4+3]?=some (vs.getD j undef)
 | n::r,v::vs,0,_,_=>by simp[ncells]
 | n::r,v::vs,j+1,h,hj=>by
  have:=ncells_at r vs j (by simpa using h) (by simpa using hj)
  have e:∀i,(j+1)*4+i=(j*4+i)+1+1+1+1:=fun i=>by omega
  have e0:(j+1)*4=(j*4)+1+1+1+1:=by omega
  rw[e0]
  simp only[ncells,List.getElem?_cons_succ,Nat.add_right_comm _ 1]
  simpa using this
def blocks (vs:List Value):List Nat:=vs.filterMap Value.ownBlock
structure On (w:World) (B:Nat) (nv:Value) (avs:List Value) (ns:List Nd):Prop where
 n:w.ownsRow B 86 4 nv ns.length (ncells ns avs)
 len:avs.length=ns.length
 a:∀j,j<ns.length->∃ao c,avs.getD j undef=.slice ao (ns.getD j nd0).args.length c/\w.ownsRow B 3 1 (.slice ao (ns.getD j nd0).args.length c) (ns.getD j nd0).args.length ((ns.getD j nd0).args.map (Value.int .i64))
 nd:(blocks (nv::avs)).Nodup
theorem On.nil (w:World) (B:Nat):On w B (.slice none 0 0) [] []:=⟨World.ownsRow_nil _ _ _ _,rfl,fun _ h=>absurd h (Nat.not_lt_zero _),by
 have e:blocks [Value.slice none 0 0]=[]:=rfl
 rw[e]
 exact List.nodup_nil⟩
theorem On.lt {w:World} {B:Nat} {nv:Value} {avs:List Value} {ns:List Nd} (h:On w B nv avs ns):∀k∈blocks (nv::avs),B<=k/\k<w.heap.size:=fun k hk=>by
 obtain⟨v,hv,e⟩:=List.mem_filterMap.1 hk
 rcases List.mem_cons.1 hv with rfl | hv
 ·exact h.n.lt k e
 ·obtain⟨j,hj,rfl⟩:=List.getElem_of_mem hv
  obtain⟨ao,c,h1,h2⟩:=h.a j (by rw[←h.len];exact hj)
  have h3:avs[j]=.slice ao (ns.getD j nd0).args.length c:=by
   rw[←h1]
   simp[List.getD,hj]
  rw[h3] at e
  exact h2.lt k e
theorem On.keep {w w':World} {B:Nat} {nv:Value} {avs:List Value} {ns:List Nd} (h:On w B nv avs ns) (hb:∀k∈blocks (nv::avs),w'.heap[k]?=w.heap[k]?):On w' B nv avs ns:=by
 refine⟨own_block h.n (fun k e=>hb k (List.mem_filterMap.2 ⟨nv,by simp,e⟩)),h.len,fun j hj=>?_,h.nd⟩
 obtain⟨ao,c,h1,h2⟩:=h.a j hj
 refine⟨ao,c,h1,own_block h2 (fun k e=>hb k (List.mem_filterMap.2 ⟨avs.getD j undef,?_,by rw[h1];exact e⟩))⟩
 have hj':j<avs.length:=by rw[h.len];exact hj
 simp[List.getD,hj']
theorem On.below {w w':World} {B:Nat} {nv:Value} {avs:List Value} {ns:List Nd} (h:On w B nv avs ns) (hb:Below w.heap.size w w'):On w' B nv avs ns:=
 h.keep (fun k hk=>hb.block k (h.lt k hk).2)
theorem On.rn {w:World} {B:Nat} {ao:Option Addr} {c:Nat} {avs:List Value} {ns:List Nd} (h:On w B (.slice ao ns.length c) avs ns):Rn w (.slice ao ns.length c) ns:=by
 refine⟨ao,c,rfl,fun j hj=>?_⟩
 have h0:=h.n
 rcases h.n.2 with⟨_,hn⟩ | ⟨g,cap,cur,hv,_⟩
 ·omega
 ·have e:ao=some ⟨g,0,none⟩:=by injection hv
  subst e
  obtain⟨aa,ac,h1,h2⟩:=h.a j hj
  have hc:∀i u,(ncells ns avs)[i]?=some u->w.cell? ⟨g,i,none⟩=some u:=fun i u hu=>by
   have:=h0.cells (g:=g) (by rfl) i u hu
   rw[Addr.add_lit,Nat.zero_add] at this
   exact this
  obtain⟨e0,e1,e2,e3⟩:=ncells_at ns avs j h.len hj
  refine⟨g,0,avs.getD j undef,rfl,?_,?_,?_,?_,?_⟩
  ·rw[Nat.zero_add];exact hc _ _ e0
  ·rw[Nat.zero_add];exact hc _ _ e1
  ·rw[Nat.zero_add];exact hc _ _ e2
  ·rw[Nat.zero_add];exact hc _ _ e3
  ·rw[h1];exact Ri.ofOwn h2
theorem On.push {w w1 w2:World} {B:Nat} {nv:Value} {avs:List Value} {ns:List Nd} {n:Nd} {ao:Option Addr} {c g cap:Nat} (h:On w B nv avs ns) (hb:Below w.heap.size w w1)
  (ha:w1.ownsRow w.heap.size 3 1 (.slice ao n.args.length c) n.args.length (n.args.map (Value.int .i64))) (hB:B<=w.heap.size)
  (hg:w1.grownBy w2 nv.ownBlock) (hown:w2.ownsRow B 86 4 (.slice (some ⟨g,0,none⟩) (ns.length+1) cap) (ns.length+1) (ncells ns avs++[.int .i64 n.kind,.string n.name,.int .i64 n.num,.slice ao n.args.length c]))
  (hat:nv.ownBlock=some g∨w1.heap.size<=g):On w2 B (.slice (some ⟨g,0,none⟩) (ns.length+1) cap) (avs++[.slice ao n.args.length c]) (ns++[n]):=by
 have h1:=h.below hb
 have hnd:=h.nd
 have hlt:=h.lt
 have hnew:∀k,Value.ownBlock (.slice ao n.args.length c)=some k->w.heap.size<=k/\k<w1.heap.size:=fun k e=>ha.lt k e
 have hnv:∀k,nv.ownBlock=some k->k∉blocks avs:=fun k e hk=>by
  have:blocks (nv::avs)=k::blocks avs:=by simp[blocks,e]
  rw[this] at hnd
  exact (List.nodup_cons.1 hnd).1 hk
 have hkeep:∀k∈blocks avs,w2.heap[k]?=w1.heap[k]?:=fun k hk=>by
  have hk':k∈blocks (nv::avs):=by
   obtain⟨v,hv,e⟩:=List.mem_filterMap.1 hk
   exact List.mem_filterMap.2 ⟨v,by simp[hv],e⟩
  exact hg.block k (by have:=(hlt k hk').2;have:=hb.size;omega) (fun e=>hnv k e.symm hk)
 refine⟨?_,by simp[h.len],fun j hj=>?_,?_⟩
 ·rw[List.length_append,List.length_singleton,ncells_snoc ns avs n _ h.len]
  exact hown
 ·by_cases e:j<ns.length
  ·obtain⟨aa,ac,e1,e2⟩:=h1.a j e
   have ej:j<avs.length:=by rw[h.len];exact e
   have en:(ns++[n]).getD j nd0=ns.getD j nd0:=by simp[List.getD,List.getElem?_append_left e]
   have ev:(avs++[Value.slice ao n.args.length c]).getD j undef=avs.getD j undef:=by simp[List.getD,List.getElem?_append_left ej]
   rw[en,ev]
   refine⟨aa,ac,e1,own_block e2 (fun k ek=>hkeep k (List.mem_filterMap.2 ⟨avs.getD j undef,by simp[List.getD,ej],by rw[e1];exact ek⟩))⟩
  ·have e':j=ns.length:=by simp at hj;omega
   subst e'
   have en:(ns++[n]).getD ns.length nd0=n:=by simp[List.getD]
   have ev:(avs++[Value.slice ao n.args.length c]).getD ns.length undef=.slice ao n.args.length c:=by rw[←h.len];simp[List.getD]
   rw[en,ev]
   refine⟨ao,c,rfl,own_base (B:=w.heap.size) (own_block ha (fun k ek=>hg.block k (hnew k ek).2 (fun e2=>?_))) hB⟩
   have:=(h.n.lt k e2.symm).2
   have:=(hnew k ek).1
   omega
 ·have hgn:g∉blocks avs:=fun hk=>by
   rcases hat with e | e
   ·exact hnv g e hk
   ·have hk':g∈blocks (nv::avs):=by
     obtain⟨v,hv,e⟩:=List.mem_filterMap.1 hk
     exact List.mem_filterMap.2 ⟨v,by simp[hv],e⟩
    have:=(hlt g hk').2
    have:=hb.size
    omega
  have hnd':(blocks avs).Nodup:=by
   cases e:nv.ownBlock with
   | none=>simpa[blocks,e] using hnd
   | some k=>
    have:blocks (nv::avs)=k::blocks avs:=by simp[blocks,e]
    rw[this] at hnd
    exact (List.nodup_cons.1 hnd).2
  have hbl:blocks (.slice (some ⟨g,0,none⟩) (ns.length+1) cap::(avs++[.slice ao n.args.length c]))=g::(blocks avs++blocks [.slice ao n.args.length c]):=by simp[blocks,Value.ownBlock]
  rw[hbl]
  have hav:∀k∈blocks avs,k<w.heap.size:=fun k hk=>by
   obtain⟨v,hv,e⟩:=List.mem_filterMap.1 hk
   exact (hlt k (List.mem_filterMap.2 ⟨v,by simp[hv],e⟩)).2
  cases eb:Value.ownBlock (.slice ao n.args.length c) with
  | none=>
   have:blocks [.slice ao n.args.length c]=[]:=by simp[blocks,eb]
   rw[this,List.append_nil]
   exact List.nodup_cons.2 ⟨hgn,hnd'⟩
  | some k=>
   have:blocks [.slice ao n.args.length c]=[k]:=by simp[blocks,eb]
   rw[this]
   have hk:=hnew k eb
   refine List.nodup_cons.2 ⟨fun hx=>?_,List.nodup_append.2 ⟨hnd',by simp,fun a ha b hb' e=>?_⟩⟩
   ·rcases List.mem_append.1 hx with hx | hx
    ·exact hgn hx
    ·simp at hx
     subst hx
     rcases hat with e | e
     ·have:=(h.n.lt g e).2
      omega
     ·omega
   ·simp at hb'
    subst hb' e
    have:=hav a ha
    omega
end Go.Proofs.YtpkojcfdkkjmcaaGreatDoor
namespace Go.Proofs.YtpkojcfdkkjmcaaGreatDoor
set_option maxRecDepth 100000
open Go.RowKit
theorem copied_box {w1 w2:World} {q:Nat} {k n a:Value} {name:ByteArray} {T:TypeId} (h:w1.heap[q]?=some (.cells #[k,.string name,n,a] T)) (hb:Below (w1.setCell ⟨q,1,none⟩ (.string name)).heap.size (w1.setCell ⟨q,1,none⟩ (.string name)) w2) :
  w2.heap[q]?=some (.cells #[k,.string name,n,a] T):=by
 have h1:=heap_setCell_same w1 q 1 _ _ (.string name) h
 rw[hb.block q (lt_of_block h1),h1]
 rfl
theorem copied_out {w1 w2:World} {q:Nat} {name:ByteArray} {o:Obj} (h:w1.heap[q+1]?=some o) (hq:q+1<w1.heap.size) (hb:Below (w1.setCell ⟨q,1,none⟩ (.string name)).heap.size (w1.setCell ⟨q,1,none⟩ (.string name)) w2) :
  w2.heap[q+1]?=some o:=by
 rw[hb.block (q+1) (by simpa using hq),Below.heap_setCell _ _ _ _ (by simp)]
 exact h
set_option maxHeartbeats 4000000 in
theorem copied_any {W:World} (f:Nat) (cb:Array Value) (eg:∀args w,(callFunc f args).run Tryz.prog w=.ok (.enter f args) w) (F:Int->Int) {av:Value} {n:Nd} (hv:Ri W av n.args) (hl:n.args.length<=5000) (hz:n.name.size<=281474976710656)
  (hs:∀x∈n.args,∀w,Below W.heap.size W w->Calls Tryz.prog f (#[.int .i64 x]++cb) w fun e w'=>e=.returned (.int .i64 (F x))/\Below w.heap.size w w') :
  Calls Tryz.prog 150 #[.agg #[.int .i64 n.kind,.string n.name,.int .i64 n.num,av],.func (.func f) #[] cb] W fun e w'=>(∃ao c,e=.returned (.agg #[.int .i64 n.kind,.string n.name,.int .i64 n.num,.slice ao n.args.length c])/\w'.ownsRow W.heap.size 3 1 (.slice ao n.args.length c) n.args.length ((n.args.map F).map (Value.int .i64)))/\Below W.heap.size W w':=by
 obtain⟨kind,name,num,args⟩:=n
 dsimp only at hv hl hz hs ⊢
 have hb2:Below W.heap.size W ((W.alloc (.cells #[.int .i64 kind,.string name,.int .i64 num,av] 86)).alloc (.cells #[.int .i64 0,.string ⟨#[]⟩,.int .i64 0,.slice none 0 0] 86)):=(below_alloc W _).alloc (by simp) _
 have hB1:∀w1:World,Below ((W.alloc (.cells #[.int .i64 kind,.string name,.int .i64 num,av] 86)).alloc (.cells #[.int .i64 0,.string ⟨#[]⟩,.int .i64 0,.slice none 0 0] 86)).heap.size ((W.alloc (.cells #[.int .i64 kind,.string name,.int .i64 num,av] 86)).alloc (.cells #[.int .i64 0,.string ⟨#[]⟩,.int .i64 0,.slice none 0 0] 86)) w1->
   w1.heap[W.heap.size]?=some (.cells #[.int .i64 kind,.string name,.int .i64 num,av] 86)/\w1.heap[W.heap.size+1]?=some (.cells #[.int .i64 0,.string ⟨#[]⟩,.int .i64 0,.slice none 0 0] 86)/\W.heap.size+1<w1.heap.size:=fun w1 hb=>by
  refine⟨?_,?_,?_⟩
  ·rw[hb.block _ (by simp <;> omega),Below.heap_alloc _ _ _ (by simp)]
   exact heap_alloc_new W _
  ·rw[hb.block _ (by simp)]
   simpa using heap_alloc_new (W.alloc (.cells #[.int .i64 kind,.string name,.int .i64 num,av] 86)) (.cells #[.int .i64 0,.string ⟨#[]⟩,.int .i64 0,.slice none 0 0] 86)
  ·have:=hb.size
   simp at this
   omega
 obtain⟨aa,an,ac,hav⟩:∃aa an ac,av=.slice aa an ac:=by
  obtain⟨aa,ac,rfl,_⟩:=hv
  exact⟨_,_,_,rfl⟩
 have hnum:∀w1:World,Below W.heap.size W w1->_:=fun w1 hb=>numbered_any (W:=w1) f cb eg F (hv.below hb) hl (fun x hx w h=>hs x hx w (Below.next hb h))
 subst hav
 clear hs hv
 go_enter Tryz.func150,Tryz.ntmps150
 go_wp2_with (first
  | (go_at_call 90;refine (clone_any _ _ hz).mono ?_;rintro e w1 ⟨rfl,hb1⟩;obtain⟨h0,h1,h2⟩:=hB1 w1 hb1;obtain⟨⟨p0,p1,p2,p3⟩,q0,q1,q2,q3⟩:=blk4 h0;have hbw:=(Below.next hb2 hb1).setCell (p:=⟨W.heap.size,1,none⟩) (Nat.le_refl _) (.string name))
  | (go_at_call 151;refine (hnum _ hbw).mono ?_;rintro e w2 ⟨⟨ao,c,rfl,hown⟩,hb3⟩;have k0:=copied_box h0 hb3;have k1:=copied_out h1 h2 hb3;obtain⟨⟨p0,p1,p2,p3⟩,q0,q1,q2,q3⟩:=blk4 k0;obtain⟨⟨r0,r1,r2,r3⟩,s0,s1,s2,s3⟩:=blk4 k1))
 have hsz:W.heap.size+1<(w1.setCell ⟨W.heap.size,1,none⟩ (.string name)).heap.size:=by simpa using h2
 have hbB:=Below.next hbw hb3
 have hgt:∀k,Value.ownBlock (.slice ao args.length c)=some k->W.heap.size+1<k:=fun k e=>by
  have:=(hown.lt k e).1
  omega
 have hk1':(w2.setCell ⟨W.heap.size,3,none⟩ (.slice ao args.length c)).heap[W.heap.size+1]?=some (.cells #[.int .i64 0,.string ⟨#[]⟩,.int .i64 0,.slice none 0 0] 86):=by
  rw[Below.heap_setCell _ _ _ _ (by simp)]
  exact k1
 refine bodyPost_ret (ret_nd Tryz.results150 (by rfl) (box_set0 hk1')) rfl ⟨⟨ao,c,rfl,?_⟩,?_⟩
 ·have h3:=own_base (B':=W.heap.size) hown (by omega)
  refine own_block h3 (fun k e=>?_)
  have:=hgt k e
  rw[Below.heap_setCell _ _ _ _ (by show k≠W.heap.size+1;omega),Below.heap_setCell _ _ _ _ (by show k≠W.heap.size+1;omega),Below.heap_setCell _ _ _ _ (by show k≠W.heap.size+1;omega),Below.heap_setCell _ _ _ _ (by show k≠W.heap.size+1;omega),Below.heap_setCell _ _ _ _ (by show k≠W.heap.size;omega)]
 ·exact set4_below (hbB.setCell (Nat.le_refl _) _) (by omega)
end Go.Proofs.YtpkojcfdkkjmcaaGreatDoor
namespace Go.Proofs.YtpkojcfdkkjmcaaGreatDoor
set_option maxRecDepth 100000
open Go.RowKit
def pos:List Int->Int->Nat
 | [],_=>0
 | y::r,x=>if y=x then 0 else pos r x+1
def posF (m:List Int) (x:Int):Int:=if x∈m then (pos m x:Int) else 0
theorem pos_lt:∀{m:List Int} {x:Int},x∈m->pos m x<m.length
 | y::r,x,h=>by
  by_cases e:y=x
  ·simp[pos,e]
  ·have h':x∈r:=by
    rcases List.mem_cons.1 h with rfl | h
    ·exact absurd rfl e
    ·exact h
   have:=pos_lt h'
   simp only[pos,if_neg e,List.length_cons]
   omega
theorem pos_at:∀{m:List Int} {x:Int},x∈m->m.getD (pos m x) 0=x
 | y::r,x,h=>by
  by_cases e:y=x
  ·simp[pos,e]
  ·have h':x∈r:=by
    rcases List.mem_cons.1 h with rfl | h
    ·exact absurd rfl e
    ·exact h
   have:=pos_at h'
   simp only[pos,if_neg e]
   simpa using this
theorem pos_old:∀{m:List Int} {n x:Int},x∈m->pos (m++[n]) x=pos m x
 | y::r,n,x,h=>by
  by_cases e:y=x
  ·simp[pos,e]
  ·have h':x∈r:=by
    rcases List.mem_cons.1 h with rfl | h
    ·exact absurd rfl e
    ·exact h
   have:=pos_old (n:=n) h'
   simp only[List.cons_append,pos,if_neg e,this]
theorem pos_new:∀{m:List Int} {n:Int},n∉m->pos (m++[n]) n=m.length
 | [],n,_=>by simp[pos]
 | y::r,n,h=>by
  have h1:¬y=n:=fun e=>h (by simp[e])
  have h2:n∉r:=fun e=>h (by simp[e])
  have:=pos_new h2
  simp only[List.cons_append,pos,if_neg h1,this,List.length_cons]
theorem posF_snoc {m:List Int} {n x:Int} (hn:n∉m):posF (m++[n]) x=if x=n then (m.length:Int) else posF m x:=by
 unfold posF
 by_cases e:x=n
 ·subst e
  simp[pos_new hn]
 ·by_cases hx:x∈m
  ·simp[hx,e,pos_old hx]
  ·simp[hx,e]
def anewArr (N:Nat) (m:List Int):Array Value:=((List.range N).map fun (i:Nat)=>Value.int .i64 (posF m (i:Int))).toArray
theorem anew_size (N:Nat) (m:List Int):(anewArr N m).size=N:=by simp[anewArr]
theorem anew_at {N:Nat} {m:List Int} {i:Nat} (h:i<N):(anewArr N m)[i]?=some (.int .i64 (posF m (i:Int))):=by simp[anewArr,h]
theorem anew_set {N:Nat} {m:List Int} {n:Nat} (hn:(n:Int)∉m):(anewArr N m).setIfInBounds n (.int .i64 (m.length:Int))=anewArr N (m++[(n:Int)]):=by
 apply Array.ext
 ·simp[anew_size]
 ·intro i h1 h2
  have hi:i<N:=by simpa[anew_size] using h2
  have e1:(anewArr N (m++[(n:Int)]))[i]=.int .i64 (posF (m++[(n:Int)]) (i:Int)):=by
   have:=anew_at (N:=N) (m:=m++[(n:Int)]) hi
   rw[Array.getElem?_eq_getElem (by simpa[anew_size] using hi)] at this
   exact Option.some.inj this
  have e2:(anewArr N m)[i]'(by simpa[anew_size] using hi)=.int .i64 (posF m (i:Int)):=by
   have:=anew_at (N:=N) (m:=m) hi
   rw[Array.getElem?_eq_getElem (by simpa[anew_size] using hi)] at this
   exact Option.some.inj this
  rw[e1,Array.getElem_setIfInBounds (by simpa[anew_size] using hi),posF_snoc hn]
  split
  ·rename_i e
   subst e
   simp
  ·rename_i e
   rw[e2,if_neg (by omega)]
theorem made_anew (N:Nat):madeCells #[.int .i64 0] N=anewArr N []:=by
 apply Array.ext
 ·simp[size_madeCells,anew_size]
 ·intro i h1 h2
  simp[madeCells,anewArr,Nat.mod_one,posF]
theorem make_ints (N:Nat) (hN:N<=5000) (w:World) :
  (Instr.makeSlice 36 (.int .i64 (N:Int)) (.int .i64 (N:Int))).run Tryz.prog w=.ok (.slice (some ⟨w.heap.size,0,none⟩) N N) (w.alloc (.cells (anewArr N []) 3)):=by
 obtain⟨i0,hi,hz0,hz1,hz2⟩:=info_parts infoI
 have:=run_make (P:=Tryz.prog) w 36 3 i0 (.int .i64 0) Tryz.underlying36 hi hz0 .i64 .i64 (N:Int) (N:Int) (by omega) (by omega) (by rw[hz2];omega) (by omega)
 rw[this,hz1]
 simp only[Int.toNat_natCast,Nat.mul_one]
 rw[←made_anew]
 rfl
def renum (F:Int->Int) (n:Nd):Nd:=⟨n.kind,n.name,n.num,n.args.map F⟩
def trimF (g:Gf):Gf:=⟨(metF g).map (fun x=>renum (posF (metF g)) (g.nodes.getD x.toNat nd0)),g.roots.map (posF (metF g))⟩
theorem number_eg:∀args w,(callFunc 149 args).run Tryz.prog w=.ok (.enter 149 args) w:=enters_of Tryz.func149 (by kernel_rfl) rfl
set_option maxHeartbeats 400000 in
theorem number_any {w:World} {N q r:Nat} {m:List Int} (hc:w.cell? ⟨q,0,none⟩=some (.slice (some ⟨r,0,none⟩) N N)) (hr:w.heap[r]?=some (.cells (anewArr N m) 3 (0,0))) {x:Int} (h0:0<=x) (h1:x<N) :
  Calls Tryz.prog 149 #[.int .i64 x,.pointer (some ⟨q,0,none⟩)] w fun e w'=>e=.returned (.int .i64 (posF m x))/\w'=w:=by
 obtain⟨n,rfl⟩:∃n:Nat,x=(n:Int):=⟨x.toNat,by omega⟩
 have hn:n<N:=by omega
 have s1:w.cell? ⟨r,n,none⟩=some (.int .i64 (posF m (n:Int))):=by
  rw[cell_of_row w r n _ _ _ hr]
  exact anew_at hn
 generalize posF m (n:Int)=y at s1 ⊢
 go_enter Tryz.func149,Tryz.ntmps149
 go_wp2
 go_ret
 exact⟨rfl,rfl⟩
end Go.Proofs.YtpkojcfdkkjmcaaGreatDoor
namespace Go.Proofs.YtpkojcfdkkjmcaaGreatDoor
set_option maxRecDepth 100000
open Go.RowKit
structure Og (w:World) (B:Nat) (nv rv:Value) (avs:List Value) (g:Gf):Prop where
 on:On w B nv avs g.nodes
 nsl:∃ao c,nv=.slice ao g.nodes.length c
 r:∃ao c,rv=.slice ao g.roots.length c/\w.ownsRow B 3 1 (.slice ao g.roots.length c) g.roots.length (g.roots.map (Value.int .i64))
 ap:∀k,rv.ownBlock=some k->k∉blocks (nv::avs)
theorem Og.gr {w:World} {B:Nat} {nv rv:Value} {avs:List Value} {g:Gf} (h:Og w B nv rv avs g):Gr w nv rv g:=by
 obtain⟨ao,c,rfl⟩:=h.nsl
 obtain⟨ra,rc,rfl,hr⟩:=h.r
 exact⟨h.on.rn,Ri.ofOwn hr⟩
theorem blk2_set0 {w:World} {q:Nat} {u0 u1 v0:Value} {T:TypeId} (h:w.heap[q]?=some (.cells #[u0,u1] T)):(w.setCell ⟨q,0,none⟩ v0).heap[q]?=some (.cells #[v0,u1] T):=heap_setCell_same w q 0 _ _ v0 h
theorem blk2_set1 {w:World} {q:Nat} {u0 u1 v1:Value} {T:TypeId} (h:w.heap[q]?=some (.cells #[u0,u1] T)):(w.setCell ⟨q,1,none⟩ v1).heap[q]?=some (.cells #[u0,v1] T):=heap_setCell_same w q 1 _ _ v1 h
theorem blk2_set {w:World} {q:Nat} {u0 u1 v0 v1:Value} {T:TypeId} (h:w.heap[q]?=some (.cells #[u0,u1] T)):((w.setCell ⟨q,0,none⟩ v0).setCell ⟨q,1,none⟩ v1).heap[q]?=some (.cells #[v0,v1] T):=blk2_set1 (blk2_set0 h)
theorem blk2 {w:World} {q:Nat} {u0 u1:Value} {T:TypeId} (h:w.heap[q]?=some (.cells #[u0,u1] T)):(w.cell? ⟨q,0,none⟩=some u0/\w.cell? ⟨q,1,none⟩=some u1)/\w.frozen? ⟨q,0,none⟩=false/\w.frozen? ⟨q,1,none⟩=false:=by
 refine⟨⟨?_,?_⟩,?_,?_⟩ <;> simp[World.cell?,World.frozen?,h]
theorem ret_gr {w:World} {fn:Func} {s t:Tmp} (hfn:fn.results=#[.cell t 38,.tmp s]) {tmps:Array Value} {q:Nat} {u0 u1 x:Value} (h4:tmps[t]?.getD undef=.pointer (some ⟨q,0,none⟩)) (hs:tmps[s]?.getD undef=x) (hq:w.heap[q]?=some (.cells #[u0,u1] 38)):(results fn tmps).run Tryz.prog w=.ok (.tuple #[.agg #[u0,u1],x]) w:=by
 obtain⟨⟨z0,z1⟩,_⟩:=blk2 hq
 simp[results,hfn,go_sem,h4,hs,z0,z1]
end Go.Proofs.YtpkojcfdkkjmcaaGreatDoor
namespace Go.Proofs.YtpkojcfdkkjmcaaGreatDoor
set_option maxRecDepth 100000
open Go.RowKit
structure T1 (w1 w:World) (N:Nat) (m:List Int):Prop where
 b:Below w1.heap.size w1 w
 row:w.heap[w1.heap.size]?=some (.cells (anewArr N m) 3 (0,0))
 var:w.heap[w1.heap.size+1]?=some (.cells #[.slice (some ⟨w1.heap.size,0,none⟩) N N] 36 (0,0))
theorem T1.start (w1:World) (N:Nat):T1 w1 ((w1.alloc (.cells (anewArr N []) 3)).alloc (.cells #[.slice (some ⟨w1.heap.size,0,none⟩) N N] 36)) N []:=by
 refine⟨(below_alloc w1 _).alloc (by simp) _,?_,?_⟩
 ·rw[Below.heap_alloc _ _ _ (by simp)]
  exact heap_alloc_new w1 _
 ·simpa using heap_alloc_new (w1.alloc (.cells (anewArr N []) 3)) (.cells #[.slice (some ⟨w1.heap.size,0,none⟩) N N] 36)
theorem T1.step {w1 w:World} {N:Nat} {m:List Int} {n:Nat} (h:T1 w1 w N m) (hn:(n:Int)∉m):T1 w1 (w.setCell ⟨w1.heap.size,n,none⟩ (.int .i64 (m.length:Int))) N (m++[(n:Int)]):=by
 refine⟨h.b.setCell (Nat.le_refl _) _,?_,?_⟩
 ·rw[heap_setCell_same w _ n _ _ _ h.row,anew_set hn]
 ·rw[Below.heap_setCell _ _ _ _ (by simp)]
  exact h.var
theorem nodup_take_snoc {met:List Int} {k:Nat} (h:met.Nodup) (hk:k<met.length):met.getD k 0∉met.take k:=by
 intro hx
 have h1:=h
 rw[←List.take_append_drop k met,List.nodup_append] at h1
 refine h1.2.2 _ hx (met.getD k 0) ?_ rfl
 rw[drop_step hk]
 simp
theorem good_name {N:Nat} {n:Nd} (h:goodNd N n=true):n.name.size<=32:=by
 have hs:∀s:ByteArray,s.toList=[]->s.size<=32:=fun s h=>by
  rw[ByteArray.toList_eq] at h
  have:s.data.size=0:=by rw[←Array.length_toList,h];rfl
  show s.data.size<=32
  omega
 unfold goodNd at h
 split at h
 ·simp at h
  exact hs _ h.1.1
 ·split at h
  ·simp at h
   exact (goodS_size h.1.1).2
  ·split at h
   ·simp at h
    exact hs _ h.1.1.1
   ·split at h
    ·simp only[Bool.and_eq_true] at h
     exact (goodS_size h.1.1.1.1).2
    ·simp at h
structure T2 (w3 w:World) (ns:List Nd) (ao:Option Addr) (c:Nat) (avs:List Value):Prop where
 b:Below w3.heap.size w3 w
 out:w.heap[w3.heap.size]?=some (.cells #[.slice ao ns.length c,.slice none 0 0] 38 (0,0))
 on:On w (w3.heap.size+1) (.slice ao ns.length c) avs ns
theorem cell1 {w:World} {b o:Nat} {v:Value} (h:w.cell? ⟨b,o,none⟩=some v) (x:Obj):(w.alloc x).cell? ⟨b,o,none⟩=some v:=((below_alloc w x).cell (p:=⟨b,o,none⟩) (lt_of_cell h)).trans h
theorem drew_below (w:World):Below w.heap.size w w.drew:=⟨rfl,rfl,rfl,Nat.le_refl _,fun _ _=>rfl⟩
theorem undr1 {w w':World} (h:Below w.drew.heap.size w.drew w'):Below w.heap.size w w':=⟨h.os,h.tape,h.output,h.size,h.block⟩
theorem trim_step {w3 wr w4 w5:World} {NS:List Nd} {n:Nd} {F:Int->Int} {ao aa:Option Addr} {c ac j g cap:Nat} {avs:List Value} (hT:T2 w3 wr NS ao c avs) (hL:NS.length=j) (hb:Below wr.heap.size wr w4)
  (ha:w4.ownsRow wr.heap.size 3 1 (.slice aa n.args.length ac) n.args.length ((n.args.map F).map (Value.int .i64))) (o:Obj)
  (hg:(w4.alloc o).grownBy w5 (Value.ownBlock (.slice ao j c))) (hown:w5.ownsRow (w3.heap.size+1) 86 4 (.slice (some ⟨g,0,none⟩) (j+1) cap) (j+1) (ncells NS avs++[.int .i64 n.kind,.string n.name,.int .i64 n.num,.slice aa n.args.length ac]))
  (hat:Value.ownBlock (.slice ao j c)=some g∨g=w4.heap.size+1) :
  T2 w3 (w5.setCell ⟨w3.heap.size,0,none⟩ (.slice (some ⟨g,0,none⟩) (j+1) cap)) (NS++[renum F n]) (some ⟨g,0,none⟩) cap (avs++[.slice aa n.args.length ac]):=by
 subst hL
 have hl:(renum F n).args.length=n.args.length:=by simp[renum]
 have hz:=lt_of_block hT.out
 have hz4:=hb.size
 have hnv:∀k,Value.ownBlock (.slice ao NS.length c)=some k->w3.heap.size+1<=k:=fun k e=>(hT.on.n.lt k e).1
 have hP:On w5 (w3.heap.size+1) (.slice (some ⟨g,0,none⟩) (NS.length+1) cap) (avs++[.slice aa n.args.length ac]) (NS++[renum F n]):=by
  have hP:=On.push (n:=renum F n) (ao:=aa) (c:=ac) (g:=g) (cap:=cap) hT.on (hb.alloc hz4 o) (by rw[hl];exact ha.alloc o) (by omega) hg (by rw[hl];exact hown) (by
   rcases hat with e | e
   ·exact Or.inl e
   ·exact Or.inr (by simp;omega))
  rw[hl] at hP
  exact hP
 have hgb:w3.heap.size<g:=by
  rcases hat with e | e
  ·have:=hnv g e
   omega
  ·omega
 have h5:w5.heap[w3.heap.size]?=some (.cells #[.slice ao NS.length c,.slice none 0 0] 38):=by
  rw[hg.block _ (by simp;omega) (fun e=>by have:=hnv _ e.symm;omega),Below.heap_alloc _ _ _ (by omega),hb.block _ hz]
  exact hT.out
 refine⟨?_,?_,?_⟩
 ·have h1:Below w3.heap.size w3 (w4.alloc o):=(Below.next hT.b hb).alloc (by have:=hT.b.size;omega) o
  exact (h1.grown hg (by simp;omega) (fun k e=>by have:=hnv k e;omega)).setCell (Nat.le_refl _) _
 ·rw[blk2_set0 h5]
  simp
 ·rw[List.length_append,List.length_singleton]
  exact hP.keep (fun k hk=>Below.heap_setCell _ _ _ _ (by have:=(hP.lt k hk).1;show k≠w3.heap.size;omega))
theorem trim_end {W w3 wr w5:World} {NS:List Nd} {R:List Int} {ao ro:Option Addr} {c rcc nl rl:Nat} {avs:List Value} (hT:T2 w3 wr NS ao c avs) (hb:Below wr.heap.size wr w5)
  (hro:w5.ownsRow wr.heap.size 3 1 (.slice ro rl rcc) rl (R.map (Value.int .i64))) (hrl:R.length=rl) (hnl:NS.length=nl) (hz:W.heap.size+1<w3.heap.size) :
  Og (((w5.setCell ⟨w3.heap.size,1,none⟩ (.slice ro rl rcc)).setCell ⟨W.heap.size+1,0,none⟩ (.slice ao nl c)).setCell ⟨W.heap.size+1,1,none⟩ (.slice ro rl rcc)) W.heap.size (.slice ao nl c) (.slice ro rl rcc) avs ⟨NS,R⟩:=by
 subst hnl hrl
 have hon:=hT.on.below hb
 have hlt:=hT.on.lt
 have hkeep:∀k,w3.heap.size<k->(((w5.setCell ⟨w3.heap.size,1,none⟩ (.slice ro R.length rcc)).setCell ⟨W.heap.size+1,0,none⟩ (.slice ao NS.length c)).setCell ⟨W.heap.size+1,1,none⟩ (.slice ro R.length rcc)).heap[k]?=w5.heap[k]?:=fun k hk=>by
  rw[Below.heap_setCell _ _ _ _ (by show k≠W.heap.size+1;omega),Below.heap_setCell _ _ _ _ (by show k≠W.heap.size+1;omega),Below.heap_setCell _ _ _ _ (by show k≠w3.heap.size;omega)]
 have h1:=hon.keep (fun k hk=>hkeep k (by have:=(hlt k hk).1;omega))
 have hsz:=lt_of_block hT.out
 refine⟨⟨own_base h1.n (by omega),h1.len,fun j hj=>?_,h1.nd⟩,⟨ao,c,rfl⟩,⟨ro,rcc,rfl,own_base (own_block hro (fun k e=>hkeep k (by have:=(hro.lt k e).1;omega))) (by omega)⟩,fun k e hk=>?_⟩
 ·obtain⟨aa,ac,e1,e2⟩:=h1.a j hj
  exact⟨aa,ac,e1,own_base e2 (by omega)⟩
 ·have:=(hro.lt k e).1
  have:=(hlt k hk).2
  omega
set_option maxHeartbeats 4000000 in
theorem trim_good {W:World} {nv rv:Value} {g:Gf} (hG:Gr W nv rv g) (hS:Sized g) (hb:one (chk g)=[]) :
  Calls Tryz.prog 109 #[.agg #[nv,rv]] W fun e w'=>(∃nv' rv' avs,e=.returned (.tuple #[.agg #[nv',rv'],.nilIface])/\Og w' W.heap.size nv' rv' avs (trimF g))/\Below W.heap.size W w':=by
 have hb2:Below W.heap.size W ((W.alloc (.cells #[nv,rv] 38)).alloc (.cells #[.slice none 0 0,.slice none 0 0] 38)):=(below_alloc W _).alloc (by simp) _
 have hrc:=reach_good (hG.below hb2) hS hb
 have hg:=chk_good hb
 have hmet:=met_ok hg
 have hml:=hmet.le
 have hgn:=hg.nodes
 have hmk:=make_ints g.nodes.length (by omega)
 have hmf:∀(fn:Fn) (first cap:Array Value) (w:World),(Instr.makeFunc fn first cap).run Tryz.prog w=.ok (.func fn first cap) w:=fun _ _ _ _=>rfl
 obtain⟨na,nc,rfl,hNc⟩:=hG.1
 obtain⟨ra,rc,rfl,_⟩:=hG.2
 have hC:∀w1:World,Below ((W.alloc (.cells #[.slice na g.nodes.length nc,.slice ra g.roots.length rc] 38)).alloc (.cells #[.slice none 0 0,.slice none 0 0] 38)).heap.size ((W.alloc (.cells #[.slice na g.nodes.length nc,.slice ra g.roots.length rc] 38)).alloc (.cells #[.slice none 0 0,.slice none 0 0] 38)) w1->
   w1.heap[W.heap.size+1]?=some (.cells #[.slice none 0 0,.slice none 0 0] 38)/\w1.heap[W.heap.size]?=some (.cells #[.slice na g.nodes.length nc,.slice ra g.roots.length rc] 38)/\W.heap.size+1<w1.heap.size:=fun w1 hb=>by
  refine⟨?_,?_,?_⟩
  ·rw[hb.block _ (by simp)]
   simpa using heap_alloc_new (W.alloc (.cells #[.slice na g.nodes.length nc,.slice ra g.roots.length rc] 38)) (.cells #[.slice none 0 0,.slice none 0 0] 38)
  ·rw[hb.block _ (by simp <;> omega),Below.heap_alloc _ _ _ (by simp)]
   exact heap_alloc_new W _
  ·have:=hb.size
   simp at this
   omega
 go_enter Tryz.func109,Tryz.ntmps109
 go_wp2_with (go_at_call 43;refine hrc.mono ?_;rintro e w1 ⟨⟨mo,mc,rfl,hmo⟩,hb1⟩;obtain⟨k1,k0,k2⟩:=hC w1 hb1;obtain⟨⟨c0,c1⟩,_⟩:=blk2 k0)
 have hRi:=Ri.ofOwn hmo
 have hbw:=Below.next hb2 hb1
 generalize hmd:metF g=met at *
 have hT0:=hid (T1.start w1 g.nodes.length)
 clear hrc hC hmk hb2 hb1 c0 c1
 go_loopw [28] (fun i wr=>∃k:Nat,k<=met.length/\i=.int .i64 k/\Hid (T1 w1 wr g.nodes.length (met.take k))) (fun i _=>met.length-(intOf i).toNat)
 case atStart=>exact⟨0,Nat.zero_le _,rfl,by simpa[Hid] using hT0⟩
 case round=>
  clear hT0
  obtain⟨k,hk,rfl,hT⟩:=hrel
  by_cases hlt:k<met.length
  ·have hx:=hmet.rng _ (getD_mem hlt)
   have hnd:=nodup_take_snoc hmet.nodup hlt
   have hts:=take_snoc hlt
   obtain⟨n,hn⟩:∃n:Nat,met.getD k 0=(n:Int):=⟨(met.getD k 0).toNat,by omega⟩
   rw[hn] at hx hnd hts
   obtain⟨lb,lo,hlc⟩:∃lb lo,mo=some ⟨lb,lo,none⟩/\wr.cell? ⟨lb,lo+k,none⟩=some (.int .i64 (n:Int)):=by
    obtain⟨ao',c',h1,h2⟩:=hRi.below hT.out.b
    obtain⟨lb,lo,h3,h4⟩:=h2 k hlt
    injection h1 with h1 _ _
    exact⟨lb,lo,h1.trans h3,by rw[h4,hn]⟩
   obtain⟨rfl,hlc⟩:=hlc
   have v0:=cell_of_one hT.out.var
   have hnN:n<g.nodes.length:=by omega
   have s1:wr.cell? ⟨w1.heap.size,n,none⟩=some (.int .i64 (posF (met.take k) (n:Int))):=by
    rw[cell_of_row wr _ n _ _ _ hT.out.row]
    exact anew_at hnN
   have z1:wr.frozen? ⟨w1.heap.size,n,none⟩=false:=by simp[World.frozen?,hT.out.row]
   have hT':=T1.step hT.out hnd
   have hlk:(met.take k).length=k:=by simp;omega
   rw[hlk,←hts] at hT'
   have hT'':=hid hT'
   clear hT' hT hn hts hnd hlk
   go_wp2
   go_roundw
   case rel=>exact⟨k+1,by omega,congrArg (Value.int .i64) (by omega),hT''⟩
   case measure=>simp[intOf];omega
  ·have hTl:Hid (T1 w1 wr g.nodes.length met):=by
    have:=hT.out
    rw[List.take_of_length_le (by omega)] at this
    exact this
   clear hT
   obtain⟨w3,hw3⟩:∃w3,w3=wr:=⟨wr,rfl⟩
   subst hw3
   have hbW3:=Below.next hbw hTl.out.b
   have k0':w3.heap[W.heap.size]?=some (.cells #[.slice na g.nodes.length nc,.slice ra g.roots.length rc] 38):=by rw[hTl.out.b.block _ (by omega)];exact k0
   have k1':w3.heap[W.heap.size+1]?=some (.cells #[.slice none 0 0,.slice none 0 0] 38):=by rw[hTl.out.b.block _ k2];exact k1
   have hz3:w1.heap.size+1<w3.heap.size:=lt_of_block hTl.out.var
   have hnumb:∀(w:World),Below w3.heap.size w3 w->∀x:Int,0<=x->x<(g.nodes.length:Int)->Calls Tryz.prog 149 #[.int .i64 x,.pointer (some ⟨w1.heap.size+1,0,none⟩)] w fun e w'=>e=.returned (.int .i64 (posF met x))/\Below w.heap.size w w':=fun w hb x h0 h1=>by
    refine (number_any (w:=w) (N:=g.nodes.length) (r:=w1.heap.size) (m:=met) ?_ ?_ h0 h1).mono ?_
    ·rw[hb.cell (p:=⟨w1.heap.size+1,0,none⟩) hz3];exact cell_of_one hTl.out.var
    ·rw[hb.block _ (by omega)];exact hTl.out.row
    ·rintro e w' ⟨rfl,rfl⟩
     exact⟨rfl,Below.refl _ _⟩
   have hRi3:=hRi.below hTl.out.b
   have hT0:Hid (T2 w3 (w3.alloc (.cells #[.slice none 0 0,.slice none 0 0] 38)) [] none 0 []):=⟨below_alloc _ _,heap_alloc_new w3 _,On.nil _ _⟩
   go_wp2
   go_loopw [41] (fun i wr=>∃(k:Nat) (ao:Option Addr) (c:Nat) (avs:List Value),k<=met.length/\i=.int .i64 k/\Hid (T2 w3 wr ((met.take k).map (fun x=>renum (posF met) (g.nodes.getD x.toNat nd0))) ao c avs)) (fun i _=>met.length-(intOf i).toNat)
   case atStart=>exact⟨0,none,0,[],Nat.zero_le _,rfl,by simpa[Hid] using hT0⟩
   case round=>
    clear hT0
    obtain⟨j,ao,c,avs,hj,rfl,hT⟩:=hrel
    by_cases hjl:j<met.length
    ·obtain⟨i1,hi1,hy0,hy1,hy2⟩:=info_parts infoN
     have hx:=hmet.rng _ (getD_mem hjl)
     have hts:=take_snoc hjl
     obtain⟨n,hn⟩:∃n:Nat,met.getD j 0=(n:Int):=⟨(met.getD j 0).toNat,by omega⟩
     rw[hn] at hx hts
     have hnN:n<g.nodes.length:=by omega
     obtain⟨lb,lo,hlc⟩:∃lb lo,mo=some ⟨lb,lo,none⟩/\wr.cell? ⟨lb,lo+j,none⟩=some (.int .i64 (n:Int)):=by
      obtain⟨ao',c',h1,h2⟩:=hRi3.below hT.out.b
      obtain⟨lb,lo,h3,h4⟩:=h2 j hjl
      injection h1 with h1 _ _
      exact⟨lb,lo,h1.trans h3,by rw[h4,hn]⟩
     obtain⟨rfl,hlc⟩:=hlc
     have hbe:=Below.next hbW3 hT.out.b
     obtain⟨nb,no,av,rfl,hnd⟩:=hNc n hnN
     obtain⟨n0,n1,n2,n3,hA⟩:=hnd.below hbe
     have hgd:=hg.node (g.nodes.getD n nd0) (by simp[List.getD,hnN])
     have hga:=good_args hgd
     have hgs:=good_name hgd
     have hNS:Hid ((met.take (j+1)).map (fun x=>renum (posF met) (g.nodes.getD x.toNat nd0))=(met.take j).map (fun x=>renum (posF met) (g.nodes.getD x.toNat nd0))++[renum (posF met) (g.nodes.getD n nd0)]):=by
      show _=_
      rw[hts]
      simp
     have hL:((met.take j).map (fun x=>renum (posF met) (g.nodes.getD x.toNat nd0))).length=j:=by simp;omega
     generalize (met.take j).map (fun x=>renum (posF met) (g.nodes.getD x.toNat nd0))=NS at hT hNS hL
     have hcp:∀w:World,Below wr.heap.size wr w->_:=fun w hb=>copied_any (W:=w) 149 #[.pointer (some ⟨w1.heap.size+1,0,none⟩)] number_eg (posF met) (n:=g.nodes.getD n nd0) (hA.below hb) (by omega) (by omega) (fun x hx w' hb'=>hnumb w' (Below.next (Below.next hT.out.b hb) hb') x (hga.1 x hx).1 (hga.1 x hx).2)
     have e0:wr.heap[W.heap.size]?=some (.cells #[.slice (some ⟨nb,no,none⟩) g.nodes.length nc,.slice ra g.roots.length rc] 38):=by rw[hT.out.b.block _ (by omega)];exact k0'
     obtain⟨⟨c0,_⟩,_⟩:=blk2 e0
     obtain⟨⟨o0,_⟩,o1,_⟩:=blk2 hT.out.out
     rw[hL] at o0
     have hon:=hT.out.on
     rw[hL] at hon
     have honn:=hon.n
     rw[hL] at honn
     have hz4:=hT.out.b.size
     have hzo:=lt_of_block hT.out.out
     have hout:=hT.out.out
     rw[hL] at hout
     have hnv:∀k,Value.ownBlock (.slice ao j c)=some k->w3.heap.size+1<=k:=fun k e=>(hon.n.lt k e).1
     have hstep:=hid (fun (w4 w5:World) (aa:Option Addr) (ac gg cap:Nat)=>trim_step (w4:=w4) (w5:=w5) (aa:=aa) (ac:=ac) (g:=gg) (cap:=cap) (F:=posF met) (n:=g.nodes.getD n nd0) hT.out hL)
     generalize g.nodes.getD n nd0=x at n0 n1 n2 n3 hcp hNS hstep
     obtain⟨kind,name,num,args⟩:=x
     dsimp only at n0 n1 n2 n3 hcp hstep
     clear hnumb hmf hRi hRi3 hmo hG k0 k1 k0' k1' e0 hA hnd hgd hga hgs hNc hT hTl
     go_wp2
     go_region_law
      (first
       | (go_simp;go_at_call 150;refine (hcp _ (drew_below _)).mono ?_;rintro e w4 ⟨⟨aa,ac,rfl,hao⟩,hb4⟩;replace hb4:=undr1 hb4;have hon4:=World.ownsRow.alloc (own_below honn hb4) (.cells #[.int .i64 kind,.string name,.int .i64 num,.slice aa args.length ac] 86);have hz5:=hb4.size;have d4:w4.heap[w3.heap.size]?=some (.cells #[.slice ao j c,.slice none 0 0] 38):=(by rw[hb4.block _ hzo];exact hout);obtain⟨⟨d0,_⟩,d1,_⟩:=blk2 d4;have hz6:w3.heap.size<w4.heap.size:=(by omega);have d2:=cell1 d0)
       | (refine step_append_lies _ (by rfl) _ _ _ (by rfl) (w3.heap.size+1) 86 i1 (.agg #[.int .i64 0,.string ⟨#[]⟩,.int .i64 0,.slice none 0 0]) 4 56 Tryz.underlying35 hi1 hy0 hy1 hy2 rfl (by omega) _ j (ncells NS avs) (by rfl) hon4 ⟨w4.heap.size,0,none⟩ 1 1 [.int .i64 kind,.string name,.int .i64 num,.slice aa args.length ac] (by rfl) (by rfl) (World.news_of_block (cs:=#[.int .i64 kind,.string name,.int .i64 num,.slice aa args.length ac]) (t:=86) (fr:=(0,0)) (heap_alloc_new w4 _)) (by simp[Value.oneCell']) (by omega) (by unfold maxLen;omega) (by omega) (by simp;omega) (w4.heap.size+1) (by simp) ?_;intro gg cap w5 hown5 hgr hat hlt5;have d5:w5.heap[w3.heap.size]?=some (.cells #[.slice ao j c,.slice none 0 0] 38):=(by rw[hgr.block _ (by simp;omega) (fun e=>by have:=hnv _ e.symm;omega),Below.heap_alloc _ _ _ (by omega)];exact d4);obtain⟨⟨d0',_⟩,d1',_⟩:=blk2 d5))
     all_goals go_wp2
     all_goals
      go_roundw
      case rel=>
       refine⟨j+1,some ⟨gg,0,none⟩,cap,avs++[.slice aa args.length ac],by omega,congrArg (Value.int .i64) (by omega),?_⟩
       show T2 _ _ _ _ _ _
       rw[hNS.out]
       exact hstep.out w4 w5 aa ac gg cap hb4 hao _ hgr hown5 hat
      case measure=>simp[intOf];omega
    ·have hTe:Hid (T2 w3 wr (met.map (fun x=>renum (posF met) (g.nodes.getD x.toNat nd0))) ao c avs):=by
      have:=hT.out
      rw[List.take_of_length_le (by omega)] at this
      exact this
     clear hT
     have htf:=hid (show trimF g=⟨met.map (fun x=>renum (posF met) (g.nodes.getD x.toNat nd0)),g.roots.map (posF met)⟩ by unfold trimF;rw[hmd])
     have hL:(met.map (fun x=>renum (posF met) (g.nodes.getD x.toNat nd0))).length=met.length:=by simp
     generalize met.map (fun x=>renum (posF met) (g.nodes.getD x.toNat nd0))=NS at hTe htf hL
     have hgr:=hg.roots
     have hbe:=Below.next hbW3 hTe.out.b
     have hz4:=hTe.out.b.size
     have hnr:=numbered_any (W:=wr) 149 #[.pointer (some ⟨w1.heap.size+1,0,none⟩)] number_eg (posF met) (hG.2.below hbe) (by omega) (fun x hx w hb=>hnumb w (Below.next hTe.out.b hb) x (hg.root x hx).1 (hg.root x hx).2)
     have e0:wr.heap[W.heap.size]?=some (.cells #[.slice na g.nodes.length nc,.slice ra g.roots.length rc] 38):=by rw[hTe.out.b.block _ (by omega)];exact k0'
     have e1:wr.heap[W.heap.size+1]?=some (.cells #[.slice none 0 0,.slice none 0 0] 38):=by rw[hTe.out.b.block _ (by omega)];exact k1'
     obtain⟨⟨_,c1⟩,_⟩:=blk2 e0
     have hF:∀w5:World,Below wr.heap.size wr w5->w5.heap[w3.heap.size]?=some (.cells #[.slice ao NS.length c,.slice none 0 0] 38)/\w5.heap[W.heap.size+1]?=some (.cells #[.slice none 0 0,.slice none 0 0] 38):=fun w5 hb=>
      ⟨by rw[hb.block _ (lt_of_block hTe.out.out)];exact hTe.out.out,by rw[hb.block _ (lt_of_block e1)];exact e1⟩
     have hne:¬W.heap.size+1=w3.heap.size:=by omega
     clear hnumb hmf hRi hRi3 hmo hG k0 k1 k0' k1' e0 e1
     go_wp2_with (go_at_call 151;refine hnr.mono ?_;rintro e w5 ⟨⟨ro,rcc,rfl,hro⟩,hb5⟩;obtain⟨j0,j1⟩:=hF w5 hb5;obtain⟨⟨p0,p1⟩,q0,q1⟩:=blk2 j0;obtain⟨⟨r0,r1⟩,s0,s1⟩:=blk2 j1)
     have hO:=trim_end hTe.out hb5 (R:=g.roots.map (posF met)) hro (by simp) hL (by omega:W.heap.size+1<w3.heap.size)
     rw[←htf.out] at hO
     refine bodyPost_ret (ret_gr Tryz.results109 (by rfl) (by rfl) (blk2_set (by rw[Below.heap_setCell _ _ _ _ hne];exact j1))) rfl ⟨⟨_,_,_,rfl,hO⟩,?_⟩
     exact (((Below.next hbe hb5).setCell (by simp;omega) _).setCell (by simp) _).setCell (by simp) _
end Go.Proofs.YtpkojcfdkkjmcaaGreatDoor
namespace Go.Proofs.YtpkojcfdkkjmcaaGreatDoor
set_option maxRecDepth 100000
open Go.RowKit
def val (k j:Nat):Int:=-1000*((k:Int)+1)-(j:Int)
def rowK (k n:Nat):List Int:=(List.range n).map (fun j=>val k j)
def ND (vs:List Value):Prop:=∀i j p q,i<vs.length->j<vs.length->i≠j->(vs.getD i undef).ownBlock=some p->(vs.getD j undef).ownBlock=some q->p≠q
theorem mem_blocks {vs:List Value} {i q:Nat} (hi:i<vs.length) (h:(vs.getD i undef).ownBlock=some q):q∈blocks vs:=
 List.mem_filterMap.2 ⟨vs.getD i undef,by simp[List.getD,hi],h⟩
theorem own_form {w:World} {B:Nat} {e:TypeId} {s:Nat} {v:Value} {n:Nat} {xs:List Value} (h:w.ownsRow B e s v n xs):(v=.slice none 0 0/\n=0)∨∃q c,v=.slice (some ⟨q,0,none⟩) n c/\v.ownBlock=some q:=by
 rcases h.2 with⟨h1,h2⟩ | ⟨g,cap,_,h1,_⟩
 ·exact Or.inl ⟨h1,h2⟩
 ·exact Or.inr ⟨g,cap,h1,by rw[h1];rfl⟩
theorem own_sl {w:World} {B:Nat} {e:TypeId} {s:Nat} {v:Value} {n:Nat} {xs:List Value} (h:w.ownsRow B e s v n xs):∃a c,v=.slice a n c:=by
 rcases own_form h with⟨h1,h2⟩ | ⟨q,c,h1,_⟩
 ·exact⟨none,0,by rw[h1,h2]⟩
 ·exact⟨_,c,h1⟩
theorem own_block_obj {w:World} {B:Nat} {e:TypeId} {s:Nat} {v:Value} {n q:Nat} {xs:List Value} (h:w.ownsRow B e s v n xs) (hq:v.ownBlock=some q):∃cur:Array Value,w.heap[q]?=some (.cells cur e (0,0))/\cur.toList.take (n*s)=xs:=by
 rcases h.2 with⟨h1,_⟩ | ⟨g,cap,cur,h1,_,hg,_,_,_,ht⟩
 ·rw[h1] at hq
  cases hq
 ·rw[h1] at hq
  have e:g=q:=by simpa[Value.ownBlock] using hq
  subst e
  exact⟨cur,hg,ht⟩
theorem own_set {w:World} {B:Nat} {e:TypeId} {n q c t:Nat} {xs:List Value} (h:w.ownsRow B e 1 (.slice (some ⟨q,0,none⟩) n c) n xs) (v:Value):(w.setCell ⟨q,t,none⟩ v).ownsRow B e 1 (.slice (some ⟨q,0,none⟩) n c) n (xs.set t v):=by
 obtain⟨h1,h2⟩:=h
 rcases h2 with⟨h2,_⟩ | ⟨g,cap,cur,hv,hB,hg,hle,hm,hs,ht⟩
 ·cases h2
 ·have hv':=hv
  injection hv with e1 _ e3
  injection e1 with e1
  injection e1 with e1 _ _
  subst e1 e3
  refine⟨by simpa using h1,Or.inr ⟨q,c,cur.setIfInBounds t v,rfl,hB,heap_setCell_same w q t _ _ v hg,hle,hm,by simpa using hs,?_⟩⟩
  rw[Array.toList_setIfInBounds,List.take_set,ht]
def upd {α:Type} (f:Nat->α) (i:Nat) (x:α):Nat->α:=fun j=>if j=i then x else f j
theorem upd_same {α:Type} (f:Nat->α) (i:Nat) (x:α):upd f i x i=x:=if_pos rfl
theorem upd_other {α:Type} (f:Nat->α) {i j:Nat} (x:α) (h:j≠i):upd f i x j=f j:=if_neg h
structure G0 (W1:World) (B:Nat) (vs:List Value) (n:Nat->Nat):Prop where
 own:∀i,i<vs.length->W1.ownsRow B 3 1 (vs.getD i undef) (n i) ((rowK i (n i)).map (Value.int .i64))
 nd:ND vs
end Go.Proofs.YtpkojcfdkkjmcaaGreatDoor
