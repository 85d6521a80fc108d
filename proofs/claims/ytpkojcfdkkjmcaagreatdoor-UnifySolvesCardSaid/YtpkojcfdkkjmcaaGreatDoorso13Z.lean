/- A partition in memory: six rows of numbers, each in a block of its own, behind one pointer. -/
import Derived.Test.YtpkojcfdkkjmcaaGreatDoorso10Z
import Derived.Test.YtpkojcfdkkjmcaaGreatDoorso04Z
namespace Go.Proofs.YtpkojcfdkkjmcaaGreatDoor
set_option maxRecDepth 100000
open Go.RowKit
structure Ch (K:List Nat) (w w':World):Prop where
 os:w'.os=w.os
 tape:w'.tape=w.tape
 output:w'.output=w.output
 size:w.heap.size<=w'.heap.size
 far:∀k,k<w.heap.size->k∉K->w'.heap[k]?=w.heap[k]?
theorem Ch.refl (K:List Nat) (w:World):Ch K w w:=⟨rfl,rfl,rfl,Nat.le_refl _,fun _ _ _=>rfl⟩
theorem Ch.trans {K K':List Nat} {w w1 w2:World} (h:Ch K w w1) (h':Ch K' w1 w2) (hK:∀k∈K',k∈K∨w.heap.size<=k):Ch K w w2:=
 ⟨h'.os.trans h.os,h'.tape.trans h.tape,h'.output.trans h.output,Nat.le_trans h.size h'.size,fun k hk hn=>(h'.far k (by have:=h.size;omega) (fun hm=>by
  rcases hK k hm with h1 | h1
  ·exact hn h1
  ·omega)).trans (h.far k hk hn)⟩
theorem Ch.below {K:List Nat} {W w w':World} (hb:Below W.heap.size W w) (h:Ch K w w') (hK:∀k∈K,W.heap.size<=k):Below W.heap.size W w':=
 ⟨h.os.trans hb.os,h.tape.trans hb.tape,h.output.trans hb.output,Nat.le_trans hb.size h.size,fun k hk=>(h.far k (by have:=hb.size;omega) (fun hm=>by have:=hK k hm;omega)).trans (hb.block k hk)⟩
theorem Ch.of {K:List Nat} {w w':World} (h:Below w.heap.size w w'):Ch K w w':=⟨h.os,h.tape,h.output,h.size,fun k hk _=>h.block k hk⟩
theorem Ch.set {K:List Nat} {w:World} {q i:Nat} {v:Value} (hq:q∈K):Ch K w (w.setCell ⟨q,i,none⟩ v):=
 ⟨rfl,rfl,rfl,by simp,fun k _ hn=>Below.heap_setCell _ _ _ _ (fun e=>hn (by
  have e':k=q:=e
  rw[e']
  exact hq))⟩
theorem Ch.grown {K:List Nat} {w w1 w2:World} {row:Option Nat} (h:Ch K w w1) (hg:w1.grownBy w2 row) (hr:∀r,row=some r->r∈K∨w.heap.size<=r):Ch K w w2:=
 ⟨hg.os.trans h.os,hg.tape.trans h.tape,hg.output.trans h.output,Nat.le_trans h.size hg.size,fun k hk hn=>(hg.block k (by have:=h.size;omega) (fun e=>by
  rcases hr k e.symm with h1 | h1
  ·exact hn h1
  ·omega)).trans (h.far k hk hn)⟩
structure Fm (w:World) (B:Nat) (vs:List Value) (f:Nat->List Int):Prop where
 own:∀i,i<vs.length->w.ownsRow B 3 1 (vs.getD i undef) (f i).length ((f i).map (Value.int .i64))
 nd:ND vs
theorem Fm.keep {w w':World} {B:Nat} {vs:List Value} {f:Nat->List Int} (h:Fm w B vs f) (hk:∀k∈blocks vs,w'.heap[k]?=w.heap[k]?):Fm w' B vs f:=
 ⟨fun i hi=>own_block (h.own i hi) (fun k e=>hk k (mem_blocks hi e)),h.nd⟩
theorem Fm.lt {w:World} {B:Nat} {vs:List Value} {f:Nat->List Int} (h:Fm w B vs f):∀k∈blocks vs,B<=k/\k<w.heap.size:=fun k hk=>by
 obtain⟨v,hv,e⟩:=List.mem_filterMap.1 hk
 obtain⟨i,hi,rfl⟩:=List.getElem_of_mem hv
 have e1:vs.getD i undef=vs[i]:=by simp[List.getD,hi]
 exact (h.own i hi).lt k (by rw[e1];exact e)
theorem Fm.below {w w':World} {B:Nat} {vs:List Value} {f:Nat->List Int} (h:Fm w B vs f) (hb:Below w.heap.size w w'):Fm w' B vs f:=h.keep (fun k hk=>hb.block k (h.lt k hk).2)
theorem Fm.ty {w:World} {B q:Nat} {vs:List Value} {f:Nat->List Int} {cs:Array Value} {T:TypeId} (h:Fm w B vs f) (hq:w.heap[q]?=some (.cells cs T (0,0))) (hT:T≠3):q∉blocks vs:=fun hk=>by
 obtain⟨v,hv,e⟩:=List.mem_filterMap.1 hk
 obtain⟨i,hi,rfl⟩:=List.getElem_of_mem hv
 have e1:vs.getD i undef=vs[i]:=by simp[List.getD,hi]
 obtain⟨cur,hc,_⟩:=own_block_obj (h.own i hi) (by rw[e1];exact e)
 rw[hq] at hc
 simp at hc
 exact hT hc.2
theorem Fm.set {w:World} {B:Nat} {vs:List Value} {f:Nat->List Int} (h:Fm w B vs f) {i t q c:Nat} (hi:i<vs.length) (hv:vs.getD i undef=.slice (some ⟨q,0,none⟩) (f i).length c) (x:Int):Fm (w.setCell ⟨q,t,none⟩ (.int .i64 x)) B vs (upd f i ((f i).set t x)):=by
 have hb:(vs.getD i undef).ownBlock=some q:=by rw[hv];rfl
 refine⟨fun j hj=>?_,h.nd⟩
 by_cases e:j=i
 ·subst e
  rw[upd_same,List.map_set,List.length_set]
  have:=h.own j hj
  rw[hv] at this ⊢
  exact own_set this _
 ·rw[upd_other _ _ e]
  exact own_block (h.own j hj) (fun k ek=>Below.heap_setCell _ _ _ _ (h.nd j i k q hj hi e ek hb))
theorem Fm.push {w w2:World} {B:Nat} {vs:List Value} {f:Nat->List Int} {k g cap:Nat} {o:Obj} {x:Int} (h:Fm w B vs f) (hk:k<vs.length)
  (hown:w2.ownsRow B 3 1 (.slice (some ⟨g,0,none⟩) ((f k).length+1) cap) ((f k).length+1) ((f k++[x]).map (Value.int .i64))) (hgr:(w.alloc o).grownBy w2 (vs.getD k undef).ownBlock) (hat:(vs.getD k undef).ownBlock=some g∨g=w.heap.size+1) :
  Fm w2 B (vs.set k (.slice (some ⟨g,0,none⟩) ((f k).length+1) cap)) (upd f k (f k++[x])):=by
 have gs:(vs.set k (.slice (some ⟨g,0,none⟩) ((f k).length+1) cap)).getD k undef=.slice (some ⟨g,0,none⟩) ((f k).length+1) cap:=by simp[List.getD,hk]
 have go:∀i,i≠k->(vs.set k (.slice (some ⟨g,0,none⟩) ((f k).length+1) cap)).getD i undef=vs.getD i undef:=fun i e=>by simp[List.getD,List.getElem?_set_ne (fun e'=>e e'.symm)]
 have hne:∀a pa,a<vs.length->a≠k->(vs.getD a undef).ownBlock=some pa->pa≠g:=fun a pa ha e hpa e'=>by
  rcases hat with h1 | h1
  ·exact h.nd a k pa g ha hk e hpa h1 e'
  ·have:=((h.own a ha).lt pa hpa).2
   omega
 refine⟨fun i hi=>?_,fun i j p q hi hj hij hp hq=>?_⟩
 ·have hi':i<vs.length:=by simpa using hi
  by_cases e:i=k
  ·subst e
   rw[gs,upd_same,List.length_append,List.length_singleton]
   exact hown
  ·rw[go i e,upd_other _ _ e]
   refine own_block (h.own i hi') (fun q eq=>?_)
   have hq:=((h.own i hi').lt q eq).2
   rw[hgr.block q (by simp;omega) (fun e'=>h.nd i k q q hi' hk e eq e'.symm rfl),Below.heap_alloc _ _ _ hq]
 ·have hi':i<vs.length:=by simpa using hi
  have hj':j<vs.length:=by simpa using hj
  by_cases ei:i=k
  ·subst ei
   rw[gs] at hp
   rw[go j (fun e=>hij e.symm)] at hq
   have ep:g=p:=by simpa[Value.ownBlock] using hp
   subst ep
   exact fun e=>hne j q hj' (fun e=>hij e.symm) hq e.symm
  ·by_cases ej:j=k
   ·subst ej
    rw[gs] at hq
    rw[go i ei] at hp
    have ep:g=q:=by simpa[Value.ownBlock] using hq
    subst ep
    exact hne i p hi' ei hp
   ·rw[go i ei] at hp
    rw[go j ej] at hq
    exact h.nd i j p q hi' hj' hij hp hq
structure Pt (w:World) (B pb:Nat) (v0 v1 v2 v3 v4 v5:Value) (f:Nat->List Int):Prop where
 blk:w.heap[pb]?=some (.cells #[v0,v1,v2,v3,v4,v5] 235 (0,0))
 fm:Fm w B [v0,v1,v2,v3,v4,v5] f
 ge:B<=pb
theorem Pt.below {w w':World} {B pb:Nat} {v0 v1 v2 v3 v4 v5:Value} {f:Nat->List Int} (h:Pt w B pb v0 v1 v2 v3 v4 v5 f) (hb:Below w.heap.size w w'):Pt w' B pb v0 v1 v2 v3 v4 v5 f:=
 ⟨by rw[hb.block pb (lt_of_block h.blk)];exact h.blk,h.fm.below hb,h.ge⟩
theorem Pt.sl {w:World} {B pb:Nat} {v0 v1 v2 v3 v4 v5:Value} {f:Nat->List Int} (h:Pt w B pb v0 v1 v2 v3 v4 v5 f):(∃a c,v0=.slice a (f 0).length c)/\(∃a c,v1=.slice a (f 1).length c)/\(∃a c,v2=.slice a (f 2).length c)/\(∃a c,v3=.slice a (f 3).length c)/\(∃a c,v4=.slice a (f 4).length c)/\∃a c,v5=.slice a (f 5).length c:=
 ⟨own_sl (h.fm.own 0 (by simp)),own_sl (h.fm.own 1 (by simp)),own_sl (h.fm.own 2 (by simp)),own_sl (h.fm.own 3 (by simp)),own_sl (h.fm.own 4 (by simp)),own_sl (h.fm.own 5 (by simp))⟩
end Go.Proofs.YtpkojcfdkkjmcaaGreatDoor
namespace Go.Proofs.YtpkojcfdkkjmcaaGreatDoor
set_option maxRecDepth 100000
open Go.RowKit
theorem blk6 {w:World} {q:Nat} {u0 u1 u2 u3 u4 u5:Value} {T:TypeId} (h:w.heap[q]?=some (.cells #[u0,u1,u2,u3,u4,u5] T)):(w.cell? ⟨q,0,none⟩=some u0/\w.cell? ⟨q,1,none⟩=some u1/\w.cell? ⟨q,2,none⟩=some u2/\w.cell? ⟨q,3,none⟩=some u3/\w.cell? ⟨q,4,none⟩=some u4/\w.cell? ⟨q,5,none⟩=some u5)/\(w.frozen? ⟨q,0,none⟩=false/\w.frozen? ⟨q,1,none⟩=false/\w.frozen? ⟨q,2,none⟩=false/\w.frozen? ⟨q,3,none⟩=false/\w.frozen? ⟨q,4,none⟩=false/\w.frozen? ⟨q,5,none⟩=false):=by
 refine⟨⟨?_,?_,?_,?_,?_,?_⟩,?_,?_,?_,?_,?_,?_⟩ <;> simp[World.cell?,World.frozen?,h]
theorem own_cap7 {w:World} {B:Nat} {e:TypeId} {s n cap:Nat} {a:Addr} {xs:List Value} (h:w.ownsRow B e s (.slice (some a) n cap) n xs):n<=cap:=by
 rcases h.2 with⟨h,_⟩ | ⟨_,_,_,hv,_,_,hle,_⟩
 ·cases h
 ·injection hv with _ _ h3
  omega
def setL (cl xs:List Int) (v:Int):List Int:=xs.foldl (fun c x=>c.set x.toNat v) cl
theorem setL_snoc (cl xs:List Int) (v x:Int):setL cl (xs++[x]) v=(setL cl xs v).set x.toNat v:=by simp[setL]
theorem setL_len (v:Int):∀(xs cl:List Int),(setL cl xs v).length=cl.length
 | [],_=>rfl
 | x::r,cl=>by
  have:=setL_len v r (cl.set x.toNat v)
  rw[List.length_set] at this
  exact this
theorem upd_upd {α:Type} (f:Nat->α) (i:Nat) (x y:α):upd (upd f i x) i y=upd f i y:=by
 funext j
 unfold upd
 split <;> rfl
theorem Pt.drew {w:World} {B pb:Nat} {v0 v1 v2 v3 v4 v5:Value} {f:Nat->List Int} (h:Pt w B pb v0 v1 v2 v3 v4 v5 f):Pt w.drew B pb v0 v1 v2 v3 v4 v5 f:=⟨h.blk,⟨fun i hi=>own_block (h.fm.own i hi) (fun _ _=>rfl),h.fm.nd⟩,h.ge⟩
theorem Ch.drew {K:List Nat} {w w':World} (h:Ch K w w'):Ch K w w'.drew:=⟨h.os,h.tape,h.output,h.size,h.far⟩
theorem Ch.mono {K K':List Nat} {w w':World} (h:Ch K w w') (hs:∀k∈K,k∈K'):Ch K' w w':=⟨h.os,h.tape,h.output,h.size,fun k hk hn=>h.far k hk (fun hm=>hn (hs k hm))⟩
theorem Ch.alloc {K:List Nat} {w w':World} (h:Ch K w w') (o:Obj):Ch K w (w'.alloc o):=h.trans (Ch.of (K:=[]) (below_alloc w' o)) (fun _ hk=>absurd hk (by simp))
theorem Ch.put {K:List Nat} {w w':World} (h:Ch K w w') {q i:Nat} (v:Value) (hq:q∈K):Ch K w (w'.setCell ⟨q,i,none⟩ v):=h.trans (Ch.set hq) (fun _ hk=>Or.inl hk)
theorem Pt.far {w w2:World} {B pb:Nat} {v0 v1 v2 v3 v4 v5 v:Value} {f:Nat->List Int} {o:Obj} {i:Nat} (h:Pt w B pb v0 v1 v2 v3 v4 v5 f) (hi:i<6) (hv:[v0,v1,v2,v3,v4,v5].getD i undef=v) (hgr:(w.alloc o).grownBy w2 v.ownBlock):w2.heap[pb]?=some (.cells #[v0,v1,v2,v3,v4,v5] 235 (0,0)):=by
 subst hv
 have hpb:=lt_of_block h.blk
 have hrow:([v0,v1,v2,v3,v4,v5].getD i undef).ownBlock≠some pb:=fun e=>h.fm.ty h.blk (by decide) (mem_blocks (i:=i) (by simpa using hi) e)
 rw[hgr.block pb (by simp;omega) (fun e=>hrow e.symm),Below.heap_alloc _ _ _ hpb]
 exact h.blk
theorem Pt.setC {w:World} {B pb q c t m:Nat} {v0 v1 v3 v4 v5:Value} {f:Nat->List Int} (h:Pt w B pb v0 v1 (.slice (some ⟨q,0,none⟩) m c) v3 v4 v5 f) (hm:(f 2).length=m) (x:Int):Pt (w.setCell ⟨q,t,none⟩ (.int .i64 x)) B pb v0 v1 (.slice (some ⟨q,0,none⟩) m c) v3 v4 v5 (upd f 2 ((f 2).set t x)):=by
 subst hm
 have hne:pb≠q:=fun e=>h.fm.ty h.blk (by decide) (mem_blocks (i:=2) (by simp) (by rw[e];rfl))
 refine⟨by rw[Below.heap_setCell _ _ _ _ hne];exact h.blk,?_,h.ge⟩
 exact Fm.set (i:=2) (t:=t) h.fm (by simp) rfl x
theorem Pt.push3 {w w2:World} {B pb g cap:Nat} {v0 v1 v2 v3 v4 v5:Value} {f:Nat->List Int} {o:Obj} {x:Int} (h:Pt w B pb v0 v1 v2 v3 v4 v5 f) (hown:w2.ownsRow B 3 1 (.slice (some ⟨g,0,none⟩) ((f 3).length+1) cap) ((f 3).length+1) ((f 3++[x]).map (Value.int .i64))) (hgr:(w.alloc o).grownBy w2 v3.ownBlock) (hat:v3.ownBlock=some g∨g=w.heap.size+1) :
  Pt (w2.setCell ⟨pb,3,none⟩ (.slice (some ⟨g,0,none⟩) ((f 3).length+1) cap)) B pb v0 v1 v2 (.slice (some ⟨g,0,none⟩) ((f 3).length+1) cap) v4 v5 (upd f 3 (f 3++[x])):=by
 have hpb:=lt_of_block h.blk
 have hrow:v3.ownBlock≠some pb:=fun e=>h.fm.ty h.blk (by decide) (mem_blocks (i:=3) (by simp) e)
 have hF:=Fm.push (k:=3) h.fm (by simp) hown hgr hat
 have h2:w2.heap[pb]?=some (.cells #[v0,v1,v2,v3,v4,v5] 235 (0,0)):=by
  rw[hgr.block pb (by simp;omega) (fun e=>hrow e.symm),Below.heap_alloc _ _ _ hpb]
  exact h.blk
 refine⟨heap_setCell_same w2 pb 3 _ _ _ h2,?_,h.ge⟩
 exact hF.keep (fun k hk=>Below.heap_setCell _ _ _ _ (fun e=>hF.ty h2 (by decide) (by
  have e':k=pb:=e
  rw[←e']
  exact hk)))
theorem Pt.push4 {w w2:World} {B pb g cap:Nat} {v0 v1 v2 v3 v4 v5:Value} {f:Nat->List Int} {o:Obj} {x:Int} (h:Pt w B pb v0 v1 v2 v3 v4 v5 f) (hown:w2.ownsRow B 3 1 (.slice (some ⟨g,0,none⟩) ((f 4).length+1) cap) ((f 4).length+1) ((f 4++[x]).map (Value.int .i64))) (hgr:(w.alloc o).grownBy w2 v4.ownBlock) (hat:v4.ownBlock=some g∨g=w.heap.size+1) :
  Pt (w2.setCell ⟨pb,4,none⟩ (.slice (some ⟨g,0,none⟩) ((f 4).length+1) cap)) B pb v0 v1 v2 v3 (.slice (some ⟨g,0,none⟩) ((f 4).length+1) cap) v5 (upd f 4 (f 4++[x])):=by
 have hpb:=lt_of_block h.blk
 have hrow:v4.ownBlock≠some pb:=fun e=>h.fm.ty h.blk (by decide) (mem_blocks (i:=4) (by simp) e)
 have hF:=Fm.push (k:=4) h.fm (by simp) hown hgr hat
 have h2:w2.heap[pb]?=some (.cells #[v0,v1,v2,v3,v4,v5] 235 (0,0)):=by
  rw[hgr.block pb (by simp;omega) (fun e=>hrow e.symm),Below.heap_alloc _ _ _ hpb]
  exact h.blk
 refine⟨heap_setCell_same w2 pb 4 _ _ _ h2,?_,h.ge⟩
 exact hF.keep (fun k hk=>Below.heap_setCell _ _ _ _ (fun e=>hF.ty h2 (by decide) (by
  have e':k=pb:=e
  rw[←e']
  exact hk)))
theorem Pt.push5 {w w2:World} {B pb g cap:Nat} {v0 v1 v2 v3 v4 v5:Value} {f:Nat->List Int} {o:Obj} {x:Int} (h:Pt w B pb v0 v1 v2 v3 v4 v5 f) (hown:w2.ownsRow B 3 1 (.slice (some ⟨g,0,none⟩) ((f 5).length+1) cap) ((f 5).length+1) ((f 5++[x]).map (Value.int .i64))) (hgr:(w.alloc o).grownBy w2 v5.ownBlock) (hat:v5.ownBlock=some g∨g=w.heap.size+1) :
  Pt (w2.setCell ⟨pb,5,none⟩ (.slice (some ⟨g,0,none⟩) ((f 5).length+1) cap)) B pb v0 v1 v2 v3 v4 (.slice (some ⟨g,0,none⟩) ((f 5).length+1) cap) (upd f 5 (f 5++[x])):=by
 have hpb:=lt_of_block h.blk
 have hrow:v5.ownBlock≠some pb:=fun e=>h.fm.ty h.blk (by decide) (mem_blocks (i:=5) (by simp) e)
 have hF:=Fm.push (k:=5) h.fm (by simp) hown hgr hat
 have h2:w2.heap[pb]?=some (.cells #[v0,v1,v2,v3,v4,v5] 235 (0,0)):=by
  rw[hgr.block pb (by simp;omega) (fun e=>hrow e.symm),Below.heap_alloc _ _ _ hpb]
  exact h.blk
 refine⟨heap_setCell_same w2 pb 5 _ _ _ h2,?_,h.ge⟩
 exact hF.keep (fun k hk=>Below.heap_setCell _ _ _ _ (fun e=>hF.ty h2 (by decide) (by
  have e':k=pb:=e
  rw[←e']
  exact hk)))
set_option maxHeartbeats 4000000 in
theorem enter_any {w:World} {B pb a b:Nat} {v0 v1 v2 v3 v4 v5:Value} {f:Nat->List Int} (hP:Pt w B pb v0 v1 v2 v3 v4 v5 f) (hab:a<b) (hb:b<=(f 0).length) (hl:∀i,(f i).length<=4500) (hr:∀x∈f 0,0<=x/\x<((f 2).length:Int)) (hB:B<=w.heap.size) :
  Calls Tryz.prog 185 #[.pointer (some ⟨pb,0,none⟩),.int .i64 a,.int .i64 b] w fun e w'=>e=.returned (.tuple #[])/\∃u3 u4 u5,Pt w' B pb v0 v1 v2 u3 u4 u5 (upd (upd (upd (upd f 2 (setL (f 2) (((f 0).drop a).take (b-a)) (f 3).length)) 3 (f 3++[(a:Int)])) 4 (f 4++[(b:Int)])) 5 (f 5++[0]))/\Ch (pb::blocks [v0,v1,v2,v3,v4,v5]) w w'/\∀k∈blocks [u3,u4,u5],k∈blocks [v0,v1,v2,v3,v4,v5]∨w.heap.size<=k:=by
 obtain⟨q0,c0,rfl,hq0⟩:∃q c,v0=.slice (some ⟨q,0,none⟩) (f 0).length c/\v0.ownBlock=some q:=(own_form (hP.fm.own 0 (by simp))).resolve_left (fun h=>by omega)
 have hf2:0<(f 2).length:=by
  have:=hr _ (getD_mem (l:=f 0) (k:=0) (by omega))
  omega
 obtain⟨q2,c2,rfl,hq2⟩:∃q c,v2=.slice (some ⟨q,0,none⟩) (f 2).length c/\v2.ownBlock=some q:=(own_form (hP.fm.own 2 (by simp))).resolve_left (fun h=>by omega)
 obtain⟨_,⟨a1,c1,rfl⟩,_,⟨a3,c3,rfl⟩,⟨a4,c4,rfl⟩,⟨a5,c5,rfl⟩⟩:=hP.sl
 have hcap:(f 0).length<=c0:=own_cap7 (hP.fm.own 0 (by simp))
 have hca:¬c0=a:=by omega
 obtain⟨⟨z0,z1,z2,z3,z4,z5⟩,y0,y1,y2,y3,y4,y5⟩:=blk6 hP.blk
 have hl0:=hl 0
 have hl2:=hl 2
 have hl3:=hl 3
 have hst:Hid (Pt w B pb (.slice (some ⟨q0,0,none⟩) (f 0).length c0) (.slice a1 (f 1).length c1) (.slice (some ⟨q2,0,none⟩) (f 2).length c2) (.slice a3 (f 3).length c3) (.slice a4 (f 4).length c4) (.slice a5 (f 5).length c5) (upd f 2 (setL (f 2) (((f 0).drop a).take 0) (f 3).length))):=by
  have e:upd f 2 (setL (f 2) (((f 0).drop a).take 0) (f 3).length)=f:=by
   funext j
   unfold upd
   split
   ·rename_i e
    subst e
    simp[setL]
   ·rfl
  show Pt _ _ _ _ _ _ _ _ _ _
  rw[e]
  exact hP
 go_enter Tryz.func185,Tryz.ntmps185
 go_wp2
 go_loopw [16] (fun i wr=>∃t:Nat,t<=b-a/\i=.int .i64 t/\Hid (Pt wr B pb (.slice (some ⟨q0,0,none⟩) (f 0).length c0) (.slice a1 (f 1).length c1) (.slice (some ⟨q2,0,none⟩) (f 2).length c2) (.slice a3 (f 3).length c3) (.slice a4 (f 4).length c4) (.slice a5 (f 5).length c5) (upd f 2 (setL (f 2) (((f 0).drop a).take t) (f 3).length)))/\Hid (Ch [q2] w wr)) (fun i _=>b-a-(intOf i).toNat)
 case atStart=>exact⟨0,Nat.zero_le _,rfl,hst,Ch.refl _ _⟩
 case round=>
  clear hst z0 z1 z2 z3 z4 z5 y0 y1 y2 y3 y4 y5
  obtain⟨t,ht,rfl,hPt,hCh⟩:=hrel
  obtain⟨⟨z0,z1,z2,z3,z4,z5⟩,y0,y1,y2,y3,y4,y5⟩:=blk6 hPt.out.blk
  by_cases hlt:t<b-a
  ·have hx:=hr _ (getD_mem (l:=f 0) (k:=a+t) (by omega))
   obtain⟨n,hn⟩:∃n:Nat,(f 0).getD (a+t) 0=(n:Int):=⟨((f 0).getD (a+t) 0).toNat,by omega⟩
   rw[hn] at hx
   have e0:upd f 2 (setL (f 2) (((f 0).drop a).take t) (f 3).length) 0=f 0:=upd_other _ _ (by omega)
   have e2:upd f 2 (setL (f 2) (((f 0).drop a).take t) (f 3).length) 2=setL (f 2) (((f 0).drop a).take t) (f 3).length:=upd_same _ _ _
   have hts:((f 0).drop a).take (t+1)=((f 0).drop a).take t++[(n:Int)]:=by
    rw[take_snoc (by simp;omega),←hn]
    simp[List.getD]
   have hln:=setL_len ((f 3).length:Int) (((f 0).drop a).take t) (f 2)
   have ho0:=hPt.out.fm.own 0 (by simp)
   rw[e0] at ho0
   have d0:wr.cell? ⟨q0,a+t,none⟩=some (.int .i64 (n:Int)):=by
    have:=ho0.cells (g:=q0) rfl (a+t) (.int .i64 (n:Int)) (by
     have h1:a+t<(f 0).length:=by omega
     rw[←hn]
     simp[List.getD,h1])
    rw[Addr.add_lit,Nat.zero_add] at this
    exact this
   have ho2:=hPt.out.fm.own 2 (by simp)
   rw[e2] at ho2
   obtain⟨cur,hcur,_⟩:=own_block_obj ho2 rfl
   have d2:∃y,wr.cell? ⟨q2,n,none⟩=some y:=by
    have:=ho2.cells (g:=q2) rfl n (.int .i64 ((setL (f 2) (((f 0).drop a).take t) (f 3).length).getD n 0)) (by
     have h1:n<(setL (f 2) (((f 0).drop a).take t) (f 3).length).length:=by omega
     simp[List.getD,h1])
    rw[Addr.add_lit,Nat.zero_add] at this
    exact⟨_,this⟩
   obtain⟨y,d2⟩:=d2
   have g2:wr.frozen? ⟨q2,n,none⟩=false:=by simp[World.frozen?,hcur]
   have hP':=hid (Pt.setC (t:=n) hPt.out (by rw[e2];exact hln) ((f 3).length:Int))
   rw[e2,upd_upd] at hP'
   have hC':=hid (hCh.out.trans (Ch.set (w:=wr) (q:=q2) (i:=n) (v:=.int .i64 ((f 3).length:Int)) (K:=[q2]) (by simp)) (fun k hk=>Or.inl hk))
   have hfin:Hid (setL (f 2) (((f 0).drop a).take (t+1)) (f 3).length=(setL (f 2) (((f 0).drop a).take t) (f 3).length).set n (f 3).length):=by
    show _=_
    rw[hts,setL_snoc]
    rfl
   have hnN:n<(f 2).length:=by omega
   have hnI:(n:Int)<((f 2).length:Int):=by omega
   clear hPt hCh ho0 ho2 hcur hts e0 e2 hn hl hr
   go_wp2
   go_big_region
   go_wp2
   exact⟨⟨t+1,by omega,congrArg (Value.int .i64) (by omega),by rw[hfin.out];exact hP'.out.drew,hC'.out.drew⟩,by simp[intOf];omega⟩
  ·have htl:t=b-a:=by omega
   subst htl
   obtain⟨i0,hi,hj0,hj1,hj2⟩:=info_parts infoI
   have hl4:=hl 4
   have hl5:=hl 5
   have hBw:B<=wr.heap.size:=by have:=hCh.out.size;omega
   have o3:wr.ownsRow B 3 1 (.slice a3 (f 3).length c3) (f 3).length ((f 3).map (Value.int .i64)):=hPt.out.fm.own 3 (by simp)
   have hoz3:=World.ownsRow.alloc o3 (.cells #[.int .i64 (a:Int)] 3)
   have hnews3:=heap_alloc_new wr (.cells #[.int .i64 (a:Int)] 3)
   clear hl hr
   go_wp2_with (first
    | (at_builtin;refine wpList_append_lies _ rfl _ _ _ rfl B 3 i0 (.int .i64 0) 1 8 Tryz.underlying36 hi hj0 hj1 hj2 rfl (by decide) _ (f 3).length ((f 3).map (Value.int .i64)) rfl hoz3 ⟨wr.heap.size,0,none⟩ 1 1 [.int .i64 (a:Int)] rfl rfl (World.news_of_block (cs:=#[.int .i64 (a:Int)]) (t:=3) (fr:=(0,0)) hnews3) (by simp[Value.oneCell']) (by omega) (by unfold maxLen;omega) (by omega) (by simp;omega) (wr.heap.size+1) (by simp) ?_;clear hoz3;intro g3 k3 w3 hown3 hgr3 hat3 hlt3;have hb3:=Pt.far (i:=3) hPt.out (by omega) rfl hgr3;have hbw3:=hgr3.size;simp at hbw3;clear z0 z1 z2 z3 z4 z5 y0 y1 y2 y3 y4 y5;obtain⟨⟨z0,z1,z2,z3,z4,z5⟩,y0,y1,y2,y3,y4,y5⟩:=blk6 hb3;have hP3:Hid (Pt (w3.setCell ⟨pb,3,none⟩ (.slice (some ⟨g3,0,none⟩) ((f 3).length+1) k3)) B pb (.slice (some ⟨q0,0,none⟩) (f 0).length c0) (.slice a1 (f 1).length c1) (.slice (some ⟨q2,0,none⟩) (f 2).length c2) (.slice (some ⟨g3,0,none⟩) ((f 3).length+1) k3) (.slice a4 (f 4).length c4) (.slice a5 (f 5).length c5) (upd (upd f 2 (setL (f 2) (((f 0).drop a).take (b-a)) (f 3).length)) 3 (f 3++[(a:Int)]))):=Pt.push3 (f:=(upd f 2 (setL (f 2) (((f 0).drop a).take (b-a)) (f 3).length))) (x:=(a:Int)) hPt.out (by rw[List.map_append];exact hown3) hgr3 (hat3.elim Or.inl (fun h=>Or.inr (by simpa using h)));have o4:(w3.setCell ⟨pb,3,none⟩ (.slice (some ⟨g3,0,none⟩) ((f 3).length+1) k3)).ownsRow B 3 1 (.slice a4 (f 4).length c4) (f 4).length ((f 4).map (Value.int .i64)):=hP3.out.fm.own 4 (by simp);have hoz4:=World.ownsRow.alloc o4 (.cells #[.int .i64 (b:Int)] 3);have hs3:(w3.setCell ⟨pb,3,none⟩ (.slice (some ⟨g3,0,none⟩) ((f 3).length+1) k3)).heap.size=w3.heap.size:=(by simp);have hnews4:=heap_alloc_new (w3.setCell ⟨pb,3,none⟩ (.slice (some ⟨g3,0,none⟩) ((f 3).length+1) k3)) (.cells #[.int .i64 (b:Int)] 3);rw[hs3] at hnews4;clear hs3)
    | (at_builtin;refine wpList_append_lies _ rfl _ _ _ rfl B 3 i0 (.int .i64 0) 1 8 Tryz.underlying36 hi hj0 hj1 hj2 rfl (by decide) _ (f 4).length ((f 4).map (Value.int .i64)) rfl hoz4 ⟨w3.heap.size,0,none⟩ 1 1 [.int .i64 (b:Int)] rfl rfl (World.news_of_block (cs:=#[.int .i64 (b:Int)]) (t:=3) (fr:=(0,0)) hnews4) (by simp[Value.oneCell']) (by omega) (by unfold maxLen;omega) (by omega) (by simp;omega) (w3.heap.size+1) (by simp) ?_;clear hoz4;intro g4 k4 w4 hown4 hgr4 hat4 hlt4;have hb4:=Pt.far (i:=4) hP3.out (by omega) rfl hgr4;have hbw4:=hgr4.size;simp at hbw4;clear z0 z1 z2 z3 z4 z5 y0 y1 y2 y3 y4 y5;obtain⟨⟨z0,z1,z2,z3,z4,z5⟩,y0,y1,y2,y3,y4,y5⟩:=blk6 hb4;have hP4:Hid (Pt (w4.setCell ⟨pb,4,none⟩ (.slice (some ⟨g4,0,none⟩) ((f 4).length+1) k4)) B pb (.slice (some ⟨q0,0,none⟩) (f 0).length c0) (.slice a1 (f 1).length c1) (.slice (some ⟨q2,0,none⟩) (f 2).length c2) (.slice (some ⟨g3,0,none⟩) ((f 3).length+1) k3) (.slice (some ⟨g4,0,none⟩) ((f 4).length+1) k4) (.slice a5 (f 5).length c5) (upd (upd (upd f 2 (setL (f 2) (((f 0).drop a).take (b-a)) (f 3).length)) 3 (f 3++[(a:Int)])) 4 (f 4++[(b:Int)]))):=Pt.push4 (f:=(upd (upd f 2 (setL (f 2) (((f 0).drop a).take (b-a)) (f 3).length)) 3 (f 3++[(a:Int)]))) (x:=(b:Int)) hP3.out (by rw[List.map_append];exact hown4) hgr4 (hat4.elim Or.inl (fun h=>Or.inr (by simpa using h)));have o5:(w4.setCell ⟨pb,4,none⟩ (.slice (some ⟨g4,0,none⟩) ((f 4).length+1) k4)).ownsRow B 3 1 (.slice a5 (f 5).length c5) (f 5).length ((f 5).map (Value.int .i64)):=hP4.out.fm.own 5 (by simp);have hoz5:=World.ownsRow.alloc o5 (.cells #[.int .i64 0] 3);have hs4:(w4.setCell ⟨pb,4,none⟩ (.slice (some ⟨g4,0,none⟩) ((f 4).length+1) k4)).heap.size=w4.heap.size:=(by simp);have hnews5:=heap_alloc_new (w4.setCell ⟨pb,4,none⟩ (.slice (some ⟨g4,0,none⟩) ((f 4).length+1) k4)) (.cells #[.int .i64 0] 3);rw[hs4] at hnews5;clear hs4)
    | (at_builtin;refine wpList_append_lies _ rfl _ _ _ rfl B 3 i0 (.int .i64 0) 1 8 Tryz.underlying36 hi hj0 hj1 hj2 rfl (by decide) _ (f 5).length ((f 5).map (Value.int .i64)) rfl hoz5 ⟨w4.heap.size,0,none⟩ 1 1 [.int .i64 0] rfl rfl (World.news_of_block (cs:=#[.int .i64 0]) (t:=3) (fr:=(0,0)) hnews5) (by simp[Value.oneCell']) (by omega) (by unfold maxLen;omega) (by omega) (by simp;omega) (w4.heap.size+1) (by simp) ?_;clear hoz5;intro g5 k5 w5 hown5 hgr5 hat5 hlt5;have hb5:=Pt.far (i:=5) hP4.out (by omega) rfl hgr5;have hbw5:=hgr5.size;simp at hbw5;clear z0 z1 z2 z3 z4 z5 y0 y1 y2 y3 y4 y5;obtain⟨⟨z0,z1,z2,z3,z4,z5⟩,y0,y1,y2,y3,y4,y5⟩:=blk6 hb5;have hP5:Hid (Pt (w5.setCell ⟨pb,5,none⟩ (.slice (some ⟨g5,0,none⟩) ((f 5).length+1) k5)) B pb (.slice (some ⟨q0,0,none⟩) (f 0).length c0) (.slice a1 (f 1).length c1) (.slice (some ⟨q2,0,none⟩) (f 2).length c2) (.slice (some ⟨g3,0,none⟩) ((f 3).length+1) k3) (.slice (some ⟨g4,0,none⟩) ((f 4).length+1) k4) (.slice (some ⟨g5,0,none⟩) ((f 5).length+1) k5) (upd (upd (upd (upd f 2 (setL (f 2) (((f 0).drop a).take (b-a)) (f 3).length)) 3 (f 3++[(a:Int)])) 4 (f 4++[(b:Int)])) 5 (f 5++[0]))):=Pt.push5 (f:=(upd (upd (upd f 2 (setL (f 2) (((f 0).drop a).take (b-a)) (f 3).length)) 3 (f 3++[(a:Int)])) 4 (f 4++[(b:Int)]))) (x:=0) hP4.out (by rw[List.map_append];exact hown5) hgr5 (hat5.elim Or.inl (fun h=>Or.inr (by simpa using h)))))
   go_end0
   have hpbm:pb∈pb::blocks [.slice (some ⟨q0,0,none⟩) (f 0).length c0,.slice a1 (f 1).length c1,.slice (some ⟨q2,0,none⟩) (f 2).length c2,.slice a3 (f 3).length c3,.slice a4 (f 4).length c4,.slice a5 (f 5).length c5]:=by simp
   have m2:∀k,k∈blocks [.slice (some ⟨q0,0,none⟩) (f 0).length c0,.slice a1 (f 1).length c1,.slice (some ⟨q2,0,none⟩) (f 2).length c2,.slice a3 (f 3).length c3,.slice a4 (f 4).length c4,.slice a5 (f 5).length c5]->k∈pb::blocks [.slice (some ⟨q0,0,none⟩) (f 0).length c0,.slice a1 (f 1).length c1,.slice (some ⟨q2,0,none⟩) (f 2).length c2,.slice a3 (f 3).length c3,.slice a4 (f 4).length c4,.slice a5 (f 5).length c5]:=fun k hk=>List.mem_cons_of_mem _ hk
   have r3:∀r,Value.ownBlock (.slice a3 (f 3).length c3)=some r->r∈pb::blocks [.slice (some ⟨q0,0,none⟩) (f 0).length c0,.slice a1 (f 1).length c1,.slice (some ⟨q2,0,none⟩) (f 2).length c2,.slice a3 (f 3).length c3,.slice a4 (f 4).length c4,.slice a5 (f 5).length c5]:=fun r e=>m2 r (mem_blocks (i:=3) (by simp) e)
   have r4:∀r,Value.ownBlock (.slice a4 (f 4).length c4)=some r->r∈pb::blocks [.slice (some ⟨q0,0,none⟩) (f 0).length c0,.slice a1 (f 1).length c1,.slice (some ⟨q2,0,none⟩) (f 2).length c2,.slice a3 (f 3).length c3,.slice a4 (f 4).length c4,.slice a5 (f 5).length c5]:=fun r e=>m2 r (mem_blocks (i:=4) (by simp) e)
   have r5:∀r,Value.ownBlock (.slice a5 (f 5).length c5)=some r->r∈pb::blocks [.slice (some ⟨q0,0,none⟩) (f 0).length c0,.slice a1 (f 1).length c1,.slice (some ⟨q2,0,none⟩) (f 2).length c2,.slice a3 (f 3).length c3,.slice a4 (f 4).length c4,.slice a5 (f 5).length c5]:=fun r e=>m2 r (mem_blocks (i:=5) (by simp) e)
   have d1:Ch (pb::blocks [.slice (some ⟨q0,0,none⟩) (f 0).length c0,.slice a1 (f 1).length c1,.slice (some ⟨q2,0,none⟩) (f 2).length c2,.slice a3 (f 3).length c3,.slice a4 (f 4).length c4,.slice a5 (f 5).length c5]) w wr:=hCh.out.mono (fun k hk=>by
    have e:k=q2:=by simpa using hk
    subst e
    exact m2 k (mem_blocks (i:=2) (by simp) rfl))
   have hw:=d1.size
   have d3:=(((d1.alloc (.cells #[.int .i64 (a:Int)] 3)).grown hgr3 (fun r e=>Or.inl (r3 r e))).put (i:=3) (.slice (some ⟨g3,0,none⟩) ((f 3).length+1) k3) hpbm)
   have d4:=(((d3.alloc (.cells #[.int .i64 (b:Int)] 3)).grown hgr4 (fun r e=>Or.inl (r4 r e))).put (i:=4) (.slice (some ⟨g4,0,none⟩) ((f 4).length+1) k4) hpbm)
   have d5:=(((d4.alloc (.cells #[.int .i64 0] 3)).grown hgr5 (fun r e=>Or.inl (r5 r e))).put (i:=5) (.slice (some ⟨g5,0,none⟩) ((f 5).length+1) k5) hpbm)
   refine⟨rfl,_,_,_,hP5.out,d5,fun k hk=>?_⟩
   have hk':k=g3∨k=g4∨k=g5:=by simpa[blocks,Value.ownBlock] using hk
   rcases hk' with rfl | rfl | rfl
   ·rcases hat3 with h | h
    ·exact Or.inl (mem_blocks (i:=3) (by simp) h)
    ·exact Or.inr (by omega)
   ·rcases hat4 with h | h
    ·exact Or.inl (mem_blocks (i:=4) (by simp) h)
    ·exact Or.inr (by omega)
   ·rcases hat5 with h | h
    ·exact Or.inl (mem_blocks (i:=5) (by simp) h)
    ·exact Or.inr (by omega)
end Go.Proofs.YtpkojcfdkkjmcaaGreatDoor
namespace Go.Proofs.YtpkojcfdkkjmcaaGreatDoor
set_option maxRecDepth 100000
open Go.RowKit
theorem Fm.cell {w:World} {B:Nat} {vs:List Value} {f:Nat->List Int} (h:Fm w B vs f) {i q c j:Nat} (hi:i<vs.length) (hv:vs.getD i undef=.slice (some ⟨q,0,none⟩) (f i).length c) (hj:j<(f i).length):w.cell? ⟨q,j,none⟩=some (.int .i64 ((f i).getD j 0))/\w.frozen? ⟨q,j,none⟩=false:=by
 have ho:=h.own i hi
 rw[hv] at ho
 refine⟨?_,?_⟩
 ·have:=ho.cells (g:=q) rfl j (.int .i64 ((f i).getD j 0)) (by simp[List.getD,hj])
  rw[Addr.add_lit,Nat.zero_add] at this
  exact this
 ·obtain⟨cur,hc,_⟩:=own_block_obj ho rfl
  simp[World.frozen?,hc]
theorem Pt.set0 {w:World} {B pb q c t m:Nat} {v1 v2 v3 v4 v5:Value} {f:Nat->List Int} (h:Pt w B pb (.slice (some ⟨q,0,none⟩) m c) v1 v2 v3 v4 v5 f) (hm:(f 0).length=m) (x:Int):Pt (w.setCell ⟨q,t,none⟩ (.int .i64 x)) B pb (.slice (some ⟨q,0,none⟩) m c) v1 v2 v3 v4 v5 (upd f 0 ((f 0).set t x)):=by
 subst hm
 have hne:pb≠q:=fun e=>h.fm.ty h.blk (by decide) (mem_blocks (i:=0) (by simp) (by rw[e];rfl))
 refine⟨by rw[Below.heap_setCell _ _ _ _ hne];exact h.blk,?_,h.ge⟩
 exact Fm.set (i:=0) (t:=t) h.fm (by simp) rfl x
theorem Pt.set1 {w:World} {B pb q c t m:Nat} {v0 v2 v3 v4 v5:Value} {f:Nat->List Int} (h:Pt w B pb v0 (.slice (some ⟨q,0,none⟩) m c) v2 v3 v4 v5 f) (hm:(f 1).length=m) (x:Int):Pt (w.setCell ⟨q,t,none⟩ (.int .i64 x)) B pb v0 (.slice (some ⟨q,0,none⟩) m c) v2 v3 v4 v5 (upd f 1 ((f 1).set t x)):=by
 subst hm
 have hne:pb≠q:=fun e=>h.fm.ty h.blk (by decide) (mem_blocks (i:=1) (by simp) (by rw[e];rfl))
 refine⟨by rw[Below.heap_setCell _ _ _ _ hne];exact h.blk,?_,h.ge⟩
 exact Fm.set (i:=1) (t:=t) h.fm (by simp) rfl x
theorem Pt.set5 {w:World} {B pb q c t m:Nat} {v0 v1 v2 v3 v4:Value} {f:Nat->List Int} (h:Pt w B pb v0 v1 v2 v3 v4 (.slice (some ⟨q,0,none⟩) m c) f) (hm:(f 5).length=m) (x:Int):Pt (w.setCell ⟨q,t,none⟩ (.int .i64 x)) B pb v0 v1 v2 v3 v4 (.slice (some ⟨q,0,none⟩) m c) (upd f 5 ((f 5).set t x)):=by
 subst hm
 have hne:pb≠q:=fun e=>h.fm.ty h.blk (by decide) (mem_blocks (i:=5) (by simp) (by rw[e];rfl))
 refine⟨by rw[Below.heap_setCell _ _ _ _ hne];exact h.blk,?_,h.ge⟩
 exact Fm.set (i:=5) (t:=t) h.fm (by simp) rfl x
theorem Pt.drewN {w:World} {B pb:Nat} {v0 v1 v2 v3 v4 v5:Value} {f:Nat->List Int} (h:Pt w B pb v0 v1 v2 v3 v4 v5 f) (q:Nat):Pt (w.drewN q) B pb v0 v1 v2 v3 v4 v5 f:=⟨h.blk,⟨fun i hi=>own_block (h.fm.own i hi) (fun _ _=>rfl),h.fm.nd⟩,h.ge⟩
theorem Fm.cellN {w:World} {B:Nat} {vs:List Value} {f:Nat->List Int} (h:Fm w B vs f) {i q c j n:Nat} (hi:i<vs.length) (hv:vs.getD i undef=.slice (some ⟨q,0,none⟩) n c) (hn:(f i).length=n) (hj:j<n):w.cell? ⟨q,j,none⟩=some (.int .i64 ((f i).getD j 0))/\w.frozen? ⟨q,j,none⟩=false:=by
 subst hn
 exact h.cell hi hv hj
set_option maxHeartbeats 4000000 in
theorem mark_any {w:World} {B pb n c a o m p:Nat} {v0 v1 v2 v3 v4 v5:Value} {f:Nat->List Int} (hP:Pt w B pb v0 v1 v2 v3 v4 v5 f) (hl:∀i,(f i).length<=4500)
  (h0:(f 1).length=(f 0).length) (h2:(f 2).length=(f 0).length) (hn:n<(f 0).length) (hc:(f 2).getD n 0=(c:Int)) (hc3:c<(f 3).length) (hc5:c<(f 5).length) (h3:(f 3).getD c 0=(a:Int)) (h5:(f 5).getD c 0=(m:Int)) (ham:a+m<(f 0).length) (ho:(f 0).getD (a+m) 0=(o:Int)) (hor:o<(f 0).length) (hp:(f 1).getD n 0=(p:Int)) (hpr:p<(f 0).length) :
  Calls Tryz.prog 186 #[.pointer (some ⟨pb,0,none⟩),.int .i64 n] w fun e w'=>e=.returned (.tuple #[])/\Pt w' B pb v0 v1 v2 v3 v4 v5 (upd (upd (upd f 0 (((f 0).set p (o:Int)).set (a+m) (n:Int))) 1 (((f 1).set o (p:Int)).set n ((a:Int)+(m:Int)))) 5 ((f 5).set c ((m:Int)+1)))/\Ch (blocks [v0,v1,v2,v3,v4,v5]) w w':=by
 obtain⟨q0,c0,rfl,_⟩:∃q c,v0=.slice (some ⟨q,0,none⟩) (f 0).length c/\v0.ownBlock=some q:=(own_form (hP.fm.own 0 (by simp))).resolve_left (fun h=>by omega)
 obtain⟨q1,c1,rfl,_⟩:∃q c,v1=.slice (some ⟨q,0,none⟩) (f 1).length c/\v1.ownBlock=some q:=(own_form (hP.fm.own 1 (by simp))).resolve_left (fun h=>by omega)
 obtain⟨q2,c2,rfl,_⟩:∃q c,v2=.slice (some ⟨q,0,none⟩) (f 2).length c/\v2.ownBlock=some q:=(own_form (hP.fm.own 2 (by simp))).resolve_left (fun h=>by omega)
 obtain⟨q3,c3,rfl,_⟩:∃q c,v3=.slice (some ⟨q,0,none⟩) (f 3).length c/\v3.ownBlock=some q:=(own_form (hP.fm.own 3 (by simp))).resolve_left (fun h=>by omega)
 obtain⟨q5,c5,rfl,_⟩:∃q c,v5=.slice (some ⟨q,0,none⟩) (f 5).length c/\v5.ownBlock=some q:=(own_form (hP.fm.own 5 (by simp))).resolve_left (fun h=>by omega)
 obtain⟨_,_,_,_,⟨a4,c4,rfl⟩,_⟩:=hP.sl
 obtain⟨⟨z0,z1,z2,z3,z4,z5⟩,_⟩:=blk6 hP.blk
 have k2:=hP.fm.cell (i:=2) (j:=n) (by simp) rfl (by omega)
 have k3:=hP.fm.cell (i:=3) (j:=c) (by simp) rfl hc3
 have k5:=hP.fm.cell (i:=5) (j:=c) (by simp) rfl hc5
 have k0:=hP.fm.cell (i:=0) (j:=a+m) (by simp) rfl ham
 have k1:=hP.fm.cell (i:=1) (j:=n) (by simp) rfl (by omega)
 rw[hc] at k2
 rw[h3] at k3
 rw[h5] at k5
 rw[ho] at k0
 rw[hp] at k1
 obtain⟨k2,_⟩:=k2
 obtain⟨k3,_⟩:=k3
 obtain⟨k5,k5f⟩:=k5
 obtain⟨k0,k0f⟩:=k0
 obtain⟨k1,k1f⟩:=k1
 have hl0:=hl 0
 have hn1:n<(f 1).length:=by omega
 have hn2:n<(f 2).length:=by omega
 have hor1:o<(f 1).length:=by omega
 have hwr:IntKind.i64.wrap ((a:Int)+(m:Int))=((a+m:Nat):Int):=by rw[IntKind.wrap_i64];omega
 have hh5:=hid h5
 have hl5:=hl 5
 clear hc h3 h5 ho hp hl h0 h2
 go_enter Tryz.func186,Tryz.ntmps186
 go_wp2
 go_quiet (fail)
 have x0:=hP.fm.cell (i:=0) (j:=p) (by simp) rfl hpr
 have x1:=hP.fm.cell (i:=1) (j:=o) (by simp) rfl hor1
 obtain⟨x0,x0f⟩:=x0
 obtain⟨x1,x1f⟩:=x1
 have hP0:=hP.drewN (nq+1)
 have n10:¬q1=q0:=fun e=>hP.fm.nd 1 0 q1 q0 (by simp) (by simp) (by omega) rfl rfl e
 have n01:¬q0=q1:=fun e=>n10 e.symm
 have np0:¬pb=q0:=fun e=>hP.fm.ty hP.blk (by decide) (mem_blocks (i:=0) (by simp) (by rw[e];rfl))
 have np1:¬pb=q1:=fun e=>hP.fm.ty hP.blk (by decide) (mem_blocks (i:=1) (by simp) (by rw[e];rfl))
 go_wp2
 have hP1:=((hP0.set0 (t:=p) rfl (o:Int)).set1 (t:=o) rfl (p:Int))
 have m0:q0∈blocks [.slice (some ⟨q0,0,none⟩) (f 0).length c0,.slice (some ⟨q1,0,none⟩) (f 1).length c1,.slice (some ⟨q2,0,none⟩) (f 2).length c2,.slice (some ⟨q3,0,none⟩) (f 3).length c3,.slice a4 (f 4).length c4,.slice (some ⟨q5,0,none⟩) (f 5).length c5]:=mem_blocks (i:=0) (by simp) rfl
 have m1:q1∈blocks [.slice (some ⟨q0,0,none⟩) (f 0).length c0,.slice (some ⟨q1,0,none⟩) (f 1).length c1,.slice (some ⟨q2,0,none⟩) (f 2).length c2,.slice (some ⟨q3,0,none⟩) (f 3).length c3,.slice a4 (f 4).length c4,.slice (some ⟨q5,0,none⟩) (f 5).length c5]:=mem_blocks (i:=1) (by simp) rfl
 have m5:q5∈blocks [.slice (some ⟨q0,0,none⟩) (f 0).length c0,.slice (some ⟨q1,0,none⟩) (f 1).length c1,.slice (some ⟨q2,0,none⟩) (f 2).length c2,.slice (some ⟨q3,0,none⟩) (f 3).length c3,.slice a4 (f 4).length c4,.slice (some ⟨q5,0,none⟩) (f 5).length c5]:=mem_blocks (i:=5) (by simp) rfl
 have hC1:Ch (blocks [.slice (some ⟨q0,0,none⟩) (f 0).length c0,.slice (some ⟨q1,0,none⟩) (f 1).length c1,.slice (some ⟨q2,0,none⟩) (f 2).length c2,.slice (some ⟨q3,0,none⟩) (f 3).length c3,.slice a4 (f 4).length c4,.slice (some ⟨q5,0,none⟩) (f 5).length c5]) w (((w.drewN (nq+1)).setCell ⟨q0,p,none⟩ (.int .i64 (o:Int))).setCell ⟨q1,o,none⟩ (.int .i64 (p:Int))):=((show Ch _ w (w.drewN (nq+1)) from ⟨rfl,rfl,rfl,Nat.le_refl _,fun _ _ _=>rfl⟩).put _ m0).put _ m1
 go_big_region
 generalize (((w.drewN (nq+1)).setCell ⟨q0,p,none⟩ (.int .i64 (o:Int))).setCell ⟨q1,o,none⟩ (.int .i64 (p:Int)))=w1 at hP1 hC1 ⊢
 have hCh:=hid hC1
 have hm0:=hid m0
 have hm1:=hid m1
 have hm5:=hid m5
 clear z0 z1 z2 z3 z4 z5 k0 k1 k2 k3 k5 k0f k1f k5f x0 x1 x0f x1f hP0 hP hC1 m0 m1 m5
 obtain⟨⟨z0,z1,z2,z3,z4,z5⟩,_⟩:=blk6 hP1.blk
 have y0:=hP1.fm.cellN (i:=0) (j:=a+m) (by simp) rfl (by show ((f 0).set p (o:Int)).length=_;simp) ham
 have y1:=hP1.fm.cellN (i:=1) (j:=n) (by simp) rfl (by show ((f 1).set o (p:Int)).length=_;simp) hn1
 obtain⟨y0,y0f⟩:=y0
 obtain⟨y1,y1f⟩:=y1
 have hP2:=hid ((hP1.set0 (t:=a+m) (by show ((f 0).set p (o:Int)).length=_;simp) (n:Int)).set1 (t:=n) (by show ((f 1).set o (p:Int)).length=_;simp) ((a:Int)+(m:Int)))
 have hC2:=hid ((hCh.out.put (i:=a+m) (.int .i64 (n:Int)) hm0.out).put (i:=n) (.int .i64 ((a:Int)+(m:Int))) hm1.out)
 generalize (upd (upd f 0 ((f 0).set p (o:Int))) 1 ((upd f 0 ((f 0).set p (o:Int)) 1).set o (p:Int)) 0).getD (a+m) 0=Y0 at y0
 generalize (upd (upd f 0 ((f 0).set p (o:Int))) 1 ((upd f 0 ((f 0).set p (o:Int)) 1).set o (p:Int)) 1).getD n 0=Y1 at y1
 go_wp2
 go_big_region
 have hP3:=hP2.out.drew
 have hC3:=hC2.out.drew
 generalize ((w1.setCell ⟨q0,a+m,none⟩ (.int .i64 (n:Int))).setCell ⟨q1,n,none⟩ (.int .i64 ((a:Int)+(m:Int)))).drew=w2 at hP3 hC3 ⊢
 have hCe:=hid (hC3.put (i:=c) (.int .i64 ((m:Int)+1)) hm5.out)
 have hPe:=hid (hP3.set5 (t:=c) rfl ((m:Int)+1))
 have y5:=hP3.fm.cellN (i:=5) (j:=c) (by simp) rfl rfl hc5
 have y5c:w2.cell? ⟨q5,c,none⟩=some (.int .i64 (m:Int)):=by
  rw[←hh5.out]
  exact y5.1
 have y5f:=y5.2
 clear z0 z1 z2 z3 z4 z5 y0 y1 y0f y1f y5 hP1 hP2 hC2 hCh
 obtain⟨⟨z0,z1,z2,z3,z4,z5⟩,_⟩:=blk6 hP3.blk
 have hm4:(m:Int)<=4500:=by omega
 clear hP3 hC3
 go_wp2
 go_end0
 refine⟨rfl,?_,hCe.out⟩
 have hf:∀F:Nat->List Int,(∀j,(upd (upd (upd f 0 (((f 0).set p (o:Int)).set (a+m) (n:Int))) 1 (((f 1).set o (p:Int)).set n ((a:Int)+(m:Int)))) 5 ((f 5).set c ((m:Int)+1))) j=F j)->upd (upd (upd f 0 (((f 0).set p (o:Int)).set (a+m) (n:Int))) 1 (((f 1).set o (p:Int)).set n ((a:Int)+(m:Int)))) 5 ((f 5).set c ((m:Int)+1))=F:=fun F h=>funext h
 rw[hf _ (fun j=>?_)]
 ·exact hPe.out
 ·skip
  by_cases e5:j=5
  ·subst e5
   rfl
  ·by_cases e1:j=1
   ·subst e1
    rfl
   ·by_cases e0:j=0
    ·subst e0
     rfl
    ·simp[upd,e5,e1,e0]
end Go.Proofs.YtpkojcfdkkjmcaaGreatDoor
namespace Go.Proofs.YtpkojcfdkkjmcaaGreatDoor
set_option maxRecDepth 100000
open Go.RowKit
structure Ps where
 C:Nat
 nd:Nat->Nat
 pl:Nat->Nat
 cl:Nat->Nat
 fi:Nat->Nat
 be:Nat->Nat
 mq:Nat->Nat
def rowF (N:Nat) (g:Nat->Nat):List Int:=(List.range N).map (fun i=>(g i:Int))
theorem rowF_len (N:Nat) (g:Nat->Nat):(rowF N g).length=N:=by simp[rowF]
theorem rowF_get {N i:Nat} (g:Nat->Nat) (h:i<N):(rowF N g).getD i 0=(g i:Int):=by simp[rowF,List.getD,h]
theorem rowF_set (N t x:Nat) (g:Nat->Nat):(rowF N g).set t (x:Int)=rowF N (upd g t x):=by
 apply List.ext_getElem
 ·simp[rowF]
 ·intro i h1 h2
  simp only[rowF,List.getElem_set,List.getElem_map,List.getElem_range,upd]
  by_cases e:t=i
  ·rw[if_pos e,if_pos e.symm]
  ·rw[if_neg e,if_neg (fun e'=>e e'.symm)]
theorem rowF_snoc (C x:Nat) (g:Nat->Nat):rowF C g++[(x:Int)]=rowF (C+1) (upd g C x):=by
 unfold rowF
 rw[List.range_succ,List.map_append]
 congr 1
 ·apply List.map_congr_left
  intro i hi
  have:=List.mem_range.1 hi
  rw[upd_other _ _ (by omega)]
 ·simp[upd]
theorem rowF_congr {N:Nat} {g h:Nat->Nat} (e:∀i,i<N->g i=h i):rowF N g=rowF N h:=by
 unfold rowF
 apply List.map_congr_left
 intro i hi
 rw[e i (List.mem_range.1 hi)]
def Ps.rows (S:Ps) (N:Nat) (i:Nat):List Int:=
 if i=0 then rowF N S.nd else if i=1 then rowF N S.pl else if i=2 then rowF N S.cl else if i=3 then rowF S.C S.fi else if i=4 then rowF S.C S.be else rowF S.C S.mq
structure Iv (N:Nat) (S:Ps):Prop where
 pn:∀n,n<N->S.pl n<N/\S.nd (S.pl n)=n
 np:∀i,i<N->S.nd i<N/\S.pl (S.nd i)=i
 cls:∀n,n<N->S.cl n<S.C
 rng:∀c,c<S.C->S.fi c<S.be c/\S.be c<=N/\S.fi c+S.mq c<=S.be c
 mem:∀n c,n<N->c<S.C->(S.cl n=c↔S.fi c<=S.pl n/\S.pl n<S.be c)
def Ps.mkd (S:Ps) (n:Nat):Prop:=S.pl n<S.fi (S.cl n)+S.mq (S.cl n)
theorem Iv.first {N:Nat} {S:Ps} (h:Iv N S) {c:Nat} (hc:c<S.C):S.nd (S.fi c)<N/\S.cl (S.nd (S.fi c))=c:=by
 obtain⟨h1,h2,_⟩:=h.rng c hc
 have h3:=h.np (S.fi c) (by omega)
 refine⟨h3.1,(h.mem _ c h3.1 hc).2 ?_⟩
 rw[h3.2]
 omega
theorem Iv.le {N:Nat} {S:Ps} (h:Iv N S):S.C<=N:=by
 have:=pigeon N ((List.range S.C).map (fun c=>((S.nd (S.fi c):Nat):Int))) ?_ ?_
 ·simpa using this
 ·rw[List.nodup_iff_pairwise_ne,List.pairwise_map]
  have:=List.pairwise_lt_range (n:=S.C)
  refine List.Pairwise.imp_of_mem (R:=fun a b=>a<b) ?_ this
  intro a b ha hb hab e
  have ea:=h.first (List.mem_range.1 ha)
  have eb:=h.first (List.mem_range.1 hb)
  have e':S.nd (S.fi a)=S.nd (S.fi b):=by omega
  rw[e'] at ea
  omega
 ·intro x hx
  obtain⟨c,hc,rfl⟩:=List.mem_map.1 hx
  have:=h.first (List.mem_range.1 hc)
  omega
def Ps.mark (S:Ps) (n:Nat):Ps:=
 {S with
  nd:=upd (upd S.nd (S.pl n) (S.nd (S.fi (S.cl n)+S.mq (S.cl n)))) (S.fi (S.cl n)+S.mq (S.cl n)) n
  pl:=upd (upd S.pl (S.nd (S.fi (S.cl n)+S.mq (S.cl n))) (S.pl n)) n (S.fi (S.cl n)+S.mq (S.cl n))
  mq:=upd S.mq (S.cl n) (S.mq (S.cl n)+1) }
theorem Iv.at {N:Nat} {S:Ps} (h:Iv N S) {n:Nat} (hn:n<N) (hm:¬S.mkd n):S.fi (S.cl n)+S.mq (S.cl n)<N/\S.fi (S.cl n)+S.mq (S.cl n)<=S.pl n/\S.cl (S.nd (S.fi (S.cl n)+S.mq (S.cl n)))=S.cl n:=by
 have h1:=(h.mem n (S.cl n) hn (h.cls n hn)).1 rfl
 have h2:=h.rng (S.cl n) (h.cls n hn)
 unfold Ps.mkd at hm
 have h3:S.fi (S.cl n)+S.mq (S.cl n)<N:=by omega
 have h4:=h.np _ h3
 refine⟨h3,by omega,(h.mem _ _ h4.1 (h.cls n hn)).2 ?_⟩
 rw[h4.2]
 omega
theorem Iv.mark {N:Nat} {S:Ps} (h:Iv N S) {n:Nat} (hn:n<N) (hm:¬S.mkd n):Iv N (S.mark n)/\∀m,m<N->((S.mark n).mkd m↔S.mkd m∨m=n):=by
 obtain⟨h3,h5,h6⟩:=h.at hn hm
 have h4:=h.np _ h3
 have hc:=h.cls n hn
 have hp:=h.pn n hn
 have hmn:=(h.mem n (S.cl n) hn hc).1 rfl
 have hrc:=h.rng (S.cl n) hc
 generalize hA:S.fi (S.cl n)+S.mq (S.cl n)=A at h3 h4 h5 h6
 generalize hO:S.nd A=o at h4 h6
 have hpl:∀m,(S.mark n).pl m=if m=n then A else if m=o then S.pl n else S.pl m:=fun m=>by
  simp only[Ps.mark,upd,hA,hO]
 have hnd:∀i,(S.mark n).nd i=if i=A then n else if i=S.pl n then o else S.nd i:=fun i=>by
  simp only[Ps.mark,upd,hA,hO]
 have hmk:∀c,(S.mark n).mq c=if c=S.cl n then S.mq (S.cl n)+1 else S.mq c:=fun c=>by
  simp only[Ps.mark,upd]
 have ecl:(S.mark n).cl=S.cl:=rfl
 have efi:(S.mark n).fi=S.fi:=rfl
 have ebe:(S.mark n).be=S.be:=rfl
 have eC:(S.mark n).C=S.C:=rfl
 have hne:o≠n->A≠S.pl n:=fun e e'=>e (by rw[←hO,e'];exact hp.2)
 have hun:S.mkd n=(S.pl n<A):=by unfold Ps.mkd;rw[hA]
 refine⟨⟨fun m hm'=>?_,fun i hi=>?_,fun m hm'=>?_,fun c hc'=>?_,fun m c hm' hc'=>?_⟩,fun m hm'=>?_⟩
 ·have hpm:=h.pn m hm'
  rw[hpl]
  by_cases e1:m=n
  ·rw[if_pos e1]
   exact⟨h3,by rw[hnd,if_pos rfl];exact e1.symm⟩
  ·rw[if_neg e1]
   by_cases e2:m=o
   ·rw[if_pos e2]
    refine⟨hp.1,?_⟩
    rw[hnd,if_neg (fun e=>hne (fun e'=>e1 (e2.trans e')) e.symm),if_pos rfl]
    exact e2.symm
   ·rw[if_neg e2]
    refine⟨hpm.1,?_⟩
    rw[hnd,if_neg (fun e=>e2 (by rw[←hpm.2,e,hO])),if_neg (fun e=>e1 (by rw[←hpm.2,e,hp.2]))]
    exact hpm.2
 ·have hni:=h.np i hi
  rw[hnd]
  by_cases e1:i=A
  ·rw[if_pos e1]
   exact⟨hn,by rw[hpl,if_pos rfl];exact e1.symm⟩
  ·rw[if_neg e1]
   by_cases e2:i=S.pl n
   ·rw[if_pos e2]
    refine⟨h4.1,?_⟩
    by_cases e3:o=n
    ·exfalso
     rw[e3] at h4
     exact e1 (e2.trans h4.2)
    ·rw[hpl,if_neg e3,if_pos rfl]
     exact e2.symm
   ·rw[if_neg e2]
    refine⟨hni.1,?_⟩
    rw[hpl,if_neg (fun e=>e2 (by rw[←hni.2,e])),if_neg (fun e=>e1 (by rw[←hni.2,e,h4.2]))]
    exact hni.2
 ·exact h.cls m hm'
 ·have:=h.rng c hc'
  rw[efi,ebe,hmk]
  by_cases e:c=S.cl n
  ·rw[if_pos e]
   subst e
   omega
  ·rw[if_neg e]
   exact this
 ·rw[ecl,efi,ebe,hpl]
  by_cases e1:m=n
  ·rw[if_pos e1]
   have:=h.mem o c h4.1 hc'
   rw[h6,h4.2] at this
   rw[e1]
   exact this
  ·rw[if_neg e1]
   by_cases e2:m=o
   ·rw[if_pos e2,e2,h6]
    exact h.mem n c hn hc'
   ·rw[if_neg e2]
    exact h.mem m c hm' hc'
 ·have hpm:=h.pn m hm'
  unfold Ps.mkd
  rw[ecl,efi,hpl,hmk]
  by_cases e1:m=n
  ·rw[if_pos e1,e1,if_pos rfl]
   exact⟨fun _=>Or.inr rfl,fun _=>by omega⟩
  ·rw[if_neg e1]
   by_cases e2:m=o
   ·rw[if_pos e2,e2,h6,if_pos rfl,h4.2]
    have:=hne (fun e'=>e1 (e2.trans e'))
    constructor
    ·intro h'
     omega
    ·rintro (h' | h')
     ·omega
     ·exact absurd (e2.trans h') e1
   ·rw[if_neg e2]
    have hA':S.pl m≠A:=fun e=>e2 (by rw[←hpm.2,e,hO])
    by_cases e3:S.cl m=S.cl n
    ·rw[if_pos e3,e3]
     constructor
     ·intro h'
      exact Or.inl (by omega)
     ·rintro (h' | h')
      ·omega
      ·exact absurd h' e1
    ·rw[if_neg e3]
     exact⟨Or.inl,fun h'=>h'.resolve_right e1⟩
def Ps.enter (S:Ps) (a b:Nat):Ps:=
 {S with
  C:=S.C+1
  cl:=fun n=>if a<=S.pl n/\S.pl n<b then S.C else S.cl n
  fi:=upd S.fi S.C a
  be:=upd S.be S.C b
  mq:=upd S.mq S.C 0 }
def Ps.split (S:Ps) (c:Nat):Ps:=
 if S.fi c+S.mq c=S.be c then { S with mq:=upd S.mq c 0 }
 else if S.mq c<=S.be c-(S.fi c+S.mq c) then ({ S with mq:=upd S.mq c 0,fi:=upd S.fi c (S.fi c+S.mq c) }:Ps).enter (S.fi c) (S.fi c+S.mq c)
 else ({ S with mq:=upd S.mq c 0,be:=upd S.be c (S.fi c+S.mq c) }:Ps).enter (S.fi c+S.mq c) (S.be c)
structure Cut (N:Nat) (S S':Ps) (c:Nat):Prop where
 iv:Iv N S'
 le:S.C<=S'.C
 out:∀n,n<N->S.cl n≠c->S'.cl n=S.cl n/\(S'.mkd n↔S.mkd n)
 ins:∀n,n<N->S.cl n=c->S'.cl n=c∨S'.cl n=S.C
 two:∀x y,x<N->y<N->S.cl x=c->S.cl y=c->(S'.cl x=S'.cl y↔(S.mkd x↔S.mkd y))
 mq:∀c',c'<S.C->c'≠c->S'.mq c'=S.mq c'
 mk0:∀c',c'<S'.C->(c'=c∨S.C<=c')->S'.mq c'=0
theorem Iv.split {N:Nat} {S:Ps} (h:Iv N S) {c:Nat} (hc:c<S.C) (hm:0<S.mq c):Cut N S (S.split c) c:=by
 have hr:=h.rng c hc
 have hmem:∀n,n<N->(S.cl n=c↔S.fi c<=S.pl n/\S.pl n<S.be c):=fun n hn=>h.mem n c hn hc
 have hmk:∀n,S.cl n=c->(S.mkd n↔S.pl n<S.fi c+S.mq c):=fun n e=>by unfold Ps.mkd;rw[e]
 unfold Ps.split
 by_cases e1:S.fi c+S.mq c=S.be c
 ·rw[if_pos e1]
  refine⟨⟨h.pn,h.np,h.cls,fun c' hc'=>?_,h.mem⟩,Nat.le_refl _,fun n hn hnc=>⟨rfl,?_⟩,fun n hn e=>Or.inl e,fun x y hx hy ex ey=>?_,fun c' _ hne=>upd_other _ _ hne,fun c' hc' h'=>?_⟩
  ·have:=h.rng c' hc'
   show S.fi c'<S.be c'/\S.be c'<=N/\S.fi c'+upd S.mq c 0 c'<=S.be c'
   by_cases e:c'=c
   ·subst e
    rw[upd_same]
    omega
   ·rw[upd_other _ _ e]
    exact this
  ·show S.pl n<S.fi (S.cl n)+upd S.mq c 0 (S.cl n)↔_
   rw[upd_other _ _ hnc]
   exact Iff.rfl
  ·have h1:=(hmem x hx).1 ex
   have h2:=(hmem y hy).1 ey
   rw[hmk x ex,hmk y ey]
   show (S.cl x=S.cl y↔_)
   rw[ex,ey]
   exact⟨fun _=>⟨fun _=>by omega,fun _=>by omega⟩,fun _=>rfl⟩
  ·rcases h' with h' | h'
   ·subst h'
    exact upd_same _ _ _
   ·have:c'<S.C:=hc'
    omega
 ·rw[if_neg e1]
  by_cases e2:S.mq c<=S.be c-(S.fi c+S.mq c)
  ·rw[if_pos e2]
   have hcC:c≠S.C:=by omega
   refine⟨⟨h.pn,h.np,fun n hn=>?_,fun c' hc'=>?_,fun n c' hn hc'=>?_⟩,Nat.le_succ _,fun n hn hnc=>?_,fun n hn e=>?_,fun x y hx hy ex ey=>?_,fun c' hc' hne=>?_,fun c' hc' h'=>?_⟩
   ·have:=h.cls n hn
    simp only[Ps.enter]
    split <;> omega
   ·simp only[Ps.enter] at hc' ⊢
    by_cases e:c'=S.C
    ·subst e
     simp only[upd_same]
     omega
    ·have:=h.rng c' (by omega)
     simp only[upd_other _ _ e]
     by_cases e':c'=c
     ·subst e'
      simp only[upd_same]
      omega
     ·simp only[upd_other _ _ e']
      exact this
   ·have h1:=h.cls n hn
    simp only[Ps.enter] at hc' ⊢
    by_cases e:c'=S.C
    ·subst e
     simp only[upd_same]
     constructor
     ·intro e'
      split at e'
      ·assumption
      ·omega
     ·intro e'
      rw[if_pos e']
    ·simp only[upd_other _ _ e]
     have h2:=h.mem n c' hn (by omega)
     by_cases e':c'=c
     ·subst e'
      simp only[upd_same]
      by_cases hi:S.fi c'<=S.pl n/\S.pl n<S.fi c'+S.mq c'
      ·rw[if_pos hi]
       omega
      ·rw[if_neg hi,h2]
       omega
     ·simp only[upd_other _ _ e']
      by_cases hi:S.fi c<=S.pl n/\S.pl n<S.fi c+S.mq c
      ·rw[if_pos hi]
       have h3:=(hmem n hn).2 (by omega)
       constructor
       ·intro e3
        omega
       ·intro e3
        have:=h2.2 e3
        omega
      ·rw[if_neg hi,h2]
   ·have h1:=h.cls n hn
    have h2:¬(S.fi c<=S.pl n/\S.pl n<S.fi c+S.mq c):=fun hi=>hnc ((hmem n hn).2 (by omega))
    unfold Ps.mkd
    simp only[Ps.enter]
    rw[if_neg h2]
    refine⟨rfl,?_⟩
    rw[upd_other _ _ (by omega:S.cl n≠S.C),upd_other _ _ (by omega:S.cl n≠S.C),upd_other _ _ hnc,upd_other _ _ hnc]
   ·simp only[Ps.enter]
    split
    ·exact Or.inr rfl
    ·exact Or.inl e
   ·have h1:=(hmem x hx).1 ex
    have h2:=(hmem y hy).1 ey
    rw[hmk x ex,hmk y ey]
    simp only[Ps.enter]
    by_cases hix:S.pl x<S.fi c+S.mq c
    ·rw[if_pos ⟨h1.1,hix⟩]
     by_cases hiy:S.pl y<S.fi c+S.mq c
     ·rw[if_pos ⟨h2.1,hiy⟩]
      simp[hix,hiy]
     ·rw[if_neg (fun h'=>hiy h'.2),ey]
      simp only[hix,hiy]
      constructor
      ·intro e'
       omega
      ·intro e'
       simp at e'
    ·rw[if_neg (fun h'=>hix h'.2),ex]
     by_cases hiy:S.pl y<S.fi c+S.mq c
     ·rw[if_pos ⟨h2.1,hiy⟩]
      simp only[hix,hiy]
      constructor
      ·intro e'
       omega
      ·intro e'
       simp at e'
     ·rw[if_neg (fun h'=>hiy h'.2),ey]
      simp[hix,hiy]
   ·simp only[Ps.enter]
    rw[upd_other _ _ (by omega:c'≠S.C),upd_other _ _ hne]
   ·simp only[Ps.enter] at hc' ⊢
    by_cases e:c'=S.C
    ·subst e
     exact upd_same _ _ _
    ·rcases h' with h' | h'
     ·subst h'
      rw[upd_other _ _ e,upd_same]
     ·omega
  ·rw[if_neg e2]
   have hcC:c≠S.C:=by omega
   refine⟨⟨h.pn,h.np,fun n hn=>?_,fun c' hc'=>?_,fun n c' hn hc'=>?_⟩,Nat.le_succ _,fun n hn hnc=>?_,fun n hn e=>?_,fun x y hx hy ex ey=>?_,fun c' hc' hne=>?_,fun c' hc' h'=>?_⟩
   ·have:=h.cls n hn
    simp only[Ps.enter]
    split <;> omega
   ·simp only[Ps.enter] at hc' ⊢
    by_cases e:c'=S.C
    ·subst e
     simp only[upd_same]
     omega
    ·have:=h.rng c' (by omega)
     simp only[upd_other _ _ e]
     by_cases e':c'=c
     ·subst e'
      simp only[upd_same]
      omega
     ·simp only[upd_other _ _ e']
      exact this
   ·have h1:=h.cls n hn
    simp only[Ps.enter] at hc' ⊢
    by_cases e:c'=S.C
    ·subst e
     simp only[upd_same]
     constructor
     ·intro e'
      split at e'
      ·assumption
      ·omega
     ·intro e'
      rw[if_pos e']
    ·simp only[upd_other _ _ e]
     have h2:=h.mem n c' hn (by omega)
     by_cases e':c'=c
     ·subst e'
      simp only[upd_same]
      by_cases hi:S.fi c'+S.mq c'<=S.pl n/\S.pl n<S.be c'
      ·rw[if_pos hi]
       omega
      ·rw[if_neg hi,h2]
       omega
     ·simp only[upd_other _ _ e']
      by_cases hi:S.fi c+S.mq c<=S.pl n/\S.pl n<S.be c
      ·rw[if_pos hi]
       have h3:=(hmem n hn).2 (by omega)
       constructor
       ·intro e3
        omega
       ·intro e3
        have:=h2.2 e3
        omega
      ·rw[if_neg hi,h2]
   ·have h1:=h.cls n hn
    have h2:¬(S.fi c+S.mq c<=S.pl n/\S.pl n<S.be c):=fun hi=>hnc ((hmem n hn).2 (by omega))
    unfold Ps.mkd
    simp only[Ps.enter]
    rw[if_neg h2]
    refine⟨rfl,?_⟩
    rw[upd_other _ _ (by omega:S.cl n≠S.C),upd_other _ _ (by omega:S.cl n≠S.C),upd_other _ _ hnc]
   ·simp only[Ps.enter]
    split
    ·exact Or.inr rfl
    ·exact Or.inl e
   ·have h1:=(hmem x hx).1 ex
    have h2:=(hmem y hy).1 ey
    rw[hmk x ex,hmk y ey]
    simp only[Ps.enter]
    by_cases hix:S.pl x<S.fi c+S.mq c
    ·rw[if_neg (by omega),ex]
     by_cases hiy:S.pl y<S.fi c+S.mq c
     ·rw[if_neg (by omega),ey]
      simp[hix,hiy]
     ·rw[if_pos (by omega)]
      simp only[hix,hiy]
      constructor
      ·intro e'
       omega
      ·intro e'
       simp at e'
    ·rw[if_pos (by omega)]
     by_cases hiy:S.pl y<S.fi c+S.mq c
     ·rw[if_neg (by omega),ey]
      simp only[hix,hiy]
      constructor
      ·intro e'
       omega
      ·intro e'
       simp at e'
     ·rw[if_pos (by omega)]
      simp[hix,hiy]
   ·simp only[Ps.enter]
    rw[upd_other _ _ (by omega:c'≠S.C),upd_other _ _ hne]
   ·simp only[Ps.enter] at hc' ⊢
    by_cases e:c'=S.C
    ·subst e
     exact upd_same _ _ _
    ·rcases h' with h' | h'
     ·subst h'
      rw[upd_other _ _ e,upd_same]
     ·omega
theorem Cut.fine {N:Nat} {S S':Ps} {c:Nat} (h:Iv N S) (k:Cut N S S' c) (_hc:c<S.C) {x y:Nat} (hx:x<N) (hy:y<N) (e:S'.cl x=S'.cl y):S.cl x=S.cl y:=by
 have h1:=h.cls x hx
 have h2:=h.cls y hy
 by_cases ex:S.cl x=c
 ·by_cases ey:S.cl y=c
  ·rw[ex,ey]
  ·exfalso
   have:=(k.out y hy ey).1
   rcases k.ins x hx ex with h3 | h3 <;> omega
 ·have h4:=(k.out x hx ex).1
  by_cases ey:S.cl y=c
  ·exfalso
   rcases k.ins y hy ey with h3 | h3 <;> omega
  ·have h5:=(k.out y hy ey).1
   omega
structure Mk (N:Nat) (S0 S:Ps) (L T:List Nat):Prop where
 iv:Iv N S
 C:S.C=S0.C
 cl:S.cl=S0.cl
 mkd:∀n,n<N->(S.mkd n↔n∈L)
 tch:∀c,c<S.C->(c∈T↔0<S.mq c)
 nodup:T.Nodup
 rng:∀c∈T,c<S.C
theorem Mk.start {N:Nat} {S:Ps} (h:Iv N S) (h0:∀c,c<S.C->S.mq c=0):Mk N S S [] []:=by
 refine⟨h,rfl,rfl,fun n hn=>?_,fun c hc=>?_,List.nodup_nil,by simp⟩
 ·have h1:=(h.mem n _ hn (h.cls n hn)).1 rfl
  have h2:=h0 _ (h.cls n hn)
  unfold Ps.mkd
  rw[h2]
  constructor
  ·intro h3
   omega
  ·intro h3
   simp at h3
 ·have:=h0 c hc
  constructor
  ·intro h3
   simp at h3
  ·intro h3
   omega
theorem Mk.step {N:Nat} {S0 S:Ps} {L T:List Nat} (h:Mk N S0 S L T) {n:Nat} (hn:n<N) (hL:n∉L):Mk N S0 (S.mark n) (L++[n]) (if S.mq (S.cl n)=0 then T++[S.cl n] else T):=by
 have hu:¬S.mkd n:=fun h'=>hL ((h.mkd n hn).1 h')
 obtain⟨h1,h2⟩:=h.iv.mark hn hu
 have hc:=h.iv.cls n hn
 have hmk:∀c,(S.mark n).mq c=if c=S.cl n then S.mq (S.cl n)+1 else S.mq c:=fun c=>by
  simp only[Ps.mark,upd]
 refine⟨h1,h.C,h.cl,fun m hm=>?_,fun c hc'=>?_,?_,fun c hc'=>?_⟩
 ·rw[h2 m hm,h.mkd m hm]
  simp
 ·have h3:=h.tch c hc'
  rw[hmk]
  by_cases e:c=S.cl n
  ·subst e
   rw[if_pos rfl]
   by_cases e0:S.mq (S.cl n)=0
   ·rw[if_pos e0]
    simp
   ·rw[if_neg e0,h3]
    omega
  ·rw[if_neg e,←h3]
   by_cases e0:S.mq (S.cl n)=0
   ·rw[if_pos e0]
    simp[e]
   ·rw[if_neg e0]
 ·by_cases e0:S.mq (S.cl n)=0
  ·rw[if_pos e0]
   refine List.nodup_append.2 ⟨h.nodup,by simp,?_⟩
   intro a ha b hb e
   have hb':b=S.cl n:=by simpa using hb
   subst e
   subst hb'
   have:=(h.tch _ hc).1 ha
   omega
  ·rw[if_neg e0]
   exact h.nodup
 ·show c<S.C
  by_cases e0:S.mq (S.cl n)=0
  ·rw[if_pos e0] at hc'
   rcases List.mem_append.1 hc' with h' | h'
   ·exact h.rng c h'
   ·have:c=S.cl n:=by simpa using h'
    omega
  ·rw[if_neg e0] at hc'
   exact h.rng c hc'
structure Sp (N:Nat) (S0 S:Ps) (T:List Nat):Prop where
 iv:Iv N S
 le:S0.C<=S.C
 new:∀x,x<N->S.cl x=S0.cl x∨S0.C<=S.cl x
 fine:∀x y,x<N->y<N->S.cl x=S.cl y->S0.cl x=S0.cl y
 done:∀x y,x<N->y<N->S0.cl x=S0.cl y->S0.cl x∈T->(S.cl x=S.cl y↔(S0.mkd x↔S0.mkd y))
 todo:∀x,x<N->S0.cl x∉T->S.cl x=S0.cl x/\(S.mkd x↔S0.mkd x)
 mq:∀c,c<S0.C->c∉T->S.mq c=S0.mq c
 mk0:∀c,c<S.C->(S0.C<=c∨c∈T)->S.mq c=0
theorem Sp.start {N:Nat} {S:Ps} (h:Iv N S):Sp N S S []:=
 ⟨h,Nat.le_refl _,fun _ _=>Or.inl rfl,fun _ _ _ _ e=>e,fun _ _ _ _ _ hm=>absurd hm (by simp),fun _ _ _=>⟨rfl,Iff.rfl⟩,fun _ _ _=>rfl,fun c hc h'=>by
  rcases h' with h' | h'
  ·omega
  ·simp at h'⟩
theorem Sp.step {N:Nat} {S0 S:Ps} {T:List Nat} (h:Sp N S0 S T) {c:Nat} (hc:c<S0.C) (hT:c∉T) (hm:0<S0.mq c):Sp N S0 (S.split c) (T++[c]):=by
 have hcS:c<S.C:=Nat.lt_of_lt_of_le hc h.le
 have k:=h.iv.split hcS (by rw[h.mq c hc hT];exact hm)
 have hin:∀x,x<N->(S.cl x=c↔S0.cl x=c):=fun x hx=>by
  constructor
  ·intro e
   rcases h.new x hx with h1 | h1
   ·omega
   ·omega
  ·intro e
   have:=(h.todo x hx (by rw[e];exact hT)).1
   omega
 refine⟨k.iv,Nat.le_trans h.le k.le,fun x hx=>?_,fun x y hx hy e=>h.fine x y hx hy (k.fine h.iv hcS hx hy e),fun x y hx hy e hm'=>?_,fun x hx hn=>?_,fun c' hc' hn=>?_,fun c' hc' h'=>?_⟩
 ·by_cases e:S.cl x=c
  ·rcases k.ins x hx e with h1 | h1
   ·left
    rw[h1,(hin x hx).1 e]
   ·right
    have:=h.le
    omega
  ·rw[(k.out x hx e).1]
   exact h.new x hx
 ·by_cases ec:S0.cl x=c
  ·have ex:=(hin x hx).2 ec
   have ey:=(hin y hy).2 (by rw[←e];exact ec)
   rw[k.two x y hx hy ex ey,(h.todo x hx (by rw[ec];exact hT)).2,(h.todo y hy (by rw[←e,ec];exact hT)).2]
  ·have nx:S.cl x≠c:=fun e'=>ec ((hin x hx).1 e')
   have ny:S.cl y≠c:=fun e'=>ec (by rw[e];exact (hin y hy).1 e')
   rw[(k.out x hx nx).1,(k.out y hy ny).1]
   refine h.done x y hx hy e ?_
   rcases List.mem_append.1 hm' with h1 | h1
   ·exact h1
   ·exact absurd (by simpa using h1) ec
 ·have hn1:S0.cl x∉T:=fun h1=>hn (List.mem_append.2 (Or.inl h1))
  have hn2:S0.cl x≠c:=fun h1=>hn (List.mem_append.2 (Or.inr (by simp[h1])))
  have nx:S.cl x≠c:=fun e'=>hn2 ((hin x hx).1 e')
  have h1:=h.todo x hx hn1
  have h2:=k.out x hx nx
  exact⟨h2.1.trans h1.1,h2.2.trans h1.2⟩
 ·have hn1:c'∉T:=fun h1=>hn (List.mem_append.2 (Or.inl h1))
  have hn2:c'≠c:=fun h1=>hn (List.mem_append.2 (Or.inr (by simp[h1])))
  rw[k.mq c' (Nat.lt_of_lt_of_le hc' h.le) hn2]
  exact h.mq c' hc' hn1
 ·by_cases e:c'=c
  ·exact k.mk0 c' hc' (Or.inl e)
  ·by_cases hl:S.C<=c'
   ·exact k.mk0 c' hc' (Or.inr hl)
   ·rw[k.mq c' (by omega) e]
    refine h.mk0 c' (by omega) ?_
    rcases h' with h' | h'
    ·exact Or.inl h'
    ·rcases List.mem_append.1 h' with h1 | h1
     ·exact Or.inr h1
     ·exact absurd (by simpa using h1) e
structure Pd (N:Nat) (S S':Ps) (L:List Nat):Prop where
 iv:Iv N S'
 le:S.C<=S'.C
 mk0:∀c,c<S'.C->S'.mq c=0
 new:∀x,x<N->S'.cl x=S.cl x∨S.C<=S'.cl x
 fine:∀x y,x<N->y<N->S'.cl x=S'.cl y->S.cl x=S.cl y
 same:∀x y,x<N->y<N->S.cl x=S.cl y->(S'.cl x=S'.cl y↔(x∈L↔y∈L))
theorem Sp.parted {N:Nat} {S0 S S':Ps} {L T:List Nat} (h:Mk N S0 S L T) (k:Sp N S S' T):Pd N S0 S' L:=by
 have hcl:=h.cl
 refine⟨k.iv,by rw[←h.C];exact k.le,fun c hc=>?_,fun x hx=>by rw[←hcl,←h.C];exact k.new x hx,fun x y hx hy e=>by rw[←hcl];exact k.fine x y hx hy e,fun x y hx hy e=>?_⟩
 ·by_cases e:c<S.C
  ·by_cases hT:c∈T
   ·exact k.mk0 c hc (Or.inr hT)
   ·rw[k.mq c e hT]
    have:=h.tch c e
    have:¬0<S.mq c:=fun h'=>hT (this.2 h')
    omega
  ·exact k.mk0 c hc (Or.inl (by omega))
 ·rw[←h.mkd x hx,←h.mkd y hy]
  rw[←hcl] at e
  by_cases hT:S.cl x∈T
  ·exact k.done x y hx hy e hT
  ·have h1:=(k.todo x hx hT).1
   have h2:=(k.todo y hy (by rw[←e];exact hT)).1
   have hno:∀z,z<N->S.cl z=S.cl x->¬S.mkd z:=fun z hz ez hm=>by
    have h3:=(h.iv.mem z _ hz (h.iv.cls z hz)).1 rfl
    have h4:=h.tch _ (h.iv.cls z hz)
    unfold Ps.mkd at hm
    have h5:0<S.mq (S.cl z):=by omega
    exact hT (by rw[←ez];exact h4.2 h5)
   have hx':=hno x hx rfl
   have hy':=hno y hy e.symm
   simp only[hx',hy']
   simp[h1,h2,e]
end Go.Proofs.YtpkojcfdkkjmcaaGreatDoor
namespace Go.Proofs.YtpkojcfdkkjmcaaGreatDoor
set_option maxRecDepth 100000
open Go.RowKit
theorem Pt.set3 {w:World} {B pb q c t m:Nat} {v0 v1 v2 v4 v5:Value} {f:Nat->List Int} (h:Pt w B pb v0 v1 v2 (.slice (some ⟨q,0,none⟩) m c) v4 v5 f) (hm:(f 3).length=m) (x:Int):Pt (w.setCell ⟨q,t,none⟩ (.int .i64 x)) B pb v0 v1 v2 (.slice (some ⟨q,0,none⟩) m c) v4 v5 (upd f 3 ((f 3).set t x)):=by
 subst hm
 have hne:pb≠q:=fun e=>h.fm.ty h.blk (by decide) (mem_blocks (i:=3) (by simp) (by rw[e];rfl))
 refine⟨by rw[Below.heap_setCell _ _ _ _ hne];exact h.blk,?_,h.ge⟩
 exact Fm.set (i:=3) (t:=t) h.fm (by simp) rfl x
theorem Pt.set4 {w:World} {B pb q c t m:Nat} {v0 v1 v2 v3 v5:Value} {f:Nat->List Int} (h:Pt w B pb v0 v1 v2 v3 (.slice (some ⟨q,0,none⟩) m c) v5 f) (hm:(f 4).length=m) (x:Int):Pt (w.setCell ⟨q,t,none⟩ (.int .i64 x)) B pb v0 v1 v2 v3 (.slice (some ⟨q,0,none⟩) m c) v5 (upd f 4 ((f 4).set t x)):=by
 subst hm
 have hne:pb≠q:=fun e=>h.fm.ty h.blk (by decide) (mem_blocks (i:=4) (by simp) (by rw[e];rfl))
 refine⟨by rw[Below.heap_setCell _ _ _ _ hne];exact h.blk,?_,h.ge⟩
 exact Fm.set (i:=4) (t:=t) h.fm (by simp) rfl x
theorem Pt.congr {w:World} {B pb:Nat} {v0 v1 v2 v3 v4 v5:Value} {f f':Nat->List Int} (h:Pt w B pb v0 v1 v2 v3 v4 v5 f) (e:∀i,i<6->f i=f' i):Pt w B pb v0 v1 v2 v3 v4 v5 f':=
 ⟨h.blk,⟨fun i hi=>by
  have hi':i<6:=by simpa using hi
  rw[←e i hi']
  exact h.fm.own i hi,h.fm.nd⟩,h.ge⟩
theorem six {P:Nat->Prop} (h0:P 0) (h1:P 1) (h2:P 2) (h3:P 3) (h4:P 4) (h5:P 5):∀i,i<6->P i:=fun i hi=>by
 have:i=0∨i=1∨i=2∨i=3∨i=4∨i=5:=by omega
 rcases this with rfl | rfl | rfl | rfl | rfl | rfl <;> assumption
theorem Ps.rows_len (S:Ps) (N i:Nat) (hN:N<=4500) (hC:S.C<=4500):(S.rows N i).length<=4500:=by
 unfold Ps.rows
 repeat (split;(rw[rowF_len];assumption))
 rw[rowF_len]
 assumption
theorem setL_row (N v:Nat):∀(xs:List Int) (g:Nat->Nat),(∀x∈xs,0<=x)->setL (rowF N g) xs (v:Int)=rowF N (fun n=>if (n:Int)∈xs then v else g n)
 | [],g,_=>by simp[setL]
 | x::r,g,h=>by
  show setL ((rowF N g).set x.toNat (v:Int)) r v=_
  rw[rowF_set,setL_row N v r _ (fun y hy=>h y (by simp[hy]))]
  refine rowF_congr fun i _=>?_
  have h0:=h x (by simp)
  unfold upd
  by_cases e1:(i:Int)∈r
  ·simp[e1]
  ·by_cases e2:i=x.toNat
   ·have e3:(i:Int)=x:=by omega
    rw[if_neg e1,if_pos e2,if_pos (by simp[e3])]
   ·have e3:(i:Int)≠x:=by omega
    simp[e1,e2,e3]
theorem mem_cutrow {N a b:Nat} {S:Ps} (hpn:∀n,n<N->S.pl n<N/\S.nd (S.pl n)=n) (hnp:∀i,i<N->S.nd i<N/\S.pl (S.nd i)=i) (hb:b<=N) {n:Nat} (hn:n<N):(n:Int)∈((rowF N S.nd).drop a).take (b-a)↔a<=S.pl n/\S.pl n<b:=by
 rw[List.mem_iff_getElem]
 constructor
 ·rintro⟨j,hj,e⟩
  simp only[List.length_take,List.length_drop,rowF_len] at hj
  rw[List.getElem_take,List.getElem_drop] at e
  simp only[rowF,List.getElem_map,List.getElem_range] at e
  have e':S.nd (a+j)=n:=by omega
  have:=(hnp (a+j) (by omega)).2
  rw[e'] at this
  omega
 ·rintro⟨h1,h2⟩
  refine⟨S.pl n-a,by simp only[List.length_take,List.length_drop,rowF_len];omega,?_⟩
  rw[List.getElem_take,List.getElem_drop]
  simp only[rowF,List.getElem_map,List.getElem_range]
  have e:a+(S.pl n-a)=S.pl n:=by omega
  rw[e,(hpn n hn).2]
theorem enter_rows {N a b:Nat} {S:Ps} (hpn:∀n,n<N->S.pl n<N/\S.nd (S.pl n)=n) (hnp:∀i,i<N->S.nd i<N/\S.pl (S.nd i)=i) (hb:b<=N) :
  ∀i,i<6->upd (upd (upd (upd (S.rows N) 2 (setL (S.rows N 2) (((S.rows N 0).drop a).take (b-a)) (S.rows N 3).length)) 3 (S.rows N 3++[(a:Int)])) 4 (S.rows N 4++[(b:Int)])) 5 (S.rows N 5++[0]) i=(S.enter a b).rows N i:=by
 refine six rfl rfl ?_ ?_ ?_ ?_
 ·show setL (rowF N S.cl) (((rowF N S.nd).drop a).take (b-a)) ((rowF S.C S.fi).length:Nat)=rowF N _
  rw[rowF_len,setL_row]
  ·refine rowF_congr fun n hn=>?_
   by_cases h:a<=S.pl n/\S.pl n<b
   ·rw[if_pos ((mem_cutrow hpn hnp hb hn).2 h)]
    exact (if_pos h).symm
   ·rw[if_neg (fun h'=>h ((mem_cutrow hpn hnp hb hn).1 h'))]
    exact (if_neg h).symm
  ·intro x hx
   have hx':=List.mem_of_mem_drop (List.mem_of_mem_take hx)
   obtain⟨i,_,rfl⟩:=List.mem_map.1 hx'
   omega
 ·exact rowF_snoc _ _ _
 ·exact rowF_snoc _ _ _
 ·exact rowF_snoc _ 0 _
theorem enter_ps {w:World} {B pb a b N:Nat} {v0 v1 v2 v3 v4 v5:Value} {S:Ps} (hP:Pt w B pb v0 v1 v2 v3 v4 v5 (S.rows N)) (hpn:∀n,n<N->S.pl n<N/\S.nd (S.pl n)=n) (hnp:∀i,i<N->S.nd i<N/\S.pl (S.nd i)=i) (hN:N<=4500) (hC:S.C<=4500) (hab:a<b) (hb:b<=N) (hB:B<=w.heap.size) {x y:Int} (hx:x=(a:Int)) (hy:y=(b:Int)) :
  Calls Tryz.prog 185 #[.pointer (some ⟨pb,0,none⟩),.int .i64 x,.int .i64 y] w fun e w'=>e=.returned (.tuple #[])/\∃u3 u4 u5,Pt w' B pb v0 v1 v2 u3 u4 u5 ((S.enter a b).rows N)/\Ch (pb::blocks [v0,v1,v2,v3,v4,v5]) w w'/\∀k∈blocks [u3,u4,u5],k∈blocks [v0,v1,v2,v3,v4,v5]∨w.heap.size<=k:=by
 subst hx hy
 refine (enter_any hP hab (by show b<=(rowF N S.nd).length;rw[rowF_len];exact hb) (fun i=>S.rows_len N i hN hC) (fun x hx=>?_) hB).mono ?_
 ·have hx':x∈rowF N S.nd:=hx
  obtain⟨i,hi,rfl⟩:=List.mem_map.1 hx'
  have:=(hnp i (List.mem_range.1 hi)).1
  show 0<=_/\_<((rowF N S.cl).length:Int)
  rw[rowF_len]
  omega
 ·rintro e w' ⟨rfl,u3,u4,u5,h1,h2,h3⟩
  exact⟨rfl,u3,u4,u5,h1.congr (enter_rows hpn hnp hb),h2,h3⟩
theorem mark_ps {w:World} {B pb n N:Nat} {v0 v1 v2 v3 v4 v5:Value} {S:Ps} (hP:Pt w B pb v0 v1 v2 v3 v4 v5 (S.rows N)) (h:Iv N S) (hN:N<=4500) (hn:n<N) (hm:¬S.mkd n) :
  Calls Tryz.prog 186 #[.pointer (some ⟨pb,0,none⟩),.int .i64 n] w fun e w'=>e=.returned (.tuple #[])/\Pt w' B pb v0 v1 v2 v3 v4 v5 ((S.mark n).rows N)/\Ch (blocks [v0,v1,v2,v3,v4,v5]) w w':=by
 have hC:=h.le
 have hc:=h.cls n hn
 obtain⟨hA,_,_⟩:=h.at hn hm
 have ho:=(h.np _ hA).1
 have hp:=(h.pn n hn).1
 refine (mark_any (c:=S.cl n) (a:=S.fi (S.cl n)) (m:=S.mq (S.cl n)) (o:=S.nd (S.fi (S.cl n)+S.mq (S.cl n))) (p:=S.pl n) hP (fun i=>S.rows_len N i hN (by omega)) ?_ ?_ ?_ (rowF_get _ hn) ?_ ?_ (rowF_get _ hc) (rowF_get _ hc) ?_ (rowF_get _ hA) ?_ (rowF_get _ hn) ?_).mono ?_
 ·show (rowF N S.pl).length=(rowF N S.nd).length
  rw[rowF_len,rowF_len]
 ·show (rowF N S.cl).length=(rowF N S.nd).length
  rw[rowF_len,rowF_len]
 ·show n<(rowF N S.nd).length
  rw[rowF_len]
  exact hn
 ·show S.cl n<(rowF S.C S.fi).length
  rw[rowF_len]
  exact hc
 ·show S.cl n<(rowF S.C S.mq).length
  rw[rowF_len]
  exact hc
 ·show S.fi (S.cl n)+S.mq (S.cl n)<(rowF N S.nd).length
  rw[rowF_len]
  exact hA
 ·show S.nd (S.fi (S.cl n)+S.mq (S.cl n))<(rowF N S.nd).length
  rw[rowF_len]
  exact ho
 ·show S.pl n<(rowF N S.nd).length
  rw[rowF_len]
  exact hp
 ·rintro e w' ⟨rfl,h1,h2⟩
  refine⟨rfl,h1.congr (six ?_ ?_ rfl rfl rfl ?_),h2⟩
  ·show ((rowF N S.nd).set _ _).set _ _=rowF N (S.mark n).nd
   rw[rowF_set,rowF_set]
   rfl
  ·show ((rowF N S.pl).set _ _).set _ ((S.fi (S.cl n):Int)+(S.mq (S.cl n):Int))=rowF N (S.mark n).pl
   have e:(S.fi (S.cl n):Int)+(S.mq (S.cl n):Int)=((S.fi (S.cl n)+S.mq (S.cl n):Nat):Int):=by omega
   rw[e,rowF_set,rowF_set]
   rfl
  ·show (rowF S.C S.mq).set _ ((S.mq (S.cl n):Int)+1)=rowF S.C (S.mark n).mq
   have e:(S.mq (S.cl n):Int)+1=((S.mq (S.cl n)+1:Nat):Int):=by omega
   rw[e,rowF_set]
   rfl
theorem radd (N t a b:Nat) (g:Nat->Nat):(rowF N g).set t ((a:Int)+(b:Int))=rowF N (upd g t (a+b)):=by rw[←rowF_set];rfl
theorem mem_last {α:Type} {a0 a1 a2 a3 a4 a5 v:α} (h:v∈[a3,a4,a5]):v∈[a0,a1,a2,a3,a4,a5]:=List.mem_cons_of_mem _ (List.mem_cons_of_mem _ (List.mem_cons_of_mem _ h))
theorem blocks_last {v0 v1 v2 v3 v4 v5:Value} {k:Nat} (h:k∈blocks [v3,v4,v5]):k∈blocks [v0,v1,v2,v3,v4,v5]:=by
 obtain⟨v,hv,e⟩:=List.mem_filterMap.1 h
 exact List.mem_filterMap.2 ⟨v,mem_last hv,e⟩
set_option maxHeartbeats 4000000 in
theorem split_none {w:World} {B pb c N:Nat} {v0 v1 v2 v3 v4 v5:Value} {S:Ps} (hP:Pt w B pb v0 v1 v2 v3 v4 v5 (S.rows N)) (h:Iv N S) (hN:N<=4500) (hc:c<S.C) (_hm:0<S.mq c) (_hB:B<=w.heap.size) (he:S.fi c+S.mq c=S.be c) :
  Calls Tryz.prog 187 #[.pointer (some ⟨pb,0,none⟩),.int .i64 c] w fun e w'=>e=.returned (.tuple #[])/\∃u3 u4 u5,Pt w' B pb v0 v1 v2 u3 u4 u5 ((S.split c).rows N)/\Ch (pb::blocks [v0,v1,v2,v3,v4,v5]) w w'/\∀k∈blocks [u3,u4,u5],k∈blocks [v0,v1,v2,v3,v4,v5]∨w.heap.size<=k:=by
 have e0:(S.rows N 0).length=N:=rowF_len _ _
 have e1:(S.rows N 1).length=N:=rowF_len _ _
 have e2:(S.rows N 2).length=N:=rowF_len _ _
 have e3:(S.rows N 3).length=S.C:=rowF_len _ _
 have e4:(S.rows N 4).length=S.C:=rowF_len _ _
 have e5:(S.rows N 5).length=S.C:=rowF_len _ _
 have hCN:=h.le
 obtain⟨hr1,hr2,hr3⟩:=h.rng c hc
 obtain⟨q3,c3,rfl,_⟩:∃q c,v3=.slice (some ⟨q,0,none⟩) S.C c/\v3.ownBlock=some q:=by
  rw[←e3]
  exact (own_form (hP.fm.own 3 (by simp))).resolve_left (fun h=>by omega)
 obtain⟨q4,c4,rfl,_⟩:∃q c,v4=.slice (some ⟨q,0,none⟩) S.C c/\v4.ownBlock=some q:=by
  rw[←e4]
  exact (own_form (hP.fm.own 4 (by simp))).resolve_left (fun h=>by omega)
 obtain⟨q5,c5,rfl,_⟩:∃q c,v5=.slice (some ⟨q,0,none⟩) S.C c/\v5.ownBlock=some q:=by
  rw[←e5]
  exact (own_form (hP.fm.own 5 (by simp))).resolve_left (fun h=>by omega)
 obtain⟨⟨a0,c0,h0⟩,⟨a1,c1,h1⟩,⟨a2,c2,h2⟩,_⟩:=hP.sl
 rw[e0] at h0
 rw[e1] at h1
 rw[e2] at h2
 subst h0 h1 h2
 obtain⟨⟨z0,z1,z2,z3,z4,z5⟩,_⟩:=blk6 hP.blk
 have k3:=(hP.fm.cellN (i:=3) (j:=c) (by simp) rfl e3 hc).1
 have k4:=(hP.fm.cellN (i:=4) (j:=c) (by simp) rfl e4 hc).1
 have k5:=(hP.fm.cellN (i:=5) (j:=c) (by simp) rfl e5 hc).1
 have k5f:=(hP.fm.cellN (i:=5) (j:=c) (by simp) rfl e5 hc).2
 have g3:(S.rows N 3).getD c 0=(S.fi c:Int):=rowF_get _ hc
 have g4:(S.rows N 4).getD c 0=(S.be c:Int):=rowF_get _ hc
 have g5:(S.rows N 5).getD c 0=(S.mq c:Int):=rowF_get _ hc
 rw[g3] at k3
 rw[g4] at k4
 rw[g5] at k5
 clear g3 g4 g5
 have m3:q3∈blocks [.slice a0 N c0,.slice a1 N c1,.slice a2 N c2,.slice (some ⟨q3,0,none⟩) S.C c3,.slice (some ⟨q4,0,none⟩) S.C c4,.slice (some ⟨q5,0,none⟩) S.C c5]:=mem_blocks (i:=3) (by simp) rfl
 have m4:q4∈blocks [.slice a0 N c0,.slice a1 N c1,.slice a2 N c2,.slice (some ⟨q3,0,none⟩) S.C c3,.slice (some ⟨q4,0,none⟩) S.C c4,.slice (some ⟨q5,0,none⟩) S.C c5]:=mem_blocks (i:=4) (by simp) rfl
 have m5:q5∈blocks [.slice a0 N c0,.slice a1 N c1,.slice a2 N c2,.slice (some ⟨q3,0,none⟩) S.C c3,.slice (some ⟨q4,0,none⟩) S.C c4,.slice (some ⟨q5,0,none⟩) S.C c5]:=mem_blocks (i:=5) (by simp) rfl
 have hsp:Hid (S.split c={ S with mq:=upd S.mq c 0 }):=by
  show _=_
  unfold Ps.split
  rw[if_pos he]
 have hpn:=hid h.pn
 have hnp:=hid h.np
 have hP5:=hid (fun q=>(((hP.drewN q).set5 (t:=c) e5 0).congr (f':=({ S with mq:=upd S.mq c 0 }:Ps).rows N) (six rfl rfl rfl rfl rfl (rowF_set S.C c 0 S.mq))))
 have hC5:=hid (fun q=>(show Ch (blocks [.slice a0 N c0,.slice a1 N c1,.slice a2 N c2,.slice (some ⟨q3,0,none⟩) S.C c3,.slice (some ⟨q4,0,none⟩) S.C c4,.slice (some ⟨q5,0,none⟩) S.C c5]) w (w.drewN q) from ⟨rfl,rfl,rfl,Nat.le_refl _,fun _ _ _=>rfl⟩).put (i:=c) (.int .i64 0) m5)
 have hm3:=hid m3
 have hm4:=hid m4
 have n53:¬q3=q5:=fun e=>hP.fm.nd 3 5 q3 q5 (by simp) (by simp) (by omega) rfl rfl e
 have n54:¬q4=q5:=fun e=>hP.fm.nd 4 5 q4 q5 (by simp) (by simp) (by omega) rfl rfl e
 have np3:¬pb=q3:=fun e=>hP.fm.ty hP.blk (by decide) (mem_blocks (i:=3) (by simp) (by rw[e];rfl))
 have np4:¬pb=q4:=fun e=>hP.fm.ty hP.blk (by decide) (mem_blocks (i:=4) (by simp) (by rw[e];rfl))
 have np5:¬pb=q5:=fun e=>hP.fm.ty hP.blk (by decide) (mem_blocks (i:=5) (by simp) (by rw[e];rfl))
 clear e0 e1 e2 e3 e4 e5 m3 m4 m5 h
 generalize hF:S.fi c=F at *
 generalize hM:S.mq c=M at *
 generalize hE:S.be c=E at *
 go_enter Tryz.func187,Tryz.ntmps187
 go_wp2
 go_quiet (fail)
 go_wp2
 refine bodyPost_ret (results_none rfl _ _ _) rfl ?_
 exact⟨rfl,_,_,_,by rw[hsp.out];exact hP5.out nq,(hC5.out nq).mono (fun k hk=>List.mem_cons_of_mem _ hk),fun k hk=>Or.inl (blocks_last hk)⟩
end Go.Proofs.YtpkojcfdkkjmcaaGreatDoor
namespace Go.Proofs.YtpkojcfdkkjmcaaGreatDoor
set_option maxRecDepth 100000
open Go.RowKit
set_option maxHeartbeats 4000000 in
theorem split_low {w:World} {B pb c N:Nat} {v0 v1 v2 v3 v4 v5:Value} {S:Ps} (hP:Pt w B pb v0 v1 v2 v3 v4 v5 (S.rows N)) (h:Iv N S) (hN:N<=4500) (hc:c<S.C) (hm:0<S.mq c) (hB:B<=w.heap.size) (he:¬S.fi c+S.mq c=S.be c) (hle:S.mq c<=S.be c-(S.fi c+S.mq c)) :
  Calls Tryz.prog 187 #[.pointer (some ⟨pb,0,none⟩),.int .i64 c] w fun e w'=>e=.returned (.tuple #[])/\∃u3 u4 u5,Pt w' B pb v0 v1 v2 u3 u4 u5 ((S.split c).rows N)/\Ch (pb::blocks [v0,v1,v2,v3,v4,v5]) w w'/\∀k∈blocks [u3,u4,u5],k∈blocks [v0,v1,v2,v3,v4,v5]∨w.heap.size<=k:=by
 have e0:(S.rows N 0).length=N:=rowF_len _ _
 have e1:(S.rows N 1).length=N:=rowF_len _ _
 have e2:(S.rows N 2).length=N:=rowF_len _ _
 have e3:(S.rows N 3).length=S.C:=rowF_len _ _
 have e4:(S.rows N 4).length=S.C:=rowF_len _ _
 have e5:(S.rows N 5).length=S.C:=rowF_len _ _
 have hCN:=h.le
 obtain⟨hr1,hr2,hr3⟩:=h.rng c hc
 obtain⟨q3,c3,rfl,_⟩:∃q c,v3=.slice (some ⟨q,0,none⟩) S.C c/\v3.ownBlock=some q:=by
  rw[←e3]
  exact (own_form (hP.fm.own 3 (by simp))).resolve_left (fun h=>by omega)
 obtain⟨q4,c4,rfl,_⟩:∃q c,v4=.slice (some ⟨q,0,none⟩) S.C c/\v4.ownBlock=some q:=by
  rw[←e4]
  exact (own_form (hP.fm.own 4 (by simp))).resolve_left (fun h=>by omega)
 obtain⟨q5,c5,rfl,_⟩:∃q c,v5=.slice (some ⟨q,0,none⟩) S.C c/\v5.ownBlock=some q:=by
  rw[←e5]
  exact (own_form (hP.fm.own 5 (by simp))).resolve_left (fun h=>by omega)
 obtain⟨⟨a0,c0,h0⟩,⟨a1,c1,h1⟩,⟨a2,c2,h2⟩,_⟩:=hP.sl
 rw[e0] at h0
 rw[e1] at h1
 rw[e2] at h2
 subst h0 h1 h2
 obtain⟨⟨z0,z1,z2,z3,z4,z5⟩,_⟩:=blk6 hP.blk
 have k3:=(hP.fm.cellN (i:=3) (j:=c) (by simp) rfl e3 hc).1
 have k4:=(hP.fm.cellN (i:=4) (j:=c) (by simp) rfl e4 hc).1
 have k5:=(hP.fm.cellN (i:=5) (j:=c) (by simp) rfl e5 hc).1
 have k5f:=(hP.fm.cellN (i:=5) (j:=c) (by simp) rfl e5 hc).2
 have g3:(S.rows N 3).getD c 0=(S.fi c:Int):=rowF_get _ hc
 have g4:(S.rows N 4).getD c 0=(S.be c:Int):=rowF_get _ hc
 have g5:(S.rows N 5).getD c 0=(S.mq c:Int):=rowF_get _ hc
 rw[g3] at k3
 rw[g4] at k4
 rw[g5] at k5
 clear g3 g4 g5
 have m3:q3∈blocks [.slice a0 N c0,.slice a1 N c1,.slice a2 N c2,.slice (some ⟨q3,0,none⟩) S.C c3,.slice (some ⟨q4,0,none⟩) S.C c4,.slice (some ⟨q5,0,none⟩) S.C c5]:=mem_blocks (i:=3) (by simp) rfl
 have m4:q4∈blocks [.slice a0 N c0,.slice a1 N c1,.slice a2 N c2,.slice (some ⟨q3,0,none⟩) S.C c3,.slice (some ⟨q4,0,none⟩) S.C c4,.slice (some ⟨q5,0,none⟩) S.C c5]:=mem_blocks (i:=4) (by simp) rfl
 have m5:q5∈blocks [.slice a0 N c0,.slice a1 N c1,.slice a2 N c2,.slice (some ⟨q3,0,none⟩) S.C c3,.slice (some ⟨q4,0,none⟩) S.C c4,.slice (some ⟨q5,0,none⟩) S.C c5]:=mem_blocks (i:=5) (by simp) rfl
 have hsp:Hid (S.split c=({ S with mq:=upd S.mq c 0,fi:=upd S.fi c (S.fi c+S.mq c) }:Ps).enter (S.fi c) (S.fi c+S.mq c)):=by
  show _=_
  unfold Ps.split
  rw[if_neg he,if_pos hle]
 have hpn:=hid h.pn
 have hnp:=hid h.np
 have hP5:=hid (fun q=>(((hP.drewN q).set5 (t:=c) e5 0).congr (f':=({ S with mq:=upd S.mq c 0 }:Ps).rows N) (six rfl rfl rfl rfl rfl (rowF_set S.C c 0 S.mq))))
 have hC5:=hid (fun q=>(show Ch (blocks [.slice a0 N c0,.slice a1 N c1,.slice a2 N c2,.slice (some ⟨q3,0,none⟩) S.C c3,.slice (some ⟨q4,0,none⟩) S.C c4,.slice (some ⟨q5,0,none⟩) S.C c5]) w (w.drewN q) from ⟨rfl,rfl,rfl,Nat.le_refl _,fun _ _ _=>rfl⟩).put (i:=c) (.int .i64 0) m5)
 have hm3:=hid m3
 have hm4:=hid m4
 have n53:¬q3=q5:=fun e=>hP.fm.nd 3 5 q3 q5 (by simp) (by simp) (by omega) rfl rfl e
 have n54:¬q4=q5:=fun e=>hP.fm.nd 4 5 q4 q5 (by simp) (by simp) (by omega) rfl rfl e
 have np3:¬pb=q3:=fun e=>hP.fm.ty hP.blk (by decide) (mem_blocks (i:=3) (by simp) (by rw[e];rfl))
 have np4:¬pb=q4:=fun e=>hP.fm.ty hP.blk (by decide) (mem_blocks (i:=4) (by simp) (by rw[e];rfl))
 have np5:¬pb=q5:=fun e=>hP.fm.ty hP.blk (by decide) (mem_blocks (i:=5) (by simp) (by rw[e];rfl))
 clear e0 e1 e2 e3 e4 e5 m3 m4 m5 h
 generalize hF:S.fi c=F at *
 generalize hM:S.mq c=M at *
 generalize hE:S.be c=E at *
 go_enter Tryz.func187,Tryz.ntmps187
 go_wp2
 go_quiet (fail)
 have hP3:=hid (fun q=>((hP5.out q).set3 (t:=c) (rowF_len _ _) ((F:Int)+(M:Int))).congr (f':=({ S with mq:=upd S.mq c 0,fi:=upd S.fi c (F+M) }:Ps).rows N) (six rfl rfl rfl (radd _ _ _ _ _) rfl rfl))
 have hC3:=hid (fun q=>(hC5.out q).put (i:=c) (.int .i64 ((F:Int)+(M:Int))) hm3.out)
 have hsz:Hid (∀q,((((w.drewN q).setCell ⟨q5,c,none⟩ (.int .i64 0)).setCell ⟨q3,c,none⟩ (.int .i64 ((F:Int)+(M:Int)))).heap.size=w.heap.size)):=fun q=>by simp
 have k3f:=(hP.fm.cellN (i:=3) (j:=c) (by simp) rfl (rowF_len _ _) hc).2
 have hI:¬((F:Int)+(M:Int)=(E:Int)):=by omega
 have hJ:(F:Int)+(M:Int)-(F:Int)<=(E:Int)-((F:Int)+(M:Int)):=by omega
 have hE1:F+M<E:=by omega
 have hE2:E<=4500:=by omega
 have hHP:=hid hP
 clear hle he hP
 go_wp2_with (go_at_call 185;refine (enter_ps (a:=F) (b:=F+M) (hP3.out nq) hpn.out hnp.out hN (by show S.C<=4500;omega) (by omega) (by omega) (by rw[hsz.out nq];exact hB) (by omega) (by omega)).mono ?_;rintro e w1 ⟨rfl,u3,u4,u5,hE1',hE2',hE3'⟩)
 go_end0
 refine⟨rfl,u3,u4,u5,by rw[hsp.out];exact hE1',((hC3.out nq).mono (fun k hk=>List.mem_cons_of_mem _ hk)).trans hE2' (fun k hk=>Or.inl hk),fun k hk=>?_⟩
 have:=hE3' k hk
 rw[hsz.out nq] at this
 exact this
set_option maxHeartbeats 4000000 in
theorem split_high {w:World} {B pb c N:Nat} {v0 v1 v2 v3 v4 v5:Value} {S:Ps} (hP:Pt w B pb v0 v1 v2 v3 v4 v5 (S.rows N)) (h:Iv N S) (hN:N<=4500) (hc:c<S.C) (hm:0<S.mq c) (hB:B<=w.heap.size) (he:¬S.fi c+S.mq c=S.be c) (hle:¬S.mq c<=S.be c-(S.fi c+S.mq c)) :
  Calls Tryz.prog 187 #[.pointer (some ⟨pb,0,none⟩),.int .i64 c] w fun e w'=>e=.returned (.tuple #[])/\∃u3 u4 u5,Pt w' B pb v0 v1 v2 u3 u4 u5 ((S.split c).rows N)/\Ch (pb::blocks [v0,v1,v2,v3,v4,v5]) w w'/\∀k∈blocks [u3,u4,u5],k∈blocks [v0,v1,v2,v3,v4,v5]∨w.heap.size<=k:=by
 have e0:(S.rows N 0).length=N:=rowF_len _ _
 have e1:(S.rows N 1).length=N:=rowF_len _ _
 have e2:(S.rows N 2).length=N:=rowF_len _ _
 have e3:(S.rows N 3).length=S.C:=rowF_len _ _
 have e4:(S.rows N 4).length=S.C:=rowF_len _ _
 have e5:(S.rows N 5).length=S.C:=rowF_len _ _
 have hCN:=h.le
 obtain⟨hr1,hr2,hr3⟩:=h.rng c hc
 obtain⟨q3,c3,rfl,_⟩:∃q c,v3=.slice (some ⟨q,0,none⟩) S.C c/\v3.ownBlock=some q:=by
  rw[←e3]
  exact (own_form (hP.fm.own 3 (by simp))).resolve_left (fun h=>by omega)
 obtain⟨q4,c4,rfl,_⟩:∃q c,v4=.slice (some ⟨q,0,none⟩) S.C c/\v4.ownBlock=some q:=by
  rw[←e4]
  exact (own_form (hP.fm.own 4 (by simp))).resolve_left (fun h=>by omega)
 obtain⟨q5,c5,rfl,_⟩:∃q c,v5=.slice (some ⟨q,0,none⟩) S.C c/\v5.ownBlock=some q:=by
  rw[←e5]
  exact (own_form (hP.fm.own 5 (by simp))).resolve_left (fun h=>by omega)
 obtain⟨⟨a0,c0,h0⟩,⟨a1,c1,h1⟩,⟨a2,c2,h2⟩,_⟩:=hP.sl
 rw[e0] at h0
 rw[e1] at h1
 rw[e2] at h2
 subst h0 h1 h2
 obtain⟨⟨z0,z1,z2,z3,z4,z5⟩,_⟩:=blk6 hP.blk
 have k3:=(hP.fm.cellN (i:=3) (j:=c) (by simp) rfl e3 hc).1
 have k4:=(hP.fm.cellN (i:=4) (j:=c) (by simp) rfl e4 hc).1
 have k5:=(hP.fm.cellN (i:=5) (j:=c) (by simp) rfl e5 hc).1
 have k5f:=(hP.fm.cellN (i:=5) (j:=c) (by simp) rfl e5 hc).2
 have g3:(S.rows N 3).getD c 0=(S.fi c:Int):=rowF_get _ hc
 have g4:(S.rows N 4).getD c 0=(S.be c:Int):=rowF_get _ hc
 have g5:(S.rows N 5).getD c 0=(S.mq c:Int):=rowF_get _ hc
 rw[g3] at k3
 rw[g4] at k4
 rw[g5] at k5
 clear g3 g4 g5
 have m3:q3∈blocks [.slice a0 N c0,.slice a1 N c1,.slice a2 N c2,.slice (some ⟨q3,0,none⟩) S.C c3,.slice (some ⟨q4,0,none⟩) S.C c4,.slice (some ⟨q5,0,none⟩) S.C c5]:=mem_blocks (i:=3) (by simp) rfl
 have m4:q4∈blocks [.slice a0 N c0,.slice a1 N c1,.slice a2 N c2,.slice (some ⟨q3,0,none⟩) S.C c3,.slice (some ⟨q4,0,none⟩) S.C c4,.slice (some ⟨q5,0,none⟩) S.C c5]:=mem_blocks (i:=4) (by simp) rfl
 have m5:q5∈blocks [.slice a0 N c0,.slice a1 N c1,.slice a2 N c2,.slice (some ⟨q3,0,none⟩) S.C c3,.slice (some ⟨q4,0,none⟩) S.C c4,.slice (some ⟨q5,0,none⟩) S.C c5]:=mem_blocks (i:=5) (by simp) rfl
 have hsp:Hid (S.split c=({ S with mq:=upd S.mq c 0,be:=upd S.be c (S.fi c+S.mq c) }:Ps).enter (S.fi c+S.mq c) (S.be c)):=by
  show _=_
  unfold Ps.split
  rw[if_neg he,if_neg hle]
 have hpn:=hid h.pn
 have hnp:=hid h.np
 have hP5:=hid (fun q=>(((hP.drewN q).set5 (t:=c) e5 0).congr (f':=({ S with mq:=upd S.mq c 0 }:Ps).rows N) (six rfl rfl rfl rfl rfl (rowF_set S.C c 0 S.mq))))
 have hC5:=hid (fun q=>(show Ch (blocks [.slice a0 N c0,.slice a1 N c1,.slice a2 N c2,.slice (some ⟨q3,0,none⟩) S.C c3,.slice (some ⟨q4,0,none⟩) S.C c4,.slice (some ⟨q5,0,none⟩) S.C c5]) w (w.drewN q) from ⟨rfl,rfl,rfl,Nat.le_refl _,fun _ _ _=>rfl⟩).put (i:=c) (.int .i64 0) m5)
 have hm3:=hid m3
 have hm4:=hid m4
 have n53:¬q3=q5:=fun e=>hP.fm.nd 3 5 q3 q5 (by simp) (by simp) (by omega) rfl rfl e
 have n54:¬q4=q5:=fun e=>hP.fm.nd 4 5 q4 q5 (by simp) (by simp) (by omega) rfl rfl e
 have np3:¬pb=q3:=fun e=>hP.fm.ty hP.blk (by decide) (mem_blocks (i:=3) (by simp) (by rw[e];rfl))
 have np4:¬pb=q4:=fun e=>hP.fm.ty hP.blk (by decide) (mem_blocks (i:=4) (by simp) (by rw[e];rfl))
 have np5:¬pb=q5:=fun e=>hP.fm.ty hP.blk (by decide) (mem_blocks (i:=5) (by simp) (by rw[e];rfl))
 clear e0 e1 e2 e3 e4 e5 m3 m4 m5 h
 generalize hF:S.fi c=F at *
 generalize hM:S.mq c=M at *
 generalize hE:S.be c=E at *
 go_enter Tryz.func187,Tryz.ntmps187
 go_wp2
 go_quiet (fail)
 have hP3:=hid (fun q=>((hP5.out q).set4 (t:=c) (rowF_len _ _) ((F:Int)+(M:Int))).congr (f':=({ S with mq:=upd S.mq c 0,be:=upd S.be c (F+M) }:Ps).rows N) (six rfl rfl rfl rfl (radd _ _ _ _ _) rfl))
 have hC3:=hid (fun q=>(hC5.out q).put (i:=c) (.int .i64 ((F:Int)+(M:Int))) hm4.out)
 have hsz:Hid (∀q,((((w.drewN q).setCell ⟨q5,c,none⟩ (.int .i64 0)).setCell ⟨q4,c,none⟩ (.int .i64 ((F:Int)+(M:Int)))).heap.size=w.heap.size)):=fun q=>by simp
 have k3f:=(hP.fm.cellN (i:=4) (j:=c) (by simp) rfl (rowF_len _ _) hc).2
 have hI:¬((F:Int)+(M:Int)=(E:Int)):=by omega
 have hJ:¬((F:Int)+(M:Int)-(F:Int)<=(E:Int)-((F:Int)+(M:Int))):=by omega
 have hE1:F+M<E:=by omega
 have hE2:E<=4500:=by omega
 have hHP:=hid hP
 clear hle he hP
 go_wp2_with (go_at_call 185;refine (enter_ps (a:=F+M) (b:=E) (hP3.out nq) hpn.out hnp.out hN (by show S.C<=4500;omega) (by omega) (by omega) (by rw[hsz.out nq];exact hB) (by omega) (by omega)).mono ?_;rintro e w1 ⟨rfl,u3,u4,u5,hE1',hE2',hE3'⟩)
 go_end0
 refine⟨rfl,u3,u4,u5,by rw[hsp.out];exact hE1',((hC3.out nq).mono (fun k hk=>List.mem_cons_of_mem _ hk)).trans hE2' (fun k hk=>Or.inl hk),fun k hk=>?_⟩
 have:=hE3' k hk
 rw[hsz.out nq] at this
 exact this
theorem split_any {w:World} {B pb c N:Nat} {v0 v1 v2 v3 v4 v5:Value} {S:Ps} (hP:Pt w B pb v0 v1 v2 v3 v4 v5 (S.rows N)) (h:Iv N S) (hN:N<=4500) (hc:c<S.C) (hm:0<S.mq c) (hB:B<=w.heap.size) :
  Calls Tryz.prog 187 #[.pointer (some ⟨pb,0,none⟩),.int .i64 c] w fun e w'=>e=.returned (.tuple #[])/\∃u3 u4 u5,Pt w' B pb v0 v1 v2 u3 u4 u5 ((S.split c).rows N)/\Ch (pb::blocks [v0,v1,v2,v3,v4,v5]) w w'/\∀k∈blocks [u3,u4,u5],k∈blocks [v0,v1,v2,v3,v4,v5]∨w.heap.size<=k:=by
 by_cases he:S.fi c+S.mq c=S.be c
 ·exact split_none hP h hN hc hm hB he
 ·by_cases hle:S.mq c<=S.be c-(S.fi c+S.mq c)
  ·exact split_low hP h hN hc hm hB he hle
  ·exact split_high hP h hN hc hm hB he hle
end Go.Proofs.YtpkojcfdkkjmcaaGreatDoor
namespace Go.Proofs.YtpkojcfdkkjmcaaGreatDoor
set_option maxRecDepth 100000
open Go.RowKit
def ints (l:List Nat):List Int:=l.map (fun n:Nat=>(n:Int))
theorem ints_len (l:List Nat):(ints l).length=l.length:=by simp[ints]
theorem ints_get {l:List Nat} {k:Nat} (h:k<l.length):(ints l).getD k 0=((l.getD k 0:Nat):Int):=by simp[ints,List.getD,h]
theorem ints_snoc (l:List Nat) (n:Nat):ints (l++[n])=ints l++[(n:Int)]:=by simp[ints]
theorem ntake_snoc {l:List Nat} {k:Nat} (h:k<l.length):l.take (k+1)=l.take k++[l.getD k 0]:=by
 rw[List.take_succ_eq_append_getElem h]
 simp[List.getD,h]
theorem nget_mem {l:List Nat} {k:Nat} (h:k<l.length):l.getD k 0∈l:=by simp[List.getD,h]
theorem fewer {C:Nat} {T:List Nat} (h:T.Nodup) (hr:∀c∈T,c<C):T.length<=C:=by
 have:=pigeon C (ints T) (by
  unfold ints
  rw[List.nodup_iff_pairwise_ne,List.pairwise_map]
  exact (List.nodup_iff_pairwise_ne.1 h).imp (fun h' e=>h' (by omega))) (fun x hx=>by
  obtain⟨c,hc,rfl⟩:=List.mem_map.1 hx
  have:=hr c hc
  omega)
 rwa[ints_len] at this
theorem Pt.lt {w:World} {B pb:Nat} {v0 v1 v2 v3 v4 v5:Value} {f:Nat->List Int} (h:Pt w B pb v0 v1 v2 v3 v4 v5 f):∀k∈pb::blocks [v0,v1,v2,v3,v4,v5],k<w.heap.size:=fun k hk=>by
 rcases List.mem_cons.1 hk with h1 | h1
 ·rw[h1]
  exact lt_of_block h.blk
 ·exact (h.fm.lt k h1).2
theorem Pt.keep {w w':World} {B pb:Nat} {v0 v1 v2 v3 v4 v5:Value} {f:Nat->List Int} (h:Pt w B pb v0 v1 v2 v3 v4 v5 f) (hk:∀k∈pb::blocks [v0,v1,v2,v3,v4,v5],w'.heap[k]?=w.heap[k]?):Pt w' B pb v0 v1 v2 v3 v4 v5 f:=
 ⟨by rw[hk pb (by simp)];exact h.blk,h.fm.keep (fun k hk'=>hk k (List.mem_cons_of_mem _ hk')),h.ge⟩
theorem Ri.at {w:World} {a:Option Addr} {n c:Nat} {l:List Int} (h:Ri w (.slice a n c) l) {j:Nat} (hj:j<l.length):∃b o,a=some ⟨b,o,none⟩/\w.cell? ⟨b,o+j,none⟩=some (.int .i64 (l.getD j 0)):=by
 obtain⟨a',c',e,h⟩:=h
 injection e with e1 _ _
 subst e1
 exact h j hj
theorem own_read {w:World} {B n:Nat} {v:Value} {l:List Int} (hl:l.length=n) (h:w.ownsRow B 3 1 v n (l.map (Value.int .i64))):Ri w v l:=by
 subst hl
 obtain⟨a,c,rfl⟩:=own_sl h
 exact Ri.ofOwn h
def Ru (w:World) (bu N:Nat) (V:Nat->Value) (F:Nat->List Nat):Prop:=∀a,a<N->w.cell? ⟨bu,a,none⟩=some (V a)/\Ri w (V a) (ints (F a))
theorem flat_prefix {ms:List Nat} {F:Nat->List Nat} {k j:Nat} (hk:k<ms.length) (hj:j<(F (ms.getD k 0)).length):(ms.take k).flatMap F++(F (ms.getD k 0)).take j++[(F (ms.getD k 0)).getD j 0] <+: ms.flatMap F:=by
 have h1:(ms.take k).flatMap F++(F (ms.getD k 0)).take j++[(F (ms.getD k 0)).getD j 0]=(ms.take k).flatMap F++(F (ms.getD k 0)).take (j+1):=by
  rw[ntake_snoc hj,List.append_assoc]
 have h2:(ms.take (k+1)).flatMap F=(ms.take k).flatMap F++F (ms.getD k 0):=by
  rw[ntake_snoc hk,List.flatMap_append]
  simp
 have h3:ms.flatMap F=(ms.take (k+1)).flatMap F++(ms.drop (k+1)).flatMap F:=by rw[←List.flatMap_append,List.take_append_drop]
 rw[h1,h3,h2,List.append_assoc]
 exact (List.prefix_append_right_inj _).2 ((List.take_prefix _ _).trans (List.prefix_append _ _))
theorem flat_nodup {ms:List Nat} {F:Nat->List Nat} {k:Nat} (hk:k<ms.length) (h:(ms.flatMap F).Nodup):(F (ms.getD k 0)).Nodup:=by
 have h2:(ms.take (k+1)).flatMap F=(ms.take k).flatMap F++F (ms.getD k 0):=by
  rw[ntake_snoc hk,List.flatMap_append]
  simp
 have h3:ms.flatMap F=(ms.take (k+1)).flatMap F++(ms.drop (k+1)).flatMap F:=by rw[←List.flatMap_append,List.take_append_drop]
 rw[h3,h2] at h
 exact (List.nodup_append.1 (List.nodup_append.1 h).1).2.1
theorem flat_next {ms:List Nat} {F:Nat->List Nat} {k:Nat} (hk:k<ms.length):(ms.take k).flatMap F++(F (ms.getD k 0)).take (F (ms.getD k 0)).length=(ms.take (k+1)).flatMap F:=by
 rw[ntake_snoc hk,List.flatMap_append,List.take_of_length_le (Nat.le_refl _)]
 simp
structure Pm (w wr:World) (B pb N:Nat) (v0 v1 v2 v3 v4 v5:Value) (S S1:Ps) (L:List Nat) (tv:Value) (T:List Nat):Prop where
 pt:Pt wr B pb v0 v1 v2 v3 v4 v5 (S1.rows N)
 mks:Mk N S S1 L T
 own:wr.ownsRow w.heap.size 3 1 tv T.length ((ints T).map (Value.int .i64))
 ch:Ch (blocks [v0,v1,v2,v3,v4,v5]) w wr
theorem Pm.mark {w wr w1:World} {B pb N n:Nat} {v0 v1 v2 v3 v4 v5 tv:Value} {S S1:Ps} {L T:List Nat} (h:Pm w wr B pb N v0 v1 v2 v3 v4 v5 S S1 L tv T) (hw:∀k∈blocks [v0,v1,v2,v3,v4,v5],k<w.heap.size) (hn:n<N) (hL:n∉L) (h1:S1.mq (S1.cl n)≠0)
  (hP:Pt w1 B pb v0 v1 v2 v3 v4 v5 ((S1.mark n).rows N)) (hC:Ch (blocks [v0,v1,v2,v3,v4,v5]) wr w1):Pm w w1 B pb N v0 v1 v2 v3 v4 v5 S (S1.mark n) (L++[n]) tv T:=by
 have hm:=h.mks.step hn hL
 rw[if_neg h1] at hm
 refine⟨hP,hm,own_block h.own (fun k e=>hC.far k (h.own.lt k e).2 (fun hm'=>?_)),h.ch.trans hC (fun k hk=>Or.inl hk)⟩
 have:=(h.own.lt k e).1
 have:=hw k hm'
 omega
theorem Pm.touch {w wr w1 w2:World} {B pb N n g cap:Nat} {o:Obj} {v0 v1 v2 v3 v4 v5 tv:Value} {S S1:Ps} {L T:List Nat} (h:Pm w wr B pb N v0 v1 v2 v3 v4 v5 S S1 L tv T) (hw:∀k∈blocks [v0,v1,v2,v3,v4,v5],k<w.heap.size) (hn:n<N) (hL:n∉L) (h1:S1.mq (S1.cl n)=0)
  (hgr:(wr.alloc o).grownBy w1 tv.ownBlock) (hown:w1.ownsRow w.heap.size 3 1 (.slice (some ⟨g,0,none⟩) (T.length+1) cap) (T.length+1) ((ints T).map (Value.int .i64)++[.int .i64 ((S1.cl n:Nat):Int)]))
  (hP:Pt w2 B pb v0 v1 v2 v3 v4 v5 ((S1.mark n).rows N)) (hC:Ch (blocks [v0,v1,v2,v3,v4,v5]) w1 w2):Pm w w2 B pb N v0 v1 v2 v3 v4 v5 S (S1.mark n) (L++[n]) (.slice (some ⟨g,0,none⟩) (T.length+1) cap) (T++[S1.cl n]):=by
 have hm:=h.mks.step hn hL
 rw[if_pos h1] at hm
 refine⟨hP,hm,?_,((h.ch.alloc o).grown hgr (fun r e=>Or.inr (h.own.lt r e).1)).trans hC (fun k hk=>Or.inl hk)⟩
 rw[ints_snoc,List.map_append,List.length_append,List.length_singleton]
 refine own_block hown (fun k e=>hC.far k (hown.lt k e).2 (fun hm'=>?_))
 have:=(hown.lt k e).1
 have:=hw k hm'
 omega
theorem Pm.grown {w wr w1:World} {B pb N:Nat} {o:Obj} {v0 v1 v2 v3 v4 v5 tv:Value} {S S1:Ps} {L T:List Nat} (h:Pm w wr B pb N v0 v1 v2 v3 v4 v5 S S1 L tv T) (hw:∀k∈pb::blocks [v0,v1,v2,v3,v4,v5],k<w.heap.size) (hgr:(wr.alloc o).grownBy w1 tv.ownBlock):Pt w1 B pb v0 v1 v2 v3 v4 v5 (S1.rows N):=
 h.pt.keep (fun k hk=>by
  have h1:=hw k hk
  have h2:=h.ch.size
  rw[hgr.block k (by simp;omega) (fun e=>by
   have:=(h.own.lt k e.symm).1
   omega),Below.heap_alloc _ _ _ (by omega)])
def Pq (w1 wr:World) (B pb N:Nat) (v0 v1 v2 v3 v4 v5:Value) (S1:Ps) (T:List Nat):Prop:=
 ∃u3 u4 u5 S2,Pt wr B pb v0 v1 v2 u3 u4 u5 (S2.rows N)/\Sp N S1 S2 T/\Ch (pb::blocks [v0,v1,v2,v3,v4,v5]) w1 wr/\∀k∈blocks [u3,u4,u5],k∈blocks [v0,v1,v2,v3,v4,v5]∨w1.heap.size<=k
theorem blocks_six {v0 v1 v2 v3 v4 v5 u3 u4 u5:Value} {k:Nat} {P:Nat->Prop} (h:k∈blocks [v0,v1,v2,u3,u4,u5]) (h1:∀k∈blocks [v0,v1,v2,v3,v4,v5],P k) (h2:∀k∈blocks [u3,u4,u5],P k):P k:=by
 obtain⟨v,hv,e⟩:=List.mem_filterMap.1 h
 have hv':v∈[v0,v1,v2]∨v∈[u3,u4,u5]:=List.mem_append.1 (show v∈[v0,v1,v2]++[u3,u4,u5] from hv)
 rcases hv' with h3 | h3
 ·exact h1 k (List.mem_filterMap.2 ⟨v,List.mem_append_left [v3,v4,v5] h3,e⟩)
 ·exact h2 k (List.mem_filterMap.2 ⟨v,h3,e⟩)
theorem Pq.step {w1 wr w2:World} {B pb N c:Nat} {v0 v1 v2 v3 v4 v5 u3 u4 u5 t3 t4 t5:Value} {S1 S2:Ps} {T:List Nat} (hs:Sp N S1 S2 T) (hch:Ch (pb::blocks [v0,v1,v2,v3,v4,v5]) w1 wr) (hk:∀k∈blocks [u3,u4,u5],k∈blocks [v0,v1,v2,v3,v4,v5]∨w1.heap.size<=k)
  (hc:c<S1.C) (hT:c∉T) (hm:0<S1.mq c) (hP:Pt w2 B pb v0 v1 v2 t3 t4 t5 ((S2.split c).rows N)) (hC:Ch (pb::blocks [v0,v1,v2,u3,u4,u5]) wr w2) (hk2:∀k∈blocks [t3,t4,t5],k∈blocks [v0,v1,v2,u3,u4,u5]∨wr.heap.size<=k):Pq w1 w2 B pb N v0 v1 v2 v3 v4 v5 S1 (T++[c]):=by
 have hz:=hch.size
 have h6:∀k∈blocks [v0,v1,v2,u3,u4,u5],k∈blocks [v0,v1,v2,v3,v4,v5]∨w1.heap.size<=k:=fun k h=>blocks_six (v3:=v3) (v4:=v4) (v5:=v5) (P:=fun k=>k∈blocks [v0,v1,v2,v3,v4,v5]∨w1.heap.size<=k) h (fun k h=>Or.inl h) hk
 refine⟨t3,t4,t5,_,hP,hs.step hc hT hm,hch.trans hC (fun k hk'=>?_),fun k hk'=>?_⟩
 ·rcases List.mem_cons.1 hk' with h1 | h1
  ·exact Or.inl (by rw[h1];simp)
  ·exact (h6 k h1).imp (fun h=>List.mem_cons_of_mem _ h) id
 ·rcases hk2 k hk' with h1 | h1
  ·exact h6 k h1
  ·exact Or.inr (by omega)
set_option maxHeartbeats 4000000 in
theorem part_any {w:World} {B pb N bu cu:Nat} {v0 v1 v2 v3 v4 v5 mv:Value} {S:Ps} {ms:List Nat} {V:Nat->Value} {F:Nat->List Nat} (hP:Pt w B pb v0 v1 v2 v3 v4 v5 (S.rows N)) (hI:Iv N S) (h0:∀c,c<S.C->S.mq c=0) (hN:N<=4500) (hB:B<=w.heap.size)
  (hms:∀w',Ch (pb::blocks [v0,v1,v2,v3,v4,v5]) w w'->Ri w' mv (ints ms)) (hus:∀w',Ch (pb::blocks [v0,v1,v2,v3,v4,v5]) w w'->Ru w' bu N V F)
  (hml:ms.length<=4500) (hmr:∀m∈ms,m<N) (hnd:(ms.flatMap F).Nodup) (hr:∀n∈ms.flatMap F,n<N) :
  Calls Tryz.prog 175 #[.pointer (some ⟨pb,0,none⟩),mv,.slice (some ⟨bu,0,none⟩) N cu] w fun e w'=>e=.returned (.tuple #[])/\∃u3 u4 u5 S',Pt w' B pb v0 v1 v2 u3 u4 u5 (S'.rows N)/\Pd N S S' (ms.flatMap F)/\Ch (pb::blocks [v0,v1,v2,v3,v4,v5]) w w'/\∀k∈blocks [u3,u4,u5],k∈blocks [v0,v1,v2,v3,v4,v5]∨w.heap.size<=k:=by
 obtain⟨i0,hi,hz0,hz1,hz2⟩:=info_parts infoI
 have hplt:=hid hP.lt
 have hmv:∃ma mc,mv=.slice ma ms.length mc:=by
  obtain⟨ma,mc,h,_⟩:=hms w (Ch.refl _ _)
  rw[ints_len] at h
  exact⟨ma,mc,h⟩
 obtain⟨ma,mc,rfl⟩:=hmv
 have hst:Hid (Pm w w B pb N v0 v1 v2 v3 v4 v5 S S [] (.slice none 0 0) []):=⟨hP,Mk.start hI h0,World.ownsRow_nil _ _ _ _,Ch.refl _ _⟩
 have hMs:=hid hms
 have hUs:=hid hus
 have hNd:=hid hnd
 have hR:=hid hr
 have hMr:=hid hmr
 have hIv:=hid hI
 clear hP hI h0 hms hus hnd hr hmr
 go_enter Tryz.func175,Tryz.ntmps175
 go_wp2
 go_loopw [6,16] (fun t i wr=>∃(k:Nat) (T:List Nat) (ta:Option Addr) (tc:Nat),k<=ms.length/\i=.int .i64 k/\t=.slice ta T.length tc/\Hid (∃S1,Pm w wr B pb N v0 v1 v2 v3 v4 v5 S S1 ((ms.take k).flatMap F) (.slice ta T.length tc) T)) (fun _ i _=>ms.length-(intOf i).toNat)
 case atStart=>exact⟨0,[],none,0,Nat.zero_le _,rfl,rfl,⟨S,hst.out⟩⟩
 case round=>
  clear hst
  obtain⟨k,T,ta,tc,hk,rfl,rfl,hS1⟩:=hrel
  obtain⟨S1,hPm⟩:=hS1.out
  have hCh:Ch (pb::blocks [v0,v1,v2,v3,v4,v5]) w wr:=hPm.ch.mono (fun k hk=>List.mem_cons_of_mem _ hk)
  by_cases hlt:k<ms.length
  ·obtain⟨mb,mo,rfl,d1⟩:=(hMs.out wr hCh).at (j:=k) (by rw[ints_len];exact hlt)
   rw[ints_get hlt] at d1
   have hm:=hMr.out _ (nget_mem hlt)
   obtain⟨d2,d3⟩:=hUs.out wr hCh _ hm
   have hpre:=hid (fun j (hj:j<(F (ms.getD k 0)).length)=>flat_prefix (F:=F) hlt hj)
   have hnext:=hid (flat_next (F:=F) hlt)
   obtain⟨va,vc,hva⟩:∃va vc,V (ms.getD k 0)=.slice va (F (ms.getD k 0)).length vc:=by
    obtain⟨va,vc,h,_⟩:=d3
    rw[ints_len] at h
    exact⟨va,vc,h⟩
   have hUm:Hid (∀w',Ch (pb::blocks [v0,v1,v2,v3,v4,v5]) w w'->Ri w' (.slice va (F (ms.getD k 0)).length vc) (ints (F (ms.getD k 0)))):=fun w' hc=>by
    have:=(hUs.out w' hc _ hm).2
    rw[hva] at this
    exact this
   rw[hva] at d2
   have hFl:Hid (∀n∈F (ms.getD k 0),n<N):=fun n hn=>hR.out n (List.mem_flatMap.2 ⟨_,nget_mem hlt,hn⟩)
   have hFn:(F (ms.getD k 0)).length<=4500:=by
    have h1:=fewer (T:=F (ms.getD k 0)) (C:=N) (flat_nodup hlt hNd.out) hFl.out
    omega
   clear hva d3
   generalize ms.getD k 0=m at d1 d2 hm hpre hnext hUm hFl hFn
   generalize hFm:F m=Fm at d2 hpre hnext hUm hFl hFn
   clear hFm
   have hin:Hid (∃S1,Pm w wr B pb N v0 v1 v2 v3 v4 v5 S S1 ((ms.take k).flatMap F++Fm.take 0) (.slice ta T.length tc) T):=⟨S1,by simpa using hPm⟩
   clear hPm hS1 hCh
   go_wp2
   go_loopw [6,25] (fun t i wr=>∃(j:Nat) (T:List Nat) (ta:Option Addr) (tc:Nat),j<=Fm.length/\i=.int .i64 j/\t=.slice ta T.length tc/\Hid (∃S1,Pm w wr B pb N v0 v1 v2 v3 v4 v5 S S1 ((ms.take k).flatMap F++Fm.take j) (.slice ta T.length tc) T)) (fun _ i _=>Fm.length-(intOf i).toNat)
   case atStart=>exact⟨0,T,ta,tc,Nat.zero_le _,rfl,rfl,hin⟩
   case round=>
    clear hin d1 d2
    obtain⟨j,T,ta,tc,hj,rfl,rfl,hS1⟩:=hrel
    by_cases hltj:j<Fm.length
    ·obtain⟨S1,hPm⟩:=hS1.out
     have hCh:Ch (pb::blocks [v0,v1,v2,v3,v4,v5]) w wr:=hPm.ch.mono (fun k hk=>List.mem_cons_of_mem _ hk)
     obtain⟨vb,vo,rfl,d1⟩:=(hUm.out wr hCh).at (j:=j) (by rw[ints_len];exact hltj)
     rw[ints_get hltj] at d1
     have hn:=hFl.out _ (nget_mem hltj)
     have hpj:=hpre.out j hltj
     have hts:=hid (ntake_snoc hltj)
     generalize Fm.getD j 0=n at d1 hn hpj hts
     have hL:n∉(ms.take k).flatMap F++Fm.take j:=fun hm=>by
      have h1:=List.Sublist.nodup hpj.sublist hNd.out
      exact (List.nodup_append.1 h1).2.2 n hm n (by simp) rfl
     clear hpj
     have hun:Hid (¬S1.mkd n):=fun h=>hL ((hPm.mks.mkd n hn).1 h)
     have hcl:=hPm.mks.iv.cls n hn
     have e2:(S1.rows N 2).length=N:=rowF_len _ _
     have e5:(S1.rows N 5).length=S1.C:=rowF_len _ _
     have hTl:T.length<=4500:=by
      have h1:=fewer hPm.mks.nodup hPm.mks.rng
      have h2:=hPm.mks.iv.le
      omega
     obtain⟨q2,c2,hv2⟩:∃q c,v2=.slice (some ⟨q,0,none⟩) N c:=by
      rw[←e2]
      obtain⟨q,c,h,_⟩:=(own_form (hPm.pt.fm.own 2 (by simp))).resolve_left (fun h=>by omega)
      exact⟨q,c,h⟩
     obtain⟨q5,c5,hv5⟩:∃q c,v5=.slice (some ⟨q,0,none⟩) S1.C c:=by
      rw[←e5]
      obtain⟨q,c,h,_⟩:=(own_form (hPm.pt.fm.own 5 (by simp))).resolve_left (fun h=>by omega)
      exact⟨q,c,h⟩
     obtain⟨⟨_,_,z2,_,_,z5⟩,_⟩:=blk6 hPm.pt.blk
     have k2:=(hPm.pt.fm.cellN (i:=2) (j:=n) (by simp) hv2 e2 hn).1
     have k5:=(hPm.pt.fm.cellN (i:=5) (j:=S1.cl n) (by simp) hv5 e5 hcl).1
     have g2:(S1.rows N 2).getD n 0=(S1.cl n:Int):=rowF_get _ hn
     have g5:(S1.rows N 5).getD (S1.cl n) 0=(S1.mq (S1.cl n):Int):=rowF_get _ hcl
     rw[g2] at k2
     rw[g5] at k5
     rw[hv2] at z2
     rw[hv5] at z5
     have hHC:=hid hv2
     have hHD:=hid hv5
     clear hv2 hv5 e2 e5 g2 g5
     have hCl:S1.C<=4500:=Nat.le_trans hPm.mks.iv.le hN
     have hHP:=hid hPm
     have hHL:=hid hL
     clear hL hS1
     by_cases hq:S1.mq (S1.cl n)=0
     ·rw[hq] at k5
      have hoz:=World.ownsRow.alloc hPm.own (.cells #[.int .i64 ((S1.cl n:Nat):Int)] 3)
      have hnews:=heap_alloc_new wr (.cells #[.int .i64 ((S1.cl n:Nat):Int)] 3)
      have hsz:=hPm.ch.size
      have hmkc:=hid (fun w5 (h5:Pt w5 B pb v0 v1 v2 v3 v4 v5 (S1.rows N))=>mark_ps h5 hPm.mks.iv hN hn hun.out)
      have hend:=hid (fun o w5 w6 g cap=>Pm.touch (o:=o) (w1:=w5) (w2:=w6) (g:=g) (cap:=cap) hPm (fun k hk=>hplt.out k (List.mem_cons_of_mem _ hk)) hn hHL.out hq)
      have hgrn:=hid (fun o w5=>Pm.grown (o:=o) (w1:=w5) hPm hplt.out)
      have hqq:=hid hq
      clear hq hPm hCh hcl
      have hcl:((S1.cl n:Nat):Int)<(S1.C:Int):=by
       have:=hHP.out.mks.iv.cls n hn
       omega
      generalize S1.cl n=cc at *
      go_wp2_with (first
       | (at_builtin;refine wpList_append_lies _ rfl _ _ _ rfl w.heap.size 3 i0 (.int .i64 0) 1 8 Tryz.underlying36 hi hz0 hz1 hz2 rfl (by decide) _ T.length ((ints T).map (Value.int .i64)) rfl hoz ⟨wr.heap.size,0,none⟩ 1 1 [.int .i64 (cc:Int)] rfl rfl (World.news_of_block (cs:=#[.int .i64 (cc:Int)]) (t:=3) (fr:=(0,0)) hnews) (by simp[Value.oneCell']) (by omega) (by unfold maxLen;omega) (by omega) (by simp;omega) (wr.heap.size+1) (by simp) ?_;clear hoz;intro gg cap w5 hown5 hgr5 hat5 hlt5;have hP5:=hgrn.out _ _ hgr5)
       | (go_at_call 186;refine (hmkc.out w5 hP5).mono ?_;rintro e w6 ⟨rfl,hP6,hC6⟩))
      go_roundw
      case rel=>
       refine⟨j+1,T++[cc],some ⟨gg,0,none⟩,cap,by omega,congrArg (Value.int .i64) (by omega),by rw[List.length_append];rfl,⟨S1.mark n,?_⟩⟩
       have:=hend.out _ w5 w6 gg cap hgr5 hown5 hP6 hC6
       rw[hts.out,←List.append_assoc,List.length_append]
       exact this
      case measure=>simp[intOf];omega
     ·have hqi:¬((S1.mq (S1.cl n):Nat):Int)=0:=by omega
      have hmkc:=hid (mark_ps hPm.pt hPm.mks.iv hN hn hun.out)
      have hend:=hid (fun w6=>Pm.mark (w1:=w6) hPm (fun k hk=>hplt.out k (List.mem_cons_of_mem _ hk)) hn hHL.out hq)
      clear hq hPm hCh hcl
      have hcl:((S1.cl n:Nat):Int)<(S1.C:Int):=by
       have:=hHP.out.mks.iv.cls n hn
       omega
      generalize hmm:S1.mq (S1.cl n)=mm at *
      clear hmm
      generalize S1.cl n=cc at *
      go_wp2_with (first
       | (go_at_call 186;refine hmkc.out.mono ?_;rintro e w6 ⟨rfl,hP6,hC6⟩))
      go_roundw
      case rel=>
       refine⟨j+1,T,ta,tc,by omega,congrArg (Value.int .i64) (by omega),rfl,⟨S1.mark n,?_⟩⟩
       have:=hend.out w6 hP6 hC6
       rw[hts.out,←List.append_assoc]
       exact this
      case measure=>simp[intOf];omega
    ·have hjl:j=Fm.length:=by omega
     subst hjl
     rw[hnext.out] at hS1
     go_wp2
     exact⟨⟨k+1,T,ta,tc,by omega,congrArg (Value.int .i64) (by omega),rfl,hS1⟩,by simp[intOf];omega⟩
  ·have hkl:k=ms.length:=by omega
   subst hkl
   rw[List.take_of_length_le (Nat.le_refl _)] at hPm hS1
   have hHP:=hid hPm
   have hTl:T.length<=4500:=by
    have h1:=fewer hPm.mks.nodup hPm.mks.rng
    have h2:=hPm.mks.iv.le
    omega
   have hq0:Hid (Pq wr wr B pb N v0 v1 v2 v3 v4 v5 S1 (T.take 0)):=⟨v3,v4,v5,S1,hPm.pt,by simpa using Sp.start hPm.mks.iv,Ch.refl _ _,fun k hk=>Or.inl (blocks_last hk)⟩
   have hrd:Hid (∀w',Ch (pb::blocks [v0,v1,v2,v3,v4,v5]) wr w'->Ri w' (.slice ta T.length tc) (ints T)):=fun w' hc=>by
    refine own_read (B:=w.heap.size) (ints_len T) (own_block hPm.own (fun q e=>hc.far q (hPm.own.lt q e).2 (fun hm=>?_)))
    have:=(hPm.own.lt q e).1
    have:=hplt.out q hm
    omega
   have hBr:B<=wr.heap.size:=Nat.le_trans hB hPm.ch.size
   clear hPm hS1 hMs hUs hR hMr hlt
   go_wp2
   go_loopw [55] (fun i w2=>∃(j:Nat),j<=T.length/\i=.int .i64 j/\Hid (Pq wr w2 B pb N v0 v1 v2 v3 v4 v5 S1 (T.take j))) (fun i _=>T.length-(intOf i).toNat)
   case atStart=>exact⟨0,Nat.zero_le _,rfl,hq0⟩
   case round=>
    obtain⟨j,hj,rfl,hPq⟩:=hrel
    by_cases hltj:j<T.length
    ·obtain⟨u3,u4,u5,S2,hPt,hSp,hCh,hkb⟩:=hPq.out
     obtain⟨tb,tfo,rfl,d1⟩:=(hrd.out _ hCh).at (j:=j) (by rw[ints_len];exact hltj)
     rw[ints_get hltj] at d1
     have hc:=hHP.out.mks.rng _ (nget_mem hltj)
     have hmq:=(hHP.out.mks.tch _ hc).1 (nget_mem hltj)
     have hts:=hid (ntake_snoc hltj)
     have hnT:T.getD j 0∉T.take j:=fun hm=>by
      have h1:=List.Sublist.nodup (List.take_sublist (j+1) T) hHP.out.mks.nodup
      rw[hts.out] at h1
      exact (List.nodup_append.1 h1).2.2 _ hm _ (by simp) rfl
     generalize T.getD j 0=c at d1 hc hmq hts hnT
     have hcall:=hid (split_any hPt hSp.iv hN (Nat.lt_of_lt_of_le hc hSp.le) (by rw[hSp.mq c hc hnT];exact hmq) (Nat.le_trans hBr hCh.size))
     have hend:=hid (fun w3 t3 t4 t5=>Pq.step (B:=B) (w2:=w3) (t3:=t3) (t4:=t4) (t5:=t5) hSp hCh hkb hc hnT hmq)
     clear hPq hPt hSp hCh hkb hnT hmq hc
     go_wp2_with (go_at_call 187;refine hcall.out.mono ?_;rintro e w3 ⟨rfl,t3,t4,t5,hP3,hC3,hk3⟩)
     go_roundw
     case rel=>exact⟨j+1,by omega,congrArg (Value.int .i64) (by omega),by rw[hts.out];exact hend.out w3 t3 t4 t5 hP3 hC3 hk3⟩
     case measure=>simp[intOf];omega
    ·have hjl:j=T.length:=by omega
     subst hjl
     rw[List.take_of_length_le (Nat.le_refl _)] at hPq
     obtain⟨u3,u4,u5,S2,hPt,hSp,hCh,hkb⟩:=hPq.out
     go_wp2
     go_end0
     refine⟨rfl,u3,u4,u5,S2,hPt,Sp.parted hHP.out.mks hSp,(hHP.out.ch.mono (fun k hk=>List.mem_cons_of_mem _ hk)).trans hCh (fun k hk=>Or.inl hk),fun k hk=>?_⟩
     have:=hHP.out.ch.size
     rcases hkb k hk with h1 | h1
     ·exact Or.inl h1
     ·exact Or.inr (by omega)
end Go.Proofs.YtpkojcfdkkjmcaaGreatDoor
