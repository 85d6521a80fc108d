/- Package cells: what 'lay' has in memory. -/
import Derived.Laws.StructEq
import Derived.LaidEql
import Derived.Test.YtbfbkmkjcekpaaaGreatDoorow27Z
import Derived.Test.YtbfbkmkjcekpaaaGreatDoorow16Z
import Derived.Test.YtbfbkmkjcekpaaaGreatDoorow23Z
import Derived.Test.YtbfbkmkjcekpaaaGreatDoorow05Z
import Derived.Test.YtbfbkmkjcekpaaaGreatDoorow10Z
namespace Go.Proofs.YtbfbkmkjcekpaaaGreatDoor
set_option maxRecDepth 100000
open Go.RowKit
structure Ly (W w:World) (ab:Nat) (av nv rv:Value) (N:Nat) (PL:List Int):Prop where
 m:a_Mod (a_foot ab av) W w
 f:∀k∈a_foot ab av,k<W.heap.size
 g:w.heap[W.heap.size]?=some (.cells #[nv,rv] 25)
 p:w.ownsRow (W.heap.size+1) 3 1 (.slice (some ⟨W.heap.size+1,0,none⟩) N N) N (PL.map (Value.int .i64))
 l:PL.length=N
section
variable {W w w':World} {ab:Nat} {av nv rv:Value} {N:Nat} {PL:List Int}
theorem Ly.next (h:Ly W w ab av nv rv N PL) (hb:Below w.heap.size w w'):Ly W w' ab av nv rv N PL:=
 ⟨h.m.trans (a_Mod.ofBelow (ks:=[]) hb) (fun _ hx=>by cases hx),h.f,(hb.block _ (lt_of_block h.g)).trans h.g,row_keep h.p (fun k hk=>hb.block k (h.p.lt k hk).2),h.l⟩
theorem Ly.upd (h:Ly W w ab av nv rv N PL) (hm:a_Mod (a_foot ab av) w w'):Ly W w' ab av nv rv N PL:=
 ⟨h.m.trans hm (fun _ hx=>Or.inl hx),h.f,(hm.block _ (lt_of_block h.g) (fun hx=>by have:=h.f _ hx;omega)).trans h.g,row_keep h.p (fun k hk=>hm.block k (h.p.lt k hk).2 (fun hx=>by have:=h.f _ hx;have:=(h.p.lt k hk).1;omega)),h.l⟩
theorem Ly.cell (h:Ly W w ab av nv rv N PL) {i:Nat} (hi:i<N):w.cell? ⟨W.heap.size+1,i,none⟩=some (.int .i64 (PL.getD i 0))/\w.frozen? ⟨W.heap.size+1,i,none⟩=false:=
 ⟨by rw[h.p.cellAt i (by omega)];have:=h.l;simp[List.getD,show i<PL.length by omega],h.p.frozenAt i⟩
theorem Ly.set (h:Ly W w ab av nv rv N PL) (n:Nat) (v:Int):Ly W (w.setCell ⟨W.heap.size+1,n,none⟩ (.int .i64 v)) ab av nv rv N (PL.set n v):=by
 refine⟨h.m.setCell (p:=⟨W.heap.size+1,n,none⟩) (Or.inr (by show W.heap.size<=W.heap.size+1;omega)) _,h.f,(Below.heap_setCell _ _ _ _ (by show W.heap.size≠W.heap.size+1;omega)).trans h.g,?_,by simp[h.l]⟩
 have h3:=(World.ownsRow.stored h.p n (.int .i64 v)).1
 rw[List.map_set]
 exact h3
theorem Ly.box (h:Ly W w ab av nv rv N PL):(w.cell? ⟨W.heap.size,0,none⟩=some nv/\w.cell? ⟨W.heap.size,1,none⟩=some rv)/\W.heap.size<w.heap.size/\W.heap.size+1<w.heap.size:=by
 obtain⟨a,_⟩:=cblk2 h.g
 exact⟨a,lt_of_block h.g,(h.p.lt _ rfl).2⟩
theorem ly_start {w1:World} (hf:∀k∈a_foot ab av,k<W.heap.size) (hown:w1.ownsRow (W.heap.size+1) 3 1 (.slice (some ⟨(W.alloc (.cells #[nv,rv] 25)).heap.size,0,none⟩) N N) N (madeCells (Value.int .i64 0).cells (N*1)).toList) (hgrow:(W.alloc (.cells #[nv,rv] 25)).grownBy w1 none):Ly W w1 ab av nv rv N (List.replicate N 0)/\Below W.heap.size W w1:=by
 have hsz:(W.alloc (.cells #[nv,rv] 25)).heap.size=W.heap.size+1:=by simp
 rw[hsz] at hown
 have hb:Below W.heap.size W w1:=(below_alloc W _).grown hgrow (by omega) (fun _ e=>by cases e)
 refine⟨⟨a_Mod.ofBelow hb,hf,?_,?_,by simp⟩,hb⟩
 ·rw[hgrow.block _ (by simp) (fun e=>by cases e)]
  exact heap_alloc_new W _
 ·rw[show (madeCells (Value.int .i64 0).cells (N*1)).toList=List.replicate N (.int .i64 0) by rw[Nat.mul_one];simp[Value.cells,toList_madeCells_one]] at hown
  simpa using hown
end
def PlJ (g:Gf) (met:List Int) (b j:Nat) (PL:List Int):Prop:=∀i,i<j->PL.getD (met.getD i 0).toNat 0=((b+wantJ g met i:Nat):Int)
theorem plJ_set {g:Gf} {met PL:List Int} {b j:Nat} (h:PlJ g met b j PL) (hn:met.Nodup) (hr:∀x∈met,0<=x/\x<(PL.length:Int)) (hj:j<met.length):PlJ g met b (j+1) (PL.set (met.getD j 0).toNat ((b+wantJ g met j:Nat):Int)):=fun i hi=>by
 have hrj:=hr _ (getD_mem hj)
 by_cases e:i=j
 ·subst e
  have hz:(met.getD i 0).toNat<PL.length:=by omega
  generalize (met.getD i 0).toNat=z at *
  simp[List.getD,hz]
 ·have hij:i<j:=by omega
  have hri:=hr _ (getD_mem (show i<met.length by omega))
  have hne:(met.getD j 0).toNat≠(met.getD i 0).toNat:=fun e2=>by
   have e3:met.getD j 0=met.getD i 0:=by omega
   have h4:=pos_of_getD hn hj
   rw[e3,pos_of_getD hn (show i<met.length by omega)] at h4
   exact e h4
  have h5:=h i hij
  simp only[List.getD] at h5 hne ⊢
  rw[List.getElem?_set_ne hne]
  exact h5
theorem plJ_all {g:Gf} {met PL:List Int} {b:Nat} (h:PlJ g met b met.length PL) {x:Int} (hx:x∈met):PL.getD x.toNat 0=(plN g met b x:Int):=by
 have h1:=h (pos met x) (pos_lt hx)
 rw[pos_at hx] at h1
 exact h1
def Gra (w:World) (nv rv:Value) (g:Gf) (avs:Nat->Value):Prop:=(∃na nc,nv=.slice na g.nodes.length nc/\∀x,x<g.nodes.length->∃b o,na=some ⟨b,o,none⟩/\NdAt w b (o+x*4) (avs x) (g.nodes.getD x nd0))/\Ri w rv g.roots
theorem gra_of {w:World} {nv rv:Value} {g:Gf} (h:Gr w nv rv g):∃avs,Gra w nv rv g avs:=by
 obtain⟨na,nc,e,hc⟩:=h.1
 have hf:∀x,∃av,x<g.nodes.length->∃b o,na=some ⟨b,o,none⟩/\NdAt w b (o+x*4) av (g.nodes.getD x nd0):=fun x=>by
  by_cases hx:x<g.nodes.length
  ·obtain⟨b,o,av,e,h0⟩:=hc x hx
   exact⟨av,fun _=>⟨b,o,e,h0⟩⟩
  ·exact⟨undef,fun h=>absurd h hx⟩
 exact⟨fun x=>(hf x).choose,⟨na,nc,e,fun x hx=>(hf x).choose_spec hx⟩,h.2⟩
theorem Gra.below {w w':World} {nv rv:Value} {g:Gf} {avs:Nat->Value} (h:Gra w nv rv g avs) (hb:Below w.heap.size w w'):Gra w' nv rv g avs:=by
 obtain⟨⟨na,nc,e,hc⟩,hr⟩:=h
 exact⟨⟨na,nc,e,fun x hx=>by
  obtain⟨b,o,e,h0⟩:=hc x hx
  exact⟨b,o,e,h0.below hb⟩⟩,hr.below hb⟩
theorem Gra.gr {w:World} {nv rv:Value} {g:Gf} {avs:Nat->Value} (h:Gra w nv rv g avs):Gr w nv rv g:=by
 obtain⟨⟨na,nc,e,hc⟩,hr⟩:=h
 exact⟨⟨na,nc,e,fun x hx=>by
  obtain⟨b,o,e,h0⟩:=hc x hx
  exact⟨b,o,avs x,e,h0⟩⟩,hr⟩
theorem ri_own {w:World} {B:Nat} {ao:Option Addr} {c:Nat} {L:List Int} (h:w.ownsRow B 3 1 (.slice ao L.length c) L.length (L.map (Value.int .i64))):Ri w (.slice ao L.length c) L:=by
 refine⟨ao,c,rfl,fun j hj=>?_⟩
 rcases h.2 with⟨e,hn⟩ | ⟨gb,cap,cur,e,_⟩
 ·omega
 ·injection e with e _ _
  subst e
  refine⟨gb,0,rfl,?_⟩
  rw[Nat.zero_add,h.cellAt j (by omega)]
  simp[List.getD,hj]
theorem Gra.nd {w:World} {na:Option Addr} {nc:Nat} {rv:Value} {g:Gf} {avs:Nat->Value} (hG:Gra w (.slice na g.nodes.length nc) rv g avs) {x:Nat} (hx:x<g.nodes.length):∃b o aa ac,na=some ⟨b,o,none⟩/\avs x=.slice aa (g.nodes.getD x nd0).args.length ac/\w.cell? ⟨b,o+x*4,none⟩=some (.int .i64 (g.nodes.getD x nd0).kind)/\w.cell? ⟨b,o+x*4+1,none⟩=some (.string (g.nodes.getD x nd0).name)/\w.cell? ⟨b,o+x*4+2,none⟩=some (.int .i64 (g.nodes.getD x nd0).num)/\w.cell? ⟨b,o+x*4+3,none⟩=some (.slice aa (g.nodes.getD x nd0).args.length ac)/\Ri w (.slice aa (g.nodes.getD x nd0).args.length ac) (g.nodes.getD x nd0).args:=by
 obtain⟨⟨na',nc',e,hc⟩,_⟩:=hG
 injection e with e1 _ _
 subst e1
 obtain⟨b,o,rfl,h0⟩:=hc x hx
 obtain⟨p0,p1,p2,p3,p4⟩:=h0
 obtain⟨aa,ac,e,h5⟩:=p4
 rw[e] at p3
 exact⟨b,o,aa,ac,rfl,e,p0,p1,p2,p3,aa,ac,rfl,h5⟩
theorem Gra.nd2 {w:World} {nb no:Nat} {nc:Nat} {rv:Value} {g:Gf} {avs:Nat->Value} (hG:Gra w (.slice (some ⟨nb,no,none⟩) g.nodes.length nc) rv g avs) {x:Nat} (hx:x<g.nodes.length) {aa:Option Addr} {ac:Nat} (ha:avs x=.slice aa (g.nodes.getD x nd0).args.length ac):w.cell? ⟨nb,no+x*4,none⟩=some (.int .i64 (g.nodes.getD x nd0).kind)/\w.cell? ⟨nb,no+x*4+1,none⟩=some (.string (g.nodes.getD x nd0).name)/\w.cell? ⟨nb,no+x*4+2,none⟩=some (.int .i64 (g.nodes.getD x nd0).num)/\w.cell? ⟨nb,no+x*4+3,none⟩=some (.slice aa (g.nodes.getD x nd0).args.length ac)/\Ri w (.slice aa (g.nodes.getD x nd0).args.length ac) (g.nodes.getD x nd0).args:=by
 obtain⟨b,o,aa',ac',e,e2,p0,p1,p2,p3,p4⟩:=hG.nd hx
 injection e with e
 injection e with e1 e3 _
 subst e1 e3
 rw[ha] at e2
 injection e2 with e4 _ e5
 subst e4 e5
 exact⟨p0,p1,p2,p3,p4⟩
section
variable {w w':World} {B hb ab tb:Nat} {m:Int} {av:Value} {l:List Int} {tv:Value} {tq:Nat} {ns:List ByteArray} {trv ptv:Value} {n:Int}
theorem Hp.keep {ks:List Nat} (h:Hp w B hb ab tb m av l tv tq ns trv ptv n) (hm:a_Mod ks w w') (hk:∀k∈ks,k≠hb/\k∉a_foot ab av/\k∉n_foot tb tv tq):Hp w' B hb ab tb m av l tv tq ns trv ptv n:=
 ⟨(hm.block hb (lt_of_block h.blk) (fun hx=>(hk _ hx).1 rfl)).trans h.blk,h.base,h.ar.keep hm (fun k hx=>(hk k hx).2.1),h.tb.keep (mod_an hm) (fun k hx=>(hk k hx).2.2)⟩
theorem Hp.ltz (h:Hp w B hb ab tb m av l tv tq ns trv ptv n):hb<w.heap.size/\(∀k∈a_foot ab av,k<w.heap.size)/\(∀k∈n_foot tb tv tq,k<w.heap.size):=by
 refine⟨lt_of_block h.blk,fun k hk=>?_,fun k hk=>?_⟩
 ·rcases a_mem_foot.1 hk with rfl | hk
  ·exact h.ar.lt
  ·exact (h.ar.row hk).2.1
 ·rcases n_mem_foot.1 hk with rfl | rfl | hk
  ·exact h.tb.lt
  ·exact h.tb.mlt
  ·exact (h.tb.row hk).2.1
end
theorem Ly.far {W w w':World} {ab:Nat} {av nv rv:Value} {N:Nat} {PL:List Int} {ks:List Nat} (h:Ly W w ab av nv rv N PL) (hm:a_Mod ks w w') (hk:∀k∈ks,W.heap.size+2<=k):Ly W w' ab av nv rv N PL:=
 ⟨h.m.trans hm (fun k hx=>Or.inr (by have:=hk k hx;omega)),h.f,(hm.block _ (lt_of_block h.g) (fun hx=>by have:=hk _ hx;omega)).trans h.g,row_keep h.p (fun k hk2=>hm.block k (h.p.lt k hk2).2 (fun hx=>by
  have e:k=W.heap.size+1:=by simpa[Value.ownBlock] using hk2.symm
  have:=hk _ hx
  omega)),h.l⟩
theorem good_int {N:Nat} {n:Nd} (h:goodNd N n=true) (h3:n.kind=3):fitsB 2 n.num=true:=by
 unfold goodNd at h
 rw[if_neg (by omega),if_neg (by omega),if_pos h3] at h
 simp at h
 simp[fitsB]
 omega
theorem sz_pos {N:Nat} {n:Nd} (h:goodNd N n=true) (h2:n.kind≠2) (h3:n.kind≠3):1<=szN n:=by
 unfold goodNd at h
 unfold szN
 rw[if_neg h2,if_neg h3] at h
 split
 ·omega
 ·rename_i h1
  rw[if_neg h1] at h
  split
  ·omega
  ·rename_i h4
   rw[if_neg h4] at h
   cases h
theorem good_comp {N:Nat} {n:Nd} (h:goodNd N n=true) (h4:n.kind=4):1<=n.args.length/\n.args.length<=8:=by
 refine⟨?_,(good_args h).2⟩
 unfold goodNd at h
 rw[if_neg (by omega),if_neg (by omega),if_neg (by omega),if_pos h4] at h
 simp only[Bool.and_eq_true,decide_eq_true_eq] at h
 exact h.1.1.2
theorem getD_map1 (f:Int->Int) (a:Int) {L:List Int} {r:Nat} (h:r<L.length):(a::L.map f).getD (r+1) 0=f (L.getD r 0):=by
 simp[List.getD,h]
theorem grown_mod {w w':World} {o:Obj} {v:Value} (h:(w.alloc o).grownBy w' v.ownBlock):a_Mod v.ownBlock.toList w w':=
 ((a_Mod.refl _ w).alloc o).grown h (fun k e=>Or.inl (by rw[e];simp))
end Go.Proofs.YtbfbkmkjcekpaaaGreatDoor
namespace Go.Proofs.YtbfbkmkjcekpaaaGreatDoor
set_option maxRecDepth 100000
open Go.RowKit
structure PmC (NS:List ByteArray) (g:Gf) (met:List Int) (b:Nat):Prop where
 good:Good g
 ok:Ok g.nodes.length met
 root:∀x∈g.roots,x∈met
 arg:∀x∈met,∀y∈g.argsOf x,y∈met
 nm:∀x∈met,(g.nodes.getD x.toNat nd0).kind=2∨(g.nodes.getD x.toNat nd0).kind=4->num NS (g.nodes.getD x.toNat nd0).name<NS.length
 len:NS.length<=1024
 room:b+(putW NS g met b).length<=65536
section
variable {NS:List ByteArray} {g:Gf} {met:List Int} {b:Nat}
theorem PmC.nd (h:PmC NS g met b) {x:Int} (hx:x∈met):goodNd g.nodes.length (g.nodes.getD x.toNat nd0)=true:=by
 have hr:=h.ok.rng x hx
 exact h.good.node _ (by
  have:x.toNat<g.nodes.length:=by omega
  simp[List.getD,this])
theorem good_kind {N:Nat} {n:Nd} (h:goodNd N n=true):n.kind=1∨n.kind=2∨n.kind=3∨n.kind=4:=by
 unfold goodNd at h
 split at h
 ·omega
 ·split at h
  ·omega
  ·split at h
   ·omega
   ·split at h
    ·omega
    ·cases h
theorem PmC.pl (_h:PmC NS g met b) {x:Int} (hx:x∈met):plN g met b x+szN (g.nodes.getD x.toNat nd0)<=b+(putW NS g met b).length/\b<=plN g met b x:=by
 have h1:=want_next (g:=g) (met:=met) (pos_lt hx)
 rw[pos_at hx] at h1
 rw[putW_len]
 unfold plN
 omega
theorem PmC.at (_h:PmC NS g met b) {x:Int} (hx:x∈met) {r:Nat} (hr:r<szN (g.nodes.getD x.toNat nd0)):(putW NS g met b).getD (plN g met b x-b+r) 0=(nwX NS g met b x).getD r 0:=by
 have h1:=putW_node (ns:=NS) (b:=b) (pos_lt hx) (r:=r) (by rw[pos_at hx];exact hr)
 rw[pos_at hx] at h1
 unfold plN
 rw[show b+wantJ g met (pos met x)-b+r=wantJ g met (pos met x)+r by omega]
 exact h1
structure Cw (NS:List ByteArray) (g:Gf) (met:List Int) (b:Nat) (x:Int) (u:Int):Prop where
 good:goodB u=true
 rng:0<=u/\u<=18446744073709551615
 tag:u % 8=0∨u % 8=1∨u % 8=2∨u % 8=3
 ref:u % 8=0->(g.nodes.getD x.toNat nd0).kind=1/\valOf u=(plN g met b x:Int)
 str:u % 8=3->(g.nodes.getD x.toNat nd0).kind=4/\valOf u=(plN g met b x:Int)
 atom:u % 8=1->(valOf u).toNat<NS.length
theorem PmC.cw (h:PmC NS g met b) {x:Int} (hx:x∈met):Cw NS g met b x (cwX NS g met b x):=by
 have hn:=h.nd hx
 have hp:=(h.pl hx).1
 have hrm:=h.room
 have hpl:(g.nodes.getD x.toNat nd0).kind≠2->(g.nodes.getD x.toNat nd0).kind≠3->plN g met b x<65536:=fun h2 h3=>by
  have:=sz_pos hn h2 h3
  omega
 unfold cwX cwF
 rcases good_kind hn with k | k | k | k
 ·rw[if_neg (by omega),if_neg (by omega),if_neg (by omega)]
  have hf:fitsB 0 (plN g met b x:Int)=true:=by have:=hpl (by omega) (by omega);simp[fitsB];omega
  have ht:=wordOf_tag 0 (plN g met b x:Int) (by omega) (by omega)
  exact⟨wordOf_good _ _ hf,wordOf_bd _ _,Or.inl ht,fun _=>⟨k,wordOf_val _ _ hf⟩,fun e=>by omega,fun e=>by omega⟩
 ·rw[if_pos k]
  have hnm:=h.nm x hx (Or.inl k)
  have hl:=h.len
  have hf:fitsB 1 (num NS (g.nodes.getD x.toNat nd0).name:Int)=true:=by generalize num NS (g.nodes.getD x.toNat nd0).name=v at *;simp[fitsB];omega
  have ht:=wordOf_tag 1 (num NS (g.nodes.getD x.toNat nd0).name:Int) (by omega) (by omega)
  exact⟨wordOf_good _ _ hf,wordOf_bd _ _,Or.inr (Or.inl ht),fun e=>by omega,fun e=>by omega,fun _=>by rw[wordOf_val _ _ hf,Int.toNat_natCast];exact hnm⟩
 ·rw[if_neg (by omega),if_pos k]
  have hf:=good_int hn k
  have ht:=wordOf_tag 2 (g.nodes.getD x.toNat nd0).num (by omega) (by omega)
  exact⟨wordOf_good _ _ hf,wordOf_bd _ _,Or.inr (Or.inr (Or.inl ht)),fun e=>by omega,fun e=>by omega,fun e=>by omega⟩
 ·rw[if_neg (by omega),if_neg (by omega),if_pos k]
  have hf:fitsB 3 (plN g met b x:Int)=true:=by have:=hpl (by omega) (by omega);simp[fitsB];omega
  have ht:=wordOf_tag 3 (plN g met b x:Int) (by omega) (by omega)
  exact⟨wordOf_good _ _ hf,wordOf_bd _ _,Or.inr (Or.inr (Or.inr ht)),fun e=>by omega,fun _=>⟨k,wordOf_val _ _ hf⟩,fun e=>by omega⟩
theorem PmC.fw (h:PmC NS g met b) {x:Int} (hx:x∈met) (k:(g.nodes.getD x.toNat nd0).kind=4):goodB (fwF NS (g.nodes.getD x.toNat nd0))=true/\(0<=fwF NS (g.nodes.getD x.toNat nd0)/\fwF NS (g.nodes.getD x.toNat nd0)<=18446744073709551615)/\fwF NS (g.nodes.getD x.toNat nd0) % 8=4/\valOf (fwF NS (g.nodes.getD x.toNat nd0))=(num NS (g.nodes.getD x.toNat nd0).name:Int)*16+((g.nodes.getD x.toNat nd0).args.length:Int):=by
 have hn:=h.nd hx
 have h18:=good_comp hn k
 have hnm:=h.nm x hx (Or.inr k)
 have hl:=h.len
 have hf:=(fun_fitsC (num NS (g.nodes.getD x.toNat nd0).name:Int) ((g.nodes.getD x.toNat nd0).args.length:Int) (by generalize num NS (g.nodes.getD x.toNat nd0).name=v at *;generalize (g.nodes.getD x.toNat nd0).args.length=q at *;simp[funB];omega)).1
 unfold fwF
 exact⟨wordOf_good _ _ hf,wordOf_bd _ _,wordOf_tag _ _ (by omega) (by omega),wordOf_val _ _ hf⟩
theorem nw_var {x:Int} (k:(g.nodes.getD x.toNat nd0).kind=1):nwX NS g met b x=[8*(plN g met b x:Int)]:=by
 unfold nwX
 rw[if_pos k]
theorem nw_comp {x:Int} (k:(g.nodes.getD x.toNat nd0).kind=4):nwX NS g met b x=fwF NS (g.nodes.getD x.toNat nd0)::(g.nodes.getD x.toNat nd0).args.map (cwX NS g met b):=by
 unfold nwX
 rw[if_neg (by omega),if_pos k]
theorem sz_var {n:Nd} (k:n.kind=1):szN n=1:=by unfold szN;rw[if_pos k]
theorem sz_comp {n:Nd} (k:n.kind=4):szN n=1+n.args.length:=by unfold szN;rw[if_neg (by omega),if_pos k]
theorem PmC.cover (h:PmC NS g met b) {c:Nat} (hc:c<(putW NS g met b).length) :
  (∃x∈met,(putW NS g met b).getD c 0=cwX NS g met b x)∨(∃x∈met,(g.nodes.getD x.toNat nd0).kind=1/\b+c=plN g met b x/\(putW NS g met b).getD c 0=8*(plN g met b x:Int))∨(∃x∈met,(g.nodes.getD x.toNat nd0).kind=4/\b+c=plN g met b x/\(putW NS g met b).getD c 0=fwF NS (g.nodes.getD x.toNat nd0)):=by
 rw[putW_len] at hc
 rcases want_cover _ c hc with h1 | ⟨j,r,hj,hr,rfl⟩
 ·exact Or.inl ⟨_,h.root _ (getD_mem h1),putW_root h1⟩
 ·have hx:=getD_mem hj
  have e1:=putW_node (ns:=NS) (b:=b) hj hr
  have hpl:plN g met b (met.getD j 0)=b+wantJ g met j:=by
   unfold plN
   rw[pos_of_getD h.ok.nodup hj]
  generalize met.getD j 0=x at *
  rcases good_kind (h.nd hx) with k | k | k | k
  ·rw[sz_var k] at hr
   obtain rfl:r=0:=by omega
   refine Or.inr (Or.inl ⟨x,hx,k,by omega,?_⟩)
   rw[e1,nw_var k]
   rfl
  ·exact absurd hr (by unfold szN;rw[if_neg (by omega),if_neg (by omega)];omega)
  ·exact absurd hr (by unfold szN;rw[if_neg (by omega),if_neg (by omega)];omega)
  ·rw[sz_comp k] at hr
   rw[nw_comp k] at e1
   match r,hr with
   | 0,_=>exact Or.inr (Or.inr ⟨x,hx,k,by omega,e1⟩)
   | r+1,hr=>
    rw[getD_map1 _ _ (by omega)] at e1
    exact Or.inl ⟨_,h.arg x hx _ (getD_mem (by unfold Gf.argsOf;omega)),e1⟩
def vrP (g:Gf) (met:List Int) (b:Nat) (V:Nat->Bool) (k:Nat):Bool:=if k<b then V k else met.any (fun x=>decide ((g.nodes.getD x.toNat nd0).kind=1) && decide (plN g met b x=k))
theorem PmC.may (h:PmC NS g met b) {c:Nat} (hc:c<(putW NS g met b).length):0<=(putW NS g met b).getD c 0/\(putW NS g met b).getD c 0<=18446744073709551615/\mayB ((putW NS g met b).getD c 0) (b+(putW NS g met b).length)=true:=by
 have key:∀u:Int,goodB u=true->(u % 8=0∨u % 8=3∨u % 8=5->∃p:Nat,valOf u=(p:Int)/\p<b+(putW NS g met b).length)->mayB u (b+(putW NS g met b).length)=true:=fun u hg hv=>by
  unfold mayB
  rw[hg,Bool.true_and]
  by_cases ht:tellsB u=true
  ·have:u % 8=0∨u % 8=3∨u % 8=5:=by simpa[tellsB] using ht
   obtain⟨p,e,hp⟩:=hv this
   rw[e]
   simp
   exact Or.inr (by omega)
  ·have:tellsB u=false:=by simpa using ht
   rw[this]
   rfl
 rcases h.cover hc with⟨x,hx,e⟩ | ⟨x,hx,k,e2,e⟩ | ⟨x,hx,k,e2,e⟩
 ·rw[e]
  have hcw:=h.cw hx
  refine⟨hcw.rng.1,hcw.rng.2,key _ hcw.good (fun ht=>?_)⟩
  have hp:=(h.pl hx).1
  rcases ht with t | t | t
  ·obtain⟨k,hv⟩:=hcw.ref t
   rw[sz_var k] at hp
   exact⟨_,hv,by omega⟩
  ·obtain⟨k,hv⟩:=hcw.str t
   rw[sz_comp k] at hp
   exact⟨_,hv,by omega⟩
  ·have:=hcw.tag
   omega
 ·rw[e]
  have hp:=(h.pl hx).1
  have hr:=h.room
  rw[sz_var k] at hp
  have hf:fitsB 0 (plN g met b x:Int)=true:=by simp[fitsB];omega
  have hw:8*(plN g met b x:Int)=wordOf 0 (plN g met b x:Int):=by unfold wordOf;omega
  rw[hw]
  exact⟨(wordOf_bd _ _).1,(wordOf_bd _ _).2,key _ (wordOf_good _ _ hf) (fun _=>⟨_,wordOf_val _ _ hf,by omega⟩)⟩
 ·rw[e]
  obtain⟨f1,f2,f3,_⟩:=h.fw hx k
  exact⟨f2.1,f2.2,key _ f1 (fun t=>by omega)⟩
end
section
variable {NS:List ByteArray} {g:Gf} {met:List Int} {l:List Int} {V:Nat->Bool}
theorem wd_old {T:List Int} {k:Nat} (hk:k<l.length):wdN (l++T) k=wdN l k:=by
 unfold wdN
 simp[List.getD,List.getElem?_append_left hk]
theorem wd_nw {T:List Int} {k:Nat} (hk:l.length<=k):wdN (l++T) k=T.getD (k-l.length) 0:=by
 unfold wdN
 simp[List.getD,List.getElem?_append_right hk]
theorem tg_old {T:List Int} {k:Nat} (hk:k<l.length):tgN (l++T) k=tgN l k/\vlN (l++T) k=vlN l k:=by
 unfold tgN vlN
 rw[wd_old hk]
 exact⟨rfl,rfl⟩
theorem PmC.var (h:PmC NS g met l.length) {x:Int} (hx:x∈met) (k:(g.nodes.getD x.toNat nd0).kind=1):wdN (l++putW NS g met l.length) (plN g met l.length x)=8*(plN g met l.length x:Int):=by
 have hp:=h.pl hx
 rw[wd_nw hp.2]
 have h1:=h.at hx (r:=0) (by rw[sz_var k];omega)
 rw[Nat.add_zero,nw_var k] at h1
 exact h1
theorem PmC.fun (h:PmC NS g met l.length) {x:Int} (hx:x∈met) (k:(g.nodes.getD x.toNat nd0).kind=4):wdN (l++putW NS g met l.length) (plN g met l.length x)=fwF NS (g.nodes.getD x.toNat nd0):=by
 have hp:=h.pl hx
 rw[wd_nw hp.2]
 have h1:=h.at hx (r:=0) (by rw[sz_comp k];omega)
 rw[Nat.add_zero,nw_comp k] at h1
 exact h1
theorem PmC.args (h:PmC NS g met l.length) {x:Int} (hx:x∈met) (k:(g.nodes.getD x.toNat nd0).kind=4) {i:Nat} (hi:i<(g.nodes.getD x.toNat nd0).args.length):wdN (l++putW NS g met l.length) (plN g met l.length x+1+i)=cwX NS g met l.length ((g.nodes.getD x.toNat nd0).args.getD i 0)/\(g.nodes.getD x.toNat nd0).args.getD i 0∈met:=by
 have hp:=h.pl hx
 refine⟨?_,h.arg x hx _ (getD_mem hi)⟩
 rw[wd_nw (by omega)]
 have h1:=h.at hx (r:=i+1) (by rw[sz_comp k];omega)
 rw[nw_comp k,getD_map1 _ _ hi] at h1
 rw[show plN g met l.length x+1+i-l.length=plN g met l.length x-l.length+(i+1) by omega]
 exact h1
theorem vr_new {b k:Nat} (hk:b<=k):vrP g met b V k=true↔∃x∈met,(g.nodes.getD x.toNat nd0).kind=1/\plN g met b x=k:=by
 unfold vrP
 rw[if_neg (by omega)]
 simp
theorem vr_old {b k:Nat} (hk:k<b):vrP g met b V k=V k:=by
 unfold vrP
 rw[if_pos hk]
theorem put_snd (hs:Snd l V) (h:PmC NS g met l.length):Snd (l++putW NS g met l.length) (vrP g met l.length V):=by
 have hlen:(l++putW NS g met l.length).length=l.length+(putW NS g met l.length).length:=by simp
 have hold:∀k,k<l.length->(hdN (l++putW NS g met l.length) k↔hdN l k):=fun k hk=>by
  unfold hdN
  rw[(tg_old hk).1]
 have hcov:∀k,l.length<=k->k<l.length+(putW NS g met l.length).length->(∃x∈met,wdN (l++putW NS g met l.length) k=cwX NS g met l.length x)∨(∃x∈met,(g.nodes.getD x.toNat nd0).kind=1/\k=plN g met l.length x/\wdN (l++putW NS g met l.length) k=8*(k:Int))∨(∃x∈met,(g.nodes.getD x.toNat nd0).kind=4/\k=plN g met l.length x/\wdN (l++putW NS g met l.length) k=fwF NS (g.nodes.getD x.toNat nd0)):=fun k h1 h2=>by
  rw[wd_nw h1]
  rcases h.cover (c:=k-l.length) (by omega) with⟨x,hx,e⟩ | ⟨x,hx,kk,e2,e⟩ | ⟨x,hx,kk,e2,e⟩
  ·exact Or.inl ⟨x,hx,e⟩
  ·exact Or.inr (Or.inl ⟨x,hx,kk,by omega,by rw[e];congr 1;omega⟩)
  ·exact Or.inr (Or.inr ⟨x,hx,kk,by omega,e⟩)
 have hself:∀k:Nat,k<65536->goodB (8*(k:Int))=true/\(8*(k:Int)) % 8=0/\valOf (8*(k:Int))=(k:Int):=fun k hk=>by
  have hf:fitsB 0 (k:Int)=true:=by simp[fitsB];omega
  have hw:8*(k:Int)=wordOf 0 (k:Int):=by unfold wordOf;omega
  rw[hw]
  exact⟨wordOf_good _ _ hf,wordOf_tag _ _ (by omega) (by omega),wordOf_val _ _ hf⟩
 have hrm:=h.room
 have hvar:∀k,l.length<=k->k<l.length+(putW NS g met l.length).length->vrP g met l.length V k=true->tgN (l++putW NS g met l.length) k=0/\vlN (l++putW NS g met l.length) k=k:=fun k h1 h2 hv=>by
  obtain⟨x,hx,kk,e⟩:=(vr_new h1).1 hv
  have hw:=h.var hx kk
  rw[e] at hw
  obtain⟨_,s2,s3⟩:=hself k (by omega)
  unfold tgN vlN
  rw[hw]
  exact⟨s2,by omega⟩
 refine⟨fun k hk=>?_,fun x hx=>?_,fun k hk ht=>?_,fun k hk hv=>?_,fun k hk ht=>?_,fun k hk ht=>?_,fun k hk ht=>?_⟩
 ·rw[hlen] at hk
  by_cases ho:k<l.length
  ·rw[wd_old ho]
   exact hs.good k ho
  ·rcases hcov k (by omega) hk with⟨x,hx,e⟩ | ⟨x,hx,kk,e2,e⟩ | ⟨x,hx,kk,e2,e⟩
   ·rw[e];exact (h.cw hx).good
   ·rw[e];exact (hself k (by omega)).1
   ·rw[e];exact (h.fw hx kk).1
 ·rcases List.mem_append.1 hx with hx | hx
  ·exact hs.rng x hx
  ·obtain⟨i,hi,e⟩:∃i,i<(putW NS g met l.length).length/\(putW NS g met l.length).getD i 0=x:=by
    obtain⟨i,hi,rfl⟩:=List.getElem_of_mem hx
    exact⟨i,hi,by simp[List.getD,hi]⟩
   have:=h.may hi
   rw[e] at this
   exact⟨this.1,this.2.1⟩
 ·rw[hlen] at hk ⊢
  by_cases ho:k<l.length
  ·rw[(tg_old ho).1] at ht
   rw[(tg_old ho).2]
   obtain⟨r1,r2,r3⟩:=hs.ref k ho ht
   rw[vr_old r1,vr_old ho]
   exact⟨by omega,r2,r3⟩
  ·have hvk:vrP g met l.length V k=true->vlN (l++putW NS g met l.length) k<=k:=fun hv=>by
    have:=(hvar k (by omega) hk hv).2
    omega
   rcases hcov k (by omega) hk with⟨x,hx,e⟩ | ⟨x,hx,kk,e2,e⟩ | ⟨x,hx,kk,e2,e⟩
   ·have hcw:=h.cw hx
    have ht':cwX NS g met l.length x % 8=0:=by rw[←e];exact ht
    obtain⟨kk,hv⟩:=hcw.ref ht'
    have hp:=h.pl hx
    rw[sz_var kk] at hp
    have hvl:vlN (l++putW NS g met l.length) k=plN g met l.length x:=by unfold vlN;rw[e,hv,Int.toNat_natCast]
    refine⟨by omega,?_,hvk⟩
    rw[hvl]
    exact (vr_new hp.2).2 ⟨x,hx,kk,rfl⟩
   ·have hv:vrP g met l.length V k=true:=(vr_new (by omega)).2 ⟨x,hx,kk,e2.symm⟩
    have hvl:=(hvar k (by omega) hk hv).2
    refine⟨by omega,by rw[hvl];exact hv,hvk⟩
   ·have:tgN (l++putW NS g met l.length) k=4:=by unfold tgN;rw[e];exact (h.fw hx kk).2.2.1
    omega
 ·rw[hlen] at hk
  by_cases ho:k<l.length
  ·rw[hold k ho]
   rw[vr_old ho] at hv
   exact hs.own k ho hv
  ·have:=(hvar k (by omega) hk hv).1
   unfold hdN
   omega
 ·rw[hlen] at hk ⊢
  by_cases ho:k<l.length
  ·rw[(tg_old ho).1] at ht
   rw[(tg_old ho).2]
   obtain⟨r1,r2⟩:=hs.str k ho ht
   exact⟨by omega,(hold _ r1).2 r2⟩
  ·rcases hcov k (by omega) hk with⟨x,hx,e⟩ | ⟨x,hx,kk,e2,e⟩ | ⟨x,hx,kk,e2,e⟩
   ·have hcw:=h.cw hx
    have ht':cwX NS g met l.length x % 8=3:=by rw[←e];exact ht
    obtain⟨kk,hv⟩:=hcw.str ht'
    have hp:=h.pl hx
    rw[sz_comp kk] at hp
    have hvl:vlN (l++putW NS g met l.length) k=plN g met l.length x:=by unfold vlN;rw[e,hv,Int.toNat_natCast]
    refine⟨by omega,?_⟩
    rw[hvl]
    refine Or.inl ?_
    unfold tgN
    rw[h.fun hx kk]
    exact (h.fw hx kk).2.2.1
   ·have:tgN (l++putW NS g met l.length) k=0:=by unfold tgN;rw[e];exact (hself k (by omega)).2.1
    omega
   ·have:tgN (l++putW NS g met l.length) k=4:=by unfold tgN;rw[e];exact (h.fw hx kk).2.2.1
    omega
 ·rw[hlen] at hk
  by_cases ho:k<l.length
  ·rw[(tg_old ho).1] at ht
   rw[(tg_old ho).2]
   obtain⟨r1,r2⟩:=hs.fwd k ho ht
   exact⟨r1,(hold _ (by omega)).2 r2⟩
  ·rcases hcov k (by omega) hk with⟨x,hx,e⟩ | ⟨x,hx,kk,e2,e⟩ | ⟨x,hx,kk,e2,e⟩
   ·have hcw:=(h.cw hx).tag
    have ht':cwX NS g met l.length x % 8=5:=by rw[←e];exact ht
    omega
   ·have:tgN (l++putW NS g met l.length) k=0:=by unfold tgN;rw[e];exact (hself k (by omega)).2.1
    omega
   ·have:tgN (l++putW NS g met l.length) k=4:=by unfold tgN;rw[e];exact (h.fw hx kk).2.2.1
    omega
 ·rw[hlen] at hk ⊢
  by_cases ho:k<l.length
  ·rw[(tg_old ho).1] at ht
   have ear:arN' (l++putW NS g met l.length) k=arN' l k:=by unfold arN';rw[(tg_old ho).2]
   rw[ear]
   obtain⟨r1,r2⟩:=hs.args k ho ht
   exact⟨by omega,fun i hi1 hi2 hh=>r2 i hi1 hi2 ((hold _ (by omega)).1 hh)⟩
  ·rcases hcov k (by omega) hk with⟨x,hx,e⟩ | ⟨x,hx,kk,e2,e⟩ | ⟨x,hx,kk,e2,e⟩
   ·have hcw:=(h.cw hx).tag
    have ht':cwX NS g met l.length x % 8=4:=by rw[←e];exact ht
    omega
   ·have:tgN (l++putW NS g met l.length) k=0:=by unfold tgN;rw[e];exact (hself k (by omega)).2.1
    omega
   ·have hp:=h.pl hx
    rw[sz_comp kk] at hp
    have h18:=good_comp (h.nd hx) kk
    have ear:arN' (l++putW NS g met l.length) k=(g.nodes.getD x.toNat nd0).args.length:=by
     unfold arN' vlN
     rw[e,(h.fw hx kk).2.2.2]
     omega
    rw[ear]
    refine⟨by omega,fun i hi1 hi2 hh=>?_⟩
    obtain⟨i,rfl⟩:∃i',i=i'+1:=⟨i-1,by omega⟩
    obtain⟨ea,hm⟩:=h.args hx kk (i:=i) (by omega)
    have hcw:=(h.cw hm).tag
    have et:tgN (l++putW NS g met l.length) (k+(i+1))=cwX NS g met l.length ((g.nodes.getD x.toNat nd0).args.getD i 0) % 8:=by
     unfold tgN
     rw[show k+(i+1)=plN g met l.length x+1+i by omega,ea]
    unfold hdN at hh
    rw[et] at hh
    omega
theorem put_nsb {N:Nat} (hn:NsB l N) (hle:N<=NS.length) (h:PmC NS g met l.length):NsB (l++putW NS g met l.length) NS.length:=by
 have hlen:(l++putW NS g met l.length).length=l.length+(putW NS g met l.length).length:=by simp
 refine⟨fun k hk ht=>?_,fun k hk ht=>?_⟩
 ·rw[hlen] at hk
  by_cases ho:k<l.length
  ·rw[(tg_old ho).1] at ht
   rw[(tg_old ho).2]
   have:=hn.atom k ho ht
   omega
  ·unfold tgN at ht
   unfold vlN
   rw[wd_nw (by omega)] at ht ⊢
   rcases h.cover (c:=k-l.length) (by omega) with⟨x,hx,e⟩ | ⟨x,hx,kk,e2,e⟩ | ⟨x,hx,kk,e2,e⟩
   ·rw[e] at ht ⊢
    exact (h.cw hx).atom ht
   ·rw[e] at ht
    omega
   ·rw[e,(h.fw hx kk).2.2.1] at ht
    omega
 ·rw[hlen] at hk
  by_cases ho:k<l.length
  ·rw[(tg_old ho).1] at ht
   rw[wd_old ho]
   have:=hn.func k ho ht
   omega
  ·unfold tgN at ht
   rw[wd_nw (by omega)] at ht ⊢
   rcases h.cover (c:=k-l.length) (by omega) with⟨x,hx,e⟩ | ⟨x,hx,kk,e2,e⟩ | ⟨x,hx,kk,e2,e⟩
   ·have:=(h.cw hx).tag
    rw[e] at ht
    omega
   ·rw[e] at ht
    omega
   ·rw[e,(h.fw hx kk).2.2.2]
    have h18:=good_comp (h.nd hx) kk
    have hnm:=h.nm x hx (Or.inr kk)
    omega
theorem pmc_ofG {ns:List ByteArray} {b:Nat} (hg:Good g) (hna:(wthJ ns g (metF g) (metF g).length).length<=1024) (hro:b+wantJ g (metF g) (metF g).length<=65536):PmC (wthJ ns g (metF g) (metF g).length) g (metF g) b:=by
 refine⟨hg,met_ok hg,met_root hg,met_arg hg,fun x hx hk=>?_,hna,by rw[putW_len];exact hro⟩
 have hr:=(met_ok hg).rng x hx
 have hgd:=hg.node (g.nodes.getD x.toNat nd0) (by
  have:x.toNat<g.nodes.length:=by omega
  simp[List.getD,this])
 have hs:(g.nodes.getD x.toNat nd0).name.size≠0:=by
  have h1:goodS (g.nodes.getD x.toNat nd0).name=true:=by
   unfold goodNd at hgd
   rcases hk with k | k
   ·rw[if_neg (by omega),if_pos k] at hgd
    simp only[Bool.and_eq_true] at hgd
    exact hgd.1.1
   ·rw[if_neg (by omega),if_neg (by omega),if_neg (by omega),if_pos k] at hgd
    simp only[Bool.and_eq_true] at hgd
    exact hgd.1.1.1.1
  have:=goodS_size h1
  omega
 have h2:=wthJ_in ns g (metF g) (pos_lt hx) (by rw[pos_at hx];exact hs)
 rw[pos_at hx] at h2
 exact num_lt h2
theorem pmc_of {ns:List ByteArray} {b:Nat} (hg:Good g) (hna:ns.length+(metF g).length<=1024) (hro:b+wantJ g (metF g) (metF g).length<=65536):PmC (wthJ ns g (metF g) (metF g).length) g (metF g) b:=
 pmc_ofG hg (Nat.le_trans (wthJ_len ns g (metF g) (metF g).length) hna) hro
end
end Go.Proofs.YtbfbkmkjcekpaaaGreatDoor
namespace Go.Proofs.YtbfbkmkjcekpaaaGreatDoor
set_option maxRecDepth 100000
open Go.RowKit
abbrev Te:=Nat×Int
def undW (l:List Int) (tr:List Te):List Int:=tr.foldr (fun e a=>a.set e.1 e.2) l
theorem undW_app (l:List Int) (a b:List Te):undW l (a++b)=undW (undW l b) a:=List.foldr_append ..
theorem undW_snoc (l:List Int) (a:List Te) (e:Te):undW l (a++[e])=undW (l.set e.1 e.2) a:=by rw[undW_app];rfl
theorem undW_len (l:List Int):∀tr,(undW l tr).length=l.length
 | []=>rfl
 | e::r=>by
  show ((undW l r).set e.1 e.2).length=_
  rw[List.length_set,undW_len l r]
theorem undW_take (l:List Int) (K:Nat):∀tr,(undW l tr).take K=undW (l.take K) tr
 | []=>rfl
 | e::r=>by
  show ((undW l r).set e.1 e.2).take K=(undW (l.take K) r).set e.1 e.2
  rw[←undW_take l K r,List.take_set]
abbrev Pe:=Nat×Nat
def seesB (pt:List Pe) (k:Nat):Bool:=match pt.getLast? with
 | some p=>decide (k<p.2)
 | none=>false
def trW (l:List Int) (tr:List Te) (pt:List Pe) (k:Nat):List Te:=if seesB pt k=true then tr++[(k,l.getD k 0)] else tr
def atP (l:List Int) (tr:List Te) (p:Pe):List Int:=undW (l.take p.2) (tr.drop p.1)
def SndN (l:List Int) (N:Nat):Prop:=(∃V,Snd l V)/\NsB l N
structure SI (l:List Int) (N:Nat) (tr:List Te) (pt:List Pe):Prop where
 now:SndN l N
 ent:∀e∈tr,e.1<l.length/\(0<=e.2/\e.2<=18446744073709551615)/\mayB e.2 l.length=true
 len:∀p∈pt,p.1<=tr.length/\p.2<=l.length
 old:∀p∈pt,∀e∈tr.take p.1,e.1<p.2/\mayB e.2 p.2=true
 was:∀p∈pt,SndN (atP l tr p) N
 mono:pt.Pairwise (fun p q=>p.1<=q.1/\p.2<=q.2)
theorem SI.last {l:List Int} {N:Nat} {tr:List Te} {pt:List Pe} (h:SI l N tr pt) {p q:Pe} (hp:p∈pt) (hq:pt.getLast?=some q):p.1<=q.1/\p.2<=q.2:=by
 obtain⟨i,hi,e⟩:=List.getElem_of_mem hp
 have hl:q=pt[pt.length-1]'(by omega):=by
  rw[List.getLast?_eq_getElem?] at hq
  rw[List.getElem?_eq_getElem (by omega)] at hq
  exact (Option.some.inj hq).symm
 rcases Nat.lt_or_ge i (pt.length-1) with h1 | h1
 ·have:=List.pairwise_iff_getElem.1 h.mono i (pt.length-1) hi (by omega) h1
  rw[e,←hl] at this
  exact this
 ·have e2:i=pt.length-1:=by omega
  subst e2
  rw[←e,hl]
  exact⟨Nat.le_refl _,Nat.le_refl _⟩
theorem atP_write {l:List Int} {N:Nat} {tr:List Te} {pt:List Pe} (h:SI l N tr pt) {p:Pe} (hp:p∈pt) {k:Nat} (hk:k<l.length) (x:Int):atP (l.set k x) (trW l tr pt k) p=atP l tr p:=by
 unfold atP trW
 have hl:=h.len p hp
 split
 ·rename_i hs
  rw[List.drop_append_of_le_length hl.1,undW_snoc,List.take_set]
  congr 1
  by_cases hkp:k<p.2
  ·rw[List.set_set]
   apply List.ext_getElem?
   intro i
   rw[List.getElem?_set]
   split
   ·rename_i e
    subst e
    have e1:k<(l.take p.2).length:=by simp;omega
    rw[if_pos e1,List.getElem?_take,if_pos hkp]
    simp[List.getD,hk]
   ·rfl
  ·rw[List.set_eq_of_length_le (by simp;omega),List.set_eq_of_length_le (by simp;omega)]
 ·rename_i hs
  have hkp:p.2<=k:=by
   cases hq:pt.getLast? with
   | none=>rw[List.getLast?_eq_none_iff] at hq;subst hq;cases hp
   | some q=>
    have h1:=h.last hp hq
    have h2:¬k<q.2:=fun h3=>hs (by unfold seesB;rw[hq];exact decide_eq_true h3)
    omega
  rw[List.take_set,List.set_eq_of_length_le (by simp;omega)]
theorem snd_may {l:List Int} {V:Nat->Bool} (h:Snd l V) {k:Nat} (hk:k<l.length):(0<=l.getD k 0/\l.getD k 0<=18446744073709551615)/\mayB (l.getD k 0) l.length=true:=by
 have hg:=h.good k hk
 have hr:=h.rng (l.getD k 0) (by simp[List.getD,hk])
 refine⟨hr,?_⟩
 unfold mayB
 have hg':goodB (l.getD k 0)=true:=hg
 rw[hg',Bool.true_and]
 by_cases ht:tellsB (l.getD k 0)=true
 ·have h3:l.getD k 0 % 8=0∨l.getD k 0 % 8=3∨l.getD k 0 % 8=5:=by simpa[tellsB] using ht
  have hv:=val_place hg' h3
  have:vlN l k<l.length:=by
   rcases h3 with e | e | e
   ·exact (h.ref k hk e).1
   ·exact (h.str k hk e).1
   ·exact Nat.lt_trans (h.fwd k hk e).1 hk
  have e2:vlN l k=(valOf (l.getD k 0)).toNat:=rfl
  rw[Bool.or_eq_true]
  exact Or.inr (decide_eq_true (by omega))
 ·simp only[Bool.not_eq_true] at ht
  rw[ht]
  rfl
theorem may_mono {x a b:Int} (h:mayB x a=true) (hab:a<=b):mayB x b=true:=by
 unfold mayB at *
 rw[Bool.and_eq_true,Bool.or_eq_true] at *
 exact⟨h.1,h.2.imp id (fun h=>decide_eq_true (by have:=of_decide_eq_true h;omega))⟩
theorem SI.write {l:List Int} {N:Nat} {tr:List Te} {pt:List Pe} (h:SI l N tr pt) {k:Nat} (hk:k<l.length) {x:Int} (hn:SndN (l.set k x) N):SI (l.set k x) N (trW l tr pt k) pt:=by
 obtain⟨V,hV⟩:=h.now.1
 have hm:=snd_may hV hk
 have hlt:tr.length<=(trW l tr pt k).length:=by unfold trW;split <;> simp
 refine⟨hn,fun e he=>?_,fun p hp=>⟨Nat.le_trans (h.len p hp).1 hlt,by rw[List.length_set];exact (h.len p hp).2⟩,fun p hp e he=>?_,fun p hp=>by rw[atP_write h hp hk];exact h.was p hp,h.mono⟩
 ·rw[List.length_set]
  unfold trW at he
  split at he
  ·rcases List.mem_append.1 he with he | he
   ·exact h.ent e he
   ·have e2:e=(k,l.getD k 0):=by simpa using he
    subst e2
    exact⟨hk,hm.1,hm.2⟩
  ·exact h.ent e he
 ·refine h.old p hp e ?_
  unfold trW at he
  split at he
  ·rwa[List.take_append_of_le_length (h.len p hp).1] at he
  ·exact he
theorem nsb_more {l:List Int} {N N':Nat} (h:NsB l N) (hle:N<=N'):NsB l N':=⟨fun k hk ht=>by have:=h.1 k hk ht;omega,fun k hk ht=>by have:=h.2 k hk ht;omega⟩
theorem atP_put {l m:List Int} {tr:List Te} {p:Pe} (hp:p.2<=l.length):atP (l++m) tr p=atP l tr p:=by
 unfold atP
 rw[List.take_append_of_le_length hp]
theorem SI.put {l m:List Int} {N N':Nat} {tr:List Te} {pt:List Pe} (h:SI l N tr pt) (hN:N<=N') (hn:SndN (l++m) N'):SI (l++m) N' tr pt:=by
 have hl:l.length<=(l++m).length:=by simp
 refine⟨hn,fun e he=>?_,fun p hp=>⟨(h.len p hp).1,Nat.le_trans (h.len p hp).2 hl⟩,h.old,fun p hp=>?_,h.mono⟩
 ·obtain⟨h1,h2,h3⟩:=h.ent e he
  exact⟨by omega,h2,may_mono h3 (by omega)⟩
 ·rw[atP_put (h.len p hp).2]
  exact⟨(h.was p hp).1,nsb_more (h.was p hp).2 hN⟩
theorem SI.point {l:List Int} {N:Nat} {tr:List Te} {pt:List Pe} (h:SI l N tr pt):SI l N tr (pt++[(tr.length,l.length)]):=by
 have hc:∀p∈pt++[(tr.length,l.length)],p∈pt∨p=(tr.length,l.length):=fun p hp=>by
  rcases List.mem_append.1 hp with hp | hp
  ·exact Or.inl hp
  ·exact Or.inr (by simpa using hp)
 refine⟨h.now,h.ent,fun p hp=>?_,fun p hp e he=>?_,fun p hp=>?_,?_⟩
 ·rcases hc p hp with hp | rfl
  ·exact h.len p hp
  ·exact⟨Nat.le_refl _,Nat.le_refl _⟩
 ·rcases hc p hp with hp | rfl
  ·exact h.old p hp e he
  ·have:=h.ent e (List.mem_of_mem_take he)
   exact⟨this.1,this.2.2⟩
 ·rcases hc p hp with hp | rfl
  ·exact h.was p hp
  ·unfold atP
   rw[List.take_length,List.drop_length]
   exact h.now
 ·rw[List.pairwise_append]
  refine⟨h.mono,List.pairwise_singleton _ _,fun p hp q hq=>?_⟩
  have e:q=(tr.length,l.length):=by simpa using hq
  subst e
  exact h.len p hp
theorem SI.release {l:List Int} {N:Nat} {tr:List Te} {pt:List Pe} (h:SI l N tr pt) (n:Nat):SI l N tr (pt.take n):=
 ⟨h.now,h.ent,fun p hp=>h.len p (List.mem_of_mem_take hp),fun p hp=>h.old p (List.mem_of_mem_take hp),fun p hp=>h.was p (List.mem_of_mem_take hp),h.mono.sublist (List.take_sublist _ _)⟩
theorem atP_undo {l:List Int} {tr:List Te} {p q:Pe} (h1:p.1<=q.1) (h2:p.2<=q.2) (hq1:q.1<=tr.length):atP (atP l tr q) (tr.take q.1) p=atP l tr p:=by
 unfold atP
 have e:tr.drop p.1=(tr.take q.1).drop p.1++tr.drop q.1:=by
  rw[←List.drop_append_of_le_length (by simp;omega),List.take_append_drop]
 rw[e,undW_app,undW_take,List.take_take,Nat.min_eq_left h2]
theorem SI.undo {l:List Int} {N:Nat} {tr:List Te} {pt:List Pe} (h:SI l N tr pt) (n:Nat) (hn:n<pt.length):SI (atP l tr pt[n]) N (tr.take pt[n].1) (pt.take (n+1)):=by
 have hm:pt[n]∈pt:=List.getElem_mem hn
 have hl:=h.len _ hm
 have hlen:(atP l tr pt[n]).length=pt[n].2:=by
  unfold atP
  rw[undW_len,List.length_take]
  omega
 have hle:∀p∈pt.take (n+1),p.1<=pt[n].1/\p.2<=pt[n].2:=fun p hp=>by
  obtain⟨i,hi,e⟩:=List.getElem_of_mem hp
  rw[List.getElem_take] at e
  have hi2:i<pt.length/\i<=n:=by simp at hi;omega
  rcases Nat.lt_or_ge i n with h1 | h1
  ·have:=List.pairwise_iff_getElem.1 h.mono i n hi2.1 hn h1
   rw[e] at this
   exact this
  ·have e2:i=n:=by omega
   subst e2
   rw[←e]
   exact⟨Nat.le_refl _,Nat.le_refl _⟩
 refine⟨h.was _ hm,fun e he=>?_,fun p hp=>?_,fun p hp e he=>?_,fun p hp=>?_,h.mono.sublist (List.take_sublist _ _)⟩
 ·rw[hlen]
  have h1:=h.old _ hm e he
  exact⟨h1.1,(h.ent e (List.mem_of_mem_take he)).2.1,h1.2⟩
 ·rw[hlen,List.length_take]
  have:=hle p hp
  exact⟨by omega,this.2⟩
 ·refine h.old p (List.mem_of_mem_take hp) e ?_
  rw[List.take_take,Nat.min_eq_left (hle p hp).1] at he
  exact he
 ·rw[atP_undo (hle p hp).1 (hle p hp).2 hl.1]
  exact h.was p (List.mem_of_mem_take hp)
end Go.Proofs.YtbfbkmkjcekpaaaGreatDoor
namespace Go.Proofs.YtbfbkmkjcekpaaaGreatDoor
set_option maxRecDepth 100000
open Go.RowKit
theorem infoSv:(Tryz.prog.info? 59).map (fun i=>(i.zero,i.size,i.bytes))=some (some (.agg #[.int .i64 0,.int .u64 0]),2,16):=by kernel_rfl
theorem infoMk:(Tryz.prog.info? 61).map (fun i=>(i.zero,i.size,i.bytes))=some (some (.agg #[.int .i64 0,.int .i64 0,.slice none 0 0]),3,40):=by kernel_rfl
def svC (tr:List Te):List Value:=tr.flatMap fun e=>[.int .i64 (e.1:Int),.int .u64 e.2]
def mkC (pt:List Pe):List Value:=pt.flatMap fun p=>[.int .i64 (p.1:Int),.int .i64 (p.2:Int),.slice none 0 0]
theorem svC_app (a b:List Te):svC (a++b)=svC a++svC b:=by simp[svC]
theorem mkC_app (a b:List Pe):mkC (a++b)=mkC a++mkC b:=by simp[mkC]
theorem svC_len:∀l:List Te,(svC l).length=l.length*2
 | []=>rfl
 | p::r=>by
  show (_::_::svC r).length=_
  rw[List.length_cons,List.length_cons,svC_len r,List.length_cons]
  omega
theorem mkC_len:∀l:List Pe,(mkC l).length=l.length*3
 | []=>rfl
 | p::r=>by
  show (_::_::_::mkC r).length=_
  rw[List.length_cons,List.length_cons,List.length_cons,mkC_len r,List.length_cons]
  omega
theorem svC_take:∀(l:List Te) (n:Nat),(svC l).take (n*2)=svC (l.take n)
 | [],n=>by simp[svC]
 | p::r,0=>by simp[svC]
 | p::r,n+1=>by
  show (_::_::svC r).take ((n+1)*2)=_::_::svC (r.take n)
  rw[show (n+1)*2=n*2+1+1 by omega,List.take_succ_cons,List.take_succ_cons,svC_take r n]
theorem mkC_take:∀(l:List Pe) (n:Nat),(mkC l).take (n*3)=mkC (l.take n)
 | [],n=>by simp[mkC]
 | p::r,0=>by simp[mkC]
 | p::r,n+1=>by
  show (_::_::_::mkC r).take ((n+1)*3)=_::_::_::mkC (r.take n)
  rw[show (n+1)*3=n*3+1+1+1 by omega,List.take_succ_cons,List.take_succ_cons,List.take_succ_cons,mkC_take r n]
theorem svC_at:∀(l:List Te) (j:Nat),j<l.length->(svC l)[j*2]?=some (.int .i64 ((l.getD j (0,0)).1:Int))/\(svC l)[j*2+1]?=some (.int .u64 (l.getD j (0,0)).2)
 | [],j,h=>absurd h (Nat.not_lt_zero _)
 | p::r,0,_=>⟨rfl,rfl⟩
 | p::r,j+1,h=>by
  have:=svC_at r j (by simpa using h)
  rw[show (j+1)*2=j*2+1+1 by omega]
  have e:svC (p::r)=.int .i64 (p.1:Int) :: .int .u64 p.2::svC r:=rfl
  rw[e]
  simpa[List.getD] using this
theorem mkC_at:∀(l:List Pe) (j:Nat),j<l.length->(mkC l)[j*3]?=some (.int .i64 ((l.getD j (0,0)).1:Int))/\(mkC l)[j*3+1]?=some (.int .i64 ((l.getD j (0,0)).2:Int))/\(mkC l)[j*3+2]?=some (.slice none 0 0)
 | [],j,h=>absurd h (Nat.not_lt_zero _)
 | p::r,0,_=>⟨rfl,rfl,rfl⟩
 | p::r,j+1,h=>by
  have:=mkC_at r j (by simpa using h)
  rw[show (j+1)*3=j*3+1+1+1 by omega]
  have e:mkC (p::r)=.int .i64 (p.1:Int) :: .int .i64 (p.2:Int) :: .slice none 0 0::mkC r:=rfl
  rw[e]
  simpa[List.getD] using this
structure Hq (w:World) (B hb ab tb:Nat) (m:Int) (av:Value) (l:List Int) (tv:Value) (tq:Nat) (ns:List ByteArray) (trv:Value) (tr:List Te) (ptv:Value) (pt:List Pe) (n:Int):Prop where
 hp:Hp w B hb ab tb m av l tv tq ns trv ptv n
 tr:w.ownsRow B 59 2 trv tr.length (svC tr)
 pt:w.ownsRow B 61 3 ptv pt.length (mkC pt)
def qfoot (hb ab:Nat) (av trv ptv:Value):List Nat:=hb::(a_foot ab av++(trv.ownBlock.toList++ptv.ownBlock.toList))
theorem mem_qfoot {hb ab k:Nat} {av trv ptv:Value}:k∈qfoot hb ab av trv ptv↔k=hb∨k∈a_foot ab av∨trv.ownBlock=some k∨ptv.ownBlock=some k:=by simp[qfoot]
theorem own_slq {w:World} {B z:Nat} {e:TypeId} {v:Value} {n:Nat} {xs:List Value} (h:w.ownsRow B e z v n xs):∃ao c,v=.slice ao n c/\n<=c/\c<=maxLen/\(ao=none->n=0/\c=0)/\(∀a,ao=some a->a=⟨a.block,0,none⟩):=by
 rcases h.2 with⟨rfl,h0⟩ | ⟨g,cap,cur,rfl,_,_,hc,hm,_⟩
 ·exact⟨none,0,by rw[h0],by omega,by unfold maxLen;omega,(fun _=>⟨h0,rfl⟩),(fun a e=>by cases e)⟩
 ·exact⟨_,cap,rfl,hc,hm,(fun e=>by cases e),(fun a e=>by cases e;rfl)⟩
theorem own_cut {w:World} {B z:Nat} {e:TypeId} {ao:Option Addr} {c n k:Nat} {xs:List Value} (h:w.ownsRow B e z (.slice ao n c) n xs) (hk:k<=n):w.ownsRow B e z (.slice ao k c) k (xs.take (k*z)):=by
 have h1:=h.1
 have hkz:k*z<=n*z:=Nat.mul_le_mul_right z hk
 refine⟨by rw[List.length_take];omega,?_⟩
 rcases h.2 with⟨e0,h0⟩ | ⟨g,cap,cur,e0,hb,hg,hc,hm,hs,ht⟩
 ·injection e0 with e1 e2 e3
  subst e1 e3
  have:k=0:=by omega
  subst this
  exact Or.inl ⟨rfl,rfl⟩
 ·injection e0 with e1 e2 e3
  subst e1 e3
  refine Or.inr ⟨g,c,cur,rfl,hb,hg,by omega,hm,hs,?_⟩
  rw[←ht,List.take_take,Nat.min_eq_left hkz]
section
variable {w w':World} {B hb ab tb:Nat} {m:Int} {av:Value} {l:List Int} {tv:Value} {tq:Nat} {ns:List ByteArray} {trv:Value} {tr:List Te} {ptv:Value} {pt:List Pe} {n:Int}
theorem Hq.below (h:Hq w B hb ab tb m av l tv tq ns trv tr ptv pt n) (hm:Below w.heap.size w w'):Hq w' B hb ab tb m av l tv tq ns trv tr ptv pt n:=
 ⟨h.hp.below hm,row_keep h.tr (fun k hk=>hm.block k (h.tr.lt k hk).2),row_keep h.pt (fun k hk=>hm.block k (h.pt.lt k hk).2)⟩
theorem Hq.aty (h:Hq w B hb ab tb m av l tv tq ns trv tr ptv pt n) {k:Nat} (hk:k∈a_foot ab av):∃cs T,w.heap[k]?=some (.cells cs T (0,0))/\(T=138∨T=57):=by
 rcases a_mem_foot.1 hk with rfl | hk
 ·exact⟨_,_,h.hp.ar.blk,Or.inl rfl⟩
 ·obtain⟨cur,hc,_⟩:=own_block_obj h.hp.ar.own hk
  exact⟨cur,_,hc,Or.inr rfl⟩
theorem Hq.nty (h:Hq w B hb ab tb m av l tv tq ns trv tr ptv pt n) {k:Nat} (hk:k∈n_foot tb tv tq):(∃cs T,w.heap[k]?=some (.cells cs T (0,0))/\(T=153∨T=9))∨(∀cs T x,w.heap[k]?≠some (.cells cs T x)):=by
 rcases n_mem_foot.1 hk with e | e | e
 ·subst e
  exact Or.inl ⟨_,_,h.hp.tb.blk,Or.inl rfl⟩
 ·subst e
  obtain⟨D,⟨es,clock,hq,_⟩,_⟩:=h.hp.tb.map
  refine Or.inr (fun cs T x hx=>?_)
  rw[hq] at hx
  simp at hx
 ·obtain⟨cur,hc,_⟩:=own_block_obj h.hp.tb.own e
  exact Or.inl ⟨cur,_,hc,Or.inr rfl⟩
theorem Hq.apart (h:Hq w B hb ab tb m av l tv tq ns trv tr ptv pt n) {k:Nat} (hk:trv.ownBlock=some k∨ptv.ownBlock=some k):k≠hb/\k∉a_foot ab av/\k∉n_foot tb tv tq/\¬(trv.ownBlock=some k/\ptv.ownBlock=some k):=by
 have hT:∃cs T,w.heap[k]?=some (.cells cs T (0,0))/\(T=59∨T=61):=by
  rcases hk with hk | hk
  ·obtain⟨cur,hc,_⟩:=own_block_obj h.tr hk
   exact⟨cur,_,hc,Or.inl rfl⟩
  ·obtain⟨cur,hc,_⟩:=own_block_obj h.pt hk
   exact⟨cur,_,hc,Or.inr rfl⟩
 obtain⟨cs,T,hw,hTT⟩:=hT
 refine⟨fun e=>?_,fun hf=>?_,fun hf=>?_,fun⟨h1,h2⟩=>?_⟩
 ·subst e
  exact obj_ne hw h.hp.blk (by rcases hTT with rfl | rfl <;> decide) rfl
 ·obtain⟨cs',T',hw',hTT'⟩:=h.aty hf
  exact obj_ne hw hw' (by rcases hTT with rfl | rfl <;> rcases hTT' with rfl | rfl <;> decide) rfl
 ·rcases h.nty hf with⟨cs',T',hw',hTT'⟩ | hno
  ·exact obj_ne hw hw' (by rcases hTT with rfl | rfl <;> rcases hTT' with rfl | rfl <;> decide) rfl
  ·exact hno _ _ _ hw
 ·obtain⟨c1,e1,_⟩:=own_block_obj h.tr h1
  obtain⟨c2,e2,_⟩:=own_block_obj h.pt h2
  exact obj_ne e1 e2 (by decide) rfl
theorem Hq.rows (h:Hq w B hb ab tb m av l tv tq ns trv tr ptv pt n) {ks:List Nat} (hm:a_Mod ks w w') (hk:∀k∈ks,¬(trv.ownBlock=some k∨ptv.ownBlock=some k)):w'.ownsRow B 59 2 trv tr.length (svC tr)/\w'.ownsRow B 61 3 ptv pt.length (mkC pt):=
 ⟨row_keep h.tr (fun k e=>hm.block k (h.tr.lt k e).2 (fun hx=>hk k hx (Or.inl e))),row_keep h.pt (fun k e=>hm.block k (h.pt.lt k e).2 (fun hx=>hk k hx (Or.inr e)))⟩
theorem Hq.words {av':Value} {l':List Int} (h:Hq w B hb ab tb m av l tv tq ns trv tr ptv pt n) (u:a_Upd 138 w w' B ab m av l' av'):Hq w' B hb ab tb m av' l' tv tq ns trv tr ptv pt n:=by
 obtain⟨r1,r2⟩:=h.rows u.mod (fun k hk hx=>(h.apart hx).2.1 hk)
 exact⟨h.hp.words u,r1,r2⟩
theorem Hq.own {o:Nat} {u:Value} (h:Hq w B hb ab tb m av l tv tq ns trv tr ptv pt n):w.heap.size=(w.setCell ⟨hb,o,none⟩ u).heap.size/\Ar 138 (w.setCell ⟨hb,o,none⟩ u) B ab m av l/\Tb (w.setCell ⟨hb,o,none⟩ u) B tb tv tq ns/\(w.setCell ⟨hb,o,none⟩ u).ownsRow B 59 2 trv tr.length (svC tr)/\(w.setCell ⟨hb,o,none⟩ u).ownsRow B 61 3 ptv pt.length (mkC pt):=by
 obtain⟨h1,h2⟩:=h.hp.self
 have hm:a_Mod [hb] w (w.setCell ⟨hb,o,none⟩ u):=(a_Mod.refl [hb] w).setCell (p:=⟨hb,o,none⟩) (Or.inl (by simp)) _
 obtain⟨r1,r2⟩:=h.rows hm (fun k hk hx=>(h.apart hx).1 (by simpa using hk))
 refine⟨by simp,h.hp.ar.keep hm (fun k hk=>by
  have e:k=hb:=by simpa using hk
  rw[e];exact h1),h.hp.tb.keep (mod_an hm) (fun k hk=>by
  have e:k=hb:=by simpa using hk
  rw[e];exact h2),r1,r2⟩
theorem Hq.wrote (h:Hq w B hb ab tb m av l tv tq ns trv tr ptv pt n) (n':Int):Hq (w.setCell ⟨hb,4,none⟩ (.int .i64 n')) B hb ab tb m av l tv tq ns trv tr ptv pt n':=by
 obtain⟨_,ha,ht,r1,r2⟩:=h.own (o:=4) (u:=.int .i64 n')
 exact⟨⟨heap_setCell_same w hb 4 _ _ (.int .i64 n') h.hp.blk,h.hp.base,ha,ht⟩,r1,r2⟩
theorem Hq.newtr {trv':Value} {tr':List Te} (h:Hq w B hb ab tb m av l tv tq ns trv tr ptv pt n) (hr:w.ownsRow B 59 2 trv' tr'.length (svC tr')):Hq (w.setCell ⟨hb,2,none⟩ trv') B hb ab tb m av l tv tq ns trv' tr' ptv pt n:=by
 obtain⟨_,ha,ht,_,r2⟩:=h.own (o:=2) (u:=trv')
 refine⟨⟨heap_setCell_same w hb 2 _ _ trv' h.hp.blk,h.hp.base,ha,ht⟩,row_keep hr (fun k hk=>Below.heap_setCell _ _ _ _ (fun e=>?_)),r2⟩
 obtain⟨c,e1,_⟩:=own_block_obj hr hk
 exact obj_ne e1 h.hp.blk (by decide) e
theorem Hq.newpt {ptv':Value} {pt':List Pe} (h:Hq w B hb ab tb m av l tv tq ns trv tr ptv pt n) (hr:w.ownsRow B 61 3 ptv' pt'.length (mkC pt')):Hq (w.setCell ⟨hb,3,none⟩ ptv') B hb ab tb m av l tv tq ns trv tr ptv' pt' n:=by
 obtain⟨_,ha,ht,r1,_⟩:=h.own (o:=3) (u:=ptv')
 refine⟨⟨heap_setCell_same w hb 3 _ _ ptv' h.hp.blk,h.hp.base,ha,ht⟩,r1,row_keep hr (fun k hk=>Below.heap_setCell _ _ _ _ (fun e=>?_))⟩
 obtain⟨c,e1,_⟩:=own_block_obj hr hk
 exact obj_ne e1 h.hp.blk (by decide) e
theorem Hq.grown {v:Value} (h:Hq w B hb ab tb m av l tv tq ns trv tr ptv pt n) (hv:v=trv∨v=ptv) (hg:w.grownBy w' v.ownBlock):Hp w' B hb ab tb m av l tv tq ns trv ptv n/\a_Mod v.ownBlock.toList w w'/\(∀k,k<w.heap.size->v.ownBlock≠some k->w'.heap[k]?=w.heap[k]?):=by
 have hb':∀k,k<w.heap.size->v.ownBlock≠some k->w'.heap[k]?=w.heap[k]?:=fun k hk hn=>hg.block k hk (fun e=>hn e.symm)
 have hne:∀k,v.ownBlock=some k->k≠hb/\k∉a_foot ab av/\k∉n_foot tb tv tq:=fun k hk=>by
  have:=h.apart (k:=k) (by rcases hv with rfl | rfl;exact Or.inl hk;exact Or.inr hk)
  exact⟨this.1,this.2.1,this.2.2.1⟩
 have hm:a_Mod v.ownBlock.toList w w':=⟨hg.os,hg.tape,hg.output,hg.size,fun k hk hn=>hb' k hk (fun e=>hn (by simp[e]))⟩
 refine⟨⟨(hb' hb (lt_of_block h.hp.blk) (fun e=>(hne hb e).1 rfl)).trans h.hp.blk,h.hp.base,h.hp.ar.keep hm (fun k hk=>(hne k (by simpa using hk)).2.1),h.hp.tb.keep (mod_an hm) (fun k hk=>(hne k (by simpa using hk)).2.2)⟩,hm,hb'⟩
end
end Go.Proofs.YtbfbkmkjcekpaaaGreatDoor
namespace Go.Proofs.YtbfbkmkjcekpaaaGreatDoor
set_option maxRecDepth 100000
open Go.RowKit
theorem alloc4 (W:World) (a b c d:Obj):((((W.alloc a).alloc b).alloc c).alloc d).heap[W.heap.size]?=some a/\((((W.alloc a).alloc b).alloc c).alloc d).heap[W.heap.size+1]?=some b/\((((W.alloc a).alloc b).alloc c).alloc d).heap[W.heap.size+2]?=some c/\((((W.alloc a).alloc b).alloc c).alloc d).heap[W.heap.size+3]?=some d:=by
 have s1:(W.alloc a).heap.size=W.heap.size+1:=by simp
 have s2:((W.alloc a).alloc b).heap.size=W.heap.size+2:=by simp
 have s3:(((W.alloc a).alloc b).alloc c).heap.size=W.heap.size+3:=by simp
 have h0:=heap_alloc_new W a
 have h1:=heap_alloc_new (W.alloc a) b
 have h2:=heap_alloc_new ((W.alloc a).alloc b) c
 have h3:=heap_alloc_new (((W.alloc a).alloc b).alloc c) d
 rw[s1] at h1
 rw[s2] at h2
 rw[s3] at h3
 refine⟨?_,?_,?_,h3⟩
 ·rw[Below.heap_alloc _ _ _ (by omega),Below.heap_alloc _ _ _ (by omega),Below.heap_alloc _ _ _ (by omega)]
  exact h0
 ·rw[Below.heap_alloc _ _ _ (by omega),Below.heap_alloc _ _ _ (by omega)]
  exact h1
 ·rw[Below.heap_alloc _ _ _ (by omega)]
  exact h2
structure Wt (W w:World) (nv rv:Value) (p p':Nat):Prop where
 b:Below W.heap.size W w
 x0:w.heap[W.heap.size]?=some (.cells #[.pointer (some ⟨p,0,none⟩)] 85)
 x1:w.heap[W.heap.size+1]?=some (.cells #[nv,rv] 25)
 x2:w.heap[W.heap.size+2]?=some (.cells #[.pointer none] 85)
 x3:w.heap[W.heap.size+3]?=some (.cells #[.pointer (some ⟨p',0,none⟩)] 85)
theorem below_le {n k:Nat} {a b:World} (h:Below n a b) (hk:k<=n):Below k a b:=⟨h.os,h.tape,h.output,h.size,fun i hi=>h.block i (Nat.lt_of_lt_of_le hi hk)⟩
theorem Wt.next {W w w':World} {nv rv:Value} {p p':Nat} (h:Wt W w nv rv p p') (hb:Below (W.heap.size+4) w w'):Wt W w' nv rv p p':=
 ⟨h.b.trans (below_le hb (by omega)),(hb.block _ (by omega)).trans h.x0,(hb.block _ (by omega)).trans h.x1,(hb.block _ (by omega)).trans h.x2,(hb.block _ (by omega)).trans h.x3⟩
theorem Wt.size {W w:World} {nv rv:Value} {p p':Nat} (h:Wt W w nv rv p p'):W.heap.size+4<=w.heap.size:=lt_of_block h.x3
theorem Wt.cells {W w:World} {nv rv:Value} {p p':Nat} (h:Wt W w nv rv p p'):(w.cell? ⟨W.heap.size,0,none⟩=some (.pointer (some ⟨p,0,none⟩))/\w.cell? ⟨W.heap.size+1,0,none⟩=some nv/\w.cell? ⟨W.heap.size+2,0,none⟩=some (.pointer none)/\w.cell? ⟨W.heap.size+3,0,none⟩=some (.pointer (some ⟨p',0,none⟩)))/\w.frozen? ⟨W.heap.size+2,0,none⟩=false/\w.frozen? ⟨W.heap.size+3,0,none⟩=false:=by
 refine⟨⟨?_,?_,?_,?_⟩,?_,?_⟩
 ·simp[World.cell?,h.x0]
 ·simp[World.cell?,h.x1]
 ·simp[World.cell?,h.x2]
 ·simp[World.cell?,h.x3]
 ·simp[World.frozen?,h.x2]
 ·simp[World.frozen?,h.x3]
theorem Wt.set {W w:World} {nv rv:Value} {p p':Nat} (h:Wt W w nv rv p p') (p2:Nat):Wt W (w.setCell ⟨W.heap.size+3,0,none⟩ (.pointer (some ⟨p2,0,none⟩))) nv rv p p2:=
 ⟨h.b.setCell (p:=⟨W.heap.size+3,0,none⟩) (by simp) _,(Below.heap_setCell _ _ _ _ (by simp)).trans h.x0,(Below.heap_setCell _ _ _ _ (by simp)).trans h.x1,(Below.heap_setCell _ _ _ _ (by simp)).trans h.x2,heap_setCell_same w _ 0 _ _ _ h.x3⟩
theorem tb_base {w:World} {B B' p q:Nat} {v:Value} {l:List ByteArray} (h:Tb w B p v q l) (hB:B'<=B):Tb w B' p v q l:=
 ⟨h.blk,Nat.le_trans hB h.base,n_own_base h.own hB,Nat.le_trans hB h.mbase,h.map,h.len,h.good,h.nodup⟩
theorem ptr_same {P:Program} (w:World) (d:Nat) (t:TypeId) {e:TypeId} {z:Nat} (h:P.underlying t=some (.pointer e)) (hz:∀w,(sizeOf e).run P w=.ok (z+1) w) (a:Addr):(Op.equalIn (d+1) t (.pointer (some a)) (.pointer (some a))).run P w=.ok true w:=by
 simp[Op.equalIn,run_underlying h,hz,run_sameAddr_same]
theorem ptr_other {P:Program} (w:World) (d:Nat) (t:TypeId) {e:TypeId} {z:Nat} (h:P.underlying t=some (.pointer e)) (hz:∀w,(sizeOf e).run P w=.ok (z+1) w) {a b:Addr} {ca cb:Array Value} {ta tb:TypeId} (hne:a≠b) (ha:w.heap[a.block]?=some (.cells ca ta (0,0))) (hb:w.heap[b.block]?=some (.cells cb tb (0,0))):(Op.equalIn (d+1) t (.pointer (some a)) (.pointer (some b))).run P w=.ok false w:=by
 simp[Op.equalIn,run_underlying h,hz,run_sameAddr_other w hne ha hb]
theorem tab_same (a:Addr) (w:World):(Op.equalIn 10000 85 (.agg #[.pointer (some a)]) (.agg #[.pointer (some a)])).run Tryz.prog w=.ok true w:=by
 have u3:=Tryz.underlying83
 have a3:=Tryz.isAgg83
 have z3:=Tryz.sizeOf83
 have hp:=ptr_same w 9998 83 u3 Tryz.sizeOf153 a
 rw[show (9998:Nat)+1=9999 from rfl] at hp
 rw[show (10000:Nat)=9999+1 from rfl,run_equalIn_struct w 9999 85 _ _ (by kernel_rfl) (by kernel_rfl)]
 simp only[Program.fieldsOf,Tryz.underlying85]
 go_simp
theorem wt_copy {W wr w4:World} {nv rv:Value} {p p' p4 q4:Nat} {v4:Value} {L:List ByteArray} (h:Wt W wr nv rv p p') (hb:Below wr.heap.size wr w4) (hT:Tb w4 wr.heap.size p4 v4 q4 L) :
  Wt W (w4.setCell ⟨W.heap.size+3,0,none⟩ (.pointer (some ⟨p4,0,none⟩))) nv rv p p4/\Tb (w4.setCell ⟨W.heap.size+3,0,none⟩ (.pointer (some ⟨p4,0,none⟩))) (W.heap.size+4) p4 v4 q4 L:=by
 have hz:=h.size
 refine⟨(h.next (below_le hb hz)).set p4,tb_base (hT.keep (ks:=[W.heap.size+3]) ((n_Mod.refl _ w4).setCell (p:=⟨W.heap.size+3,0,none⟩) (Or.inl (by simp)) _) (fun k hk hf=>?_)) hz⟩
 have e:k=W.heap.size+3:=by simpa using hk
 subst e
 rcases n_mem_foot.1 hf with e | e | e
 ·have:=hT.base
  omega
 ·have:=hT.mbase
  omega
 ·have:=(hT.row e).1
  omega
theorem wt_put {W w5 w6 w7:World} {nv rv:Value} {p p5 q5:Nat} {v5 v7:Value} {L L':List ByteArray} (h:Wt W w5 nv rv p p5) (hT:Tb w5 (W.heap.size+4) p5 v5 q5 L) (hb:Below w5.heap.size w5 w6) (hU:n_Upd w6 w7 (W.heap.size+4) p5 v5 q5 L' v7):Wt W w7 nv rv p p5/\Tb w7 (W.heap.size+4) p5 v7 q5 L':=by
 have hz:=h.size
 have h6:=h.next (below_le hb hz)
 exact⟨h6.next (hU.below (hT.below hb) (by have:=h6.size;omega)),hU.tb⟩
theorem ret_tabE {w:World} {fn:Func} {t s:Tmp} (hfn:fn.results=#[.cell t 85,.tmp s]) {tmps:Array Value} {q:Nat} {u0 v1:Value} (h4:tmps[t]?.getD undef=.pointer (some ⟨q,0,none⟩)) (h5:tmps[s]?.getD undef=v1) (hq:w.heap[q]?=some (.cells #[u0] 85)):(results fn tmps).run Tryz.prog w=.ok (.tuple #[.agg #[u0],v1]) w:=by
 have z0:w.cell? ⟨q,0,none⟩=some u0:=by simp[World.cell?,hq]
 simp[results,hfn,go_sem,h4,h5,z0]
theorem size_nil {s:ByteArray} (h:s.toList=[]):s.size=0:=by
 rw[ByteArray.toList_eq] at h
 have:s.data.size=0:=by rw[←Array.length_toList,h];rfl
 exact this
theorem good_nameC {N:Nat} {n:Nd} (h:goodNd N n=true):n.name.size=0/\n.name.toList=[]∨n_goodS n.name=true:=by
 unfold goodNd at h
 split at h
 ·simp at h
  exact Or.inl ⟨size_nil h.1.1,h.1.1⟩
 ·split at h
  ·simp at h
   exact Or.inr h.1.1
  ·split at h
   ·simp at h
    exact Or.inl ⟨size_nil h.1.1.1,h.1.1.1⟩
   ·split at h
    ·simp only[Bool.and_eq_true] at h
     exact Or.inr h.1.1.1.1
    ·simp at h
end Go.Proofs.YtbfbkmkjcekpaaaGreatDoor
