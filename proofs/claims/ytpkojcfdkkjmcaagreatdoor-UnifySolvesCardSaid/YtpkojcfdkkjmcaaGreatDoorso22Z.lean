/- Package cells: what 'lay' has in memory. -/
import Derived.Test.YtpkojcfdkkjmcaaGreatDoorso20Z
import Derived.Test.YtpkojcfdkkjmcaaGreatDoorso14Z
import Derived.Test.YtpkojcfdkkjmcaaGreatDoorso17Z
namespace Go.Proofs.YtpkojcfdkkjmcaaGreatDoor
set_option maxRecDepth 100000
open Go.RowKit
structure Ly (W w:World) (ab:Nat) (av nv rv:Value) (N:Nat) (PL:List Int):Prop where
 m:a_Mod (a_foot ab av) W w
 f:∀k∈a_foot ab av,k<W.heap.size
 g:w.heap[W.heap.size]?=some (.cells #[nv,rv] 38)
 p:w.ownsRow (W.heap.size+1) 3 1 (.slice (some ⟨W.heap.size+1,0,none⟩) N N) N (PL.map (Value.int .i64))
 l:PL.length=N
section
variable {W w w':World} {ab:Nat} {av nv rv:Value} {N:Nat} {PL:List Int}
theorem Ly.next (h:Ly W w ab av nv rv N PL) (hb:Below w.heap.size w w'):Ly W w' ab av nv rv N PL:=
 ⟨h.m.trans (a_Mod.ofBelow (ks:=[]) hb) (fun _ hx=>by cases hx),h.f,(hb.block _ (lt_of_block h.g)).trans h.g,row_keep h.p (fun k hk=>hb.block k (h.p.lt k hk).2),h.l⟩
theorem Ly.upd (h:Ly W w ab av nv rv N PL) (hm:a_Mod (a_foot ab av) w w'):Ly W w' ab av nv rv N PL:=
 ⟨h.m.trans hm (fun _ hx=>Or.inl hx),h.f,(hm.block _ (lt_of_block h.g) (fun hx=>by have:=h.f _ hx;omega)).trans h.g,row_keep h.p (fun k hk=>hm.block k (h.p.lt k hk).2 (fun hx=>by have:=h.f _ hx;have:=(h.p.lt k hk).1;omega)),h.l⟩
theorem Ly.cell (h:Ly W w ab av nv rv N PL) {i:Nat} (hi:i<N):w.cell? ⟨W.heap.size+1,i,none⟩=some (.int .i64 (PL.getD i 0))/\w.frozen? ⟨W.heap.size+1,i,none⟩=false:=
 ⟨by rw[h.p.cellAt i (by omega)];have:=h.l;simp[List.getD,show i<PL.length by omega],h.p.frozenAt i⟩
theorem Ly.set (h:Ly W w ab av nv rv N PL) (n:Nat) (v:Int):Ly W (w.setCell ⟨W.heap.size+1,n,none⟩ (.int .i64 v)) ab av nv rv N (PL.set n v):=by
 refine⟨h.m.setCell (p:=⟨W.heap.size+1,n,none⟩) (Or.inr (by show W.heap.size<=W.heap.size+1;omega)) _,h.f,(Below.heap_setCell _ _ _ _ (by show W.heap.size≠W.heap.size+1;omega)).trans h.g,?_,by simp[h.l]⟩
 have h3:=(World.ownsRow.stored h.p n (.int .i64 v)).1
 rw[List.map_set]
 exact h3
theorem Ly.box (h:Ly W w ab av nv rv N PL):(w.cell? ⟨W.heap.size,0,none⟩=some nv/\w.cell? ⟨W.heap.size,1,none⟩=some rv)/\W.heap.size<w.heap.size/\W.heap.size+1<w.heap.size:=by
 obtain⟨a,_⟩:=cblk2 h.g
 exact⟨a,lt_of_block h.g,(h.p.lt _ rfl).2⟩
theorem ly_start {w1:World} (hf:∀k∈a_foot ab av,k<W.heap.size) (hown:w1.ownsRow (W.heap.size+1) 3 1 (.slice (some ⟨(W.alloc (.cells #[nv,rv] 38)).heap.size,0,none⟩) N N) N (madeCells (Value.int .i64 0).cells (N*1)).toList) (hgrow:(W.alloc (.cells #[nv,rv] 38)).grownBy w1 none):Ly W w1 ab av nv rv N (List.replicate N 0)/\Below W.heap.size W w1:=by
 have hsz:(W.alloc (.cells #[nv,rv] 38)).heap.size=W.heap.size+1:=by simp
 rw[hsz] at hown
 have hb:Below W.heap.size W w1:=(below_alloc W _).grown hgrow (by omega) (fun _ e=>by cases e)
 refine⟨⟨a_Mod.ofBelow hb,hf,?_,?_,by simp⟩,hb⟩
 ·rw[hgrow.block _ (by simp) (fun e=>by cases e)]
  exact heap_alloc_new W _
 ·rw[show (madeCells (Value.int .i64 0).cells (N*1)).toList=List.replicate N (.int .i64 0) by rw[Nat.mul_one];simp[Value.cells,toList_madeCells_one]] at hown
  simpa using hown
end
def PlJ (g:Gf) (met:List Int) (b j:Nat) (PL:List Int):Prop:=∀i,i<j->PL.getD (met.getD i 0).toNat 0=((b+wantJ g met i:Nat):Int)
theorem plJ_set {g:Gf} {met PL:List Int} {b j:Nat} (h:PlJ g met b j PL) (hn:met.Nodup) (hr:∀x∈met,0<=x/\x<(PL.length:Int)) (hj:j<met.length):PlJ g met b (j+1) (PL.set (met.getD j 0).toNat ((b+wantJ g met j:Nat):Int)):=fun i hi=>by
 have hrj:=hr _ (getD_mem hj)
 by_cases e:i=j
 ·subst e
  have hz:(met.getD i 0).toNat<PL.length:=by omega
  generalize (met.getD i 0).toNat=z at *
  simp[List.getD,hz]
 ·have hij:i<j:=by omega
  have hri:=hr _ (getD_mem (show i<met.length by omega))
  have hne:(met.getD j 0).toNat≠(met.getD i 0).toNat:=fun e2=>by
   have e3:met.getD j 0=met.getD i 0:=by omega
   have h4:=pos_of_getD hn hj
   rw[e3,pos_of_getD hn (show i<met.length by omega)] at h4
   exact e h4
  have h5:=h i hij
  simp only[List.getD] at h5 hne ⊢
  rw[List.getElem?_set_ne hne]
  exact h5
theorem plJ_all {g:Gf} {met PL:List Int} {b:Nat} (h:PlJ g met b met.length PL) {x:Int} (hx:x∈met):PL.getD x.toNat 0=(plN g met b x:Int):=by
 have h1:=h (pos met x) (pos_lt hx)
 rw[pos_at hx] at h1
 exact h1
def Gra (w:World) (nv rv:Value) (g:Gf) (avs:Nat->Value):Prop:=(∃na nc,nv=.slice na g.nodes.length nc/\∀x,x<g.nodes.length->∃b o,na=some ⟨b,o,none⟩/\NdAt w b (o+x*4) (avs x) (g.nodes.getD x nd0))/\Ri w rv g.roots
theorem gra_of {w:World} {nv rv:Value} {g:Gf} (h:Gr w nv rv g):∃avs,Gra w nv rv g avs:=by
 obtain⟨na,nc,e,hc⟩:=h.1
 have hf:∀x,∃av,x<g.nodes.length->∃b o,na=some ⟨b,o,none⟩/\NdAt w b (o+x*4) av (g.nodes.getD x nd0):=fun x=>by
  by_cases hx:x<g.nodes.length
  ·obtain⟨b,o,av,e,h0⟩:=hc x hx
   exact⟨av,fun _=>⟨b,o,e,h0⟩⟩
  ·exact⟨undef,fun h=>absurd h hx⟩
 exact⟨fun x=>(hf x).choose,⟨na,nc,e,fun x hx=>(hf x).choose_spec hx⟩,h.2⟩
theorem Gra.below {w w':World} {nv rv:Value} {g:Gf} {avs:Nat->Value} (h:Gra w nv rv g avs) (hb:Below w.heap.size w w'):Gra w' nv rv g avs:=by
 obtain⟨⟨na,nc,e,hc⟩,hr⟩:=h
 exact⟨⟨na,nc,e,fun x hx=>by
  obtain⟨b,o,e,h0⟩:=hc x hx
  exact⟨b,o,e,h0.below hb⟩⟩,hr.below hb⟩
theorem Gra.gr {w:World} {nv rv:Value} {g:Gf} {avs:Nat->Value} (h:Gra w nv rv g avs):Gr w nv rv g:=by
 obtain⟨⟨na,nc,e,hc⟩,hr⟩:=h
 exact⟨⟨na,nc,e,fun x hx=>by
  obtain⟨b,o,e,h0⟩:=hc x hx
  exact⟨b,o,avs x,e,h0⟩⟩,hr⟩
theorem ri_own {w:World} {B:Nat} {ao:Option Addr} {c:Nat} {L:List Int} (h:w.ownsRow B 3 1 (.slice ao L.length c) L.length (L.map (Value.int .i64))):Ri w (.slice ao L.length c) L:=by
 refine⟨ao,c,rfl,fun j hj=>?_⟩
 rcases h.2 with⟨e,hn⟩ | ⟨gb,cap,cur,e,_⟩
 ·omega
 ·injection e with e _ _
  subst e
  refine⟨gb,0,rfl,?_⟩
  rw[Nat.zero_add,h.cellAt j (by omega)]
  simp[List.getD,hj]
theorem Gra.nd {w:World} {na:Option Addr} {nc:Nat} {rv:Value} {g:Gf} {avs:Nat->Value} (hG:Gra w (.slice na g.nodes.length nc) rv g avs) {x:Nat} (hx:x<g.nodes.length):∃b o aa ac,na=some ⟨b,o,none⟩/\avs x=.slice aa (g.nodes.getD x nd0).args.length ac/\w.cell? ⟨b,o+x*4,none⟩=some (.int .i64 (g.nodes.getD x nd0).kind)/\w.cell? ⟨b,o+x*4+1,none⟩=some (.string (g.nodes.getD x nd0).name)/\w.cell? ⟨b,o+x*4+2,none⟩=some (.int .i64 (g.nodes.getD x nd0).num)/\w.cell? ⟨b,o+x*4+3,none⟩=some (.slice aa (g.nodes.getD x nd0).args.length ac)/\Ri w (.slice aa (g.nodes.getD x nd0).args.length ac) (g.nodes.getD x nd0).args:=by
 obtain⟨⟨na',nc',e,hc⟩,_⟩:=hG
 injection e with e1 _ _
 subst e1
 obtain⟨b,o,rfl,h0⟩:=hc x hx
 obtain⟨p0,p1,p2,p3,p4⟩:=h0
 obtain⟨aa,ac,e,h5⟩:=p4
 rw[e] at p3
 exact⟨b,o,aa,ac,rfl,e,p0,p1,p2,p3,aa,ac,rfl,h5⟩
theorem Gra.nd2 {w:World} {nb no:Nat} {nc:Nat} {rv:Value} {g:Gf} {avs:Nat->Value} (hG:Gra w (.slice (some ⟨nb,no,none⟩) g.nodes.length nc) rv g avs) {x:Nat} (hx:x<g.nodes.length) {aa:Option Addr} {ac:Nat} (ha:avs x=.slice aa (g.nodes.getD x nd0).args.length ac):w.cell? ⟨nb,no+x*4,none⟩=some (.int .i64 (g.nodes.getD x nd0).kind)/\w.cell? ⟨nb,no+x*4+1,none⟩=some (.string (g.nodes.getD x nd0).name)/\w.cell? ⟨nb,no+x*4+2,none⟩=some (.int .i64 (g.nodes.getD x nd0).num)/\w.cell? ⟨nb,no+x*4+3,none⟩=some (.slice aa (g.nodes.getD x nd0).args.length ac)/\Ri w (.slice aa (g.nodes.getD x nd0).args.length ac) (g.nodes.getD x nd0).args:=by
 obtain⟨b,o,aa',ac',e,e2,p0,p1,p2,p3,p4⟩:=hG.nd hx
 injection e with e
 injection e with e1 e3 _
 subst e1 e3
 rw[ha] at e2
 injection e2 with e4 _ e5
 subst e4 e5
 exact⟨p0,p1,p2,p3,p4⟩
section
variable {w w':World} {B hb ab tb:Nat} {m:Int} {av:Value} {l:List Int} {tv:Value} {tq:Nat} {ns:List ByteArray} {trv ptv:Value} {n:Int}
theorem Hp.keep {ks:List Nat} (h:Hp w B hb ab tb m av l tv tq ns trv ptv n) (hm:a_Mod ks w w') (hk:∀k∈ks,k≠hb/\k∉a_foot ab av/\k∉n_foot tb tv tq):Hp w' B hb ab tb m av l tv tq ns trv ptv n:=
 ⟨(hm.block hb (lt_of_block h.blk) (fun hx=>(hk _ hx).1 rfl)).trans h.blk,h.base,h.ar.keep hm (fun k hx=>(hk k hx).2.1),h.tb.keep (mod_an hm) (fun k hx=>(hk k hx).2.2)⟩
theorem Hp.ltz (h:Hp w B hb ab tb m av l tv tq ns trv ptv n):hb<w.heap.size/\(∀k∈a_foot ab av,k<w.heap.size)/\(∀k∈n_foot tb tv tq,k<w.heap.size):=by
 refine⟨lt_of_block h.blk,fun k hk=>?_,fun k hk=>?_⟩
 ·rcases a_mem_foot.1 hk with rfl | hk
  ·exact h.ar.lt
  ·exact (h.ar.row hk).2.1
 ·rcases n_mem_foot.1 hk with rfl | rfl | hk
  ·exact h.tb.lt
  ·exact h.tb.mlt
  ·exact (h.tb.row hk).2.1
end
theorem Ly.far {W w w':World} {ab:Nat} {av nv rv:Value} {N:Nat} {PL:List Int} {ks:List Nat} (h:Ly W w ab av nv rv N PL) (hm:a_Mod ks w w') (hk:∀k∈ks,W.heap.size+2<=k):Ly W w' ab av nv rv N PL:=
 ⟨h.m.trans hm (fun k hx=>Or.inr (by have:=hk k hx;omega)),h.f,(hm.block _ (lt_of_block h.g) (fun hx=>by have:=hk _ hx;omega)).trans h.g,row_keep h.p (fun k hk2=>hm.block k (h.p.lt k hk2).2 (fun hx=>by
  have e:k=W.heap.size+1:=by simpa[Value.ownBlock] using hk2.symm
  have:=hk _ hx
  omega)),h.l⟩
theorem good_int {N:Nat} {n:Nd} (h:goodNd N n=true) (h3:n.kind=3):fitsB 2 n.num=true:=by
 unfold goodNd at h
 rw[if_neg (by omega),if_neg (by omega),if_pos h3] at h
 simp at h
 simp[fitsB]
 omega
theorem sz_pos {N:Nat} {n:Nd} (h:goodNd N n=true) (h2:n.kind≠2) (h3:n.kind≠3):1<=szN n:=by
 unfold goodNd at h
 unfold szN
 rw[if_neg h2,if_neg h3] at h
 split
 ·omega
 ·rename_i h1
  rw[if_neg h1] at h
  split
  ·omega
  ·rename_i h4
   rw[if_neg h4] at h
   cases h
theorem good_comp {N:Nat} {n:Nd} (h:goodNd N n=true) (h4:n.kind=4):1<=n.args.length/\n.args.length<=8:=by
 refine⟨?_,(good_args h).2⟩
 unfold goodNd at h
 rw[if_neg (by omega),if_neg (by omega),if_neg (by omega),if_pos h4] at h
 simp only[Bool.and_eq_true,decide_eq_true_eq] at h
 exact h.1.1.2
theorem getD_map1 (f:Int->Int) (a:Int) {L:List Int} {r:Nat} (h:r<L.length):(a::L.map f).getD (r+1) 0=f (L.getD r 0):=by
 simp[List.getD,h]
theorem grown_mod {w w':World} {o:Obj} {v:Value} (h:(w.alloc o).grownBy w' v.ownBlock):a_Mod v.ownBlock.toList w w':=
 ((a_Mod.refl _ w).alloc o).grown h (fun k e=>Or.inl (by rw[e];simp))
end Go.Proofs.YtpkojcfdkkjmcaaGreatDoor
namespace Go.Proofs.YtpkojcfdkkjmcaaGreatDoor
set_option maxRecDepth 100000
open Go.RowKit
structure PmC (NS:List ByteArray) (g:Gf) (met:List Int) (b:Nat):Prop where
 good:Good g
 ok:Ok g.nodes.length met
 root:∀x∈g.roots,x∈met
 arg:∀x∈met,∀y∈g.argsOf x,y∈met
 nm:∀x∈met,(g.nodes.getD x.toNat nd0).kind=2∨(g.nodes.getD x.toNat nd0).kind=4->num NS (g.nodes.getD x.toNat nd0).name<NS.length
 len:NS.length<=1024
 room:b+(putW NS g met b).length<=65536
section
variable {NS:List ByteArray} {g:Gf} {met:List Int} {b:Nat}
theorem PmC.nd (h:PmC NS g met b) {x:Int} (hx:x∈met):goodNd g.nodes.length (g.nodes.getD x.toNat nd0)=true:=by
 have hr:=h.ok.rng x hx
 exact h.good.node _ (by
  have:x.toNat<g.nodes.length:=by omega
  simp[List.getD,this])
theorem good_kind {N:Nat} {n:Nd} (h:goodNd N n=true):n.kind=1∨n.kind=2∨n.kind=3∨n.kind=4:=by
 unfold goodNd at h
 split at h
 ·omega
 ·split at h
  ·omega
  ·split at h
   ·omega
   ·split at h
    ·omega
    ·cases h
theorem PmC.pl (_h:PmC NS g met b) {x:Int} (hx:x∈met):plN g met b x+szN (g.nodes.getD x.toNat nd0)<=b+(putW NS g met b).length/\b<=plN g met b x:=by
 have h1:=want_next (g:=g) (met:=met) (pos_lt hx)
 rw[pos_at hx] at h1
 rw[putW_len]
 unfold plN
 omega
theorem PmC.at (_h:PmC NS g met b) {x:Int} (hx:x∈met) {r:Nat} (hr:r<szN (g.nodes.getD x.toNat nd0)):(putW NS g met b).getD (plN g met b x-b+r) 0=(nwX NS g met b x).getD r 0:=by
 have h1:=putW_node (ns:=NS) (b:=b) (pos_lt hx) (r:=r) (by rw[pos_at hx];exact hr)
 rw[pos_at hx] at h1
 unfold plN
 rw[show b+wantJ g met (pos met x)-b+r=wantJ g met (pos met x)+r by omega]
 exact h1
structure Cw (NS:List ByteArray) (g:Gf) (met:List Int) (b:Nat) (x:Int) (u:Int):Prop where
 good:goodB u=true
 rng:0<=u/\u<=18446744073709551615
 tag:u % 8=0∨u % 8=1∨u % 8=2∨u % 8=3
 ref:u % 8=0->(g.nodes.getD x.toNat nd0).kind=1/\valOf u=(plN g met b x:Int)
 str:u % 8=3->(g.nodes.getD x.toNat nd0).kind=4/\valOf u=(plN g met b x:Int)
 atom:u % 8=1->(valOf u).toNat<NS.length
theorem PmC.cw (h:PmC NS g met b) {x:Int} (hx:x∈met):Cw NS g met b x (cwX NS g met b x):=by
 have hn:=h.nd hx
 have hp:=(h.pl hx).1
 have hrm:=h.room
 have hpl:(g.nodes.getD x.toNat nd0).kind≠2->(g.nodes.getD x.toNat nd0).kind≠3->plN g met b x<65536:=fun h2 h3=>by
  have:=sz_pos hn h2 h3
  omega
 unfold cwX cwF
 rcases good_kind hn with k | k | k | k
 ·rw[if_neg (by omega),if_neg (by omega),if_neg (by omega)]
  have hf:fitsB 0 (plN g met b x:Int)=true:=by have:=hpl (by omega) (by omega);simp[fitsB];omega
  have ht:=wordOf_tag 0 (plN g met b x:Int) (by omega) (by omega)
  exact⟨wordOf_good _ _ hf,wordOf_bd _ _,Or.inl ht,fun _=>⟨k,wordOf_val _ _ hf⟩,fun e=>by omega,fun e=>by omega⟩
 ·rw[if_pos k]
  have hnm:=h.nm x hx (Or.inl k)
  have hl:=h.len
  have hf:fitsB 1 (num NS (g.nodes.getD x.toNat nd0).name:Int)=true:=by generalize num NS (g.nodes.getD x.toNat nd0).name=v at *;simp[fitsB];omega
  have ht:=wordOf_tag 1 (num NS (g.nodes.getD x.toNat nd0).name:Int) (by omega) (by omega)
  exact⟨wordOf_good _ _ hf,wordOf_bd _ _,Or.inr (Or.inl ht),fun e=>by omega,fun e=>by omega,fun _=>by rw[wordOf_val _ _ hf,Int.toNat_natCast];exact hnm⟩
 ·rw[if_neg (by omega),if_pos k]
  have hf:=good_int hn k
  have ht:=wordOf_tag 2 (g.nodes.getD x.toNat nd0).num (by omega) (by omega)
  exact⟨wordOf_good _ _ hf,wordOf_bd _ _,Or.inr (Or.inr (Or.inl ht)),fun e=>by omega,fun e=>by omega,fun e=>by omega⟩
 ·rw[if_neg (by omega),if_neg (by omega),if_pos k]
  have hf:fitsB 3 (plN g met b x:Int)=true:=by have:=hpl (by omega) (by omega);simp[fitsB];omega
  have ht:=wordOf_tag 3 (plN g met b x:Int) (by omega) (by omega)
  exact⟨wordOf_good _ _ hf,wordOf_bd _ _,Or.inr (Or.inr (Or.inr ht)),fun e=>by omega,fun _=>⟨k,wordOf_val _ _ hf⟩,fun e=>by omega⟩
theorem PmC.fw (h:PmC NS g met b) {x:Int} (hx:x∈met) (k:(g.nodes.getD x.toNat nd0).kind=4):goodB (fwF NS (g.nodes.getD x.toNat nd0))=true/\(0<=fwF NS (g.nodes.getD x.toNat nd0)/\fwF NS (g.nodes.getD x.toNat nd0)<=18446744073709551615)/\fwF NS (g.nodes.getD x.toNat nd0) % 8=4/\valOf (fwF NS (g.nodes.getD x.toNat nd0))=(num NS (g.nodes.getD x.toNat nd0).name:Int)*16+((g.nodes.getD x.toNat nd0).args.length:Int):=by
 have hn:=h.nd hx
 have h18:=good_comp hn k
 have hnm:=h.nm x hx (Or.inr k)
 have hl:=h.len
 have hf:=(fun_fitsC (num NS (g.nodes.getD x.toNat nd0).name:Int) ((g.nodes.getD x.toNat nd0).args.length:Int) (by generalize num NS (g.nodes.getD x.toNat nd0).name=v at *;generalize (g.nodes.getD x.toNat nd0).args.length=q at *;simp[funB];omega)).1
 unfold fwF
 exact⟨wordOf_good _ _ hf,wordOf_bd _ _,wordOf_tag _ _ (by omega) (by omega),wordOf_val _ _ hf⟩
theorem nw_var {x:Int} (k:(g.nodes.getD x.toNat nd0).kind=1):nwX NS g met b x=[8*(plN g met b x:Int)]:=by
 unfold nwX
 rw[if_pos k]
theorem nw_comp {x:Int} (k:(g.nodes.getD x.toNat nd0).kind=4):nwX NS g met b x=fwF NS (g.nodes.getD x.toNat nd0)::(g.nodes.getD x.toNat nd0).args.map (cwX NS g met b):=by
 unfold nwX
 rw[if_neg (by omega),if_pos k]
theorem sz_var {n:Nd} (k:n.kind=1):szN n=1:=by unfold szN;rw[if_pos k]
theorem sz_comp {n:Nd} (k:n.kind=4):szN n=1+n.args.length:=by unfold szN;rw[if_neg (by omega),if_pos k]
theorem PmC.cover (h:PmC NS g met b) {c:Nat} (hc:c<(putW NS g met b).length) :
  (∃x∈met,(putW NS g met b).getD c 0=cwX NS g met b x)∨(∃x∈met,(g.nodes.getD x.toNat nd0).kind=1/\b+c=plN g met b x/\(putW NS g met b).getD c 0=8*(plN g met b x:Int))∨(∃x∈met,(g.nodes.getD x.toNat nd0).kind=4/\b+c=plN g met b x/\(putW NS g met b).getD c 0=fwF NS (g.nodes.getD x.toNat nd0)):=by
 rw[putW_len] at hc
 rcases want_cover _ c hc with h1 | ⟨j,r,hj,hr,rfl⟩
 ·exact Or.inl ⟨_,h.root _ (getD_mem h1),putW_root h1⟩
 ·have hx:=getD_mem hj
  have e1:=putW_node (ns:=NS) (b:=b) hj hr
  have hpl:plN g met b (met.getD j 0)=b+wantJ g met j:=by
   unfold plN
   rw[pos_of_getD h.ok.nodup hj]
  generalize met.getD j 0=x at *
  rcases good_kind (h.nd hx) with k | k | k | k
  ·rw[sz_var k] at hr
   obtain rfl:r=0:=by omega
   refine Or.inr (Or.inl ⟨x,hx,k,by omega,?_⟩)
   rw[e1,nw_var k]
   rfl
  ·exact absurd hr (by unfold szN;rw[if_neg (by omega),if_neg (by omega)];omega)
  ·exact absurd hr (by unfold szN;rw[if_neg (by omega),if_neg (by omega)];omega)
  ·rw[sz_comp k] at hr
   rw[nw_comp k] at e1
   match r,hr with
   | 0,_=>exact Or.inr (Or.inr ⟨x,hx,k,by omega,e1⟩)
   | r+1,hr=>
    rw[getD_map1 _ _ (by omega)] at e1
    exact Or.inl ⟨_,h.arg x hx _ (getD_mem (by unfold Gf.argsOf;omega)),e1⟩
def vrP (g:Gf) (met:List Int) (b:Nat) (V:Nat->Bool) (k:Nat):Bool:=if k<b then V k else met.any (fun x=>decide ((g.nodes.getD x.toNat nd0).kind=1) && decide (plN g met b x=k))
theorem PmC.may (h:PmC NS g met b) {c:Nat} (hc:c<(putW NS g met b).length):0<=(putW NS g met b).getD c 0/\(putW NS g met b).getD c 0<=18446744073709551615/\mayB ((putW NS g met b).getD c 0) (b+(putW NS g met b).length)=true:=by
 have key:∀u:Int,goodB u=true->(u % 8=0∨u % 8=3∨u % 8=5->∃p:Nat,valOf u=(p:Int)/\p<b+(putW NS g met b).length)->mayB u (b+(putW NS g met b).length)=true:=fun u hg hv=>by
  unfold mayB
  rw[hg,Bool.true_and]
  by_cases ht:tellsB u=true
  ·have:u % 8=0∨u % 8=3∨u % 8=5:=by simpa[tellsB] using ht
   obtain⟨p,e,hp⟩:=hv this
   rw[e]
   simp
   exact Or.inr (by omega)
  ·have:tellsB u=false:=by simpa using ht
   rw[this]
   rfl
 rcases h.cover hc with⟨x,hx,e⟩ | ⟨x,hx,k,e2,e⟩ | ⟨x,hx,k,e2,e⟩
 ·rw[e]
  have hcw:=h.cw hx
  refine⟨hcw.rng.1,hcw.rng.2,key _ hcw.good (fun ht=>?_)⟩
  have hp:=(h.pl hx).1
  rcases ht with t | t | t
  ·obtain⟨k,hv⟩:=hcw.ref t
   rw[sz_var k] at hp
   exact⟨_,hv,by omega⟩
  ·obtain⟨k,hv⟩:=hcw.str t
   rw[sz_comp k] at hp
   exact⟨_,hv,by omega⟩
  ·have:=hcw.tag
   omega
 ·rw[e]
  have hp:=(h.pl hx).1
  have hr:=h.room
  rw[sz_var k] at hp
  have hf:fitsB 0 (plN g met b x:Int)=true:=by simp[fitsB];omega
  have hw:8*(plN g met b x:Int)=wordOf 0 (plN g met b x:Int):=by unfold wordOf;omega
  rw[hw]
  exact⟨(wordOf_bd _ _).1,(wordOf_bd _ _).2,key _ (wordOf_good _ _ hf) (fun _=>⟨_,wordOf_val _ _ hf,by omega⟩)⟩
 ·rw[e]
  obtain⟨f1,f2,f3,_⟩:=h.fw hx k
  exact⟨f2.1,f2.2,key _ f1 (fun t=>by omega)⟩
end
section
variable {NS:List ByteArray} {g:Gf} {met:List Int} {l:List Int} {V:Nat->Bool}
theorem wd_old {T:List Int} {k:Nat} (hk:k<l.length):wdN (l++T) k=wdN l k:=by
 unfold wdN
 simp[List.getD,List.getElem?_append_left hk]
theorem wd_nw {T:List Int} {k:Nat} (hk:l.length<=k):wdN (l++T) k=T.getD (k-l.length) 0:=by
 unfold wdN
 simp[List.getD,List.getElem?_append_right hk]
theorem tg_old {T:List Int} {k:Nat} (hk:k<l.length):tgN (l++T) k=tgN l k/\vlN (l++T) k=vlN l k:=by
 unfold tgN vlN
 rw[wd_old hk]
 exact⟨rfl,rfl⟩
theorem PmC.var (h:PmC NS g met l.length) {x:Int} (hx:x∈met) (k:(g.nodes.getD x.toNat nd0).kind=1):wdN (l++putW NS g met l.length) (plN g met l.length x)=8*(plN g met l.length x:Int):=by
 have hp:=h.pl hx
 rw[wd_nw hp.2]
 have h1:=h.at hx (r:=0) (by rw[sz_var k];omega)
 rw[Nat.add_zero,nw_var k] at h1
 exact h1
theorem PmC.fun (h:PmC NS g met l.length) {x:Int} (hx:x∈met) (k:(g.nodes.getD x.toNat nd0).kind=4):wdN (l++putW NS g met l.length) (plN g met l.length x)=fwF NS (g.nodes.getD x.toNat nd0):=by
 have hp:=h.pl hx
 rw[wd_nw hp.2]
 have h1:=h.at hx (r:=0) (by rw[sz_comp k];omega)
 rw[Nat.add_zero,nw_comp k] at h1
 exact h1
theorem PmC.args (h:PmC NS g met l.length) {x:Int} (hx:x∈met) (k:(g.nodes.getD x.toNat nd0).kind=4) {i:Nat} (hi:i<(g.nodes.getD x.toNat nd0).args.length):wdN (l++putW NS g met l.length) (plN g met l.length x+1+i)=cwX NS g met l.length ((g.nodes.getD x.toNat nd0).args.getD i 0)/\(g.nodes.getD x.toNat nd0).args.getD i 0∈met:=by
 have hp:=h.pl hx
 refine⟨?_,h.arg x hx _ (getD_mem hi)⟩
 rw[wd_nw (by omega)]
 have h1:=h.at hx (r:=i+1) (by rw[sz_comp k];omega)
 rw[nw_comp k,getD_map1 _ _ hi] at h1
 rw[show plN g met l.length x+1+i-l.length=plN g met l.length x-l.length+(i+1) by omega]
 exact h1
theorem vr_new {b k:Nat} (hk:b<=k):vrP g met b V k=true↔∃x∈met,(g.nodes.getD x.toNat nd0).kind=1/\plN g met b x=k:=by
 unfold vrP
 rw[if_neg (by omega)]
 simp
theorem vr_old {b k:Nat} (hk:k<b):vrP g met b V k=V k:=by
 unfold vrP
 rw[if_pos hk]
theorem put_snd (hs:Snd l V) (h:PmC NS g met l.length):Snd (l++putW NS g met l.length) (vrP g met l.length V):=by
 have hlen:(l++putW NS g met l.length).length=l.length+(putW NS g met l.length).length:=by simp
 have hold:∀k,k<l.length->(hdN (l++putW NS g met l.length) k↔hdN l k):=fun k hk=>by
  unfold hdN
  rw[(tg_old hk).1]
 have hcov:∀k,l.length<=k->k<l.length+(putW NS g met l.length).length->(∃x∈met,wdN (l++putW NS g met l.length) k=cwX NS g met l.length x)∨(∃x∈met,(g.nodes.getD x.toNat nd0).kind=1/\k=plN g met l.length x/\wdN (l++putW NS g met l.length) k=8*(k:Int))∨(∃x∈met,(g.nodes.getD x.toNat nd0).kind=4/\k=plN g met l.length x/\wdN (l++putW NS g met l.length) k=fwF NS (g.nodes.getD x.toNat nd0)):=fun k h1 h2=>by
  rw[wd_nw h1]
  rcases h.cover (c:=k-l.length) (by omega) with⟨x,hx,e⟩ | ⟨x,hx,kk,e2,e⟩ | ⟨x,hx,kk,e2,e⟩
  ·exact Or.inl ⟨x,hx,e⟩
  ·exact Or.inr (Or.inl ⟨x,hx,kk,by omega,by rw[e];congr 1;omega⟩)
  ·exact Or.inr (Or.inr ⟨x,hx,kk,by omega,e⟩)
 have hself:∀k:Nat,k<65536->goodB (8*(k:Int))=true/\(8*(k:Int)) % 8=0/\valOf (8*(k:Int))=(k:Int):=fun k hk=>by
  have hf:fitsB 0 (k:Int)=true:=by simp[fitsB];omega
  have hw:8*(k:Int)=wordOf 0 (k:Int):=by unfold wordOf;omega
  rw[hw]
  exact⟨wordOf_good _ _ hf,wordOf_tag _ _ (by omega) (by omega),wordOf_val _ _ hf⟩
 have hrm:=h.room
 have hvar:∀k,l.length<=k->k<l.length+(putW NS g met l.length).length->vrP g met l.length V k=true->tgN (l++putW NS g met l.length) k=0/\vlN (l++putW NS g met l.length) k=k:=fun k h1 h2 hv=>by
  obtain⟨x,hx,kk,e⟩:=(vr_new h1).1 hv
  have hw:=h.var hx kk
  rw[e] at hw
  obtain⟨_,s2,s3⟩:=hself k (by omega)
  unfold tgN vlN
  rw[hw]
  exact⟨s2,by omega⟩
 refine⟨fun k hk=>?_,fun x hx=>?_,fun k hk ht=>?_,fun k hk hv=>?_,fun k hk ht=>?_,fun k hk ht=>?_,fun k hk ht=>?_⟩
 ·rw[hlen] at hk
  by_cases ho:k<l.length
  ·rw[wd_old ho]
   exact hs.good k ho
  ·rcases hcov k (by omega) hk with⟨x,hx,e⟩ | ⟨x,hx,kk,e2,e⟩ | ⟨x,hx,kk,e2,e⟩
   ·rw[e];exact (h.cw hx).good
   ·rw[e];exact (hself k (by omega)).1
   ·rw[e];exact (h.fw hx kk).1
 ·rcases List.mem_append.1 hx with hx | hx
  ·exact hs.rng x hx
  ·obtain⟨i,hi,e⟩:∃i,i<(putW NS g met l.length).length/\(putW NS g met l.length).getD i 0=x:=by
    obtain⟨i,hi,rfl⟩:=List.getElem_of_mem hx
    exact⟨i,hi,by simp[List.getD,hi]⟩
   have:=h.may hi
   rw[e] at this
   exact⟨this.1,this.2.1⟩
 ·rw[hlen] at hk ⊢
  by_cases ho:k<l.length
  ·rw[(tg_old ho).1] at ht
   rw[(tg_old ho).2]
   obtain⟨r1,r2,r3⟩:=hs.ref k ho ht
   rw[vr_old r1,vr_old ho]
   exact⟨by omega,r2,r3⟩
  ·have hvk:vrP g met l.length V k=true->vlN (l++putW NS g met l.length) k<=k:=fun hv=>by
    have:=(hvar k (by omega) hk hv).2
    omega
   rcases hcov k (by omega) hk with⟨x,hx,e⟩ | ⟨x,hx,kk,e2,e⟩ | ⟨x,hx,kk,e2,e⟩
   ·have hcw:=h.cw hx
    have ht':cwX NS g met l.length x % 8=0:=by rw[←e];exact ht
    obtain⟨kk,hv⟩:=hcw.ref ht'
    have hp:=h.pl hx
    rw[sz_var kk] at hp
    have hvl:vlN (l++putW NS g met l.length) k=plN g met l.length x:=by unfold vlN;rw[e,hv,Int.toNat_natCast]
    refine⟨by omega,?_,hvk⟩
    rw[hvl]
    exact (vr_new hp.2).2 ⟨x,hx,kk,rfl⟩
   ·have hv:vrP g met l.length V k=true:=(vr_new (by omega)).2 ⟨x,hx,kk,e2.symm⟩
    have hvl:=(hvar k (by omega) hk hv).2
    refine⟨by omega,by rw[hvl];exact hv,hvk⟩
   ·have:tgN (l++putW NS g met l.length) k=4:=by unfold tgN;rw[e];exact (h.fw hx kk).2.2.1
    omega
 ·rw[hlen] at hk
  by_cases ho:k<l.length
  ·rw[hold k ho]
   rw[vr_old ho] at hv
   exact hs.own k ho hv
  ·have:=(hvar k (by omega) hk hv).1
   unfold hdN
   omega
 ·rw[hlen] at hk ⊢
  by_cases ho:k<l.length
  ·rw[(tg_old ho).1] at ht
   rw[(tg_old ho).2]
   obtain⟨r1,r2⟩:=hs.str k ho ht
   exact⟨by omega,(hold _ r1).2 r2⟩
  ·rcases hcov k (by omega) hk with⟨x,hx,e⟩ | ⟨x,hx,kk,e2,e⟩ | ⟨x,hx,kk,e2,e⟩
   ·have hcw:=h.cw hx
    have ht':cwX NS g met l.length x % 8=3:=by rw[←e];exact ht
    obtain⟨kk,hv⟩:=hcw.str ht'
    have hp:=h.pl hx
    rw[sz_comp kk] at hp
    have hvl:vlN (l++putW NS g met l.length) k=plN g met l.length x:=by unfold vlN;rw[e,hv,Int.toNat_natCast]
    refine⟨by omega,?_⟩
    rw[hvl]
    refine Or.inl ?_
    unfold tgN
    rw[h.fun hx kk]
    exact (h.fw hx kk).2.2.1
   ·have:tgN (l++putW NS g met l.length) k=0:=by unfold tgN;rw[e];exact (hself k (by omega)).2.1
    omega
   ·have:tgN (l++putW NS g met l.length) k=4:=by unfold tgN;rw[e];exact (h.fw hx kk).2.2.1
    omega
 ·rw[hlen] at hk
  by_cases ho:k<l.length
  ·rw[(tg_old ho).1] at ht
   rw[(tg_old ho).2]
   obtain⟨r1,r2⟩:=hs.fwd k ho ht
   exact⟨r1,(hold _ (by omega)).2 r2⟩
  ·rcases hcov k (by omega) hk with⟨x,hx,e⟩ | ⟨x,hx,kk,e2,e⟩ | ⟨x,hx,kk,e2,e⟩
   ·have hcw:=(h.cw hx).tag
    have ht':cwX NS g met l.length x % 8=5:=by rw[←e];exact ht
    omega
   ·have:tgN (l++putW NS g met l.length) k=0:=by unfold tgN;rw[e];exact (hself k (by omega)).2.1
    omega
   ·have:tgN (l++putW NS g met l.length) k=4:=by unfold tgN;rw[e];exact (h.fw hx kk).2.2.1
    omega
 ·rw[hlen] at hk ⊢
  by_cases ho:k<l.length
  ·rw[(tg_old ho).1] at ht
   have ear:arN' (l++putW NS g met l.length) k=arN' l k:=by unfold arN';rw[(tg_old ho).2]
   rw[ear]
   obtain⟨r1,r2⟩:=hs.args k ho ht
   exact⟨by omega,fun i hi1 hi2 hh=>r2 i hi1 hi2 ((hold _ (by omega)).1 hh)⟩
  ·rcases hcov k (by omega) hk with⟨x,hx,e⟩ | ⟨x,hx,kk,e2,e⟩ | ⟨x,hx,kk,e2,e⟩
   ·have hcw:=(h.cw hx).tag
    have ht':cwX NS g met l.length x % 8=4:=by rw[←e];exact ht
    omega
   ·have:tgN (l++putW NS g met l.length) k=0:=by unfold tgN;rw[e];exact (hself k (by omega)).2.1
    omega
   ·have hp:=h.pl hx
    rw[sz_comp kk] at hp
    have h18:=good_comp (h.nd hx) kk
    have ear:arN' (l++putW NS g met l.length) k=(g.nodes.getD x.toNat nd0).args.length:=by
     unfold arN' vlN
     rw[e,(h.fw hx kk).2.2.2]
     omega
    rw[ear]
    refine⟨by omega,fun i hi1 hi2 hh=>?_⟩
    obtain⟨i,rfl⟩:∃i',i=i'+1:=⟨i-1,by omega⟩
    obtain⟨ea,hm⟩:=h.args hx kk (i:=i) (by omega)
    have hcw:=(h.cw hm).tag
    have et:tgN (l++putW NS g met l.length) (k+(i+1))=cwX NS g met l.length ((g.nodes.getD x.toNat nd0).args.getD i 0) % 8:=by
     unfold tgN
     rw[show k+(i+1)=plN g met l.length x+1+i by omega,ea]
    unfold hdN at hh
    rw[et] at hh
    omega
theorem put_nsb {N:Nat} (hn:NsB l N) (hle:N<=NS.length) (h:PmC NS g met l.length):NsB (l++putW NS g met l.length) NS.length:=by
 have hlen:(l++putW NS g met l.length).length=l.length+(putW NS g met l.length).length:=by simp
 refine⟨fun k hk ht=>?_,fun k hk ht=>?_⟩
 ·rw[hlen] at hk
  by_cases ho:k<l.length
  ·rw[(tg_old ho).1] at ht
   rw[(tg_old ho).2]
   have:=hn.atom k ho ht
   omega
  ·unfold tgN at ht
   unfold vlN
   rw[wd_nw (by omega)] at ht ⊢
   rcases h.cover (c:=k-l.length) (by omega) with⟨x,hx,e⟩ | ⟨x,hx,kk,e2,e⟩ | ⟨x,hx,kk,e2,e⟩
   ·rw[e] at ht ⊢
    exact (h.cw hx).atom ht
   ·rw[e] at ht
    omega
   ·rw[e,(h.fw hx kk).2.2.1] at ht
    omega
 ·rw[hlen] at hk
  by_cases ho:k<l.length
  ·rw[(tg_old ho).1] at ht
   rw[wd_old ho]
   have:=hn.func k ho ht
   omega
  ·unfold tgN at ht
   rw[wd_nw (by omega)] at ht ⊢
   rcases h.cover (c:=k-l.length) (by omega) with⟨x,hx,e⟩ | ⟨x,hx,kk,e2,e⟩ | ⟨x,hx,kk,e2,e⟩
   ·have:=(h.cw hx).tag
    rw[e] at ht
    omega
   ·rw[e] at ht
    omega
   ·rw[e,(h.fw hx kk).2.2.2]
    have h18:=good_comp (h.nd hx) kk
    have hnm:=h.nm x hx (Or.inr kk)
    omega
theorem pmc_ofG {ns:List ByteArray} {b:Nat} (hg:Good g) (hna:(wthJ ns g (metF g) (metF g).length).length<=1024) (hro:b+wantJ g (metF g) (metF g).length<=65536):PmC (wthJ ns g (metF g) (metF g).length) g (metF g) b:=by
 refine⟨hg,met_ok hg,met_root hg,met_arg hg,fun x hx hk=>?_,hna,by rw[putW_len];exact hro⟩
 have hr:=(met_ok hg).rng x hx
 have hgd:=hg.node (g.nodes.getD x.toNat nd0) (by
  have:x.toNat<g.nodes.length:=by omega
  simp[List.getD,this])
 have hs:(g.nodes.getD x.toNat nd0).name.size≠0:=by
  have h1:goodS (g.nodes.getD x.toNat nd0).name=true:=by
   unfold goodNd at hgd
   rcases hk with k | k
   ·rw[if_neg (by omega),if_pos k] at hgd
    simp only[Bool.and_eq_true] at hgd
    exact hgd.1.1
   ·rw[if_neg (by omega),if_neg (by omega),if_neg (by omega),if_pos k] at hgd
    simp only[Bool.and_eq_true] at hgd
    exact hgd.1.1.1.1
  have:=goodS_size h1
  omega
 have h2:=wthJ_in ns g (metF g) (pos_lt hx) (by rw[pos_at hx];exact hs)
 rw[pos_at hx] at h2
 exact num_lt h2
end
end Go.Proofs.YtpkojcfdkkjmcaaGreatDoor
namespace Go.Proofs.YtpkojcfdkkjmcaaGreatDoor
set_option maxRecDepth 100000
open Go.RowKit
section
variable {W:World} {B hb ab tb:Nat} {m:Int} {av:Value} {l:List Int} {tv:Value} {tq:Nat} {ns:List ByteArray} {trv ptv:Value} {n:Int}
set_option maxHeartbeats 16000000 in
theorem lay_ok {nv rv mv:Value} {g:Gf} {met:List Int} (T:List Int) (hH:Hp W B hb ab tb m av (l++mixW T l.length 0) tv tq ns trv ptv n)
  {avs:Nat->Value} (hGk:∀w',a_Mod (a_foot ab av) W w'->Gra w' nv rv g avs) (hMk:∀w',a_Mod (a_foot ab av) W w'->Ri w' mv met) (hg:Good g) (hm:∀x∈met,0<=x/\x<(g.nodes.length:Int)) (hnd:met.Nodup) (hro:∀x∈g.roots,x∈met) (har:∀x∈met,∀y∈g.argsOf x,y∈met)
  (hTe:T=putW ns g met l.length) (hTr:∀c,c<T.length->0<=T.getD c 0/\T.getD c 0<=18446744073709551615/\mayB (T.getD c 0) (l.length+T.length)=true) :
  Calls Tryz.prog 47 #[.pointer (some ⟨hb,0,none⟩),.agg #[nv,rv],mv,.int .i64 (l.length:Int)] W fun e w'=>(∃ao c,e=.returned (.slice ao g.roots.length c)/\w'.ownsRow (W.heap.size+1) 3 1 (.slice ao g.roots.length c) g.roots.length (((List.range g.roots.length).map (fun i=>((l.length+i:Nat):Int))).map (Value.int .i64)))/\Hp w' B hb ab tb m av (l++T) tv tq ns trv ptv n/\a_Mod (a_foot ab av) W w':=by
 obtain⟨i0,hi,hz0,hz1,hz2⟩:=info_parts infoI
 have hN:g.nodes.length<=4096:=hg.nodes
 have hfo:∀k∈a_foot ab av,k<W.heap.size:=fun k hk=>by
  rcases a_mem_foot.1 hk with rfl | hk
  ·exact hH.ar.lt
  ·exact (hH.ar.row hk).2.1
 have hl6:l.length+T.length<=65536:=by
  have h1:=hH.ar.len
  have h2:=hH.ar.m2
  rw[List.length_append,mix_len (Nat.zero_le _)] at h1
  omega
 have hTl:T.length=wantJ g met met.length:=by rw[hTe,putW_len]
 have HH:=hid hH
 have HGk:=hid hGk
 have HMk:=hid hMk
 have Hg:=hid hg
 have Hm:=hid hm
 have Hnd:=hid hnd
 have Hro:=hid hro
 have Har:=hid har
 have HTe:=hid hTe
 have HTr:=hid hTr
 have hml:met.length<=4096:=by
  have:=pigeon _ _ hnd hm
  omega
 obtain⟨na,nc,rfl,_⟩:=(hGk W (a_Mod.refl _ _)).1
 obtain⟨ra,rc,rfl,_⟩:=(hGk W (a_Mod.refl _ _)).2
 obtain⟨lz0,lz1,lz2⟩:=hH.ltz
 have hfar:Hid (∀k,W.heap.size<=k->k≠hb/\k∉a_foot ab av/\k∉n_foot tb tv tq):=fun k hk=>⟨by omega,fun h=>by have:=lz1 k h;omega,fun h=>by have:=lz2 k h;omega⟩
 clear lz1 lz2
 obtain⟨ma,mc,rfl,_⟩:=hMk W (a_Mod.refl _ _)
 have hrl:g.roots.length<=4096:=hg.roots
 clear hGk hMk hg hm hnd hro har hTe hTr hH
 go_enter Tryz.func47,Tryz.ntmps47
 go_wp2_with (at_make;go_must (refine wpList_make_full _ rfl _ _ 36 rfl (W.heap.size+1) 3 i0 (.int .i64 0) 1 Tryz.underlying36 hi hz0 hz1 .i64 .i64 _ _ g.nodes.length rfl rfl rfl rfl (by rw[hz2];omega) (by unfold maxLen;omega) (by simp) ?_;intro w1 hown1 hgrow1;have hC0:=hid (ly_start hfo hown1 hgrow1);obtain⟨⟨c0,c1⟩,zz0,zz1⟩:=hC0.out.1.box;clear hown1 hgrow1))
 go_loopw [10,12,32] (fun nx _ i wr=>∃(j:Nat) (PL:List Int),j<=met.length/\i=.int .i64 (j:Int)/\nx=.int .i64 ((l.length:Int)+(wantJ g met j:Int))/\Hid (Below W.heap.size W wr)/\Hid (Ly W wr ab av (.slice na g.nodes.length nc) (.slice ra g.roots.length rc) g.nodes.length PL)/\Hid (PlJ g met l.length j PL)) (fun _ _ i _=>met.length-(intOf i).toNat)
 case atStart=>exact⟨0,_,Nat.zero_le _,rfl,rfl,hid hC0.out.2,hid hC0.out.1,fun i hi=>absurd hi (Nat.not_lt_zero _)⟩
 case round=>
  clear hC0 c0 c1 zz0 zz1
  obtain⟨j,PL,hj,rfl,rfl,hbw,hL,hP⟩:=hrel
  obtain⟨⟨b0,b1⟩,zz0,zz1⟩:=hL.out.box
  by_cases hlt:j<met.length
  ·have hji:(j:Int)<(met.length:Int):=by omega
   obtain⟨mb,mo,hma,m0⟩:=(HMk.out wr hL.out.m).at hlt
   have zm:=lt_of_cell m0
   have hmr:=Hm.out _ (getD_mem hlt)
   have hst:Hid (wantJ g met (j+1)=wantJ g met j+szN (g.nodes.getD (met.getD j 0).toNat nd0)):=rfl
   have hwl:wantJ g met j<=T.length:=by
    rw[hTl]
    have:=want_next (g:=g) (met:=met) hlt
    omega
   have hset:=hid (hL.out.set (met.getD j 0).toNat ((l.length+wantJ g met j:Nat):Int))
   have hps:=hid (plJ_set hP.out Hnd.out (by rw[hL.out.l];exact Hm.out) hlt)
   have hgn:=HGk.out wr hL.out.m
   subst hma
   generalize met.getD j 0=y at *
   obtain⟨yn,rfl⟩:∃yn:Nat,y=(yn:Int):=⟨y.toNat,by omega⟩
   rw[Int.toNat_natCast] at hst hset hps
   have hyn:yn<g.nodes.length:=by omega
   have hyi:(yn:Int)<(g.nodes.length:Int):=by omega
   obtain⟨k0,k1⟩:=hL.out.cell hyn
   obtain⟨nb,no,aa,ac,hna,_,p0,p1,p2,p3,_⟩:=hgn.nd hyn
   obtain⟨nb',no',_,_,hna',_,q0,_⟩:=(HGk.out W (a_Mod.refl _ _)).nd hyn
   have zn:nb<W.heap.size:=by
    rw[hna] at hna'
    injection hna' with e
    injection e with e _ _
    rw[e]
    exact lt_of_cell q0
   clear hna' q0 hgn
   subst hna
   have ne1:nb≠W.heap.size+1:=by omega
   have h8:=(good_args (Hg.out.node (g.nodes.getD yn nd0) (by simp[List.getD,hyn]))).2
   have hsz:=hid (fun w=>size_any w (g.nodes.getD yn nd0) aa ac (by omega))
   have hs9:=sz_le h8
   generalize szN (g.nodes.getD yn nd0)=sz at *
   generalize wantJ g met j=wj at *
   generalize g.nodes.getD yn nd0=nd at *
   obtain⟨kd,nm,nu,args⟩:=nd
   dsimp only at p0 p1 p2 p3 hsz
   clear hmr
   have hcast:((l.length+wj:Nat):Int)=(l.length:Int)+(wj:Int):=by omega
   rw[hcast] at hset hps
   go_wp2_with (go_at_call 91;refine (hsz.out _).mono ?_;rintro e w3 ⟨rfl,hb3⟩;have Hb3:=hid hb3;clear hb3)
   go_roundw
   case rel=>
    refine⟨j+1,PL.set yn ((l.length:Int)+(wj:Int)),by omega,by go_num,congrArg (Value.int .i64) (by rw[hst.out];omega),?_,hid (hset.out.next Hb3.out),hps⟩
    exact Below.next (hbw.out.setCell (p:=⟨W.heap.size+1,yn,none⟩) (by show W.heap.size<=W.heap.size+1;omega) _) Hb3.out
   case measure=>simp[intOf];omega
  ·obtain rfl:j=met.length:=by omega
   obtain⟨w0,hw0⟩:∃w0,w0=wr:=⟨_,rfl⟩
   subst hw0
   have hH0:=hid (HH.out.below hbw.out)
   go_wp2
   go_loopw [13,14,15,52] (fun s _ _ i wr=>∃(k:Nat) (ao:Option Addr) (c:Nat),k<=g.roots.length/\i=.int .i64 (k:Int)/\s=.slice ao k c/\Hid (Ly W wr ab av (.slice na g.nodes.length nc) (.slice ra g.roots.length rc) g.nodes.length PL)/\Hid (Hp wr B hb ab tb m av (l++mixW T l.length k) tv tq ns trv ptv n)/\Hid (wr.ownsRow (W.heap.size+2) 3 1 (.slice ao k c) k (((List.range k).map (fun i=>((l.length+i:Nat):Int))).map (Value.int .i64)))) (fun _ _ _ i _=>g.roots.length-(intOf i).toNat)
   case atStart=>exact⟨0,none,0,Nat.zero_le _,rfl,rfl,hL,hH0,World.ownsRow_nil _ _ _ _⟩
   case round=>
    clear hL hH0 hbw b0 b1 zz0 zz1
    obtain⟨k,ao,c,hk,rfl,rfl,hL,hHp,hRo⟩:=hrel
    obtain⟨⟨b0,b1⟩,zz0,zz1⟩:=hL.out.box
    obtain⟨⟨h0,_⟩,zh⟩:=hHp.out.cells
    by_cases hlk:k<g.roots.length
    ·have hki:(k:Int)<(g.roots.length:Int):=by omega
     have hgn:=HGk.out wr hL.out.m
     obtain⟨rb,ro,hra,r0⟩:=hgn.2.at hlk
     have zr:=lt_of_cell r0
     have hrm:=Hro.out _ (getD_mem hlk)
     have hrr:=Hm.out _ hrm
     have hTk:T.getD k 0=cwX ns g met l.length (g.roots.getD k 0):=by rw[HTe.out];exact putW_root hlk
     have hkT:k<T.length:=by
      rw[hTl]
      have:=want_root (g:=g) (met:=met) met.length
      omega
     have hms:=hid (mix_set (l:=l) hkT)
     have htr:=HTr.out k hkT
     have hPx:=plJ_all hP.out hrm
     subst hra
     generalize g.roots.getD k 0=y at *
     obtain⟨yn,rfl⟩:∃yn:Nat,y=(yn:Int):=⟨y.toNat,by omega⟩
     rw[Int.toNat_natCast] at hPx
     have hyn:yn<g.nodes.length:=by omega
     have hyi:(yn:Int)<(g.nodes.length:Int):=by omega
     obtain⟨k0,_⟩:=hL.out.cell hyn
     rw[hPx] at k0
     obtain⟨nb,no,aa,ac,hna,hav,p0,p1,p2,p3,_⟩:=hgn.nd hyn
     subst hna
     have hndk:=hid (fun w' (hm':a_Mod (a_foot ab av) W w')=>(HGk.out w' hm').nd2 hyn hav)
     have hk0k:=hid (fun w' (h':Ly W w' ab av (.slice (some ⟨nb,no,none⟩) g.nodes.length nc) (.slice (some ⟨rb,ro,none⟩) g.roots.length rc) g.nodes.length PL)=>(h'.cell hyn).1)
     rw[hPx] at hk0k
     clear hav
     have zn:=lt_of_cell p0
     have hgd:=Hg.out.node (g.nodes.getD yn nd0) (by simp[List.getD,hyn])
     have hpl:(g.nodes.getD yn nd0).kind≠2->(g.nodes.getD yn nd0).kind≠3->plN g met l.length (yn:Int)<65536:=fun h2 h3=>by
      have hp1:=pos_lt hrm
      have hp2:=want_next (g:=g) (met:=met) hp1
      rw[pos_at hrm,Int.toNat_natCast] at hp2
      have hp3:=sz_pos hgd h2 h3
      unfold plN
      omega
     have hcwe:Hid (T.getD k 0=cwF ns (g.nodes.getD yn nd0) (plN g met l.length (yn:Int))):=hTk
     have hce:=hid (fun w1 (hbb:Below wr.heap.size wr w1)=>ccell_any (hHp.out.below hbb) (g.nodes.getD yn nd0) aa (g.nodes.getD yn nd0).args.length ac (by have:=good_name hgd;omega) (fun h3=>good_int hgd h3) (plN g met l.length (yn:Int)) hpl)
     rw[←hcwe.out] at hce
     have hla:=hid (fun w1 (hbb:Below wr.heap.size wr w1)=>blay_ok (hHp.out.below hbb).ar (l.length+k) (T.getD k 0) (by rw[List.length_append,mix_len (by omega)];omega) htr.1 htr.2.1 (by rw[List.length_append,mix_len (by omega)];exact htr.2.2))
     rw[hms.out] at hla
     clear hgn hrr hPx hgd hTk htr hms hcwe hpl
     generalize T.getD k 0=x at *
     generalize plN g met l.length (yn:Int)=pl at *
     generalize g.nodes.getD yn nd0=nd at *
     obtain⟨kd,nm,nu,args⟩:=nd
     dsimp only at p0 p1 p2 p3 hce hndk
     have hcast:((l.length+k:Nat):Int)=(l.length:Int)+(k:Int):=by omega
     rw[hcast] at hla
     have hwr:IntKind.i64.wrap ((l.length:Int)+(k:Int))=(l.length:Int)+(k:Int):=by rw[IntKind.wrap_i64];omega
     go_wp2
     go_region_held3 (fun w'=>w'.cell? ⟨hb,0,none⟩=some (.pointer (some ⟨ab,0,none⟩))/\w'.cell? ⟨W.heap.size,0,none⟩=some (.slice (some ⟨nb,no,none⟩) g.nodes.length nc)/\w'.cell? ⟨nb,no+yn*4,none⟩=some (.int .i64 kd)/\w'.cell? ⟨nb,no+yn*4+1,none⟩=some (.string nm)/\w'.cell? ⟨nb,no+yn*4+2,none⟩=some (.int .i64 nu)/\w'.cell? ⟨nb,no+yn*4+3,none⟩=some (.slice aa args.length ac)/\w'.cell? ⟨W.heap.size+1,yn,none⟩=some (.int .i64 (pl:Int))) (first | exact⟨h0,b0,p0,p1,p2,p3,k0⟩ | go_keep)
      (first
       | (go_at_call 93;refine (hce.out _ ?_).mono ?_;exact (Below.refl _ _).drew;rintro e w3 ⟨rfl,hb3⟩;have hb4:=Below.next (Below.refl _ _).drew hb3;have Hb3:=hid hb4;replace h0:=(hb4.cell (p:=⟨hb,0,none⟩) zh).trans h0;replace b0:=(hb4.cell (p:=⟨W.heap.size,0,none⟩) zz0).trans b0;replace p0:=(hb4.cell (p:=⟨nb,no+yn*4,none⟩) zn).trans p0;replace p1:=(hb4.cell (p:=⟨nb,no+yn*4+1,none⟩) zn).trans p1;replace p2:=(hb4.cell (p:=⟨nb,no+yn*4+2,none⟩) zn).trans p2;replace p3:=(hb4.cell (p:=⟨nb,no+yn*4+3,none⟩) zn).trans p3;replace k0:=(hb4.cell (p:=⟨W.heap.size+1,yn,none⟩) zz1).trans k0;have Hla:=hid (hla.out _ Hb3.out);clear hb3 hb4)
       | (go_at_call 55;refine Hla.out.mono ?_;rintro e w4 ⟨rfl,hu⟩;have HLy:=hid ((hL.out.next Hb3.out).upd hu.mod);have HHp:=hid ((hHp.out.below Hb3.out).words hu);have HRo:=hid (row_keep (row_keep hRo.out (fun q hq=>Hb3.out.block q (hRo.out.lt q hq).2)) (fun q hq=>hu.mod.block q (Nat.lt_of_lt_of_le (hRo.out.lt q hq).2 Hb3.out.size) (fun hx=>by have:=hL.out.f _ hx;have:=(hRo.out.lt q hq).1;omega)));replace h0:=HHp.out.cells.1.1;replace b0:=HLy.out.box.1.1;obtain⟨p0',p1',p2',p3',_⟩:=hndk.out _ HLy.out.m;replace p0:=p0';replace p1:=p1';replace p2:=p2';replace p3:=p3';replace k0:=hk0k.out _ HLy.out;clear hu))
     have hO1:=World.ownsRow.alloc HRo.out (.cells #[.int .i64 ((l.length:Int)+(k:Int))] 3)
     have hst:Hid (((List.range (k+1)).map (fun i=>((l.length+i:Nat):Int))).map (Value.int .i64)=((List.range k).map (fun i=>((l.length+i:Nat):Int))).map (Value.int .i64)++[.int .i64 ((l.length:Int)+(k:Int))]):=show _=_ by
      rw[List.range_succ,List.map_append,List.map_append]
      congr 2
     have hlo:Hid (∀q,(Value.slice ao k c).ownBlock=some q->W.heap.size+2<=q):=fun q hq=>(hRo.out.lt q hq).1
     have hz4:W.heap.size+2<=w4.heap.size:=HLy.out.box.2.2
     generalize ((List.range k).map (fun i=>((l.length+i:Nat):Int))).map (Value.int .i64)=XS at *
     clear hRo HRo
     go_wp2_with (at_builtin;go_must (refine wpList_append_lies _ rfl _ _ 36 rfl (W.heap.size+2) 3 i0 (.int .i64 0) 1 8 Tryz.underlying36 hi hz0 hz1 hz2 rfl (by decide) _ k _ rfl hO1 ⟨w4.heap.size,0,none⟩ 1 1 [.int .i64 ((l.length:Int)+(k:Int))] rfl rfl (World.news_of_block (cs:=#[.int .i64 ((l.length:Int)+(k:Int))]) (t:=3) (fr:=(0,0)) (heap_alloc_new w4 _)) (by simp[Value.oneCell']) (by decide) (by unfold maxLen;omega) (by omega) (by simp;omega) _ rfl ?_;intro g6 cap w6 hown6 hg6 hat6 hlt6))
     have hm6:=grown_mod hg6
     have hks:∀q∈(Value.slice ao k c).ownBlock.toList,W.heap.size+2<=q:=fun q hq=>hlo.out q (by simpa using hq)
     have HL6:=hid (HLy.out.far hm6 hks)
     have HH6:=hid (HHp.out.keep hm6 (fun q hq=>hfar.out q (by have:=hks q hq;omega)))
     clear hm6 hks hg6
     go_roundw
     case rel=>exact⟨k+1,some ⟨g6,0,none⟩,cap,by omega,by go_num,rfl,HL6,HH6,(show World.ownsRow _ _ _ _ _ _ _ by rw[hst.out];exact hown6)⟩
     case measure=>simp[intOf];omega
    ·obtain rfl:k=g.roots.length:=by omega
     obtain⟨w2,hw2⟩:∃w2,w2=wr:=⟨_,rfl⟩
     subst hw2
     go_wp2
     go_loopw [17,18,19,20,85] (fun _ _ _ _ i wr=>∃(j:Nat),j<=met.length/\i=.int .i64 (j:Int)/\Hid (Ly W wr ab av (.slice na g.nodes.length nc) (.slice ra g.roots.length rc) g.nodes.length PL)/\Hid (Hp wr B hb ab tb m av (l++mixW T l.length (wantJ g met j)) tv tq ns trv ptv n)/\Hid (wr.ownsRow (W.heap.size+2) 3 1 (.slice ao g.roots.length c) g.roots.length (((List.range g.roots.length).map (fun i=>((l.length+i:Nat):Int))).map (Value.int .i64)))) (fun _ _ _ _ i _=>met.length-(intOf i).toNat)
     case atStart=>exact⟨0,Nat.zero_le _,rfl,hL,hHp,hRo⟩
     case round=>
      clear hL hHp hRo h0 b0 b1 zz0 zz1 zh
      obtain⟨j,hjm,rfl,hL,hHp,hRo⟩:=hrel
      obtain⟨⟨b0,b1⟩,zz0,zz1⟩:=hL.out.box
      obtain⟨⟨h0,_⟩,zh⟩:=hHp.out.cells
      by_cases hlt:j<met.length
      ·have hji:(j:Int)<(met.length:Int):=by omega
       obtain⟨mb,mo,hma,m0⟩:=(HMk.out wr hL.out.m).at hlt
       have zm:=lt_of_cell m0
       have hmm:=getD_mem hlt
       have hmr:=Hm.out _ hmm
       have hst:Hid (wantJ g met (j+1)=wantJ g met j+szN (g.nodes.getD (met.getD j 0).toNat nd0)):=rfl
       have hwn:wantJ g met j+szN (g.nodes.getD (met.getD j 0).toNat nd0)<=T.length:=by
        rw[hTl]
        exact want_next hlt
       have hTn:∀r,r<szN (g.nodes.getD (met.getD j 0).toNat nd0)->T.getD (wantJ g met j+r) 0=(nwX ns g met l.length (met.getD j 0)).getD r 0:=fun r hr=>by
        rw[HTe.out]
        exact putW_node hlt hr
       have hgn:=HGk.out wr hL.out.m
       have hPx:=plJ_all hP.out hmm
       have hpj:plN g met l.length (met.getD j 0)=l.length+wantJ g met j:=by
        unfold plN
        rw[pos_of_getD Hnd.out hlt]
       have har:=Har.out _ hmm
       subst hma
       generalize met.getD j 0=y at *
       obtain⟨yn,rfl⟩:∃yn:Nat,y=(yn:Int):=⟨y.toNat,by omega⟩
       rw[Int.toNat_natCast] at hst hPx hwn hTn
       have hyn:yn<g.nodes.length:=by omega
       have hyi:(yn:Int)<(g.nodes.length:Int):=by omega
       obtain⟨nb,no,aa,ac,hna,hav,p0,p1,p2,p3,_⟩:=hgn.nd hyn
       subst hna
       have hrk:=hid (fun w' (hm':a_Mod (a_foot ab av) W w')=>((HGk.out w' hm').nd2 hyn hav).2.2.2.2)
       clear hav hgn
       have zn:=lt_of_cell p0
       have hgd:=Hg.out.node (g.nodes.getD yn nd0) (by simp[List.getD,hyn])
       have hbn:=hid (below_alloc wr (.cells #[.int .i64 (g.nodes.getD yn nd0).kind,.string (g.nodes.getD yn nd0).name,.int .i64 (g.nodes.getD yn nd0).num,.slice aa (g.nodes.getD yn nd0).args.length ac] 86))
       have hLn:=hid (hL.out.next hbn.out)
       have hHn:=hid (hHp.out.below hbn.out)
       have hRn:=hid (row_keep hRo.out (fun q hq=>hbn.out.block q (hRo.out.lt q hq).2))
       by_cases hk4:(g.nodes.getD yn nd0).kind=4
       ·have hsz:szN (g.nodes.getD yn nd0)=1+(g.nodes.getD yn nd0).args.length:=by
         unfold szN
         rw[if_neg (by omega),if_pos hk4]
        have hnw:nwX ns g met l.length (yn:Int)=fwF ns (g.nodes.getD yn nd0)::(g.nodes.getD yn nd0).args.map (cwX ns g met l.length):=by
         unfold nwX
         rw[Int.toNat_natCast,if_neg (by omega),if_pos hk4]
        have hT0:T.getD (wantJ g met j) 0=fwF ns (g.nodes.getD yn nd0):=by
         have h2:=hTn 0 (by omega)
         rw[Nat.add_zero,hnw] at h2
         exact h2
        have hT1:Hid (∀r,r<(g.nodes.getD yn nd0).args.length->T.getD (wantJ g met j+1+r) 0=cwX ns g met l.length ((g.nodes.getD yn nd0).args.getD r 0)):=fun r hr=>by
         have h2:=hTn (1+r) (by omega)
         rw[hnw,Nat.add_comm 1 r] at h2
         rw[show wantJ g met j+1+r=wantJ g met j+(r+1) by omega,h2]
         exact getD_map1 _ _ hr
        have h18:=good_comp hgd hk4
        have hargs:Hid (∀r,r<(g.nodes.getD yn nd0).args.length->(g.nodes.getD yn nd0).args.getD r 0∈met):=fun r hr=>har _ (by unfold Gf.argsOf;rw[Int.toNat_natCast];exact getD_mem hr)
        have hcT:wantJ g met j<T.length:=by omega
        have hms:=hid (mix_set (l:=l) hcT)
        have htr:=HTr.out _ hcT
        have hfu:=hid (fun w1 (hbb:Below wr.heap.size wr w1)=>functor_any (hHp.out.below hbb) (g.nodes.getD yn nd0) aa ac (by have:=good_name hgd;omega) h18.1 h18.2)
        rw[←hT0] at hfu
        have hla:=hid (fun w1 (hbb:Below wr.heap.size wr w1)=>blay_ok (hHp.out.below hbb).ar (l.length+wantJ g met j) (T.getD (wantJ g met j) 0) (by rw[List.length_append,mix_len (by omega)];omega) htr.1 htr.2.1 (by rw[List.length_append,mix_len (by omega)];exact htr.2.2))
        rw[hms.out] at hla
        rw[hpj] at hPx
        have hk0k:=hid (fun w' (h':Ly W w' ab av (.slice (some ⟨nb,no,none⟩) g.nodes.length nc) (.slice ra g.roots.length rc) g.nodes.length PL)=>(h'.cell hyn).1)
        rw[hPx] at hk0k
        obtain⟨⟨e0,_⟩,ez⟩:=hHn.out.cells
        have ek:=hk0k.out _ hLn.out
        obtain⟨⟨_,_⟩,ey0,ey1⟩:=hLn.out.box
        have bx:=heap_alloc_new wr (.cells #[.int .i64 (g.nodes.getD yn nd0).kind,.string (g.nodes.getD yn nd0).name,.int .i64 (g.nodes.getD yn nd0).num,.slice aa (g.nodes.getD yn nd0).args.length ac] 86)
        have hnl:Hid (szN (g.nodes.getD yn nd0)=1+(g.nodes.getD yn nd0).args.length):=hsz
        rw[hsz] at hwn
        clear hgd hmr hTn hnw hT0 hsz htr hms hPx hpj har
        obtain⟨pn,hpn⟩:∃pn,pn=l.length+wantJ g met j:=⟨_,rfl⟩
        rw[←hpn] at hla ek hk0k
        replace hpn:=hid hpn
        obtain⟨wj,hwj⟩:∃wj,wj=wantJ g met j:=⟨_,rfl⟩
        rw[←hwj] at hla hfu hT1 hwn hst hcT hHp hHn hpn
        replace hwj:=hid hwj
        generalize T.getD wj 0=x at *
        obtain⟨nd,hnd⟩:∃nd,nd=g.nodes.getD yn nd0:=⟨_,rfl⟩
        rw[←hnd] at p0 p1 p2 p3 hrk hLn hHn hRn hk4 hT1 h18 hargs hfu e0 ek bx hwn hst ez ey0 ey1 hbn hnl
        clear hnd
        obtain⟨kd,nm,nu,args⟩:=nd
        dsimp only at p0 p1 p2 p3 hrk hLn hHn hRn hk4 hT1 h18 hargs hfu e0 ek bx hwn hst ez ey0 ey1 hbn hnl
        subst hk4
        obtain⟨⟨n0,n1,n2,n3⟩,zx⟩:=nblk4 bx
        have HX:=hid bx
        have Hz:=hid zx
        have hcz:W.heap.size<=wr.heap.size:=by omega
        clear bx
        go_wp2
        go_region_held3 (fun w'=>w'.cell? ⟨hb,0,none⟩=some (.pointer (some ⟨ab,0,none⟩))/\w'.cell? ⟨W.heap.size+1,yn,none⟩=some (.int .i64 (pn:Int))/\w'.cell? ⟨wr.heap.size,0,none⟩=some (.int .i64 4)/\w'.cell? ⟨wr.heap.size,1,none⟩=some (.string nm)/\w'.cell? ⟨wr.heap.size,2,none⟩=some (.int .i64 nu)/\w'.cell? ⟨wr.heap.size,3,none⟩=some (.slice aa args.length ac)) (first | exact⟨e0,ek,n0,n1,n2,n3⟩ | go_keep)
         (first
          | (go_at_call 94;refine (hfu.out _ ?_).mono ?_;exact hbn.out.drew;rintro e w3 ⟨rfl,hb3⟩;have hb4:=Below.next (Below.refl _ _).drew hb3;have Hb4:=hid hb4;have Hb3:=hid (Below.next hbn.out hb4);have HX3:=hid ((hb4.block _ zx).trans HX.out);replace e0:=(hb4.cell (p:=⟨hb,0,none⟩) ez).trans e0;replace ek:=(hb4.cell (p:=⟨W.heap.size+1,yn,none⟩) ey1).trans ek;obtain⟨⟨n0',n1',n2',n3'⟩,_⟩:=nblk4 HX3.out;replace n0:=n0';replace n1:=n1';replace n2:=n2';replace n3:=n3';have Hla:=hid (hla.out _ Hb3.out);clear hb3 hb4)
          | (go_at_call 55;refine Hla.out.mono ?_;rintro e w4 ⟨rfl,hu⟩;have HLy:=hid ((hL.out.next Hb3.out).upd hu.mod);have HHp:=hid ((hHp.out.below Hb3.out).words hu);have HRo:=hid (row_keep (row_keep hRo.out (fun q hq=>Hb3.out.block q (hRo.out.lt q hq).2)) (fun q hq=>hu.mod.block q (Nat.lt_of_lt_of_le (hRo.out.lt q hq).2 Hb3.out.size) (fun hx=>by have:=hL.out.f _ hx;have:=(hRo.out.lt q hq).1;omega)));have HX4:=hid ((hu.mod.block _ (lt_of_block HX3.out) (fun hx=>by have:=hL.out.f _ hx;omega)).trans HX3.out);replace e0:=HHp.out.cells.1.1;replace ek:=hk0k.out _ HLy.out;obtain⟨⟨n0',n1',n2',n3'⟩,_⟩:=nblk4 HX4.out;replace n0:=n0';replace n1:=n1';replace n2:=n2';replace n3:=n3';clear hu))
        obtain⟨wo,hwo⟩:∃wo,wo=wr:=⟨_,rfl⟩
        subst hwo
        clear hLn hHn hRn hL hHp hRo
        go_wp2
        go_loopw [19,20,112] (fun _ _ i wr=>∃(k:Nat),k<=args.length/\i=.int .i64 (k:Int)/\Hid (Ly W wr ab av (.slice (some ⟨nb,no,none⟩) g.nodes.length nc) (.slice ra g.roots.length rc) g.nodes.length PL)/\Hid (Hp wr B hb ab tb m av (l++mixW T l.length (wj+1+k)) tv tq ns trv ptv n)/\Hid (wr.ownsRow (W.heap.size+2) 3 1 (.slice ao g.roots.length c) g.roots.length (((List.range g.roots.length).map (fun i=>((l.length+i:Nat):Int))).map (Value.int .i64)))/\Hid (wr.heap[wo.heap.size]?=some (.cells #[.int .i64 4,.string nm,.int .i64 nu,.slice aa args.length ac] 86))) (fun _ _ i _=>args.length-(intOf i).toNat)
        case atStart=>exact⟨0,Nat.zero_le _,rfl,HLy,HHp,HRo,HX4⟩
        case round=>
         clear HLy HHp HRo HX4 e0 ek n0 n1 n2 n3 b0 b1 h0 p0 p1 p2 p3 ez ey0 ey1 zz0 zz1 zh zm zn m0 zx Hz HX
         obtain⟨k,hka,rfl,hL,hHp,hRo,hX⟩:=hrel
         by_cases hlk:k<args.length
         ·have hki:(k:Int)<(args.length:Int):=by omega
          obtain⟨⟨b0,b1⟩,zz0,zz1⟩:=hL.out.box
          obtain⟨⟨h0,_⟩,zh⟩:=hHp.out.cells
          obtain⟨rb,ro,hra,r0⟩:=(hrk.out wr hL.out.m).at hlk
          have zr:=lt_of_cell r0
          have kn:=hk0k.out _ hL.out
          have hrm:=hargs.out k hlk
          have hrr:=Hm.out _ hrm
          have hTk:=hT1.out k hlk
          have hgn:=HGk.out wr hL.out.m
          have hkT:wj+1+k<T.length:=by omega
          have hms:=hid (mix_set (l:=l) hkT)
          have htr:=HTr.out _ hkT
          have hPx:=plJ_all hP.out hrm
          subst hra
          generalize args.getD k 0=y at *
          obtain⟨xn,rfl⟩:∃xn:Nat,y=(xn:Int):=⟨y.toNat,by omega⟩
          rw[Int.toNat_natCast] at hPx
          have hxn:xn<g.nodes.length:=by omega
          have hxi:(xn:Int)<(g.nodes.length:Int):=by omega
          obtain⟨k0,_⟩:=hL.out.cell hxn
          rw[hPx] at k0
          obtain⟨nb',no',ca,cc,hna,hav,p0,p1,p2,p3,_⟩:=hgn.nd hxn
          injection hna with hna
          injection hna with hna1 hna2 _
          subst hna1 hna2
          have hndk:=hid (fun w' (hm':a_Mod (a_foot ab av) W w')=>(HGk.out w' hm').nd2 hxn hav)
          have hk1k:=hid (fun w' (h':Ly W w' ab av (.slice (some ⟨nb,no,none⟩) g.nodes.length nc) (.slice ra g.roots.length rc) g.nodes.length PL)=>(h'.cell hxn).1)
          rw[hPx] at hk1k
          clear hav
          have zn:=lt_of_cell p0
          have hgd:=Hg.out.node (g.nodes.getD xn nd0) (by simp[List.getD,hxn])
          have hpl:(g.nodes.getD xn nd0).kind≠2->(g.nodes.getD xn nd0).kind≠3->plN g met l.length (xn:Int)<65536:=fun h2 h3=>by
           have hp1:=pos_lt hrm
           have hp2:=want_next (g:=g) (met:=met) hp1
           rw[pos_at hrm,Int.toNat_natCast] at hp2
           have hp3:=sz_pos hgd h2 h3
           unfold plN
           omega
          have hcwe:Hid (T.getD (wj+1+k) 0=cwF ns (g.nodes.getD xn nd0) (plN g met l.length (xn:Int))):=hTk
          have hce:=hid (fun w1 (hbb:Below wr.heap.size wr w1)=>ccell_any (hHp.out.below hbb) (g.nodes.getD xn nd0) ca (g.nodes.getD xn nd0).args.length cc (by have:=good_name hgd;omega) (fun h3=>good_int hgd h3) (plN g met l.length (xn:Int)) hpl)
          rw[←hcwe.out] at hce
          have hla:=hid (fun w1 (hbb:Below wr.heap.size wr w1)=>blay_ok (hHp.out.below hbb).ar (l.length+(wj+1+k)) (T.getD (wj+1+k) 0) (by rw[List.length_append,mix_len (by omega)];omega) htr.1 htr.2.1 (by rw[List.length_append,mix_len (by omega)];exact htr.2.2))
          rw[hms.out] at hla
          clear hgn hrr hPx hgd hTk htr hms hcwe hpl
          generalize T.getD (wj+1+k) 0=x at *
          generalize plN g met l.length (xn:Int)=pl at *
          generalize g.nodes.getD xn nd0=nd at *
          obtain⟨kd,nm',nu',args'⟩:=nd
          dsimp only at p0 p1 p2 p3 hce hndk
          have hpn2:=hpn.out
          have hcast:((l.length+(wj+1+k):Nat):Int)=(pn:Int)+1+(k:Int):=by omega
          rw[hcast] at hla
          have hwr1:IntKind.i64.wrap ((pn:Int)+1)=(pn:Int)+1:=by rw[IntKind.wrap_i64];omega
          have hwr2:IntKind.i64.wrap ((pn:Int)+1+(k:Int))=(pn:Int)+1+(k:Int):=by rw[IntKind.wrap_i64];omega
          clear hcast hpn2
          go_wp2
          go_region_held3 (fun w'=>w'.cell? ⟨hb,0,none⟩=some (.pointer (some ⟨ab,0,none⟩))/\w'.cell? ⟨W.heap.size+1,yn,none⟩=some (.int .i64 (pn:Int))/\w'.cell? ⟨W.heap.size,0,none⟩=some (.slice (some ⟨nb,no,none⟩) g.nodes.length nc)/\w'.cell? ⟨nb,no+xn*4,none⟩=some (.int .i64 kd)/\w'.cell? ⟨nb,no+xn*4+1,none⟩=some (.string nm')/\w'.cell? ⟨nb,no+xn*4+2,none⟩=some (.int .i64 nu')/\w'.cell? ⟨nb,no+xn*4+3,none⟩=some (.slice ca args'.length cc)/\w'.cell? ⟨W.heap.size+1,xn,none⟩=some (.int .i64 (pl:Int))) (first | exact⟨h0,kn,b0,p0,p1,p2,p3,k0⟩ | go_keep)
           (first
            | (go_at_call 93;refine (hce.out _ ?_).mono ?_;exact (Below.refl _ _).drew;rintro e w3 ⟨rfl,hb3⟩;have hb4:=Below.next (Below.refl _ _).drew hb3;have Hb3:=hid hb4;replace h0:=(hb4.cell (p:=⟨hb,0,none⟩) zh).trans h0;replace kn:=(hb4.cell (p:=⟨W.heap.size+1,yn,none⟩) zz1).trans kn;replace b0:=(hb4.cell (p:=⟨W.heap.size,0,none⟩) zz0).trans b0;replace p0:=(hb4.cell (p:=⟨nb,no+xn*4,none⟩) zn).trans p0;replace p1:=(hb4.cell (p:=⟨nb,no+xn*4+1,none⟩) zn).trans p1;replace p2:=(hb4.cell (p:=⟨nb,no+xn*4+2,none⟩) zn).trans p2;replace p3:=(hb4.cell (p:=⟨nb,no+xn*4+3,none⟩) zn).trans p3;replace k0:=(hb4.cell (p:=⟨W.heap.size+1,xn,none⟩) zz1).trans k0;have Hla:=hid (hla.out _ Hb3.out);clear hb3 hb4)
            | (go_at_call 55;refine Hla.out.mono ?_;rintro e w4 ⟨rfl,hu⟩;have HLy:=hid ((hL.out.next Hb3.out).upd hu.mod);have HHp:=hid ((hHp.out.below Hb3.out).words hu);have HRo:=hid (row_keep (row_keep hRo.out (fun q hq=>Hb3.out.block q (hRo.out.lt q hq).2)) (fun q hq=>hu.mod.block q (Nat.lt_of_lt_of_le (hRo.out.lt q hq).2 Hb3.out.size) (fun hx=>by have:=hL.out.f _ hx;have:=(hRo.out.lt q hq).1;omega)));have HX4:=hid ((hu.mod.block _ (Nat.lt_of_lt_of_le (lt_of_block hX.out) Hb3.out.size) (fun hx=>by have:=hL.out.f _ hx;omega)).trans ((Hb3.out.block _ (lt_of_block hX.out)).trans hX.out));replace h0:=HHp.out.cells.1.1;replace kn:=hk0k.out _ HLy.out;replace b0:=HLy.out.box.1.1;obtain⟨p0',p1',p2',p3',_⟩:=hndk.out _ HLy.out.m;replace p0:=p0';replace p1:=p1';replace p2:=p2';replace p3:=p3';replace k0:=hk1k.out _ HLy.out;clear hu))
          clear hL hHp hRo hX
          go_wp2
          go_roundw
          case rel=>exact⟨k+1,by omega,by go_num,HLy,HHp,HRo,HX4⟩
          case measure=>simp[intOf];omega
         ·obtain rfl:k=args.length:=by omega
          have hend:Hid (wj+1+args.length=wantJ g met (j+1)):=show _=_ by
           rw[hst.out,hnl.out]
           omega
          rw[hend.out] at hHp
          go_wp2
          exact⟨⟨j+1,by omega,by go_num,hL,hHp,hRo⟩,by simp[intOf];omega⟩
       ·have hmx:Hid (mixW T l.length (wantJ g met j)=mixW T l.length (wantJ g met (j+1))):=show _=_ by
         rw[hst.out]
         by_cases h1:(g.nodes.getD yn nd0).kind=1
         ·have e1:szN (g.nodes.getD yn nd0)=1:=by unfold szN;rw[if_pos h1]
          rw[e1] at hwn ⊢
          refine mix_skip (by omega) ?_
          have h2:=hTn 0 (by omega)
          rw[Nat.add_zero] at h2
          rw[h2]
          unfold nwX
          rw[Int.toNat_natCast,if_pos h1,hpj]
          rfl
         ·have e1:szN (g.nodes.getD yn nd0)=0:=by unfold szN;rw[if_neg h1,if_neg hk4]
          rw[e1,Nat.add_zero]
        rw[hmx.out] at hHn
        generalize g.nodes.getD yn nd0=nd at *
        obtain⟨kd,nm,nu,args⟩:=nd
        dsimp only at p0 p1 p2 p3 hLn hHn hRn hk4
        have d4:(kd == 4)=false:=by simpa using hk4
        clear hrk hgd hmr hTn hwn hbn hL hHp hRo
        go_wp2
        go_roundw
        case rel=>exact⟨j+1,by omega,by go_num,hLn,hHn,hRn⟩
        case measure=>simp[intOf];omega
      ·obtain rfl:j=met.length:=by omega
       have hmf:Hid (mixW T l.length (wantJ g met met.length)=T):=show _=_ by rw[←hTl];exact mix_full T l.length
       rw[hmf.out] at hHp
       go_wp2
       go_ret
       exact⟨⟨ao,c,rfl,own_base hRo.out (by omega)⟩,hHp.out,hL.out.m⟩
end
end Go.Proofs.YtpkojcfdkkjmcaaGreatDoor
