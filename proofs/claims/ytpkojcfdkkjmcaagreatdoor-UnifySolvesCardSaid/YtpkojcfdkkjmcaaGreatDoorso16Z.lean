/- labelled of package bisim: the classes by labels, as they are found; the lists of their nodes in memory. -/
import Derived.Test.YtpkojcfdkkjmcaaGreatDoorso15Z
import Derived.Test.YtpkojcfdkkjmcaaGreatDoorso13Z
import Derived.Test.YtpkojcfdkkjmcaaGreatDoorso04Z
namespace Go.Proofs.YtpkojcfdkkjmcaaGreatDoor
set_option maxRecDepth 100000
open Go.RowKit Go.Maps
def lv (g:Gf) (n:Nat):Value:=labV (n:Int) (g.nodes.getD n nd0)
theorem lv_iff {g:Gf} {n m:Nat}:lv g n=lv g m↔labE g (n:Int) (m:Int):=by
 unfold lv labV labE Gf.nd
 simp only[Int.toNat_natCast]
 generalize g.nodes.getD n nd0=a
 generalize g.nodes.getD m nd0=b
 constructor
 ·intro h
  injection h with h
  simp only[Array.mk.injEq,List.cons.injEq,Value.int.injEq,true_and,Value.string.injEq,and_true] at h
  obtain⟨h1,h2,h3,h4,h5⟩:=h
  refine⟨h1,h5,h2,by omega,fun e=>?_⟩
  rw[if_pos e,if_pos (by rw[←h1];exact e)] at h4
  exact h4
 ·rintro⟨h1,h2,h3,h4,h5⟩
  rw[h2,h3,h4,h1]
  by_cases e:b.kind=1
  ·rw[if_pos e,if_pos e,h5 (by rw[h1];exact e)]
  ·rw[if_neg e,if_neg e]
theorem good_rng {N:Nat} {n:Nd} (h:goodNd N n=true):(1<=n.kind/\n.kind<=4)/\(-1125899906842624<=n.num/\n.num<=1125899906842624)/\n.args.length<=8:=by
 unfold goodNd at h
 split at h
 ·simp only[Bool.and_eq_true,decide_eq_true_eq] at h
  omega
 ·split at h
  ·simp only[Bool.and_eq_true,decide_eq_true_eq] at h
   omega
  ·split at h
   ·simp only[Bool.and_eq_true,decide_eq_true_eq] at h
    omega
   ·split at h
    ·simp only[Bool.and_eq_true,decide_eq_true_eq] at h
     omega
    ·cases h
theorem label_wf {g:Gf} (hg:Good g) {n:Nat} (hn:n<g.nodes.length) (hS:Sized g):∃kl,keyOf Tryz.prog 283 (lv g n)=some kl:=by
 have hm:g.nodes.getD n nd0∈g.nodes:=by simp[List.getD,hn]
 obtain⟨h1,h2,h3⟩:=good_rng (hg.node _ hm)
 have h4:=hS _ hm
 have h5:=hg.nodes
 unfold lv labV
 generalize g.nodes.getD n nd0=x at h1 h2 h3 h4
 exact label_key _ _ _ _ _ (WalkArith.wf_i64 (by omega)) (WalkArith.wf_i64 (by omega)) (WalkArith.wf_i64 (by omega)) (WalkArith.wf_i64 (by split <;> omega)) (by unfold maxLen;omega)
structure La (g:Gf) (m C:Nat) (cl:Nat->Nat) (D:DataW Unit):Prop where
 lt:∀n,n<m->cl n<C
 same:∀n n',n<m->n'<m->(cl n=cl n'↔lv g n=lv g n')
 sur:∀c,c<C->∃n,n<m/\cl n=c
 has:∀v kl,keyOf Tryz.prog 283 v=some kl->(Maps.has D kl=true↔∃n,n<m/\lv g n=v)
 key:∀n kl,n<m->keyOf Tryz.prog 283 (lv g n)=some kl->D.atKey kl (.lit (.int .i64 0))=.lit (.int .i64 (cl n:Int))
 le:C<=m
 map:Maps.IsMap D
theorem La.start (g:Gf):La g 0 0 (fun _=>0) (.map []):=by
 refine⟨fun _ h=>absurd h (Nat.not_lt_zero _),fun _ _ h=>absurd h (Nat.not_lt_zero _),fun _ h=>absurd h (Nat.not_lt_zero _),fun v kl _=>?_,fun _ _ h=>absurd h (Nat.not_lt_zero _),Nat.le_refl _,⟨[],rfl⟩⟩
 constructor
 ·intro h
  simp[Maps.has] at h
 ·rintro⟨n,h,_⟩
  omega
theorem La.old {g:Gf} {m C:Nat} {cl:Nat->Nat} {D:DataW Unit} (h:La g m C cl D) {kl:Lit} (hk:keyOf Tryz.prog 283 (lv g m)=some kl) (hh:Maps.has D kl=true) {c:Int} (hc:D.atKey kl (.lit (.int .i64 0))=.lit (.int .i64 c)) :
  ∃x:Nat,c=(x:Int)/\x<C/\La g (m+1) C (upd cl m x) D:=by
 obtain⟨n0,hn0,e0⟩:=(h.has _ _ hk).1 hh
 have h1:=h.key n0 kl hn0 (by rw[e0];exact hk)
 rw[hc] at h1
 have hcx:c=(cl n0:Int):=by simpa using h1
 have ho:∀n,n<m->upd cl m (cl n0) n=cl n:=fun n hn=>upd_other _ _ (by omega)
 refine⟨cl n0,hcx,h.lt n0 hn0,fun n hn=>?_,fun n n' hn hn'=>?_,fun c hc=>?_,fun v kl' hk'=>?_,fun n kl' hn hk'=>?_,by have:=h.le;omega,h.map⟩
 ·by_cases e:n=m
  ·rw[e,upd_same]
   exact h.lt n0 hn0
  ·rw[ho n (by omega)]
   exact h.lt n (by omega)
 ·by_cases e:n=m
  ·subst e
   rw[upd_same]
   by_cases e':n'=n
   ·subst e'
    rw[upd_same]
    exact⟨fun _=>rfl,fun _=>rfl⟩
   ·rw[ho n' (by omega),h.same n0 n' hn0 (by omega),e0]
  ·rw[ho n (by omega)]
   by_cases e':n'=m
   ·subst e'
    rw[upd_same,h.same n n0 (by omega) hn0,e0]
   ·rw[ho n' (by omega)]
    exact h.same n n' (by omega) (by omega)
 ·obtain⟨n,hn,e⟩:=h.sur c hc
  exact⟨n,by omega,by rw[ho n hn];exact e⟩
 ·rw[h.has v kl' hk']
  constructor
  ·rintro⟨n,hn,e⟩
   exact⟨n,by omega,e⟩
  ·rintro⟨n,hn,e⟩
   by_cases en:n=m
   ·subst en
    exact⟨n0,hn0,e0.trans e⟩
   ·exact⟨n,by omega,e⟩
 ·by_cases e:n=m
  ·subst e
   rw[upd_same]
   exact h.key n0 kl' hn0 (by rw[e0];exact hk')
  ·rw[ho n (by omega)]
   exact h.key n kl' (by omega) hk'
theorem La.new {g:Gf} {m C:Nat} {cl:Nat->Nat} {D:DataW Unit} (h:La g m C cl D) {kl:Lit} (hk:keyOf Tryz.prog 283 (lv g m)=some kl) (hh:Maps.has D kl=false):La g (m+1) (C+1) (upd cl m C) (D.put kl (.lit (.int .i64 (C:Int)))):=by
 have hno:∀n,n<m->lv g n≠lv g m:=fun n hn e=>by
  have:=(h.has _ _ hk).2 ⟨n,hn,e⟩
  rw[hh] at this
  cases this
 have ho:∀n,n<m->upd cl m C n=cl n:=fun n hn=>upd_other _ _ (by omega)
 have hkl:=labLaw.key hk
 have hne:∀v kl',keyOf Tryz.prog 283 v=some kl'->v≠lv g m->kl'≠kl:=fun v kl' hk' hv e=>hv (labLaw.inj (by rw[←e];exact hk') hk)
 refine⟨fun n hn=>?_,fun n n' hn hn'=>?_,fun c hc=>?_,fun v kl' hk'=>?_,fun n kl' hn hk'=>?_,by have:=h.le;omega,?_⟩
 ·by_cases e:n=m
  ·rw[e,upd_same]
   omega
  ·rw[ho n (by omega)]
   have:=h.lt n (by omega)
   omega
 ·by_cases e:n=m
  ·subst e
   rw[upd_same]
   by_cases e':n'=n
   ·subst e'
    rw[upd_same]
    exact⟨fun _=>rfl,fun _=>rfl⟩
   ·rw[ho n' (by omega)]
    have:=h.lt n' (by omega)
    exact⟨fun e1=>by omega,fun e1=>absurd e1.symm (hno n' (by omega))⟩
  ·rw[ho n (by omega)]
   by_cases e':n'=m
   ·subst e'
    rw[upd_same]
    have:=h.lt n (by omega)
    exact⟨fun e1=>by omega,fun e1=>absurd e1 (hno n (by omega))⟩
   ·rw[ho n' (by omega)]
    exact h.same n n' (by omega) (by omega)
 ·by_cases e:c=C
  ·exact⟨m,by omega,by rw[upd_same,e]⟩
  ·obtain⟨n,hn,e1⟩:=h.sur c (by omega)
   exact⟨n,by omega,by rw[ho n hn];exact e1⟩
 ·by_cases e:v=lv g m
  ·subst e
   obtain rfl:kl=kl':=Option.some.inj (hk.symm.trans hk')
   rw[Maps.has_put_same h.map hkl]
   exact⟨fun _=>⟨m,by omega,rfl⟩,fun _=>rfl⟩
  ·rw[Maps.has_put_other (hne v kl' hk' e),h.has v kl' hk']
   constructor
   ·rintro⟨n,hn,e1⟩
    exact⟨n,by omega,e1⟩
   ·rintro⟨n,hn,e1⟩
    by_cases en:n=m
    ·subst en
     exact absurd e1.symm e
    ·exact⟨n,by omega,e1⟩
 ·by_cases e:n=m
  ·subst e
   obtain rfl:kl=kl':=Option.some.inj (hk.symm.trans hk')
   rw[Maps.atKey_put_same h.map hkl,upd_same]
  ·rw[Maps.atKey_put_other (hne _ kl' hk' (hno n (by omega))),ho n (by omega)]
   exact h.key n kl' (by omega) hk'
 ·obtain⟨es,rfl⟩:=h.map
  exact⟨_,rfl⟩
def mF (cl:Nat->Nat) (m c:Nat):List Nat:=(List.range m).filter (fun n=>decide (cl n=c))
theorem mF_mem {cl:Nat->Nat} {m c n:Nat}:n∈mF cl m c↔n<m/\cl n=c:=by
 unfold mF
 rw[List.mem_filter,List.mem_range,decide_eq_true_eq]
theorem mF_nodup (cl:Nat->Nat) (m c:Nat):(mF cl m c).Nodup:=List.Sublist.nodup List.filter_sublist List.nodup_range
theorem mF_len (cl:Nat->Nat) (m c:Nat):(mF cl m c).length<=m:=fewer (mF_nodup cl m c) (fun _ h=>(mF_mem.1 h).1)
theorem mF_succ (cl:Nat->Nat) (m c x:Nat):mF (upd cl m x) (m+1) c=mF cl m c++(if x=c then [m] else []):=by
 unfold mF
 rw[List.range_succ,List.filter_append]
 congr 1
 ·apply List.filter_congr
  intro n hn
  have:=List.mem_range.1 hn
  rw[upd_other _ _ (by omega)]
 ·simp only[List.filter_cons,List.filter_nil,upd_same,decide_eq_true_eq]
structure Mb (w:World) (B:Nat) (mv:Value) (C:Nat) (vs:Nat->Value) (F:Nat->List Nat):Prop where
 top:w.ownsRow B 36 1 mv C ((List.range C).map vs)
 own:∀c,c<C->w.ownsRow B 3 1 (vs c) (F c).length ((ints (F c)).map (Value.int .i64))
 nd:∀c c',c<C->c'<C->c≠c'->∀p q,(vs c).ownBlock=some p->(vs c').ownBlock=some q->p≠q
theorem Mb.start (w:World) (B:Nat):Mb w B (.slice none 0 0) 0 (fun _=>.slice none 0 0) (fun _=>[]):=
 ⟨World.ownsRow_nil _ _ _ _,fun _ h=>absurd h (Nat.not_lt_zero _),fun _ _ h=>absurd h (Nat.not_lt_zero _)⟩
theorem Mb.congr {w:World} {B C:Nat} {mv:Value} {vs:Nat->Value} {F F':Nat->List Nat} (h:Mb w B mv C vs F) (e:∀c,c<C->F c=F' c):Mb w B mv C vs F':=
 ⟨h.top,fun c hc=>by rw[←e c hc];exact h.own c hc,h.nd⟩
theorem Mb.ty {w:World} {B C:Nat} {mv:Value} {vs:Nat->Value} {F:Nat->List Nat} (h:Mb w B mv C vs F) {q:Nat} (hq:mv.ownBlock=some q):∀c,c<C->(vs c).ownBlock≠some q:=fun c hc e=>by
 obtain⟨c1,h1,_⟩:=own_block_obj h.top hq
 obtain⟨c2,h2,_⟩:=own_block_obj (h.own c hc) e
 rw[h1] at h2
 simp at h2
theorem Mb.keep {w w':World} {B C:Nat} {mv:Value} {vs:Nat->Value} {F:Nat->List Nat} (h:Mb w B mv C vs F) (hk:∀k,(mv.ownBlock=some k∨∃c,c<C/\(vs c).ownBlock=some k)->w'.heap[k]?=w.heap[k]?):Mb w' B mv C vs F:=
 ⟨own_block h.top (fun k e=>hk k (Or.inl e)),fun c hc=>own_block (h.own c hc) (fun k e=>hk k (Or.inr ⟨c,hc,e⟩)),h.nd⟩
theorem Mb.below {w w':World} {B C:Nat} {mv:Value} {vs:Nat->Value} {F:Nat->List Nat} (h:Mb w B mv C vs F) (hb:Below w.heap.size w w'):Mb w' B mv C vs F:=
 h.keep (fun k e=>hb.block k (by
  rcases e with e | ⟨c,hc,e⟩
  ·exact (h.top.lt k e).2
  ·exact ((h.own c hc).lt k e).2))
theorem Mb.cell {w:World} {B C mb mc c:Nat} {vs:Nat->Value} {F:Nat->List Nat} (h:Mb w B (.slice (some ⟨mb,0,none⟩) C mc) C vs F) (hc:c<C):w.cell? ⟨mb,c,none⟩=some (vs c)/\w.frozen? ⟨mb,c,none⟩=false:=by
 refine⟨?_,?_⟩
 ·have:=h.top.cells (g:=mb) rfl c (vs c) (by simp[hc])
  rw[Addr.add_lit,Nat.zero_add] at this
  exact this
 ·obtain⟨cur,h1,_⟩:=own_block_obj h.top (q:=mb) rfl
  simp[World.frozen?,h1]
theorem Mb.form {w:World} {B C:Nat} {mv:Value} {vs:Nat->Value} {F:Nat->List Nat} (h:Mb w B mv C vs F) (hC:0<C):∃mb mc,mv=.slice (some ⟨mb,0,none⟩) C mc:=by
 obtain⟨q,c,h1,_⟩:=(own_form h.top).resolve_left (fun h=>by omega)
 exact⟨q,c,h1⟩
theorem Mb.far {w w2:World} {B C mb mc c:Nat} {o:Obj} {vs:Nat->Value} {F:Nat->List Nat} (h:Mb w B (.slice (some ⟨mb,0,none⟩) C mc) C vs F) (hc:c<C) (hgr:(w.alloc o).grownBy w2 (vs c).ownBlock):w2.cell? ⟨mb,c,none⟩=some (vs c)/\w2.frozen? ⟨mb,c,none⟩=false:=by
 have hmb:=(h.top.lt mb rfl).2
 have h1:w2.heap[mb]?=w.heap[mb]?:=by rw[hgr.block mb (by simp;omega) (fun e=>h.ty rfl c hc e.symm),Below.heap_alloc _ _ _ hmb]
 obtain⟨h2,h3⟩:=h.cell hc
 refine⟨by rw[World.cell?_of_block (a:=⟨mb,c,none⟩) h1];exact h2,?_⟩
 simpa[World.frozen?,h1] using h3
theorem Mb.push {w w2:World} {B C g cap:Nat} {o:Obj} {mv:Value} {vs:Nat->Value} {F:Nat->List Nat} (h:Mb w B mv C vs F) (hown:w2.ownsRow B 36 1 (.slice (some ⟨g,0,none⟩) (C+1) cap) (C+1) ((List.range C).map vs++[.slice none 0 0])) (hgr:(w.alloc o).grownBy w2 mv.ownBlock) :
  Mb w2 B (.slice (some ⟨g,0,none⟩) (C+1) cap) (C+1) (upd vs C (.slice none 0 0)) (upd F C []):=by
 have hvs:∀c,c<C->upd vs C (.slice none 0 0) c=vs c:=fun c hc=>upd_other _ _ (by omega)
 refine⟨?_,fun c hc=>?_,fun c c' hc hc' hne p q hp hq=>?_⟩
 ·have e:(List.range (C+1)).map (upd vs C (.slice none 0 0))=(List.range C).map vs++[.slice none 0 0]:=by
   rw[List.range_succ,List.map_append]
   congr 1
   ·apply List.map_congr_left
    intro c hc
    exact hvs c (List.mem_range.1 hc)
   ·simp[upd]
  rw[e]
  exact hown
 ·by_cases e:c=C
  ·subst e
   rw[upd_same,upd_same]
   exact World.ownsRow_nil _ _ _ _
  ·have hc':c<C:=by omega
   rw[hvs c hc',upd_other _ _ e]
   refine own_block (h.own c hc') (fun k ek=>?_)
   have hl:=((h.own c hc').lt k ek).2
   rw[hgr.block k (by simp;omega) (fun e'=>h.ty e'.symm c hc' ek),Below.heap_alloc _ _ _ hl]
 ·by_cases e:c=C
  ·subst e
   rw[upd_same] at hp
   cases hp
  ·by_cases e':c'=C
   ·subst e'
    rw[upd_same] at hq
    cases hq
   ·rw[hvs c (by omega)] at hp
    rw[hvs c' (by omega)] at hq
    exact h.nd c c' (by omega) (by omega) hne p q hp hq
theorem range_set (C t:Nat) (vs:Nat->Value) (x:Value):((List.range C).map vs).set t x=(List.range C).map (upd vs t x):=by
 apply List.ext_getElem
 ·simp
 ·intro i h1 h2
  simp only[List.getElem_set,List.getElem_map,List.getElem_range,upd]
  by_cases e:t=i
  ·rw[if_pos e,if_pos e.symm]
  ·rw[if_neg e,if_neg (fun e'=>e e'.symm)]
theorem Mb.add {w w2:World} {B C c n g cap mb mc:Nat} {o:Obj} {vs:Nat->Value} {F:Nat->List Nat} (h:Mb w B (.slice (some ⟨mb,0,none⟩) C mc) C vs F) (hc:c<C)
  (hown:w2.ownsRow B 3 1 (.slice (some ⟨g,0,none⟩) ((F c).length+1) cap) ((F c).length+1) ((ints (F c)).map (Value.int .i64)++[.int .i64 (n:Int)])) (hgr:(w.alloc o).grownBy w2 (vs c).ownBlock) (hat:(vs c).ownBlock=some g∨g=w.heap.size+1) :
  Mb (w2.setCell ⟨mb,c,none⟩ (.slice (some ⟨g,0,none⟩) ((F c).length+1) cap)) B (.slice (some ⟨mb,0,none⟩) C mc) C (upd vs c (.slice (some ⟨g,0,none⟩) ((F c).length+1) cap)) (upd F c (F c++[n])):=by
 have hold:∀q,q<w.heap.size->(vs c).ownBlock≠some q->w2.heap[q]?=w.heap[q]?:=fun q hq hne=>by
  rw[hgr.block q (by simp;omega) (fun e=>hne e.symm),Below.heap_alloc _ _ _ hq]
 have hmb:=(h.top.lt mb rfl).2
 have htop:w2.ownsRow B 36 1 (.slice (some ⟨mb,0,none⟩) C mc) C ((List.range C).map vs):=own_block h.top (fun k e=>by
  have e':mb=k:=by simpa[Value.ownBlock] using e
  subst e'
  exact hold mb hmb (h.ty rfl c hc))
 have hgm:g≠mb:=fun e=>by
  obtain⟨c1,h1,_⟩:=own_block_obj htop (q:=mb) rfl
  obtain⟨c2,h2,_⟩:=own_block_obj hown (q:=g) rfl
  rw[e,h1] at h2
  simp at h2
 have hnew:∀c' p,c'<C->c'≠c->(vs c').ownBlock=some p->p≠g:=fun c' p hc' hne e e'=>by
  rcases hat with h1 | h1
  ·exact h.nd c' c hc' hc hne p g e h1 e'
  ·have:=((h.own c' hc').lt p e).2
   omega
 refine⟨?_,fun c' hc'=>?_,fun c1 c2 h1 h2 hne p q hp hq=>?_⟩
 ·rw[←range_set]
  exact own_set htop _
 ·by_cases e:c'=c
  ·subst e
   rw[upd_same,upd_same,ints_snoc,List.map_append,List.length_append,List.length_singleton]
   refine own_block hown (fun k ek=>Below.heap_setCell _ _ _ _ (fun e'=>hgm ?_))
   have e1:g=k:=by simpa[Value.ownBlock] using ek
   exact e1.trans e'
  ·rw[upd_other _ _ e,upd_other _ _ e]
   refine own_block (h.own c' hc') (fun k ek=>?_)
   have hl:=((h.own c' hc').lt k ek).2
   rw[Below.heap_setCell _ _ _ _ (fun e'=>h.ty rfl c' hc' (by
    have e2:k=mb:=e'
    rw[←e2]
    exact ek))]
   exact hold k hl (fun e'=>h.nd c' c hc' hc e k k ek e' rfl)
 ·by_cases e1:c1=c
  ·subst e1
   rw[upd_same] at hp
   rw[upd_other _ _ (fun e=>hne e.symm)] at hq
   have ep:g=p:=by simpa[Value.ownBlock] using hp
   exact fun e=>hnew c2 q h2 (fun e=>hne e.symm) hq (by omega)
  ·rw[upd_other _ _ e1] at hp
   by_cases e2:c2=c
   ·subst e2
    rw[upd_same] at hq
    have eq':g=q:=by simpa[Value.ownBlock] using hq
    exact fun e=>hnew c1 p h1 e1 hp (by omega)
   ·rw[upd_other _ _ e2] at hq
    exact h.nd c1 c2 h1 h2 hne p q hp hq
end Go.Proofs.YtpkojcfdkkjmcaaGreatDoor
namespace Go.Proofs.YtpkojcfdkkjmcaaGreatDoor
set_option maxRecDepth 100000
open Go.RowKit
theorem infoIS:(Tryz.prog.info? 36).map (fun i=>(i.zero,i.size,i.bytes))=some (some (.slice none 0 0),1,24):=by kernel_rfl
theorem infoISS:(Tryz.prog.info? 272).map (fun i=>(i.zero,i.size,i.bytes))=some (some (.slice none 0 0),1,24):=by kernel_rfl
def rowV (N:Nat) (vs:Nat->Value):Array Value:=(Array.range N).map vs
theorem rowV_at {N a:Nat} (vs:Nat->Value) (h:a<N):(rowV N vs)[a]?=some (vs a):=by simp[rowV,h]
theorem rowV_set (N a:Nat) (vs:Nat->Value) (x:Value):(rowV N vs).setIfInBounds a x=rowV N (upd vs a x):=by
 unfold rowV
 apply Array.ext
 ·simp
 ·intro i h1 h2
  have hi:i<(Array.map vs (Array.range N)).size:=by simpa using h1
  rw[Array.getElem_setIfInBounds hi]
  simp only[Array.getElem_map,Array.getElem_range,upd]
  by_cases e:a=i
  ·rw[if_pos e,if_pos e.symm]
  ·rw[if_neg e,if_neg (fun e'=>e e'.symm)]
theorem made_rows (N:Nat):madeCells #[.slice none 0 0] N=rowV N (fun _=>.slice none 0 0):=by
 apply Array.ext
 ·simp[size_madeCells,rowV]
 ·intro i h1 h2
  simp[madeCells,rowV,Nat.mod_one]
theorem make_rows (N:Nat) (hN:N<=5000) (w:World) :
  (Instr.makeSlice 272 (.int .i64 (N:Int)) (.int .i64 (N:Int))).run Tryz.prog w=.ok (.slice (some ⟨w.heap.size,0,none⟩) N N) (w.alloc (.cells (rowV N (fun _=>.slice none 0 0)) 36)):=by
 obtain⟨i0,hi,hz0,hz1,hz2⟩:=info_parts infoIS
 have:=run_make (P:=Tryz.prog) w 272 36 i0 (.slice none 0 0) Tryz.underlying272 hi hz0 .i64 .i64 (N:Int) (N:Int) (by omega) (by omega) (by rw[hz2];omega) (by omega)
 rw[this,hz1]
 simp only[Int.toNat_natCast,Nat.mul_one]
 rw[←made_rows]
 rfl
theorem make_tops (w:World) :
  (Instr.makeSlice 270 (.int .i64 8) (.int .i64 8)).run Tryz.prog w=.ok (.slice (some ⟨w.heap.size,0,none⟩) 8 8) (w.alloc (.cells (rowV 8 (fun _=>.slice none 0 0)) 272)):=by
 obtain⟨i0,hi,hz0,hz1,hz2⟩:=info_parts infoISS
 have:=run_make (P:=Tryz.prog) w 270 272 i0 (.slice none 0 0) Tryz.underlying270 hi hz0 .i64 .i64 8 8 (by omega) (by omega) (by rw[hz2];omega) (by omega)
 rw[this,hz1]
 rw[←made_rows]
 rfl
def usrF (l:List Nd) (k:Nat) (a:Int) (m:Nat):List Nat:=(List.range m).filter (fun n=>decide (k<(l.getD n nd0).args.length) && decide ((l.getD n nd0).args.getD k 0=a))
theorem usrF_succ (l:List Nd) (k:Nat) (a:Int) (m:Nat):usrF l k a (m+1)=usrF l k a m++(if k<(l.getD m nd0).args.length/\(l.getD m nd0).args.getD k 0=a then [m] else []):=by
 unfold usrF
 rw[List.range_succ,List.filter_append]
 congr 1
 by_cases h:k<(l.getD m nd0).args.length/\(l.getD m nd0).args.getD k 0=a
 ·rw[if_pos h]
  simp only[List.filter_cons,List.filter_nil,h.1,h.2,decide_true,Bool.and_self,if_true]
 ·rw[if_neg h]
  have:(decide (k<(l.getD m nd0).args.length) && decide ((l.getD m nd0).args.getD k 0=a))=false:=by
   rw[Bool.and_eq_false_iff]
   by_cases h1:k<(l.getD m nd0).args.length
   ·exact Or.inr (by simpa using fun h2=>h ⟨h1,h2⟩)
   ·exact Or.inl (by simpa using h1)
  simp only[List.filter_cons,List.filter_nil,this]
  rfl
theorem usrF_mem {l:List Nd} {k m n:Nat} {a:Int}:n∈usrF l k a m↔n<m/\k<(l.getD n nd0).args.length/\(l.getD n nd0).args.getD k 0=a:=by
 unfold usrF
 rw[List.mem_filter,List.mem_range,Bool.and_eq_true,decide_eq_true_eq,decide_eq_true_eq]
theorem usrF_nodup (l:List Nd) (k:Nat) (a:Int) (m:Nat):(usrF l k a m).Nodup:=List.Sublist.nodup List.filter_sublist List.nodup_range
theorem usrF_len (l:List Nd) (k:Nat) (a:Int) (m:Nat):(usrF l k a m).length<=m:=fewer (usrF_nodup l k a m) (fun _ h=>(usrF_mem.1 h).1)
def stF (l:List Nd) (m j k:Nat) (a:Nat):List Nat:=if k<j then usrF l k (a:Int) (m+1) else usrF l k (a:Int) m
structure Ub (w:World) (B ub N:Nat) (b:Nat->Nat) (vs:Nat->Nat->Value) (F:Nat->Nat->List Nat):Prop where
 top:w.heap[ub]?=some (.cells (rowV 8 (fun k=>.slice (some ⟨b k,0,none⟩) N N)) 272 (0,0))
 row:∀k,k<8->w.heap[b k]?=some (.cells (rowV N (vs k)) 36 (0,0))
 own:∀k a,k<8->a<N->w.ownsRow B 3 1 (vs k a) (F k a).length ((ints (F k a)).map (Value.int .i64))
 bnd:∀k k',k<8->k'<8->k≠k'->b k≠b k'
 nd:∀k a k' a',k<8->a<N->k'<8->a'<N->(k≠k'∨a≠a')->∀p q,(vs k a).ownBlock=some p->(vs k' a').ownBlock=some q->p≠q
 ge:B<=ub/\∀k,k<8->B<=b k
theorem Ub.congr {w:World} {B ub N:Nat} {b:Nat->Nat} {vs:Nat->Nat->Value} {F F':Nat->Nat->List Nat} (h:Ub w B ub N b vs F) (e:∀k a,k<8->a<N->F k a=F' k a):Ub w B ub N b vs F':=
 ⟨h.top,h.row,fun k a hk ha=>by rw[←e k a hk ha];exact h.own k a hk ha,h.bnd,h.nd,h.ge⟩
theorem Ub.keep {w w':World} {B ub N:Nat} {b:Nat->Nat} {vs:Nat->Nat->Value} {F:Nat->Nat->List Nat} (h:Ub w B ub N b vs F) (hb:Below w.heap.size w w'):Ub w' B ub N b vs F:=
 ⟨by rw[hb.block ub (lt_of_block h.top)];exact h.top,fun k hk=>by rw[hb.block _ (lt_of_block (h.row k hk))];exact h.row k hk,fun k a hk ha=>own_below (h.own k a hk ha) hb,h.bnd,h.nd,h.ge⟩
theorem Ub.far {w w2:World} {B ub N k a:Nat} {o:Obj} {b:Nat->Nat} {vs:Nat->Nat->Value} {F:Nat->Nat->List Nat} (h:Ub w B ub N b vs F) (hk:k<8) (ha:a<N) (hgr:(w.alloc o).grownBy w2 (vs k a).ownBlock):w2.cell? ⟨b k,a,none⟩=some (vs k a)/\w2.frozen? ⟨b k,a,none⟩=false/\w2.cell? ⟨ub,k,none⟩=some (.slice (some ⟨b k,0,none⟩) N N):=by
 have h1:w2.heap[b k]?=some (.cells (rowV N (vs k)) 36 (0,0)):=by
  have hl:=lt_of_block (h.row k hk)
  rw[hgr.block (b k) (by simp;omega) (fun e=>?_),Below.heap_alloc _ _ _ hl]
  ·exact h.row k hk
  ·obtain⟨cur,h1,_⟩:=own_block_obj (h.own k a hk ha) e.symm
   rw[h.row k hk] at h1
   simp at h1
 have h2:w2.heap[ub]?=some (.cells (rowV 8 (fun k=>.slice (some ⟨b k,0,none⟩) N N)) 272 (0,0)):=by
  have hl:=lt_of_block h.top
  rw[hgr.block ub (by simp;omega) (fun e=>?_),Below.heap_alloc _ _ _ hl]
  ·exact h.top
  ·obtain⟨cur,h1,_⟩:=own_block_obj (h.own k a hk ha) e.symm
   rw[h.top] at h1
   simp at h1
 refine⟨?_,by simp[World.frozen?,h1],?_⟩
 ·rw[cell_of_row w2 _ a _ _ _ h1]
  exact rowV_at _ ha
 ·rw[cell_of_row w2 _ k _ _ _ h2]
  exact rowV_at _ hk
theorem Ub.push {w w2:World} {B ub N k a n g cap:Nat} {o:Obj} {b:Nat->Nat} {vs:Nat->Nat->Value} {F:Nat->Nat->List Nat} (h:Ub w B ub N b vs F) (hk:k<8) (ha:a<N)
  (hown:w2.ownsRow B 3 1 (.slice (some ⟨g,0,none⟩) ((F k a).length+1) cap) ((F k a).length+1) ((ints (F k a)).map (Value.int .i64)++[.int .i64 (n:Int)])) (hgr:(w.alloc o).grownBy w2 (vs k a).ownBlock) (hat:(vs k a).ownBlock=some g∨g=w.heap.size+1) :
  Ub (w2.setCell ⟨b k,a,none⟩ (.slice (some ⟨g,0,none⟩) ((F k a).length+1) cap)) B ub N b (upd vs k (upd (vs k) a (.slice (some ⟨g,0,none⟩) ((F k a).length+1) cap))) (upd F k (upd (F k) a (F k a++[n]))):=by
 have hty:∀k' a' p,k'<8->a'<N->(vs k' a').ownBlock=some p->∀cs T,w.heap[p]?=some (.cells cs T (0,0))->T=3:=fun k' a' p hk' ha' e cs T hc=>by
  obtain⟨cur,h1,_⟩:=own_block_obj (h.own k' a' hk' ha') e
  rw[hc] at h1
  simp at h1
  exact h1.2
 have hold:∀q,q<w.heap.size->(vs k a).ownBlock≠some q->w2.heap[q]?=w.heap[q]?:=fun q hq hne=>by
  rw[hgr.block q (by simp;omega) (fun e=>hne e.symm),Below.heap_alloc _ _ _ hq]
 have htop:w2.heap[ub]?=some (.cells (rowV 8 (fun k=>.slice (some ⟨b k,0,none⟩) N N)) 272 (0,0)):=by
  rw[hold ub (lt_of_block h.top) (fun e=>absurd (hty k a ub hk ha e _ _ h.top) (by decide))]
  exact h.top
 have hrow:∀k',k'<8->w2.heap[b k']?=some (.cells (rowV N (vs k')) 36 (0,0)):=fun k' hk'=>by
  rw[hold _ (lt_of_block (h.row k' hk')) (fun e=>absurd (hty k a _ hk ha e _ _ (h.row k' hk')) (by decide))]
  exact h.row k' hk'
 have hub:ub≠b k:=fun e=>by
  have h1:=h.top
  rw[e,h.row k hk] at h1
  simp at h1
 have hgb:g≠b k:=fun e=>by
  obtain⟨cur,h1,_⟩:=own_block_obj hown (q:=g) rfl
  rw[e,hrow k hk] at h1
  simp at h1
 have hnew:∀k' a' p,k'<8->a'<N->(k'≠k∨a'≠a)->(vs k' a').ownBlock=some p->p≠g:=fun k' a' p hk' ha' hne e e'=>by
  rcases hat with h1 | h1
  ·exact h.nd k' a' k a hk' ha' hk ha hne p g e h1 e'
  ·have:=((h.own k' a' hk' ha').lt p e).2
   omega
 have us:∀k' a',k'=k->a'=a->upd vs k (upd (vs k) a (.slice (some ⟨g,0,none⟩) ((F k a).length+1) cap)) k' a'=.slice (some ⟨g,0,none⟩) ((F k a).length+1) cap:=fun k' a' e1 e2=>by
  subst e1 e2
  rw[upd_same,upd_same]
 have uo:∀k' a',(k'≠k∨a'≠a)->upd vs k (upd (vs k) a (.slice (some ⟨g,0,none⟩) ((F k a).length+1) cap)) k' a'=vs k' a':=fun k' a' e=>by
  by_cases e1:k'=k
  ·subst e1
   rw[upd_same,upd_other _ _ (e.resolve_left (fun h=>h rfl))]
  ·rw[upd_other _ _ e1]
 have fo:∀k' a',(k'≠k∨a'≠a)->upd F k (upd (F k) a (F k a++[n])) k' a'=F k' a':=fun k' a' e=>by
  by_cases e1:k'=k
  ·subst e1
   rw[upd_same,upd_other _ _ (e.resolve_left (fun h=>h rfl))]
  ·rw[upd_other _ _ e1]
 refine⟨?_,fun k' hk'=>?_,fun k' a' hk' ha'=>?_,h.bnd,fun k1 a1 k2 a2 hk1 ha1 hk2 ha2 hne p q hp hq=>?_,h.ge⟩
 ·rw[Below.heap_setCell _ _ _ _ hub]
  exact htop
 ·by_cases e:k'=k
  ·subst e
   rw[upd_same,←rowV_set]
   exact heap_setCell_same w2 _ a _ _ _ (hrow k' hk')
  ·rw[upd_other _ _ e,Below.heap_setCell _ _ _ _ (h.bnd k' k hk' hk e)]
   exact hrow k' hk'
 ·by_cases e:k'=k/\a'=a
  ·obtain⟨e1,e2⟩:=e
   rw[us k' a' e1 e2]
   subst e1 e2
   rw[upd_same,upd_same,ints_snoc,List.map_append,List.length_append,List.length_singleton]
   refine own_block hown (fun p e=>Below.heap_setCell _ _ _ _ (fun e'=>hgb ?_))
   have e1:g=p:=by simpa[Value.ownBlock] using e
   exact e1.trans e'
  ·have e':k'≠k∨a'≠a:=by
    by_cases e1:k'=k
    ·exact Or.inr (fun e2=>e ⟨e1,e2⟩)
    ·exact Or.inl e1
   rw[uo k' a' e',fo k' a' e']
   refine own_block (h.own k' a' hk' ha') (fun p ep=>?_)
   have hp:=((h.own k' a' hk' ha').lt p ep).2
   rw[Below.heap_setCell _ _ _ _ (fun e2=>absurd (hty k' a' p hk' ha' ep _ _ (by
    have e3:p=b k:=e2
    rw[e3]
    exact h.row k hk)) (by decide))]
   exact hold p hp (fun e2=>h.nd k' a' k a hk' ha' hk ha e' p p ep e2 rfl)
 ·by_cases e1:k1=k/\a1=a
  ·rw[us k1 a1 e1.1 e1.2] at hp
   have ep:g=p:=by simpa[Value.ownBlock] using hp
   have hne2:k2≠k∨a2≠a:=by
    rcases hne with h1 | h1
    ·exact Or.inl (fun e=>h1 (by rw[e1.1,e]))
    ·exact Or.inr (fun e=>h1 (by rw[e1.2,e]))
   rw[uo k2 a2 hne2] at hq
   exact fun e=>hnew k2 a2 q hk2 ha2 hne2 hq (by omega)
  ·have e1':k1≠k∨a1≠a:=by
    by_cases e2:k1=k
    ·exact Or.inr (fun e3=>e1 ⟨e2,e3⟩)
    ·exact Or.inl e2
   rw[uo k1 a1 e1'] at hp
   by_cases e2:k2=k/\a2=a
   ·rw[us k2 a2 e2.1 e2.2] at hq
    have eq':g=q:=by simpa[Value.ownBlock] using hq
    exact fun e=>hnew k1 a1 p hk1 ha1 e1' hp (by omega)
   ·have e2':k2≠k∨a2≠a:=by
     by_cases e3:k2=k
     ·exact Or.inr (fun e4=>e2 ⟨e3,e4⟩)
     ·exact Or.inl e3
    rw[uo k2 a2 e2'] at hq
    exact h.nd k1 a1 k2 a2 hk1 ha1 hk2 ha2 hne p q hp hq
structure U1 (W w:World) (N k:Nat):Prop where
 b:Below W.heap.size W w
 top:w.heap[W.heap.size]?=some (.cells (rowV 8 (fun j=>if j<k then .slice (some ⟨W.heap.size+1+j,0,none⟩) N N else .slice none 0 0)) 272 (0,0))
 row:∀j,j<k->w.heap[W.heap.size+1+j]?=some (.cells (rowV N (fun _=>.slice none 0 0)) 36 (0,0))
 size:w.heap.size=W.heap.size+1+k
theorem U1.start (W:World) (N:Nat):U1 W (W.alloc (.cells (rowV 8 (fun _=>.slice none 0 0)) 272)) N 0:=by
 refine⟨below_alloc W _,?_,fun j hj=>absurd hj (Nat.not_lt_zero _),by simp⟩
 rw[heap_alloc_new]
 simp
theorem U1.step {W w:World} {N k:Nat} (h:U1 W w N k):U1 W ((w.alloc (.cells (rowV N (fun _=>.slice none 0 0)) 36)).setCell ⟨W.heap.size,k,none⟩ (.slice (some ⟨w.heap.size,0,none⟩) N N)) N (k+1):=by
 have hs:=h.size
 refine⟨(h.b.alloc h.b.size _).setCell (Nat.le_refl _) _,?_,fun j hj=>?_,by simp;omega⟩
 ·have h1:(w.alloc (.cells (rowV N (fun _=>.slice none 0 0)) 36)).heap[W.heap.size]?=some (.cells (rowV 8 (fun j=>if j<k then .slice (some ⟨W.heap.size+1+j,0,none⟩) N N else .slice none 0 0)) 272 (0,0)):=by
   rw[Below.heap_alloc _ _ _ (by omega)]
   exact h.top
  rw[heap_setCell_same _ _ k _ _ _ h1,rowV_set]
  congr 3
  funext j
  unfold upd
  dsimp only
  by_cases e:j=k
  ·rw[if_pos e,if_pos (by omega),e,hs]
  ·rw[if_neg e]
   by_cases e1:j<k
   ·rw[if_pos e1,if_pos (by omega)]
   ·rw[if_neg e1,if_neg (by omega)]
 ·rw[Below.heap_setCell _ _ _ _ (by show W.heap.size+1+j≠W.heap.size;omega)]
  by_cases e:j=k
  ·rw[e,←hs]
   exact heap_alloc_new w _
  ·rw[Below.heap_alloc _ _ _ (by omega)]
   exact h.row j (by omega)
theorem U1.last {W w:World} {N:Nat} (h:U1 W w N 8):Ub w W.heap.size W.heap.size N (fun k=>W.heap.size+1+k) (fun _ _=>.slice none 0 0) (fun _ _=>[]):=by
 refine⟨?_,fun k hk=>h.row k hk,fun k a _ _=>World.ownsRow_nil _ _ _ _,fun k k' _ _ hne=>by omega,fun _ _ _ _ _ _ _ _ _ p q hp _=>by simp[Value.ownBlock] at hp,Nat.le_refl _,fun k _=>by omega⟩
 rw[h.top]
 congr 2
 unfold rowV
 apply Array.map_congr_left
 intro j hj
 have:=Array.mem_range.1 hj
 rw[if_pos this]
end Go.Proofs.YtpkojcfdkkjmcaaGreatDoor
