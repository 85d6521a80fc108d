/- Check of package graph, at every graph. -/
import Derived.Deep.AppendLies
import Derived.Laws.MakeOwn
import Derived.Deep.RegionHeld3
import Derived.Test.YtbfbkmkjcekpaaaGreatDoorow03Z
namespace Go.Proofs.YtbfbkmkjcekpaaaGreatDoor
set_option maxRecDepth 100000
open Go.RowKit
set_option maxHeartbeats 1000000 in
theorem index_nodes (f:Nat) (cb:Array Value) (eg:∀args w,(callFunc f args).run Tryz.prog w=.ok (.enter f args) w) (v:Value) (l:List Nd) (p:Nd->Bool) (W:World) (hl:l.length<=5000) (hv:Rn W v l)
  (hs:∀n av w,n∈l->Below W.heap.size W w->Ri w av n.args->Calls Tryz.prog f (#[.agg #[.int .i64 n.kind,.string n.name,.int .i64 n.num,av]]++cb) w fun e w'=>e=.returned (.bool (p n))/\Below w.heap.size w w') :
  Calls Tryz.prog 102 #[v,.func (.func f) #[] cb] W fun e w'=>e=.returned (.int .i64 (ixOf p l))/\Below W.heap.size W w':=by
 obtain⟨ao,c,rfl,hr⟩:=hv
 go_enter Tryz.func102,Tryz.ntmps102
 go_wp2
 go_loopw [5,8] (fun _ i wr=>∃k:Nat,k<=l.length/\i=.int .i64 k/\Hid (Below W.heap.size W wr)/\Hid (∀j,j<k->p (l.getD j nd0)=false)) (fun _ i _=>l.length-(intOf i).toNat)
 case atStart=>exact⟨0,Nat.zero_le _,rfl,Below.refl _ _,fun j hj=>absurd hj (Nat.not_lt_zero _)⟩
 case round=>
  obtain⟨k,hk,rfl,hI,hp⟩:=hrel
  by_cases hlt:k<l.length
  ·obtain⟨b,o,av,rfl,hN⟩:=hr k hlt
   obtain⟨c0,c1,c2,c3,hA⟩:=hN.below hI.out
   have hcall:=hs (l.getD k nd0) av wr (by simp[List.getD,hlt]) hI.out hA
   cases hq:p (l.getD k nd0) with
   | true=>
    have hq':=hid (ixOf_hit nd0 p l k hlt hp.out hq)
    rw[hq] at hcall
    clear hq hs hr hA hN
    generalize l.getD k nd0=x at c0 c1 c2 c3 hcall
    obtain⟨kind,name,num,args⟩:=x
    dsimp only at c0 c1 c2 c3 hcall
    go_wp2_with (go_at_fn f;refine hcall.mono ?_;rintro e w' ⟨rfl,hb⟩)
    go_ret
    exact⟨ret_int hq'.out.symm,Below.next hI.out hb⟩
   | false=>
    have hq':Hid (∀j,j<k+1->p (l.getD j nd0)=false):=fun j hj=>by
     rcases Nat.lt_or_eq_of_le (Nat.le_of_lt_succ hj) with h | h
     ·exact hp.out j h
     ·subst h;exact hq
    rw[hq] at hcall
    clear hq hs hr hA hN
    generalize l.getD k nd0=x at c0 c1 c2 c3 hcall
    obtain⟨kind,name,num,args⟩:=x
    dsimp only at c0 c1 c2 c3 hcall
    go_wp2_with (go_at_fn f;refine hcall.mono ?_;rintro e w' ⟨rfl,hb⟩)
    go_roundw
    case rel=>exact⟨k+1,by omega,congrArg (Value.int .i64) (by omega),Below.next hI.out hb,hq'⟩
    case measure=>simp[intOf];omega
  ·have hm:=hid (ixOf_miss nd0 p l (fun j hj=>hp.out j (by omega)))
   go_wp2
   go_ret
   exact⟨ret_int hm.out.symm,hI.out⟩
def Sized (g:Gf):Prop:=∀n∈g.nodes,n.name.size<=9223372036854775807
theorem index_bad {w:World} {f v:Value} {B:Nat} {l:List Nd} (hf:Strange w f l.length) (hB:w.cell? ⟨B,0,none⟩=some f) (hv:Rn w v l) (hl:l.length<=5000) (hs:∀n∈l,n.name.size<=9223372036854775807) :
  Calls Tryz.prog 102 #[v,.func (.func 100) #[] #[.pointer (some ⟨B,0,none⟩)]] w fun e w'=>e=.returned (.int .i64 (ixOf (fun n=>!goodNd l.length n) l))/\Below w.heap.size w w':=
 index_nodes _ _ bad_eg v l (fun n=>!goodNd l.length n) w hl hv (fun n av w1 hn hb ha=>bad_any (hf.below hb) (by rw[hb.cell (p:=⟨B,0,none⟩) (lt_of_cell hB)];exact hB) ha (hs n hn))
set_option maxHeartbeats 2000000 in
theorem check_any {W:World} {nv rv:Value} {g:Gf} (hG:Gr W nv rv g) (hS:Sized g) :
  Calls Tryz.prog 69 #[.agg #[nv,rv]] W fun e w'=>(∃ev,e=.returned ev/\Er w' ev (one (chk g)))/\Below W.heap.size W w':=by
 obtain⟨nodes,roots⟩:=g
 obtain⟨hn,hr⟩:=hG
 dsimp only at hn hr
 have hn':=hn
 have hr':=hr
 obtain⟨na,nc,rfl,_⟩:=hn'
 obtain⟨ra,rc,rfl,_⟩:=hr'
 by_cases h1:4096<nodes.length
 ·have hC:=hid (show one (chk ⟨nodes,roots⟩)=[(41,(nodes.length:Int))] by simp[chk,h1,one])
  have h1':(4096:Int)<(nodes.length:Int):=by omega
  clear hn hr hS
  go_enter Tryz.func69,Tryz.ntmps69
  go_wp2_with (go_at_call 98;refine (fault_er _ _ (by decide) _).mono ?_;rintro e w' ⟨⟨ev,b,rfl,rfl,hE⟩,hb⟩)
  go_ret
  rw[hC.out]
  exact⟨⟨_,rfl,hE⟩,Below.next (below_alloc _ _) hb⟩
 ·by_cases h2:4096<roots.length
  ·have hC:=hid (show one (chk ⟨nodes,roots⟩)=[(42,(roots.length:Int))] by simp[chk,h1,h2,one])
   have h2':(4096:Int)<(roots.length:Int):=by omega
   clear hn hr hS
   go_enter Tryz.func69,Tryz.ntmps69
   go_wp2_with (go_at_call 98;refine (fault_er _ _ (by decide) _).mono ?_;rintro e w' ⟨⟨ev,b,rfl,rfl,hE⟩,hb⟩)
   go_ret
   rw[hC.out]
   exact⟨⟨_,rfl,hE⟩,Below.next (below_alloc _ _) hb⟩
  ·have hmf:∀(fn:Fn) (first cap:Array Value) (w:World),(Instr.makeFunc fn first cap).run Tryz.prog w=.ok (.func fn first cap) w:=fun _ _ _ _=>rfl
   have hb2:Below W.heap.size W ((W.alloc (Obj.cells #[.slice na nodes.length nc,.slice ra roots.length rc] 25)).alloc (Obj.cells #[.func (.func 99) #[] #[.pointer (some ⟨W.heap.size,0,none⟩)]] 141)):=
    (below_alloc W _).alloc (by simp) _
   have hc2:((W.alloc (Obj.cells #[.slice na nodes.length nc,.slice ra roots.length rc] 25)).alloc (Obj.cells #[.func (.func 99) #[] #[.pointer (some ⟨W.heap.size,0,none⟩)]] 141)).cell? ⟨W.heap.size+1,0,none⟩=some (.func (.func 99) #[] #[.pointer (some ⟨W.heap.size,0,none⟩)]):=by simp[go_sem]
   have hd2:((W.alloc (Obj.cells #[.slice na nodes.length nc,.slice ra roots.length rc] 25)).alloc (Obj.cells #[.func (.func 99) #[] #[.pointer (some ⟨W.heap.size,0,none⟩)]] 141)).cell? ⟨W.heap.size,0,none⟩=some (.slice na nodes.length nc):=by simp[go_sem]
   have he2:((W.alloc (Obj.cells #[.slice na nodes.length nc,.slice ra roots.length rc] 25)).alloc (Obj.cells #[.func (.func 99) #[] #[.pointer (some ⟨W.heap.size,0,none⟩)]] 141)).cell? ⟨W.heap.size,1,none⟩=some (.slice ra roots.length rc):=by simp[go_sem]
   have hs2:Strange ((W.alloc (Obj.cells #[.slice na nodes.length nc,.slice ra roots.length rc] 25)).alloc (Obj.cells #[.func (.func 99) #[] #[.pointer (some ⟨W.heap.size,0,none⟩)]] 141)) (.func (.func 99) #[] #[.pointer (some ⟨W.heap.size,0,none⟩)]) nodes.length:=⟨_,_,_,rfl,hd2⟩
   have hi:=index_bad hs2 hc2 (hn.below hb2) (by omega) hS
   have hC:=hid (show one (chk ⟨nodes,roots⟩)=if 0<=ixOf (fun n=>!goodNd nodes.length n) nodes then [(40,ixOf (fun n=>!goodNd nodes.length n) nodes)] else if 0<=ixOf (strange nodes.length) roots then [(43,ixOf (strange nodes.length) roots)] else [] by
    unfold chk one
    simp only[h1,h2,if_false]
    split
    ·simp
    ·split <;> simp)
   have x1:=ixOf_ge (fun n=>!goodNd nodes.length n) nodes
   have x2:=ixOf_ge (strange nodes.length) roots
   have hr2:=hr.below hb2
   generalize hx:ixOf (fun n=>!goodNd nodes.length n) nodes=x at hi hC x1
   generalize hy:ixOf (strange nodes.length) roots=y at hC x2
   have hj:∀w1:World,Below ((W.alloc (Obj.cells #[.slice na nodes.length nc,.slice ra roots.length rc] 25)).alloc (Obj.cells #[.func (.func 99) #[] #[.pointer (some ⟨W.heap.size,0,none⟩)]] 141)).heap.size ((W.alloc (Obj.cells #[.slice na nodes.length nc,.slice ra roots.length rc] 25)).alloc (Obj.cells #[.func (.func 99) #[] #[.pointer (some ⟨W.heap.size,0,none⟩)]] 141)) w1->
     w1.cell? ⟨W.heap.size+1,0,none⟩=some (.func (.func 99) #[] #[.pointer (some ⟨W.heap.size,0,none⟩)])/\w1.cell? ⟨W.heap.size,1,none⟩=some (.slice ra roots.length rc)/\
     Calls Tryz.prog 82 #[.slice ra roots.length rc,.func (.func 99) #[] #[.pointer (some ⟨W.heap.size,0,none⟩)]] w1 fun e w'=>e=.returned (.int .i64 y)/\Below w1.heap.size w1 w':=fun w1 hb=>by
    refine⟨?_,?_,?_⟩
    ·rw[hb.cell (p:=⟨W.heap.size+1,0,none⟩) (lt_of_cell hc2)];exact hc2
    ·rw[hb.cell (p:=⟨W.heap.size,1,none⟩) (lt_of_cell he2)];exact he2
    ·rw[←hy]
     exact index_strange (hs2.below hb) (hr2.below hb) (by omega)
   clear hc2 hd2 he2 hs2 hr2 hx hy hn hr hS
   by_cases hx0:0<=x
   ·rw[if_pos hx0] at hC
    go_enter Tryz.func69,Tryz.ntmps69
    go_wp2_with (first | (go_at_call 102;refine hi.mono ?_;rintro e w1 ⟨rfl,hb⟩;clear hj hi) | (go_at_call 98;refine (fault_er _ _ (by decide) _).mono ?_;rintro e w' ⟨⟨ev,b,rfl,rfl,hE⟩,hb'⟩))
    go_ret
    rw[hC.out]
    exact⟨⟨_,rfl,hE⟩,Below.next (Below.next hb2 hb) hb'⟩
   ·rw[if_neg hx0] at hC
    by_cases hy0:0<=y
    ·rw[if_pos hy0] at hC
     go_enter Tryz.func69,Tryz.ntmps69
     go_wp2_with (first | (go_at_call 102;refine hi.mono ?_;rintro e w1 ⟨rfl,hb⟩;obtain⟨d1,d2,d3⟩:=hj w1 hb;clear hj hi) | (go_at_call 82;refine d3.mono ?_;rintro e w2 ⟨rfl,hb3⟩) | (go_at_call 98;refine (fault_er _ _ (by decide) _).mono ?_;rintro e w' ⟨⟨ev,b,rfl,rfl,hE⟩,hb'⟩))
     go_ret
     rw[hC.out]
     exact⟨⟨_,rfl,hE⟩,Below.next (Below.next (Below.next hb2 hb) hb3) hb'⟩
    ·rw[if_neg hy0] at hC
     go_enter Tryz.func69,Tryz.ntmps69
     go_wp2_with (first | (go_at_call 102;refine hi.mono ?_;rintro e w1 ⟨rfl,hb⟩;obtain⟨d1,d2,d3⟩:=hj w1 hb;clear hj hi) | (go_at_call 82;refine d3.mono ?_;rintro e w2 ⟨rfl,hb3⟩))
     go_ret
     rw[hC.out]
     exact⟨⟨_,rfl,rfl⟩,Below.next (Below.next hb2 hb) hb3⟩
end Go.Proofs.YtbfbkmkjcekpaaaGreatDoor
namespace Go.Proofs.YtbfbkmkjcekpaaaGreatDoor
set_option maxRecDepth 100000
open Go.RowKit
theorem strange_no {N:Nat} {x:Int} (h:strange N x=false):0<=x/\x<N:=by
 simp[strange] at h
 omega
theorem good_args {N:Nat} {n:Nd} (h:goodNd N n=true):(∀x∈n.args,0<=x/\x<(N:Int))/\n.args.length<=8:=by
 unfold goodNd at h
 split at h
 ·simp at h
  simp[h.2]
 ·split at h
  ·simp at h
   simp[h.2]
  ·split at h
   ·simp at h
    simp[h.2]
   ·split at h
    ·simp only[Bool.and_eq_true,decide_eq_true_eq,Bool.not_eq_true'] at h
     refine⟨fun x hx=>?_,h.1.2⟩
     have h2:=h.2
     rw[List.any_eq_false] at h2
     exact strange_no (by simpa using h2 x hx)
    ·simp at h
structure Good (g:Gf):Prop where
 nodes:g.nodes.length<=4096
 roots:g.roots.length<=4096
 node:∀n∈g.nodes,goodNd g.nodes.length n=true
 root:∀x∈g.roots,0<=x/\x<(g.nodes.length:Int)
theorem ixOf_all {α:Type} (p:α->Bool) (l:List α) (h:¬0<=ixOf p l):∀x∈l,p x=false:=by
 have h1:=ixOf_any p l
 rw[decide_eq_false h] at h1
 intro x hx
 have:=List.any_eq_false.1 h1.symm x hx
 simpa using this
theorem chk_good {g:Gf} (h:one (chk g)=[]):Good g:=by
 unfold one at h
 split at h
 ·rename_i h0
  unfold chk at h0
  split at h0
  ·simp at h0
  ·split at h0
   ·simp at h0
   ·split at h0
    ·simp at h0
    ·split at h0
     ·simp at h0
     ·rename_i h1 h2 h3 h4
      refine⟨by omega,by omega,fun n hn=>?_,fun x hx=>strange_no (ixOf_all _ _ h4 x hx)⟩
      have:=ixOf_all _ _ h3 n hn
      simpa using this
 ·simp at h
theorem chk_of_good {g:Gf} (h:Good g):one (chk g)=[]:=by
 have h3:ixOf (fun n=>!goodNd g.nodes.length n) g.nodes = -1:=ixOf_none _ _ (by
  rw[List.any_eq_false]
  intro x hx
  simp[h.node x hx])
 have h4:ixOf (strange g.nodes.length) g.roots = -1:=ixOf_none _ _ (by
  rw[List.any_eq_false]
  intro x hx
  have:=h.root x hx
  simp[strange]
  omega)
 have a1:=h.nodes
 have a2:=h.roots
 unfold one chk
 rw[h3,h4]
 rw[if_neg (by omega:¬4096<g.nodes.length),if_neg (by omega:¬4096<g.roots.length)]
 simp
def Gf.argsOf (g:Gf) (x:Int):List Int:=(g.nodes.getD x.toNat nd0).args
theorem Good.args {g:Gf} (h:Good g) {x:Int} (h0:0<=x) (h1:x<g.nodes.length):(∀y∈g.argsOf x,0<=y/\y<(g.nodes.length:Int))/\(g.argsOf x).length<=8:=by
 have hx:x.toNat<g.nodes.length:=by omega
 refine good_args (h.node _ ?_)
 simp[List.getD,hx]
theorem getD_mem {l:List Int} {k:Nat} (h:k<l.length):l.getD k 0∈l:=by simp[List.getD,h]
theorem drop_step {l:List Int} {k:Nat} (h:k<l.length):l.drop k=l.getD k 0::l.drop (k+1):=by
 rw[List.drop_eq_getElem_cons h]
 simp[List.getD,h]
end Go.Proofs.YtbfbkmkjcekpaaaGreatDoor
namespace Go.Proofs.YtbfbkmkjcekpaaaGreatDoor
set_option maxRecDepth 100000
open Go.RowKit
def meetF (g:Gf):Nat->List Int->List Int->List Int
 | 0,_,m=>m
 | f+1,l,m=>l.foldl (fun m n=>if n∈m then m else meetF g f (g.argsOf n) (m++[n])) m
def stepF (g:Gf) (f:Nat) (m:List Int) (n:Int):List Int:=if n∈m then m else meetF g f (g.argsOf n) (m++[n])
theorem meetF_succ (g:Gf) (f:Nat) (l m:List Int):meetF g (f+1) l m=l.foldl (stepF g f) m:=rfl
structure Ok (N:Nat) (m:List Int):Prop where
 nodup:m.Nodup
 rng:∀x∈m,0<=x/\x<(N:Int)
theorem ok_nil (N:Nat):Ok N []:=⟨List.nodup_nil,by simp⟩
theorem ok_snoc {N:Nat} {m:List Int} {n:Int} (h:Ok N m) (hn:n∉m) (h0:0<=n) (h1:n<N):Ok N (m++[n]):=by
 refine⟨List.nodup_append.2 ⟨h.nodup,by simp,?_⟩,fun x hx=>?_⟩
 ·intro a ha b hb e
  simp at hb
  subst e hb
  exact hn ha
 ·rcases List.mem_append.1 hx with hx | hx
  ·exact h.rng x hx
  ·simp at hx
   subst hx
   exact⟨h0,h1⟩
theorem pigeon:∀(N:Nat) (l:List Int),l.Nodup->(∀x∈l,0<=x/\x<(N:Int))->l.length<=N
 | 0,l,_,h=>by
  cases l with
  | nil=>simp
  | cons a r=>
   have:=h a (by simp)
   omega
 | N+1,l,hn,h=>by
  by_cases hm:(N:Int)∈l
  ·have h1:=pigeon N (l.erase (N:Int)) (hn.erase _) (fun x hx=>by
    have h2:=(hn.mem_erase_iff).1 hx
    have:=h x h2.2
    have:=h2.1
    omega)
   rw[List.length_erase_of_mem hm] at h1
   omega
  ·have:=pigeon N l hn (fun x hx=>by
    have:=h x hx
    have:x≠(N:Int):=fun e=>hm (by rw[←e];exact hx)
    omega)
   omega
theorem Ok.le {N:Nat} {m:List Int} (h:Ok N m):m.length<=N:=pigeon N m h.nodup h.rng
theorem Ok.full {N:Nat} {m:List Int} (h:Ok N m) (hl:N<=m.length) {x:Int} (h0:0<=x) (h1:x<N):x∈m:=by
 by_cases hx:x∈m
 ·exact hx
 ·have:=(ok_snoc h hx h0 h1).le
  simp at this
  omega
theorem meet_ok {g:Gf} (hg:Good g):∀(f:Nat) (l m:List Int),(∀x∈l,0<=x/\x<(g.nodes.length:Int))->Ok g.nodes.length m->Ok g.nodes.length (meetF g f l m)/\m <+: meetF g f l m
 | 0,_,m,_,h=>⟨h,List.prefix_refl _⟩
 | f+1,l,m,hl,h=>by
  rw[meetF_succ]
  induction l generalizing m with
  | nil=>exact⟨h,List.prefix_refl _⟩
  | cons n r ih=>
   rw[List.foldl_cons]
   have hn:=hl n (by simp)
   have hs:Ok g.nodes.length (stepF g f m n)/\m <+: stepF g f m n:=by
    unfold stepF
    split
    ·exact⟨h,List.prefix_refl _⟩
    ·rename_i hm
     have h1:=meet_ok hg f (g.argsOf n) (m++[n]) (hg.args hn.1 hn.2).1 (ok_snoc h hm hn.1 hn.2)
     exact⟨h1.1,(List.prefix_append m [n]).trans h1.2⟩
   have h2:=ih (stepF g f m n) (fun x hx=>hl x (by simp[hx])) hs.1
   exact⟨h2.1,hs.2.trans h2.2⟩
theorem meet_full {g:Gf} (hg:Good g) (f:Nat) (l m:List Int) (hl:∀x∈l,0<=x/\x<(g.nodes.length:Int)) (h:Ok g.nodes.length m) (hN:g.nodes.length<=m.length):meetF g f l m=m:=by
 have h1:=meet_ok hg f l m hl h
 have h2:=h1.1.le
 exact (h1.2.eq_of_length_le (by omega)).symm
theorem step_ok {g:Gf} (hg:Good g) (f:Nat) {m:List Int} {n:Int} (h:Ok g.nodes.length m) (h0:0<=n) (h1:n<g.nodes.length):Ok g.nodes.length (stepF g f m n)/\m <+: stepF g f m n:=by
 have:=meet_ok hg (f+1) [n] m (by simpa using ⟨h0,h1⟩) h
 exact this
theorem meet_has {g:Gf} (hg:Good g):∀(f:Nat) (l m:List Int),(∀x∈l,0<=x/\x<(g.nodes.length:Int))->Ok g.nodes.length m->g.nodes.length<=m.length+f->
  (∀x∈l,x∈meetF g f l m)/\∀x∈meetF g f l m,x∉m->∀y∈g.argsOf x,y∈meetF g f l m
 | 0,l,m,hl,h,hN=>by
  refine⟨fun x hx=>?_,fun x hx hn=>absurd hx hn⟩
  have:=hl x hx
  exact h.full (by simpa using hN) this.1 this.2
 | f+1,l,m,hl,h,hN=>by
  rw[meetF_succ]
  induction l generalizing m with
  | nil=>exact⟨by simp,fun x hx hn=>absurd hx hn⟩
  | cons n r ih=>
   rw[List.foldl_cons]
   have hn:=hl n (by simp)
   have hs:=step_ok hg f h hn.1 hn.2
   have hlen:m.length<=(stepF g f m n).length:=hs.2.length_le
   have h2:=ih (stepF g f m n) (fun x hx=>hl x (by simp[hx])) hs.1 (by omega)
   have hpre:stepF g f m n <+: r.foldl (stepF g f) (stepF g f m n):=by
    have:=meet_ok hg (f+1) r (stepF g f m n) (fun x hx=>hl x (by simp[hx])) hs.1
    exact this.2
   have hin:n∈stepF g f m n/\∀x∈stepF g f m n,x∉m->∀y∈g.argsOf x,y∈stepF g f m n:=by
    unfold stepF
    split
    ·rename_i hm
     exact⟨hm,fun x hx hn=>absurd hx hn⟩
    ·rename_i hm
     have h3:=meet_has hg f (g.argsOf n) (m++[n]) (hg.args hn.1 hn.2).1 (ok_snoc h hm hn.1 hn.2) (by simp;omega)
     have h4:=(meet_ok hg f (g.argsOf n) (m++[n]) (hg.args hn.1 hn.2).1 (ok_snoc h hm hn.1 hn.2)).2
     refine⟨h4.subset (by simp),fun x hx hxm y hy=>?_⟩
     by_cases e:x=n
     ·subst e
      exact h3.1 y hy
     ·exact h3.2 x hx (by simp[hxm,e]) y hy
   refine⟨fun x hx=>?_,fun x hx hxm y hy=>?_⟩
   ·rcases List.mem_cons.1 hx with rfl | hx
    ·exact hpre.subset hin.1
    ·exact h2.1 x hx
   ·by_cases e:x∈stepF g f m n
    ·exact hpre.subset (hin.2 x e hxm y hy)
    ·exact h2.2 x hx e y hy
theorem meet_in {g:Gf} (p:Int->Prop) (hp:∀x,p x->∀y∈g.argsOf x,p y):∀(f:Nat) (l m:List Int),(∀x∈l,p x)->(∀x∈m,p x)->∀x∈meetF g f l m,p x
 | 0,_,_,_,hm,x,hx=>hm x hx
 | f+1,l,m,hl,hm,x,hx=>by
  rw[meetF_succ] at hx
  induction l generalizing m with
  | nil=>exact hm x hx
  | cons n r ih=>
   rw[List.foldl_cons] at hx
   have hn:=hl n (by simp)
   refine ih (stepF g f m n) (fun y hy=>hl y (by simp[hy])) (fun y hy=>?_) hx
   unfold stepF at hy
   split at hy
   ·exact hm y hy
   ·refine meet_in p hp f (g.argsOf n) (m++[n]) (hp n hn) (fun z hz=>?_) y hy
    rcases List.mem_append.1 hz with hz | hz
    ·exact hm z hz
    ·simp at hz
     subst hz
     exact hn
def metF (g:Gf):List Int:=meetF g g.nodes.length g.roots []
theorem met_ok {g:Gf} (hg:Good g):Ok g.nodes.length (metF g):=(meet_ok hg _ _ _ hg.root (ok_nil _)).1
theorem met_root {g:Gf} (hg:Good g):∀x∈g.roots,x∈metF g:=(meet_has hg _ _ _ hg.root (ok_nil _) (by simp)).1
theorem met_arg {g:Gf} (hg:Good g):∀x∈metF g,∀y∈g.argsOf x,y∈metF g:=fun x hx=>(meet_has hg _ _ _ hg.root (ok_nil _) (by simp)).2 x hx (by simp)
end Go.Proofs.YtbfbkmkjcekpaaaGreatDoor
namespace Go.Proofs.YtbfbkmkjcekpaaaGreatDoor
set_option maxRecDepth 100000
open Go.RowKit
theorem infoI:(Tryz.prog.info? 3).map (fun i=>(i.zero,i.size,i.bytes))=some (some (.int .i64 0),1,8):=by kernel_rfl
def seenArr (N:Nat) (m:List Int):Array Value:=((List.range N).map fun (i:Nat)=>Value.bool (decide ((i:Int)∈m))).toArray
theorem seen_size (N:Nat) (m:List Int):(seenArr N m).size=N:=by simp[seenArr]
theorem seen_at {N:Nat} {m:List Int} {i:Nat} (h:i<N):(seenArr N m)[i]?=some (.bool (decide ((i:Int)∈m))):=by simp[seenArr,h]
theorem seen_set {N:Nat} {m:List Int} {n:Nat}:(seenArr N m).setIfInBounds n (.bool true)=seenArr N (m++[(n:Int)]):=by
 apply Array.ext
 ·simp[seen_size]
 ·intro i h1 h2
  have hi:i<N:=by simpa[seen_size] using h2
  have e1:(seenArr N (m++[(n:Int)]))[i]=.bool (decide ((i:Int)∈m++[(n:Int)])):=by
   have:=seen_at (N:=N) (m:=m++[(n:Int)]) hi
   rw[Array.getElem?_eq_getElem (by simpa[seen_size] using hi)] at this
   exact Option.some.inj this
  have e2:(seenArr N m)[i]'(by simpa[seen_size] using hi)=.bool (decide ((i:Int)∈m)):=by
   have:=seen_at (N:=N) (m:=m) hi
   rw[Array.getElem?_eq_getElem (by simpa[seen_size] using hi)] at this
   exact Option.some.inj this
  rw[e1,Array.getElem_setIfInBounds (by simpa[seen_size] using hi)]
  split
  ·rename_i e
   subst e
   simp
  ·rename_i e
   rw[e2]
   congr 1
   rw[decide_eq_decide]
   simp
   intro e'
   omega
structure St (W w:World) (nv:Value) (N:Nat) (sr sv mv fv gv:Nat) (m:List Int):Prop where
 b:Below W.heap.size W w
 sc:w.cell? ⟨sv,0,none⟩=some (.slice (some ⟨sr,0,none⟩) N N)
 fc:w.cell? ⟨fv,0,none⟩=some (.func (.func 70) #[] #[.pointer (some ⟨sv,0,none⟩),.pointer (some ⟨mv,0,none⟩),.pointer (some ⟨fv,0,none⟩),.pointer (some ⟨gv,0,none⟩)])
 gc:w.cell? ⟨gv,0,none⟩=some nv
 row:w.heap[sr]?=some (.cells (seenArr N m) 4 (0,0))
 met:∃ao c,w.heap[mv]?=some (.cells #[.slice ao m.length c] 23 (0,0))/\w.ownsRow W.heap.size 3 1 (.slice ao m.length c) m.length (m.map (Value.int .i64))/\(∀k,Value.ownBlock (.slice ao m.length c)=some k->k∉[sr,sv,mv,fv,gv])
structure Bks (W:World) (sr sv mv fv gv:Nat):Prop where
 nd:[sr,sv,mv,fv,gv].Nodup
 ge:∀k∈[sr,sv,mv,fv,gv],W.heap.size<=k
theorem own_block {w w':World} {B:Nat} {e:TypeId} {s:Nat} {v:Value} {n:Nat} {xs:List Value} (h:w.ownsRow B e s v n xs) (hb:∀k,v.ownBlock=some k->w'.heap[k]?=w.heap[k]?):w'.ownsRow B e s v n xs:=by
 refine⟨h.1,?_⟩
 rcases h.2 with h0 | ⟨g,cap,cur,rfl,hB,hg,rest⟩
 ·exact Or.inl h0
 ·exact Or.inr ⟨g,cap,cur,rfl,hB,by rw[hb g rfl];exact hg,rest⟩
theorem St.push {W w w2:World} {nv:Value} {N sr sv mv fv gv:Nat} {m:List Int} {n:Nat} {o:Obj} {ao:Option Addr} {c g cap:Nat} (hB:Bks W sr sv mv fv gv) (h:St W w nv N sr sv mv fv gv m)
  (hm:w.heap[mv]?=some (.cells #[.slice ao m.length c] 23 (0,0))) (hk:∀k,Value.ownBlock (.slice ao m.length c)=some k->k∉[sr,sv,mv,fv,gv])
  (hg:((w.setCell ⟨sr,n,none⟩ (.bool true)).alloc o).grownBy w2 (Value.ownBlock (.slice ao m.length c)))
  (hown:w2.ownsRow W.heap.size 3 1 (.slice (some ⟨g,0,none⟩) (m.length+1) cap) (m.length+1) (m.map (Value.int .i64)++[.int .i64 (n:Int)]))
  (hat:Value.ownBlock (.slice ao m.length c)=some g∨g=w.heap.size+1) (hbl:∀k,Value.ownBlock (.slice ao m.length c)=some k->W.heap.size<=k) :
  St W (w2.setCell ⟨mv,0,none⟩ (.slice (some ⟨g,0,none⟩) (m.length+1) cap)) nv N sr sv mv fv gv (m++[(n:Int)]):=by
 have hnd:=hB.nd
 simp only[List.nodup_cons,List.mem_cons,List.not_mem_nil,or_false,not_or,List.nodup_nil,and_true,not_false_eq_true] at hnd
 obtain⟨⟨a1,a2,a3,a4⟩,⟨a5,a6,a7⟩,⟨a8,a9⟩,a10⟩:=hnd
 have hlt:∀k∈[sr,sv,mv,fv,gv],k<w.heap.size:=fun k hk'=>by
  simp at hk'
  rcases hk' with rfl | rfl | rfl | rfl | rfl
  ·exact lt_of_block h.row
  ·exact lt_of_cell h.sc
  ·exact lt_of_block hm
  ·exact lt_of_cell h.fc
  ·exact lt_of_cell h.gc
 have hsz:((w.setCell ⟨sr,n,none⟩ (.bool true)).alloc o).heap.size=w.heap.size+1:=by simp
 have h1:∀k∈[sr,sv,mv,fv,gv],w2.heap[k]?=(w.setCell ⟨sr,n,none⟩ (.bool true)).heap[k]?:=fun k hk'=>by
  rw[hg.block k (by have:=hlt k hk';omega) (fun e=>hk k e.symm hk'),Below.heap_alloc _ _ _ (by simpa using hlt k hk')]
 have h2:∀k∈[sv,fv,gv],(w2.setCell ⟨mv,0,none⟩ (.slice (some ⟨g,0,none⟩) (m.length+1) cap)).heap[k]?=w.heap[k]?:=fun k hk'=>by
  have hin:k∈[sr,sv,mv,fv,gv]:=by
   simp at hk' ⊢
   rcases hk' with rfl | rfl | rfl <;> simp
  have hne:k≠mv/\k≠sr:=by
   simp at hk'
   rcases hk' with rfl | rfl | rfl
   ·exact⟨a5,fun e=>a1 e.symm⟩
   ·exact⟨fun e=>a8 e.symm,fun e=>a3 e.symm⟩
   ·exact⟨fun e=>a9 e.symm,fun e=>a4 e.symm⟩
  rw[Below.heap_setCell _ _ _ _ hne.1,h1 k hin,Below.heap_setCell _ _ _ _ hne.2]
 have hgk:g∉[sr,sv,mv,fv,gv]:=by
  rcases hat with e | e
  ·exact hk g e
  ·intro hx
   have:=hlt g hx
   omega
 have hmv:=h1 mv (by simp)
 rw[Below.heap_setCell _ _ _ _ (fun e=>a2 e.symm),hm] at hmv
 have hb1:Below W.heap.size W ((w.setCell ⟨sr,n,none⟩ (.bool true)).alloc o):=(h.b.setCell (hB.ge sr (by simp)) _).alloc (by simpa using h.b.size) _
 refine⟨?_,?_,?_,?_,?_,⟨some ⟨g,0,none⟩,cap,?_,?_,?_⟩⟩
 ·exact (hb1.grown hg hb1.size (fun k e=>hbl k e)).setCell (hB.ge mv (by simp)) _
 ·exact (World.cell?_of_block (a:=⟨sv,0,none⟩) (h2 sv (by simp))).trans h.sc
 ·exact (World.cell?_of_block (a:=⟨fv,0,none⟩) (h2 fv (by simp))).trans h.fc
 ·exact (World.cell?_of_block (a:=⟨gv,0,none⟩) (h2 gv (by simp))).trans h.gc
 ·rw[Below.heap_setCell _ _ _ _ a2,h1 sr (by simp),heap_setCell_same w sr n _ _ _ h.row,seen_set]
 ·have:=one_setCell (u:=.slice (some ⟨g,0,none⟩) (m.length+1) cap) hmv
  simpa using this
 ·have h3:(w2.setCell ⟨mv,0,none⟩ (.slice (some ⟨g,0,none⟩) (m.length+1) cap)).ownsRow W.heap.size 3 1 (.slice (some ⟨g,0,none⟩) (m.length+1) cap) (m.length+1) (m.map (Value.int .i64)++[.int .i64 (n:Int)]):=
   own_block hown (fun k e=>Below.heap_setCell _ _ _ _ (fun e'=>hgk (by
    have:g=k:=by simpa[Value.ownBlock] using e
    rw[this,e']
    simp)))
  simpa using h3
 ·intro k e
  have:g=k:=by simpa[Value.ownBlock] using e
  rw[←this]
  exact hgk
theorem take_snoc {l:List Int} {k:Nat} (h:k<l.length):l.take (k+1)=l.take k++[l.getD k 0]:=by
 rw[List.take_succ_eq_append_getElem h]
 simp[List.getD,h]
theorem meetF_old {g:Gf} {f:Nat} {l m:List Int} {n:Int} (h:n∈meetF g f l m):meetF g f (l++[n]) m=meetF g f l m:=by
 cases f with
 | zero=>rfl
 | succ f=>
  rw[meetF_succ] at h ⊢
  rw[meetF_succ,List.foldl_append]
  simp only[List.foldl_cons,List.foldl_nil]
  exact if_pos h
theorem meetF_new {g:Gf} {f:Nat} {l m:List Int} {n:Int} (h:n∉meetF g (f+1) l m):meetF g (f+1) (l++[n]) m=meetF g f (g.argsOf n) (meetF g (f+1) l m++[n]):=by
 rw[meetF_succ] at h ⊢
 rw[meetF_succ,List.foldl_append]
 simp only[List.foldl_cons,List.foldl_nil]
 exact if_neg h
end Go.Proofs.YtbfbkmkjcekpaaaGreatDoor
namespace Go.Proofs.YtbfbkmkjcekpaaaGreatDoor
set_option maxRecDepth 100000
open Go.RowKit
theorem info_parts {P:Program} {t:TypeId} {z:Value} {s b:Nat} (h:(P.info? t).map (fun i=>(i.zero,i.size,i.bytes))=some (some z,s,b)):∃i,P.info? t=some i/\i.zero=some z/\i.size=s/\i.bytes=b:=by
 cases hi:P.info? t with
 | none=>rw[hi] at h;simp at h
 | some i=>
  rw[hi] at h
  simp at h
  exact⟨i,rfl,h.1,h.2.1,h.2.2⟩
theorem meet_eg:∀args w,(callFunc 70 args).run Tryz.prog w=.ok (.enter 70 args) w:=enters_of Tryz.func70 (by kernel_rfl) rfl
theorem St.drewN {W w:World} {nv:Value} {N sr sv mv fv gv:Nat} {m:List Int} (h:St W w nv N sr sv mv fv gv m) (q:Nat):St W (w.drewN q) nv N sr sv mv fv gv m:=
 ⟨below_drewN h.b q,h.sc,h.fc,h.gc,h.row,h.met⟩
def MeetC (W:World) (nv:Value) (g:Gf) (sr sv mv fv gv f:Nat):Prop:=
 ∀(l m:List Int) (v:Value) (w:World),Ri W v l->(∀x∈l,0<=x/\x<(g.nodes.length:Int))->l.length<=5000->Ok g.nodes.length m->g.nodes.length<=m.length+f->St W w nv g.nodes.length sr sv mv fv gv m->
  Calls Tryz.prog 70 #[v,.pointer (some ⟨sv,0,none⟩),.pointer (some ⟨mv,0,none⟩),.pointer (some ⟨fv,0,none⟩),.pointer (some ⟨gv,0,none⟩)] w fun e w'=>e=.returned (.tuple #[])/\St W w' nv g.nodes.length sr sv mv fv gv (meetF g f l m)
theorem St.mark {W w:World} {sr sv mv fv gv:Nat} {m:List Int} {n:Nat} {ao:Option Addr} {c:Nat} (hB:Bks W sr sv mv fv gv) (hm:w.heap[mv]?=some (.cells #[.slice ao m.length c] 23 (0,0)))
  (hown:w.ownsRow W.heap.size 3 1 (.slice ao m.length c) m.length (m.map (Value.int .i64))) (hk:∀k,Value.ownBlock (.slice ao m.length c)=some k->k∉[sr,sv,mv,fv,gv]) (o:Obj) :
  (w.setCell ⟨sr,n,none⟩ (.bool true)).cell? ⟨mv,0,none⟩=some (.slice ao m.length c)/\((w.setCell ⟨sr,n,none⟩ (.bool true)).alloc o).ownsRow W.heap.size 3 1 (.slice ao m.length c) m.length (m.map (Value.int .i64)):=by
 have hnd:=hB.nd
 simp only[List.nodup_cons,List.mem_cons,List.not_mem_nil,or_false,not_or,List.nodup_nil,and_true,not_false_eq_true] at hnd
 refine⟨?_,own_block hown (fun k e=>?_)⟩
 ·rw[World.cell?_of_block (a:=⟨mv,0,none⟩) (Below.heap_setCell w ⟨sr,n,none⟩ _ mv (fun e=>hnd.1.2.1 e.symm))]
  exact cell_of_one hm
 ·have hlt:=(hown.lt k e).2
  rw[Below.heap_alloc _ _ _ (by simpa using hlt),Below.heap_setCell _ _ _ _ (fun e'=>hk k e (by rw[e'];simp))]
theorem far_one {w w2:World} {row:Option Nat} {mv sr n:Nat} {v:Value} {o:Obj} {T:TypeId} (hm:w.heap[mv]?=some (.cells #[v] T (0,0))) (hs:mv≠sr) (hg:((w.setCell ⟨sr,n,none⟩ (.bool true)).alloc o).grownBy w2 row) (hr:some mv≠row) :
  w2.cell? ⟨mv,0,none⟩=some v/\w2.frozen? ⟨mv,0,none⟩=false:=by
 have hlt:=lt_of_block hm
 have h2:w2.heap[mv]?=some (.cells #[v] T (0,0)):=by
  rw[hg.block mv (by simp;omega) hr,Below.heap_alloc _ _ _ (by simpa using hlt),Below.heap_setCell _ _ _ _ hs]
  exact hm
 exact⟨cell_of_one h2,free_of_one h2⟩
set_option maxHeartbeats 4000000 in
theorem meet_round {W:World} {nv:Value} {g:Gf} {sr sv mv fv gv:Nat} (hg:Good g) (hN:Rn W nv g.nodes) (hB:Bks W sr sv mv fv gv) (f:Nat) (l m:List Int) (v:Value) (w:World) (ih:g.nodes.length<=m.length∨MeetC W nv g sr sv mv fv gv f)
  (hv:Ri W v l) (hl:∀x∈l,0<=x/\x<(g.nodes.length:Int)) (hlen:l.length<=5000) (hok:Ok g.nodes.length m) (hfu:g.nodes.length<=m.length+(f+1)) (hst:St W w nv g.nodes.length sr sv mv fv gv m) :
  Calls Tryz.prog 70 #[v,.pointer (some ⟨sv,0,none⟩),.pointer (some ⟨mv,0,none⟩),.pointer (some ⟨fv,0,none⟩),.pointer (some ⟨gv,0,none⟩)] w fun e w'=>e=.returned (.tuple #[])/\St W w' nv g.nodes.length sr sv mv fv gv (meetF g (f+1) l m):=by
 obtain⟨i0,hi,hz0,hz1,hz2⟩:=info_parts infoI
 obtain⟨ao,c,rfl,hv⟩:=hv
 have eg:=meet_eg
 obtain⟨na,nc,rfl,hNc⟩:=hN
 have hgn:=hg.nodes
 go_enter Tryz.func70,Tryz.ntmps70
 go_wp2
 go_loopw [10] (fun i wr=>∃k:Nat,k<=l.length/\i=.int .i64 k/\Hid (St W wr (.slice na g.nodes.length nc) g.nodes.length sr sv mv fv gv (meetF g (f+1) (l.take k) m))) (fun i _=>l.length-(intOf i).toNat)
 case atStart=>exact⟨0,Nat.zero_le _,rfl,by simpa[Hid,meetF_succ] using hst⟩
 case round=>
  obtain⟨k,hk,rfl,hS⟩:=hrel
  by_cases hlt:k<l.length
  ·obtain⟨lb,lo,rfl,hlc⟩:=hv k hlt
   have hx:=hl _ (getD_mem hlt)
   obtain⟨n,hn⟩:∃n:Nat,l.getD k 0=(n:Int):=⟨(l.getD k 0).toNat,by omega⟩
   have hM:=meet_ok hg (f+1) (l.take k) m (fun x hx=>hl x (List.mem_of_mem_take hx)) hok
   have hMo:Hid ((n:Int)∈meetF g (f+1) (l.take k) m->meetF g (f+1) (l.take (k+1)) m=meetF g (f+1) (l.take k) m):=fun h=>by rw[take_snoc hlt,hn,meetF_old h]
   have hMn:Hid ((n:Int)∉meetF g (f+1) (l.take k) m->meetF g (f+1) (l.take (k+1)) m=meetF g f (g.argsOf n) (meetF g (f+1) (l.take k) m++[(n:Int)])):=fun h=>by rw[take_snoc hlt,hn,meetF_new h]
   have hlc':wr.cell? ⟨lb,lo+k,none⟩=some (.int .i64 (n:Int)):=by rw[hS.out.b.cell (p:=⟨lb,lo+k,none⟩) (lt_of_cell hlc),hlc,hn]
   rw[hn] at hx
   have hnN:n<g.nodes.length:=by omega
   generalize meetF g (f+1) (l.take k) m=M at hS hM hMo hMn
   have s0:=hS.out.sc
   have s1:wr.cell? ⟨sr,n,none⟩=some (.bool (decide ((n:Int)∈M))):=by
    rw[cell_of_row wr sr n _ _ _ hS.out.row]
    exact seen_at hnN
   by_cases hin:(n:Int)∈M
   ·rw[decide_eq_true hin] at s1
    have hS':Hid (St W wr (.slice na g.nodes.length nc) g.nodes.length sr sv mv fv gv (meetF g (f+1) (l.take (k+1)) m)):=by rw[hMo.out hin];exact hS
    clear hin hMo hMn hM hS hlc hv hl hn hst hNc ih
    go_wp2
    go_roundw
    case rel=>exact⟨k+1,by omega,congrArg (Value.int .i64) (by omega),hS'⟩
    case measure=>simp[intOf];omega
   ·rw[decide_eq_false hin] at s1
    have hMk:=ok_snoc hM.1 hin hx.1 hx.2
    have hpre:=hM.2.length_le
    have hML:=hMk.le
    simp at hML
    have hC:MeetC W (.slice na g.nodes.length nc) g sr sv mv fv gv f:=ih.resolve_left (fun h=>by omega)
    have hS':=hid (fun (w':World) (h:St W w' (.slice na g.nodes.length nc) g.nodes.length sr sv mv fv gv (meetF g f (g.argsOf n) (M++[(n:Int)])))=>(show St W w' (.slice na g.nodes.length nc) g.nodes.length sr sv mv fv gv (meetF g (f+1) (l.take (k+1)) m) by rw[hMn.out hin];exact h))
    obtain⟨mo,mc,hm0,hm1,hm2⟩:=hS.out.met
    have hmk:=St.mark (n:=n) hB hm0 hm1 hm2 (.cells #[.int .i64 (n:Int)] 3)
    obtain⟨hm3,hm4⟩:=hmk
    have z1:wr.frozen? ⟨sr,n,none⟩=false:=by simp[World.frozen?,hS.out.row]
    obtain⟨nb,no,av,rfl,hnd⟩:=hNc n hnN
    have hargs:(g.nodes.getD n nd0).args=g.argsOf (n:Int):=by simp[Gf.argsOf]
    obtain⟨_,_,_,n3,hA⟩:=hnd
    rw[hargs] at hA
    have hga:=hg.args hx.1 hx.2
    have hcall:∀w':World,St W w' (.slice (some ⟨nb,no,none⟩) g.nodes.length nc) g.nodes.length sr sv mv fv gv (M++[(n:Int)])->_:=fun w' h=>hC (g.argsOf n) (M++[(n:Int)]) av w' hA hga.1 (by omega) hMk (by simp;omega) h
    have hms:mv≠sr:=fun e=>by
     have:=hB.nd
     simp[e] at this
    have hsz:=hS.out.b.size
    have hbl:∀k,Value.ownBlock (.slice mo M.length mc)=some k->W.heap.size<=k:=fun k e=>(hm1.lt k e).1
    have hrm:some mv≠Value.ownBlock (.slice mo M.length mc):=fun e=>hm2 mv e.symm (by simp)
    have hn3:=lt_of_cell n3
    clear hMo hMn hM hlc hv hl hn hst hNc ih hC hargs hA hga
    go_wp2_with (at_builtin;refine wpList_append_lies _ rfl _ _ _ rfl W.heap.size 3 i0 (.int .i64 0) 1 8 Tryz.underlying23 hi hz0 hz1 hz2 rfl (by decide) _ M.length (M.map (Value.int .i64)) rfl hm4 ⟨wr.heap.size,0,none⟩ 1 1 [.int .i64 (n:Int)] rfl rfl (World.news_of_block (cs:=#[.int .i64 (n:Int)]) (t:=3) (fr:=(0,0)) (by simpa using heap_alloc_new (wr.setCell ⟨sr,n,none⟩ (.bool true)) (.cells #[.int .i64 (n:Int)] 3))) (by simp[Value.oneCell']) (by omega) (by unfold maxLen;omega) (by omega) (by simp;omega) (wr.heap.size+1) (by simp) ?_;intro gg cap w2 hown2 hgr hat hltg;obtain⟨d0,d1⟩:=far_one hm0 hms hgr hrm)
    have hS3:=St.push hB hS.out hm0 hm2 hgr hown2 hat hbl
    have hp3:∀w':World,Below W.heap.size W w'->w'.cell? ⟨nb,no+n*4+3,none⟩=some av:=fun w' h=>by rw[h.cell (p:=⟨nb,no+n*4+3,none⟩) hn3];exact n3
    clear hgr hown2 hat d0 d1 hm0 hm1 hm2 hm3 hm4 hbl hrm hltg hS s0 s1 z1
    go_wp2
    generalize (w2.setCell ⟨mv,0,none⟩ (.slice (some ⟨gg,0,none⟩) (M.length+1) cap))=w3 at hS3 ⊢
    have c0:=hS3.fc
    have c1:=hS3.gc
    have c2:=hp3 _ hS3.b
    go_region_held3 (fun w'=>w'.cell? ⟨fv,0,none⟩=some (.func (.func 70) #[] #[.pointer (some ⟨sv,0,none⟩),.pointer (some ⟨mv,0,none⟩),.pointer (some ⟨fv,0,none⟩),.pointer (some ⟨gv,0,none⟩)])/\w'.cell? ⟨gv,0,none⟩=some (.slice (some ⟨nb,no,none⟩) g.nodes.length nc)/\w'.cell? ⟨nb,no+n*4+3,none⟩=some av) (first | exact⟨c0,c1,c2⟩ | go_keep)
     (first | (go_at_call 70;refine Calls.mono (hcall _ (by exact hS3.drewN _)) ?_;rintro e w4 ⟨rfl,hS4⟩;clear c0 c1 c2;have c0:=hS4.fc;have c1:=hS4.gc;have c2:=hp3 _ hS4.b))
    all_goals go_wp2
    all_goals
     go_roundw
     case rel=>exact⟨k+1,by omega,congrArg (Value.int .i64) (by omega),hS'.out _ hS4⟩
     case measure=>simp[intOf];omega
  ·have hS':Hid (St W wr (.slice na g.nodes.length nc) g.nodes.length sr sv mv fv gv (meetF g (f+1) l m)):=by
    have:=hS
    rw[List.take_of_length_le (by omega)] at this
    exact this
   clear hv hl hst hNc ih
   go_wp2
   go_end0
   exact⟨rfl,hS'.out⟩
theorem meet_any {W:World} {nv:Value} {g:Gf} {sr sv mv fv gv:Nat} (hg:Good g) (hN:Rn W nv g.nodes) (hB:Bks W sr sv mv fv gv):∀f:Nat,MeetC W nv g sr sv mv fv gv f
 | 0=>fun l m v w hv hl hlen hok hfu hst=>by
  have h:=meet_round hg hN hB 0 l m v w (Or.inl (by omega)) hv hl hlen hok (by omega) hst
  rw[meet_full hg 1 l m hl hok (by omega)] at h
  exact h
 | f+1=>fun l m v w hv hl hlen hok hfu hst=>meet_round hg hN hB f l m v w (Or.inr (meet_any hg hN hB f)) hv hl hlen hok hfu hst
end Go.Proofs.YtbfbkmkjcekpaaaGreatDoor
