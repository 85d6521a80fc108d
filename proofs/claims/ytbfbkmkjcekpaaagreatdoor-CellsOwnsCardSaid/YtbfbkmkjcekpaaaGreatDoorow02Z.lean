/- A region that draws its order, by one property that every operation keeps: as many steps as operations, not as many as orders. -/
import Derived.Orders
import Derived.OrdersIn
import Derived.OwnWalkIn
import Derived.RangeFuncCalls
import Derived.Test.YtbfbkmkjcekpaaaGreatDoorow00Z
namespace Go.Proofs.YtbfbkmkjcekpaaaGreatDoor
set_option maxRecDepth 100000
open Go.RowKit
theorem count_set:∀(l:List Bool) (i:Nat),l[i]?=some false->(l.set i true).count false+1=l.count false
 | [],_,h=>by simp at h
 | b::l,0,h=>by
  have:b=false:=by simpa using h
  subst this
  simp
 | b::l,i+1,h=>by
  have h1:=count_set l i (by simpa using h)
  cases b <;> simp <;> omega
theorem ready_spec {md:Region.Mode} {ops:Array Oper} {l:Array Bool} {i:Nat} (h:i∈Region.ready md ops l):i<ops.size/\l.getD i true=false/\((ops[i]?).map (·.after.all fun e=>!Region.binds md e || l.getD e.on false)).getD false=true:=by
 unfold Region.ready at h
 obtain⟨h1,h2⟩:=List.mem_filter.1 h
 rw[Bool.and_eq_true] at h2
 exact⟨List.mem_range.1 h1,by simpa using h2.1,h2.2⟩
theorem getD_false {l:Array Bool} {i:Nat} (h:l.getD i true=false):l.toList[i]?=some false:=by
 simp only[Array.getD_eq_getD_getElem?] at h
 cases e:l[i]? with
 | none=>rw[e] at h;simp at h
 | some b=>
  rw[e] at h
  have:b=false:=by simpa using h
  subst this
  simpa using e
theorem wpAny_inv {P:Program} {md:Region.Mode} {ops:Array Oper} {Q:Exit->Act->World->Prop} (I:Array Bool->Act->World->Prop)
  (hstep:∀l a w,I l a w->∀i,i∈Region.ready md ops l->wpOp P ops Q i (I (l.setIfInBounds i true)) a w)
  (hdone:∀l a w,I l a w->Region.ready md ops l=[]->Q .normal a w) :
  ∀(fuel:Nat) (l:Array Bool) (a:Act) (w:World),l.toList.count false<=fuel->I l a w->wpAny P md ops Q fuel l a w
 | 0,l,a,w,hf,hI=>by
  have h0:Region.ready md ops l=[]:=by
   cases e:Region.ready md ops l with
   | nil=>rfl
   | cons i r=>
    have h1:=getD_false (ready_spec (i:=i) (by rw[e];simp)).2.1
    have h2:=count_set _ _ h1
    omega
  exact⟨h0,hdone l a w hI h0⟩
 | fuel+1,l,a,w,hf,hI=>by
  refine⟨fun h0=>hdone l a w hI h0,fun i hi=>?_⟩
  have h1:=getD_false (ready_spec hi).2.1
  have h2:=count_set _ _ h1
  refine wpOp_mono (fun a' w' h=>wpAny_inv I hstep hdone fuel _ a' w' ?_ h) (hstep l a w hI i hi)
  rw[Array.toList_setIfInBounds]
  omega
end Go.Proofs.YtbfbkmkjcekpaaaGreatDoor
namespace Go.Proofs.YtbfbkmkjcekpaaaGreatDoor
set_option maxRecDepth 100000
open Go.RowKit
structure Mo (S:Nat->Prop) (w w':World):Prop where
 os:w'.os=w.os
 tape:w'.tape=w.tape
 output:w'.output=w.output
 size:w.heap.size<=w'.heap.size
 block:∀k,k<w.heap.size->¬S k->w'.heap[k]?=w.heap[k]?
theorem Mo.refl (S:Nat->Prop) (w:World):Mo S w w:=⟨rfl,rfl,rfl,Nat.le_refl _,fun _ _ _=>rfl⟩
theorem Mo.trans {S S':Nat->Prop} {a b c:World} (h:Mo S a b) (k:Mo S' b c) (hs:∀x,S' x->S x∨a.heap.size<=x):Mo S a c:=
 ⟨k.os.trans h.os,k.tape.trans h.tape,k.output.trans h.output,Nat.le_trans h.size k.size,fun i hi hn=>
  (k.block i (Nat.lt_of_lt_of_le hi h.size) (fun hx=>by rcases hs i hx with h1 | h1;exact hn h1;omega)).trans (h.block i hi hn)⟩
theorem Mo.below {S:Nat->Prop} {w w':World} {B:Nat} (h:Mo S w w') (hk:∀k,S k->B<=k) (hB:B<=w.heap.size):Below B w w':=
 ⟨h.os,h.tape,h.output,h.size,fun k hkB=>h.block k (by omega) (fun hx=>by have:=hk k hx;omega)⟩
theorem Mo.ofBelow {S:Nat->Prop} {w w':World} (h:Below w.heap.size w w'):Mo S w w':=⟨h.os,h.tape,h.output,h.size,fun k hk _=>h.block k hk⟩
theorem Mo.grown {S:Nat->Prop} {a w w':World} {row:Option Nat} (h:Mo S a w) (hg:w.grownBy w' row) (hr:∀k,row=some k->S k∨a.heap.size<=k):Mo S a w':=
 ⟨hg.os.trans h.os,hg.tape.trans h.tape,hg.output.trans h.output,Nat.le_trans h.size hg.size,fun k hk hn=>
  (hg.block k (Nat.lt_of_lt_of_le hk h.size) (fun e=>by rcases hr k e.symm with h1 | h1;exact hn h1;omega)).trans (h.block k hk hn)⟩
theorem Mo.alloc {S:Nat->Prop} {a w:World} (h:Mo S a w) (o:Obj):Mo S a (w.alloc o):=h.grown (World.grownBy_alloc w o none) (fun _ e=>by cases e)
theorem Mo.setCell {S:Nat->Prop} {a w:World} (h:Mo S a w) {p:Addr} (hp:S p.block∨a.heap.size<=p.block) (u:Value):Mo S a (w.setCell p u):=
 ⟨h.os,h.tape,h.output,by simpa using h.size,fun k hk hn=>
  (Below.heap_setCell w p u k (fun e=>by subst e;rcases hp with h1 | h1;exact hn h1;omega)).trans (h.block k hk hn)⟩
end Go.Proofs.YtbfbkmkjcekpaaaGreatDoor
namespace Go.Proofs.YtbfbkmkjcekpaaaGreatDoor
set_option maxRecDepth 100000
open Go.RowKit
def wpOpS (P:Program) (ops:Array Oper) (Q:Exit->Act->World->Prop) (i:Nat) (K:Act->World->Prop) (a:Act) (w:World):Prop:=
 match ops[i]? with
 | none=>K a w
 | some o=>if Region.wanted o (yielded ops a.tmps) then o.wp P a w K Q else K (a.put o.dst undef) w
theorem wpOpS_step {P:Program} {ops:Array Oper} {Q:Exit->Act->World->Prop} {i:Nat} {K:Act->World->Prop} {a:Act} {w:World} {o:Oper} (ho:ops[i]?=some o) (h:∀K':Act->World->Prop,(∀a w,K a w->K' a w)->if Region.wanted o (yielded ops a.tmps) then o.wp P a w K' Q else K' (a.put o.dst undef) w):wpOpS P ops Q i K a w:=by
 unfold wpOpS
 rw[ho]
 exact h K (fun _ _ h=>h)
theorem upon_wide {r n:Nat} {P:Program} {o:Oper} {a:Act} {K K':Act->World->Prop} {Q:Exit->Act->World->Prop} (hK:∀a w,K a w->K' a w):∀{res:Result Next},o.upon P a K Q res->o.uponIn (Fence.wide.inRound r) n P a K' Q res:=by
 intro res h
 match res,h with
 | .ok (.value v) w',h=>exact hK _ _ h
 | .ok .skip w',h=>exact hK _ _ h
 | .ok (.defer d) w',h=>exact hK _ _ h
 | .ok (.enter f args) w',h=>
  refine⟨fun h0=>by simp[Fence.inRound,Fence.wide] at h0,CallsIn.inRound r (callsIn_wide.2 (Calls.mono h ?_))⟩
  rintro (v | ch | _) w2 h2
  ·exact hK _ _ h2
  ·exact h2
  ·exact h2
 | .ok (.row row args) w',h=>
  refine⟨fun h0=>by simp[Fence.inRound,Fence.wide] at h0,fun c cs _=>?_⟩
  obtain⟨v,w2,h1,h2⟩:=h c cs
  exact⟨v,w2,hK _ _ h1,stepsIn_wide.2 h2⟩
 | .ok (.round l f tmps assign body) w',h=>exact h.elim
 | .halt (.panic v) w',h=>exact h
theorem wpAnyIn_inv {r n:Nat} {P:Program} {md:Region.Mode} {ops:Array Oper} {Q:Exit->Act->World->Prop} (hd:∀(i:Nat) o,ops[i]?=some o->∀c,o.op≠.defer c) (I:Array Bool->Act->World->Prop)
  (hstep:∀l a w,I l a w->∀i,i∈Region.ready md ops l->wpOpS P ops Q i (I (l.setIfInBounds i true)) a w)
  (hdone:∀l a w,I l a w->Region.ready md ops l=[]->Q .normal a w) :
  ∀(fuel:Nat) (l:Array Bool) (a:Act) (w:World),l.toList.count false<=fuel->I l a w->wpAnyIn (Fence.wide.inRound r) n P md ops Q fuel l a w
 | 0,l,a,w,hf,hI=>by
  have h0:Region.ready md ops l=[]:=by
   cases e:Region.ready md ops l with
   | nil=>rfl
   | cons i rs=>
    have h1:=getD_false (ready_spec (i:=i) (by rw[e];simp)).2.1
    have h2:=count_set _ _ h1
    omega
  exact⟨h0,hdone l a w hI h0⟩
 | fuel+1,l,a,w,hf,hI=>by
  refine⟨fun h0=>hdone l a w hI h0,fun i hi=>?_⟩
  have h1:=getD_false (ready_spec hi).2.1
  have h2:=count_set _ _ h1
  have h3:=hstep l a w hI i hi
  have hK:∀a' w',I (l.setIfInBounds i true) a' w'->wpAnyIn (Fence.wide.inRound r) n P md ops Q fuel (l.setIfInBounds i true) a' w':=fun a' w' h=>wpAnyIn_inv hd I hstep hdone fuel _ a' w' (by rw[Array.toList_setIfInBounds];omega) h
  unfold wpOpS at h3
  unfold wpOpIn
  cases ho:ops[i]? with
  | none=>
   rw[ho] at h3
   exact hK _ _ h3
  | some o=>
   rw[ho] at h3
   simp only at h3 ⊢
   split
   ·rename_i hw
    rw[if_pos hw] at h3
    refine⟨fun _ _=>trivial,?_⟩
    rw[Oper.semAt_plain _ _ _ (hd i o ho)]
    exact upon_wide hK h3
   ·rename_i hw
    rw[if_neg hw] at h3
    exact⟨fun _ _=>trivial,hK _ _ h3⟩
theorem wpAny_invS {P:Program} {md:Region.Mode} {ops:Array Oper} {Q:Exit->Act->World->Prop} (I:Array Bool->Act->World->Prop)
  (hstep:∀l a w,I l a w->∀i,i∈Region.ready md ops l->wpOpS P ops Q i (I (l.setIfInBounds i true)) a w)
  (hdone:∀l a w,I l a w->Region.ready md ops l=[]->Q .normal a w) (fuel:Nat) (l:Array Bool) (a:Act) (w:World) (hf:l.toList.count false<=fuel) (hI:I l a w):wpAny P md ops Q fuel l a w:=by
 refine wpAny_inv I (fun l a w h i hi=>?_) hdone fuel l a w hf hI
 have h3:=hstep l a w h i hi
 unfold wpOpS at h3
 unfold wpOp
 cases ho:ops[i]? with
 | none=>
  rw[ho] at h3
  exact h3
 | some o=>
  rw[ho] at h3
  simp only at h3 ⊢
  split
  ·rename_i hw
   rw[if_pos hw] at h3
   exact Or.inl h3
  ·rename_i hw
   rw[if_neg hw] at h3
   exact h3
def selV (b:Bool) (v u:Value):Value:=if b then v else u
theorem selV_t (v u:Value):selV true v u=v:=rfl
def bitA (l:Array Bool) (k:Nat):Bool:=l.getD k false
theorem gsetN {N:Nat} (l:Array Bool) (i j:Nat) (hl:l.size=N) (hi:i<N):bitA (l.setIfInBounds i true) j=if i=j then true else bitA l j:=by
 unfold bitA
 simp only[Array.getD_eq_getD_getElem?,Array.getElem?_setIfInBounds]
 split
 ·rename_i e
  rw[if_pos (by omega)]
  rfl
 ·rfl
def Clo (f:Nat->List Nat) (l:Array Bool):Prop:=∀k,bitA l k=true->∀d∈f k,bitA l d=true
theorem Clo.step {N:Nat} {f:Nat->List Nat} {l:Array Bool} (h:Clo f l) (hl:l.size=N) {i:Nat} (hi:i<N) (hd:∀d∈f i,bitA l d=true):Clo f (l.setIfInBounds i true):=fun k hk d hdk=>by
 rw[gsetN l i d hl hi]
 split
 ·rfl
 ·rw[gsetN l i k hl hi] at hk
  by_cases e:i=k
  ·subst e
   exact hd d hdk
  ·rw[if_neg e] at hk
   exact h k hk d hdk
theorem Clo.start (f:Nat->List Nat) (N:Nat):Clo f (Array.replicate N false):=fun k hk=>by
 unfold bitA at hk
 rw[Array.getD_eq_getD_getElem?,Array.getElem?_replicate] at hk
 split at hk <;> cases hk
theorem goppN {N:Nat} {l:Array Bool} {i:Nat} (hl:l.size=N) (hi:i<N):bitA l i=l.getD i true:=by
 have h:i<l.size:=by omega
 simp[bitA,Array.getD_eq_getD_getElem?,h]
theorem dep_at {md:Region.Mode} {ops:Array Oper} {l:Array Bool} {i j:Nat} {o:Oper} {e:Edge} (h:((ops[i]?).map (·.after.all fun e=>!Region.binds md e || l.getD e.on false)).getD false=true) (ho:ops[i]?=some o) (hj:o.after[j]?=some e) (hb:Region.binds md e=true):bitA l e.on=true:=by
 rw[ho,Option.map_some,Option.getD_some,Array.all_eq_true] at h
 obtain⟨hlt,e1⟩:=Array.getElem?_eq_some_iff.1 hj
 have:=h j hlt
 rw[e1,hb] at this
 show l.getD e.on false=true
 simpa using this
theorem noneN {md:Region.Mode} {ops:Array Oper} {l:Array Bool} (h:Region.ready md ops l=[]) {i:Nat} (hi:i<ops.size) (hd:((ops[i]?).map (·.after.all fun e=>!Region.binds md e || l.getD e.on false)).getD false=true):l.getD i true=true:=by
 cases e:l.getD i true with
 | true=>rfl
 | false=>
  have:i∈Region.ready md ops l:=by
   unfold Region.ready
   refine List.mem_filter.2 ⟨List.mem_range.2 hi,?_⟩
   rw[Bool.and_eq_true,e]
   exact⟨rfl,hd⟩
  rw[h] at this
  cases this
end Go.Proofs.YtbfbkmkjcekpaaaGreatDoor
