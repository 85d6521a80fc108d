/- What nodes lead to: plain data. -/
import Derived.OrdersIn
import Derived.OwnWalkIn
import Derived.RangeFuncCalls
import Derived.Test.YtpkojcfdkkjmcaaGreatDoorso01Z
import Derived.Test.YtpkojcfdkkjmcaaGreatDoorso03Z
namespace Go.Proofs.YtpkojcfdkkjmcaaGreatDoor
set_option maxRecDepth 100000
open Go.RowKit
def bindE (E:Nat->Nat) (p:Nat×Nat):Nat->Nat:=fun x=>if E x=p.1 then E p.2 else E x
structure Ld (L:List Nat) (E:Nat->Nat):Prop where
 rng:∀n,n<L.length->L.getD n 0<L.length
 st:∀n,n<L.length->E (L.getD n 0)=E n
 fix:∀n,n<L.length->(L.getD n 0=n↔E n=n)
 out:∀n,L.length<=n->E n=n
 erng:∀n,n<L.length->E n<L.length
 idem:∀n,E (E n)=E n
 rank:∃(r:Nat->Nat) (M:Nat),(∀n,r n<=M)/\∀n,n<L.length->L.getD n 0≠n->r (L.getD n 0)<r n
theorem Ld.nil:Ld [] id:=⟨fun _ h=>by simp at h,fun _ h=>by simp at h,fun _ h=>by simp at h,fun _ _=>rfl,fun _ h=>by simp at h,fun _=>rfl,fun _=>0,0,fun _=>Nat.le_refl _,fun _ h=>by simp at h⟩
theorem getD_snocN {L:List Nat} {v n:Nat}:(L++[v]).getD n 0=if n<L.length then L.getD n 0 else if n=L.length then v else 0:=by
 by_cases h:n<L.length
 ·rw[if_pos h]
  simp[List.getD,List.getElem?_append_left h]
 ·rw[if_neg h]
  by_cases e:n=L.length
  ·subst e;simp[List.getD]
  ·rw[if_neg e]
   simp[List.getD,List.getElem?_eq_none (show (L++[v]).length<=n by simp;omega)]
theorem getD_setN {L:List Nat} {v i n:Nat} (h:i<L.length):(L.set i v).getD n 0=if n=i then v else L.getD n 0:=by
 by_cases e:n=i
 ·subst e
  rw[if_pos rfl]
  simp[List.getD,h]
 ·rw[if_neg e]
  simp[List.getD,Ne.symm e]
theorem Ld.add {L:List Nat} {E:Nat->Nat} (h:Ld L E):Ld (L++[L.length]) E:=by
 have hl:(L++[L.length]).length=L.length+1:=by simp
 refine⟨fun n hn=>?_,fun n hn=>?_,fun n hn=>?_,fun n hn=>?_,fun n hn=>?_,h.idem,?_⟩
 ·rw[hl] at hn ⊢
  rw[getD_snocN]
  split
  ·have:=h.rng n ‹_›;omega
  ·split <;> omega
 ·rw[hl] at hn
  rw[getD_snocN]
  split
  ·exact h.st n ‹_›
  ·rw[if_pos (by omega),show n=L.length by omega]
 ·rw[hl] at hn
  rw[getD_snocN]
  split
  ·exact h.fix n ‹_›
  ·have e:n=L.length:=by omega
   rw[if_pos e,e]
   exact⟨fun _=>h.out _ (Nat.le_refl _),fun _=>rfl⟩
 ·rw[hl] at hn
  exact h.out n (by omega)
 ·rw[hl] at hn ⊢
  by_cases hlt:n<L.length
  ·have:=h.erng n hlt;omega
  ·rw[h.out n (by omega)];omega
 ·obtain⟨r,M,h1,h2⟩:=h.rank
  refine⟨r,M,h1,fun n hn hne=>?_⟩
  rw[hl] at hn
  rw[getD_snocN] at hne ⊢
  by_cases hlt:n<L.length
  ·rw[if_pos hlt] at hne ⊢
   exact h2 n hlt hne
  ·rw[if_neg hlt,if_pos (by omega)] at hne
   omega
theorem Ld.half {L:List Nat} {E:Nat->Nat} (h:Ld L E) {n:Nat} (hn:n<L.length):Ld (L.set n (L.getD (L.getD n 0) 0)) E:=by
 have hl:(L.set n (L.getD (L.getD n 0) 0)).length=L.length:=by simp
 have h1:=h.rng n hn
 obtain⟨r,M,hM,hr⟩:=h.rank
 have hloop:L.getD (L.getD n 0) 0=n->L.getD n 0=n:=fun e=>by
  apply Classical.byContradiction
  intro hne
  have a1:=hr n hn hne
  by_cases e2:L.getD (L.getD n 0) 0=L.getD n 0
  ·exact hne (e2.symm.trans e)
  ·have a2:=hr _ h1 e2
   rw[e] at a2
   omega
 refine⟨fun i hi=>?_,fun i hi=>?_,fun i hi=>?_,fun i hi=>h.out i (by rw[hl] at hi;exact hi),fun i hi=>by rw[hl] at hi ⊢;exact h.erng i hi,h.idem,r,M,hM,fun i hi hne=>?_⟩
 ·rw[hl] at hi ⊢
  rw[getD_setN hn]
  split
  ·exact h.rng _ h1
  ·exact h.rng i hi
 ·rw[hl] at hi
  rw[getD_setN hn]
  split
  ·rename_i e
   rw[h.st _ h1,h.st n hn,e]
  ·exact h.st i hi
 ·rw[hl] at hi
  rw[getD_setN hn]
  split
  ·rename_i e
   subst e
   refine⟨fun e=>(h.fix i hn).1 (hloop e),fun e=>?_⟩
   have e1:=(h.fix i hn).2 e
   rw[e1,e1]
  ·exact h.fix i hi
 ·rw[hl] at hi
  rw[getD_setN hn] at hne ⊢
  split
  ·rename_i e
   subst e
   rw[if_pos rfl] at hne
   have e1:L.getD i 0≠i:=fun e=>hne (by rw[e,e])
   have a1:=hr i hn e1
   by_cases e2:L.getD (L.getD i 0) 0=L.getD i 0
   ·rw[e2];exact a1
   ·have a2:=hr _ h1 e2
    omega
  ·rename_i e
   rw[if_neg e] at hne
   exact hr i hi hne
theorem Ld.bind {L:List Nat} {E:Nat->Nat} (h:Ld L E) {p:Nat×Nat} (h1:p.1<L.length) (h2:p.2<L.length) (hs:E p.1=p.1) (hne:E p.2≠p.1):Ld (L.set p.1 p.2) (bindE E p):=by
 have hl:(L.set p.1 p.2).length=L.length:=by simp
 obtain⟨r,M,hM,hr⟩:=h.rank
 have hEE:∀x,bindE E p x=if E x=p.1 then E p.2 else E x:=fun x=>rfl
 have h2':bindE E p p.2=E p.2:=by rw[hEE,if_neg hne]
 have hrne:p.2≠p.1:=fun e=>hne (by rw[e];exact hs)
 refine⟨fun i hi=>?_,fun i hi=>?_,fun i hi=>?_,fun i hi=>?_,fun i hi=>?_,fun i=>?_,fun x=>if E x=p.1 then r x+M+1 else r x,M+M+1,fun x=>?_,fun i hi hx=>?_⟩
 ·rw[hl] at hi ⊢
  rw[getD_setN h1]
  split
  ·exact h2
  ·exact h.rng i hi
 ·rw[hl] at hi
  rw[getD_setN h1]
  split
  ·rename_i e
   rw[h2',e,hEE,if_pos hs]
  ·rw[hEE,hEE,h.st i hi]
 ·rw[hl] at hi
  rw[getD_setN h1]
  split
  ·rename_i e
   rw[e,hEE,if_pos hs]
   exact⟨fun e=>absurd e hrne,fun e=>absurd e hne⟩
  ·rename_i e
   rw[hEE]
   split
   ·rename_i e2
    refine⟨fun e3=>?_,fun e3=>?_⟩
    ·have:=(h.fix i hi).1 e3
     omega
    ·have h4:=h.idem p.2
     rw[e3] at h4
     omega
   ·exact h.fix i hi
 ·rw[hl] at hi
  have:=h.out i hi
  rw[hEE,if_neg (by omega)]
  exact this
 ·rw[hl] at hi ⊢
  rw[hEE]
  split
  ·exact h.erng _ h2
  ·exact h.erng i hi
 ·rw[hEE i]
  split
  ·rw[hEE,h.idem,if_neg hne]
  ·rename_i e
   rw[hEE,h.idem,if_neg e]
 ·have:=hM x
  show (if E x=p.1 then r x+M+1 else r x)<=_
  split <;> omega
 ·rw[hl] at hi
  rw[getD_setN h1] at hx ⊢
  split
  ·rename_i e
   subst e
   show (if E p.2=p.1 then _ else r p.2)<(if E p.1=p.1 then r p.1+M+1 else _)
   rw[if_neg hne,if_pos hs]
   have:=hM p.2
   omega
  ·rename_i e
   rw[if_neg e] at hx
   have:=hr i hi hx
   show (if E (L.getD i 0)=p.1 then _ else _)<(if E i=p.1 then _ else _)
   rw[h.st i hi]
   split <;> omega
end Go.Proofs.YtpkojcfdkkjmcaaGreatDoor
namespace Go.Proofs.YtpkojcfdkkjmcaaGreatDoor
set_option maxRecDepth 100000
open Go.RowKit
def ndN (ns:List Nd) (x:Nat):Nd:=ns.getD x nd0
def argN (ns:List Nd) (x k:Nat):Nat:=((ndN ns x).args.getD k 0).toNat
def labS (m n:Nd):Prop:=m.kind=n.kind/\m.name=n.name/\m.num=n.num/\m.args.length=n.args.length
theorem labS.symm {m n:Nd} (h:labS m n):labS n m:=⟨h.1.symm,h.2.1.symm,h.2.2.1.symm,h.2.2.2.symm⟩
theorem labS.trans {l m n:Nd} (h:labS l m) (k:labS m n):labS l n:=⟨h.1.trans k.1,h.2.1.trans k.2.1,h.2.2.1.trans k.2.2.1,h.2.2.2.trans k.2.2.2⟩
theorem labS.refl (m:Nd):labS m m:=⟨rfl,rfl,rfl,rfl⟩
structure Eq3 (R:Nat->Nat->Prop):Prop where
 refl:∀x,R x x
 symm:∀x y,R x y->R y x
 trans:∀x y z,R x y->R y z->R x z
structure Cg (ns:List Nd) (R:Nat->Nat->Prop):Prop extends Eq3 R where
 lab:∀x y,x<ns.length->y<ns.length->R x y->(ndN ns x).kind≠1->(ndN ns y).kind≠1->labS (ndN ns x) (ndN ns y)/\∀k,k<(ndN ns x).args.length->R (argN ns x k) (argN ns y k)
def Gnf (E:Nat->Nat) (todo:List (Nat×Nat)) (u v:Nat):Prop:=∀R,Eq3 R->(∀x y,E x=E y->R x y)->(∀p∈todo,R p.1 p.2)->R u v
structure GoodA (ns:List Nd):Prop where
 arg:∀x,x<ns.length->∀k,k<(ndN ns x).args.length->0<=(ndN ns x).args.getD k 0/\argN ns x k<ns.length
 var:∀x,(ndN ns x).kind=1->(ndN ns x).args=[]
 few:∀x,(ndN ns x).args.length<=8
structure Un (ns:List Nd) (P:List (Nat×Nat)) (E:Nat->Nat) (todo:List (Nat×Nat)):Prop where
 rng:∀x,x<ns.length->E x<ns.length
 idem:∀x,E (E x)=E x
 min:∀R,Cg ns R->(∀p∈P,R p.1 p.2)->(∀x y,E x=E y->R x y)/\∀p∈todo,R p.1 p.2
 tr:∀p∈todo,p.1<ns.length/\p.2<ns.length
 rep:∀x,x<ns.length->(ndN ns x).kind≠1->(ndN ns (E x)).kind≠1/\labS (ndN ns x) (ndN ns (E x))/\∀k,k<(ndN ns x).args.length->Gnf E todo (argN ns x k) (argN ns (E x) k)
 got:∀p∈P,Gnf E todo p.1 p.2
theorem Un.init (ns:List Nd):Un ns [] id []:=
 ⟨fun _ h=>h,fun _=>rfl,fun R hR _=>⟨fun x y e=>(show x=y from e) ▸ hR.refl x,fun p h=>(by cases h)⟩,fun p h=>(by cases h),fun x _ hk=>⟨hk,labS.refl _,fun k _ R hR _ _=>hR.refl _⟩,fun p h=>(by cases h)⟩
theorem Gnf.mono {E:Nat->Nat} {t t':List (Nat×Nat)} {u v:Nat} (h:Gnf E t u v) (ht:∀p∈t,p∈t'):Gnf E t' u v:=fun R hR hk hp=>h R hR hk (fun p hq=>hp p (ht p hq))
theorem Un.pair {ns:List Nd} {P:List (Nat×Nat)} {E:Nat->Nat} (h:Un ns P E []) {i j:Nat} (hi:i<ns.length) (hj:j<ns.length):Un ns (P++[(i,j)]) E [(i,j)]:=by
 refine⟨h.rng,h.idem,fun R hR hp=>⟨(h.min R hR (fun p hq=>hp p (by simp[hq]))).1,fun p hq=>?_⟩,fun p hq=>?_,fun x hx hk=>?_,fun p hq=>?_⟩
 ·have e:p=(i,j):=by simpa using hq
  subst e
  exact hp (i,j) (by simp)
 ·have e:p=(i,j):=by simpa using hq
  subst e
  exact⟨hi,hj⟩
 ·obtain⟨h1,h2,h3⟩:=h.rep x hx hk
  exact⟨h1,h2,fun k hk=>(h3 k hk).mono (by simp)⟩
 ·rcases List.mem_append.1 hq with e | e
  ·exact (h.got p e).mono (by simp)
  ·exact fun R _ _ ht=>ht p e
theorem Un.skip {ns:List Nd} {P:List (Nat×Nat)} {E:Nat->Nat} {todo:List (Nat×Nat)} {a b:Nat} (h:Un ns P E (todo++[(a,b)])) (he:E a=E b):Un ns P E todo:=by
 have hm:∀{u v:Nat},Gnf E (todo++[(a,b)]) u v->Gnf E todo u v:=fun hg R hR hk hp=>hg R hR hk (fun p hq=>by
  rcases List.mem_append.1 hq with e | e
  ·exact hp p e
  ·have e1:p=(a,b):=by simpa using e
   subst e1
   exact hk a b he)
 refine⟨h.rng,h.idem,fun R hR hp=>⟨(h.min R hR hp).1,fun p hq=>(h.min R hR hp).2 p (by simp[hq])⟩,fun p hq=>h.tr p (by simp[hq]),fun x hx hk=>?_,fun p hq=>hm (h.got p hq)⟩
 obtain⟨h1,h2,h3⟩:=h.rep x hx hk
 exact⟨h1,h2,fun k hk=>hm (h3 k hk)⟩
def newsF (ns:List Nd) (keep drop:Nat):Nat->List (Nat×Nat)
 | 0=>[]
 | k+1=>newsF ns keep drop k++[(argN ns keep k,argN ns drop k)]
theorem newsF_mem {ns:List Nd} {keep drop:Nat}:∀{n:Nat} {p:Nat×Nat},p∈newsF ns keep drop n↔∃k,k<n/\p=(argN ns keep k,argN ns drop k)
 | 0,p=>⟨fun h=>(by cases h),fun⟨k,h,_⟩=>absurd h (Nat.not_lt_zero _)⟩
 | n+1,p=>by
  rw[newsF,List.mem_append,newsF_mem (n:=n)]
  constructor
  ·rintro (⟨k,hk,e⟩ | h)
   ·exact⟨k,by omega,e⟩
   ·exact⟨n,by omega,by simpa using h⟩
  ·rintro⟨k,hk,e⟩
   by_cases hn:k<n
   ·exact Or.inl ⟨k,hn,e⟩
   ·have e1:k=n:=by omega
    subst e1
    exact Or.inr (by simp[e])
theorem newsF_len (ns:List Nd) (keep drop:Nat):∀n,(newsF ns keep drop n).length=n
 | 0=>rfl
 | n+1=>by rw[newsF,List.length_append,newsF_len ns keep drop n];rfl
theorem Un.bind {ns:List Nd} (hA:GoodA ns) {P:List (Nat×Nat)} {E:Nat->Nat} {todo:List (Nat×Nat)} {a b keep drop:Nat} (h:Un ns P E (todo++[(a,b)])) (hkd:(keep=E a/\drop=E b)∨(keep=E b/\drop=E a)) (hne:keep≠drop)
  (hl:(ndN ns drop).kind=1∨((ndN ns drop).kind≠1/\(ndN ns keep).kind≠1/\labS (ndN ns keep) (ndN ns drop))):Un ns P (bindE E (drop,keep)) (todo++newsF ns keep drop (ndN ns drop).args.length):=by
 have hab:=h.tr (a,b) (by simp)
 have hEk:E keep=keep:=by rcases hkd with⟨e,_⟩ | ⟨e,_⟩ <;> rw[e,h.idem]
 have hEd:E drop=drop:=by rcases hkd with⟨_,e⟩ | ⟨_,e⟩ <;> rw[e,h.idem]
 have hkN:keep<ns.length:=by rcases hkd with⟨e,_⟩ | ⟨e,_⟩ <;> rw[e];exact h.rng _ hab.1;exact h.rng _ hab.2
 have hdN:drop<ns.length:=by rcases hkd with⟨_,e⟩ | ⟨_,e⟩ <;> rw[e];exact h.rng _ hab.2;exact h.rng _ hab.1
 have hE':∀x,bindE E (drop,keep) x=if E x=drop then keep else E x:=fun x=>by
  show (if E x=drop then E keep else E x)=_
  rw[hEk]
 have hker:∀x y,E x=E y->bindE E (drop,keep) x=bindE E (drop,keep) y:=fun x y e=>by rw[hE',hE',e]
 have hpr:bindE E (drop,keep) a=bindE E (drop,keep) b:=by
  rw[hE',hE']
  rcases hkd with⟨e1,e2⟩ | ⟨e1,e2⟩
  ·rw[if_neg (fun e=>hne (by rw[e1,e])),if_pos e2.symm,e1]
  ·rw[if_pos e2.symm,if_neg (fun e=>hne (by rw[e1,e])),e1]
 have hmono:∀{u v:Nat},Gnf E (todo++[(a,b)]) u v->Gnf (bindE E (drop,keep)) (todo++newsF ns keep drop (ndN ns drop).args.length) u v:=fun hg R hR hk hp=>hg R hR (fun x y e=>hk x y (hker x y e)) (fun p hq=>by
  rcases List.mem_append.1 hq with e | e
  ·exact hp p (by simp[e])
  ·have e1:p=(a,b):=by simpa using e
   subst e1
   exact hk a b hpr)
 refine⟨fun x hx=>?_,fun x=>?_,fun R hR hp=>?_,fun p hq=>?_,fun x hx hk=>?_,fun p hq=>hmono (h.got p hq)⟩
 ·rw[hE']
  split
  ·exact hkN
  ·exact h.rng x hx
 ·rw[hE' x]
  split
  ·rw[hE',hEk,if_neg hne]
  ·rename_i e
   rw[hE',h.idem,if_neg e]
 ·obtain⟨h1,h2⟩:=h.min R hR hp
  have hRab:=h2 (a,b) (by simp)
  have hRkd:R keep drop:=by
   rcases hkd with⟨e1,e2⟩ | ⟨e1,e2⟩
   ·exact hR.trans _ a _ (h1 _ _ (by rw[hEk,e1])) (hR.trans _ b _ hRab (h1 _ _ (by rw[hEd,e2])))
   ·exact hR.trans _ b _ (h1 _ _ (by rw[hEk,e1])) (hR.trans _ a _ (hR.symm _ _ hRab) (h1 _ _ (by rw[hEd,e2])))
  have hto:∀x,R x (bindE E (drop,keep) x):=fun x=>by
   rw[hE']
   split
   ·rename_i e
    exact hR.trans _ drop _ (h1 _ _ (by rw[e,hEd])) (hR.symm _ _ hRkd)
   ·exact h1 _ _ (h.idem x).symm
  refine⟨fun x y e=>hR.trans _ _ _ (hto x) (by rw[e];exact hR.symm _ _ (hto y)),fun p hq=>?_⟩
  rcases List.mem_append.1 hq with e | e
  ·exact h2 p (by simp[e])
  ·obtain⟨k,hk,rfl⟩:=newsF_mem.1 e
   rcases hl with hv | ⟨hd,hkk,hlab⟩
   ·rw[hA.var drop hv] at hk
    exact absurd hk (Nat.not_lt_zero _)
   ·exact (hR.lab keep drop hkN hdN hRkd hkk hd).2 k (by rw[hlab.2.2.2];exact hk)
 ·rcases List.mem_append.1 hq with e | e
  ·exact h.tr p (by simp[e])
  ·obtain⟨k,hk,rfl⟩:=newsF_mem.1 e
   rcases hl with hv | ⟨hd,hkk,hlab⟩
   ·rw[hA.var drop hv] at hk
    exact absurd hk (Nat.not_lt_zero _)
   ·exact⟨(hA.arg keep hkN k (by rw[hlab.2.2.2];exact hk)).2,(hA.arg drop hdN k hk).2⟩
 ·obtain⟨h1,h2,h3⟩:=h.rep x hx hk
  by_cases e:E x=drop
  ·have e1:bindE E (drop,keep) x=keep:=by rw[hE',if_pos e]
   rw[e] at h1 h2 h3
   rcases hl with hv | ⟨hd,hkk,hlab⟩
   ·exact absurd hv h1
   ·rw[e1]
    refine⟨hkk,h2.trans hlab.symm,fun k hk R hR hkr hp=>?_⟩
    have g1:=hmono (h3 k hk) R hR hkr hp
    have g2:=hp (argN ns keep k,argN ns drop k) (by
     rw[List.mem_append]
     exact Or.inr (newsF_mem.2 ⟨k,by rw[←h2.2.2.2];exact hk,rfl⟩))
    exact hR.trans _ _ _ g1 (hR.symm _ _ g2)
  ·have e1:bindE E (drop,keep) x=E x:=by rw[hE',if_neg e]
   rw[e1]
   exact⟨h1,h2,fun k hk=>hmono (h3 k hk)⟩
def NoSol (ns:List Nd) (P:List (Nat×Nat)):Prop:=∀R,Cg ns R->(∀p∈P,R p.1 p.2)->False
theorem Un.fail {ns:List Nd} {P:List (Nat×Nat)} {E:Nat->Nat} {todo:List (Nat×Nat)} {a b keep drop:Nat} (h:Un ns P E (todo++[(a,b)])) (hkd:(keep=E a/\drop=E b)∨(keep=E b/\drop=E a)) (hd:(ndN ns drop).kind≠1) (hk:(ndN ns keep).kind≠1) (hl:¬labS (ndN ns keep) (ndN ns drop)):NoSol ns P:=fun R hR hp=>by
 obtain⟨h1,h2⟩:=h.min R hR hp
 have hab:=h.tr (a,b) (by simp)
 have hRab:=h2 (a,b) (by simp)
 have ha:R a (E a):=h1 _ _ (h.idem a).symm
 have hb:R b (E b):=h1 _ _ (h.idem b).symm
 have hE:R (E a) (E b):=hR.trans _ _ _ (hR.symm _ _ ha) (hR.trans _ _ _ hRab hb)
 rcases hkd with⟨rfl,rfl⟩ | ⟨rfl,rfl⟩
 ·exact hl (hR.lab _ _ (h.rng _ hab.1) (h.rng _ hab.2) hE hk hd).1
 ·exact hl (hR.lab _ _ (h.rng _ hab.2) (h.rng _ hab.1) (hR.symm _ _ hE) hk hd).1
theorem NoSol.more {ns:List Nd} {P Q:List (Nat×Nat)} (h:NoSol ns P) (hq:∀p∈P,p∈Q):NoSol ns Q:=fun R hR hp=>h R hR (fun p hm=>hp p (hq p hm))
theorem Un.done {ns:List Nd} {P:List (Nat×Nat)} {E:Nat->Nat} (h:Un ns P E []):Cg ns (fun x y=>E x=E y)/\(∀p∈P,E p.1=E p.2)/\∀R,Cg ns R->(∀p∈P,R p.1 p.2)->∀x y,E x=E y->R x y:=by
 have h3:Eq3 (fun x y=>E x=E y):=⟨fun _=>rfl,fun _ _ e=>e.symm,fun _ _ _ e f=>e.trans f⟩
 have hg:∀{u v:Nat},Gnf E [] u v->E u=E v:=fun hg=>hg (fun x y=>E x=E y) h3 (fun _ _ e=>e) (fun p hp=>by cases hp)
 refine⟨⟨h3,fun x y hx hy e hkx hky=>?_⟩,fun p hp=>hg (h.got p hp),fun R hR hp=>(h.min R hR hp).1⟩
 obtain⟨a1,a2,a3⟩:=h.rep x hx hkx
 obtain⟨b1,b2,b3⟩:=h.rep y hy hky
 have e':E x=E y:=e
 rw[e'] at a1 a2 a3
 refine⟨a2.trans b2.symm,fun k hk=>?_⟩
 exact (hg (a3 k hk)).trans (hg (b3 k (by have q1:=b2.2.2.2;have q2:=a2.2.2.2;omega))).symm
def fixN (E:Nat->Nat):Nat->Nat
 | 0=>0
 | n+1=>fixN E n+if E n=n then 1 else 0
theorem fixN_le {E E':Nat->Nat} (h:∀x,E' x=x->E x=x):∀n,fixN E' n<=fixN E n
 | 0=>Nat.le_refl _
 | n+1=>by
  have:=fixN_le h n
  rw[fixN,fixN]
  by_cases e:E' n=n
  ·rw[if_pos e,if_pos (h n e)];omega
  ·rw[if_neg e];omega
theorem fixN_lt {E E':Nat->Nat} (h:∀x,E' x=x->E x=x) {d:Nat} (hd:E d=d) (hd':E' d≠d):∀n,d<n->fixN E' n<fixN E n
 | 0,h0=>absurd h0 (Nat.not_lt_zero _)
 | n+1,hn=>by
  rw[fixN,fixN]
  by_cases e:d=n
  ·subst e
   have:=fixN_le h d
   rw[if_neg hd',if_pos hd]
   omega
  ·have:=fixN_lt h hd hd' n (by omega)
   by_cases e2:E' n=n
   ·rw[if_pos e2,if_pos (h n e2)];omega
   ·rw[if_neg e2];omega
theorem fixN_bind {E:Nat->Nat} {keep drop n:Nat} (hk:E keep=keep) (hd:E drop=drop) (hne:keep≠drop) (hn:drop<n):fixN (bindE E (drop,keep)) n<fixN E n:=by
 have hE':∀x,bindE E (drop,keep) x=if E x=drop then keep else E x:=fun x=>by
  show (if E x=drop then E keep else E x)=_
  rw[hk]
 refine fixN_lt (fun x e=>?_) hd (by rw[hE',if_pos hd];exact hne) n hn
 rw[hE'] at e
 split at e
 ·rename_i e2
  subst e
  exact hk
 ·exact e
theorem fixN_top (E:Nat->Nat):∀n,fixN E n<=n
 | 0=>Nat.le_refl _
 | n+1=>by
  have:=fixN_top E n
  rw[fixN]
  split <;> omega
end Go.Proofs.YtpkojcfdkkjmcaaGreatDoor
namespace Go.Proofs.YtpkojcfdkkjmcaaGreatDoor
set_option maxRecDepth 100000
open Go.RowKit
structure Mo (S:Nat->Prop) (w w':World):Prop where
 os:w'.os=w.os
 tape:w'.tape=w.tape
 output:w'.output=w.output
 size:w.heap.size<=w'.heap.size
 block:∀k,k<w.heap.size->¬S k->w'.heap[k]?=w.heap[k]?
theorem Mo.refl (S:Nat->Prop) (w:World):Mo S w w:=⟨rfl,rfl,rfl,Nat.le_refl _,fun _ _ _=>rfl⟩
theorem Mo.trans {S S':Nat->Prop} {a b c:World} (h:Mo S a b) (k:Mo S' b c) (hs:∀x,S' x->S x∨a.heap.size<=x):Mo S a c:=
 ⟨k.os.trans h.os,k.tape.trans h.tape,k.output.trans h.output,Nat.le_trans h.size k.size,fun i hi hn=>
  (k.block i (Nat.lt_of_lt_of_le hi h.size) (fun hx=>by rcases hs i hx with h1 | h1;exact hn h1;omega)).trans (h.block i hi hn)⟩
theorem Mo.below {S:Nat->Prop} {w w':World} {B:Nat} (h:Mo S w w') (hk:∀k,S k->B<=k) (hB:B<=w.heap.size):Below B w w':=
 ⟨h.os,h.tape,h.output,h.size,fun k hkB=>h.block k (by omega) (fun hx=>by have:=hk k hx;omega)⟩
theorem Mo.ofBelow {S:Nat->Prop} {w w':World} (h:Below w.heap.size w w'):Mo S w w':=⟨h.os,h.tape,h.output,h.size,fun k hk _=>h.block k hk⟩
theorem Mo.grown {S:Nat->Prop} {a w w':World} {row:Option Nat} (h:Mo S a w) (hg:w.grownBy w' row) (hr:∀k,row=some k->S k∨a.heap.size<=k):Mo S a w':=
 ⟨hg.os.trans h.os,hg.tape.trans h.tape,hg.output.trans h.output,Nat.le_trans h.size hg.size,fun k hk hn=>
  (hg.block k (Nat.lt_of_lt_of_le hk h.size) (fun e=>by rcases hr k e.symm with h1 | h1;exact hn h1;omega)).trans (h.block k hk hn)⟩
theorem Mo.alloc {S:Nat->Prop} {a w:World} (h:Mo S a w) (o:Obj):Mo S a (w.alloc o):=h.grown (World.grownBy_alloc w o none) (fun _ e=>by cases e)
theorem Mo.setCell {S:Nat->Prop} {a w:World} (h:Mo S a w) {p:Addr} (hp:S p.block∨a.heap.size<=p.block) (u:Value):Mo S a (w.setCell p u):=
 ⟨h.os,h.tape,h.output,by simpa using h.size,fun k hk hn=>
  (Below.heap_setCell w p u k (fun e=>by subst e;rcases hp with h1 | h1;exact hn h1;omega)).trans (h.block k hk hn)⟩
theorem Mo.drew {S:Nat->Prop} {a w:World} (h:Mo S a w):Mo S a w.drew:=⟨h.os,h.tape,h.output,h.size,h.block⟩
theorem Mo.weak {S S':Nat->Prop} {w w':World} (h:Mo S w w') (hs:∀x,S x->S' x∨w.heap.size<=x):Mo S' w w':=(Mo.refl S' w).trans h hs
end Go.Proofs.YtpkojcfdkkjmcaaGreatDoor
namespace Go.Proofs.YtpkojcfdkkjmcaaGreatDoor
set_option maxRecDepth 100000
open Go.RowKit
def wpOpS (P:Program) (ops:Array Oper) (Q:Exit->Act->World->Prop) (i:Nat) (K:Act->World->Prop) (a:Act) (w:World):Prop:=
 match ops[i]? with
 | none=>K a w
 | some o=>if Region.wanted o (yielded ops a.tmps) then o.wp P a w K Q else K (a.put o.dst undef) w
theorem wpOpS_step {P:Program} {ops:Array Oper} {Q:Exit->Act->World->Prop} {i:Nat} {K:Act->World->Prop} {a:Act} {w:World} {o:Oper} (ho:ops[i]?=some o) (h:∀K':Act->World->Prop,(∀a w,K a w->K' a w)->if Region.wanted o (yielded ops a.tmps) then o.wp P a w K' Q else K' (a.put o.dst undef) w):wpOpS P ops Q i K a w:=by
 unfold wpOpS
 rw[ho]
 exact h K (fun _ _ h=>h)
theorem wpAny_invS {P:Program} {md:Region.Mode} {ops:Array Oper} {Q:Exit->Act->World->Prop} (I:Array Bool->Act->World->Prop)
  (hstep:∀l a w,I l a w->∀i,i∈Region.ready md ops l->wpOpS P ops Q i (I (l.setIfInBounds i true)) a w)
  (hdone:∀l a w,I l a w->Region.ready md ops l=[]->Q .normal a w) (fuel:Nat) (l:Array Bool) (a:Act) (w:World) (hf:l.toList.count false<=fuel) (hI:I l a w):wpAny P md ops Q fuel l a w:=by
 refine wpAny_inv I (fun l a w h i hi=>?_) hdone fuel l a w hf hI
 have h3:=hstep l a w h i hi
 unfold wpOpS at h3
 unfold wpOp
 cases ho:ops[i]? with
 | none=>
  rw[ho] at h3
  exact h3
 | some o=>
  rw[ho] at h3
  simp only at h3 ⊢
  split
  ·rename_i hw
   rw[if_pos hw] at h3
   exact Or.inl h3
  ·rename_i hw
   rw[if_neg hw] at h3
   exact h3
def selV (b:Bool) (v u:Value):Value:=if b then v else u
theorem selV_t (v u:Value):selV true v u=v:=rfl
def bitA (l:Array Bool) (k:Nat):Bool:=l.getD k false
theorem gsetN {N:Nat} (l:Array Bool) (i j:Nat) (hl:l.size=N) (hi:i<N):bitA (l.setIfInBounds i true) j=if i=j then true else bitA l j:=by
 unfold bitA
 simp only[Array.getD_eq_getD_getElem?,Array.getElem?_setIfInBounds]
 split
 ·rename_i e
  rw[if_pos (by omega)]
  rfl
 ·rfl
def Clo (f:Nat->List Nat) (l:Array Bool):Prop:=∀k,bitA l k=true->∀d∈f k,bitA l d=true
theorem Clo.step {N:Nat} {f:Nat->List Nat} {l:Array Bool} (h:Clo f l) (hl:l.size=N) {i:Nat} (hi:i<N) (hd:∀d∈f i,bitA l d=true):Clo f (l.setIfInBounds i true):=fun k hk d hdk=>by
 rw[gsetN l i d hl hi]
 split
 ·rfl
 ·rw[gsetN l i k hl hi] at hk
  by_cases e:i=k
  ·subst e
   exact hd d hdk
  ·rw[if_neg e] at hk
   exact h k hk d hdk
theorem Clo.start (f:Nat->List Nat) (N:Nat):Clo f (Array.replicate N false):=fun k hk=>by
 unfold bitA at hk
 rw[Array.getD_eq_getD_getElem?,Array.getElem?_replicate] at hk
 split at hk <;> cases hk
theorem goppN {N:Nat} {l:Array Bool} {i:Nat} (hl:l.size=N) (hi:i<N):bitA l i=l.getD i true:=by
 have h:i<l.size:=by omega
 simp[bitA,Array.getD_eq_getD_getElem?,h]
theorem dep_at {md:Region.Mode} {ops:Array Oper} {l:Array Bool} {i j:Nat} {o:Oper} {e:Edge} (h:((ops[i]?).map (·.after.all fun e=>!Region.binds md e || l.getD e.on false)).getD false=true) (ho:ops[i]?=some o) (hj:o.after[j]?=some e) (hb:Region.binds md e=true):bitA l e.on=true:=by
 rw[ho,Option.map_some,Option.getD_some,Array.all_eq_true] at h
 obtain⟨hlt,e1⟩:=Array.getElem?_eq_some_iff.1 hj
 have:=h j hlt
 rw[e1,hb] at this
 show l.getD e.on false=true
 simpa using this
theorem noneN {md:Region.Mode} {ops:Array Oper} {l:Array Bool} (h:Region.ready md ops l=[]) {i:Nat} (hi:i<ops.size) (hd:((ops[i]?).map (·.after.all fun e=>!Region.binds md e || l.getD e.on false)).getD false=true):l.getD i true=true:=by
 cases e:l.getD i true with
 | true=>rfl
 | false=>
  have:i∈Region.ready md ops l:=by
   unfold Region.ready
   refine List.mem_filter.2 ⟨List.mem_range.2 hi,?_⟩
   rw[Bool.and_eq_true,e]
   exact⟨rfl,hd⟩
  rw[h] at this
  cases this
end Go.Proofs.YtpkojcfdkkjmcaaGreatDoor
