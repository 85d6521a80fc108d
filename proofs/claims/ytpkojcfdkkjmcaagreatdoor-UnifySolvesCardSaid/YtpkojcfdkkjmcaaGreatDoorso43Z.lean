/- Package unify: join, as plain data. -/
import Derived.Test.YtpkojcfdkkjmcaaGreatDoorso41Z
import Derived.Test.YtpkojcfdkkjmcaaGreatDoorso39Z
import Derived.Test.YtpkojcfdkkjmcaaGreatDoorso07Z
namespace Go.Proofs.YtpkojcfdkkjmcaaGreatDoor
set_option maxRecDepth 100000
open Go.RowKit Go.Maps
section
variable {l:List Int} {V:Nat->Bool} {nm:List ByteArray}
theorem args_cel (hs:Snd l V) {ns:List ByteArray} {t:Int} (ht:Tw l ns t):∀c∈tdL l t,cellB l c=true:=fun c hc=>by
 unfold tdL at hc
 split at hc
 ·rename_i h3
  obtain⟨_,hy,h4,hg,_⟩:=ht.str h3
  have h4':wdN l (valOf t).toNat % 8=4:=h4
  have hfv:=fun_val (wdN l (valOf t).toNat) hg h4'
  obtain⟨a1,a2⟩:=hs.args _ hy h4
  unfold rchL at hc
  rw[if_neg (by omega),if_pos h4'] at hc
  obtain⟨i,hi,rfl⟩:=List.mem_map.1 hc
  rw[List.mem_range] at hi
  have h9:=a2 (i+1) (by omega) (by unfold arN' vlN;omega)
  unfold arN' vlN at a1
  unfold hdN tgN wdN at h9
  unfold cellB inB
  rw[Int.toNat_natCast,show (valOf t).toNat+1+i=(valOf t).toNat+(i+1) by omega]
  simp only[Bool.and_eq_true,decide_eq_true_eq]
  refine⟨⟨by omega,fun h=>h9 (Or.inl h)⟩,fun h=>h9 (Or.inr h)⟩
 ·cases hc
def LtN (l:List Int) (x y:Nat):Prop:=(tdK ((utT l).getD x 0)=1/\tdK ((utT l).getD y 0)≠1)∨(tdK ((utT l).getD x 0)=tdK ((utT l).getD y 0)/\tdA ((utT l).getD y 0)<tdA ((utT l).getD x 0))
theorem LtN.trans {x y z:Nat} (h:LtN l x y) (h2:LtN l y z):LtN l x z:=by
 unfold LtN at *
 omega
theorem Led1.lt (hs:Snd l V) (hn:NsB l nm.length) (hl:l.length<=65536) {f t:Nat} (hf:f<l.length) (ht:t<l.length) (h:Led1 l nm f t):LtN l (utI l f) (utI l t):=by
 have hne:tdA (trmW l f)≠tdA (trmW l t):=fun e=>h.ne ((utI_eq hf ht).2 (at_inj hs hn hl hf ht h.a0 e))
 have ho:=h.ord
 unfold ordU at ho
 simp only[Bool.or_eq_false_iff,Bool.and_eq_false_iff,decide_eq_false_iff_not,Bool.not_eq_false',decide_eq_true_eq] at ho
 unfold LtN
 rw[utI_at hf,utI_at ht]
 rcases h.kd with hk | ⟨hk,hk2,hlab⟩
 ·omega
 ·have:=hlab.1
  omega
def ndU (l:List Int) (td:List (Nat×Nat)):List (Nat×Nat):=td.map (fun p=>(utI l p.1,utI l p.2))
structure Jn (l:List Int) (nm:List ByteArray) (P:List (Nat×Nat)) (E:Nat->Nat) (ls:List (Nat×Value)) (td:List (Nat×Nat)) (i:Nat):Prop where
 un:Un (utN l nm) P E (ndU l (td.drop i))
 cel:∀p∈td,(p.1<l.length/\cellB l (p.1:Int)=true)/\p.2<l.length/\cellB l (p.2:Int)=true
 cnt:ls.length+fixN E (utT l).length<=(utT l).length
 sum:td.length+8*fixN E (utT l).length<=1+8*(utT l).length
 le:i<=td.length
 ord:∀x,x<(utT l).length->E x≠x->LtN l x (E x)
 mem:∀x,x<(utT l).length->(E x≠x↔∃p∈ls,utI l p.1=x)
 nd:(ls.map (fun p=>utI l p.1)).Nodup
theorem ndU_drop {td:List (Nat×Nat)} {i:Nat} (hi:i<td.length):ndU l (td.drop i)=(utI l (td.getD i (0,0)).1,utI l (td.getD i (0,0)).2)::ndU l (td.drop (i+1)):=by
 rw[List.drop_eq_getElem_cons hi]
 unfold ndU
 rw[List.map_cons]
 have e:td.getD i (0,0)=td[i]:=by simp[List.getD,hi]
 rw[e]
theorem Jn.step {P:List (Nat×Nat)} {E E':Nat->Nat} {ls ls':List (Nat×Value)} {td td':List (Nat×Nat)} {i c d:Nat} {ok:Bool} (hs:Snd l V) (hn:NsB l nm.length) (hl:l.length<=65536) (h:Jn l nm P E ls td i) (hi:i<td.length) (hM:Met l nm c d E ls td ok E' ls' td') (hc:c<l.length) (hd:d<l.length) (ec:utI l c=E (utI l (td.getD i (0,0)).1)) (ed:utI l d=E (utI l (td.getD i (0,0)).2)) :
  (ok=true->Jn l nm P E' ls' td' (i+1)/\9*fixN E' (utT l).length+(td'.length-(i+1))<9*fixN E (utT l).length+(td.length-i))/\(ok=false->NoSol (utN l nm) P):=by
 have hA:=utA hs hn hl
 have hU:Un (utN l nm) P E (ndU l (td.drop (i+1))++[(utI l (td.getD i (0,0)).1,utI l (td.getD i (0,0)).2)]):=by
  refine h.un.set ?_ ?_
  ·rw[ndU_drop hi]
   intro p hp
   refine Or.inl ?_
   simp only[List.mem_cons,List.mem_append,List.not_mem_nil,or_false] at hp ⊢
   exact hp.symm
  ·rw[ndU_drop hi]
   intro p hp
   refine Or.inl ?_
   simp only[List.mem_cons,List.mem_append,List.not_mem_nil,or_false] at hp ⊢
   exact hp.symm
 cases hM with
 | no hkc hkd hlab=>
  refine⟨fun e=>(by cases e),fun _=>?_⟩
  refine hU.fail (keep:=utI l c) (drop:=utI l d) (Or.inl ⟨ec,ed⟩) ?_ ?_ ?_
  ·rw[utN_of hd];exact hkd
  ·rw[utN_of hc];exact hkc
  ·rw[labU_iff hc hd];exact hlab
 | one he=>
  refine⟨fun _=>⟨⟨hU.skip (by rw[←ec,←ed,he]),h.cel,h.cnt,h.sum,hi,h.ord,h.mem,h.nd⟩,by omega⟩,fun e=>(by cases e)⟩
 | led f t u hft h1=>
  refine⟨fun _=>?_,fun e=>(by cases e)⟩
  have hf:f<l.length:=by rcases hft with⟨rfl,rfl⟩ | ⟨rfl,rfl⟩ <;> assumption
  have ht:t<l.length:=by rcases hft with⟨rfl,rfl⟩ | ⟨rfl,rfl⟩ <;> assumption
  have hEf:E (utI l f)=utI l f:=by rcases hft with⟨rfl,rfl⟩ | ⟨rfl,rfl⟩;(rw[ec];exact h.un.idem _);(rw[ed];exact h.un.idem _)
  have hEt:E (utI l t)=utI l t:=by rcases hft with⟨rfl,rfl⟩ | ⟨rfl,rfl⟩;(rw[ed];exact h.un.idem _);(rw[ec];exact h.un.idem _)
  have hfN:=utI_lt hf
  have htN:=utI_lt ht
  have hlt:=h1.lt hs hn hl hf ht
  have hkd:(utI l t=E (utI l (td.getD i (0,0)).1)/\utI l f=E (utI l (td.getD i (0,0)).2))∨(utI l t=E (utI l (td.getD i (0,0)).2)/\utI l f=E (utI l (td.getD i (0,0)).1)):=by
   rcases hft with⟨rfl,rfl⟩ | ⟨rfl,rfl⟩
   ·exact Or.inr ⟨ed,ec⟩
   ·exact Or.inl ⟨ec,ed⟩
  have hB:=hU.bind hA (keep:=utI l t) (drop:=utI l f) hkd (Ne.symm h1.ne) (by
   rcases h1.kd with hk | ⟨hk,hk2,hlab⟩
   ·exact Or.inl (by rw[utN_of hf];exact hk)
   ·exact Or.inr ⟨by rw[utN_of hf];exact hk,by rw[utN_of ht];exact hk2,(labU_iff ht hf).2 hlab.symm⟩)
  have hfx:=fixN_bind (n:=(utT l).length) hEt hEf (Ne.symm h1.ne) hfN
  have hn8:(tdL l (trmW l f)).length<=8:=args_eight (trm_tw hs hn hl hf)
  have htl:∀k,k<(tdL l (trmW l f)).length->k<(tdL l (trmW l t)).length:=fun k hk=>by
   rcases h1.kd with h9 | ⟨_,_,hlab⟩
   ·have hv:=hA.var (utI l f) (by rw[utN_of hf];exact h9)
    have:=utN_args (nm:=nm) hf
    rw[hv] at this
    simp at this
    omega
   ·have:=hlab.2.2.2
    omega
  have hpr:∀k,k<(tdL l (trmW l f)).length->(utI l ((tdL l (trmW l f)).getD k 0).toNat,utI l ((tdL l (trmW l t)).getD k 0).toNat)=(argN (utN l nm) (utI l f) k,argN (utN l nm) (utI l t) k):=fun k hk=>by
   rw[(utN_arg hs hn hl hf hk).2.1,(utN_arg hs hn hl ht (htl k hk)).2.1]
  have hmemA:∀p,p∈ndU l (argU l f t (tdL l (trmW l f)).length)↔∃k,k<(tdL l (trmW l f)).length/\p=(argN (utN l nm) (utI l f) k,argN (utN l nm) (utI l t) k):=fun p=>by
   unfold ndU argU
   rw[List.map_map,List.mem_map]
   constructor
   ·rintro⟨k,hk,rfl⟩
    rw[List.mem_range] at hk
    exact⟨k,hk,hpr k hk⟩
   ·rintro⟨k,hk,rfl⟩
    exact⟨k,List.mem_range.2 hk,hpr k hk⟩
  have hdrop:ndU l ((td++argU l f t (tdL l (trmW l f)).length).drop (i+1))=ndU l (td.drop (i+1))++ndU l (argU l f t (tdL l (trmW l f)).length):=by
   rw[List.drop_append_of_le_length (by omega)]
   unfold ndU
   rw[List.map_append]
  have hE':∀x,bindE E (utI l f,utI l t) x=if E x=utI l f then utI l t else E x:=fun x=>by
   show (if E x=utI l f then E (utI l t) else E x)=_
   rw[hEt]
  refine⟨⟨?_,fun p hp=>?_,?_,?_,?_,fun x hx hx2=>?_,fun x hx=>?_,?_⟩,?_⟩
  ·rw[hdrop]
   refine hB.set (fun p hp=>?_) (fun p hp=>?_)
   ·rcases List.mem_append.1 hp with e | e
    ·exact Or.inl (List.mem_append.2 (Or.inl e))
    ·obtain⟨k,hk,rfl⟩:=newsF_mem.1 e
     rw[utN_args hf] at hk
     exact Or.inr (List.mem_append.2 (Or.inr ((hmemA _).2 ⟨k,hk,rfl⟩)))
   ·rcases List.mem_append.1 hp with e | e
    ·exact Or.inl (List.mem_append.2 (Or.inl e))
    ·obtain⟨k,hk,rfl⟩:=(hmemA _).1 e
     exact Or.inr (List.mem_append.2 (Or.inr (newsF_mem.2 ⟨k,by rw[utN_args hf];exact hk,rfl⟩)))
  ·rcases List.mem_append.1 hp with e | e
   ·exact h.cel p e
   ·unfold argU at e
    obtain⟨k,hk,rfl⟩:=List.mem_map.1 e
    rw[List.mem_range] at hk
    have g1:=(utN_arg (nm:=nm) hs hn hl hf hk).1
    have g2:=(utN_arg (nm:=nm) hs hn hl ht (htl k hk)).1
    have c1:=args_cel hs (trm_tw hs hn hl hf) _ (getD_mem hk)
    have c2:=args_cel hs (trm_tw hs hn hl ht) _ (getD_mem (htl k hk))
    refine⟨⟨by show _<_;omega,?_⟩,by show _<_;omega,?_⟩
    ·rw[show ((((tdL l (trmW l f)).getD k 0).toNat:Nat):Int)=(tdL l (trmW l f)).getD k 0 by omega]
     exact c1
    ·rw[show ((((tdL l (trmW l t)).getD k 0).toNat:Nat):Int)=(tdL l (trmW l t)).getD k 0 by omega]
     exact c2
  ·rw[List.length_append]
   have:=h.cnt
   simp only[List.length_cons,List.length_nil]
   omega
  ·rw[List.length_append,argU_len]
   have:=h.sum
   omega
  ·rw[List.length_append]
   omega
  ·rw[hE'] at hx2 ⊢
   by_cases e:E x=utI l f
   ·rw[if_pos e] at hx2 ⊢
    by_cases e2:x=utI l f
    ·rw[e2];exact hlt
    ·have:=h.ord x hx (by rw[e];exact Ne.symm e2)
     rw[e] at this
     exact this.trans hlt
   ·rw[if_neg e] at hx2 ⊢
    exact h.ord x hx hx2
  ·rw[hE']
   constructor
   ·intro hx2
    by_cases e:E x=utI l f
    ·by_cases e2:x=utI l f
     ·exact⟨(f,u),by simp,e2.symm⟩
     ·obtain⟨p,hp,e3⟩:=(h.mem x hx).1 (by rw[e];exact Ne.symm e2)
      exact⟨p,by simp[hp],e3⟩
    ·rw[if_neg e] at hx2
     obtain⟨p,hp,e3⟩:=(h.mem x hx).1 hx2
     exact⟨p,by simp[hp],e3⟩
   ·rintro⟨p,hp,e3⟩
    rcases List.mem_append.1 hp with hp | hp
    ·have h9:=(h.mem x hx).2 ⟨p,hp,e3⟩
     by_cases e:E x=utI l f
     ·rw[if_pos e]
      intro e4
      rw[←e4,hEt] at e
      exact h1.ne e.symm
     ·rw[if_neg e]
      exact h9
    ·have e5:p=(f,u):=by simpa using hp
     rw[e5] at e3
     have e6:utI l f=x:=e3
     rw[←e6,if_pos hEf]
     exact Ne.symm h1.ne
  ·rw[List.map_append,List.nodup_append]
   refine⟨h.nd,by simp,fun a ha b hb=>?_⟩
   have e5:b=utI l f:=by simpa using hb
   obtain⟨p,hp,e6⟩:=List.mem_map.1 ha
   intro e7
   exact (h.mem (utI l f) hfN).2 ⟨p,hp,by rw[e6,e7,e5]⟩ hEf
  ·rw[List.length_append,argU_len]
   omega
end
end Go.Proofs.YtpkojcfdkkjmcaaGreatDoor
namespace Go.Proofs.YtpkojcfdkkjmcaaGreatDoor
set_option maxRecDepth 100000
open Go.RowKit
section
variable {l:List Int} {V V2:Nat->Bool} {nm:List ByteArray}
theorem end_place (hs:Snd l V) (hl:l.length<=65536) {k:Nat} (hk:k<l.length) (e:nxN l k=none) (ht:endW l k % 8=0∨endW l k % 8=3):valOf (endW l k)=(k:Int):=by
 unfold endW at ht ⊢
 by_cases h4:tgN l k=4
 ·rw[if_pos h4]
  exact (word_str (j:=k) (by omega)).2.1
 ·rw[if_neg h4] at ht ⊢
  have ht':wdN l k % 8=tgN l k:=rfl
  have h3:¬(tgN l k=3∨tgN l k=5):=fun h3=>by
   unfold nxN at e
   rw[if_neg (by omega),if_pos h3] at e
   cases e
  have h0:tgN l k=0:=by omega
  have hv:vlN l k=k:=by
   unfold nxN at e
   rw[if_pos h0] at e
   by_cases h5:vlN l k=k
   ·exact h5
   ·rw[if_neg h5] at e
    cases e
  have hg:=val_place (hs.good k hk) (Or.inl (ht'.trans h0))
  have h7:(valOf (wdN l k)).toNat=k:=hv
  omega
theorem trm_set {p:Nat} {x T:Int} (hs:Snd l V) (hl:l.length<=65536) (hs2:Snd (l.set p x) V2) (hp:p<l.length) (ep:nxN l p=none) (hpt:trmW l p % 8=0∨trmW l p % 8=3) (hT:trmW (l.set p x) p=T) (r:Nat):∀k,k<l.length->rkN l V k<=r->trmW (l.set p x) k=if trmW l k=trmW l p then T else trmW l k:=by
 induction r with
 | zero=>
  intro k hk hr
  by_cases hkp:k=p
  ·subst hkp
   rw[if_pos rfl]
   exact hT
  ·have hnx:nxN (l.set p x) k=nxN l k:=by
    unfold nxN
    rw[(tg_set hp hkp).1,(tg_set hp hkp).2]
   have hen:endW (l.set p x) k=endW l k:=by
    unfold endW
    rw[(tg_set hp hkp).1,wd_set hp,if_neg hkp]
   cases e:nxN l k with
   | none=>
    rw[trm_end (hnx.trans e),hen,trm_end e,if_neg]
    intro h9
    rw[trm_end ep] at hpt h9
    have h1:=end_place hs hl hp ep hpt
    have h2:=end_place hs hl hk e (by rw[h9];exact hpt)
    rw[h9] at h2
    omega
   | some j=>
    have:=(nx_rk hs hk e).2
    omega
 | succ r ih=>
  intro k hk hr
  by_cases hkp:k=p
  ·subst hkp
   rw[if_pos rfl]
   exact hT
  ·have hnx:nxN (l.set p x) k=nxN l k:=by
    unfold nxN
    rw[(tg_set hp hkp).1,(tg_set hp hkp).2]
   have hen:endW (l.set p x) k=endW l k:=by
    unfold endW
    rw[(tg_set hp hkp).1,wd_set hp,if_neg hkp]
   cases e:nxN l k with
   | none=>
    rw[trm_end (hnx.trans e),hen,trm_end e,if_neg]
    intro h9
    rw[trm_end ep] at hpt h9
    have h1:=end_place hs hl hp ep hpt
    have h2:=end_place hs hl hk e (by rw[h9];exact hpt)
    rw[h9] at h2
    omega
   | some j=>
    obtain⟨h1,h2⟩:=nx_rk hs hk e
    rw[trm_next hs2 (by rw[List.length_set];exact hk) (hnx.trans e),trm_next hs hk e]
    exact ih j h1 (by omega)
theorem trm_bound {p b:Nat} (hs:Snd l V) (hn:NsB l nm.length) (hl:l.length<=65536) (hs2:Snd (l.set p (trmW l b)) V2) (hp:p<l.length) (hb:b<l.length) (ep:nxN l p=none) (hne:trmW l p≠trmW l b):trmW (l.set p (trmW l b)) p=trmW l b:=by
 obtain⟨j,hj,e,e2⟩:=trm_ends hs _ b hb (Nat.le_refl _)
 have hT:=trm_tw hs hn hl hb
 have hjp:j≠p:=fun h9=>hne (by rw[e2,trm_end ep,h9])
 have hX:∃x,x=trmW l b:=⟨_,rfl⟩
 obtain⟨x,hx⟩:=hX
 have htg:=hT.tag
 rw[←hx] at hs2 htg e2 ⊢
 have h2:nxN (l.set p x) j=none:=by
  unfold nxN at e ⊢
  rw[(tg_set hp hjp).1,(tg_set hp hjp).2]
  exact e
 have h3:endW (l.set p x) j=endW l j:=by
  unfold endW
  rw[(tg_set hp hjp).1,wd_set hp,if_neg hjp]
 by_cases h03:x % 8=0∨x % 8=3
 ·have hv:valOf x=(j:Int):=by
   rw[e2]
   exact end_place hs hl hj e (by rw[←e2];exact h03)
  have h4:nxN (l.set p x) p=some j:=by
   unfold nxN
   rw[(tg_new hp).1,(tg_new hp).2,hv,Int.toNat_natCast]
   rcases h03 with h | h
   ·rw[if_pos h,if_neg hjp]
   ·rw[if_neg (by omega),if_pos (Or.inl h)]
  rw[trm_next hs2 (by rw[List.length_set];exact hp) h4,trm_end h2,h3,←e2]
 ·have h4:nxN (l.set p x) p=none:=by
   unfold nxN
   rw[(tg_new hp).1,if_neg (by omega),if_neg (by omega)]
  rw[trm_end h4]
  unfold endW
  rw[(tg_new hp).1,if_neg (by omega),wd_set hp,if_pos rfl]
theorem trm_fwd {p i:Nat} (hl:l.length<=65536) (hs2:Snd (l.set p (wordOf 5 (i:Int))) V2) (hp:p<l.length) (hi:i<p) (ti:tgN l i=4):trmW (l.set p (wordOf 5 (i:Int))) p=wordOf 3 (i:Int):=by
 have hf:fitsB 5 (i:Int)=true:=by
  simp[fitsB]
  omega
 have ht:wordOf 5 (i:Int) % 8=5:=wordOf_tag 5 (i:Int) (by omega) (by omega)
 have hv:valOf (wordOf 5 (i:Int))=(i:Int):=wordOf_val 5 (i:Int) hf
 have hip:i≠p:=by omega
 have h4:nxN (l.set p (wordOf 5 (i:Int))) p=some i:=by
  unfold nxN
  rw[(tg_new hp).1,(tg_new hp).2,hv,Int.toNat_natCast,if_neg (by omega),if_pos (Or.inr ht)]
 have h5:tgN (l.set p (wordOf 5 (i:Int))) i=4:=by rw[(tg_set hp hip).1,ti]
 have h2:nxN (l.set p (wordOf 5 (i:Int))) i=none:=by
  unfold nxN
  rw[if_neg (by omega),if_neg (by omega)]
 rw[trm_next hs2 (by rw[List.length_set];exact hp) h4,trm_end h2]
 unfold endW
 rw[if_pos h5]
theorem cellB_set {p:Nat} {x:Int} (hp:p<l.length) (hh:(x % 8=4∨x % 8=5)↔hdN l p) (k:Int):cellB (l.set p x) k=cellB l k:=by
 have e1:∀l:List Int,cellB l k=(inB k l.length && (decide (wdN l k.toNat % 8≠4) && decide (wdN l k.toNat % 8≠5))):=fun l=>Bool.and_assoc ..
 rw[e1,e1,List.length_set,wd_set hp]
 congr 1
 split
 ·rename_i e
  rw[e]
  unfold hdN tgN at hh
  rw[Bool.eq_iff_iff]
  simp only[Bool.and_eq_true,decide_eq_true_eq]
  omega
 ·rfl
theorem fun_inj (hs:Snd l V) (hn:NsB l nm.length) (hnd:nm.Nodup) (hl:l.length<=65536) {a b:Nat} (ha:a<l.length) (hb:b<l.length) (ka:trmW l a % 8=3) (kb:trmW l b % 8=3) (e1:tdS l nm (trmW l a)=tdS l nm (trmW l b)) (e2:(tdL l (trmW l a)).length=(tdL l (trmW l b)).length):wdN l (valOf (trmW l a)).toNat=wdN l (valOf (trmW l b)).toNat:=by
 obtain⟨_,a1,a2,a3,a4⟩:=(trm_tw (ns:=nm) hs hn hl ha).str ka
 obtain⟨_,b1,b2,b3,b4⟩:=(trm_tw (ns:=nm) hs hn hl hb).str kb
 have ra:=hs.rng (wdN l (valOf (trmW l a)).toNat) (by unfold wdN;simp[List.getD,a1])
 have rb:=hs.rng (wdN l (valOf (trmW l b)).toNat) (by unfold wdN;simp[List.getD,b1])
 unfold tgN at a2 b2
 have fa:=fun_val _ a3 a2
 have fb:=fun_val _ b3 b2
 unfold tdS at e1
 rw[if_neg (by omega),if_pos ka,if_neg (by omega),if_pos kb] at e1
 unfold tdL at e2
 rw[if_pos ka,if_pos kb] at e2
 unfold rchL at e2
 rw[if_neg (by omega),if_pos a2,if_neg (by omega),if_pos b2] at e2
 simp only[List.length_map,List.length_range] at e2
 have e3:(valOf (wdN l (valOf (trmW l a)).toNat) / 16).toNat=(valOf (wdN l (valOf (trmW l b)).toNat) / 16).toNat:=by
  simp only[List.getD,List.getElem?_eq_getElem a4,List.getElem?_eq_getElem b4,Option.getD_some] at e1
  have hp:=List.pairwise_iff_getElem.1 hnd
  rcases Nat.lt_trichotomy (valOf (wdN l (valOf (trmW l a)).toNat) / 16).toNat (valOf (wdN l (valOf (trmW l b)).toNat) / 16).toNat with h | h | h
  ·exact absurd e1 (hp _ _ a4 b4 h)
  ·exact h
  ·exact absurd e1.symm (hp _ _ b4 a4 h)
 have e4:valOf (wdN l (valOf (trmW l a)).toNat)=valOf (wdN l (valOf (trmW l b)).toNat):=by omega
 rw[←wordOf_back _ ra.1 ra.2,←wordOf_back _ rb.1 rb.2,a2,b2,e4]
def eW (l:List Int) (E:Nat->Nat) (k:Nat):Int:=(utT l).getD (E (utI l k)) 0
def ldU (l:List Int) (ls:List (Nat×Value)) (j x:Nat):Prop:=∃p∈ls.take j,utI l p.1=x
structure Wj (l:List Int) (N:Nat) (E:Nat->Nat) (ls:List (Nat×Value)) (j:Nat) (l':List Int):Prop where
 len:l'.length=l.length
 snd:SndN l' N
 cel:∀x,cellB l' x=cellB l x
 yes:∀k,k<l.length->ldU l ls j (utI l k)->trmW l' k=eW l E k
 no:∀k,k<l.length->¬ldU l ls j (utI l k)->trmW l' k=trmW l k
 wd:∀k,k<l.length->trmW l k % 8=3->¬ldU l ls j (utI l k)->wdN l' (valOf (trmW l k)).toNat=wdN l (valOf (trmW l k)).toNat
theorem Wj.start {N:Nat} {E:Nat->Nat} {ls:List (Nat×Value)} (h:SndN l N):Wj l N E ls 0 l:=
 ⟨rfl,h,fun _=>rfl,fun k hk hl=>(by obtain⟨p,hp,_⟩:=hl;simp at hp),fun _ _ _=>rfl,fun _ _ _ _=>rfl⟩
variable {P:List (Nat×Nat)} {E:Nat->Nat} {ls:List (Nat×Value)} {td:List (Nat×Nat)} {i j:Nat}
theorem ldU_succ (hj:j<ls.length) {x:Nat}:ldU l ls (j+1) x↔ldU l ls j x∨utI l (ls.getD j (0,undef)).1=x:=by
 have e:ls.getD j (0,undef)=ls[j]:=by simp[List.getD,hj]
 unfold ldU
 have et:ls.take (j+1)=ls.take j++[ls[j]]:=List.take_succ_eq_append_getElem hj
 rw[et,e]
 constructor
 ·rintro⟨p,hp,h⟩
  rcases List.mem_append.1 hp with hp | hp
  ·exact Or.inl ⟨p,hp,h⟩
  ·rw[List.mem_singleton.1 hp] at h
   exact Or.inr h
 ·rintro (⟨p,hp,h⟩ | h)
  ·exact⟨p,List.mem_append.2 (Or.inl hp),h⟩
  ·exact⟨ls[j],List.mem_append.2 (Or.inr (List.mem_singleton.2 rfl)),h⟩
structure Nxt (l:List Int) (E:Nat->Nat) (ls:List (Nat×Value)) (j d e:Nat):Prop where
 dl:d<l.length
 el:e<l.length
 at':utI l (ls.getD j (0,undef)).1=utI l d
 en:utI l e=E (utI l d)
 ne:E (utI l d)≠utI l d
 ee:E (utI l e)=utI l e
 nd:¬ldU l ls j (utI l d)
 nx:∀n,¬ldU l ls n (utI l e)
 lt:LtN l (utI l d) (utI l e)
 fx:∀k,k<l.length->E (utI l k)≠utI l d
 er:∀k,k<l.length->E (utI l k)<(utT l).length
theorem Jn.nxt (h:Jn l nm P E ls td i) (hj:j<ls.length) {e:Nat} (hd:(ls.getD j (0,undef)).1<l.length) (he:e<l.length) (hE:utI l e=E (utI l (ls.getD j (0,undef)).1)):Nxt l E ls j (ls.getD j (0,undef)).1 e:=by
 have e0:ls.getD j (0,undef)=ls[j]:=by simp[List.getD,hj]
 have hid:=h.un.idem
 have hlt:=utI_lt hd
 have hne:E (utI l (ls.getD j (0,undef)).1)≠utI l (ls.getD j (0,undef)).1:=(h.mem _ hlt).2 ⟨ls[j],List.getElem_mem hj,by rw[e0]⟩
 have hee:E (utI l e)=utI l e:=by rw[hE,hid]
 refine⟨hd,he,rfl,hE,hne,hee,?_,?_,?_,fun k hk h9=>hne (by rw[←h9,hid]),fun k hk=>?_⟩
 ·rintro⟨p,hp,h9⟩
  obtain⟨k,hk,rfl⟩:=List.getElem_of_mem hp
  have hk2:k<j:=by
   rw[List.length_take] at hk
   omega
  have hkl:k<ls.length:=by omega
  rw[List.getElem_take] at h9
  have hp:=List.pairwise_iff_getElem.1 h.nd k j (by simpa using hkl) (by simpa using hj) hk2
  simp only[List.getElem_map] at hp
  rw[e0] at h9
  exact hp h9
 ·rintro n ⟨p,hp,h9⟩
  exact (h.mem _ (utI_lt he)).2 ⟨p,List.mem_of_mem_take hp,h9⟩ hee
 ·have:=h.ord _ hlt hne
  rw[←hE] at this
  exact this
 ·have h9:=h.un.rng (utI l k) (by rw[utN_len];exact utI_lt hk)
  rw[utN_len] at h9
  exact h9
theorem eW_at {d e:Nat} (he:e<l.length) (h:utI l e=E (utI l d)):eW l E d=trmW l e:=by
 unfold eW
 rw[←h,utI_at he]
theorem Wj.step {N:Nat} {l':List Int} {d e p:Nat} {x:Int} (h:Wj l N E ls j l') (hs:Snd l V) (hl:l.length<=65536) (hj:j<ls.length) (hn:Nxt l E ls j d e) (hp:p<l'.length) (hsn:SndN (l'.set p x) N) (hhd:(x % 8=4∨x % 8=5)↔hdN l' p) (hpp:trmW l' p=trmW l' d) (ep:nxN l' p=none) (ht:trmW l' d % 8=0∨trmW l' d % 8=3) (hT:trmW (l'.set p x) p=trmW l' e):Wj l N E ls (j+1) (l'.set p x):=by
 obtain⟨⟨V',hV'⟩,_⟩:=h.snd
 obtain⟨⟨V2,hV2⟩,_⟩:=id hsn
 have hlen:=h.len
 have hset:∀k,k<l.length->trmW (l'.set p x) k=if trmW l' k=trmW l' d then trmW l' e else trmW l' k:=fun k hk=>by
  rw[←hpp]
  exact trm_set hV' (by omega) hV2 hp ep (by rw[hpp];exact ht) hT _ k (by omega) (Nat.le_refl _)
 have hd:=h.no d hn.dl hn.nd
 have he:=h.no e hn.el (hn.nx j)
 have hiff:∀k,ldU l ls (j+1) (utI l k)↔ldU l ls j (utI l k)∨utI l d=utI l k:=fun k=>by rw[ldU_succ hj,hn.at']
 refine⟨by rw[List.length_set,hlen],hsn,fun y=>(cellB_set hp hhd y).trans (h.cel y),fun k hk hk2=>?_,fun k hk hk2=>?_,fun k hk h3 hk2=>?_⟩
 ·rw[hset k hk]
  rw[hiff] at hk2
  by_cases h1:ldU l ls j (utI l k)
  ·rw[h.yes k hk h1,hd,if_neg]
   intro h9
   refine hn.fx k hk ?_
   have h8:=pos_of_getD ut_nodup (hn.er k hk)
   unfold eW at h9
   rw[h9] at h8
   exact h8.symm
  ·have h2:utI l d=utI l k:=hk2.resolve_left h1
   have h3:=(utI_eq hn.dl hk).1 h2
   rw[h.no k hk h1,hd,if_pos h3.symm,he]
   exact (eW_at (d:=k) hn.el (by rw[←h2];exact hn.en)).symm
 ·rw[hset k hk]
  rw[hiff] at hk2
  rw[h.no k hk (fun h9=>hk2 (Or.inl h9)),hd,if_neg]
  exact fun h9=>hk2 (Or.inr ((utI_eq hn.dl hk).2 h9.symm))
 ·rw[hiff] at hk2
  have h4:¬ldU l ls j (utI l k):=fun h9=>hk2 (Or.inl h9)
  rw[wd_set hp,if_neg,h.wd k hk h3 h4]
  intro h9
  obtain⟨q,hq,vq,eq,_⟩:=trm_place hs hk (Or.inr h3) hl
  rw[vq,Int.toNat_natCast] at h9
  have h5:utI l q=utI l k:=(utI_eq hq hk).2 eq
  have h6:=h.no q hq (by rw[h5];exact h4)
  rw[h9,hpp,hd,←h9,eq] at h6
  exact hk2 (Or.inr ((utI_eq hn.dl hk).2 h6))
theorem Wj.var {l':List Int} {d e:Nat} (h:Wj l nm.length E ls j l') (hs:Snd l V) (hnb:NsB l nm.length) (hl:l.length<=65536) (hj:j<ls.length) (hn:Nxt l E ls j d e) (hk:tdK (trmW l d)=1) :
  trmW l' d % 8=0/\trmW l' d≠trmW l' e/\¬(trmW l' e % 8=0/\valOf (trmW l' d)<valOf (trmW l' e))/\(valOf (trmW l' d)).toNat<l'.length/\Wj l nm.length E ls (j+1) (l'.set (valOf (trmW l' d)).toNat (trmW l' e)):=by
 have hd:=h.no d hn.dl hn.nd
 have he:=h.no e hn.el (hn.nx j)
 have hlen:=h.len
 have hT:=(trm_tw (ns:=nm) hs hnb hl hn.dl).tag
 have hTe:=(trm_tw (ns:=nm) hs hnb hl hn.el).tag
 have h0:trmW l d % 8=0:=by
  unfold tdK at hk
  rcases hT with h9 | h9 | h9 | h9
  ·exact h9
  all_goals simp[h9] at hk
 have hne:trmW l d≠trmW l e:=fun h9=>hn.ne (by rw[←hn.en];exact (utI_eq hn.el hn.dl).2 h9.symm)
 have hlt:=hn.lt
 unfold LtN at hlt
 rw[utI_at hn.dl,utI_at hn.el] at hlt
 have hle:trmW l e % 8=0->valOf (trmW l e)<=valOf (trmW l d):=fun h9=>by
  have k1:tdK (trmW l e)=1:=by unfold tdK;rw[if_neg (by omega),if_neg (by omega),if_neg (by omega)]
  have a1:tdA (trmW l e)=valOf (trmW l e):=by unfold tdA;rw[if_neg (by omega)]
  have a2:tdA (trmW l d)=valOf (trmW l d):=by unfold tdA;rw[if_neg (by omega)]
  omega
 obtain⟨⟨V',hV'⟩,hn'⟩:=h.snd
 obtain⟨s1,s2⟩:=bind_sndn (l:=l') (N:=nm.length) ⟨⟨V',hV'⟩,hn'⟩ (by omega) (a:=d) (b:=e) (by have:=hn.dl;omega) (by have:=hn.el;omega) (by rw[hd];exact h0) (by rw[hd,he];exact hle)
 obtain⟨q,hq,vq,eq,nq,wq,_⟩:=trm_place hV' (k:=d) (by have:=hn.dl;omega) (Or.inl (by rw[hd];exact h0)) (by omega)
 have hqv:(valOf (trmW l' d)).toNat=q:=by omega
 refine⟨by rw[hd];exact h0,by rw[hd,he];exact hne,fun h9=>?_,s1,?_⟩
 ·rw[hd,he] at h9
  have:=hle h9.1
  omega
 ·rw[hqv] at s1 s2 ⊢
  obtain⟨⟨V2,hV2⟩,hn2⟩:=s2
  refine h.step hs hl hj hn s1 ⟨⟨V2,hV2⟩,hn2⟩ (iff_of_false ?_ ?_) eq nq (Or.inl (by rw[hd];exact h0)) ?_
  ·rw[he]
   omega
  ·have:=(wq (by rw[hd];exact h0)).2.1
   unfold hdN
   omega
  ·exact trm_bound hV' hn' (by omega) hV2 s1 (by have:=hn.el;omega) nq (by rw[eq,hd,he];exact hne)
theorem Wj.comp {l':List Int} {d e:Nat} (h:Wj l nm.length E ls j l') (hs:Snd l V) (hnb:NsB l nm.length) (hnd:nm.Nodup) (hl:l.length<=65536) (hj:j<ls.length) (hn:Nxt l E ls j d e) (hk:tdK (trmW l d)≠1) (hlab:labU l nm d e) :
  trmW l' d % 8=3/\trmW l' e % 8=3/\∃q r:Nat,q<l'.length/\r<l'.length/\valOf (trmW l' d)=(q:Int)/\valOf (trmW l' e)=(r:Int)/\wdN l' q=wdN l' r/\r<q/\Wj l nm.length E ls (j+1) (l'.set q (wordOf 5 (r:Int))):=by
 have hd:=h.no d hn.dl hn.nd
 have he:=h.no e hn.el (hn.nx j)
 have hlen:=h.len
 have hT:=(trm_tw (ns:=nm) hs hnb hl hn.dl).tag
 have hTe:=(trm_tw (ns:=nm) hs hnb hl hn.el).tag
 have hlt:=hn.lt
 unfold LtN at hlt
 rw[utI_at hn.dl,utI_at hn.el] at hlt
 have hkk:=hlab.1
 have h3:trmW l d % 8=3/\trmW l e % 8=3:=by
  unfold tdK at hk hkk hlt
  unfold tdA at hlt
  rcases hT with h9 | h9 | h9 | h9 <;> rcases hTe with h8 | h8 | h8 | h8 <;> simp[h8,h9] at hk hkk hlt ⊢
 have a1:tdA (trmW l e)=valOf (trmW l e):=by unfold tdA;rw[if_neg (by omega)]
 have a2:tdA (trmW l d)=valOf (trmW l d):=by unfold tdA;rw[if_neg (by omega)]
 obtain⟨⟨V',hV'⟩,hn'⟩:=h.snd
 obtain⟨q,hq,vq,eq,nq,_,wq⟩:=trm_place hV' (k:=d) (by have:=hn.dl;omega) (Or.inr (by rw[hd];exact h3.1)) (by omega)
 obtain⟨r,hr,vr,er,nr,_,wr⟩:=trm_place hV' (k:=e) (by have:=hn.el;omega) (Or.inr (by rw[he];exact h3.2)) (by omega)
 have tq:=(wq (by rw[hd];exact h3.1)).2
 obtain⟨xr,tr⟩:=wr (by rw[he];exact h3.2)
 have hrq:r<q:=by
  rw[hd] at vq
  rw[he] at vr
  omega
 have hww:=fun_inj hs hnb hnd hl hn.dl hn.el h3.1 h3.2 hlab.2.1 hlab.2.2.2
 have hw:wdN l' q=wdN l' r:=by
  have w1:=h.wd d hn.dl h3.1 hn.nd
  have w2:=h.wd e hn.el h3.2 (hn.nx j)
  rw[←hd,vq,Int.toNat_natCast] at w1
  rw[←he,vr,Int.toNat_natCast] at w2
  rw[w1,w2]
  rw[←hd,←he,vq,vr,Int.toNat_natCast,Int.toNat_natCast] at hww
  exact hww
 have hsn:=merge_sndn (l:=l') (N:=nm.length) ⟨⟨V',hV'⟩,hn'⟩ (by omega) hq hrq tr tq
 refine⟨by rw[hd];exact h3.1,by rw[he];exact h3.2,q,r,hq,hr,vq,vr,hw,hrq,?_⟩
 have hf:fitsB 5 (r:Int)=true:=by
  simp[fitsB]
  omega
 obtain⟨⟨V2,hV2⟩,hn2⟩:=hsn
 refine h.step hs hl hj hn hq ⟨⟨V2,hV2⟩,hn2⟩ (iff_of_true (Or.inr (wordOf_tag 5 (r:Int) (by omega) (by omega))) (Or.inl tq)) eq nq (Or.inr (by rw[hd];exact h3.1)) ?_
 rw[trm_fwd (by omega) hV2 hq hrq tr,←xr]
structure Wf (l:List Int) (N:Nat) (E:Nat->Nat) (l':List Int):Prop where
 len:l'.length=l.length
 snd:SndN l' N
 cel:∀x,cellB l' x=cellB l x
 trm:∀k,k<l.length->trmW l' k=eW l E k
 wd:∀k,k<l.length->trmW l k % 8=3->E (utI l k)=utI l k->wdN l' (valOf (trmW l k)).toNat=wdN l (valOf (trmW l k)).toNat
theorem Wj.fin {N:Nat} {l':List Int} (h:Wj l N E ls ls.length l') (hJ:Jn l nm P E ls td i):Wf l N E l':=by
 have hiff:∀k,k<l.length->(ldU l ls ls.length (utI l k)↔E (utI l k)≠utI l k):=fun k hk=>by
  rw[hJ.mem _ (utI_lt hk)]
  unfold ldU
  rw[List.take_length]
 refine⟨h.len,h.snd,h.cel,fun k hk=>?_,fun k hk h3 he=>h.wd k hk h3 (fun h9=>(hiff k hk).1 h9 he)⟩
 by_cases h9:E (utI l k)=utI l k
 ·rw[h.no k hk (fun h8=>(hiff k hk).1 h8 h9)]
  unfold eW
  rw[h9,utI_at hk]
 ·exact h.yes k hk ((hiff k hk).2 h9)
end
end Go.Proofs.YtpkojcfdkkjmcaaGreatDoor
namespace Go.Proofs.YtpkojcfdkkjmcaaGreatDoor
set_option maxRecDepth 100000
open Go.RowKit Go.Maps
inductive Wrs (s:Hst):Nat->Hst->Prop
 | nil:Wrs s 0 s
 | step {j:Nat} {s1:Hst} (h:Wrs s j s1) (k:Nat) (x:Int) (hk:k<s1.l.length) (hs:SndN (s1.l.set k x) s1.ns.length):Wrs s (j+1) ⟨s1.l.set k x,s1.ns,trW s1.l s1.tr s1.pt k,s1.pt,s1.n+1⟩
theorem Wrs.keeps {s s':Hst} {j:Nat} (h:Wrs s j s'):s'.ns=s.ns/\s'.pt=s.pt/\s'.n=s.n+j/\s'.l.length=s.l.length/\s'.tr.length<=s.tr.length+j/\s.tr.length<=s'.tr.length:=by
 induction h with
 | nil=>exact⟨rfl,rfl,by simp,rfl,Nat.le_refl _,Nat.le_refl _⟩
 | step h k x hk hs ih=>
  obtain⟨h1,h2,h3,h4,h5,h6⟩:=ih
  refine⟨h1,h2,by show _+1=_;omega,by show (List.set _ _ _).length=_;rw[List.length_set,h4],?_,?_⟩
  ·show (trW _ _ _ _).length<=_
   unfold trW
   split
   ·rw[List.length_append,List.length_singleton]
    omega
   ·omega
  ·show _<=(trW _ _ _ _).length
   unfold trW
   split
   ·rw[List.length_append,List.length_singleton]
    omega
   ·omega
section
variable {W w0 w w1 w':World} {l:List Int} {nm:List ByteArray} {B hb ab tb ub mq:Nat} {m:Int} {av tv:Value} {tq:Nat} {trv ptv trv0:Value} {ledv tdv:Value} {ls:List (Nat×Value)} {td:List (Nat×Nat)} {L:List Nat} {s:Hst}
def World.first (w:World) (n:Nat):World:={ w with heap:=w.heap.extract 0 n }
theorem first_below (w:World) {n:Nat} (hn:n<=w.heap.size):(World.first w n).heap.size=n/\Below n (World.first w n) w:=by
 have h1:(World.first w n).heap.size=n:=by
  show (w.heap.extract 0 n).size=n
  simp
  omega
 refine⟨h1,rfl,rfl,rfl,by omega,fun k hk=>?_⟩
 show w.heap[k]?=(w.heap.extract 0 n)[k]?
 rw[Array.getElem?_extract,if_pos (by omega),Nat.zero_add]
theorem Um.beside (h:Um W l nm hb ub mq ledv tdv ls td L w) {F:Nat->Prop} (hm:Mo F w w') (hk:Ik w w') (hF:¬F ub/\¬F mq/\(∀q,ledv.ownBlock=some q->¬F q)/\∀q,tdv.ownBlock=some q->¬F q):∃W',W'.heap.size=W.heap.size/\Um W' l nm hb ub mq ledv tdv ls td L w':=by
 obtain⟨f1,f2⟩:=first_below w' (n:=W.heap.size) (Nat.le_trans h.b.size hm.size)
 obtain⟨D,⟨es,clock,hq,hD1⟩,hM⟩:=h.map
 refine⟨World.first w' W.heap.size,f1,⟨by rw[f1];exact f2,(hm.block _ (lt_of_block h.blk) hF.1).trans h.blk,by rw[f1];exact h.ub0,by rw[f1];exact h.mq0,⟨D,⟨es,clock,(hm.block _ h.mlt hF.2.1).trans hq,hD1⟩,hM.keep hk⟩,?_,fun p hp=>(h.lt p hp).keep hk,?_,h.ll,h.l0⟩⟩
 ·rw[f1]
  exact row_keep h.led (fun q hq=>hm.block q (h.led.lt q hq).2 (hF.2.2.1 q hq))
 ·rw[f1]
  exact row_keep h.td (fun q hq=>hm.block q (h.td.lt q hq).2 (hF.2.2.2 q hq))
theorem Hq.ik {ns:List ByteArray} {tr:List Te} {pt:List Pe} {n:Int} (h:Hq w B hb ab tb m av l tv tq ns trv tr ptv pt n) (hm:a_Mod (qfoot hb ab av trv ptv) w w'):Ik w w':=by
 refine⟨hm.size,fun q cs fr hq=>(hm.block q (lt_of_block hq) (fun hx=>?_)).trans hq⟩
 rcases mem_qfoot.1 hx with rfl | hx | hx | hx
 ·exact obj_ne h.hp.blk hq (by decide) rfl
 ·rcases a_mem_foot.1 hx with rfl | hx
  ·exact obj_ne h.hp.ar.blk hq (by decide) rfl
  ·obtain⟨cur,hc⟩:=row_obj h.hp.ar.own hx
   exact obj_ne hc hq (by decide) rfl
 ·obtain⟨cur,hc⟩:=row_obj h.tr hx
  exact obj_ne hc hq (by decide) rfl
 ·obtain⟨cur,hc⟩:=row_obj h.pt hx
  exact obj_ne hc hq (by decide) rfl
theorem Hq.aside {ns:List ByteArray} {tr:List Te} {pt:List Pe} {n:Int} (h:Hq w B hb ab tb m av l tv tq ns trv tr ptv pt n) (hm:Mo (fun q=>q=mq) w w') (ht:tq≠mq) (hq:∀cs T x,w.heap[mq]?≠some (.cells cs T x)):Hq w' B hb ab tb m av l tv tq ns trv tr ptv pt n:=by
 have hm2:a_Mod [mq] w w':=⟨hm.os,hm.tape,hm.output,hm.size,fun k hk hn=>hm.block k hk (fun e=>hn (by simp[e]))⟩
 obtain⟨r1,r2⟩:=h.rows hm2 (fun k hk hx=>by
  have e:k=mq:=by simpa using hk
  subst e
  rcases hx with hx | hx
  ·obtain⟨cur,hc⟩:=row_obj h.tr hx
   exact hq _ _ _ hc
  ·obtain⟨cur,hc⟩:=row_obj h.pt hx
   exact hq _ _ _ hc)
 refine⟨h.hp.keep hm2 (fun k hk=>?_),r1,r2⟩
 have e:k=mq:=by simpa using hk
 subst e
 refine⟨fun e=>?_,fun hx=>?_,fun hx=>?_⟩
 ·rw[e] at hq
  exact hq _ _ _ h.hp.blk
 ·rcases a_mem_foot.1 hx with e | hx
  ·rw[e] at hq
   exact hq _ _ _ h.hp.ar.blk
  ·obtain⟨cur,hc⟩:=row_obj h.hp.ar.own hx
   exact hq _ _ _ hc
 ·rcases n_mem_foot.1 hx with e | e | e
  ·rw[e] at hq
   exact hq _ _ _ h.hp.tb.blk
  ·exact ht e.symm
  ·obtain⟨cur,hc⟩:=row_obj h.hp.tb.own e
   exact hq _ _ _ hc
theorem Um.mcell (h:Um W l nm hb ub mq ledv tdv ls td L w):∀cs T x,w.heap[mq]?≠some (.cells cs T x):=by
 obtain⟨D,⟨es,clock,hq,hD1⟩,hM⟩:=h.map
 intro cs T x e
 rw[hq] at e
 cases e
structure Uw (W w0:World) (l:List Int) (nm:List ByteArray) (hb ub mq:Nat) (ledv tdv:Value) (ls:List (Nat×Value)) (td:List (Nat×Nat)) (E:Nat->Nat) (B ab tb:Nat) (m:Int) (av tv:Value) (tq:Nat) (trv0 ptv:Value) (s:Hst) (j:Nat) (w:World):Prop where
 um:∃W' L,W'.heap.size=W.heap.size/\Um W' l nm hb ub mq ledv tdv ls td L w/\Ld L E
 hq:∃s' trv,Wrs s j s'/\Wj l nm.length E ls j s'.l/\Hq w B hb ab tb m av s'.l tv tq s'.ns trv s'.tr ptv s'.pt s'.n/\a_Nx w0 trv0 trv
 mo:Mo (fun q=>q=mq∨q∈qfoot hb ab av trv0 ptv) w0 w
 ik:Ik w0 w
 bd:Ubd w0.heap.size ub mq ledv tdv
 lo:∀q∈qfoot hb ab av trv0 ptv,q<W.heap.size
 tq:tq<W.heap.size
theorem Uw.size {E:Nat->Nat} {j:Nat} (h:Uw W w0 l nm hb ub mq ledv tdv ls td E B ab tb m av tv tq trv0 ptv s j w):W.heap.size<=w.heap.size:=by
 obtain⟨W',L,e,hu,_⟩:=h.um
 have:=hu.b.size
 omega
theorem Uw.end_ {E:Nat->Nat} {j:Nat} {W':World} {L':List Nat} (h:Uw W w0 l nm hb ub mq ledv tdv ls td E B ab tb m av tv tq trv0 ptv s j w) (hu:Um W' l nm hb ub mq ledv tdv ls td L' w') (hW:W'.heap.size=W.heap.size) (hE:Ld L' E) (hk:Ik w w') (hm:Mo (fun q=>q=mq) w w'):Uw W w0 l nm hb ub mq ledv tdv ls td E B ab tb m av tv tq trv0 ptv s j w':=by
 obtain⟨s',trv,h1,h2,h3,h4⟩:=h.hq
 obtain⟨W2,L2,e2,hu2,_⟩:=h.um
 refine⟨⟨W',L',hW,hu,hE⟩,⟨s',trv,h1,h2,h3.aside hm (fun e=>?_) hu2.mcell,h4⟩,h.mo.trans hm (fun q hq=>Or.inl (Or.inl hq)),h.ik.trans hk,h.bd,h.lo,h.tq⟩
 have:=h.tq
 have:=hu2.mq0
 omega
theorem Uw.next {E:Nat->Nat} {j:Nat} (h:Uw W w0 l nm hb ub mq ledv tdv ls td E B ab tb m av tv tq trv0 ptv s j w) (hb':Below w.heap.size w w'):Uw W w0 l nm hb ub mq ledv tdv ls td E B ab tb m av tv tq trv0 ptv s j w':=by
 obtain⟨W2,L2,e2,hu2,hl2⟩:=h.um
 exact h.end_ (hu2.next hb') e2 hl2 (Ik.below hb') (Mo.ofBelow hb')
theorem Uw.wrote {E:Nat->Nat} {j k:Nat} {x:Int} {s1:Hst} {trv:Value} (h:Uw W w0 l nm hb ub mq ledv tdv ls td E B ab tb m av tv tq trv0 ptv s j w) (h1:Wrs s j s1) (hq:Hq w B hb ab tb m av s1.l tv tq s1.ns trv s1.tr ptv s1.pt s1.n) (hx:a_Nx w0 trv0 trv) (hk:k<s1.l.length) (hW:Wj l nm.length E ls (j+1) (s1.l.set k x)) (hns:s1.ns.length=nm.length) (hr:Wrq w w' B hb ab tb m av (s1.l.set k x) tv tq s1.ns trv (trW s1.l s1.tr s1.pt k) ptv s1.pt (s1.n+1)):Uw W w0 l nm hb ub mq ledv tdv ls td E B ab tb m av tv tq trv0 ptv s (j+1) w':=by
 obtain⟨trv',g1,g2,g3⟩:=hr
 obtain⟨W2,L2,e2,hu2,hl2⟩:=h.um
 have hik:=hq.ik g2
 have hF:∀q,q∈qfoot hb ab av trv ptv->q<W.heap.size∨w0.heap.size<=q:=fun q hq'=>by
  rcases mem_qfoot.1 hq' with e | e | e | e
  ·exact Or.inl (h.lo q (mem_qfoot.2 (Or.inl e)))
  ·exact Or.inl (h.lo q (mem_qfoot.2 (Or.inr (Or.inl e))))
  ·rcases hx q e with e | e
   ·exact Or.inl (h.lo q (mem_qfoot.2 (Or.inr (Or.inr (Or.inl e)))))
   ·exact Or.inr e
  ·exact Or.inl (h.lo q (mem_qfoot.2 (Or.inr (Or.inr (Or.inr e)))))
 have hno:∀q,W.heap.size<=q->q<w0.heap.size->¬q∈qfoot hb ab av trv ptv:=fun q a b c=>by
  rcases hF q c with h9 | h9 <;> omega
 have hmo:Mo (fun q=>q∈qfoot hb ab av trv ptv) w w':=⟨g2.os,g2.tape,g2.output,g2.size,g2.block⟩
 have hbd:=h.bd
 obtain⟨W3,e3,hu3⟩:=hu2.beside hmo hik ⟨hno ub (by have:=hu2.ub0;omega) hbd.u,hno mq (by have:=hu2.mq0;omega) hbd.m,fun q hq'=>hno q (by have:=(hu2.led.lt q hq').1;omega) (hbd.l q hq'),fun q hq'=>hno q (by have:=(hu2.td.lt q hq').1;omega) (hbd.t q hq')⟩
 refine⟨⟨W3,L2,by omega,hu3,hl2⟩,⟨_,trv',Wrs.step h1 k x hk (by rw[hns];exact hW.snd),hW,g1,hx.trans g3 h.mo.size⟩,h.mo.trans hmo (fun q hq'=>?_),h.ik.trans hik,h.bd,h.lo,h.tq⟩
 rcases mem_qfoot.1 hq' with e | e | e | e
 ·exact Or.inl (Or.inr (mem_qfoot.2 (Or.inl e)))
 ·exact Or.inl (Or.inr (mem_qfoot.2 (Or.inr (Or.inl e))))
 ·rcases hx q e with e | e
  ·exact Or.inl (Or.inr (mem_qfoot.2 (Or.inr (Or.inr (Or.inl e)))))
  ·exact Or.inr e
 ·exact Or.inl (Or.inr (mem_qfoot.2 (Or.inr (Or.inr (Or.inr e)))))
structure Few (s:Hst):Prop where
 n0:0<=s.n
 n1:s.n<=4611686018427000000
 p1:s.pt.length<=900000
 t1:s.tr.length<=900000
theorem Uw.bind {V:Nat->Bool} {E:Nat->Nat} {P:List (Nat×Nat)} {i j e:Nat} (h:Uw W w0 l nm hb ub mq ledv tdv ls td E B ab tb m av tv tq trv0 ptv s j w) (hns:s.ns=nm) (hf:Few s) (hB:B<=W.heap.size) (hs:Snd l V) (hn:NsB l nm.length) (hl:l.length<=65536) {td2:List (Nat×Nat)} (hJ:Jn l nm P E ls td2 i) (hj:j<ls.length) (cd:(ls.getD j (0,undef)).1<l.length/\cellB l (((ls.getD j (0,undef)).1:Nat):Int)=true) (ce:e<l.length/\cellB l (e:Int)=true) (hE:utI l e=E (utI l (ls.getD j (0,undef)).1)) (hk:tdK (trmW l (ls.getD j (0,undef)).1)=1) :
  Calls Tryz.prog 157 #[.pointer (some ⟨hb,0,none⟩),.int .i64 (((ls.getD j (0,undef)).1:Nat):Int),.int .i64 (e:Int)] w fun r w'=>(∃rv,r=.returned rv)/\Uw W w0 l nm hb ub mq ledv tdv ls td E B ab tb m av tv tq trv0 ptv s (j+1) w':=by
 have hX:=hJ.nxt hj cd.1 ce.1 hE
 obtain⟨s',trv,h1,h2,h3,h4⟩:=h.hq
 obtain⟨k1,k2,k3,k4,k5,k6⟩:=h1.keeps
 obtain⟨v1,v2,v3,v4,v5⟩:=h2.var hs hn hl hj hX hk
 obtain⟨⟨V',hV'⟩,hn'⟩:=h2.snd
 have hlen:=h2.len
 have hll:ls.length<=65536:=by
  have h1:=hJ.cnt
  have h2:=ut_len (l:=l)
  omega
 obtain⟨⟨xb0,xb1⟩,mb,_⟩:=trm_may hV' (by omega) (k:=e) (by omega)
 have hz:=h.size
 have f1:=hf.n0
 have f2:=hf.n1
 have f3:=hf.p1
 have f4:=hf.t1
 refine (bindq_left h3.hp hV' _ e (by rw[h2.cel];exact cd.2) (by rw[h2.cel];exact ce.2) (by rw[hlen];exact cd.1) (by rw[hlen];exact ce.1) v1 v2 v3 (Q:=fun w'=>Uw W w0 l nm hb ub mq ledv tdv ls td E B ab tb m av tv tq trv0 ptv s (j+1) w') (fun w1 hb1=>?_)).mono fun r w' ⟨e1,e2⟩=>⟨⟨_,e1⟩,e2⟩
 have hw:=h.next hb1
 have hq1:=h3.below hb1
 refine (write_any hq1 (by have:=hb1.size;omega) _ _ v4 xb0 xb1 mb (by omega) (by omega) (by rw[k2];omega) (by omega)).mono fun r w' ⟨e1,e2⟩=>⟨e1,?_⟩
 exact hw.wrote h1 hq1 h4 v4 v5 (by rw[k1,hns]) e2
theorem Uw.merge {V:Nat->Bool} {E:Nat->Nat} {P:List (Nat×Nat)} {i j e:Nat} (h:Uw W w0 l nm hb ub mq ledv tdv ls td E B ab tb m av tv tq trv0 ptv s j w) (hns:s.ns=nm) (hnd:nm.Nodup) (hf:Few s) (hB:B<=W.heap.size) (hs:Snd l V) (hn:NsB l nm.length) (hl:l.length<=65536) {td2:List (Nat×Nat)} (hJ:Jn l nm P E ls td2 i) (hj:j<ls.length) (cd:(ls.getD j (0,undef)).1<l.length/\cellB l (((ls.getD j (0,undef)).1:Nat):Int)=true) (ce:e<l.length/\cellB l (e:Int)=true) (hE:utI l e=E (utI l (ls.getD j (0,undef)).1)) (hk:tdK (trmW l (ls.getD j (0,undef)).1)≠1) :
  Calls Tryz.prog 158 #[.pointer (some ⟨hb,0,none⟩),.int .i64 (((ls.getD j (0,undef)).1:Nat):Int),.int .i64 (e:Int)] w fun r w'=>(∃rv,r=.returned rv)/\Uw W w0 l nm hb ub mq ledv tdv ls td E B ab tb m av tv tq trv0 ptv s (j+1) w':=by
 have hX:=hJ.nxt hj cd.1 ce.1 hE
 obtain⟨s',trv,h1,h2,h3,h4⟩:=h.hq
 obtain⟨k1,k2,k3,k4,k5,k6⟩:=h1.keeps
 have hlab:labU l nm (ls.getD j (0,undef)).1 e:=by
  have h9:=(hJ.un.rep (utI l (ls.getD j (0,undef)).1) (by rw[utN_len];exact utI_lt cd.1) (by rw[utN_of cd.1];exact hk)).2.1
  rw[←hE] at h9
  exact (labU_iff cd.1 ce.1).1 h9
 obtain⟨v1,v2,q,r,hq,hr,vq,vr,hw,hrq,v5⟩:=h2.comp hs hn hnd hl hj hX hk hlab
 obtain⟨⟨V',hV'⟩,hn'⟩:=h2.snd
 have hlen:=h2.len
 have hll:ls.length<=65536:=by
  have h1:=hJ.cnt
  have h2:=ut_len (l:=l)
  omega
 have hz:=h.size
 have f1:=hf.n0
 have f2:=hf.n1
 have f3:=hf.p1
 have f4:=hf.t1
 refine (mergeq_gt h3.hp hV' _ e (by rw[h2.cel];exact cd.2) (by rw[h2.cel];exact ce.2) (by rw[hlen];exact cd.1) (by rw[hlen];exact ce.1) v1 v2 q r hq hr vq vr hw hrq (Q:=fun w'=>Uw W w0 l nm hb ub mq ledv tdv ls td E B ab tb m av tv tq trv0 ptv s (j+1) w') (fun w1 hb1=>?_)).mono fun r w' ⟨e1,e2⟩=>⟨⟨_,e1⟩,e2⟩
 have hw:=h.next hb1
 have hq1:=h3.below hb1
 refine (write_any hq1 (by have:=hb1.size;omega) _ _ hq (wordOf_bd 5 (r:Int)).1 (wordOf_bd 5 (r:Int)).2 (may_fwdQ (by omega) (by omega)) (by omega) (by omega) (by rw[k2];omega) (by omega)).mono fun r w' ⟨e1,e2⟩=>⟨e1,?_⟩
 exact hw.wrote h1 hq1 h4 hq v5 (by rw[k1,hns]) e2
end
end Go.Proofs.YtpkojcfdkkjmcaaGreatDoor
namespace Go.Proofs.YtpkojcfdkkjmcaaGreatDoor
set_option maxRecDepth 100000
open Go.RowKit Go.Maps
def ndP (l:List Int) (ps:List (Int×Int)):List (Nat×Nat):=ps.map (fun p=>(utI l p.1.toNat,utI l p.2.toNat))
theorem ndP_take {l:List Int} {ps:List (Int×Int)} {j:Nat} (hj:j<ps.length):ndP l (ps.take (j+1))=ndP l (ps.take j)++[(utI l (ps.getD j (0,0)).1.toNat,utI l (ps.getD j (0,0)).2.toNat)]:=by
 unfold ndP
 rw[List.take_succ_eq_append_getElem hj,List.map_append,show ps.getD j (0,0)=ps[j] by simp[List.getD,hj]]
 rfl
structure UnR (s:Hst) (P:List (Nat×Nat)) (E:Nat->Nat) (n:Nat) (s':Hst):Prop where
 un:Un (utN s.l s.ns) P E []
 wf:Wf s.l s.ns.length E s'.l
 wr:Wrs s n s'
 nd:∃xs:List Nat,xs.length=n/\xs.Nodup/\∀x∈xs,x<(utT s.l).length/\E x≠x
section
variable {w wr w':World} {B hb ab tb ub mq:Nat} {m:Int} {av tv:Value} {tq:Nat} {trv ptv:Value} {ledv tdv:Value} {ls:List (Nat×Value)} {td:List (Nat×Nat)} {L:List Nat} {s:Hst} {E:Nat->Nat} {P:List (Nat×Nat)} {F:Nat->Prop}
theorem Jn.start {l:List Int} {nm:List ByteArray}:Jn l nm [] id [] [] 0:=by
 refine⟨Un.init _,fun p hp=>(by cases hp),?_,?_,Nat.le_refl _,fun x _ hx=>absurd rfl hx,fun x hx=>⟨fun h=>absurd rfl h,fun⟨p,hp,_⟩=>(by cases hp)⟩,List.nodup_nil⟩
 ·have:=fixN_top id (utT l).length
  simp only[List.length_nil]
  omega
 ·have:=fixN_top id (utT l).length
  simp only[List.length_nil]
  omega
theorem Uw.begin (hq:Hq w B hb ab tb m av s.l tv tq s.ns trv s.tr ptv s.pt s.n) (hS:SndN s.l s.ns.length) (hu:Um w s.l s.ns hb ub mq ledv tdv ls td L wr) (hE:Ld L E):Uw w wr s.l s.ns hb ub mq ledv tdv ls td E B ab tb m av tv tq trv ptv s 0 wr:=by
 refine⟨⟨w,L,rfl,hu,hE⟩,⟨s,trv,Wrs.nil,Wj.start hS,?_,a_Nx.refl _ _⟩,Mo.refl _ _,Ik.refl _,hu.bd,fun q hq'=>?_,?_⟩
 ·exact hq.below hu.b
 ·rcases mem_qfoot.1 hq' with e | e | e | e
  ·rw[e]
   exact lt_of_block hq.hp.blk
  ·exact hq.hp.ltz.2.1 q e
  ·exact (hq.tr.lt q e).2
  ·exact (hq.pt.lt q e).2
 ·exact hq.hp.ltz.2.2 tq (n_mem_foot.2 (Or.inr (Or.inl rfl)))
theorem Uw.done (h:Uw w wr s.l s.ns hb ub mq ledv tdv ls td E B ab tb m av tv tq trv ptv s ls.length w') (hJ:Jn s.l s.ns P E ls [] 0) (hb1:Below w.heap.size w wr) (hmq:w.heap.size<=mq) (hf:∀k,k∈qfoot hb ab av trv ptv->F k):∃s',UnR s P E ls.length s'/\Hs w' B hb m (fun k=>F k∨w.heap.size<=k) s'/\Mo F w w':=by
 obtain⟨s',trv',h1,h2,h3,h4⟩:=h.hq
 have hz:=hb1.size
 refine⟨s',⟨?_,h2.fin hJ,h1,ls.map (fun p=>utI s.l p.1),by simp,hJ.nd,fun x hx=>?_⟩,⟨ab,tb,av,tv,tq,trv',ptv,h3,fun k hk=>?_⟩,?_⟩
 ·have:=hJ.un
  simpa[ndU] using this
 ·obtain⟨p,hp,rfl⟩:=List.mem_map.1 hx
  obtain⟨W',L',_,hu,_⟩:=h.um
  have hlt:=utI_lt (hu.lt p hp).lt
  exact⟨hlt,(hJ.mem _ hlt).2 ⟨p,hp,rfl⟩⟩
 ·rcases mem_qfoot.1 hk with e | e | e | e
  ·exact Or.inl (hf _ (mem_qfoot.2 (Or.inl e)))
  ·exact Or.inl (hf _ (mem_qfoot.2 (Or.inr (Or.inl e))))
  ·rcases h4 k e with e | e
   ·exact Or.inl (hf _ (mem_qfoot.2 (Or.inr (Or.inr (Or.inl e)))))
   ·exact Or.inr (Nat.le_trans hz e)
  ·exact Or.inl (hf _ (mem_qfoot.2 (Or.inr (Or.inr (Or.inr e)))))
 ·refine (Mo.ofBelow hb1).trans h.mo (fun q hq=>?_)
  rcases hq with rfl | hq
  ·exact Or.inr hmq
  ·exact Or.inl (hf q hq)
end
end Go.Proofs.YtpkojcfdkkjmcaaGreatDoor
