/- Package cells: terms that are read, as plain data. -/
import Derived.Test.YtpkojcfdkkjmcaaGreatDoorso17Z
import Derived.Test.YtpkojcfdkkjmcaaGreatDoorso14Z
import Derived.Test.YtpkojcfdkkjmcaaGreatDoorso21Z
import Derived.Test.YtpkojcfdkkjmcaaGreatDoorso20Z
namespace Go.Proofs.YtpkojcfdkkjmcaaGreatDoor
set_option maxRecDepth 100000
open Go.RowKit
theorem pos_app:∀{m t:List Int} {x:Int},x∈m->pos (m++t) x=pos m x
 | y::r,t,x,h=>by
  by_cases e:y=x
  ·simp[pos,e]
  ·have h':x∈r:=by
    rcases List.mem_cons.1 h with rfl | h
    ·exact absurd rfl e
    ·exact h
   have:=pos_app (t:=t) h'
   simp only[List.cons_append,pos,if_neg e,this]
theorem posF_pre {m m':List Int} {x:Int} (h:m <+: m') (hx:x∈m):posF m' x=posF m x:=by
 obtain⟨t,rfl⟩:=h
 unfold posF
 rw[if_pos hx,if_pos (List.mem_append_left _ hx),pos_app hx]
def addT (TS:List Int) (t:Int):List Int:=if t∈TS then TS else TS++[t]
abbrev tmC (l:List Int) (c:Int):Int:=trmW l c.toNat
def addsJ (l cs TS:List Int):Nat->List Int
 | 0=>TS
 | j+1=>addT (addsJ l cs TS j) (tmC l (cs.getD j 0))
theorem addT_pre (TS:List Int) (t:Int):TS <+: addT TS t:=by
 unfold addT
 split
 ·exact List.prefix_refl _
 ·exact List.prefix_append _ _
theorem addT_mem (TS:List Int) (t:Int):t∈addT TS t:=by
 unfold addT
 split
 ·assumption
 ·simp
theorem addT_nodup {TS:List Int} {t:Int} (h:TS.Nodup):(addT TS t).Nodup:=by
 unfold addT
 split
 ·exact h
 ·rename_i hn
  rw[List.nodup_append]
  refine⟨h,by simp,fun x hx y hy e=>?_⟩
  simp at hy
  subst hy
  subst e
  exact hn hx
theorem addT_all {TS:List Int} {t:Int} {p:Int->Prop} (h:∀x∈TS,p x) (ht:p t):∀x∈addT TS t,p x:=fun x hx=>by
 unfold addT at hx
 split at hx
 ·exact h x hx
 ·rcases List.mem_append.1 hx with hx | hx
  ·exact h x hx
  ·simp at hx
   rw[hx]
   exact ht
section
variable {l cs TS:List Int}
theorem adds_pre (i:Nat):∀d,addsJ l cs TS i <+: addsJ l cs TS (i+d)
 | 0=>List.prefix_refl _
 | d+1=>(adds_pre i d).trans (addT_pre _ _)
theorem adds_le {i j:Nat} (h:i<=j):addsJ l cs TS i <+: addsJ l cs TS j:=by
 have:=adds_pre (l:=l) (cs:=cs) (TS:=TS) i (j-i)
 rw[show i+(j-i)=j by omega] at this
 exact this
theorem adds_mem {i j:Nat} (h:i<j):tmC l (cs.getD i 0)∈addsJ l cs TS j:=
 (adds_le (l:=l) (cs:=cs) (TS:=TS) (show i+1<=j by omega)).subset (addT_mem _ _)
theorem adds_nodup (h:TS.Nodup):∀j,(addsJ l cs TS j).Nodup
 | 0=>h
 | j+1=>addT_nodup (adds_nodup h j)
theorem adds_all {p:Int->Prop} (h:∀x∈TS,p x):∀j,(∀i,i<j->p (tmC l (cs.getD i 0)))->∀x∈addsJ l cs TS j,p x
 | 0,_=>h
 | j+1,hc=>addT_all (adds_all h j (fun i hi=>hc i (by omega))) (hc j (by omega))
theorem adds_len:∀j,(addsJ l cs TS j).length<=TS.length+j
 | 0=>Nat.le_refl _
 | j+1=>by
  have:=adds_len j
  show (addT _ _).length<=_
  unfold addT
  split
  ·omega
  ·simp
   omega
def outJ (l cs TS:List Int) (j:Nat):List Int:=(List.range j).map (fun i=>posF (addsJ l cs TS j) (tmC l (cs.getD i 0)))
theorem out_succ (j:Nat):outJ l cs TS (j+1)=outJ l cs TS j++[posF (addsJ l cs TS (j+1)) (tmC l (cs.getD j 0))]:=by
 unfold outJ
 rw[List.range_succ,List.map_append]
 congr 1
 apply List.map_congr_left
 intro i hi
 rw[List.mem_range] at hi
 exact posF_pre (addT_pre _ _) (adds_mem hi)
theorem out_all:outJ l cs TS cs.length=cs.map (fun c=>posF (addsJ l cs TS cs.length) (tmC l c)):=by
 refine list_ext0 (by simp[outJ]) (fun j hj=>?_)
 have hj':j<cs.length:=by simpa[outJ] using hj
 simp[outJ,List.getD,hj']
end
def MapT (TS:List Int) (D:DataW Unit):Prop:=(∀x:Int,Maps.has D (.int .u64 x)=decide (x∈TS))/\∀x:Int,x∈TS->D.atKey (.int .u64 x) (.lit (.int .i64 0))=.lit (.int .i64 (posF TS x))
theorem mapT_nil:MapT [] (.map []):=⟨fun s=>by simp[Maps.has],fun s h=>by cases h⟩
theorem mapT_put {TS:List Int} {x:Int} {D:DataW Unit} (h:MapT TS D) (hD:Maps.IsMap D) (hx:x∉TS):MapT (TS++[x]) (D.put (.int .u64 x) (.lit (.int .i64 (TS.length:Int)))):=by
 have hk:WideAt.IsKeyLit (.int .u64 x):=trivial
 refine⟨fun y=>?_,fun y hy=>?_⟩
 ·by_cases e:y=x
  ·subst e
   rw[Maps.has_put_same hD hk]
   simp
  ·have hne:Lit.int .u64 y≠Lit.int .u64 x:=fun h2=>e (by injection h2)
   rw[Maps.has_put_other hne,h.1,decide_eq_decide]
   simp[e]
 ·rw[posF_snoc hx]
  by_cases e:y=x
  ·subst e
   rw[Maps.atKey_put_same hD hk,if_pos rfl]
  ·have hne:Lit.int .u64 y≠Lit.int .u64 x:=fun h2=>e (by injection h2)
   rw[Maps.atKey_put_other hne,if_neg e]
   refine h.2 y ?_
   rcases List.mem_append.1 hy with hy | hy
   ·exact hy
   ·simp at hy
    exact absurd hy e
end Go.Proofs.YtpkojcfdkkjmcaaGreatDoor
namespace Go.Proofs.YtpkojcfdkkjmcaaGreatDoor
set_option maxRecDepth 100000
open Go.RowKit
theorem ri_lit2 {w:World} {b:Nat} {x y:Int} (h:w.heap[b]?=some (.cells #[.int .i64 x,.int .i64 y] 3)):Ri w (.slice (some ⟨b,0,none⟩) 2 2) [x,y]:=by
 refine⟨some ⟨b,0,none⟩,2,rfl,fun j hj=>?_⟩
 have e:j=0∨j=1:=by simp at hj;omega
 rcases e with rfl | rfl
 ·exact⟨b,0,rfl,by simp[World.cell?,h]⟩
 ·exact⟨b,0,rfl,by simp[World.cell?,h]⟩
theorem bad2 {l:List Int} {x y:Int} (hx:cellB l x=true) (hy:cellB l y=true):badF l [x,y]=[]:=by
 unfold badF badC
 rw[if_neg (by rw[ixOf_miss 0 (fun x=>!cellB l x) [x,y] (fun j hj=>by
  have e:j=0∨j=1:=by simp at hj;omega
  rcases e with rfl | rfl
  ·simp[hx]
  ·simp[hy])];              omega)]
theorem trm_may {l:List Int} {V:Nat->Bool} (h:Snd l V) (hl:l.length<=65536) {k:Nat} (hk:k<l.length):(0<=trmW l k/\trmW l k<=18446744073709551615)/\mayB (trmW l k) l.length=true/\(trmW l k % 8=0->∃j,j<l.length/\trmW l k=wdN l j/\valOf (trmW l k)=(j:Int)):=by
 obtain⟨j,hj,e,e2⟩:=trm_ends h _ k hk (Nat.le_refl _)
 rw[e2]
 have hg:=h.good j hj
 have hr:=h.rng (wdN l j) (by unfold wdN;simp[List.getD,hj])
 unfold endW
 by_cases h4:tgN l j=4
 ·rw[if_pos h4]
  obtain⟨s1,s2,s3,s4⟩:=word_str (j:=j) (by omega)
  refine⟨⟨s3,s4⟩,?_,fun e=>by omega⟩
  unfold mayB
  rw[Bool.and_eq_true]
  refine⟨?_,?_⟩
  ·unfold goodB
   rw[s1,s2]
   exact fits_str (by omega)
  ·rw[s2]
   simp
   exact Or.inr hj
 ·rw[if_neg h4]
  have htc:=tag_cases hg
  have ht:wdN l j % 8=tgN l j:=rfl
  have hne:¬(tgN l j=3∨tgN l j=5):=fun h3=>by
   unfold nxN at e
   rw[if_neg (by omega),if_pos h3] at e
   cases e
  have hself:tgN l j=0->valOf (wdN l j)=(j:Int):=fun h0=>by
   unfold nxN at e
   rw[if_pos h0] at e
   have hv:=val_place hg (Or.inl (ht ▸ h0))
   by_cases hs:vlN l j=j
   ·unfold vlN at hs
    omega
   ·rw[if_neg hs] at e
    cases e
  refine⟨hr,?_,fun h0=>⟨j,hj,rfl,hself (ht ▸ h0)⟩⟩
  unfold mayB
  rw[hg,Bool.true_and]
  by_cases h0:tgN l j=0
  ·rw[hself h0]
   simp
   exact Or.inr hj
  ·have htl:tellsB (wdN l j)=false:=by
    simp[tellsB]
    omega
   rw[htl]
   rfl
end Go.Proofs.YtpkojcfdkkjmcaaGreatDoor
