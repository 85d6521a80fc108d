/- Unification of cells, as plain data: all terms of a heap are nodes of one graph. -/
import Derived.BigRegion
import Derived.Maps.OwnSet
import Derived.Deep.RegionHeld3
import Derived.Test.YtpkojcfdkkjmcaaGreatDoorso31Z
import Derived.Test.YtpkojcfdkkjmcaaGreatDoorso32Z
import Derived.Test.YtpkojcfdkkjmcaaGreatDoorso25Z
import Derived.Test.YtpkojcfdkkjmcaaGreatDoorso08Z
import Derived.Test.YtpkojcfdkkjmcaaGreatDoorso29Z
import Derived.Test.YtpkojcfdkkjmcaaGreatDoorso17Z
import Derived.Test.YtpkojcfdkkjmcaaGreatDoorso03Z
import Derived.Test.YtpkojcfdkkjmcaaGreatDoorso26Z
namespace Go.Proofs.YtpkojcfdkkjmcaaGreatDoor
set_option maxRecDepth 100000
open Go.RowKit
section
variable {l:List Int} {V:Nat->Bool} {nm:List ByteArray}
def plsU (l:List Int):List Int:=(List.range l.length).map (fun (k:Nat)=>(k:Int))
theorem pls_len:(plsU l).length=l.length:=by simp[plsU]
theorem pls_at {k:Nat} (hk:k<l.length):(plsU l).getD k 0=(k:Int):=by simp[plsU,List.getD,hk]
def utT (l:List Int):List Int:=addsJ l (plsU l) [] (plsU l).length
theorem ut_nodup:(utT l).Nodup:=adds_nodup List.nodup_nil _
theorem ut_mem {k:Nat} (hk:k<l.length):trmW l k∈utT l:=by
 have:=adds_mem (l:=l) (cs:=plsU l) (TS:=[]) (i:=k) (j:=(plsU l).length) (by rw[pls_len];exact hk)
 rw[pls_at hk] at this
 exact this
theorem ut_in:∀t∈utT l,∃k,k<l.length/\t=trmW l k:=
 adds_all (p:=fun t=>∃k,k<l.length/\t=trmW l k) (fun _ h=>by cases h) _ (fun i hi=>by
  rw[pls_len] at hi
  rw[pls_at hi]
  exact⟨i,hi,rfl⟩)
theorem ut_len:(utT l).length<=l.length:=by
 have:=adds_len (l:=l) (cs:=plsU l) (TS:=[]) (plsU l).length
 rw[pls_len] at this
 unfold utT
 rw[pls_len]
 simpa using this
def utI (l:List Int) (k:Nat):Nat:=pos (utT l) (trmW l k)
theorem utI_lt {k:Nat} (hk:k<l.length):utI l k<(utT l).length:=pos_lt (ut_mem hk)
theorem utI_at {k:Nat} (hk:k<l.length):(utT l).getD (utI l k) 0=trmW l k:=pos_at (ut_mem hk)
theorem utI_eq {a b:Nat} (ha:a<l.length) (hb:b<l.length):utI l a=utI l b↔trmW l a=trmW l b:=
 ⟨fun e=>by rw[←utI_at ha,e,utI_at hb],fun e=>by unfold utI;rw[e]⟩
theorem utI_all {i:Nat} (hi:i<(utT l).length):∃k,k<l.length/\utI l k=i:=by
 obtain⟨k,hk,e⟩:=ut_in _ (getD_mem hi)
 exact⟨k,hk,by unfold utI;rw[←e];exact pos_of_getD ut_nodup hi⟩
def utN (l:List Int) (nm:List ByteArray):List Nd:=(utT l).map (ndT l nm (utT l))
theorem utN_len:(utN l nm).length=(utT l).length:=by simp[utN]
theorem utN_of {k:Nat} (hk:k<l.length):ndN (utN l nm) (utI l k)=ndT l nm (utT l) (trmW l k):=by
 have h1:=utI_lt hk
 have h2:=utI_at hk
 unfold ndN utN
 have:((utT l).map (ndT l nm (utT l))).getD (utI l k) nd0=ndT l nm (utT l) ((utT l).getD (utI l k) 0):=by simp[List.getD,h1]
 rw[this,h2]
theorem utN_args {k:Nat} (hk:k<l.length):(ndN (utN l nm) (utI l k)).args.length=(tdL l (trmW l k)).length:=by
 rw[utN_of hk]
 simp[ndT]
theorem utN_arg (hs:Snd l V) (hn:NsB l nm.length) (hl:l.length<=65536) {k j:Nat} (hk:k<l.length) (hj:j<(tdL l (trmW l k)).length):(0<=(tdL l (trmW l k)).getD j 0/\(tdL l (trmW l k)).getD j 0<(l.length:Int))/\argN (utN l nm) (utI l k) j=utI l ((tdL l (trmW l k)).getD j 0).toNat/\0<=(ndN (utN l nm) (utI l k)).args.getD j 0:=by
 have hr:=args_ok hs (trm_tw hs hn hl hk) _ (getD_mem hj)
 have hm:tmC l ((tdL l (trmW l k)).getD j 0)∈utT l:=ut_mem (by omega)
 have e:(ndN (utN l nm) (utI l k)).args.getD j 0=posF (utT l) (tmC l ((tdL l (trmW l k)).getD j 0)):=by
  rw[utN_of hk]
  exact getD_mapI _ hj
 refine⟨hr,?_,?_⟩
 ·unfold argN
  rw[e]
  unfold posF
  rw[if_pos hm,Int.toNat_natCast]
  rfl
 ·rw[e]
  exact (posF_in hm).1
theorem utA (hs:Snd l V) (hn:NsB l nm.length) (hl:l.length<=65536):GoodA (utN l nm):=by
 refine⟨fun x hx k hk=>?_,fun x hx=>?_,fun x=>?_⟩
 ·rw[utN_len] at hx
  obtain⟨p,hp,rfl⟩:=utI_all hx
  rw[utN_args hp] at hk
  obtain⟨h1,h2,h3⟩:=utN_arg hs hn hl hp hk
  refine⟨h3,?_⟩
  rw[h2,utN_len]
  exact utI_lt (by omega)
 ·rcases Nat.lt_or_ge x (utT l).length with h | h
  ·obtain⟨p,hp,rfl⟩:=utI_all h
   have hT:=trm_tw hs hn hl hp
   rw[utN_of hp] at hx ⊢
   have h1:tdK (trmW l p)=1:=hx
   have:tdL l (trmW l p)=[]:=by
    unfold tdK at h1
    unfold tdL
    rw[if_neg (fun e=>by rw[if_neg (by omega),if_neg (by omega),if_pos e] at h1;omega)]
   simp[ndT,this]
  ·unfold ndN
   rw[show (utN l nm).getD x nd0=nd0 by simp[List.getD,List.getElem?_eq_none (show (utN l nm).length<=x by rw[utN_len];exact h)]]
 ·rcases Nat.lt_or_ge x (utT l).length with h | h
  ·obtain⟨p,hp,rfl⟩:=utI_all h
   rw[utN_args hp]
   exact args_eight (trm_tw hs hn hl hp)
  ·unfold ndN
   rw[show (utN l nm).getD x nd0=nd0 by simp[List.getD,List.getElem?_eq_none (show (utN l nm).length<=x by rw[utN_len];exact h)]]
   exact Nat.zero_le _
theorem trm_place (hs:Snd l V) {k:Nat} (hk:k<l.length) (ht:trmW l k % 8=0∨trmW l k % 8=3) (hl:l.length<=65536):∃p,p<l.length/\valOf (trmW l k)=(p:Int)/\trmW l p=trmW l k/\nxN l p=none/\(trmW l k % 8=0->wdN l p=trmW l k/\tgN l p=0/\vlN l p=p)/\(trmW l k % 8=3->trmW l k=wordOf 3 (p:Int)/\tgN l p=4):=by
 obtain⟨j,hj,e,e2⟩:=trm_ends hs _ k hk (Nat.le_refl _)
 have he:=trm_end e
 rw[e2] at ht ⊢
 unfold endW at ht ⊢
 by_cases h4:tgN l j=4
 ·rw[if_pos h4] at ht ⊢
  obtain⟨s1,s2,_,_⟩:=word_str (j:=j) (by omega)
  refine⟨j,hj,s2,?_,e,fun h=>by omega,fun _=>⟨rfl,h4⟩⟩
  rw[he]
  unfold endW
  rw[if_pos h4]
 ·rw[if_neg h4] at ht ⊢
  have ht':wdN l j % 8=tgN l j:=rfl
  have h3:¬(tgN l j=3∨tgN l j=5):=fun h3=>by
   unfold nxN at e
   rw[if_neg (by omega),if_pos h3] at e
   cases e
  have h0:tgN l j=0:=by omega
  have hv:vlN l j=j:=by
   unfold nxN at e
   rw[if_pos h0] at e
   by_cases h5:vlN l j=j
   ·exact h5
   ·rw[if_neg h5] at e
    cases e
  have hg:=hs.good j hj
  have hf:fitsB (wdN l j % 8) (valOf (wdN l j))=true:=hg
  rw[ht',h0] at hf
  have h6:0<=valOf (wdN l j):=by
   simp[fitsB] at hf
   omega
  have h7:(valOf (wdN l j)).toNat=j:=hv
  refine⟨j,hj,by omega,?_,e,fun _=>⟨rfl,h0,hv⟩,fun h=>by omega⟩
  rw[he]
  unfold endW
  rw[if_neg h4]
theorem at_inj (hs:Snd l V) (hn:NsB l nm.length) (hl:l.length<=65536) {a b:Nat} (ha:a<l.length) (hb:b<l.length) (h0:0<=tdA (trmW l a)) (e:tdA (trmW l a)=tdA (trmW l b)):trmW l a=trmW l b:=by
 have tA:=(trm_tw hs hn hl ha).tag
 have tB:=(trm_tw hs hn hl hb).tag
 have kA:trmW l a % 8=0∨trmW l a % 8=3:=by
  unfold tdA at h0
  by_cases h:trmW l a % 8=1∨trmW l a % 8=2
  ·rw[if_pos h] at h0
   omega
  ·omega
 have kB:trmW l b % 8=0∨trmW l b % 8=3:=by
  rw[e] at h0
  unfold tdA at h0
  by_cases h:trmW l b % 8=1∨trmW l b % 8=2
  ·rw[if_pos h] at h0
   omega
  ·omega
 obtain⟨p,hp,vp,ep,_,_,_⟩:=trm_place hs ha kA hl
 obtain⟨q,hq,vq,eq,_,_,_⟩:=trm_place hs hb kB hl
 unfold tdA at e
 rw[if_neg (by omega),if_neg (by omega)] at e
 have:p=q:=by omega
 rw[←ep,←eq,this]
theorem leaf_inj (hs:Snd l V) (hn:NsB l nm.length) (hnd:nm.Nodup) (hl:l.length<=65536) {a b:Nat} (ha:a<l.length) (hb:b<l.length) (hk:tdK (trmW l a)=2∨tdK (trmW l a)=3) (e1:tdK (trmW l a)=tdK (trmW l b)) (e2:tdS l nm (trmW l a)=tdS l nm (trmW l b)) (e3:tdN (trmW l a)=tdN (trmW l b)):trmW l a=trmW l b:=by
 have TA:=trm_tw hs hn hl ha
 have TB:=trm_tw hs hn hl hb
 have bA:=wordOf_back _ TA.r0 TA.r1
 have bB:=wordOf_back _ TB.r0 TB.r1
 have key:∀{t:Int},(t % 8=0∨t % 8=1∨t % 8=2∨t % 8=3)->(tdK t=2->t % 8=1)/\(tdK t=3->t % 8=2):=fun {t} h=>by
  unfold tdK
  rcases h with h | h | h | h <;> simp[h]
 rcases hk with hk | hk
 ·have gA:=(key TA.tag).1 hk
  have gB:=(key TB.tag).1 (by omega)
  unfold tdS at e2
  rw[if_pos gA,if_pos gB] at e2
  obtain⟨a1,a2⟩:=TA.atom gA
  obtain⟨b1,b2⟩:=TB.atom gB
  have:(valOf (trmW l a)).toNat=(valOf (trmW l b)).toNat:=by
   simp only[List.getD,List.getElem?_eq_getElem a2,List.getElem?_eq_getElem b2,Option.getD_some] at e2
   have hp:=List.pairwise_iff_getElem.1 hnd
   rcases Nat.lt_trichotomy (valOf (trmW l a)).toNat (valOf (trmW l b)).toNat with h | h | h
   ·exact absurd e2 (hp _ _ a2 b2 h)
   ·exact h
   ·exact absurd e2.symm (hp _ _ b2 a2 h)
  rw[←bA,←bB,gA,gB,show valOf (trmW l a)=valOf (trmW l b) by omega]
 ·have gA:=(key TA.tag).2 hk
  have gB:=(key TB.tag).2 (by omega)
  unfold tdN at e3
  rw[if_pos gA,if_pos gB] at e3
  rw[←bA,←bB,gA,gB,e3]
end
end Go.Proofs.YtpkojcfdkkjmcaaGreatDoor
namespace Go.Proofs.YtpkojcfdkkjmcaaGreatDoor
set_option maxRecDepth 100000
open Go.RowKit
abbrev tmV (k a:Int) (s:ByteArray) (n:Int) (v:Value) (c:Int):Value:=.agg #[.int .i64 k,.int .i64 a,.string s,.int .i64 n,v,.int .i64 c]
abbrev tmO (k a:Int) (s:ByteArray) (n:Int) (v:Value) (c:Int):Obj:=.cells #[.int .i64 k,.int .i64 a,.string s,.int .i64 n,v,.int .i64 c] 242
theorem tm_cells {w:World} {q:Nat} {u0 u1 u2 u3 u4 u5:Value} {T:TypeId} (h:w.heap[q]?=some (.cells #[u0,u1,u2,u3,u4,u5] T)):(w.cell? ⟨q,0,none⟩=some u0/\w.cell? ⟨q,1,none⟩=some u1/\w.cell? ⟨q,2,none⟩=some u2/\w.cell? ⟨q,3,none⟩=some u3/\w.cell? ⟨q,4,none⟩=some u4/\w.cell? ⟨q,5,none⟩=some u5)/\(w.frozen? ⟨q,0,none⟩=false/\w.frozen? ⟨q,1,none⟩=false/\w.frozen? ⟨q,2,none⟩=false/\w.frozen? ⟨q,3,none⟩=false/\w.frozen? ⟨q,4,none⟩=false/\w.frozen? ⟨q,5,none⟩=false)/\q<w.heap.size:=by
 refine⟨⟨?_,?_,?_,?_,?_,?_⟩,⟨?_,?_,?_,?_,?_,?_⟩,lt_of_block h⟩ <;> simp[World.cell?,World.frozen?,h]
theorem bytes_eqU {s t:ByteArray} (h:s.toList=t.toList):s=t:=by
 rw[ByteArray.toList_eq,ByteArray.toList_eq] at h
 apply ByteArray.ext
 exact Array.toList_inj.1 h
def ordU (k1 a1 k2 a2:Int):Bool:=(decide (k1=k2) && decide (a1<a2)) || (!decide (k1=1) && decide (k2=1))
section
variable {k1 a1 n1 c1 k2 a2 n2 c2:Int} {s1 s2:ByteArray} {v1 v2:Option Addr} {l1 l2 d1 d2:Nat}
set_option maxHeartbeats 2000000 in
theorem alike_any (w:World) :
  Calls Tryz.prog 179 #[tmV k1 a1 s1 n1 (.slice v1 l1 d1) c1,tmV k2 a2 s2 n2 (.slice v2 l2 d2) c2] w fun e w'=>e=.returned (.bool (decide (k1=k2) && decide (s1=s2) && decide (n1=n2) && decide (l1=l2)))/\Below w.heap.size w w':=by
 have hb:Below w.heap.size w ((w.alloc (tmO k1 a1 s1 n1 (.slice v1 l1 d1) c1)).alloc (tmO k2 a2 s2 n2 (.slice v2 l2 d2) c2)):=(below_alloc w _).alloc (by simp) _
 by_cases hk:k1=k2
 ·by_cases hs:s1=s2
  ·by_cases hn:n1=n2
   ·by_cases hl:l1=l2
    ·subst hk hs hn hl
     go_enter Tryz.func179,Tryz.ntmps179
     go_wp2
     go_ret
     exact⟨by simp,hb⟩
    ·subst hk hs hn
     have hl1:¬(l1:Int)=(l2:Int):=by omega
     go_enter Tryz.func179,Tryz.ntmps179
     go_wp2
     go_ret
     exact⟨by simp[hl,hl1],hb⟩
   ·subst hk hs
    go_enter Tryz.func179,Tryz.ntmps179
    go_wp2
    go_ret
    exact⟨by simp[hn],hb⟩
  ·subst hk
   have hs1:¬s1.toList=s2.toList:=fun e=>hs (bytes_eqU e)
   go_enter Tryz.func179,Tryz.ntmps179
   go_wp2
   go_ret
   exact⟨by simp[hs],hb⟩
 ·go_enter Tryz.func179,Tryz.ntmps179
  go_wp2
  go_ret
  exact⟨by simp[hk],hb⟩
end
end Go.Proofs.YtpkojcfdkkjmcaaGreatDoor
namespace Go.Proofs.YtpkojcfdkkjmcaaGreatDoor
set_option maxRecDepth 100000
open Go.RowKit
abbrev set6U (w:World) (q:Nat) (u0 u1 u2 u3 u4 u5:Value):World:=(((((w.setCell ⟨q,0,none⟩ u0).setCell ⟨q,1,none⟩ u1).setCell ⟨q,2,none⟩ u2).setCell ⟨q,3,none⟩ u3).setCell ⟨q,4,none⟩ u4).setCell ⟨q,5,none⟩ u5
theorem set6U_at {w:World} {q:Nat} {v0 v1 v2 v3 v4 v5:Value} {T:TypeId} (h:w.heap[q]?=some (.cells #[v0,v1,v2,v3,v4,v5] T)) (u0 u1 u2 u3 u4 u5:Value):(set6U w q u0 u1 u2 u3 u4 u5).heap[q]?=some (.cells #[u0,u1,u2,u3,u4,u5] T):=by
 have h0:=heap_setCell_same w q 0 _ _ u0 h
 have h1:=heap_setCell_same _ q 1 _ _ u1 h0
 have h2:=heap_setCell_same _ q 2 _ _ u2 h1
 have h3:=heap_setCell_same _ q 3 _ _ u3 h2
 have h4:=heap_setCell_same _ q 4 _ _ u4 h3
 exact heap_setCell_same _ q 5 _ _ u5 h4
theorem set6U_far (w:World) {q k:Nat} (u0 u1 u2 u3 u4 u5:Value) (h:k≠q):(set6U w q u0 u1 u2 u3 u4 u5).heap[k]?=w.heap[k]?:=by
 rw[Below.heap_setCell _ _ _ _ h,Below.heap_setCell _ _ _ _ h,Below.heap_setCell _ _ _ _ h,Below.heap_setCell _ _ _ _ h,Below.heap_setCell _ _ _ _ h,Below.heap_setCell _ _ _ _ h]
theorem set6U_below {W w:World} {n q:Nat} (hb:Below n W w) (hq:n<=q) (u0 u1 u2 u3 u4 u5:Value):Below n W (set6U w q u0 u1 u2 u3 u4 u5):=(((((hb.setCell (p:=⟨q,0,none⟩) hq _).setCell (p:=⟨q,1,none⟩) hq _).setCell (p:=⟨q,2,none⟩) hq _).setCell (p:=⟨q,3,none⟩) hq _).setCell (p:=⟨q,4,none⟩) hq _).setCell (p:=⟨q,5,none⟩) hq _
theorem set6U_mo {S:Nat->Prop} {a w:World} {q:Nat} (h:Mo S a w) (hq:S q∨a.heap.size<=q) (u0 u1 u2 u3 u4 u5:Value):Mo S a (set6U w q u0 u1 u2 u3 u4 u5):=(((((h.setCell (p:=⟨q,0,none⟩) hq _).setCell (p:=⟨q,1,none⟩) hq _).setCell (p:=⟨q,2,none⟩) hq _).setCell (p:=⟨q,3,none⟩) hq _).setCell (p:=⟨q,4,none⟩) hq _).setCell (p:=⟨q,5,none⟩) hq _
theorem ret_tm2 {w:World} {fn:Func} {t s:Tmp} (hfn:fn.results=#[.cell t 242,.cell s 242]) {tmps:Array Value} {q p:Nat} {u0 u1 u2 u3 u4 u5 x0 x1 x2 x3 x4 x5:Value} (h4:tmps[t]?.getD undef=.pointer (some ⟨q,0,none⟩)) (h5:tmps[s]?.getD undef=.pointer (some ⟨p,0,none⟩)) (hq:w.heap[q]?=some (.cells #[u0,u1,u2,u3,u4,u5] 242)) (hp:w.heap[p]?=some (.cells #[x0,x1,x2,x3,x4,x5] 242)):(results fn tmps).run Tryz.prog w=.ok (.tuple #[.agg #[u0,u1,u2,u3,u4,u5],.agg #[x0,x1,x2,x3,x4,x5]]) w:=by
 obtain⟨⟨z0,z1,z2,z3,z4,z5⟩,_⟩:=tm_cells hq
 obtain⟨⟨y0,y1,y2,y3,y4,y5⟩,_⟩:=tm_cells hp
 simp[results,hfn,go_sem,h4,h5,z0,z1,z2,z3,z4,z5,y0,y1,y2,y3,y4,y5]
section
variable {k1 a1 n1 c1 k2 a2 n2 c2:Int} {s1 s2:ByteArray} {v1 v2:Option Addr} {l1 l2 d1 d2:Nat}
set_option maxHeartbeats 2000000 in
theorem ordered_any (w:World) :
  Calls Tryz.prog 177 #[tmV k1 a1 s1 n1 (.slice v1 l1 d1) c1,tmV k2 a2 s2 n2 (.slice v2 l2 d2) c2] w fun e w'=>e=.returned (.tuple (if ordU k1 a1 k2 a2=true then #[tmV k2 a2 s2 n2 (.slice v2 l2 d2) c2,tmV k1 a1 s1 n1 (.slice v1 l1 d1) c1] else #[tmV k1 a1 s1 n1 (.slice v1 l1 d1) c1,tmV k2 a2 s2 n2 (.slice v2 l2 d2) c2]))/\Below w.heap.size w w':=by
 have hb:∀x y:Obj,Below w.heap.size w ((((w.alloc (tmO k1 a1 s1 n1 (.slice v1 l1 d1) c1)).alloc (tmO k2 a2 s2 n2 (.slice v2 l2 d2) c2)).alloc x).alloc y).drew:=fun x y=>((((below_alloc w _).alloc (by simp) _).alloc (by simp;omega) _).alloc (by simp;omega) _).drew
 have h0:∀x y:Obj,((((w.alloc (tmO k1 a1 s1 n1 (.slice v1 l1 d1) c1)).alloc (tmO k2 a2 s2 n2 (.slice v2 l2 d2) c2)).alloc x).alloc y).drew.heap[w.heap.size+1+1]?=some x/\((((w.alloc (tmO k1 a1 s1 n1 (.slice v1 l1 d1) c1)).alloc (tmO k2 a2 s2 n2 (.slice v2 l2 d2) c2)).alloc x).alloc y).drew.heap[w.heap.size+1+1+1]?=some y:=fun x y=>by
  have h1:=heap_alloc_new ((w.alloc (tmO k1 a1 s1 n1 (.slice v1 l1 d1) c1)).alloc (tmO k2 a2 s2 n2 (.slice v2 l2 d2) c2)) x
  have h2:=heap_alloc_new (((w.alloc (tmO k1 a1 s1 n1 (.slice v1 l1 d1) c1)).alloc (tmO k2 a2 s2 n2 (.slice v2 l2 d2) c2)).alloc x) y
  have e1:((w.alloc (tmO k1 a1 s1 n1 (.slice v1 l1 d1) c1)).alloc (tmO k2 a2 s2 n2 (.slice v2 l2 d2) c2)).heap.size=w.heap.size+1+1:=by simp
  have e2:(((w.alloc (tmO k1 a1 s1 n1 (.slice v1 l1 d1) c1)).alloc (tmO k2 a2 s2 n2 (.slice v2 l2 d2) c2)).alloc x).heap.size=w.heap.size+1+1+1:=by simp
  rw[e1] at h1
  rw[e2] at h2
  exact⟨(Below.heap_alloc _ _ _ (by simp)).trans h1,h2⟩
 by_cases hk:k1=k2
 ·by_cases ha:a1<a2
  ·have ho:ordU k1 a1 k2 a2=true:=by simp[ordU,hk,ha]
   rw[ho]
   subst hk
   clear ho
   go_enter Tryz.func177,Tryz.ntmps177
   go_wp2
   go_region
   go_wp2
   exact bodyPost_ret (ret_tm2 Tryz.results177 (by rfl) (by rfl) (h0 _ _).1 (h0 _ _).2) rfl ⟨rfl,hb _ _⟩
  ·have ho:ordU k1 a1 k2 a2=false:=by simp[ordU,hk,ha]
   rw[ho]
   subst hk
   clear ho
   by_cases h1:k1=1
   ·subst h1
    go_enter Tryz.func177,Tryz.ntmps177
    go_wp2
    go_region
    go_wp2
    exact bodyPost_ret (ret_tm2 Tryz.results177 (by rfl) (by rfl) (h0 _ _).1 (h0 _ _).2) rfl ⟨rfl,hb _ _⟩
   ·have h1':(k1 == 1)=false:=by simpa using h1
    go_enter Tryz.func177,Tryz.ntmps177
    go_wp2
    go_region
    go_wp2
    exact bodyPost_ret (ret_tm2 Tryz.results177 (by rfl) (by rfl) (h0 _ _).1 (h0 _ _).2) rfl ⟨rfl,hb _ _⟩
 ·by_cases h1:k1=1
  ·have ho:ordU k1 a1 k2 a2=false:=by simp[ordU,h1];omega
   rw[ho]
   subst h1
   clear ho
   go_enter Tryz.func177,Tryz.ntmps177
   go_wp2
   go_region
   go_wp2
   exact bodyPost_ret (ret_tm2 Tryz.results177 (by rfl) (by rfl) (h0 _ _).1 (h0 _ _).2) rfl ⟨rfl,hb _ _⟩
  ·by_cases h2:k2=1
   ·have ho:ordU k1 a1 k2 a2=true:=by simp[ordU,h1,h2]
    rw[ho]
    subst h2
    clear ho
    go_enter Tryz.func177,Tryz.ntmps177
    go_wp2
    go_region
    go_wp2
    exact bodyPost_ret (ret_tm2 Tryz.results177 (by rfl) (by rfl) (h0 _ _).1 (h0 _ _).2) rfl ⟨rfl,hb _ _⟩
   ·have ho:ordU k1 a1 k2 a2=false:=by simp[ordU,hk,h2]
    rw[ho]
    clear ho
    have h1':(k1 == 1)=false:=by simpa using h1
    have h2':(k2 == 1)=false:=by simpa using h2
    go_enter Tryz.func177,Tryz.ntmps177
    go_wp2
    go_region
    go_wp2
    exact bodyPost_ret (ret_tm2 Tryz.results177 (by rfl) (by rfl) (h0 _ _).1 (h0 _ _).2) rfl ⟨rfl,hb _ _⟩
end
end Go.Proofs.YtpkojcfdkkjmcaaGreatDoor
namespace Go.Proofs.YtpkojcfdkkjmcaaGreatDoor
set_option maxRecDepth 100000
open Go.RowKit Go.Maps
theorem infoTm:(Tryz.prog.info? 242).map (fun i=>(i.zero,i.size,i.bytes))=some (some (.agg #[.int .i64 0,.int .i64 0,.string ⟨#[]⟩,.int .i64 0,.slice none 0 0,.int .i64 0]),6,72):=by kernel_rfl
theorem nodup_valsG {α:Type} [DecidableEq α] (f:Nat->α):∀(n:Nat) (L:List α),L.Nodup->(∀x∈L,∃k,k<n/\x=f k)->L.length<=n
 | 0,L,_,h=>by
  cases L with
  | nil=>exact Nat.le_refl _
  | cons x r=>
   obtain⟨k,hk,_⟩:=h x (by simp)
   omega
 | n+1,L,hn,h=>by
  have h1:=nodup_valsG f n (L.erase (f n)) (hn.erase _) (fun x hx=>by
   have hx2:=(List.Nodup.mem_erase_iff hn).1 hx
   obtain⟨k,hk,e⟩:=h x hx2.2
   refine⟨k,?_,e⟩
   rcases Nat.lt_or_ge k n with h3 | h3
   ·exact h3
   ·have e2:k=n:=by omega
    subst e2
    exact absurd e hx2.1)
  have h2:=List.length_erase (a:=f n) (l:=L)
  split at h2 <;> omega
theorem map_tight {H:Type} {P:Program} {k:TypeId} {R:Value->Option (DataW H×List MemPlace)} {w:World} {b n:Nat} {D:DataW H} (K:Keyed P k) (h:w.ownsMap P k R b n D) {N:Nat} (f:Nat->Lit) (hk:∀kl,Maps.has D kl=true->∃j,j<N/\kl=f j):w.ownsMap P k R b N D:=by
 obtain⟨es,clock,hb,F,hs,rfl⟩:=h
 refine⟨es,clock,hb,F,?_,rfl⟩
 have h1:=fit_apart K F
 have h2:=fit_keys F
 have hX:∀x∈(es.toList.map (WideElems.rg P k R)).map (fun p=>p.1),∃j,j<N/\x=f j:=fun x hx=>by
  obtain⟨p,hp,rfl⟩:=List.mem_map.1 hx
  refine hk p.1 ?_
  obtain⟨v,hv⟩:=h2 p hp
  exact List.any_eq_true.2 ⟨p,mem_sorted.2 hp,WideAt.sameKey_self (K.key hv)⟩
 have h3:=@nodup_valsG Lit (fun a b=>Classical.propDecidable (a=b)) f N _ (by
  rw[List.nodup_iff_pairwise_ne,List.pairwise_map]
  exact h1) hX
 simpa using h3
theorem isMap_of {H:Type} {P:Program} {k:TypeId} {R:Value->Option (DataW H×List MemPlace)} {w:World} {b n:Nat} {D:DataW H} (h:w.ownsMap P k R b n D):IsMap D:=by
 obtain⟨es,clock,_,_,_,rfl⟩:=h
 exact⟨_,rfl⟩
structure Ik (w w':World):Prop where
 size:w.heap.size<=w'.heap.size
 k:∀(q:Nat) (cs:Array Value) (fr:Nat×Nat),w.heap[q]?=some (.cells cs 3 fr)->w'.heap[q]?=some (.cells cs 3 fr)
theorem Ik.refl (w:World):Ik w w:=⟨Nat.le_refl _,fun _ _ _ h=>h⟩
theorem Ik.trans {a b c:World} (h:Ik a b) (h2:Ik b c):Ik a c:=⟨Nat.le_trans h.size h2.size,fun q cs fr hq=>h2.k q cs fr (h.k q cs fr hq)⟩
theorem Ik.below {w w':World} (h:Below w.heap.size w w'):Ik w w':=⟨h.size,fun q _ _ hq=>(h.block q (lt_of_block hq)).trans hq⟩
theorem Ik.set {w:World} {q i:Nat} {cs:Array Value} {e:TypeId} {fr:Nat×Nat} (hq:w.heap[q]?=some (.cells cs e fr)) (he:e≠3) (v:Value):Ik w (w.setCell ⟨q,i,none⟩ v):=
 ⟨by simp,fun k cs' fr' hk=>(Below.heap_setCell _ _ _ _ (obj_ne hk hq (Ne.symm he))).trans hk⟩
theorem Ik.set6 {w:World} {q:Nat} {v0 v1 v2 v3 v4 v5:Value} {e:TypeId} (hq:w.heap[q]?=some (.cells #[v0,v1,v2,v3,v4,v5] e)) (he:e≠3) (u0 u1 u2 u3 u4 u5:Value):Ik w (set6U w q u0 u1 u2 u3 u4 u5):=
 ⟨by simp,fun k cs' fr' hk=>(set6U_far w u0 u1 u2 u3 u4 u5 (obj_ne hk hq (Ne.symm he))).trans hk⟩
theorem Ik.drew {w w':World} (h:Ik w w'):Ik w w'.drew:=⟨h.size,h.k⟩
theorem Ik.alloc {w w':World} (h:Ik w w') (o:Obj):Ik w (w'.alloc o):=h.trans (Ik.below (below_alloc w' o))
theorem Ik.grown {w w':World} {row:Option Nat} (hg:w.grownBy w' row) (hr:∀q cs fr,row=some q->w.heap[q]?≠some (.cells cs 3 fr)):Ik w w':=
 ⟨hg.size,fun q cs fr hq=>(hg.block q (lt_of_block hq) (fun e=>hr q cs fr e.symm hq)).trans hq⟩
theorem Ik.row {w w':World} (h:Ik w w') {B z n:Nat} {v:Value} {xs:List Value} (hr:w.ownsRow B 3 z v n xs):w'.ownsRow B 3 z v n xs:=row_keep hr (fun k hk=>by
 obtain⟨cs,hp⟩:=row_obj hr hk
 rw[hp]
 exact h.k k _ _ hp)
def tmc (l:List Int) (nm:List ByteArray) (c:Nat) (v:Value):List Value:=[.int .i64 (tdK (trmW l c)),.int .i64 (tdA (trmW l c)),.string (tdS l nm (trmW l c)),.int .i64 (tdN (trmW l c)),v,.int .i64 (c:Int)]
abbrev tmU (l:List Int) (nm:List ByteArray) (c:Nat) (v:Value):Value:=tmV (tdK (trmW l c)) (tdA (trmW l c)) (tdS l nm (trmW l c)) (tdN (trmW l c)) v (c:Int)
structure Tv (w:World) (l:List Int) (c:Nat) (v:Value):Prop where
 lt:c<l.length
 cell:cellB l (c:Int)=true
 args:∃ao d,v=.slice ao (tdL l (trmW l c)).length d/\∃B,w.ownsRow B 3 1 (.slice ao (tdL l (trmW l c)).length d) (tdL l (trmW l c)).length ((tdL l (trmW l c)).map (Value.int .i64))
theorem Tv.keep {w w':World} {l:List Int} {c:Nat} {v:Value} (h:Tv w l c v) (hk:Ik w w'):Tv w' l c v:=by
 obtain⟨h1,h2,ao,d,e,B,ho⟩:=h
 exact⟨h1,h2,ao,d,e,B,hk.row ho⟩
abbrev RU:Value->Option (DataW Value×List MemPlace):=fun v=>some (.held v,[])
abbrev zTm:Value:=tmV 0 0 ⟨#[]⟩ 0 (.slice none 0 0) 0
theorem zeroTm (w:World):(zeroValue 242).run Tryz.prog w=.ok zTm w:=by kernel_rfl
theorem ru_inj {v x:Value} {ps:List MemPlace} (h:RU v=some (.held x,ps)):v=x:=DataW.held.inj (Prod.mk.inj (Option.some.inj h)).1
theorem tdA_wf {l:List Int} {V:Nat->Bool} {nm:List ByteArray} (hs:Snd l V) (hn:NsB l nm.length) (hl:l.length<=65536) {k:Nat} (hk:k<l.length):(Lit.int .i64 (tdA (trmW l k))).wf=true:=by
 refine WalkArith.wf_i64 ?_
 unfold tdA
 have hT:=trm_tw hs hn hl hk
 by_cases h:trmW l k % 8=1∨trmW l k % 8=2
 ·rw[if_pos h]
  omega
 ·rw[if_neg h]
  have ht:trmW l k % 8=0∨trmW l k % 8=3:=by have:=hT.tag;omega
  obtain⟨p,hp,hv,_⟩:=trm_place hs hk ht hl
  omega
theorem utA_lt {l:List Int} {V:Nat->Bool} {nm:List ByteArray} (hs:Snd l V) (hn:NsB l nm.length) (hl:l.length<=65536):∀k,k<(utT l).length->tdA ((utT l).getD k 0)<(l.length:Int):=fun k hk=>by
 obtain⟨a,ha,rfl⟩:=utI_all hk
 rw[utI_at ha]
 have hT:=trm_tw hs hn hl ha
 unfold tdA
 by_cases h:trmW l a % 8=1∨trmW l a % 8=2
 ·rw[if_pos h]
  omega
 ·rw[if_neg h]
  obtain⟨p,hp,hv,_⟩:=trm_place hs ha (by have:=hT.tag;omega) hl
  omega
structure MpU (w:World) (l:List Int) (nm:List ByteArray) (L:List Nat) (D:DataW Value):Prop where
 yes:∀a:Lit,Maps.has D a=true->∃i v c,i<L.length/\L.getD i 0≠i/\a=.int .i64 (tdA ((utT l).getD i 0))/\D.atKey a (.held zTm)=.held (tmU l nm c v)/\Tv w l c v/\utI l c=L.getD i 0
 no:∀i,i<L.length->L.getD i 0≠i->Maps.has D (.int .i64 (tdA ((utT l).getD i 0)))=true
section
variable {w w':World} {l:List Int} {V:Nat->Bool} {nm:List ByteArray} {L:List Nat} {D:DataW Value}
theorem MpU.keep (h:MpU w l nm L D) (hk:Ik w w'):MpU w' l nm L D:=
 ⟨fun a ha=>by
  obtain⟨i,v,c,h1,h2,h3,h4,h5,h6⟩:=h.yes a ha
  exact⟨i,v,c,h1,h2,h3,h4,h5.keep hk,h6⟩,h.no⟩
theorem ut_inj (hs:Snd l V) (hn:NsB l nm.length) (hl:l.length<=65536) {i j:Nat} (hi:i<(utT l).length) (hj:j<(utT l).length) (h0:0<=tdA ((utT l).getD i 0)) (e:tdA ((utT l).getD i 0)=tdA ((utT l).getD j 0)):i=j:=by
 obtain⟨a,ha,rfl⟩:=utI_all hi
 obtain⟨b,hb,rfl⟩:=utI_all hj
 rw[utI_at ha] at h0 e
 rw[utI_at hb] at e
 exact (utI_eq ha hb).2 (at_inj hs hn hl ha hb h0 e)
theorem MpU.nil:MpU w l nm (List.range (utT l).length) (.map []):=
 ⟨fun a ha=>by simp[Maps.has] at ha,fun i hi hne=>absurd (by
  have hi':i<(utT l).length:=by simpa using hi
  simp[List.getD,hi']) hne⟩
theorem MpU.put (h:MpU w l nm L D) (hD:IsMap D) {i c:Nat} {v:Value} (hi:i<L.length) (ht:Tv w l c v) (hne:utI l c≠i) :
  MpU w l nm (L.set i (utI l c)) (D.put (.int .i64 (tdA ((utT l).getD i 0))) (.held (tmU l nm c v))):=by
 have hk:WideAt.IsKeyLit (.int .i64 (tdA ((utT l).getD i 0))):=trivial
 refine⟨fun a ha=>?_,fun j hj hj2=>?_⟩
 ·by_cases e:a=.int .i64 (tdA ((utT l).getD i 0))
  ·subst e
   refine⟨i,v,c,by simpa using hi,?_,rfl,atKey_put_same hD hk _ _,ht,?_⟩
   ·rw[getD_setN hi,if_pos rfl]
    exact hne
   ·rw[getD_setN hi,if_pos rfl]
  ·rw[has_put_other e] at ha
   obtain⟨j,u,d,h1,h2,h3,h4,h5,h6⟩:=h.yes a ha
   have hji:j≠i:=fun e2=>e (by rw[h3,e2])
   refine⟨j,u,d,by simpa using h1,?_,h3,?_,h5,?_⟩
   ·rw[getD_setN hi,if_neg hji]
    exact h2
   ·rw[atKey_put_other e]
    exact h4
   ·rw[getD_setN hi,if_neg hji]
    exact h6
 ·by_cases e:(Lit.int .i64 (tdA ((utT l).getD j 0)))=.int .i64 (tdA ((utT l).getD i 0))
  ·rw[e,has_put_same hD hk]
  ·rw[has_put_other e]
   have hji:j≠i:=fun e2=>e (by rw[e2])
   have hj':j<L.length:=by simpa using hj
   rw[getD_setN hi,if_neg hji] at hj2
   exact h.no j hj' hj2
theorem MpU.at_ (hs:Snd l V) (hn:NsB l nm.length) (hl:l.length<=65536) (h:MpU w l nm L D) (hL:L.length=(utT l).length) (hL0:∀j,j<L.length->L.getD j 0≠j->0<=tdA ((utT l).getD j 0)) {i:Nat} (hi:i<L.length):(L.getD i 0=i/\Maps.has D (.int .i64 (tdA ((utT l).getD i 0)))=false)∨(L.getD i 0≠i/\Maps.has D (.int .i64 (tdA ((utT l).getD i 0)))=true/\∃v c,D.atKey (.int .i64 (tdA ((utT l).getD i 0))) (.held zTm)=.held (tmU l nm c v)/\Tv w l c v/\utI l c=L.getD i 0):=by
 cases hh:Maps.has D (.int .i64 (tdA ((utT l).getD i 0))) with
 | false=>
  refine Or.inl ⟨?_,rfl⟩
  apply Classical.byContradiction
  intro hne
  rw[h.no i hi hne] at hh
  cases hh
 | true=>
  obtain⟨j,v,c,h1,h2,h3,h4,h5,h6⟩:=h.yes _ hh
  injection h3 with _ h3
  have e:=ut_inj hs hn hl (by rw[←hL];exact h1) (by rw[←hL];exact hi) (hL0 j h1 h2) h3.symm
  subst e
  exact Or.inr ⟨h2,rfl,v,c,h4,h5,h6⟩
end
structure Um (W0:World) (l:List Int) (nm:List ByteArray) (hb ub mq:Nat) (ledv tdv:Value) (ls:List (Nat×Value)) (td:List (Nat×Nat)) (L:List Nat) (w:World):Prop where
 b:Below W0.heap.size W0 w
 blk:w.heap[ub]?=some (.cells #[.pointer (some ⟨hb,0,none⟩),ledv,.map (some mq),tdv] 195)
 ub0:W0.heap.size<=ub
 mq0:W0.heap.size<=mq
 map:∃D,w.ownsMap Tryz.prog 3 RU mq l.length D/\MpU w l nm L D
 led:w.ownsRow W0.heap.size 242 6 ledv ls.length (ls.flatMap (fun p=>tmc l nm p.1 p.2))
 lt:∀p∈ls,Tv w l p.1 p.2
 td:w.ownsRow W0.heap.size 72 2 tdv td.length (pcells td)
 ll:L.length=(utT l).length
 l0:∀i,i<L.length->L.getD i 0≠i->0<=tdA ((utT l).getD i 0)
section
variable {W0 w w':World} {l:List Int} {V:Nat->Bool} {nm:List ByteArray} {hb ub mq:Nat} {ledv tdv:Value} {ls:List (Nat×Value)} {td:List (Nat×Nat)} {L:List Nat}
theorem Um.next (h:Um W0 l nm hb ub mq ledv tdv ls td L w) (hb':Below w.heap.size w w'):Um W0 l nm hb ub mq ledv tdv ls td L w':=by
 obtain⟨D,⟨es,clock,hm,h1⟩,h2⟩:=h.map
 have hk:=Ik.below hb'
 have hlt:mq<w.heap.size:=by
  rcases Nat.lt_or_ge mq w.heap.size with h | h
  ·exact h
  ·rw[Array.getElem?_eq_none h] at hm
   cases hm
 exact⟨Below.next h.b hb',(hb'.block _ (lt_of_block h.blk)).trans h.blk,h.ub0,h.mq0,⟨D,⟨es,clock,(hb'.block _ hlt).trans hm,h1⟩,h2.keep hk⟩,row_keep h.led (fun q hq=>hb'.block q (h.led.lt q hq).2),fun p hp=>(h.lt p hp).keep hk,row_keep h.td (fun q hq=>hb'.block q (h.td.lt q hq).2),h.ll,h.l0⟩
theorem Um.cells (h:Um W0 l nm hb ub mq ledv tdv ls td L w):(w.cell? ⟨ub,0,none⟩=some (.pointer (some ⟨hb,0,none⟩))/\w.cell? ⟨ub,1,none⟩=some ledv/\w.cell? ⟨ub,2,none⟩=some (.map (some mq))/\w.cell? ⟨ub,3,none⟩=some tdv)/\(w.frozen? ⟨ub,1,none⟩=false/\w.frozen? ⟨ub,3,none⟩=false)/\ub<w.heap.size:=by
 refine⟨⟨?_,?_,?_,?_⟩,⟨?_,?_⟩,lt_of_block h.blk⟩ <;> simp[World.cell?,World.frozen?,h.blk]
theorem Um.put {D:DataW Value} {i c:Nat} {v:Value} (h:Um W0 l nm hb ub mq ledv tdv ls td L w) (hi:i<L.length) (h0:0<=tdA ((utT l).getD i 0)) (ht:Tv w l c v) (hne:utI l c≠i) (hD:w.ownsMap Tryz.prog 3 RU mq l.length D) (hM:MpU w l nm L D) (hm:w'.ownsMap Tryz.prog 3 RU mq (l.length+1) (D.put (.int .i64 (tdA ((utT l).getD i 0))) (.held (tmU l nm c v)))) (hg:w.grownBy w' (some mq)) (hlt:∀k,k<(utT l).length->tdA ((utT l).getD k 0)<(l.length:Int)):Um W0 l nm hb ub mq ledv tdv ls td (L.set i (utI l c)) w'/\Ik w w':=by
 have hmw:=hD
 obtain⟨es,clock,hq,F,_,rfl⟩:=hmw
 have hk:Ik w w':=Ik.grown hg (fun q cs fr e hc=>by
  injection e with e
  subst e
  rw[hq] at hc
  cases hc)
 have hmv:=hM.put (isMap_of hD) hi ht hne
 refine⟨⟨?_,?_,h.ub0,h.mq0,⟨_,map_tight (int_keyed Tryz.underlying3) hm (fun j=>.int .i64 (j:Int)) (fun kl hkl=>?_),hmv.keep hk⟩,?_,fun p hp=>(h.lt p hp).keep hk,?_,by simpa using h.ll,fun j hj hj2=>?_⟩,hk⟩
 ·exact h.b.grown hg h.b.size (fun q e=>by injection e with e;subst e;exact h.mq0)
 ·refine (hg.block _ (lt_of_block h.blk) (fun e=>?_)).trans h.blk
  injection e with e
  have h9:=h.blk
  rw[e,hq] at h9
  cases h9
 ·obtain⟨j,u,d,h1,h2,h3,_⟩:=hmv.yes kl hkl
  have hj':j<L.length:=by simpa using h1
  have hge:0<=tdA ((utT l).getD j 0):=by
   by_cases e:j=i
   ·rw[e];exact h0
   ·rw[getD_setN hi,if_neg e] at h2
    exact h.l0 j hj' h2
  have:=hlt j (by rw[←h.ll];exact hj')
  exact⟨(tdA ((utT l).getD j 0)).toNat,by omega,by rw[h3,show ((tdA ((utT l).getD j 0)).toNat:Int)=tdA ((utT l).getD j 0) by omega]⟩
 ·exact row_keep h.led (fun q hq2=>hg.block q (h.led.lt q hq2).2 (fun e=>by
   injection e with e
   obtain⟨cs,hc⟩:=row_obj h.led hq2
   rw[e,hq] at hc
   cases hc))
 ·exact row_keep h.td (fun q hq2=>hg.block q (h.td.lt q hq2).2 (fun e=>by
   injection e with e
   obtain⟨cs,hc⟩:=row_obj h.td hq2
   rw[e,hq] at hc
   cases hc))
 ·have hj':j<L.length:=by simpa using hj
  by_cases e:j=i
  ·rw[e];exact h0
  ·rw[getD_setN hi,if_neg e] at hj2
   exact h.l0 j hj' hj2
structure Ubd (n ub mq:Nat) (ledv tdv:Value):Prop where
 u:ub<n
 m:mq<n
 l:∀k,ledv.ownBlock=some k->k<n
 t:∀k,tdv.ownBlock=some k->k<n
theorem Um.mlt (h:Um W0 l nm hb ub mq ledv tdv ls td L w):mq<w.heap.size:=by
 obtain⟨D,⟨es,clock,hq,_⟩,_⟩:=h.map
 rcases Nat.lt_or_ge mq w.heap.size with h | h
 ·exact h
 ·rw[Array.getElem?_eq_none h] at hq
  cases hq
theorem Um.bd (h:Um W0 l nm hb ub mq ledv tdv ls td L w):Ubd w.heap.size ub mq ledv tdv:=⟨lt_of_block h.blk,h.mlt,fun k hk=>(h.led.lt k hk).2,fun k hk=>(h.td.lt k hk).2⟩
theorem Um.far {n:Nat} (h:Um W0 l nm hb ub mq ledv tdv ls td L w) (hu:Ubd n ub mq ledv tdv) (hW:W0.heap.size<=n) (hb':Below n w w') (hk:Ik w w'):Um W0 l nm hb ub mq ledv tdv ls td L w':=by
 obtain⟨D,⟨es,clock,hm,h1⟩,h2⟩:=h.map
 exact⟨Below.trans h.b (hb'.mono hW),(hb'.block _ hu.u).trans h.blk,h.ub0,h.mq0,⟨D,⟨es,clock,(hb'.block _ hu.m).trans hm,h1⟩,h2.keep hk⟩,row_keep h.led (fun q hq=>hb'.block q (hu.l q hq)),fun p hp=>(h.lt p hp).keep hk,row_keep h.td (fun q hq=>hb'.block q (hu.t q hq)),h.ll,h.l0⟩
theorem Um.look (hs:Snd l V) (hn:NsB l nm.length) (hl:l.length<=65536) (h:Um W0 l nm hb ub mq ledv tdv ls td L w) {i:Nat} (hi:i<L.length):(L.getD i 0=i/\∀w',w'.heap[mq]?=w.heap[mq]?->(Instr.lookup 192 (.map (some mq)) (.int .i64 (tdA ((utT l).getD i 0))) true).run Tryz.prog w'=.ok (.tuple #[zTm,.bool false]) w')∨(L.getD i 0≠i/\∃c v,Tv w l c v/\utI l c=L.getD i 0/\∀w',w'.heap[mq]?=w.heap[mq]?->(Instr.lookup 192 (.map (some mq)) (.int .i64 (tdA ((utT l).getD i 0))) true).run Tryz.prog w'=.ok (.tuple #[tmU l nm c v,.bool true]) w'):=by
 obtain⟨D,hD,hM⟩:=h.map
 have hwf:(Lit.int .i64 (tdA ((utT l).getD i 0))).wf=true:=by
  obtain⟨a,ha,rfl⟩:=utI_all (l:=l) (by rw[←h.ll];exact hi)
  rw[utI_at ha]
  exact tdA_wf hs hn hl ha
 have hkey:=keyOf_int_mk (P:=Tryz.prog) Tryz.underlying3 hwf
 have hrun:∀w',w'.heap[mq]?=w.heap[mq]?->∃v ps,(Instr.lookup 192 (.map (some mq)) (.int .i64 (tdA ((utT l).getD i 0))) true).run Tryz.prog w'=.ok (.tuple #[v,.bool (Maps.has D (.int .i64 (tdA ((utT l).getD i 0))))]) w'/\RU v=some (D.atKey (.int .i64 (tdA ((utT l).getD i 0))) (.held zTm),ps):=fun w' hw=>by
  obtain⟨es,clock,hq,F,hz,hd⟩:=hD
  exact World.ownsMap.look_ok (w:=w') (e:=242) ⟨es,clock,hw.trans hq,F,hz,hd⟩ (int_keyed Tryz.underlying3) Tryz.underlying192 (z:=zTm) (zeroTm w') (zd:=.held zTm) (zp:=[]) rfl hkey
 rcases hM.at_ hs hn hl h.ll h.l0 hi with⟨e,hf⟩ | ⟨e,ht,v,c,ha,hv,hc⟩
 ·refine Or.inl ⟨e,fun w' hw=>?_⟩
  obtain⟨v,ps,h1,h2⟩:=hrun w' hw
  rw[hf] at h1
  rw[atKey_of_not_has hf] at h2
  obtain rfl:=ru_inj h2
  exact h1
 ·refine Or.inr ⟨e,c,v,hv,hc,fun w' hw=>?_⟩
  obtain⟨u,ps,h1,h2⟩:=hrun w' hw
  rw[ht] at h1
  rw[ha] at h2
  obtain rfl:=ru_inj h2
  exact h1
end
end Go.Proofs.YtpkojcfdkkjmcaaGreatDoor
namespace Go.Proofs.YtpkojcfdkkjmcaaGreatDoor
set_option maxRecDepth 100000
open Go.RowKit Go.Maps
theorem ret_tm1 {w:World} {fn:Func} {t:Tmp} (hfn:fn.results=#[.cell t 242]) {tmps:Array Value} {q:Nat} {u0 u1 u2 u3 u4 u5:Value} (h4:tmps[t]?.getD undef=.pointer (some ⟨q,0,none⟩)) (hq:w.heap[q]?=some (.cells #[u0,u1,u2,u3,u4,u5] 242)):(results fn tmps).run Tryz.prog w=.ok (.agg #[u0,u1,u2,u3,u4,u5]) w:=by
 obtain⟨⟨z0,z1,z2,z3,z4,z5⟩,_⟩:=tm_cells hq
 simp[results,hfn,go_sem,h4,z0,z1,z2,z3,z4,z5]
noncomputable def celU (w:World) (q:Nat):Nat:=match w.cell? ⟨q,5,none⟩ with
 | some v=>(intOf v).toNat
 | none=>0
abbrev tmB (l:List Int) (nm:List ByteArray) (c:Nat) (v:Value):Obj:=tmO (tdK (trmW l c)) (tdA (trmW l c)) (tdS l nm (trmW l c)) (tdN (trmW l c)) v (c:Int)
abbrev zTmO:Obj:=tmO 0 0 ⟨#[]⟩ 0 (.slice none 0 0) 0
theorem celU_of {w:World} {q:Nat} {l:List Int} {nm:List ByteArray} {c:Nat} {v:Value} (h:w.heap[q]?=some (tmB l nm c v)):celU w q=c:=by
 unfold celU
 rw[(tm_cells h).1.2.2.2.2.2]
 simp[intOf]
structure Ue (W w0:World) (l:List Int) (nm:List ByteArray) (hb ub mq:Nat) (ledv tdv:Value) (ls:List (Nat×Value)) (td:List (Nat×Nat)) (E:Nat->Nat) (r:Nat->Nat) (tb c:Nat) (v:Value) (w:World):Prop where
 m:∃L,Um W l nm hb ub mq ledv tdv ls td L w/\Ld L E/\Lr L r
 k:Ik w0 w
 t:w.heap[tb]?=some (tmB l nm c v)
 a:w.heap[tb+1]?=some zTmO
 v:Tv w l c v
 tb0:w0.heap.size<=tb
 bd:Ubd w0.heap.size ub mq ledv tdv
 W0:W.heap.size<=w0.heap.size
 mo:Mo (fun q=>q=mq) w0 w
section
variable {W w0 w w':World} {l:List Int} {V:Nat->Bool} {nm:List ByteArray} {hb ub mq:Nat} {ledv tdv:Value} {ls:List (Nat×Value)} {td:List (Nat×Nat)} {E r:Nat->Nat} {tb c:Nat} {v:Value}
theorem Ue.go {L':List Nat} {d1:Nat} {v1:Value} (hS:Ue W w0 l nm hb ub mq ledv tdv ls td E r tb c v w) (hm:Um W l nm hb ub mq ledv tdv ls td L' w') (hd:Ld L' E) (hr:Lr L' r) (hk:Ik w w') (ht:w'.heap[tb]?=some (tmB l nm d1 v1)) (ha:w'.heap[tb+1]?=w.heap[tb+1]?) (hv:Tv w l d1 v1) (hmo:Mo (fun q=>q=mq) w0 w'):Ue W w0 l nm hb ub mq ledv tdv ls td E r tb d1 v1 w':=
 ⟨⟨L',hm,hd,hr⟩,hS.k.trans hk,ht,ha.trans hS.a,hv.keep hk,hS.tb0,hS.bd,hS.W0,hmo⟩
set_option maxHeartbeats 4000000 in
theorem uend_any {L:List Nat} (hs:Snd l V) (hn:NsB l nm.length) (hl:l.length<=65536) (h:Um W l nm hb ub mq ledv tdv ls td L w0) (hE:Ld L E) (hv:Tv w0 l c v) :
  Calls Tryz.prog 156 #[.pointer (some ⟨ub,0,none⟩),tmU l nm c v] w0 fun e w'=>∃L' d u,e=.returned (tmU l nm d u)/\Tv w' l d u/\utI l d=E (utI l c)/\Um W l nm hb ub mq ledv tdv ls td L' w'/\Ld L' E/\Ik w0 w'/\Mo (fun q=>q=mq) w0 w':=by
 obtain⟨r,M,hM,hr⟩:=hE.rank
 have hb2:Below w0.heap.size w0 ((w0.alloc (tmB l nm c v)).alloc zTmO):=(below_alloc w0 _).alloc (by simp) _
 have hS:Hid (Ue W w0 l nm hb ub mq ledv tdv ls td E r w0.heap.size c v ((w0.alloc (tmB l nm c v)).alloc zTmO)):=⟨⟨L,h.next hb2,hE,hr⟩,Ik.below hb2,(Below.heap_alloc _ _ _ (by simp)).trans (heap_alloc_new w0 _),(by
  have h9:=heap_alloc_new (w0.alloc (tmB l nm c v)) zTmO
  rw[show (w0.alloc (tmB l nm c v)).heap.size=w0.heap.size+1 by simp] at h9
  exact h9),hv.keep (Ik.below hb2),Nat.le_refl _,h.bd,h.b.size,Mo.ofBelow hb2⟩
 have HS:=hid hs
 have HN:=hid hn
 obtain⟨ao,d0,rfl,_⟩:=hv.args
 clear h hE hr hM hb2 hs hn hv
 go_enter Tryz.func156,Tryz.ntmps156
 go_wp2
 go_loopw [5,6,7,8] (fun _ _ _ _ wr=>∃(d:Nat) (u:Value),Hid (Ue W w0 l nm hb ub mq ledv tdv ls td E r w0.heap.size d u wr)/\Hid (E (utI l d)=E (utI l c))) (fun _ _ _ _ wx=>r (utI l (celU wx w0.heap.size)))
 case atStart=>exact⟨c,_,hS,hid rfl⟩
 case round=>
  clear hS
  obtain⟨d,u,hS,hE0⟩:=hrel
  obtain⟨⟨L',hU,hLd,hLr⟩,hk,ht,ha,hv,ht0,hbd,hW0,hmo⟩:=hS.out
  have hi:utI l d<L'.length:=by rw[hU.ll];exact utI_lt hv.lt
  have hlk:=hU.look HS.out HN.out hl hi
  rw[utI_at hv.lt] at hlk
  obtain⟨⟨z0,z1,z2,z3⟩,_,z6⟩:=hU.cells
  obtain⟨⟨c0,c1,c2,c3,c4,c5⟩,⟨f0,f1,f2,f3,f4,f5⟩,c6⟩:=tm_cells ht
  obtain⟨⟨y0,y1,y2,y3,y4,y5⟩,⟨g0,g1,g2,g3,g4,g5⟩,g6⟩:=tm_cells ha
  obtain⟨ao1,d2,hu,_⟩:=hv.args
  subst hu
  have hne:w0.heap.size≠w0.heap.size+1:=by omega
  have hub:ub≠w0.heap.size:=obj_ne hU.blk ht (by decide)
  have hub1:ub≠w0.heap.size+1:=obj_ne hU.blk ha (by decide)
  have hmq:mq<wr.heap.size:=by
   obtain⟨D,⟨es,clock,hq,_⟩,_⟩:=hU.map
   rcases Nat.lt_or_ge mq wr.heap.size with h | h
   ·exact h
   ·rw[Array.getElem?_eq_none h] at hq
    cases hq
  have hz0:=hmo.size
  rcases hlk with⟨e,hrun⟩ | ⟨e,d1,v1,hv1,he1,hrun⟩
  ·have hr0:=hrun wr.drew rfl
   have hr1:=hrun (wr.alloc zTmO).drew (Below.heap_alloc _ _ _ hmq)
   have Hfin:=hid (fun (w':World) (h1:Below w0.heap.size wr w') (h2:Ik wr w')=>And.intro (hv.keep h2) (And.intro (hU.far hbd hW0 h1 h2) (hk.trans h2)))
   have HE:=hid (((hLd.fix _ hi).1 e).symm.trans hE0.out)
   have HLd:=hid hLd
   have Hha:=hid ha
   have Hmo:=hid hmo
   clear hrun hLr hLd hi hU hk ht ha hv hmo hmq hbd e hS hE0
   go_wp2
   go_region
   go_wp2
   all_goals
    have hq1:=set6U_at Hha.out (.int .i64 (tdK (trmW l d))) (.int .i64 (tdA (trmW l d))) (.string (tdS l nm (trmW l d))) (.int .i64 (tdN (trmW l d))) (.slice ao1 (tdL l (trmW l d)).length d2) (.int .i64 (d:Int))
    obtain⟨e1,e2,e3⟩:=Hfin.out _ (((set6U_below (Below.refl _ wr |>.mono hz0) (Nat.le_succ _) (.int .i64 (tdK (trmW l d))) (.int .i64 (tdA (trmW l d))) (.string (tdS l nm (trmW l d))) (.int .i64 (tdN (trmW l d))) (.slice ao1 (tdL l (trmW l d)).length d2) (.int .i64 (d:Int))).alloc (by simp;omega) zTmO).drew) (((Ik.set6 Hha.out (by decide) (.int .i64 (tdK (trmW l d))) (.int .i64 (tdA (trmW l d))) (.string (tdS l nm (trmW l d))) (.int .i64 (tdN (trmW l d))) (.slice ao1 (tdL l (trmW l d)).length d2) (.int .i64 (d:Int))).alloc zTmO).drew)
    exact bodyPost_ret (ret_tm1 Tryz.results156 (by rfl) ((Below.heap_alloc _ _ _ (by simp;omega)).trans hq1)) rfl ⟨L',d,_,rfl,e1,HE.out,e2,HLd.out,e3,(((set6U_mo Hmo.out (Or.inr (Nat.le_succ _)) _ _ _ _ _ _).alloc zTmO).drew)⟩
  ·obtain⟨ao3,d3,hu1,_⟩:=hv1.args
   subst hu1
   have hr0:=hrun wr.drew rfl
   have hr1:=hrun (wr.alloc zTmO).drew (Below.heap_alloc _ _ _ hmq)
   have hi1:utI l d1<L'.length:=by rw[hU.ll];exact utI_lt hv1.lt
   have hlk1:=hU.look HS.out HN.out hl hi1
   rw[utI_at hv1.lt] at hlk1
   have Hmq:=hid hmq
   rcases hlk1 with⟨e1,hrun1⟩ | ⟨e1,d4,v4,hv4,he4,hrun1⟩
   ·have hr2:=hrun1 ((wr.alloc (tmB l nm d1 (.slice ao3 (tdL l (trmW l d1)).length d3))).drew).drew (Below.heap_alloc _ _ _ hmq)
    have hr3:=hrun1 ((wr.alloc (tmB l nm d1 (.slice ao3 (tdL l (trmW l d1)).length d3))).alloc zTmO).drew.drew ((Below.heap_alloc _ _ _ (by simp;omega)).trans (Below.heap_alloc _ _ _ hmq))
    have b1:Below w0.heap.size wr ((((set6U wr w0.heap.size (.int .i64 (tdK (trmW l d1))) (.int .i64 (tdA (trmW l d1))) (.string (tdS l nm (trmW l d1))) (.int .i64 (tdN (trmW l d1))) (.slice ao3 (tdL l (trmW l d1)).length d3) (.int .i64 (d1:Int))).alloc (tmB l nm d1 (.slice ao3 (tdL l (trmW l d1)).length d3))).alloc zTmO).drew.drew):=(((set6U_below ((Below.refl _ wr).mono hz0) (Nat.le_refl _) (.int .i64 (tdK (trmW l d1))) (.int .i64 (tdA (trmW l d1))) (.string (tdS l nm (trmW l d1))) (.int .i64 (tdN (trmW l d1))) (.slice ao3 (tdL l (trmW l d1)).length d3) (.int .i64 (d1:Int))).alloc (by simp;omega) _).alloc (by simp;omega) _).drew.drew
    have k1:Ik wr ((((set6U wr w0.heap.size (.int .i64 (tdK (trmW l d1))) (.int .i64 (tdA (trmW l d1))) (.string (tdS l nm (trmW l d1))) (.int .i64 (tdN (trmW l d1))) (.slice ao3 (tdL l (trmW l d1)).length d3) (.int .i64 (d1:Int))).alloc (tmB l nm d1 (.slice ao3 (tdL l (trmW l d1)).length d3))).alloc zTmO).drew.drew):=(((Ik.set6 ht (by decide) (.int .i64 (tdK (trmW l d1))) (.int .i64 (tdA (trmW l d1))) (.string (tdS l nm (trmW l d1))) (.int .i64 (tdN (trmW l d1))) (.slice ao3 (tdL l (trmW l d1)).length d3) (.int .i64 (d1:Int))).alloc _).alloc _).drew.drew
    have t1:((((set6U wr w0.heap.size (.int .i64 (tdK (trmW l d1))) (.int .i64 (tdA (trmW l d1))) (.string (tdS l nm (trmW l d1))) (.int .i64 (tdN (trmW l d1))) (.slice ao3 (tdL l (trmW l d1)).length d3) (.int .i64 (d1:Int))).alloc (tmB l nm d1 (.slice ao3 (tdL l (trmW l d1)).length d3))).alloc zTmO).drew.drew).heap[w0.heap.size]?=some (tmB l nm d1 (.slice ao3 (tdL l (trmW l d1)).length d3)):=(Below.heap_alloc _ _ _ (by simp;omega)).trans ((Below.heap_alloc _ _ _ (by simp;omega)).trans (set6U_at ht (.int .i64 (tdK (trmW l d1))) (.int .i64 (tdA (trmW l d1))) (.string (tdS l nm (trmW l d1))) (.int .i64 (tdN (trmW l d1))) (.slice ao3 (tdL l (trmW l d1)).length d3) (.int .i64 (d1:Int))))
    have Hnx:=hid (hS.out.go (hU.far hbd hW0 b1 k1) hLd hLr k1 t1 ((Below.heap_alloc _ _ _ (by simp;omega)).trans ((Below.heap_alloc _ _ _ (by simp;omega)).trans (set6U_far wr (.int .i64 (tdK (trmW l d1))) (.int .i64 (tdA (trmW l d1))) (.string (tdS l nm (trmW l d1))) (.int .i64 (tdN (trmW l d1))) (.slice ao3 (tdL l (trmW l d1)).length d3) (.int .i64 (d1:Int)) (Ne.symm hne)))) hv1 ((((set6U_mo hmo (Or.inr (Nat.le_refl _)) (.int .i64 (tdK (trmW l d1))) (.int .i64 (tdA (trmW l d1))) (.string (tdS l nm (trmW l d1))) (.int .i64 (tdN (trmW l d1))) (.slice ao3 (tdL l (trmW l d1)).length d3) (.int .i64 (d1:Int))).alloc _).alloc _).drew.drew))
    have He1:Hid (E (utI l d1)=E (utI l c)):=show _=_ by
     rw[he1,hLd.st _ hi]
     exact hE0.out
    have Hms:Hid (r (utI l (celU ((((set6U wr w0.heap.size (.int .i64 (tdK (trmW l d1))) (.int .i64 (tdA (trmW l d1))) (.string (tdS l nm (trmW l d1))) (.int .i64 (tdN (trmW l d1))) (.slice ao3 (tdL l (trmW l d1)).length d3) (.int .i64 (d1:Int))).alloc (tmB l nm d1 (.slice ao3 (tdL l (trmW l d1)).length d3))).alloc zTmO).drew.drew) w0.heap.size))<r (utI l (celU wr w0.heap.size))):=show _<_ by
     rw[celU_of t1,celU_of ht,he1]
     exact hLr _ hi e
    clear hrun hrun1 hmq b1 k1 t1 hU hLd hLr hk ht ha hv hv1 hmo hS hE0 e e1 he1 hi hi1 hbd
    go_wp2
    go_region
    all_goals go_wp2
    all_goals go_region
    all_goals go_wp2
    all_goals go_roundw
    all_goals first
     | exact⟨d1,_,Hnx.out,He1.out⟩
     | exact Hms.out
   ·obtain⟨ao5,d5,hu5,_⟩:=hv4.args
    subst hu5
    have hr2:=hrun1 ((wr.alloc (tmB l nm d1 (.slice ao3 (tdL l (trmW l d1)).length d3))).drew).drew (Below.heap_alloc _ _ _ hmq)
    have hr3:=hrun1 ((wr.alloc (tmB l nm d1 (.slice ao3 (tdL l (trmW l d1)).length d3))).alloc zTmO).drew.drew ((Below.heap_alloc _ _ _ (by simp;omega)).trans (Below.heap_alloc _ _ _ hmq))
    obtain⟨D,hD,hM⟩:=hU.map
    obtain⟨es,clock,hq,F,hz,hd⟩:=hD
    have hD9:(((wr.alloc (tmB l nm d1 (.slice ao3 (tdL l (trmW l d1)).length d3))).alloc (tmB l nm d4 (.slice ao5 (tdL l (trmW l d4)).length d5))).drew.drew).drew.ownsMap Tryz.prog 3 RU mq l.length D:=⟨es,clock,((Below.heap_alloc _ _ _ (by simp;omega)).trans (Below.heap_alloc _ _ _ hmq)).trans hq,F,hz,hd⟩
    obtain⟨w9,hr9,hm9,hg9⟩:=hD9.update (t:=192) (e:=242) (key:=.int .i64 (tdA (trmW l d))) (val:=tmU l nm d4 (.slice ao5 (tdL l (trmW l d4)).length d5)) (int_keyed Tryz.underlying3) Tryz.underlying192 (by unfold maxLen;omega) (keyOf_int_mk (P:=Tryz.prog) Tryz.underlying3 (tdA_wf HS.out HN.out hl hv.lt)) rfl
    have hne4:utI l d4≠utI l d:=by
     rw[he4,he1]
     intro h9
     have a1:=hLr _ hi e
     have a2:=hLr (utI l d1) hi1 e1
     rw[he1,h9] at a2
     omega
    have hgt:∀k,k<(utT l).length->tdA ((utT l).getD k 0)<(l.length:Int):=utA_lt HS.out HN.out hl
    have h0d:0<=tdA ((utT l).getD (utI l d) 0):=hU.l0 _ hi e
    have bq:Below w0.heap.size wr ((wr.alloc (tmB l nm d1 (.slice ao3 (tdL l (trmW l d1)).length d3))).alloc (tmB l nm d4 (.slice ao5 (tdL l (trmW l d4)).length d5))).drew.drew.drew:=((((Below.refl _ wr).mono hz0).alloc (by omega) _).alloc (by simp;omega) _).drew.drew.drew
    have kq:Ik wr ((wr.alloc (tmB l nm d1 (.slice ao3 (tdL l (trmW l d1)).length d3))).alloc (tmB l nm d4 (.slice ao5 (tdL l (trmW l d4)).length d5))).drew.drew.drew:=((((Ik.refl wr).alloc _).alloc _).drew.drew.drew)
    have hm9':w9.ownsMap Tryz.prog 3 RU mq (l.length+1) (D.put (.int .i64 (tdA ((utT l).getD (utI l d) 0))) (.held (tmU l nm d4 (.slice ao5 (tdL l (trmW l d4)).length d5)))):=by
     rw[utI_at hv.lt]
     exact hm9
    have hp9:=(hU.far hbd hW0 bq kq).put hi h0d (hv4.keep kq) hne4 hD9 (hM.keep kq) hm9' hg9 hgt
    have hmqu:some mq≠some w0.heap.size:=fun h9=>by injection h9 with h9;have:=hbd.m;omega
    have t9:w9.heap[w0.heap.size]?=some (tmB l nm d (.slice ao1 (tdL l (trmW l d)).length d2)):=(hg9.block _ (by simp;omega) (fun h9=>hmqu h9.symm)).trans ((Below.heap_alloc _ _ _ (by simp;omega)).trans ((Below.heap_alloc _ _ _ c6).trans ht))
    have x9:w9.heap[wr.heap.size]?=some (tmB l nm d1 (.slice ao3 (tdL l (trmW l d1)).length d3)):=(hg9.block _ (by simp;omega) (fun h9=>by injection h9 with h9;omega)).trans ((Below.heap_alloc _ _ _ (by simp)).trans (heap_alloc_new wr _))
    have y9:w9.heap[w0.heap.size+1]?=wr.heap[w0.heap.size+1]?:=(hg9.block _ (by simp;omega) (fun h9=>by injection h9 with h9;have:=hbd.m;omega)).trans ((Below.heap_alloc _ _ _ (by simp;omega)).trans (Below.heap_alloc _ _ _ g6))
    obtain⟨⟨n0,n1,n2,n3,n4,n5⟩,⟨m0,m1,m2,m3,m4,m5⟩,n6⟩:=tm_cells t9
    obtain⟨⟨o0,o1,o2,o3,o4,o5⟩,_,o6⟩:=tm_cells x9
    have b9:Below w0.heap.size w9 (set6U w9 w0.heap.size (.int .i64 (tdK (trmW l d1))) (.int .i64 (tdA (trmW l d1))) (.string (tdS l nm (trmW l d1))) (.int .i64 (tdN (trmW l d1))) (.slice ao3 (tdL l (trmW l d1)).length d3) (.int .i64 (d1:Int))):=set6U_below ((Below.refl _ w9).mono (Nat.le_of_lt n6)) (Nat.le_refl _) (.int .i64 (tdK (trmW l d1))) (.int .i64 (tdA (trmW l d1))) (.string (tdS l nm (trmW l d1))) (.int .i64 (tdN (trmW l d1))) (.slice ao3 (tdL l (trmW l d1)).length d3) (.int .i64 (d1:Int))
    have k9:Ik w9 (set6U w9 w0.heap.size (.int .i64 (tdK (trmW l d1))) (.int .i64 (tdA (trmW l d1))) (.string (tdS l nm (trmW l d1))) (.int .i64 (tdN (trmW l d1))) (.slice ao3 (tdL l (trmW l d1)).length d3) (.int .i64 (d1:Int))):=Ik.set6 t9 (by decide) (.int .i64 (tdK (trmW l d1))) (.int .i64 (tdA (trmW l d1))) (.string (tdS l nm (trmW l d1))) (.int .i64 (tdN (trmW l d1))) (.slice ao3 (tdL l (trmW l d1)).length d3) (.int .i64 (d1:Int))
    have mo9:Mo (fun q=>q=mq) w0 w9:=(((hmo.alloc _).alloc _).drew.drew.drew).grown hg9 (fun k h9=>by injection h9 with h9;exact Or.inl h9.symm)
    have Hnx:=hid (hS.out.go (hp9.1.far hbd hW0 b9 k9) (by rw[he4,he1];exact hLd.half hi) (by rw[he4,he1];exact hLr.half hLd hi) ((kq.trans hp9.2).trans k9) (set6U_at t9 (.int .i64 (tdK (trmW l d1))) (.int .i64 (tdA (trmW l d1))) (.string (tdS l nm (trmW l d1))) (.int .i64 (tdN (trmW l d1))) (.slice ao3 (tdL l (trmW l d1)).length d3) (.int .i64 (d1:Int))) ((set6U_far w9 (.int .i64 (tdK (trmW l d1))) (.int .i64 (tdA (trmW l d1))) (.string (tdS l nm (trmW l d1))) (.int .i64 (tdN (trmW l d1))) (.slice ao3 (tdL l (trmW l d1)).length d3) (.int .i64 (d1:Int)) (Ne.symm hne)).trans y9) hv1 (set6U_mo mo9 (Or.inr (Nat.le_refl _)) (.int .i64 (tdK (trmW l d1))) (.int .i64 (tdA (trmW l d1))) (.string (tdS l nm (trmW l d1))) (.int .i64 (tdN (trmW l d1))) (.slice ao3 (tdL l (trmW l d1)).length d3) (.int .i64 (d1:Int))))
    have He1:Hid (E (utI l d1)=E (utI l c)):=show _=_ by
     rw[he1,hLd.st _ hi]
     exact hE0.out
    have Hms:Hid (r (utI l (celU (set6U w9 w0.heap.size (.int .i64 (tdK (trmW l d1))) (.int .i64 (tdA (trmW l d1))) (.string (tdS l nm (trmW l d1))) (.int .i64 (tdN (trmW l d1))) (.slice ao3 (tdL l (trmW l d1)).length d3) (.int .i64 (d1:Int))) w0.heap.size))<r (utI l (celU wr w0.heap.size))):=show _<_ by
     rw[celU_of (set6U_at t9 (.int .i64 (tdK (trmW l d1))) (.int .i64 (tdA (trmW l d1))) (.string (tdS l nm (trmW l d1))) (.int .i64 (tdN (trmW l d1))) (.slice ao3 (tdL l (trmW l d1)).length d3) (.int .i64 (d1:Int))),celU_of ht,he1]
     exact hLr _ hi e
    clear hrun hrun1 hmq hU hLd hLr hk ht ha hv hv1 hv4 hmo hS hE0 e e1 he1 he4 hi hi1 hbd hD9 hm9 hg9 hM hq F hz hd hne4 hgt h0d bq kq hm9' hp9 hmqu t9 x9 y9 b9 k9 mo9
    go_wp2
    go_region
    all_goals go_wp2
    all_goals go_region
    all_goals go_wp2
    all_goals go_region
    all_goals go_wp2
    all_goals go_roundw
    all_goals first
     | exact⟨d1,_,Hnx.out,He1.out⟩
     | exact Hms.out
end
end Go.Proofs.YtpkojcfdkkjmcaaGreatDoor
