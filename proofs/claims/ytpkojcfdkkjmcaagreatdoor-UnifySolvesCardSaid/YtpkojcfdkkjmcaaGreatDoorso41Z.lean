/- Package unify: what meet makes of a union, as plain data; one pair more. -/
import Derived.Test.YtpkojcfdkkjmcaaGreatDoorso39Z
namespace Go.Proofs.YtpkojcfdkkjmcaaGreatDoor
set_option maxRecDepth 100000
open Go.RowKit Go.Maps
def SubF (t t':List (Nat×Nat)):Prop:=∀p∈t,p∈t'∨(p.2,p.1)∈t'
theorem Un.set {ns:List Nd} {P:List (Nat×Nat)} {E:Nat->Nat} {t t':List (Nat×Nat)} (h:Un ns P E t) (h1:SubF t t') (h2:SubF t' t):Un ns P E t':=by
 have hm:∀{u v:Nat},Gnf E t u v->Gnf E t' u v:=fun hg R hR hk hp=>hg R hR hk (fun p hq=>by
  rcases h1 p hq with e | e
  ·exact hp p e
  ·exact hR.symm _ _ (hp _ e))
 refine⟨h.rng,h.idem,fun R hR hp=>⟨(h.min R hR hp).1,fun p hq=>?_⟩,fun p hq=>?_,fun x hx hk=>?_,fun p hq=>hm (h.got p hq)⟩
 ·rcases h2 p hq with e | e
  ·exact (h.min R hR hp).2 p e
  ·exact hR.symm _ _ ((h.min R hR hp).2 _ e)
 ·rcases h2 p hq with e | e
  ·exact h.tr p e
  ·have:=h.tr _ e
   exact⟨this.2,this.1⟩
 ·obtain⟨a1,a2,a3⟩:=h.rep x hx hk
  exact⟨a1,a2,fun k hk=>hm (a3 k hk)⟩
def argU (l:List Int) (f t:Nat) (k:Nat):List (Nat×Nat):=(List.range k).map (fun j=>(((tdL l (trmW l f)).getD j 0).toNat,((tdL l (trmW l t)).getD j 0).toNat))
theorem argU_len {l:List Int} {f t k:Nat}:(argU l f t k).length=k:=by simp[argU]
theorem argU_succ {l:List Int} {f t k:Nat}:argU l f t (k+1)=argU l f t k++[(((tdL l (trmW l f)).getD k 0).toNat,((tdL l (trmW l t)).getD k 0).toNat)]:=by
 unfold argU
 rw[List.range_succ,List.map_append]
 rfl
theorem argU_zero {l:List Int} {f t:Nat}:argU l f t 0=[]:=rfl
def labU (l:List Int) (nm:List ByteArray) (f t:Nat):Prop:=tdK (trmW l f)=tdK (trmW l t)/\tdS l nm (trmW l f)=tdS l nm (trmW l t)/\tdN (trmW l f)=tdN (trmW l t)/\(tdL l (trmW l f)).length=(tdL l (trmW l t)).length
theorem labU.symm {l:List Int} {nm:List ByteArray} {f t:Nat} (h:labU l nm f t):labU l nm t f:=⟨h.1.symm,h.2.1.symm,h.2.2.1.symm,h.2.2.2.symm⟩
theorem labU_iff {l:List Int} {nm:List ByteArray} {f t:Nat} (hf:f<l.length) (ht:t<l.length):labS (ndN (utN l nm) (utI l f)) (ndN (utN l nm) (utI l t))↔labU l nm f t:=by
 unfold labS labU
 rw[utN_args hf,utN_args ht,utN_of hf,utN_of ht]
 exact Iff.rfl
structure Led1 (l:List Int) (nm:List ByteArray) (f t:Nat):Prop where
 ne:utI l f≠utI l t
 ord:ordU (tdK (trmW l f)) (tdA (trmW l f)) (tdK (trmW l t)) (tdA (trmW l t))=false
 a0:0<=tdA (trmW l f)
 kd:tdK (trmW l f)=1∨(tdK (trmW l f)≠1/\tdK (trmW l t)≠1/\labU l nm f t)
inductive Met (l:List Int) (nm:List ByteArray) (c d:Nat) (E:Nat->Nat) (ls:List (Nat×Value)) (td:List (Nat×Nat)):Bool->(Nat->Nat)->List (Nat×Value)->List (Nat×Nat)->Prop
 | no (hc:tdK (trmW l c)≠1) (hd:tdK (trmW l d)≠1) (h:¬labU l nm c d):Met l nm c d E ls td false E ls td
 | one (h:utI l c=utI l d):Met l nm c d E ls td true E ls td
 | led (f t:Nat) (u:Value) (h:(f=c/\t=d)∨(f=d/\t=c)) (h1:Led1 l nm f t):Met l nm c d E ls td true (bindE E (utI l f,utI l t)) (ls++[(f,u)]) (td++argU l f t (tdL l (trmW l f)).length)
theorem Met.swap {l:List Int} {nm:List ByteArray} {c d:Nat} {E E':Nat->Nat} {ls ls':List (Nat×Value)} {td td':List (Nat×Nat)} {ok:Bool} (h:Met l nm c d E ls td ok E' ls' td'):Met l nm d c E ls td ok E' ls' td':=by
 cases h with
 | no hc hd h=>exact .no hd hc (fun h9=>h h9.symm)
 | one h=>exact .one h.symm
 | led f t u h h1=>exact .led f t u h.symm h1
section
variable {W w w6:World} {l:List Int} {nm:List ByteArray} {hb ub mq:Nat} {ledv tdv:Value} {ls:List (Nat×Value)} {td:List (Nat×Nat)} {L:List Nat}
theorem Um.more {o:Obj} {g6 cap6 a b:Nat} (h:Um W l nm hb ub mq ledv tdv ls td L w) (hown:w6.ownsRow W.heap.size 72 2 (.slice (some ⟨g6,0,none⟩) (td.length+1) cap6) (td.length+1) (pcells td++[.int .i64 (a:Int),.int .i64 (b:Int)])) (hg:(w.alloc o).drew.grownBy w6 tdv.ownBlock) :
  (Um W l nm hb ub mq ledv (.slice (some ⟨g6,0,none⟩) (td.length+1) cap6) ls (td++[(a,b)]) L (w6.setCell ⟨ub,3,none⟩ (.slice (some ⟨g6,0,none⟩) (td.length+1) cap6))/\Ik w (w6.setCell ⟨ub,3,none⟩ (.slice (some ⟨g6,0,none⟩) (td.length+1) cap6))/\Mo (uSt ub mq ledv tdv) w (w6.setCell ⟨ub,3,none⟩ (.slice (some ⟨g6,0,none⟩) (td.length+1) cap6)))/\(w6.cell? ⟨ub,3,none⟩=some tdv/\w6.frozen? ⟨ub,3,none⟩=false)/\ub<w6.heap.size:=by
 obtain⟨n1,n2,n3,n4,n5,n6⟩:=h.ne
 have hba:=below_alloc w o
 have hsz:w.heap.size<=w6.heap.size:=by have:(w.alloc o).heap.size<=w6.heap.size:=hg.size;simp at this;omega
 have hblk:∀k,k<w.heap.size->tdv.ownBlock≠some k->w6.heap[k]?=w.heap[k]?:=fun k hk hn=>(hg.block k (by show k<(w.alloc o).heap.size;simp;omega) (fun e=>hn e.symm)).trans (hba.block k hk)
 have hub6:w6.heap[ub]?=some (.cells #[.pointer (some ⟨hb,0,none⟩),ledv,.map (some mq),tdv] 195):=(hblk ub (lt_of_block h.blk) n4).trans h.blk
 have hmo6:Mo (uSt ub mq ledv tdv) w w6:=((Mo.refl _ w).alloc o).drew.grown hg (fun k e=>Or.inl (Or.inr (Or.inr (Or.inr e))))
 have hik6:Ik w w6:=(Ik.below hba).drew.trans (Ik.grown hg (fun q cs fr e hc=>by
  obtain⟨cs2,hc2⟩:=row_obj (World.ownsRow.alloc h.td o) e
  exact obj_ne (w:=w.alloc o) hc hc2 (by decide) rfl))
 have hik:=hik6.trans (Ik.set hub6 (by decide) (i:=3) (.slice (some ⟨g6,0,none⟩) (td.length+1) cap6))
 have hmo:=hmo6.setCell (p:=⟨ub,3,none⟩) (Or.inl (Or.inl rfl)) (.slice (some ⟨g6,0,none⟩) (td.length+1) cap6)
 have hgu:g6≠ub:=fun e=>by
  obtain⟨cs,hc⟩:=row_obj hown (show (Value.slice (some ⟨g6,0,none⟩) (td.length+1) cap6).ownBlock=some g6 from rfl)
  rw[e] at hc
  exact obj_ne hc hub6 (by decide) rfl
 obtain⟨D,⟨es,clock,hq,hD1⟩,hM⟩:=h.map
 refine⟨⟨⟨?_,heap_setCell_same w6 ub 3 _ _ _ hub6,h.ub0,h.mq0,⟨D,⟨es,clock,?_,hD1⟩,hM.keep hik⟩,?_,fun p hp=>(h.lt p hp).keep hik,?_,h.ll,h.l0⟩,hik,hmo⟩,⟨by simp[World.cell?,hub6],by simp[World.frozen?,hub6]⟩,lt_of_block hub6⟩
 ·refine Below.trans h.b (hmo.below (fun q hq=>?_) h.b.size)
  rcases hq with hq | hq | hq | hq
  ·rw[hq];exact h.ub0
  ·rw[hq];exact h.mq0
  ·exact (h.led.lt q hq).1
  ·exact (h.td.lt q hq).1
 ·rw[Below.heap_setCell _ _ _ _ (Ne.symm n1),hblk mq h.mlt n5]
  exact hq
 ·exact row_keep h.led (fun q hq=>by
   rw[Below.heap_setCell _ _ _ _ (fun e=>n2 (by have e':q=ub:=e;rw[←e'];exact hq)),hblk q (h.led.lt q hq).2 (fun e=>n6 q hq e)])
 ·have h9:(td++[(a,b)]).length=td.length+1:=by simp
  rw[h9,pcells_snoc]
  exact row_keep hown (fun q hq=>Below.heap_setCell _ _ _ _ (by
   have e:g6=q:=by simpa[Value.ownBlock] using hq
   rw[←e]
   exact hgu))
end
structure Ust (W:World) (l:List Int) (nm:List ByteArray) (hb ub mq:Nat) (ledv tdv:Value) (w0:World) (ledv' tdv':Value) (ls':List (Nat×Value)) (td':List (Nat×Nat)) (L':List Nat) (w':World):Prop where
 m:Um W l nm hb ub mq ledv' tdv' ls' td' L' w'
 k:Ik w0 w'
 mo:Mo (uSt ub mq ledv tdv) w0 w'
 bl:∀q,ledv'.ownBlock=some q->ledv.ownBlock=some q∨w0.heap.size<=q
 bt:∀q,tdv'.ownBlock=some q->tdv.ownBlock=some q∨w0.heap.size<=q
section
variable {W w0 w1 w2:World} {l:List Int} {nm:List ByteArray} {hb ub mq:Nat} {ledv tdv ledv1 tdv1 ledv2 tdv2:Value} {ls1 ls2:List (Nat×Value)} {td1 td2:List (Nat×Nat)} {L1 L2:List Nat}
theorem Ust.trans (h:Ust W l nm hb ub mq ledv tdv w0 ledv1 tdv1 ls1 td1 L1 w1) (h2:Ust W l nm hb ub mq ledv1 tdv1 w1 ledv2 tdv2 ls2 td2 L2 w2):Ust W l nm hb ub mq ledv tdv w0 ledv2 tdv2 ls2 td2 L2 w2:=by
 have hz:=h.mo.size
 refine⟨h2.m,h.k.trans h2.k,h.mo.trans h2.mo (fun x hx=>?_),fun q hq=>?_,fun q hq=>?_⟩
 ·rcases hx with hx | hx | hx | hx
  ·exact Or.inl (Or.inl hx)
  ·exact Or.inl (Or.inr (Or.inl hx))
  ·rcases h.bl x hx with e | e
   ·exact Or.inl (Or.inr (Or.inr (Or.inl e)))
   ·exact Or.inr e
  ·rcases h.bt x hx with e | e
   ·exact Or.inl (Or.inr (Or.inr (Or.inr e)))
   ·exact Or.inr e
 ·rcases h2.bl q hq with e | e
  ·exact h.bl q e
  ·exact Or.inr (Nat.le_trans hz e)
 ·rcases h2.bt q hq with e | e
  ·exact h.bt q e
  ·exact Or.inr (Nat.le_trans hz e)
theorem Ust.start {w:World} {ls:List (Nat×Value)} {td:List (Nat×Nat)} {L:List Nat} (h:Um W l nm hb ub mq ledv tdv ls td L w):Ust W l nm hb ub mq ledv tdv w ledv tdv ls td L w:=⟨h,Ik.refl _,Mo.refl _ _,fun _ hq=>Or.inl hq,fun _ hq=>Or.inl hq⟩
theorem Ust.of {w:World} {ls:List (Nat×Value)} {td:List (Nat×Nat)} {L:List Nat} (h:Um W l nm hb ub mq ledv tdv ls td L w) {w':World} (hb':Below w.heap.size w w'):Ust W l nm hb ub mq ledv tdv w ledv tdv ls td L w':=⟨h.next hb',Ik.below hb',Mo.ofBelow hb',fun _ hq=>Or.inl hq,fun _ hq=>Or.inl hq⟩
end
end Go.Proofs.YtpkojcfdkkjmcaaGreatDoor
namespace Go.Proofs.YtpkojcfdkkjmcaaGreatDoor
set_option maxRecDepth 100000
open Go.RowKit Go.Maps
section
variable {W w0:World} {l:List Int} {V:Nat->Bool} {nm:List ByteArray} {hb ub mq:Nat} {ledv tdv:Value} {ls:List (Nat×Value)} {td:List (Nat×Nat)} {L:List Nat} {c d f t:Nat} {a1 a2 af at_:Option Addr} {ac ad df dt:Nat}
abbrev OrdH (l:List Int) (nm:List ByteArray) (c d f t:Nat) (a1 a2 af at_:Option Addr) (ac ad df dt:Nat):Prop:=∀w,Calls Tryz.prog 177 #[tmU l nm c (.slice a1 (tdL l (trmW l c)).length ac),tmU l nm d (.slice a2 (tdL l (trmW l d)).length ad)] w fun e w'=>e=.returned (.tuple #[tmU l nm f (.slice af (tdL l (trmW l f)).length df),tmU l nm t (.slice at_ (tdL l (trmW l t)).length dt)])/\Below w.heap.size w w'
set_option maxHeartbeats 4000000 in
theorem umeet_same (hord:OrdH l nm c d f t a1 a2 af at_ ac ad df dt) (h1:tdA (trmW l f)=tdA (trmW l t)) (h0:0<=tdA (trmW l t)) :
  Calls Tryz.prog 154 #[.pointer (some ⟨ub,0,none⟩),tmU l nm c (.slice a1 (tdL l (trmW l c)).length ac),tmU l nm d (.slice a2 (tdL l (trmW l d)).length ad)] w0 fun e w'=>e=.returned (.bool true)/\Below w0.heap.size w0 w':=by
 have hb2:Below w0.heap.size w0 ((w0.alloc (tmB l nm c (.slice a1 (tdL l (trmW l c)).length ac))).alloc (tmB l nm d (.slice a2 (tdL l (trmW l d)).length ad))):=(below_alloc w0 _).alloc (by simp) _
 go_enter Tryz.func154,Tryz.ntmps154
 go_wp2_with (go_at_call 177;refine (hord _).mono ?_;rintro e w1 ⟨rfl,hb3⟩;have hb4:=Below.next hb2 hb3)
 go_ret
 exact⟨rfl,(hb4.alloc hb4.size _).alloc (by have:=hb4.size;simp;omega) _⟩
set_option maxHeartbeats 4000000 in
theorem umeet_var (hord:OrdH l nm c d f t a1 a2 af at_ ac ad df dt) (hs:Snd l V) (hn:NsB l nm.length) (hl:l.length<=65536) (h:Um W l nm hb ub mq ledv tdv ls td L w0) (hf:Tv w0 l f (.slice af (tdL l (trmW l f)).length df)) (ht:Tv w0 l t (.slice at_ (tdL l (trmW l t)).length dt)) (hk:tdK (trmW l f)=1) (hne:tdA (trmW l f)≠tdA (trmW l t)) (h0:0<=tdA (trmW l f)) (hne2:utI l t≠utI l f) (hls:ls.length<=100000) :
  Calls Tryz.prog 154 #[.pointer (some ⟨ub,0,none⟩),tmU l nm c (.slice a1 (tdL l (trmW l c)).length ac),tmU l nm d (.slice a2 (tdL l (trmW l d)).length ad)] w0 fun e w'=>∃ledv',e=.returned (.bool true)/\Ust W l nm hb ub mq ledv tdv w0 ledv' tdv (ls++[(f,.slice af (tdL l (trmW l f)).length df)]) td (L.set (utI l f) (utI l t)) w':=by
 have hb2:Below w0.heap.size w0 ((w0.alloc (tmB l nm c (.slice a1 (tdL l (trmW l c)).length ac))).alloc (tmB l nm d (.slice a2 (tdL l (trmW l d)).length ad))):=(below_alloc w0 _).alloc (by simp) _
 have k1:(tdK (trmW l f) == 1)=true:=by simpa using hk
 have e1:(tdA (trmW l f) == tdA (trmW l t))=false:=beq_eq_false_iff_ne.2 hne
 have H:=hid h
 have HF:=hid hf
 have HT:=hid ht
 have HS:=hid hs
 have HN:=hid hn
 have H0:=hid h0
 clear h hf ht hs hn h0 hk hne
 go_enter Tryz.func154,Tryz.ntmps154
 go_wp2_with (first
  | (go_at_call 177;refine (hord _).mono ?_;rintro e w1 ⟨rfl,hb3⟩;have hb4:=Below.next hb2 hb3;have hb5:Hid (Below w0.heap.size w0 ((w1.alloc (tmB l nm f (.slice af (tdL l (trmW l f)).length df))).alloc (tmB l nm t (.slice at_ (tdL l (trmW l t)).length dt)))):=(hb4.alloc hb4.size _).alloc (by have:=hb4.size;simp;omega) _;clear hb3 hb4)
  | (go_at_call 178;refine (ulead_any HS.out HN.out hl (H.out.next hb5.out) (HF.out.keep (Ik.below hb5.out)) (HT.out.keep (Ik.below hb5.out)) H0.out hne2 hls).mono ?_;rintro e w2 ⟨ledv',rfl,hm,hk,hmo,hbl⟩;have HU:=hid ((Ust.of H.out hb5.out).trans ⟨hm,hk,hmo,hbl,fun _ hq=>Or.inl hq⟩);clear hm hk hmo hbl))
 go_ret
 exact⟨ledv',rfl,HU.out⟩
theorem bx2_at (w1:World) (o o2:Obj):((w1.alloc o).alloc o2).heap[w1.heap.size]?=some o/\((w1.alloc o).alloc o2).heap[w1.heap.size+1]?=some o2:=by
 have h9:=heap_alloc_new (w1.alloc o) o2
 rw[show (w1.alloc o).heap.size=w1.heap.size+1 by simp] at h9
 exact⟨(Below.heap_alloc _ _ _ (by simp)).trans (heap_alloc_new w1 _),h9⟩
theorem alike_is (w:World) {b:Bool} (hb:b=true↔labU l nm f t):Calls Tryz.prog 179 #[tmU l nm f (.slice af (tdL l (trmW l f)).length df),tmU l nm t (.slice at_ (tdL l (trmW l t)).length dt)] w fun e w'=>e=.returned (.bool b)/\Below w.heap.size w w':=(alike_any w).mono fun e w' he=>⟨by
 rw[he.1]
 have:(decide (tdK (trmW l f)=tdK (trmW l t)) && decide (tdS l nm (trmW l f)=tdS l nm (trmW l t)) && decide (tdN (trmW l f)=tdN (trmW l t)) && decide ((tdL l (trmW l f)).length=(tdL l (trmW l t)).length))=b:=by
  rw[Bool.eq_iff_iff,hb]
  simp only[Bool.and_eq_true,decide_eq_true_eq]
  exact⟨fun h=>⟨h.1.1.1,h.1.1.2,h.1.2,h.2⟩,fun h=>⟨⟨⟨h.1,h.2.1⟩,h.2.2.1⟩,h.2.2.2⟩⟩
 rw[this],he.2⟩
set_option maxHeartbeats 4000000 in
theorem umeet_no (hord:OrdH l nm c d f t a1 a2 af at_ ac ad df dt) (hk:tdK (trmW l f)≠1) (hne:¬(tdA (trmW l f)=tdA (trmW l t)/\0<=tdA (trmW l f))) (hlab:¬labU l nm f t) :
  Calls Tryz.prog 154 #[.pointer (some ⟨ub,0,none⟩),tmU l nm c (.slice a1 (tdL l (trmW l c)).length ac),tmU l nm d (.slice a2 (tdL l (trmW l d)).length ad)] w0 fun e w'=>e=.returned (.bool false)/\Below w0.heap.size w0 w':=by
 have hb2:Below w0.heap.size w0 ((w0.alloc (tmB l nm c (.slice a1 (tdL l (trmW l c)).length ac))).alloc (tmB l nm d (.slice a2 (tdL l (trmW l d)).length ad))):=(below_alloc w0 _).alloc (by simp) _
 have Hal:=hid (fun w=>alike_is (af:=af) (df:=df) (at_:=at_) (dt:=dt) w (b:=false) ⟨fun h=>(by cases h),fun h=>absurd h hlab⟩)
 have k1:(tdK (trmW l f) == 1)=false:=beq_eq_false_iff_ne.2 hk
 clear hk hlab
 have hmain:∀b4:Bool,(tdK (trmW l f) == 4)=b4->∀bA:Bool,(tdA (trmW l f) == tdA (trmW l t))=bA->Calls Tryz.prog 154 #[.pointer (some ⟨ub,0,none⟩),tmU l nm c (.slice a1 (tdL l (trmW l c)).length ac),tmU l nm d (.slice a2 (tdL l (trmW l d)).length ad)] w0 fun e w'=>e=.returned (.bool false)/\Below w0.heap.size w0 w':=fun b4 h4 bA hA=>by
  have hg:bA=true->¬0<=tdA (trmW l f):=fun e h9=>hne ⟨by rw[e] at hA;simpa using hA,h9⟩
  cases b4 <;> cases bA
  all_goals
   first
    | (have hg9:=hg rfl)
    | (have hg9:True:=trivial)
   clear hg hne
   go_enter Tryz.func154,Tryz.ntmps154
   go_wp2_with (first
    | (go_at_call 177;refine (hord _).mono ?_;rintro e w1 ⟨rfl,hb3⟩;have hb4:=Below.next hb2 hb3;have HX:=hid (bx2_at w1 (tmB l nm f (.slice af (tdL l (trmW l f)).length df)) (tmB l nm t (.slice at_ (tdL l (trmW l t)).length dt)));have hb5:Below w0.heap.size w0 ((w1.alloc (tmB l nm f (.slice af (tdL l (trmW l f)).length df))).alloc (tmB l nm t (.slice at_ (tdL l (trmW l t)).length dt))):=(hb4.alloc hb4.size _).alloc (by have:=hb4.size;simp;omega) _;clear hb3 hb4)
    | (go_at_call 179;refine (Hal.out _).mono ?_;rintro e w3 ⟨rfl,hb6⟩;have hb7:=Below.next hb5 hb6;have HY:=hid (And.intro ((hb6.block _ (lt_of_block HX.out.1)).trans HX.out.1) ((hb6.block _ (lt_of_block HX.out.2)).trans HX.out.2));obtain⟨⟨x0,x1,x2,x3,x4,x5⟩,_,x6⟩:=tm_cells HY.out.1;obtain⟨⟨y0,y1,y2,y3,y4,y5⟩,_,y6⟩:=tm_cells HY.out.2;clear hb5 hb6 HX;have hb5:=hb7;have HX:=HY;clear hb7 HY))
   go_ret
   exact⟨rfl,hb5⟩
 exact hmain _ rfl _ rfl
end
end Go.Proofs.YtpkojcfdkkjmcaaGreatDoor
