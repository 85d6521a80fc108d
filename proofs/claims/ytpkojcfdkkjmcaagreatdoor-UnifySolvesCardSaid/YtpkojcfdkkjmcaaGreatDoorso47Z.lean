/- Package unify: meet, whole. -/
import Derived.Test.YtpkojcfdkkjmcaaGreatDoorso44Z
import Derived.Test.YtpkojcfdkkjmcaaGreatDoorso43Z
import Derived.Test.YtpkojcfdkkjmcaaGreatDoorso39Z
namespace Go.Proofs.YtpkojcfdkkjmcaaGreatDoor
set_option maxRecDepth 100000
open Go.RowKit Go.Maps
section
variable {W w w0:World} {l:List Int} {V:Nat->Bool} {nm:List ByteArray} {hb ub mq:Nat} {ledv tdv:Value} {ls:List (Nat×Value)} {td:List (Nat×Nat)} {L:List Nat} {E:Nat->Nat} {c d f t:Nat} {a1 a2 af at_:Option Addr} {ac ad df dt:Nat} {u x:Value}
theorem ordU_swap {k1 a1 k2 a2:Int} (h:ordU k1 a1 k2 a2=true):ordU k2 a2 k1 a1=false:=by
 unfold ordU at h ⊢
 cases h9:((decide (k2=k1) && decide (a2<a1)) || (!decide (k2=1) && decide (k1=1))) with
 | false=>rfl
 | true=>
  simp only[Bool.or_eq_true,Bool.and_eq_true,decide_eq_true_eq,Bool.not_eq_true',decide_eq_false_iff_not] at h h9
  omega
abbrev MetW (W w0:World) (l:List Int) (nm:List ByteArray) (hb ub mq:Nat) (ledv tdv:Value) (ls:List (Nat×Value)) (td:List (Nat×Nat)) (E:Nat->Nat) (c d:Nat) (e:Ending) (w':World):Prop:=∃(ok:Bool) (ledv' tdv':Value) (ls':List (Nat×Value)) (td':List (Nat×Nat)) (L':List Nat) (E':Nat->Nat),e=.returned (.bool ok)/\Met l nm c d E ls td ok E' ls' td'/\Ust W l nm hb ub mq ledv tdv w0 ledv' tdv' ls' td' L' w'/\Ld L' E'
theorem umeet_core (hord:OrdH l nm c d f t a1 a2 af at_ ac ad df dt) (hs:Snd l V) (hn:NsB l nm.length) (hnd:nm.Nodup) (hl:l.length<=65536) (h:Um W l nm hb ub mq ledv tdv ls td L w0) (hE:Ld L E) (hf:Tv w0 l f (.slice af (tdL l (trmW l f)).length df)) (ht:Tv w0 l t (.slice at_ (tdL l (trmW l t)).length dt)) (hEf:E (utI l f)=utI l f) (hEt:E (utI l t)=utI l t) (hls:ls.length<=100000) (htd:td.length<=1000000) (ho:ordU (tdK (trmW l f)) (tdA (trmW l f)) (tdK (trmW l t)) (tdA (trmW l t))=false) :
  Calls Tryz.prog 154 #[.pointer (some ⟨ub,0,none⟩),tmU l nm c (.slice a1 (tdL l (trmW l c)).length ac),tmU l nm d (.slice a2 (tdL l (trmW l d)).length ad)] w0 fun e w'=>MetW W w0 l nm hb ub mq ledv tdv ls td E f t e w':=by
 by_cases hA:tdA (trmW l f)=tdA (trmW l t)/\0<=tdA (trmW l f)
 ·have h9:=at_inj hs hn hl hf.lt ht.lt hA.2 hA.1
  exact (umeet_same hord hA.1 (by rw[←hA.1];exact hA.2)).mono fun e w' he=>⟨true,ledv,tdv,ls,td,L,E,he.1,.one ((utI_eq hf.lt ht.lt).2 h9),Ust.of h he.2,hE⟩
 ·have hAt:0<=tdA (trmW l f)->tdA (trmW l f)≠tdA (trmW l t):=fun h9 e=>hA ⟨e,h9⟩
  have hne:0<=tdA (trmW l f)->utI l f≠utI l t:=fun h9 e=>hAt h9 (by rw[(utI_eq hf.lt ht.lt).1 e])
  have hld:0<=tdA (trmW l f)->Ld (L.set (utI l f) (utI l t)) (bindE E (utI l f,utI l t)):=fun h9=>hE.bind (p:=(utI l f,utI l t)) (by show utI l f<_;rw[h.ll];exact utI_lt hf.lt) (by show utI l t<_;rw[h.ll];exact utI_lt ht.lt) hEf (by show E (utI l t)≠utI l f;rw[hEt];exact Ne.symm (hne h9))
  have hkt:tdK (trmW l f)≠1->tdK (trmW l t)≠1:=fun h8 h9=>by
   unfold ordU at ho
   simp[h8,h9] at ho
  rcases kdU hs hn hl hf.lt with⟨hk,h0,hz⟩ | hr
  ·refine (umeet_var hord hs hn hl h hf ht hk (hAt h0) h0 (Ne.symm (hne h0)) hls).mono fun e w' he=>?_
   obtain⟨ledv',he1,he2⟩:=he
   have hM:Met l nm f t E ls td true (bindE E (utI l f,utI l t)) (ls++[(f,.slice af (tdL l (trmW l f)).length df)]) (td++argU l f t (tdL l (trmW l f)).length):=.led f t _ (Or.inl ⟨rfl,rfl⟩) ⟨hne h0,ho,h0,Or.inl hk⟩
   have e9:td++argU l f t (tdL l (trmW l f)).length=td:=by rw[hz];simp[argU]
   rw[e9] at hM
   exact⟨true,ledv',tdv,_,_,_,_,he1,hM,he2,hld h0⟩
  ·have hk1:tdK (trmW l f)≠1:=by
    rcases hr with⟨h9 | h9,_⟩ | ⟨h9,_⟩ <;> omega
   by_cases hlab:labU l nm f t
   ·rcases hr with⟨hk,h0,hz⟩ | ⟨hk,h0⟩
    ·have h9:=leaf_inj hs hn hnd hl hf.lt ht.lt hk hlab.1 hlab.2.1 hlab.2.2.1
     exact (umeet_leaf hord hk1 (by omega) (by omega) (by rw[hz];rfl) hlab).mono fun e w' he=>⟨true,ledv,tdv,ls,td,L,E,he.1,.one ((utI_eq hf.lt ht.lt).2 h9),Ust.of h he.2,hE⟩
    ·refine (umeet_comp hord hs hn hl h hf ht hk (hAt h0) h0 (Ne.symm (hne h0)) hls hlab htd).mono fun e w' he=>?_
     obtain⟨ledv',tdv',he1,he2⟩:=he
     exact⟨true,ledv',tdv',_,_,_,_,he1,.led f t _ (Or.inl ⟨rfl,rfl⟩) ⟨hne h0,ho,h0,Or.inr ⟨hk1,hkt hk1,hlab⟩⟩,he2,hld h0⟩
   ·exact (umeet_no hord hk1 hA hlab).mono fun e w' he=>⟨false,ledv,tdv,ls,td,L,E,he.1,.no hk1 (hkt hk1) hlab,Ust.of h he.2,hE⟩
theorem umeet_any (hs:Snd l V) (hn:NsB l nm.length) (hnd:nm.Nodup) (hl:l.length<=65536) (h:Um W l nm hb ub mq ledv tdv ls td L w0) (hE:Ld L E) (hc:Tv w0 l c u) (hd:Tv w0 l d x) (hEc:E (utI l c)=utI l c) (hEd:E (utI l d)=utI l d) (hls:ls.length<=100000) (htd:td.length<=1000000) :
  Calls Tryz.prog 154 #[.pointer (some ⟨ub,0,none⟩),tmU l nm c u,tmU l nm d x] w0 fun e w'=>MetW W w0 l nm hb ub mq ledv tdv ls td E c d e w':=by
 obtain⟨a1,ac,rfl,_⟩:=id hc.args
 obtain⟨a2,ad,rfl,_⟩:=id hd.args
 cases ho:ordU (tdK (trmW l c)) (tdA (trmW l c)) (tdK (trmW l d)) (tdA (trmW l d)) with
 | false=>exact umeet_core (fun w=>(ordered_any w).mono fun e w' he=>by rw[ho] at he;exact he) hs hn hnd hl h hE hc hd hEc hEd hls htd ho
 | true=>
  refine (umeet_core (f:=d) (t:=c) (fun w=>(ordered_any w).mono fun e w' he=>by rw[ho] at he;exact he) hs hn hnd hl h hE hd hc hEd hEc hls htd (ordU_swap ho)).mono fun e w' he=>?_
  obtain⟨ok,ledv',tdv',ls',td',L',E',h1,h2,h3,h4⟩:=he
  exact⟨ok,ledv',tdv',ls',td',L',E',h1,h2.swap,h3,h4⟩
end
end Go.Proofs.YtpkojcfdkkjmcaaGreatDoor
namespace Go.Proofs.YtpkojcfdkkjmcaaGreatDoor
set_option maxRecDepth 100000
open Go.RowKit Go.Maps
section
variable {W w w6:World} {l:List Int} {nm:List ByteArray} {hb ub mq:Nat} {ledv tdv:Value} {ls:List (Nat×Value)} {td:List (Nat×Nat)} {L:List Nat}
theorem Um.renew {o:Obj} {g6 cap6 a b:Nat} (h:Um W l nm hb ub mq ledv tdv ls td L w) (hown:w6.ownsRow W.heap.size 72 2 (.slice (some ⟨g6,0,none⟩) 1 cap6) 1 [.int .i64 (a:Int),.int .i64 (b:Int)]) (hg:(w.alloc o).drew.grownBy w6 tdv.ownBlock) :
  (Um W l nm hb ub mq ledv (.slice (some ⟨g6,0,none⟩) 1 cap6) ls [(a,b)] L (w6.setCell ⟨ub,3,none⟩ (.slice (some ⟨g6,0,none⟩) 1 cap6))/\Ik w (w6.setCell ⟨ub,3,none⟩ (.slice (some ⟨g6,0,none⟩) 1 cap6))/\Mo (uSt ub mq ledv tdv) w (w6.setCell ⟨ub,3,none⟩ (.slice (some ⟨g6,0,none⟩) 1 cap6)))/\(w6.cell? ⟨ub,3,none⟩=some tdv/\w6.frozen? ⟨ub,3,none⟩=false)/\ub<w6.heap.size:=by
 obtain⟨n1,n2,n3,n4,n5,n6⟩:=h.ne
 have hba:=below_alloc w o
 have hsz:w.heap.size<=w6.heap.size:=by have:(w.alloc o).heap.size<=w6.heap.size:=hg.size;simp at this;omega
 have hblk:∀k,k<w.heap.size->tdv.ownBlock≠some k->w6.heap[k]?=w.heap[k]?:=fun k hk hn=>(hg.block k (by show k<(w.alloc o).heap.size;simp;omega) (fun e=>hn e.symm)).trans (hba.block k hk)
 have hub6:w6.heap[ub]?=some (.cells #[.pointer (some ⟨hb,0,none⟩),ledv,.map (some mq),tdv] 195):=(hblk ub (lt_of_block h.blk) n4).trans h.blk
 have hmo6:Mo (uSt ub mq ledv tdv) w w6:=((Mo.refl _ w).alloc o).drew.grown hg (fun k e=>Or.inl (Or.inr (Or.inr (Or.inr e))))
 have hik6:Ik w w6:=(Ik.below hba).drew.trans (Ik.grown hg (fun q cs fr e hc=>by
  obtain⟨cs2,hc2⟩:=row_obj (World.ownsRow.alloc h.td o) e
  exact obj_ne (w:=w.alloc o) hc hc2 (by decide) rfl))
 have hik:=hik6.trans (Ik.set hub6 (by decide) (i:=3) (.slice (some ⟨g6,0,none⟩) 1 cap6))
 have hmo:=hmo6.setCell (p:=⟨ub,3,none⟩) (Or.inl (Or.inl rfl)) (.slice (some ⟨g6,0,none⟩) 1 cap6)
 have hgu:g6≠ub:=fun e=>by
  obtain⟨cs,hc⟩:=row_obj hown (show (Value.slice (some ⟨g6,0,none⟩) 1 cap6).ownBlock=some g6 from rfl)
  rw[e] at hc
  exact obj_ne hc hub6 (by decide) rfl
 obtain⟨D,⟨es,clock,hq,hD1⟩,hM⟩:=h.map
 refine⟨⟨⟨?_,heap_setCell_same w6 ub 3 _ _ _ hub6,h.ub0,h.mq0,⟨D,⟨es,clock,?_,hD1⟩,hM.keep hik⟩,?_,fun p hp=>(h.lt p hp).keep hik,?_,h.ll,h.l0⟩,hik,hmo⟩,⟨by simp[World.cell?,hub6],by simp[World.frozen?,hub6]⟩,lt_of_block hub6⟩
 ·refine Below.trans h.b (hmo.below (fun q hq=>?_) h.b.size)
  rcases hq with hq | hq | hq | hq
  ·rw[hq];exact h.ub0
  ·rw[hq];exact h.mq0
  ·exact (h.led.lt q hq).1
  ·exact (h.td.lt q hq).1
 ·rw[Below.heap_setCell _ _ _ _ (Ne.symm n1),hblk mq h.mlt n5]
  exact hq
 ·exact row_keep h.led (fun q hq=>by
   rw[Below.heap_setCell _ _ _ _ (fun e=>n2 (by have e':q=ub:=e;rw[←e'];exact hq)),hblk q (h.led.lt q hq).2 (fun e=>n6 q hq e)])
 ·exact row_keep hown (fun q hq=>Below.heap_setCell _ _ _ _ (by
   have e:g6=q:=by simpa[Value.ownBlock] using hq
   rw[←e]
   exact hgu))
end
section
variable {W w0 w1:World} {l:List Int} {V:Nat->Bool} {nm:List ByteArray} {B hb ub mq:Nat} {ledv tdv:Value} {ls:List (Nat×Value)} {td:List (Nat×Nat)} {L:List Nat} {E:Nat->Nat} {P:List (Nat×Nat)} {a b:Nat}
theorem Ust.held {L':List Nat} (hm:Um W l nm hb ub mq ledv tdv ls td L' w1) (hk:Ik w0 w1) (hmo:Mo (fun q=>q=mq) w0 w1):Ust W l nm hb ub mq ledv tdv w0 ledv tdv ls td L' w1:=⟨hm,hk,hmo.weak (fun _ h=>Or.inl (Or.inr (Or.inl h))),fun _ h=>Or.inl h,fun _ h=>Or.inl h⟩
theorem Jn.begin (h:Jn l nm P E ls [] 0) (ha:a<l.length/\cellB l (a:Int)=true) (hb:b<l.length/\cellB l (b:Int)=true):Jn l nm (P++[(utI l a,utI l b)]) E ls [(a,b)] 0:=by
 refine⟨?_,fun p hp=>?_,h.cnt,?_,Nat.zero_le _,h.ord,h.mem,h.nd⟩
 ·have h1:Un (utN l nm) P E []:=h.un
  exact h1.pair (by rw[utN_len];exact utI_lt ha.1) (by rw[utN_len];exact utI_lt hb.1)
 ·have e:p=(a,b):=by simpa using hp
  subst e
  exact⟨ha,hb⟩
 ·have:=fixN_top E (utT l).length
  simp only[List.length_cons,List.length_nil]
  omega
theorem Jn.fin {td:List (Nat×Nat)} (h:Jn l nm P E ls td td.length):Jn l nm P E ls [] 0:=by
 refine⟨?_,fun p hp=>(by cases hp),h.cnt,?_,Nat.zero_le _,h.ord,h.mem,h.nd⟩
 ·have h1:=h.un
  rw[List.drop_length] at h1
  exact h1
 ·have:=fixN_top E (utT l).length
  simp only[List.length_nil]
  omega
theorem pcells_at:∀{td:List (Nat×Nat)} {i:Nat},i<td.length->(pcells td)[i*2]?=some (.int .i64 ((td.getD i (0,0)).1:Int))/\(pcells td)[i*2+1]?=some (.int .i64 ((td.getD i (0,0)).2:Int))
 | [],i,h=>by simp at h
 | p::r,0,_=>⟨rfl,rfl⟩
 | p::r,i+1,h=>by
  have h9:=pcells_at (td:=r) (i:=i) (by simpa using h)
  have e:pcells (p::r)=.int .i64 (p.1:Int) :: .int .i64 (p.2:Int)::pcells r:=rfl
  rw[e,show (i+1)*2=i*2+1+1 by omega]
  simpa using h9
theorem Um.row (h:Um W l nm hb ub mq ledv tdv ls td L w0) {i:Nat} (hi:i<td.length):∃g c,tdv=.slice (some ⟨g,0,none⟩) td.length c/\g<w0.heap.size/\w0.cell? ⟨g,i*2,none⟩=some (.int .i64 ((td.getD i (0,0)).1:Int))/\w0.cell? ⟨g,i*2+1,none⟩=some (.int .i64 ((td.getD i (0,0)).2:Int)):=by
 have h0:=h.td
 obtain⟨ao,c,rfl,_⟩:=own_slq h0
 obtain⟨g,rfl⟩:∃g,ao=some ⟨g,0,none⟩:=by
  rcases h0.2 with⟨h1,h2⟩ | ⟨g,cap,cur,h1,_⟩
  ·omega
  ·injection h1 with h1 _ _
   exact⟨g,h1⟩
 obtain⟨p1,p2⟩:=pcells_at hi
 exact⟨g,c,rfl,(h0.lt g rfl).2,(h0.cellAt (i*2) (by omega)).trans p1,(h0.cellAt (i*2+1) (by omega)).trans p2⟩
end
section
variable {W wd wx w':World} {l:List Int} {nm:List ByteArray} {B hb ub mq:Nat} {ledv tdv:Value} {ls:List (Nat×Value)} {td:List (Nat×Nat)} {L:List Nat} {E:Nat->Nat} {p1 p2 d1 d2:Nat} {u1 u2:Value}
def Jh1 (W:World) (l:List Int) (nm:List ByteArray) (hb ub mq:Nat) (ledv tdv:Value) (ls:List (Nat×Value)) (td:List (Nat×Nat)) (E:Nat->Nat) (p1:Nat) (wd:World) (d1:Nat) (u1:Value) (wx:World):Prop:=∃L2,Tv wx l d1 u1/\utI l d1=E (utI l p1)/\Ust W l nm hb ub mq ledv tdv wd ledv tdv ls td L2 wx/\Ld L2 E
def Jh2 (W:World) (l:List Int) (nm:List ByteArray) (hb ub mq:Nat) (ledv tdv:Value) (ls:List (Nat×Value)) (td:List (Nat×Nat)) (E:Nat->Nat) (p1 p2:Nat) (wd:World) (d1:Nat) (u1:Value) (d2:Nat) (u2:Value) (wx:World):Prop:=∃L2,(Tv wx l d1 u1/\utI l d1=E (utI l p1))/\(Tv wx l d2 u2/\utI l d2=E (utI l p2))/\Ust W l nm hb ub mq ledv tdv wd ledv tdv ls td L2 wx/\Ld L2 E
def Jh3 (W:World) (l:List Int) (nm:List ByteArray) (hb ub mq:Nat) (ledv tdv:Value) (ls:List (Nat×Value)) (td:List (Nat×Nat)) (E:Nat->Nat) (p1 p2:Nat) (wd:World) (ok:Bool) (wx:World):Prop:=∃d1 d2 ledv' tdv' ls' td' L' E',(d1<l.length/\utI l d1=E (utI l p1))/\(d2<l.length/\utI l d2=E (utI l p2))/\Met l nm d1 d2 E ls td ok E' ls' td'/\Ust W l nm hb ub mq ledv tdv wd ledv' tdv' ls' td' L' wx/\Ld L' E'
theorem jh_one (hH:Uh W B hb l nm) (hm:Um W l nm hb ub mq ledv tdv ls td L wd) (hE:Ld L E) (hc:p1<l.length/\cellB l (p1:Int)=true) :
  Calls Tryz.prog 155 #[.pointer (some ⟨ub,0,none⟩),.int .i64 (p1:Int)] wd fun e w'=>∃d u,e=.returned (tmU l nm d u)/\Jh1 W l nm hb ub mq ledv tdv ls td E p1 wd d u w':=
 (uheld_any hH hm hE hc.1 hc.2).mono fun _ _ ⟨L',d,u,e1,hT,hu,hm',hl,hk,hmo⟩=>⟨d,u,e1,L',hT,hu,Ust.held hm' hk hmo,hl⟩
theorem jh_two (hH:Uh W B hb l nm) (h:Jh1 W l nm hb ub mq ledv tdv ls td E p1 wd d1 u1 wx) (hc:p2<l.length/\cellB l (p2:Int)=true) :
  Calls Tryz.prog 155 #[.pointer (some ⟨ub,0,none⟩),.int .i64 (p2:Int)] wx fun e w'=>∃d u,e=.returned (tmU l nm d u)/\Jh2 W l nm hb ub mq ledv tdv ls td E p1 p2 wd d1 u1 d u w':=by
 obtain⟨L2,h1,h2,h3,h4⟩:=h
 exact (uheld_any hH h3.m h4 hc.1 hc.2).mono fun _ _ ⟨L',d,u,e1,hT,hu,hm',hl,hk,hmo⟩=>⟨d,u,e1,L',⟨h1.keep hk,h2⟩,⟨hT,hu⟩,h3.trans (Ust.held hm' hk hmo),hl⟩
theorem jh_meet (hH:Uh W B hb l nm) (hnd:nm.Nodup) (hidem:∀x,E (E x)=E x) (hls:ls.length<=100000) (htd:td.length<=1000000) (h:Jh2 W l nm hb ub mq ledv tdv ls td E p1 p2 wd d1 u1 d2 u2 wx) :
  Calls Tryz.prog 154 #[.pointer (some ⟨ub,0,none⟩),tmU l nm d1 u1,tmU l nm d2 u2] wx fun e w'=>∃ok,e=.returned (.bool ok)/\Jh3 W l nm hb ub mq ledv tdv ls td E p1 p2 wd ok w':=by
 obtain⟨L2,⟨a1,a2⟩,⟨b1,b2⟩,h3,h4⟩:=h
 exact (umeet_any hH.s.choose_spec hH.n hnd hH.l6 h3.m h4 a1 b1 (by rw[a2];exact hidem _) (by rw[b2];exact hidem _) hls htd).mono fun _ _ ⟨ok,ledv',tdv',ls',td',L',E',e1,hM,hU,hL⟩=>⟨ok,e1,d1,d2,ledv',tdv',ls',td',L',E',⟨a1.lt,a2⟩,⟨b1.lt,b2⟩,hM,h3.trans hU,hL⟩
structure Jr (W w0:World) (l:List Int) (nm:List ByteArray) (hb ub mq:Nat) (ledv tdv:Value) (P:List (Nat×Nat)) (E:Nat->Nat) (td:List (Nat×Nat)) (i:Nat) (ok:Bool) (ledv' tdv':Value) (ls':List (Nat×Value)) (td':List (Nat×Nat)) (L':List Nat) (E':Nat->Nat) (w':World):Prop where
 u:Ust W l nm hb ub mq ledv tdv w0 ledv' tdv' ls' td' L' w'
 d:Ld L' E'
 yes:ok=true->Jn l nm P E' ls' td' (i+1)/\9*fixN E' (utT l).length+(td'.length-(i+1))<9*fixN E (utT l).length+(td.length-i)
 no:ok=false->NoSol (utN l nm) P
theorem jh_end {w0 wr:World} {P:List (Nat×Nat)} {i:Nat} {ok:Bool} {ledv0 tdv0:Value} (hH:Uh W B hb l nm) (hJ:Jn l nm P E ls td i) (hi:i<td.length) (h0:Ust W l nm hb ub mq ledv0 tdv0 w0 ledv tdv ls td L wr) (h:Jh3 W l nm hb ub mq ledv tdv ls td E (td.getD i (0,0)).1 (td.getD i (0,0)).2 wr ok wx):∃ledv' tdv' ls' td' L' E',Jr W w0 l nm hb ub mq ledv0 tdv0 P E td i ok ledv' tdv' ls' td' L' E' wx:=by
 obtain⟨d1,d2,ledv',tdv',ls',td',L',E',⟨a1,a2⟩,⟨b1,b2⟩,hM,hU,hL⟩:=h
 have hst:=hJ.step hH.s.choose_spec hH.n hH.l6 hi hM a1 b1 a2 b2
 exact⟨ledv',tdv',ls',td',L',E',h0.trans hU,hL,hst.1,hst.2⟩
end
end Go.Proofs.YtpkojcfdkkjmcaaGreatDoor
