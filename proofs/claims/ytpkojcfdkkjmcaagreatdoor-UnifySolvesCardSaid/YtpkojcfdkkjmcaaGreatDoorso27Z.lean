/- What a heap's trail and its points tell, as plain data: words that were written over, and how they come back. -/
import Derived.Deep.CutRange
import Derived.Test.YtpkojcfdkkjmcaaGreatDoorso22Z
import Derived.Test.YtpkojcfdkkjmcaaGreatDoorso23Z
namespace Go.Proofs.YtpkojcfdkkjmcaaGreatDoor
set_option maxRecDepth 100000
open Go.RowKit
abbrev Te:=Nat×Int
def undW (l:List Int) (tr:List Te):List Int:=tr.foldr (fun e a=>a.set e.1 e.2) l
theorem undW_app (l:List Int) (a b:List Te):undW l (a++b)=undW (undW l b) a:=List.foldr_append ..
theorem undW_snoc (l:List Int) (a:List Te) (e:Te):undW l (a++[e])=undW (l.set e.1 e.2) a:=by rw[undW_app];rfl
theorem undW_len (l:List Int):∀tr,(undW l tr).length=l.length
 | []=>rfl
 | e::r=>by
  show ((undW l r).set e.1 e.2).length=_
  rw[List.length_set,undW_len l r]
theorem undW_take (l:List Int) (K:Nat):∀tr,(undW l tr).take K=undW (l.take K) tr
 | []=>rfl
 | e::r=>by
  show ((undW l r).set e.1 e.2).take K=(undW (l.take K) r).set e.1 e.2
  rw[←undW_take l K r,List.take_set]
abbrev Pe:=Nat×Nat
def seesB (pt:List Pe) (k:Nat):Bool:=match pt.getLast? with
 | some p=>decide (k<p.2)
 | none=>false
def trW (l:List Int) (tr:List Te) (pt:List Pe) (k:Nat):List Te:=if seesB pt k=true then tr++[(k,l.getD k 0)] else tr
def atP (l:List Int) (tr:List Te) (p:Pe):List Int:=undW (l.take p.2) (tr.drop p.1)
def SndN (l:List Int) (N:Nat):Prop:=(∃V,Snd l V)/\NsB l N
structure SI (l:List Int) (N:Nat) (tr:List Te) (pt:List Pe):Prop where
 now:SndN l N
 ent:∀e∈tr,e.1<l.length/\(0<=e.2/\e.2<=18446744073709551615)/\mayB e.2 l.length=true
 len:∀p∈pt,p.1<=tr.length/\p.2<=l.length
 old:∀p∈pt,∀e∈tr.take p.1,e.1<p.2/\mayB e.2 p.2=true
 was:∀p∈pt,SndN (atP l tr p) N
 mono:pt.Pairwise (fun p q=>p.1<=q.1/\p.2<=q.2)
theorem SI.last {l:List Int} {N:Nat} {tr:List Te} {pt:List Pe} (h:SI l N tr pt) {p q:Pe} (hp:p∈pt) (hq:pt.getLast?=some q):p.1<=q.1/\p.2<=q.2:=by
 obtain⟨i,hi,e⟩:=List.getElem_of_mem hp
 have hl:q=pt[pt.length-1]'(by omega):=by
  rw[List.getLast?_eq_getElem?] at hq
  rw[List.getElem?_eq_getElem (by omega)] at hq
  exact (Option.some.inj hq).symm
 rcases Nat.lt_or_ge i (pt.length-1) with h1 | h1
 ·have:=List.pairwise_iff_getElem.1 h.mono i (pt.length-1) hi (by omega) h1
  rw[e,←hl] at this
  exact this
 ·have e2:i=pt.length-1:=by omega
  subst e2
  rw[←e,hl]
  exact⟨Nat.le_refl _,Nat.le_refl _⟩
theorem atP_write {l:List Int} {N:Nat} {tr:List Te} {pt:List Pe} (h:SI l N tr pt) {p:Pe} (hp:p∈pt) {k:Nat} (hk:k<l.length) (x:Int):atP (l.set k x) (trW l tr pt k) p=atP l tr p:=by
 unfold atP trW
 have hl:=h.len p hp
 split
 ·rename_i hs
  rw[List.drop_append_of_le_length hl.1,undW_snoc,List.take_set]
  congr 1
  by_cases hkp:k<p.2
  ·rw[List.set_set]
   apply List.ext_getElem?
   intro i
   rw[List.getElem?_set]
   split
   ·rename_i e
    subst e
    have e1:k<(l.take p.2).length:=by simp;omega
    rw[if_pos e1,List.getElem?_take,if_pos hkp]
    simp[List.getD,hk]
   ·rfl
  ·rw[List.set_eq_of_length_le (by simp;omega),List.set_eq_of_length_le (by simp;omega)]
 ·rename_i hs
  have hkp:p.2<=k:=by
   cases hq:pt.getLast? with
   | none=>rw[List.getLast?_eq_none_iff] at hq;subst hq;cases hp
   | some q=>
    have h1:=h.last hp hq
    have h2:¬k<q.2:=fun h3=>hs (by unfold seesB;rw[hq];exact decide_eq_true h3)
    omega
  rw[List.take_set,List.set_eq_of_length_le (by simp;omega)]
theorem snd_may {l:List Int} {V:Nat->Bool} (h:Snd l V) {k:Nat} (hk:k<l.length):(0<=l.getD k 0/\l.getD k 0<=18446744073709551615)/\mayB (l.getD k 0) l.length=true:=by
 have hg:=h.good k hk
 have hr:=h.rng (l.getD k 0) (by simp[List.getD,hk])
 refine⟨hr,?_⟩
 unfold mayB
 have hg':goodB (l.getD k 0)=true:=hg
 rw[hg',Bool.true_and]
 by_cases ht:tellsB (l.getD k 0)=true
 ·have h3:l.getD k 0 % 8=0∨l.getD k 0 % 8=3∨l.getD k 0 % 8=5:=by simpa[tellsB] using ht
  have hv:=val_place hg' h3
  have:vlN l k<l.length:=by
   rcases h3 with e | e | e
   ·exact (h.ref k hk e).1
   ·exact (h.str k hk e).1
   ·exact Nat.lt_trans (h.fwd k hk e).1 hk
  have e2:vlN l k=(valOf (l.getD k 0)).toNat:=rfl
  rw[Bool.or_eq_true]
  exact Or.inr (decide_eq_true (by omega))
 ·simp only[Bool.not_eq_true] at ht
  rw[ht]
  rfl
theorem may_mono {x a b:Int} (h:mayB x a=true) (hab:a<=b):mayB x b=true:=by
 unfold mayB at *
 rw[Bool.and_eq_true,Bool.or_eq_true] at *
 exact⟨h.1,h.2.imp id (fun h=>decide_eq_true (by have:=of_decide_eq_true h;omega))⟩
theorem SI.write {l:List Int} {N:Nat} {tr:List Te} {pt:List Pe} (h:SI l N tr pt) {k:Nat} (hk:k<l.length) {x:Int} (hn:SndN (l.set k x) N):SI (l.set k x) N (trW l tr pt k) pt:=by
 obtain⟨V,hV⟩:=h.now.1
 have hm:=snd_may hV hk
 have hlt:tr.length<=(trW l tr pt k).length:=by unfold trW;split <;> simp
 refine⟨hn,fun e he=>?_,fun p hp=>⟨Nat.le_trans (h.len p hp).1 hlt,by rw[List.length_set];exact (h.len p hp).2⟩,fun p hp e he=>?_,fun p hp=>by rw[atP_write h hp hk];exact h.was p hp,h.mono⟩
 ·rw[List.length_set]
  unfold trW at he
  split at he
  ·rcases List.mem_append.1 he with he | he
   ·exact h.ent e he
   ·have e2:e=(k,l.getD k 0):=by simpa using he
    subst e2
    exact⟨hk,hm.1,hm.2⟩
  ·exact h.ent e he
 ·refine h.old p hp e ?_
  unfold trW at he
  split at he
  ·rwa[List.take_append_of_le_length (h.len p hp).1] at he
  ·exact he
theorem nsb_more {l:List Int} {N N':Nat} (h:NsB l N) (hle:N<=N'):NsB l N':=⟨fun k hk ht=>by have:=h.1 k hk ht;omega,fun k hk ht=>by have:=h.2 k hk ht;omega⟩
theorem atP_put {l m:List Int} {tr:List Te} {p:Pe} (hp:p.2<=l.length):atP (l++m) tr p=atP l tr p:=by
 unfold atP
 rw[List.take_append_of_le_length hp]
theorem SI.put {l m:List Int} {N N':Nat} {tr:List Te} {pt:List Pe} (h:SI l N tr pt) (hN:N<=N') (hn:SndN (l++m) N'):SI (l++m) N' tr pt:=by
 have hl:l.length<=(l++m).length:=by simp
 refine⟨hn,fun e he=>?_,fun p hp=>⟨(h.len p hp).1,Nat.le_trans (h.len p hp).2 hl⟩,h.old,fun p hp=>?_,h.mono⟩
 ·obtain⟨h1,h2,h3⟩:=h.ent e he
  exact⟨by omega,h2,may_mono h3 (by omega)⟩
 ·rw[atP_put (h.len p hp).2]
  exact⟨(h.was p hp).1,nsb_more (h.was p hp).2 hN⟩
theorem SI.point {l:List Int} {N:Nat} {tr:List Te} {pt:List Pe} (h:SI l N tr pt):SI l N tr (pt++[(tr.length,l.length)]):=by
 have hc:∀p∈pt++[(tr.length,l.length)],p∈pt∨p=(tr.length,l.length):=fun p hp=>by
  rcases List.mem_append.1 hp with hp | hp
  ·exact Or.inl hp
  ·exact Or.inr (by simpa using hp)
 refine⟨h.now,h.ent,fun p hp=>?_,fun p hp e he=>?_,fun p hp=>?_,?_⟩
 ·rcases hc p hp with hp | rfl
  ·exact h.len p hp
  ·exact⟨Nat.le_refl _,Nat.le_refl _⟩
 ·rcases hc p hp with hp | rfl
  ·exact h.old p hp e he
  ·have:=h.ent e (List.mem_of_mem_take he)
   exact⟨this.1,this.2.2⟩
 ·rcases hc p hp with hp | rfl
  ·exact h.was p hp
  ·unfold atP
   rw[List.take_length,List.drop_length]
   exact h.now
 ·rw[List.pairwise_append]
  refine⟨h.mono,List.pairwise_singleton _ _,fun p hp q hq=>?_⟩
  have e:q=(tr.length,l.length):=by simpa using hq
  subst e
  exact h.len p hp
theorem SI.release {l:List Int} {N:Nat} {tr:List Te} {pt:List Pe} (h:SI l N tr pt) (n:Nat):SI l N tr (pt.take n):=
 ⟨h.now,h.ent,fun p hp=>h.len p (List.mem_of_mem_take hp),fun p hp=>h.old p (List.mem_of_mem_take hp),fun p hp=>h.was p (List.mem_of_mem_take hp),h.mono.sublist (List.take_sublist _ _)⟩
theorem atP_undo {l:List Int} {tr:List Te} {p q:Pe} (h1:p.1<=q.1) (h2:p.2<=q.2) (hq1:q.1<=tr.length):atP (atP l tr q) (tr.take q.1) p=atP l tr p:=by
 unfold atP
 have e:tr.drop p.1=(tr.take q.1).drop p.1++tr.drop q.1:=by
  rw[←List.drop_append_of_le_length (by simp;omega),List.take_append_drop]
 rw[e,undW_app,undW_take,List.take_take,Nat.min_eq_left h2]
theorem SI.undo {l:List Int} {N:Nat} {tr:List Te} {pt:List Pe} (h:SI l N tr pt) (n:Nat) (hn:n<pt.length):SI (atP l tr pt[n]) N (tr.take pt[n].1) (pt.take (n+1)):=by
 have hm:pt[n]∈pt:=List.getElem_mem hn
 have hl:=h.len _ hm
 have hlen:(atP l tr pt[n]).length=pt[n].2:=by
  unfold atP
  rw[undW_len,List.length_take]
  omega
 have hle:∀p∈pt.take (n+1),p.1<=pt[n].1/\p.2<=pt[n].2:=fun p hp=>by
  obtain⟨i,hi,e⟩:=List.getElem_of_mem hp
  rw[List.getElem_take] at e
  have hi2:i<pt.length/\i<=n:=by simp at hi;omega
  rcases Nat.lt_or_ge i n with h1 | h1
  ·have:=List.pairwise_iff_getElem.1 h.mono i n hi2.1 hn h1
   rw[e] at this
   exact this
  ·have e2:i=n:=by omega
   subst e2
   rw[←e]
   exact⟨Nat.le_refl _,Nat.le_refl _⟩
 refine⟨h.was _ hm,fun e he=>?_,fun p hp=>?_,fun p hp e he=>?_,fun p hp=>?_,h.mono.sublist (List.take_sublist _ _)⟩
 ·rw[hlen]
  have h1:=h.old _ hm e he
  exact⟨h1.1,(h.ent e (List.mem_of_mem_take he)).2.1,h1.2⟩
 ·rw[hlen,List.length_take]
  have:=hle p hp
  exact⟨by omega,this.2⟩
 ·refine h.old p (List.mem_of_mem_take hp) e ?_
  rw[List.take_take,Nat.min_eq_left (hle p hp).1] at he
  exact he
 ·rw[atP_undo (hle p hp).1 (hle p hp).2 hl.1]
  exact h.was p (List.mem_of_mem_take hp)
end Go.Proofs.YtpkojcfdkkjmcaaGreatDoor
namespace Go.Proofs.YtpkojcfdkkjmcaaGreatDoor
set_option maxRecDepth 100000
open Go.RowKit
section
variable {W:World} {B p q:Nat} {v:Value} {ns:List ByteArray}
set_option maxHeartbeats 8000000 in
theorem with_okG (hT:Tb W B p v q ns) (hB:B<=W.heap.size) {nv rv mv:Value} {g:Gf} {met:List Int} (hG:Gr W nv rv g) (hg:Good g) (hM:Ri W mv met) (hm:∀x∈met,0<=x/\x<(g.nodes.length:Int)) (hmm:met.length<=100000) (hl:(wthJ ns g met met.length).length<=1024) :
  Calls Tryz.prog 44 #[.agg #[.pointer (some ⟨p,0,none⟩)],.agg #[nv,rv],mv] W fun e w'=>(∃p' v' q',e=.returned (.tuple #[.agg #[.pointer (some ⟨p',0,none⟩)],.nilIface])/\((p'=p/\v'=v/\q'=q/\wthJ ns g met met.length=ns)∨Tb w' W.heap.size p' v' q' (wthJ ns g met met.length)))/\Below W.heap.size W w':=by
 have hstart:Hid (Wt W ((((W.alloc (.cells #[.pointer (some ⟨p,0,none⟩)] 96)).alloc (.cells #[nv,rv] 38)).alloc (.cells #[.pointer none] 96)).alloc (.cells #[.pointer (some ⟨p,0,none⟩)] 96)) nv rv p p):=by
  have b0:=below_alloc W (.cells #[.pointer (some ⟨p,0,none⟩)] 96)
  have b1:=Below.next b0 (below_alloc _ (.cells #[nv,rv] 38))
  have b2:=Below.next b1 (below_alloc _ (.cells #[.pointer none] 96))
  have b3:=Below.next b2 (below_alloc _ (.cells #[.pointer (some ⟨p,0,none⟩)] 96))
  obtain⟨x0,x1,x2,x3⟩:=alloc4 W (.cells #[.pointer (some ⟨p,0,none⟩)] 96) (.cells #[nv,rv] 38) (.cells #[.pointer none] 96) (.cells #[.pointer (some ⟨p,0,none⟩)] 96)
  exact⟨b3,x0,x1,x2,x3⟩
 have hpz:=hT.lt
 have HT:=hid hT
 have HG:=hid hG
 have HM:=hid hM
 have Hg:=hid hg
 have Hm:=hid hm
 obtain⟨na,nc,rfl,_⟩:=hG.1
 obtain⟨ma,mc,rfl,_⟩:=hM
 clear hG hg hm hT
 go_enter Tryz.func44,Tryz.ntmps44
 go_wp2
 go_loopw [10,11,12,13,14,15,19] (fun _ _ _ _ _ _ i wr=>∃(j p':Nat) (v':Value) (q':Nat),j<=met.length/\i=.int .i64 (j:Int)/\Hid (Wt W wr (.slice na g.nodes.length nc) rv p p')/\Hid ((p'=p/\v'=v/\q'=q/\wthJ ns g met j=ns)∨Tb wr (W.heap.size+4) p' v' q' (wthJ ns g met j))) (fun _ _ _ _ _ _ i _=>met.length-(intOf i).toNat)
 case atStart=>exact⟨0,p,v,q,Nat.zero_le _,rfl,hstart,Or.inl ⟨rfl,rfl,rfl,rfl⟩⟩
 case round=>
  clear hstart
  obtain⟨j,p',v',q',hj,rfl,HW,hor⟩:=hrel
  have hb:=HW.out.b
  obtain⟨⟨c0,c1,c2,c3⟩,f2,f3⟩:=HW.out.cells
  have hz:=HW.out.size
  by_cases hlt:j<met.length
  ·have hji:(j:Int)<(met.length:Int):=by omega
   obtain⟨mb,mo,hma,m0⟩:=(HM.out.below hb).at hlt
   subst hma
   have zm:=lt_of_cell m0
   have hmr:=Hm.out _ (getD_mem hlt)
   have hst:Hid (wthJ ns g met (j+1)=wth1 (wthJ ns g met j) (g.nodes.getD (met.getD j 0).toNat nd0).name):=rfl
   generalize met.getD j 0=y at *
   obtain⟨yn,rfl⟩:∃yn:Nat,y=(yn:Int):=⟨y.toNat,by omega⟩
   rw[Int.toNat_natCast] at hst
   have hyn:yn<g.nodes.length:=by omega
   have hyi:(yn:Int)<(g.nodes.length:Int):=by omega
   obtain⟨nb,no,aa,ac,hna,p0,p1,p2,p3⟩:=gr_nd HG.out hb hyn
   subst hna
   have zn:=lt_of_cell p1
   have hnm:=good_nameC (Hg.out.node (g.nodes.getD yn nd0) (by simp[List.getD,hyn]))
   generalize (g.nodes.getD yn nd0).name=s at *
   have hs:s.size<=281474976710656:=by
    rcases hnm with h | h
    ·omega
    ·have:=n_goodS_size h
     omega
   have hTc:Hid (Tb wr B p' v' q' (wthJ ns g met j)):=by
    rcases hor.out with⟨rfl,rfl,rfl,e⟩ | h
    ·rw[e]
     exact HT.out.below hb
    ·exact tb_base h (by omega)
   have hfi:=hid (find_any hTc.out s hs)
   have hLl:=wthJ_len ns g met j
   clear p0 p2 p3 hmr
   by_cases hin:inL (wthJ ns g met j) s=true
   ·have hst2:Hid (wthJ ns g met (j+1)=wthJ ns g met j):=show _=_ by rw[hst.out];unfold wth1;rw[if_pos (Or.inl hin)]
    rw[hin] at hfi
    generalize num (wthJ ns g met j) s=nn at *
    go_wp2_with (go_at_call 87;refine hfi.out.mono ?_;rintro e w3 ⟨rfl,hw⟩;replace hw:=hw.symm;subst hw)
    go_roundw
    case rel=>exact⟨j+1,p',v',q',by omega,by go_num,HW,by rw[hst2.out];exact hor⟩
    case measure=>simp[intOf];omega
   ·have hin':inL (wthJ ns g met j) s=false:=by simpa using hin
    rw[hin'] at hfi
    rcases hnm with⟨hs0,hs1⟩ | hgs
    ·have hst2:Hid (wthJ ns g met (j+1)=wthJ ns g met j):=show _=_ by rw[hst.out];unfold wth1;rw[if_pos (Or.inr hs0)]
     have d0:(s.toList == [])=true:=by simp[hs1]
     generalize num (wthJ ns g met j) s=nn at *
     go_wp2_with (go_at_call 87;refine hfi.out.mono ?_;rintro e w3 ⟨rfl,hw⟩;replace hw:=hw.symm;subst hw)
     go_roundw
     case rel=>exact⟨j+1,p',v',q',by omega,by go_num,HW,by rw[hst2.out];exact hor⟩
     case measure=>simp[intOf];omega
    ·have hs32:=n_goodS_size hgs
     have hst2:Hid (wthJ ns g met (j+1)=wthJ ns g met j++[s]):=show _=_ by rw[hst.out];unfold wth1;rw[if_neg (by rintro (h | h);exact hin h;omega)]
     have d0:(s.toList == [])=false:=by
      cases h:s.toList with
      | nil=>
       have:=size_nil h
       omega
      | cons a r=>rfl
     have hcl:=hid (fun w=>n_clone_any s w hs)
     have hL:(wthJ ns g met j).length<1024:=by
      have h1:=wthJ_mono ns g met (j+1) (met.length-(j+1))
      rw[show j+1+(met.length-(j+1))=met.length by omega,hst2.out] at h1
      simp at h1
      omega
     generalize wthJ ns g met j=L at *
     generalize num L s=nn at *
     rcases hor.out with⟨rfl,rfl,rfl,e⟩ | hTb
     ·have hcp:=hid (copy_any hTc.out)
      have e1:=tab_same ⟨p',0,none⟩
      clear hor
      go_wp2_with (first
       | (go_at_call 87;refine hfi.out.mono ?_;rintro e w3 ⟨rfl,hw⟩;replace hw:=hw.symm;subst hw)
       | (go_at_call 88;refine hcp.out.mono ?_;rintro e w4 ⟨p4,v4,q4,rfl,hT4,hb4⟩;have HC:=hid (wt_copy HW.out hb4 hT4);have HW4:=hid (HW.out.next (below_le hb4 hz));obtain⟨⟨_,_,_,d3⟩,_,g3⟩:=HW4.out.cells;obtain⟨⟨_,_,_,k3⟩,_,_⟩:=HC.out.1.cells;have HP:=hid (fun w6 (hb6:Below (w4.setCell ⟨W.heap.size+3,0,none⟩ (.pointer (some ⟨p4,0,none⟩))).heap.size (w4.setCell ⟨W.heap.size+3,0,none⟩ (.pointer (some ⟨p4,0,none⟩))) w6)=>put_new (HC.out.2.below hb6) (by have:=HC.out.1.size;have:=hb6.size;omega) s hs hgs hin' hL);have z3:=hid HC.out.1.size;clear hT4 hb4))
      go_region_with (first
       | (go_at_call 90;refine (hcl.out _).mono ?_;rintro e w6 ⟨rfl,hb6⟩;have Hb6:=hid (Below.next (Below.refl _ _).drew hb6);obtain⟨⟨_,_,_,k6⟩,_,_⟩:=(HC.out.1.next (below_le Hb6.out HC.out.1.size)).cells;clear hb6)
       | (go_at_call 89;refine (HP.out _ Hb6.out).mono ?_;rintro e w7 ⟨rfl,v7,hU,_⟩;have HU:=hid (wt_put HC.out.1 HC.out.2 Hb6.out hU);clear hU))
      all_goals go_wp2
      all_goals
       go_roundw
       case rel=>exact⟨j+1,p4,v7,q4,by omega,by go_num,hid HU.out.1,hid (Or.inr (by rw[hst2.out];exact HU.out.2))⟩
       case measure=>simp[intOf];omega
     ·have hne:(⟨p',0,none⟩:Addr)≠⟨p,0,none⟩:=fun e=>by
       injection e with e _ _
       have:=hTb.base
       omega
      have e1:=ptr_other (P:=Tryz.prog) wr 9998 93 Tryz.underlying93 Tryz.sizeOf158 hne hTb.blk (HT.out.below hb).blk
      rw[show (9998:Nat)+1=9999 from rfl] at e1
      have HB:=hid hTb
      have HP:=hid (fun w6 (hb6:Below wr.heap.size wr w6)=>put_new (hTb.below hb6) (by have:=hb6.size;omega) s hs hgs hin' hL)
      have Hz:=hid hz
      clear hor hne hTb
      go_wp2_with (go_at_call 87;refine hfi.out.mono ?_;rintro e w3 ⟨rfl,hw⟩;replace hw:=hw.symm;subst hw)
      go_region_with (first
       | (go_at_call 90;refine (hcl.out _).mono ?_;rintro e w6 ⟨rfl,hb6⟩;have Hb6:=hid (Below.next (Below.refl _ _).drew hb6);obtain⟨⟨_,_,_,k6⟩,_,_⟩:=(HW.out.next (below_le Hb6.out Hz.out)).cells;clear hb6)
       | (go_at_call 89;refine (HP.out _ Hb6.out).mono ?_;rintro e w7 ⟨rfl,v7,hU,_⟩;have HU:=hid (wt_put HW.out HB.out Hb6.out hU);clear hU))
      all_goals go_wp2
      all_goals
       go_roundw
       case rel=>exact⟨j+1,p',v7,q',by omega,by go_num,hid HU.out.1,hid (Or.inr (by rw[hst2.out];exact HU.out.2))⟩
       case measure=>simp[intOf];omega
  ·obtain rfl:j=met.length:=by omega
   go_wp2
   have HE:=heap_setCell_same wr _ 0 _ _ (.pointer (some ⟨p',0,none⟩)) HW.out.x2
   refine bodyPost_ret (ret_tabE Tryz.results44 (by rfl) (by rfl) HE) rfl ⟨⟨p',v',q',rfl,?_⟩,hb.setCell (p:=⟨W.heap.size+2,0,none⟩) (by simp) _⟩
   rcases hor.out with h | h
   ·exact Or.inl h
   ·refine Or.inr (tb_base (h.keep (ks:=[W.heap.size+2]) ((n_Mod.refl _ wr).setCell (p:=⟨W.heap.size+2,0,none⟩) (Or.inl (by simp)) _) (fun k hk hf=>?_)) (by omega))
    have e:k=W.heap.size+2:=by simpa using hk
    subst e
    rcases n_mem_foot.1 hf with e | e | e
    ·have:=h.base
     omega
    ·have:=h.mbase
     omega
    ·have:=(h.row e).1
     omega
end
end Go.Proofs.YtpkojcfdkkjmcaaGreatDoor
namespace Go.Proofs.YtpkojcfdkkjmcaaGreatDoor
set_option maxRecDepth 100000
open Go.RowKit
structure Wb (w1 wc:World) (B bx tb:Nat) (tv:Value) (tq:Nat) (ns':List ByteArray) (tb':Nat) (tv':Value) (tq':Nat):Prop where
 b:Below w1.heap.size w1 wc
 x:wc.heap[bx]?=some (.cells #[.pointer (some ⟨tb',0,none⟩)] 96)
 f:w1.heap.size<=bx
 t:Tb wc B tb' tv' tq' ns'
 o:(tb'=tb/\tv'=tv/\tq'=tq)∨∀k∈n_foot tb' tv' tq',w1.heap.size<=k
theorem tb_foot {w:World} {B p q:Nat} {v:Value} {l:List ByteArray} (h:Tb w B p v q l):∀k∈n_foot p v q,B<=k:=fun k hk=>by
 rcases n_mem_foot.1 hk with rfl | rfl | hk
 ·exact h.base
 ·exact h.mbase
 ·exact (h.row hk).1
theorem with_tb {w1 wq w3:World} {B p q p' q':Nat} {v v':Value} {ns ns':List ByteArray} (hT:Tb w1 B p v q ns) (hB:B<=w1.heap.size) (hb:Below w1.heap.size w1 wq) (hb3:Below wq.heap.size wq w3) (h:(p'=p/\v'=v/\q'=q/\ns'=ns)∨Tb w3 wq.heap.size p' v' q' ns'):Tb w3 B p' v' q' ns'/\((p'=p/\v'=v/\q'=q)∨∀k∈n_foot p' v' q',wq.heap.size<=k):=by
 rcases h with⟨rfl,rfl,rfl,rfl⟩ | h
 ·exact⟨hT.below (Below.next hb hb3),Or.inl ⟨rfl,rfl,rfl⟩⟩
 ·exact⟨tb_base h (Nat.le_trans hB hb.size),Or.inr (tb_foot h)⟩
theorem wb_call {w1 wq w3:World} {B p q p' q':Nat} {v v':Value} {ns ns':List ByteArray} (hT:Tb w1 B p v q ns) (hB:B<=w1.heap.size) (hb:Below w1.heap.size w1 wq) (hb3:Below wq.heap.size wq w3) (h:(p'=p/\v'=v/\q'=q/\ns'=ns)∨Tb w3 wq.heap.size p' v' q' ns'):Wb w1 (w3.alloc (.cells #[.pointer (some ⟨p',0,none⟩)] 96)) B w3.heap.size p v q ns' p' v' q':=by
 obtain⟨h1,h2⟩:=with_tb hT hB hb hb3 h
 have hz:=hb.size
 have hz3:=hb3.size
 refine⟨Below.next (Below.next hb hb3) (below_alloc _ _),heap_alloc_new _ _,by omega,h1.below (below_alloc _ _),?_⟩
 rcases h2 with h2 | h2
 ·exact Or.inl h2
 ·exact Or.inr (fun k hk=>Nat.le_trans hz (h2 k hk))
theorem wb_box {w1 wq w3:World} {B p q p' q' bx:Nat} {v v':Value} {ns ns':List ByteArray} {u:Value} (hT:Tb w1 B p v q ns) (hB:B<=w1.heap.size) (hb:Below w1.heap.size w1 wq) (hx:wq.heap[bx]?=some (.cells #[u] 96)) (hf:w1.heap.size<=bx) (hb3:Below wq.heap.size wq w3) (h:(p'=p/\v'=v/\q'=q/\ns'=ns)∨Tb w3 wq.heap.size p' v' q' ns'):Wb w1 (w3.setCell ⟨bx,0,none⟩ (.pointer (some ⟨p',0,none⟩))) B bx p v q ns' p' v' q':=by
 obtain⟨h1,h2⟩:=with_tb hT hB hb hb3 h
 have hz:=hb.size
 have hx3:=(hb3.block _ (lt_of_block hx)).trans hx
 refine⟨(Below.next hb hb3).setCell (p:=⟨bx,0,none⟩) hf _,heap_setCell_same w3 bx 0 _ _ _ hx3,hf,h1.keep (ks:=[bx]) ((n_Mod.refl _ w3).setCell (p:=⟨bx,0,none⟩) (Or.inl (by simp)) _) (fun k hk hf2=>?_),?_⟩
 ·have e:k=bx:=by simpa using hk
  subst e
  have hlt:=lt_of_block hx
  rcases h2 with⟨rfl,rfl,rfl⟩ | h2
  ·rcases n_mem_foot.1 hf2 with e | e | e
   ·have:=hT.lt
    omega
   ·have:=hT.mlt
    omega
   ·have:=(hT.row e).2.1
    omega
  ·have:=h2 k hf2
   omega
 ·rcases h2 with h2 | h2
  ·exact Or.inl h2
  ·exact Or.inr (fun k hk=>Nat.le_trans hz (h2 k hk))
theorem set_far (w:World) (v:Value) {q i k o:Nat} (h:k≠q):(w.setCell ⟨q,i,none⟩ v).cell? ⟨k,o,none⟩=w.cell? ⟨k,o,none⟩:=World.cell?_of_block (w:=w) (a:=⟨k,o,none⟩) (Below.heap_setCell _ _ _ _ h)
theorem box_cell {w1 w3:World} (h:Below (w1.alloc (.cells #[.pointer none] 96)).drew.heap.size (w1.alloc (.cells #[.pointer none] 96)).drew w3):w3.heap[w1.heap.size]?=some (.cells #[.pointer none] 96)/\w3.cell? ⟨w1.heap.size,0,none⟩=some (.pointer none)/\w3.frozen? ⟨w1.heap.size,0,none⟩=false:=by
 have h0:w3.heap[w1.heap.size]?=some (.cells #[.pointer none] 96):=(h.block _ (show w1.heap.size<(w1.alloc _).heap.size by simp)).trans (heap_alloc_new w1 _)
 exact⟨h0,by simp[World.cell?,h0],by simp[World.frozen?,h0]⟩
theorem met_none {g:Gf} (h:g.roots=[]):metF g=[]:=by
 unfold metF
 rw[h]
 cases g.nodes.length <;> rfl
section
variable {w1 wc w4 w5:World} {B hb ab tb bx tb' tq':Nat} {m:Int} {av av':Value} {l l':List Int} {tv tv':Value} {tq:Nat} {ns ns':List ByteArray} {trv ptv:Value} {n:Int}
theorem put_lay {W w1 wc w4 w5:World} {B hb ab tb tb':Nat} {m:Int} {av av':Value} {l:List Int} {tv tv':Value} {tq tq':Nat} {ns NS:List ByteArray} {trv ptv:Value} {n:Int} {nv rv:Value} {g:Gf} {avs:Nat->Value} {MT:List Int} {CT mc:Nat} {mo:Option Addr}
  (HH:Hp W B hb ab tb m av l tv tq ns trv ptv n) (HGk:∀w',a_Mod (hb::a_foot ab av) W w'->Gra w' nv rv g avs) (Hbw:Below W.heap.size W wc) (Hb4:Below wc.heap.size wc w4) (HU:a_Upd 153 w4 w5 B ab m av (l++frsh l.length CT) av')
  (HP:Hp (w5.setCell ⟨hb,1,none⟩ (.pointer (some ⟨tb',0,none⟩))) B hb ab tb' m av' (l++frsh l.length CT) tv' tq' NS trv ptv n) {B1:Nat} (Ho1:w1.ownsRow B1 3 1 (.slice mo MT.length mc) MT.length (MT.map (Value.int .i64))) (Hb1:Below W.heap.size W w1) (Hb2:Below w1.heap.size w1 wc) (hB1:W.heap.size<=B1)
  (Hg:Good g) (Hok:Ok g.nodes.length MT) (Hro:∀x∈g.roots,x∈MT) (Har:∀x∈MT,∀y∈g.argsOf x,y∈MT) (hTl:(putW NS g MT l.length).length=CT)
  (HTr:∀c,c<(putW NS g MT l.length).length->0<=(putW NS g MT l.length).getD c 0/\(putW NS g MT l.length).getD c 0<=18446744073709551615/\mayB ((putW NS g MT l.length).getD c 0) (l.length+(putW NS g MT l.length).length)=true) :
  Calls Tryz.prog 47 #[.pointer (some ⟨hb,0,none⟩),.agg #[nv,rv],.slice mo MT.length mc,.int .i64 (l.length:Int)] (w5.setCell ⟨hb,1,none⟩ (.pointer (some ⟨tb',0,none⟩))) fun e w'=>∃ao c,e=.returned (.slice ao g.roots.length c)/\w'.ownsRow W.heap.size 3 1 (.slice ao g.roots.length c) g.roots.length (((List.range g.roots.length).map (fun i=>((l.length+i:Nat):Int))).map (Value.int .i64))/\Hp w' B hb ab tb' m av' (l++putW NS g MT l.length) tv' tq' NS trv ptv n/\a_Mod (hb::a_foot ab av) W w'/\a_Nx W av av':=by
 obtain⟨z0,z1,z2⟩:=HH.ltz
 have hz1:=Hb1.size
 have hz2:=Hb2.size
 have hz4:=Hb4.size
 have hnx:a_Nx W av av':=fun k hk=>by
  rcases HU.nx k hk with h | h
  ·exact Or.inl h
  ·exact Or.inr (by omega)
 have hm5:a_Mod (hb::a_foot ab av) W w5:=(a_Mod.ofBelow (Below.next Hbw Hb4)).trans HU.mod (fun x hx=>Or.inl (List.mem_cons_of_mem _ hx))
 have hm6:a_Mod (hb::a_foot ab av) W (w5.setCell ⟨hb,1,none⟩ (.pointer (some ⟨tb',0,none⟩))):=hm5.setCell (p:=⟨hb,1,none⟩) (Or.inl (by simp)) _
 have hm65:a_Mod (hb::a_foot ab av) w4 (w5.setCell ⟨hb,1,none⟩ (.pointer (some ⟨tb',0,none⟩))):=(HU.mod.ofMem _ (fun x hx=>Or.inl (List.mem_cons_of_mem _ hx))).setCell (p:=⟨hb,1,none⟩) (Or.inl (by simp)) _
 generalize w5.setCell ⟨hb,1,none⟩ (.pointer (some ⟨tb',0,none⟩))=w6 at *
 have hfo:∀x∈a_foot ab av',x∈hb::a_foot ab av∨w4.heap.size<=x:=fun x hx=>by
  rcases a_mem_foot.1 hx with rfl | hx
  ·exact Or.inl (List.mem_cons_of_mem _ (a_mem_foot.2 (Or.inl rfl)))
  ·rcases HU.nx x hx with h | h
   ·exact Or.inl (List.mem_cons_of_mem _ (a_mem_foot.2 (Or.inr h)))
   ·exact Or.inr h
 have hH6:Hp w6 B hb ab tb' m av' (l++mixW (putW NS g MT l.length) l.length 0) tv' tq' NS trv ptv n:=by
  rw[mix_zero,hTl]
  exact HP
 have hlw:∀w',a_Mod (a_foot ab av') w6 w'->a_Mod (hb::a_foot ab av) w4 w':=fun w' h=>hm65.trans h hfo
 have hal:∀w',a_Mod (a_foot ab av') w6 w'->a_Mod (hb::a_foot ab av) W w':=fun w' h=>hm6.trans h (fun x hx=>by
  rcases hfo x hx with h1 | h1
  ·exact Or.inl h1
  ·exact Or.inr (by omega))
 have hri4:∀w',a_Mod (hb::a_foot ab av) w4 w'->Ri w' (.slice mo MT.length mc) MT:=fun w' h=>by
  have ho4:=row_keep Ho1 (fun k hk=>(Below.next Hb2 Hb4).block k (Ho1.lt k hk).2)
  refine ri_own (row_keep ho4 (fun k hk=>h.block k (ho4.lt k hk).2 (fun hx=>?_)))
  have h1:=(Ho1.lt k hk).1
  rcases List.mem_cons.1 hx with rfl | hx
  ·omega
  ·have:=z1 _ hx
   omega
 refine (lay_ok (putW NS g MT l.length) hH6 (fun w' h=>HGk w' (hal w' h)) (fun w' h=>hri4 w' (hlw w' h)) Hg Hok.rng Hok.nodup Hro Har rfl HTr).mono ?_
 rintro e w7 ⟨⟨ao,c,rfl,ho⟩,hp,hm⟩
 exact⟨ao,c,rfl,own_base ho (by have:=hm6.size;omega),hp,hal _ hm,hnx⟩
theorem hp_named (H:Hp w1 B hb ab tb m av l tv tq ns trv ptv n) (hW:Wb w1 wc B bx tb tv tq ns' tb' tv' tq') (hb4:Below wc.heap.size wc w4) (hu:a_Upd 153 w4 w5 B ab m av l' av') :
  Hp (w5.setCell ⟨hb,1,none⟩ (.pointer (some ⟨tb',0,none⟩))) B hb ab tb' m av' l' tv' tq' ns' trv ptv n/\w5.cell? ⟨bx,0,none⟩=some (.pointer (some ⟨tb',0,none⟩))/\w5.cell? ⟨hb,1,none⟩=some (.pointer (some ⟨tb,0,none⟩))/\w5.frozen? ⟨hb,1,none⟩=false/\bx<w5.heap.size:=by
 have hb14:=Below.next hW.b hb4
 have H4:=H.below hb14
 obtain⟨z0,z1,z2⟩:=H.ltz
 have h5:=H4.words hu
 have hbx4:=(hb4.block _ (lt_of_block hW.x)).trans hW.x
 have hbx:w5.heap[bx]?=some (.cells #[.pointer (some ⟨tb',0,none⟩)] 96):=(hu.mod.block _ (lt_of_block hbx4) (fun hx=>by have:=z1 _ hx;have:=hW.f;omega)).trans hbx4
 have hof:∀k∈n_foot tb' tv' tq',k≠hb/\k∉a_foot ab av:=fun k hk=>by
  rcases hW.o with⟨rfl,rfl,rfl⟩ | h
  ·exact⟨fun e=>H.self.2 (e ▸ hk),fun hx=>(H.apart hx).2 hk⟩
  ·have:=h k hk
   exact⟨by omega,fun hx=>by have:=z1 _ hx;omega⟩
 have hT5:Tb w5 B tb' tv' tq' ns':=(hW.t.below hb4).keep (mod_an hu.mod) (fun k hk hf=>(hof k hf).2 hk)
 have hm:a_Mod [hb] w5 (w5.setCell ⟨hb,1,none⟩ (.pointer (some ⟨tb',0,none⟩))):=(a_Mod.refl [hb] w5).setCell (p:=⟨hb,1,none⟩) (Or.inl (by simp)) _
 refine⟨⟨heap_setCell_same w5 hb 1 _ _ _ h5.blk,h5.base,h5.ar.keep hm (fun k hk=>by
  have e:k=hb:=by simpa using hk
  rw[e];exact h5.self.1),hT5.keep (mod_an hm) (fun k hk hf=>by
  have e:k=hb:=by simpa using hk
  exact (hof k hf).1 e)⟩,by simp[World.cell?,hbx],h5.cells.1.2.1,by simp[World.frozen?,h5.blk],lt_of_block hbx⟩
end
section
variable {W:World} {B hb ab tb:Nat} {m:Int} {av:Value} {l:List Int} {tv:Value} {tq:Nat} {ns:List ByteArray} {trv ptv:Value} {n:Int}
set_option maxHeartbeats 16000000 in
theorem put_okG {nv rv:Value} {g:Gf} (hH:Hp W B hb ab tb m av l tv tq ns trv ptv n) (hB:B<=W.heap.size) {avs:Nat->Value}
  (hGk:∀w',a_Mod (hb::a_foot ab av) W w'->Gra w' nv rv g avs) (hS:Sized g) (hck:one (chk g)=[])
  (hro:(l.length+wantJ g (metF g) (metF g).length:Int)<=m) (hna:(wthJ ns g (metF g) (metF g).length).length<=1024)
  (hTr:∀c,c<(putW (wthJ ns g (metF g) (metF g).length) g (metF g) l.length).length->0<=(putW (wthJ ns g (metF g) (metF g).length) g (metF g) l.length).getD c 0/\(putW (wthJ ns g (metF g) (metF g).length) g (metF g) l.length).getD c 0<=18446744073709551615/\mayB ((putW (wthJ ns g (metF g) (metF g).length) g (metF g) l.length).getD c 0) (l.length+(putW (wthJ ns g (metF g) (metF g).length) g (metF g) l.length).length)=true) :
  Calls Tryz.prog 10 #[.pointer (some ⟨hb,0,none⟩),.agg #[nv,rv]] W fun e w'=>∃ao c av' tb' tv' tq',e=.returned (.tuple #[.slice ao g.roots.length c,.nilIface])/\w'.ownsRow W.heap.size 3 1 (.slice ao g.roots.length c) g.roots.length (((List.range g.roots.length).map (fun i=>((l.length+i:Nat):Int))).map (Value.int .i64))/\Hp w' B hb ab tb' m av' (l++putW (wthJ ns g (metF g) (metF g).length) g (metF g) l.length) tv' tq' (wthJ ns g (metF g) (metF g).length) trv ptv n/\a_Mod (hb::a_foot ab av) W w'/\a_Nx W av av'/\((tb'=tb/\tv'=tv/\tq'=tq)∨∀k∈n_foot tb' tv' tq',W.heap.size<=k):=by
 have hg:=chk_good hck
 have hok:=met_ok hg
 have hml:=hok.le
 have hN:g.nodes.length<=4096:=hg.nodes
 have hGr:∀w',a_Mod (hb::a_foot ab av) W w'->Gr w' nv rv g:=fun w' h=>(hGk w' h).gr
 have hb0:=below_alloc W (.cells #[nv,rv] 38)
 have hre:=hid (reach_good (hGr _ (a_Mod.ofBelow hb0)) hS hck)
 have HGk:=hid hGk
 have HGr:=hid hGr
 have HH:=hid hH
 have Hg:=hid hg
 have Hro:=hid (met_root hg)
 have Har:=hid (met_arg hg)
 have Hok:=hid hok
 have HTr:=hid hTr
 obtain⟨na,nc,rfl,_⟩:=(hGk W (a_Mod.refl _ _)).1
 obtain⟨ra,rc,rfl,_⟩:=(hGk W (a_Mod.refl _ _)).2
 have hx0:=hid (heap_alloc_new W (.cells #[.slice na g.nodes.length nc,.slice ra g.roots.length rc] 38))
 have Hb0:=hid hb0
 obtain⟨MT,hMT⟩:∃MT,MT=metF g:=⟨_,rfl⟩
 rw[←hMT] at hre Hro Har Hok HTr hml hna hro
 rw[←hMT]
 obtain⟨NS,hNS⟩:∃NS,NS=wthJ ns g MT MT.length:=⟨_,rfl⟩
 rw[←hNS] at HTr
 rw[←hNS]
 replace hNS:=hid hNS
 replace hMT:=hid hMT
 clear hg hok hGr hGk hH hTr hb0 hS hck
 go_enter Tryz.func10,Tryz.ntmps10
 go_wp2_with (go_at_call 43;refine hre.out.mono ?_;rintro e w1 ⟨⟨mo,mc,rfl,ho1⟩,hb1⟩;have Hb1:=hid (Below.next Hb0.out hb1);have Ho1:=hid ho1;have Hx1:=hid ((hb1.block _ (by simp)).trans hx0.out);clear ho1 hb1)
 obtain⟨⟨x0,x1⟩,_⟩:=cblk2 Hx1.out
 have HH1:=hid (HH.out.below Hb1.out)
 obtain⟨⟨h0,h1,_⟩,zh⟩:=HH1.out.cells
 have zx:=lt_of_block Hx1.out
 have hri:Hid (Ri w1 (.slice mo MT.length mc) MT):=ri_own Ho1.out
 have hwi:=hid (fun wq (hbq:Below w1.heap.size w1 wq)=>with_okG (HH1.out.tb.below hbq) (by have:=Hb1.out.size;have:=hbq.size;omega) (HGr.out wq (a_Mod.ofBelow (Below.next Hb1.out hbq))) Hg.out (hri.out.below hbq) Hok.out.rng (by omega) hna)
 rw[←hNS.out] at hwi
 have hBz:B<=w1.heap.size:=by have:=Hb1.out.size;omega
 go_cut [8,7] from 24 to 32 (fun s8 s7 wc=>∃bx tb' tv' tq',s8=.pointer (some ⟨bx,0,none⟩)/\s7=.nilIface/\Hid (Wb w1 wc B bx tb tv tq NS tb' tv' tq'))
 case first=>
  go_region_held3 (fun w'=>w'.cell? ⟨hb,1,none⟩=some (.pointer (some ⟨tb,0,none⟩))/\w'.cell? ⟨W.heap.size,0,none⟩=some (.slice na g.nodes.length nc)/\w'.cell? ⟨W.heap.size,1,none⟩=some (.slice ra g.roots.length rc)) (first | exact⟨h1,x0,x1⟩ | exact⟨(set_far _ _ (by omega)).trans h1,(set_far _ _ (by omega)).trans x0,(set_far _ _ (by omega)).trans x1⟩ | go_keep)
   (first
    | (go_at_call 44;refine (hwi.out _ ?_).mono ?_;exact (Below.refl _ _).drew;rintro e w3 ⟨⟨tb',tv',tq',rfl,ht⟩,hb3⟩;have HE:=hid (wb_call HH1.out.tb hBz (Below.refl _ _).drew hb3 ht);have HB5:=hid (Below.next (Below.refl _ _).drew hb3);clear ht;replace h1:=(HB5.out.cell (p:=⟨hb,1,none⟩) zh).trans h1;replace x0:=(HB5.out.cell (p:=⟨W.heap.size,0,none⟩) zx).trans x0;replace x1:=(HB5.out.cell (p:=⟨W.heap.size,1,none⟩) zx).trans x1;clear hb3)
    | (go_at_call 44;refine (hwi.out _ ?_).mono ?_;exact (below_alloc w1 _).drew;rintro e w3 ⟨⟨tb',tv',tq',rfl,ht⟩,hb3⟩;have HE:=hid (wb_box HH1.out.tb hBz (below_alloc w1 _).drew (heap_alloc_new w1 _) (Nat.le_refl _) hb3 ht);obtain⟨bx3,bx4,bx5⟩:=box_cell hb3;have HB5:=hid (Below.next (below_alloc w1 _).drew hb3);clear ht;replace h1:=(HB5.out.cell (p:=⟨hb,1,none⟩) zh).trans h1;replace x0:=(HB5.out.cell (p:=⟨W.heap.size,0,none⟩) zx).trans x0;replace x1:=(HB5.out.cell (p:=⟨W.heap.size,1,none⟩) zx).trans x1;clear hb3))
  all_goals go_wp2_with fail
  all_goals go_meet
  all_goals exact⟨_,tb',tv',tq',rfl,rfl,HE⟩
 case rest=>
  obtain⟨bx,tb',tv',tq',rfl,rfl,hW⟩:=hcut
  have Hbw:=hid (Below.next Hb1.out hW.out.b)
  obtain⟨⟨y0,y1⟩,_⟩:=cblk2 ((hW.out.b.block _ zx).trans Hx1.out)
  have zy:=lt_of_block ((hW.out.b.block _ zx).trans Hx1.out)
  obtain⟨⟨k0,_⟩,zk⟩:=(HH1.out.below hW.out.b).cells
  have hric:=hid (hri.out.below hW.out.b)
  have hwa:=hid (wanted_any (HGr.out wc (a_Mod.ofBelow Hbw.out)) Hg.out hric.out Hok.out.rng (by omega))
  have hwle:=want_le Hg.out (met:=MT) MT.length
  have hrr:=want_root (g:=g) (met:=MT) MT.length
  have hrl:g.roots.length<=4096:=Hg.out.roots
  have HHc:=hid (HH1.out.below hW.out.b)
  have hTl:Hid ((putW NS g MT l.length).length=wantJ g MT MT.length):=putW_len
  by_cases hc0:wantJ g MT MT.length=0
  ·have hr0:g.roots.length=0:=by omega
   have hT0:putW NS g MT l.length=[]:=List.eq_nil_of_length_eq_zero (by rw[hTl.out];exact hc0)
   have hM0:NS=ns:=by
    rw[hNS.out,hMT.out,met_none (List.eq_nil_of_length_eq_zero hr0)]
    rfl
   have HF:Hid (Hp wc B hb ab tb m av (l++putW NS g MT l.length) tv tq NS trv ptv n):=show Hp _ _ _ _ _ _ _ _ _ _ _ _ _ _ by
    rw[hT0,hM0,List.append_nil]
    exact HHc.out
   rw[hc0] at hwa
   have Hr0:=hid hr0
   clear hro hna hwle hrr hr0 hT0 hM0 hTl hc0
   go_wp2_with (go_at_call 45;refine hwa.out.mono ?_;rintro e w4 ⟨rfl,hb4⟩;have Hb4:=hid hb4;clear hb4)
   go_ret2
   exact⟨none,0,av,tb,tv,tq,by rw[Hr0.out];rfl,by rw[Hr0.out];exact World.ownsRow_nil _ _ _ _,HF.out.below Hb4.out,a_Mod.ofBelow (Below.next Hbw.out Hb4.out),a_Nx.refl _ _,Or.inl ⟨rfl,rfl,rfl⟩⟩
  ·obtain⟨CT,hCT⟩:∃CT,CT=wantJ g MT MT.length:=⟨_,rfl⟩
   rw[←hCT] at hwa hc0 hro hwle hrr hTl
   have hci:¬(CT:Int)=0:=by omega
   have hal:=hid (fun w4 (hb4:Below wc.heap.size wc w4)=>alloc_ok (HHc.out.below hb4).ar (by have:=hb4.size;have:=hW.out.b.size;omega) CT (by omega) (by omega))
   clear hro hna hCT
   have d0:((CT:Int) == 0)=false:=by simpa using hci
   have ne0:W.heap.size≠hb:=by have:=HH.out.ltz.1;omega
   have ne1:hb≠W.heap.size:=by omega
   have ne2:bx≠hb:=by have:=HH.out.ltz.1;have:=hW.out.f;have:=Hb1.out.size;omega
   go_wp2_with (first
    | (go_at_call 45;refine hwa.out.mono ?_;rintro e w4 ⟨rfl,hb4⟩;have Hb4:=hid hb4;obtain⟨⟨j0,_⟩,zj⟩:=(HHc.out.below hb4).cells;clear hb4)
    | (go_at_call 46;refine (hal.out _ Hb4.out).mono ?_;rintro e w5 ⟨av',rfl,hu⟩;have HU:=hid hu;obtain⟨HP6,bc5,j1,jf,jz⟩:=hp_named HH1.out hW.out Hb4.out hu;have HP:=hid HP6;have HX5:=hid ((hu.mod.block _ (Nat.lt_of_lt_of_le zy Hb4.out.size) (fun hx=>by have:=HH.out.ltz.2.1 _ hx;omega)).trans ((Hb4.out.block _ zy).trans ((hW.out.b.block _ zx).trans Hx1.out)));obtain⟨⟨q0,q1⟩,_⟩:=cblk2 HX5.out;have zq:=lt_of_block HX5.out;clear hu HP6))
   have hlay:=hid (put_lay HH.out HGk.out Hbw.out Hb4.out HU.out HP.out Ho1.out Hb1.out hW.out.b (by simp) Hg.out Hok.out Hro.out Har.out hTl.out HTr.out)
   go_wp2_with (go_at_call 47;refine hlay.out.mono ?_;rintro e w7 ⟨ro,rc',rfl,hro7,hp7,hm7,hn7⟩;have H7:=hid (And.intro hro7 (And.intro hp7 (And.intro hm7 hn7)));clear hro7 hp7 hm7 hn7)
   go_ret2
   refine⟨ro,rc',av',tb',tv',tq',rfl,H7.out.1,H7.out.2.1,H7.out.2.2.1,H7.out.2.2.2,?_⟩
   rcases hW.out.o with h | h
   ·exact Or.inl h
   ·exact Or.inr (fun k hk=>Nat.le_trans Hb1.out.size (h k hk))
end
end Go.Proofs.YtpkojcfdkkjmcaaGreatDoor
