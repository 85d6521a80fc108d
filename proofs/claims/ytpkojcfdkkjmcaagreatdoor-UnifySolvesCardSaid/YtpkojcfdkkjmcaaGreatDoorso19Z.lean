/- usersOf of package bisim, walked. -/
import Derived.Test.YtpkojcfdkkjmcaaGreatDoorso16Z
import Derived.Test.YtpkojcfdkkjmcaaGreatDoorso04Z
import Derived.Test.YtpkojcfdkkjmcaaGreatDoorso13Z
namespace Go.Proofs.YtpkojcfdkkjmcaaGreatDoor
set_option maxRecDepth 100000
open Go.RowKit
theorem undr6 {w w':World} {r:Option Nat} (h:w.drew.grownBy w' r):w.grownBy w' r:=⟨h.os,h.tape,h.output,h.size,h.block⟩
set_option maxHeartbeats 4000000 in
theorem users_any {W:World} {nv:Value} {g:Gf} (hn:Rn W nv g.nodes) (hg:Good g) :
  Calls Tryz.prog 173 #[nv] W fun e w'=>(∃vs,e=.returned (.slice (some ⟨W.heap.size,0,none⟩) 8 8)/\Ub w' W.heap.size W.heap.size g.nodes.length (fun k=>W.heap.size+1+k) vs (fun k a=>usrF g.nodes k (a:Int) g.nodes.length))/\Below W.heap.size W w':=by
 obtain⟨i0,hi,hz0,hz1,hz2⟩:=info_parts infoI
 have hnl:=hg.nodes
 obtain⟨na,nc,rfl,hNc⟩:=hn
 have hmk:=make_rows g.nodes.length (by omega)
 have hmt:=make_tops
 have hst:=hid (U1.start W g.nodes.length)
 generalize hNN:g.nodes.length=N at *
 go_enter Tryz.func173,Tryz.ntmps173
 go_wp2
 go_loopw [12] (fun i wr=>∃k:Nat,k<=8/\i=.int .i64 k/\Hid (U1 W wr N k)) (fun i _=>8-(intOf i).toNat)
 case atStart=>exact⟨0,by omega,rfl,hst⟩
 case round=>
  clear hst hmt
  obtain⟨k,hk,rfl,hU⟩:=hrel
  by_cases hlt:k<8
  ·have hsz:=hU.out.size
   have d0:∃y,wr.cell? ⟨W.heap.size,k,none⟩=some y:=⟨_,by rw[cell_of_row wr _ k _ _ _ hU.out.top];exact rowV_at _ hlt⟩
   obtain⟨y,d0⟩:=d0
   have f0:wr.frozen? ⟨W.heap.size,k,none⟩=false:=by simp[World.frozen?,hU.out.top]
   have hz:W.heap.size<wr.heap.size:=by omega
   have hU':=hid hU.out.step
   rw[World.setCell_alloc_past _ _ _ _ hz] at hU'
   clear hU hsz
   go_wp2
   go_roundw
   case rel=>exact⟨k+1,by omega,congrArg (Value.int .i64) (by omega),hU'⟩
   case measure=>simp[intOf];omega
  ·obtain rfl:k=8:=by omega
   have hb0:=hid hU.out.b
   have h2:Hid (∃vs,Ub wr W.heap.size W.heap.size N (fun k=>W.heap.size+1+k) vs (fun k a=>usrF g.nodes k (a:Int) 0)):=⟨_,hU.out.last.congr (fun k a _ _=>rfl)⟩
   clear hU hmk
   go_wp2
   go_loopw [24] (fun i wr=>∃m:Nat,m<=N/\i=.int .i64 m/\Hid (Below W.heap.size W wr)/\Hid (∃vs,Ub wr W.heap.size W.heap.size N (fun k=>W.heap.size+1+k) vs (fun k a=>usrF g.nodes k (a:Int) m))) (fun i _=>N-(intOf i).toNat)
   case atStart=>exact⟨0,Nat.zero_le _,rfl,hb0,h2⟩
   case round=>
    clear h2 hb0
    obtain⟨m,hm,rfl,hb,hu⟩:=hrel
    by_cases hltm:m<N
    ·obtain⟨nb,no,av,rfl,hnd⟩:=hNc m (by omega)
     have hga:=hg.args (x:=(m:Int)) (by omega) (by omega)
     have hgm:g.argsOf (m:Int)=(g.nodes.getD m nd0).args:=rfl
     rw[hgm] at hga
     obtain⟨n0,n1,n2,n3,n4⟩:=hnd
     have d0:wr.cell? ⟨nb,no+m*4,none⟩=_:=(hb.out.cell (p:=⟨nb,no+m*4,none⟩) (lt_of_cell n0)).trans n0
     have d1:wr.cell? ⟨nb,no+m*4+1,none⟩=_:=(hb.out.cell (p:=⟨nb,no+m*4+1,none⟩) (lt_of_cell n0)).trans n1
     have d2:wr.cell? ⟨nb,no+m*4+2,none⟩=_:=(hb.out.cell (p:=⟨nb,no+m*4+2,none⟩) (lt_of_cell n0)).trans n2
     have d3:wr.cell? ⟨nb,no+m*4+3,none⟩=_:=(hb.out.cell (p:=⟨nb,no+m*4+3,none⟩) (lt_of_cell n0)).trans n3
     obtain⟨aa,ac,rfl,hac⟩:=n4
     have hsu:=hid (fun k a=>usrF_succ g.nodes k a m)
     generalize hnod:g.nodes.getD m nd0=nod at *
     have hb1:=hid (hb.out.alloc hb.out.size (.cells #[.int .i64 nod.kind,.string nod.name,.int .i64 nod.num,.slice aa nod.args.length ac] 86))
     have h3:Hid (∃vs,Ub (wr.alloc (.cells #[.int .i64 nod.kind,.string nod.name,.int .i64 nod.num,.slice aa nod.args.length ac] 86)) W.heap.size W.heap.size N (fun k=>W.heap.size+1+k) vs (stF g.nodes m 0)):=by
      obtain⟨vs,h⟩:=hu.out
      exact⟨vs,(h.keep (below_alloc _ _)).congr (fun k a _ _=>by unfold stF;rw[if_neg (Nat.not_lt_zero _)])⟩
     clear hu hb n0 n1 n2 n3
     obtain⟨kind,name,num,args⟩:=nod
     dsimp only at *
     go_wp2
     go_loopw [32] (fun i wr=>∃j:Nat,j<=args.length/\i=.int .i64 j/\Hid (Below W.heap.size W wr)/\Hid (∃vs,Ub wr W.heap.size W.heap.size N (fun k=>W.heap.size+1+k) vs (stF g.nodes m j))) (fun i _=>args.length-(intOf i).toNat)
     case atStart=>exact⟨0,Nat.zero_le _,rfl,hb1,h3⟩
     case round=>
      clear h3 hb1 d0 d1 d2 d3
      obtain⟨j,hj,rfl,hb,hu⟩:=hrel
      by_cases hltj:j<args.length
      ·obtain⟨vs,hub⟩:=hu.out
       obtain⟨ab,ao,rfl,hcj⟩:=hac j hltj
       have hax:=hga.1 _ (getD_mem hltj)
       obtain⟨an,han⟩:∃n:Nat,args.getD j 0=(n:Int):=⟨(args.getD j 0).toNat,by omega⟩
       rw[han] at hax hcj
       have hanN:an<N:=by omega
       have hj8:j<8:=by omega
       have hj8i:(j:Int)<8:=by omega
       have hani:(an:Int)<(N:Int):=by omega
       have e1:wr.cell? ⟨ab,ao+j,none⟩=some (.int .i64 (an:Int)):=(hb.out.cell (p:=⟨ab,ao+j,none⟩) (lt_of_cell hcj)).trans hcj
       have e2:wr.cell? ⟨W.heap.size,j,none⟩=some (.slice (some ⟨W.heap.size+1+j,0,none⟩) N N):=by
        rw[cell_of_row wr _ j _ _ _ hub.top]
        exact rowV_at _ hj8
       have hown:=hub.own j an hj8 hanN
       obtain⟨va,vc,hva⟩:=own_sl hown
       have e3:wr.cell? ⟨W.heap.size+1+j,an,none⟩=some (.slice va (stF g.nodes m j j an).length vc):=by
        rw[cell_of_row wr _ an _ _ _ (hub.row j hj8),←hva]
        exact rowV_at _ hanN
       have f3:wr.frozen? ⟨W.heap.size+1+j,an,none⟩=false:=by simp[World.frozen?,hub.row j hj8]
       have hsl:(stF g.nodes m j j an).length<=4096:=by
        have:=usrF_len g.nodes j (an:Int) m
        unfold stF
        rw[if_neg (Nat.lt_irrefl _)]
        omega
       have hzb:W.heap.size+1+j<wr.heap.size:=lt_of_block (hub.row j hj8)
       have hzt:W.heap.size<wr.heap.size:=lt_of_block hub.top
       have hpush:=hid (fun o w2 gg cap=>Ub.push (o:=o) (w2:=w2) (g:=gg) (cap:=cap) (n:=m) hub hj8 hanN)
       have hfar:=hid (fun o w2=>Ub.far (o:=o) (w2:=w2) hub hj8 hanN)
       have hFs:Hid (∀k a,k<8->a<N->upd (stF g.nodes m j) j (upd (stF g.nodes m j j) an (stF g.nodes m j j an++[m])) k a=stF g.nodes m (j+1) k a):=fun k a _ _=>by
        by_cases ek:k=j
        ·subst ek
         rw[upd_same]
         unfold stF
         rw[if_pos (Nat.lt_succ_self k)]
         by_cases ea:a=an
         ·subst ea
          rw[upd_same,if_neg (Nat.lt_irrefl _),hsu.out,if_pos ⟨hltj,han⟩]
         ·rw[upd_other _ _ ea,if_neg (Nat.lt_irrefl _),hsu.out,if_neg (fun h=>ea (by have:=h.2;omega)),List.append_nil]
        ·rw[upd_other _ _ ek]
         unfold stF
         by_cases h:k<j
         ·rw[if_pos h,if_pos (by omega)]
         ·rw[if_neg h,if_neg (by omega)]
       rw[hva] at hown hfar hpush
       have hvb:=hid hva
       have hbd:=hid hb.out
       have hbs:=hb.out.size
       have ho1:=World.ownsRow.alloc hown (.cells #[.int .i64 (m:Int)] 3)
       have hnews:=heap_alloc_new wr (.cells #[.int .i64 (m:Int)] 3)
       clear hu hb hub hcj hva han hax hown
       generalize hFF:stF g.nodes m j j an=FF at *
       go_wp2
       go_region_law
        (first
         | (refine step_append_lies _ (by rfl) _ _ _ (by rfl) W.heap.size 3 i0 (.int .i64 0) 1 8 Tryz.underlying36 hi hz0 hz1 hz2 rfl (by omega) _ FF.length ((ints FF).map (Value.int .i64)) (by rfl) (by first | exact ho1 | exact ho1.drew) ⟨wr.heap.size,0,none⟩ 1 1 [.int .i64 (m:Int)] (by rfl) (by rfl) (World.news_of_block (cs:=#[.int .i64 (m:Int)]) (t:=3) (fr:=(0,0)) hnews) (by simp[Value.oneCell']) (by omega) (by unfold maxLen;omega) (by omega) (by simp;omega) (wr.heap.size+1) (by simp) ?_;intro gg cap w5 hown5 hgr5 hat5 hlt5;have hgr6:=undr6 hgr5;obtain⟨x1,x2,x3⟩:=hfar.out _ w5 hgr6))
       all_goals go_wp2
       all_goals
        go_roundw
        case rel=>((repeat apply Exists.intro);exact⟨⟨j+1,by omega,congrArg (Value.int .i64) (by omega),((hbd.out.alloc hbs _).grown hgr6 (by simp;omega) (fun q e=>(ho1.lt q e).1)).setCell (by show W.heap.size<=W.heap.size+1+j;omega) _,⟨_,(hpush.out _ w5 gg cap hown5 hgr6 (hat5.elim Or.inl (fun h=>Or.inr (by simpa using h)))).congr hFs.out⟩⟩,rfl⟩)
        case measure=>simp[intOf];omega
      ·have hjl:j=args.length:=by omega
       subst hjl
       have hu2:Hid (∃vs,Ub wr W.heap.size W.heap.size N (fun k=>W.heap.size+1+k) vs (fun k a=>usrF g.nodes k (a:Int) (m+1))):=by
        obtain⟨vs,h⟩:=hu.out
        refine⟨vs,h.congr (fun k a _ _=>?_)⟩
        unfold stF
        by_cases hkj:k<args.length
        ·rw[if_pos hkj]
        ·rw[if_neg hkj,hsu.out,if_neg (fun h=>hkj h.1),List.append_nil]
       clear hu
       go_wp2
       exact⟨⟨m+1,by omega,congrArg (Value.int .i64) (by omega),hb,hu2⟩,by simp[intOf];omega⟩
    ·have hml:m=N:=by omega
     subst hml
     obtain⟨vs,hub⟩:=hu.out
     have hub':=hid hub
     clear hub hu
     go_wp2
     go_ret
     exact⟨⟨vs,rfl,hub'.out⟩,hb.out⟩
end Go.Proofs.YtpkojcfdkkjmcaaGreatDoor
namespace Go.Proofs.YtpkojcfdkkjmcaaGreatDoor
set_option maxRecDepth 100000
open Go.RowKit
def fnd (p:Nat->Bool):List Nat->Nat
 | []=>0
 | x::r=>if p x then 0 else fnd p r+1
theorem fnd_le (p:Nat->Bool):∀l,fnd p l<=l.length
 | []=>Nat.le_refl _
 | x::r=>by
  have:=fnd_le p r
  unfold fnd
  split
  ·exact Nat.zero_le _
  ·simp only[List.length_cons]
   omega
theorem fnd_hit {p:Nat->Bool}:∀{l:List Nat},fnd p l<l.length->p (l.getD (fnd p l) 0)=true
 | [],h=>absurd h (Nat.not_lt_zero _)
 | x::r,h=>by
  unfold fnd at h ⊢
  by_cases e:p x=true
  ·rw[if_pos e]
   simpa using e
  ·rw[if_neg e] at h ⊢
   have:=fnd_hit (p:=p) (l:=r) (by simpa using h)
   simpa using this
theorem fnd_none {p:Nat->Bool}:∀{l:List Nat},fnd p l=l.length->∀x∈l,p x=false
 | [],_=>by simp
 | x::r,h=>by
  unfold fnd at h
  by_cases e:p x=true
  ·rw[if_pos e] at h
   simp at h
  ·rw[if_neg e] at h
   intro y hy
   rcases List.mem_cons.1 hy with h1 | h1
   ·rw[h1]
    simpa using e
   ·exact fnd_none (by simpa using h) y h1
theorem fnd_congr {p q:Nat->Bool}:∀{l:List Nat},(∀x∈l,p x=q x)->fnd p l=fnd q l
 | [],_=>rfl
 | x::r,h=>by
  unfold fnd
  rw[h x (by simp),fnd_congr (fun y hy=>h y (by simp[hy]))]
def numF (e:Nat->Nat->Bool):Nat->List Nat×List Nat
 | 0=>([],[])
 | m+1=>((numF e m).1++[fnd (e m) (numF e m).2],if fnd (e m) (numF e m).2=(numF e m).2.length then (numF e m).2++[m] else (numF e m).2)
abbrev csF (e:Nat->Nat->Bool) (m:Nat):List Nat:=(numF e m).1
abbrev lsF (e:Nat->Nat->Bool) (m:Nat):List Nat:=(numF e m).2
theorem csF_succ (e:Nat->Nat->Bool) (m:Nat):csF e (m+1)=csF e m++[fnd (e m) (lsF e m)]:=rfl
theorem lsF_succ (e:Nat->Nat->Bool) (m:Nat):lsF e (m+1)=if fnd (e m) (lsF e m)=(lsF e m).length then lsF e m++[m] else lsF e m:=rfl
theorem csF_len (e:Nat->Nat->Bool):∀m,(csF e m).length=m
 | 0=>rfl
 | m+1=>by rw[csF_succ,List.length_append,csF_len e m];rfl
theorem lsF_lt (e:Nat->Nat->Bool):∀m,∀l∈lsF e m,l<m
 | 0=>by simp[lsF,numF]
 | m+1=>by
  intro l hl
  rw[lsF_succ] at hl
  split at hl
  ·rcases List.mem_append.1 hl with h | h
   ·have:=lsF_lt e m l h
    omega
   ·have:l=m:=by simpa using h
    omega
  ·have:=lsF_lt e m l hl
   omega
theorem lsF_le (e:Nat->Nat->Bool):∀m,(lsF e m).length<=m
 | 0=>Nat.le_refl _
 | m+1=>by
  have:=lsF_le e m
  rw[lsF_succ]
  split
  ·rw[List.length_append,List.length_singleton]
   omega
  ·omega
theorem numF_congr {e e':Nat->Nat->Bool}:∀m,(∀x y,x<m->y<m->e x y=e' x y)->numF e m=numF e' m
 | 0,_=>rfl
 | m+1,h=>by
  have h1:=numF_congr (e:=e) (e':=e') m (fun x y hx hy=>h x y (by omega) (by omega))
  have h2:fnd (e m) (lsF e m)=fnd (e' m) (lsF e m):=fnd_congr (fun x hx=>h m x (by omega) (by have:=lsF_lt e m x hx;omega))
  have h3:lsF e m=lsF e' m:=by unfold lsF;rw[h1]
  unfold numF
  show ((numF e m).1++[fnd (e m) (lsF e m)],if fnd (e m) (lsF e m)=(lsF e m).length then lsF e m++[m] else lsF e m)=_
  rw[h2,h3,h1]
theorem csF_take (e:Nat->Nat->Bool) (m:Nat):∀d,(csF e (m+d)).take m=csF e m
 | 0=>by rw[Nat.add_zero,List.take_of_length_le (by rw[csF_len];exact Nat.le_refl _)]
 | d+1=>by
  have h:m<=(csF e (m+d)).length:=by rw[csF_len];omega
  show (csF e (m+d+1)).take m=_
  rw[csF_succ,List.take_append_of_le_length h]
  exact csF_take e m d
theorem csF_at (e:Nat->Nat->Bool) {n m:Nat} (h:n<m):(csF e m).getD n 0=fnd (e n) (lsF e n):=by
 obtain⟨d,rfl⟩:∃d,m=n+1+d:=⟨m-(n+1),by omega⟩
 have h1:=csF_take e (n+1) d
 have h2:(csF e (n+1+d)).getD n 0=((csF e (n+1+d)).take (n+1)).getD n 0:=by simp[List.getD]
 rw[h2,h1,csF_succ]
 have h3:=csF_len e n
 simp[List.getD,h3]
structure Eqv (e:Nat->Nat->Bool) (N:Nat):Prop where
 refl:∀x,x<N->e x x=true
 symm:∀x y,x<N->y<N->e x y=true->e y x=true
 trans:∀x y z,x<N->y<N->z<N->e x y=true->e y z=true->e x z=true
structure Nmd (e:Nat->Nat->Bool) (m:Nat):Prop where
 hit:∀n,n<m->(csF e m).getD n 0<(lsF e m).length/\e n ((lsF e m).getD ((csF e m).getD n 0) 0)=true
 apart:∀c d,c<(lsF e m).length->d<(lsF e m).length->e ((lsF e m).getD c 0) ((lsF e m).getD d 0)=true->c=d
 own:∀c,c<(lsF e m).length->(csF e m).getD ((lsF e m).getD c 0) 0=c
theorem numF_said {e:Nat->Nat->Bool} {N:Nat} (he:Eqv e N):∀m,m<=N->Nmd e m
 | 0,_=>⟨fun _ h=>absurd h (Nat.not_lt_zero _),fun _ _ h=>absurd h (Nat.not_lt_zero _),fun _ h=>absurd h (Nat.not_lt_zero _)⟩
 | m+1,hm=>by
  have ih:=numF_said he m (by omega)
  have hl:=lsF_lt e m
  have hcl:=csF_len e m
  have co:∀n,n<m->(csF e (m+1)).getD n 0=(csF e m).getD n 0:=fun n hn=>by
   rw[csF_succ]
   have:n<(csF e m).length:=by omega
   simp[List.getD,List.getElem?_append_left this]
  have cn:(csF e (m+1)).getD m 0=fnd (e m) (lsF e m):=csF_at e (Nat.lt_succ_self m)
  by_cases h:fnd (e m) (lsF e m)=(lsF e m).length
  ·have hls:lsF e (m+1)=lsF e m++[m]:=by rw[lsF_succ,if_pos h]
   have lo:∀c,c<(lsF e m).length->(lsF e (m+1)).getD c 0=(lsF e m).getD c 0:=fun c hc=>by
    rw[hls]
    simp[List.getD,List.getElem?_append_left hc]
   have ln:(lsF e (m+1)).getD (lsF e m).length 0=m:=by
    rw[hls]
    simp[List.getD]
   have hlen:(lsF e (m+1)).length=(lsF e m).length+1:=by rw[hls,List.length_append,List.length_singleton]
   have hno:=fnd_none h
   refine⟨fun n hn=>?_,fun c d hc hd hcd=>?_,fun c hc=>?_⟩
   ·by_cases en:n=m
    ·subst en
     rw[cn,h,hlen,ln]
     exact⟨by omega,he.refl n (by omega)⟩
    ·have hn':n<m:=by omega
     have:=ih.hit n hn'
     rw[co n hn',hlen,lo _ this.1]
     exact⟨by omega,this.2⟩
   ·rw[hlen] at hc hd
    by_cases ec:c=(lsF e m).length
    ·by_cases ed:d=(lsF e m).length
     ·omega
     ·exfalso
      have hd':d<(lsF e m).length:=by omega
      rw[ec,ln,lo d hd'] at hcd
      rw[hno _ (nget_mem hd')] at hcd
      cases hcd
    ·have hc':c<(lsF e m).length:=by omega
     rw[lo c hc'] at hcd
     by_cases ed:d=(lsF e m).length
     ·exfalso
      rw[ed,ln] at hcd
      have h1:=hl _ (nget_mem hc')
      have h2:=he.symm _ _ (by omega) (by omega) hcd
      rw[hno _ (nget_mem hc')] at h2
      cases h2
     ·have hd':d<(lsF e m).length:=by omega
      rw[lo d hd'] at hcd
      exact ih.apart c d hc' hd' hcd
   ·rw[hlen] at hc
    by_cases ec:c=(lsF e m).length
    ·rw[ec,ln,cn,h]
    ·have hc':c<(lsF e m).length:=by omega
     rw[lo c hc',co _ (hl _ (nget_mem hc'))]
     exact ih.own c hc'
  ·have hls:lsF e (m+1)=lsF e m:=by rw[lsF_succ,if_neg h]
   have hlt:fnd (e m) (lsF e m)<(lsF e m).length:=by
    have:=fnd_le (e m) (lsF e m)
    omega
   refine⟨fun n hn=>?_,fun c d hc hd hcd=>?_,fun c hc=>?_⟩
   ·rw[hls]
    by_cases en:n=m
    ·subst en
     rw[cn]
     exact⟨hlt,fnd_hit hlt⟩
    ·rw[co n (by omega)]
     exact ih.hit n (by omega)
   ·rw[hls] at hc hd hcd
    exact ih.apart c d hc hd hcd
   ·rw[hls] at hc ⊢
    rw[co _ (hl _ (nget_mem hc))]
    exact ih.own c hc
theorem Nmd.same {e:Nat->Nat->Bool} {N:Nat} (he:Eqv e N) (h:Nmd e N) {x y:Nat} (hx:x<N) (hy:y<N):(csF e N).getD x 0=(csF e N).getD y 0↔e x y=true:=by
 have h1:=h.hit x hx
 have h2:=h.hit y hy
 have l1:=lsF_lt e N _ (nget_mem h1.1)
 have l2:=lsF_lt e N _ (nget_mem h2.1)
 constructor
 ·intro ec
  rw[←ec] at h2 l2
  exact he.trans _ _ _ hx l1 hy h1.2 (he.symm _ _ hy l2 h2.2)
 ·intro exy
  refine h.apart _ _ h1.1 h2.1 ?_
  exact he.trans _ _ _ l1 hx l2 (he.symm _ _ hx l1 h1.2) (he.trans _ _ _ hx hy l2 exy h2.2)
end Go.Proofs.YtpkojcfdkkjmcaaGreatDoor
