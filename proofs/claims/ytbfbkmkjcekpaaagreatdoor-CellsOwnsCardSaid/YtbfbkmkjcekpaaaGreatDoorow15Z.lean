/- The small functions of layer 5: faults, labels, the classes of a list of nodes. -/
import Derived.Test.YtbfbkmkjcekpaaaGreatDoorow14Z
namespace Go.Proofs.YtbfbkmkjcekpaaaGreatDoor
set_option maxRecDepth 100000
open Go.RowKit
def labV (x:Int) (n:Nd):Value:=.agg #[.int .i64 n.kind,.int .i64 n.num,.int .i64 n.args.length,.int .i64 (if n.kind=1 then x else 0),.string n.name]
theorem ret_lab {w:World} {fn:Func} {t:Tmp} (hfn:fn.results=#[.cell t 221]) {tmps:Array Value} {q:Nat} {u0 u1 u2 u3 u4:Value} (h4:tmps[t]?.getD undef=.pointer (some ⟨q,0,none⟩)) (hq:w.heap[q]?=some (.cells #[u0,u1,u2,u3,u4] 221)):(results fn tmps).run Tryz.prog w=.ok (.agg #[u0,u1,u2,u3,u4]) w:=by
 have z0:w.cell? ⟨q,0,none⟩=some u0:=by simp[World.cell?,hq]
 have z1:w.cell? ⟨q,1,none⟩=some u1:=by simp[World.cell?,hq]
 have z2:w.cell? ⟨q,2,none⟩=some u2:=by simp[World.cell?,hq]
 have z3:w.cell? ⟨q,3,none⟩=some u3:=by simp[World.cell?,hq]
 have z4:w.cell? ⟨q,4,none⟩=some u4:=by simp[World.cell?,hq]
 simp[results,hfn,go_sem,h4,z0,z1,z2,z3,z4]
set_option maxHeartbeats 1000000 in
theorem label_any (x:Int) (n:Nd) (aa:Option Addr) (ac:Nat) (w:World) (hl:n.args.length<=5000) :
  Calls Tryz.prog 134 #[.int .i64 x,.agg #[.int .i64 n.kind,.string n.name,.int .i64 n.num,.slice aa n.args.length ac]] w fun e w'=>e=.returned (labV x n)/\Below w.heap.size w w':=by
 obtain⟨kind,name,num,args⟩:=n
 dsimp only at hl ⊢
 unfold labV
 dsimp only
 by_cases hk:kind=1
 ·subst hk
  go_enter Tryz.func134,Tryz.ntmps134
  go_wp2
  refine bodyPost_ret (ret_lab Tryz.results134 (by rfl) ?_) rfl ⟨rfl,((below_alloc w _).alloc (by simp) _).alloc (by simp <;> omega) _⟩
  rw[Below.heap_alloc _ _ _ (by simp)]
  exact (by simpa using heap_alloc_new (w.alloc _) _)
 ·go_enter Tryz.func134,Tryz.ntmps134
  go_wp2
  refine bodyPost_ret (ret_lab Tryz.results134 (by rfl) ?_) rfl ⟨rfl,((below_alloc w _).alloc (by simp) _).alloc (by simp <;> omega) _⟩
  rw[Below.heap_alloc _ _ _ (by simp)]
  exact (by simpa using heap_alloc_new (w.alloc _) _)
set_option maxHeartbeats 2000000 in
theorem classesOf_any {W:World} {lv cv:Value} {l cl:List Int} (hl:Ri W lv l) (hc:Ri W cv cl) (hlr:∀x∈l,0<=x/\x<(cl.length:Int)) (hlen:l.length<=5000) :
  Calls Tryz.prog 51 #[lv,cv] W fun e w'=>(∃ao c,e=.returned (.slice ao l.length c)/\w'.ownsRow W.heap.size 3 1 (.slice ao l.length c) l.length ((l.map (fun x=>cl.getD x.toNat 0)).map (Value.int .i64)))/\Below W.heap.size W w':=by
 obtain⟨i0,hi,hz0,hz1,hz2⟩:=info_parts infoI
 obtain⟨la,lc,rfl,hlc⟩:=hl
 obtain⟨ca,cc,rfl,hcc⟩:=hc
 go_enter Tryz.func51,Tryz.ntmps51
 go_wp2
 go_loopw [5,10] (fun x i wr=>∃(k:Nat) (ao:Option Addr) (c:Nat),k<=l.length/\i=.int .i64 k/\x=.slice ao k c/\Hid (Below W.heap.size W wr)/\Hid (wr.ownsRow W.heap.size 3 1 (.slice ao k c) k (((l.take k).map (fun x=>cl.getD x.toNat 0)).map (Value.int .i64)))) (fun _ i _=>l.length-(intOf i).toNat)
 case atStart=>exact⟨0,none,0,Nat.zero_le _,rfl,rfl,Below.refl _ _,World.ownsRow_nil _ _ _ _⟩
 case round=>
  obtain⟨k,ao,c,hk,rfl,rfl,hb,ho⟩:=hrel
  by_cases hlt:k<l.length
  ·obtain⟨lb,lo,rfl,hc⟩:=hlc k hlt
   have hx:=hlr _ (getD_mem hlt)
   obtain⟨n,hn⟩:∃n:Nat,l.getD k 0=(n:Int):=⟨(l.getD k 0).toNat,by omega⟩
   have hts:=take_snoc hlt
   rw[hn] at hx hc hts
   have hnN:n<cl.length:=by omega
   obtain⟨cb,co,rfl,hcn⟩:=hcc n hnN
   have dl:wr.cell? ⟨lb,lo+k,none⟩=some (.int .i64 (n:Int)):=by rw[hb.out.cell (p:=⟨lb,lo+k,none⟩) (lt_of_cell hc)];exact hc
   have dr:wr.cell? ⟨cb,co+n,none⟩=some (.int .i64 (cl.getD n 0)):=by rw[hb.out.cell (p:=⟨cb,co+n,none⟩) (lt_of_cell hcn)];exact hcn
   have hst:Hid (((l.take k).map (fun x=>cl.getD x.toNat 0)).map (Value.int .i64)++[.int .i64 (cl.getD n 0)]=((l.take (k+1)).map (fun x=>cl.getD x.toNat 0)).map (Value.int .i64)):=by
    show _=_
    rw[hts]
    simp
   generalize cl.getD n 0=y at dr hst
   have hbd:Below W.heap.size W wr:=hb.out
   have hod:=ho.out
   generalize ((l.take k).map (fun x=>cl.getD x.toNat 0)).map (Value.int .i64)=XS at hod hst
   have hbs:=hbd.size
   have ho1:=World.ownsRow.alloc hod (.cells #[.int .i64 y] 3)
   clear hc hcn hn hts hb ho
   go_wp2_with (at_builtin;refine wpList_append_lies _ rfl _ _ _ rfl W.heap.size 3 i0 (.int .i64 0) 1 8 Tryz.underlying23 hi hz0 hz1 hz2 rfl (by decide) _ k XS rfl ho1 ⟨wr.heap.size,0,none⟩ 1 1 [.int .i64 y] rfl rfl (World.news_of_block (cs:=#[.int .i64 y]) (t:=3) (fr:=(0,0)) (heap_alloc_new wr _)) (by simp[Value.oneCell']) (by omega) (by unfold maxLen;omega) (by omega) (by simp;omega) (wr.heap.size+1) (by simp) ?_;intro gg cap w2 hown2 hgr hat hltg)
   go_roundw
   case rel=>
    refine⟨k+1,some ⟨gg,0,none⟩,cap,by omega,congrArg (Value.int .i64) (by omega),rfl,?_,?_⟩
    ·have h1:Below W.heap.size W (wr.alloc (.cells #[.int .i64 y] 3)):=hbd.alloc (by omega) _
     exact h1.grown hgr (by simp;omega) (fun j e=>(hod.lt j e).1)
    ·show World.ownsRow _ _ _ _ _ _ _
     rw[←hst.out]
     exact hown2
   case measure=>simp[intOf];omega
  ·have hkl:k=l.length:=by omega
   have ho':=ho.out
   rw[hkl,List.take_of_length_le (Nat.le_refl _)] at ho'
   have hb':=hb.out
   clear hb ho
   subst hkl
   go_wp2
   go_ret
   exact⟨⟨ao,c,rfl,ho'⟩,hb'⟩
end Go.Proofs.YtbfbkmkjcekpaaaGreatDoor
namespace Go.Proofs.YtbfbkmkjcekpaaaGreatDoor
set_option maxRecDepth 100000
open Go.RowKit
theorem make_room (n:Nat) (hn:n<=6000) (w:World) :
  (Instr.makeSlice 23 (.int .i64 0) (.int .i64 ((n:Int)+2))).run Tryz.prog w=.ok (.slice (some ⟨w.heap.size,0,none⟩) 0 (n+2)) (w.alloc (.cells (madeCells #[.int .i64 0] (n+2)) 3)):=by
 obtain⟨i0,hi,hz0,hz1,hz2⟩:=info_parts infoI
 have:=run_make (P:=Tryz.prog) w 23 3 i0 (.int .i64 0) Tryz.underlying23 hi hz0 .i64 .i64 0 ((n:Int)+2) (by omega) (by omega) (by rw[hz2];omega) (by omega)
 rw[this,hz1]
 have e:((n:Int)+2).toNat=n+2:=by omega
 simp only[e,Nat.mul_one,Int.toNat_zero]
 rfl
theorem own_cap {w:World} {B:Nat} {e:TypeId} {s n cap:Nat} {a:Addr} {xs:List Value} (h:w.ownsRow B e s (.slice (some a) n cap) n xs):n<=cap:=by
 rcases h.2 with⟨h,_⟩ | ⟨_,_,_,hv,_,_,hle,_⟩
 ·cases h
 ·injection hv with _ _ h3
  omega
set_option maxHeartbeats 2000000 in
theorem hints_any {W:World} {v:Value} {l:List Int} (hv:Ri W v l) (hl:l.length<=5000) :
  Calls Tryz.prog 31 #[v] W fun e w'=>(∃g cap,e=.returned (.slice (some ⟨g,0,none⟩) l.length cap)/\w'.ownsRow W.heap.size 3 1 (.slice (some ⟨g,0,none⟩) (l.length+2) cap) (l.length+2) (l.map (Value.int .i64)++[.int .i64 (-77),.int .i64 (-78)]))/\Below W.heap.size W w':=by
 obtain⟨i0,hi,hz0,hz1,hz2⟩:=info_parts infoI
 obtain⟨ao,c,rfl,hc⟩:=hv
 have hmk:=make_room l.length (by omega)
 have hmo:=World.ownsRow_made (base:=W.heap.size) (e:=3) (size:=1) W (madeCells #[.int .i64 0] (l.length+2)) (l.length+2) (Nat.le_refl _) (by unfold maxLen;omega) (by simp[size_madeCells])
 have hbm:=below_alloc W (.cells (madeCells #[.int .i64 0] (l.length+2)) 3)
 generalize madeCells #[.int .i64 0] (l.length+2)=mc at hmk hmo hbm
 have hend:∀(w1 w2:World) (g g2 cap cap2:Nat),Below W.heap.size W w1->w1.ownsRow W.heap.size 3 1 (.slice (some ⟨g,0,none⟩) l.length cap) l.length (l.map (Value.int .i64))->(w1.alloc (.cells #[.int .i64 (-77),.int .i64 (-78)] 3)).grownBy w2 (some g)->w2.ownsRow W.heap.size 3 1 (.slice (some ⟨g2,0,none⟩) (l.length+2) cap2) (l.length+2) (l.map (Value.int .i64)++[.int .i64 (-77),.int .i64 (-78)])->
   (∃g cap,Ending.returned (.slice (some ⟨g2,0,none⟩) l.length cap2)=.returned (.slice (some ⟨g,0,none⟩) l.length cap)/\w2.ownsRow W.heap.size 3 1 (.slice (some ⟨g,0,none⟩) (l.length+2) cap) (l.length+2) (l.map (Value.int .i64)++[.int .i64 (-77),.int .i64 (-78)]))/\Below W.heap.size W w2:=fun w1 w2 g g2 cap cap2 hb h1 hg h2=>
  ⟨⟨g2,cap2,rfl,h2⟩,(hb.alloc hb.size _).grown hg (by simp;have:=hb.size;omega) (fun k e=>by
   injection e with e
   subst e
   exact (h1.lt _ rfl).1)⟩
 by_cases h0:0<l.length
 ·obtain⟨b,o,rfl,_⟩:=hc 0 h0
  have hnews:∀j u,(l.map (Value.int .i64))[j]?=some u->(W.alloc (.cells mc 3)).cell? ((⟨b,o,none⟩:Addr).add j)=some u:=fun j u hu=>by
   have hj:j<l.length:=by
    rcases Nat.lt_or_ge j l.length with h | h
    ·exact h
    ·rw[List.getElem?_eq_none (by simpa using h)] at hu
     cases hu
   obtain⟨b',o',e',h⟩:=hc j hj
   injection e' with e'
   injection e' with e1 e2 _
   subst e1 e2
   have hu':u=.int .i64 (l.getD j 0):=by
    simp[hj] at hu
    rw[←hu]
    simp[List.getD,hj]
   rw[Addr.add_lit,hu']
   exact cell1 h _
  go_enter Tryz.func31,Tryz.ntmps31
  go_wp2_with (first
   | (at_builtin;refine wpList_append_lies _ rfl _ _ _ rfl W.heap.size 3 i0 (.int .i64 0) 1 8 Tryz.underlying23 hi hz0 hz1 hz2 rfl (by decide) _ 0 [] rfl hmo ⟨b,o,none⟩ l.length c (l.map (Value.int .i64)) rfl (by simp) hnews (by simp[Value.oneCell']) h0 (by unfold maxLen;omega) (by omega) (by simp) (W.heap.size+1) (by simp) ?_;clear hmo hnews;intro g1 cap1 w1 hown1 hgr1 hat1 hlt1;simp only[Nat.zero_add,List.nil_append] at hown1 ⊢;have hb1:Below W.heap.size W w1:=hbm.grown hgr1 (by simp) (fun k e=>by injection e with e;subst e;exact Nat.le_refl _);have hoz:=World.ownsRow.alloc hown1 (.cells #[.int .i64 (-77),.int .i64 (-78)] 3);have hz1w:=hb1.size)
   | (at_builtin;refine wpList_append_lies _ rfl _ _ _ rfl W.heap.size 3 i0 (.int .i64 0) 1 8 Tryz.underlying23 hi hz0 hz1 hz2 rfl (by decide) _ l.length (l.map (Value.int .i64)) rfl hoz ⟨w1.heap.size,0,none⟩ 2 2 [.int .i64 (-77),.int .i64 (-78)] rfl rfl (World.news_of_block (cs:=#[.int .i64 (-77),.int .i64 (-78)]) (t:=3) (fr:=(0,0)) (heap_alloc_new w1 _)) (by simp[Value.oneCell']) (by omega) (by unfold maxLen;omega) (by omega) (by simp;omega) (w1.heap.size+1) (by simp) ?_;intro g2 cap2 w2 hown2 hgr2 hat2 hlt2;have hcap:=own_cap hown2))
  go_ret
  exact hend w1 w2 g1 g2 cap1 cap2 hb1 hown1 hgr2 hown2
 ·have hnil:l=[]:=List.length_eq_zero_iff.1 (by omega)
  subst hnil
  have hoz:=World.ownsRow.alloc hmo (.cells #[.int .i64 (-77),.int .i64 (-78)] 3)
  simp only[List.length_nil,Nat.zero_add,List.map_nil,List.nil_append] at hmk hoz hend hmo ⊢
  have hmk2:∀w:World,(Instr.makeSlice 23 (.int .i64 0) (.int .i64 2)).run Tryz.prog w=.ok (.slice (some ⟨w.heap.size,0,none⟩) 0 2) (w.alloc (.cells mc 3)):=hmk
  clear hmk hc
  cases ao with
  | none=>
   go_enter Tryz.func31,Tryz.ntmps31
   go_wp2_with (first
    | (at_builtin;refine wpList_append_lies _ rfl _ _ _ rfl W.heap.size 3 i0 (.int .i64 0) 1 8 Tryz.underlying23 hi hz0 hz1 hz2 rfl (by decide) _ 0 [] rfl hoz ⟨W.heap.size+1,0,none⟩ 2 2 [.int .i64 (-77),.int .i64 (-78)] rfl rfl (World.news_of_block (cs:=#[.int .i64 (-77),.int .i64 (-78)]) (t:=3) (fr:=(0,0)) (by simpa using heap_alloc_new (W.alloc (.cells mc 3)) (.cells #[.int .i64 (-77),.int .i64 (-78)] 3))) (by simp[Value.oneCell']) (by omega) (by unfold maxLen;omega) (by omega) (by simp;omega) (W.heap.size+1+1) (by simp) ?_;intro g2 cap2 w2 hown2 hgr2 hat2 hlt2;have hcap:=own_cap hown2))
   go_ret
   exact hend _ w2 W.heap.size g2 2 cap2 hbm hmo hgr2 hown2
  | some a=>
   obtain⟨b,o,q⟩:=a
   go_enter Tryz.func31,Tryz.ntmps31
   go_wp2_with (first
    | (at_builtin;refine wpList_append_lies _ rfl _ _ _ rfl W.heap.size 3 i0 (.int .i64 0) 1 8 Tryz.underlying23 hi hz0 hz1 hz2 rfl (by decide) _ 0 [] rfl hoz ⟨W.heap.size+1,0,none⟩ 2 2 [.int .i64 (-77),.int .i64 (-78)] rfl rfl (World.news_of_block (cs:=#[.int .i64 (-77),.int .i64 (-78)]) (t:=3) (fr:=(0,0)) (by simpa using heap_alloc_new (W.alloc (.cells mc 3)) (.cells #[.int .i64 (-77),.int .i64 (-78)] 3))) (by simp[Value.oneCell']) (by omega) (by unfold maxLen;omega) (by omega) (by simp;omega) (W.heap.size+1+1) (by simp) ?_;intro g2 cap2 w2 hown2 hgr2 hat2 hlt2;have hcap:=own_cap hown2))
   go_ret
   exact hend _ w2 W.heap.size g2 2 cap2 hbm hmo hgr2 hown2
end Go.Proofs.YtbfbkmkjcekpaaaGreatDoor
namespace Go.Proofs.YtbfbkmkjcekpaaaGreatDoor
set_option maxRecDepth 100000
open Go.RowKit
theorem make_nodes (n:Nat) (hn:n<=6000) :
  ∃mc:Array Value,mc.size=(n+1)*4/\∀w:World,(Instr.makeSlice 22 (.int .i64 0) (.int .i64 ((n:Int)+1))).run Tryz.prog w=.ok (.slice (some ⟨w.heap.size,0,none⟩) 0 (n+1)) (w.alloc (.cells mc 74)):=by
 obtain⟨i0,hi,hz0,hz1,hz2⟩:=info_parts infoN
 refine⟨madeCells #[.int .i64 0,.string ⟨#[]⟩,.int .i64 0,.slice none 0 0] ((n+1)*4),by simp[size_madeCells],fun w=>?_⟩
 have:=run_make (P:=Tryz.prog) w 22 74 i0 (.agg #[.int .i64 0,.string ⟨#[]⟩,.int .i64 0,.slice none 0 0]) Tryz.underlying22 hi hz0 .i64 .i64 0 ((n:Int)+1) (by omega) (by omega) (by rw[hz2];omega) (by omega)
 rw[this,hz1]
 have e:((n:Int)+1).toNat=n+1:=by omega
 simp only[e,Int.toNat_zero]
 rfl
theorem jtake_snoc' {l:List Nd} {k:Nat} (h:k<l.length):l.take (k+1)=l.take k++[l.getD k nd0]:=by
 rw[List.take_succ_eq_append_getElem h]
 simp[List.getD,h]
abbrev marks:List Value:=[.int .i64 (-77),.int .i64 (-78)]
def Hr (w:World) (B:Nat) (v:Value) (l:List Int):Prop:=
 ∃q c,v=.slice (some ⟨q,0,none⟩) l.length c/\w.ownsRow B 3 1 (.slice (some ⟨q,0,none⟩) (l.length+2) c) (l.length+2) (l.map (Value.int .i64)++marks)
theorem Hr.keep {w w':World} {B:Nat} {v:Value} {l:List Int} (h:Hr w B v l) (hk:∀k,v.ownBlock=some k->w'.heap[k]?=w.heap[k]?):Hr w' B v l:=by
 obtain⟨q,c,rfl,ho⟩:=h
 exact⟨q,c,rfl,own_block ho (fun k e=>hk k e)⟩
theorem Hr.lt {w:World} {B:Nat} {v:Value} {l:List Int} (h:Hr w B v l):∀k,v.ownBlock=some k->B<=k/\k<w.heap.size:=by
 obtain⟨q,c,rfl,ho⟩:=h
 exact fun k e=>ho.lt k e
theorem Hr.below {w w':World} {B:Nat} {v:Value} {l:List Int} (h:Hr w B v l) (hb:Below w.heap.size w w'):Hr w' B v l:=h.keep (fun k e=>hb.block k (h.lt k e).2)
theorem Hr.base {w:World} {B B':Nat} {v:Value} {l:List Int} (h:Hr w B v l) (hB:B'<=B):Hr w B' v l:=by
 obtain⟨q,c,rfl,ho⟩:=h
 exact⟨q,c,rfl,own_base ho hB⟩
theorem Hr.obj {w:World} {B:Nat} {v:Value} {l:List Int} (h:Hr w B v l):∃q c cur,v=.slice (some ⟨q,0,none⟩) l.length c/\w.heap[q]?=some (.cells cur 3 (0,0))/\l.length+2<=c/\cur.size=c/\cur.toList.take (l.length+2)=l.map (Value.int .i64)++marks:=by
 obtain⟨q,c,rfl,ho⟩:=h
 rcases ho.2 with⟨h,_⟩ | ⟨g,cap,cur,hv,_,hg,hle,_,hs,ht⟩
 ·cases h
 ·injection hv with h1 _ h3
  injection h1 with h1
  injection h1 with h1 _ _
  subst h1 h3
  exact⟨q,c,cur,rfl,hg,hle,by simpa using hs,by simpa using ht⟩
theorem Hr.ri {w:World} {B:Nat} {v:Value} {l:List Int} (h:Hr w B v l):Ri w v l:=by
 obtain⟨q,c,cur,rfl,hg,hle,hs,ht⟩:=h.obj
 refine⟨_,_,rfl,fun j hj=>⟨q,0,rfl,?_⟩⟩
 rw[Nat.zero_add,cell_of_row w q j _ _ _ hg]
 have h1:(cur.toList.take (l.length+2))[j]?=(l.map (Value.int .i64)++marks)[j]?:=by rw[ht]
 rw[List.getElem?_take_of_lt (by omega),List.getElem?_append_left (by simpa using hj)] at h1
 have h2:cur[j]?=cur.toList[j]?:=by simp
 rw[h2,h1]
 simp[List.getD,hj]
structure Hn (w:World) (B gb cap:Nat) (avs:List Value) (ns:List Nd):Prop where
 n:w.ownsRow B 74 4 (.slice (some ⟨gb,0,none⟩) ns.length cap) ns.length (ncells ns avs)
 len:avs.length=ns.length
 a:∀j,j<ns.length->Hr w B (avs.getD j undef) (ns.getD j nd0).args
theorem own_obj {w:World} {B:Nat} {e:TypeId} {s n cap g:Nat} {xs:List Value} (h:w.ownsRow B e s (.slice (some ⟨g,0,none⟩) n cap) n xs):∃cur,w.heap[g]?=some (.cells cur e (0,0))/\n<=cap/\cur.size=cap*s/\cur.toList.take (n*s)=xs:=by
 rcases h.2 with⟨h,_⟩ | ⟨g',cap',cur,hv,_,hg,hle,_,hs,ht⟩
 ·cases h
 ·injection hv with h1 _ h3
  injection h1 with h1
  injection h1 with h1 _ _
  subst h1 h3
  exact⟨cur,hg,hle,hs,ht⟩
theorem Hr.ne {w:World} {B B' n cap gb:Nat} {v:Value} {l:List Int} {xs:List Value} (h:Hr w B v l) (hn:w.ownsRow B' 74 4 (.slice (some ⟨gb,0,none⟩) n cap) n xs):∀k,v.ownBlock=some k->k≠gb:=by
 obtain⟨q,c,cur,rfl,hg,_⟩:=h.obj
 obtain⟨cur',hg',_⟩:=own_obj hn
 intro k e e'
 have e1:q=k:=by simpa[Value.ownBlock] using e
 subst e1 e'
 rw[hg] at hg'
 simp at hg'
theorem Hn.push {w w1 w2:World} {B gb cap g' cap':Nat} {avs:List Value} {ns:List Nd} {n:Nd} {v:Value} (h:Hn w B gb cap avs ns) (hb:Below w.heap.size w w1) (hB:B<=w.heap.size) (ha:Hr w1 w.heap.size v n.args) (hg:w1.grownBy w2 (some gb))
  (hown:w2.ownsRow B 74 4 (.slice (some ⟨g',0,none⟩) (ns.length+1) cap') (ns.length+1) (ncells ns avs++[.int .i64 n.kind,.string n.name,.int .i64 n.num,v])):Hn w2 B g' cap' (avs++[v]) (ns++[n]):=by
 have hgl:=(h.n.lt gb rfl).2
 refine⟨?_,by simp[h.len],fun j hj=>?_⟩
 ·rw[List.length_append,List.length_singleton,ncells_snoc ns avs n _ h.len]
  exact hown
 ·by_cases e:j<ns.length
  ·have ej:j<avs.length:=by rw[h.len];exact e
   have en:(ns++[n]).getD j nd0=ns.getD j nd0:=by simp[List.getD,List.getElem?_append_left e]
   have ev:(avs++[v]).getD j undef=avs.getD j undef:=by simp[List.getD,List.getElem?_append_left ej]
   rw[en,ev]
   have h1:=h.a j e
   refine (h1.below hb).keep (fun k ek=>hg.block k ?_ (fun e'=>?_))
   ·have:=(h1.lt k ek).2
    have:=hb.size
    omega
   ·injection e' with e'
    exact h1.ne h.n k ek e'
  ·have e':j=ns.length:=by simp at hj;omega
   subst e'
   have en:(ns++[n]).getD ns.length nd0=n:=by simp[List.getD]
   have ev:(avs++[v]).getD ns.length undef=v:=by rw[←h.len];simp[List.getD]
   rw[en,ev]
   refine (ha.base hB).keep (fun k ek=>hg.block k (ha.lt k ek).2 (fun e'=>?_))
   injection e' with e'
   have:=(ha.lt k ek).1
   omega
abbrev mark4:List Value:=[.int .i64 (-77),.string ⟨#[]⟩,.int .i64 0,.slice none 0 0]
structure Hg (w:World) (B gb cap:Nat) (rv:Value) (avs:List Value) (g:Gf):Prop where
 n:w.ownsRow B 74 4 (.slice (some ⟨gb,0,none⟩) (g.nodes.length+1) cap) (g.nodes.length+1) (ncells g.nodes avs++mark4)
 len:avs.length=g.nodes.length
 a:∀j,j<g.nodes.length->Hr w B (avs.getD j undef) (g.nodes.getD j nd0).args
 r:Hr w B rv g.roots
theorem ret_g0 {w:World} {fn:Func} {t:Tmp} (hfn:fn.results=#[.cell t 25]) {tmps:Array Value} {q:Nat} {u0 u1:Value} (h4:tmps[t]?.getD undef=.pointer (some ⟨q,0,none⟩)) (hq:w.heap[q]?=some (.cells #[u0,u1] 25)):(results fn tmps).run Tryz.prog w=.ok (.agg #[u0,u1]) w:=by
 obtain⟨⟨z0,z1⟩,_⟩:=blk2 hq
 simp[results,hfn,go_sem,h4,z0,z1]
set_option maxHeartbeats 4000000 in
theorem hgraph_any {W:World} {nv rv:Value} {g:Gf} (hG:Gr W nv rv g) (hn:g.nodes.length<=300) (hr:g.roots.length<=300) (ha:∀n∈g.nodes,n.args.length<=40) :
  Calls Tryz.prog 9 #[.agg #[nv,rv]] W fun e w'=>(∃gb cap rv' avs,e=.returned (.agg #[.slice (some ⟨gb,0,none⟩) g.nodes.length cap,rv'])/\Hg w' W.heap.size gb cap rv' avs g)/\Below W.heap.size W w':=by
 obtain⟨i1,hi1,hy0,hy1,hy2⟩:=info_parts infoN
 obtain⟨mc,hms,hmk⟩:=make_nodes g.nodes.length (by omega)
 obtain⟨na,nc,rfl,hNc⟩:=hG.1
 obtain⟨ra,rc,rfl,_⟩:=hG.2
 have hb2:Below W.heap.size W ((W.alloc (.cells #[.slice na g.nodes.length nc,.slice ra g.roots.length rc] 25)).alloc (.cells #[.slice none 0 0,.slice none 0 0] 25)):=(below_alloc W _).alloc (by simp) _
 have b0:((W.alloc (.cells #[.slice na g.nodes.length nc,.slice ra g.roots.length rc] 25)).alloc (.cells #[.slice none 0 0,.slice none 0 0] 25)).heap[W.heap.size]?=some (.cells #[.slice na g.nodes.length nc,.slice ra g.roots.length rc] 25):=by
  rw[Below.heap_alloc _ _ _ (by simp)]
  exact heap_alloc_new W _
 have b1:((W.alloc (.cells #[.slice na g.nodes.length nc,.slice ra g.roots.length rc] 25)).alloc (.cells #[.slice none 0 0,.slice none 0 0] 25)).heap[W.heap.size+1]?=some (.cells #[.slice none 0 0,.slice none 0 0] 25):=by
  simpa using heap_alloc_new (W.alloc (.cells #[.slice na g.nodes.length nc,.slice ra g.roots.length rc] 25)) (.cells #[.slice none 0 0,.slice none 0 0] 25)
 have hs2:((W.alloc (.cells #[.slice na g.nodes.length nc,.slice ra g.roots.length rc] 25)).alloc (.cells #[.slice none 0 0,.slice none 0 0] 25)).heap.size=W.heap.size+2:=by simp
 have hmo:=World.ownsRow_made (base:=W.heap.size+2) (e:=74) (size:=4) ((W.alloc (.cells #[.slice na g.nodes.length nc,.slice ra g.roots.length rc] 25)).alloc (.cells #[.slice none 0 0,.slice none 0 0] 25)) mc (g.nodes.length+1) (by omega) (by unfold maxLen;omega) hms
 have hb3:=below_alloc ((W.alloc (.cells #[.slice na g.nodes.length nc,.slice ra g.roots.length rc] 25)).alloc (.cells #[.slice none 0 0,.slice none 0 0] 25)) (.cells mc 74)
 go_enter Tryz.func9,Tryz.ntmps9
 go_wp2
 generalize ((W.alloc (.cells #[.slice na g.nodes.length nc,.slice ra g.roots.length rc] 25)).alloc (.cells #[.slice none 0 0,.slice none 0 0] 25))=w2 at hb2 b0 b1 hs2 hmo hb3 ⊢
 rw[hs2] at hmo hb3
 have hT0:Hid (Hn (w2.alloc (.cells mc 74)) (W.heap.size+2) (W.heap.size+2) (g.nodes.length+1) [] []):=⟨hmo,rfl,fun _ h=>absurd h (Nat.not_lt_zero _)⟩
 have hb3':=hid hb3
 clear hmo hb3 hmk hms
 go_loopw [3,14] (fun x i wr=>∃(k gb cap:Nat) (avs:List Value),k<=g.nodes.length/\i=.int .i64 k/\x=.slice (some ⟨gb,0,none⟩) k cap/\Hid (Hn wr (W.heap.size+2) gb cap avs (g.nodes.take k))/\Hid (Below (W.heap.size+2) w2 wr)) (fun _ i _=>g.nodes.length-(intOf i).toNat)
 case atStart=>exact⟨0,W.heap.size+2,g.nodes.length+1,[],Nat.zero_le _,rfl,rfl,hT0,hb3'⟩
 case round=>
  obtain⟨k,gb,cap,avs,hk,rfl,rfl,hT,hb⟩:=hrel
  clear hT0 hb3'
  have hbW:Below W.heap.size W wr:=hb2.trans (hb.out.mono (by omega))
  have hzw:=hb.out.size
  have hL:(g.nodes.take k).length=k:=by simp;omega
  have hbb:∀w:World,Below wr.heap.size wr w->Below (W.heap.size+2) w2 w:=fun w h=>hb.out.trans (h.mono (by omega))
  by_cases hlt:k<g.nodes.length
  ·obtain⟨nb,no,av,rfl,hnd⟩:=hNc k hlt
   obtain⟨n0,n1,n2,n3,hA⟩:=hnd.below hbW
   have hal:=ha (g.nodes.getD k nd0) (by simp[List.getD,hlt])
   have hts:=jtake_snoc' hlt
   have honn:=hT.out.n
   rw[hL] at honn
   have hpush:=hid (fun (w1 w2:World) (g' cap':Nat) (v:Value)=>Hn.push (w1:=w1) (w2:=w2) (g':=g') (cap':=cap') (v:=v) (n:=g.nodes.getD k nd0) hT.out)
   rw[hL] at hpush
   have hcp:∀w:World,Below wr.heap.size wr w->_:=fun w hb=>hints_any (W:=w) (hA.below hb) (by omega)
   have hgl:=(honn.lt gb rfl).2
   generalize g.nodes.getD k nd0=x at n0 n1 n2 n3 hcp hA hal hts hpush
   obtain⟨kind,name,num,args⟩:=x
   dsimp only at n0 n1 n2 n3 hcp hA hal hpush
   obtain⟨aa0,ac0,rfl,_⟩:=hA
   generalize ncells (g.nodes.take k) avs=NS at honn hpush
   have hbd:Below wr.heap.size wr (wr.alloc (.cells #[.int .i64 kind,.string name,.int .i64 num,.slice aa0 args.length ac0] 74)):=below_alloc wr _
   have hnw:=heap_alloc_new wr (.cells #[.int .i64 kind,.string name,.int .i64 num,.slice aa0 args.length ac0] 74)
   have hcall:=hcp _ hbd
   have hfacts:=hid (fun (w4:World) (q ac:Nat) (hb4:Below (wr.heap.size+1) (wr.alloc (.cells #[.int .i64 kind,.string name,.int .i64 num,.slice aa0 args.length ac0] 74)) w4) (hao:w4.ownsRow (wr.heap.size+1) 3 1 (.slice (some ⟨q,0,none⟩) (args.length+2) ac) (args.length+2) (args.map (Value.int .i64)++marks))=>(show (w4.heap[wr.heap.size]?=some (.cells #[.int .i64 kind,.string name,.int .i64 num,.slice aa0 args.length ac0] 74))/\Below wr.heap.size wr (w4.setCell ⟨wr.heap.size,3,none⟩ (.slice (some ⟨q,0,none⟩) args.length ac))/\Hr (w4.setCell ⟨wr.heap.size,3,none⟩ (.slice (some ⟨q,0,none⟩) args.length ac)) wr.heap.size (.slice (some ⟨q,0,none⟩) args.length ac) args from
    ⟨by rw[hb4.block _ (by omega)];exact hnw,(hbd.trans (hb4.mono (by omega))).setCell (Nat.le_refl _) _,q,ac,rfl,own_base (own_block hao (fun k e=>Below.heap_setCell _ _ _ _ (by have:=(hao.lt k e).1;show k≠wr.heap.size;omega))) (by omega)⟩))
   have hsz:(wr.alloc (.cells #[.int .i64 kind,.string name,.int .i64 num,.slice aa0 args.length ac0] 74)).heap.size=wr.heap.size+1:=by simp
   rw[hsz] at hcall
   clear hcp hT hnd hNc hG ha hL
   go_wp2_with (first
    | (go_at_call 31;refine hcall.mono ?_;rintro e w4 ⟨⟨q,ac,rfl,hao⟩,hb4⟩;obtain⟨f0,hb4s,haos⟩:=hfacts.out w4 q ac hb4 hao;obtain⟨⟨f1,f2,f3,f4⟩,f5,f6,f7,f8⟩:=blk4 f0;have hon4:=World.ownsRow.alloc (own_below honn hb4s) (.cells #[.int .i64 kind,.string name,.int .i64 num,.slice (some ⟨q,0,none⟩) args.length ac] 74);have hsz4:(w4.setCell ⟨wr.heap.size,3,none⟩ (.slice (some ⟨q,0,none⟩) args.length ac)).heap.size=w4.heap.size:=(by simp);have hz5:=hb4s.size;rw[hsz4] at hz5;have hnews:=heap_alloc_new (w4.setCell ⟨wr.heap.size,3,none⟩ (.slice (some ⟨q,0,none⟩) args.length ac)) (.cells #[.int .i64 kind,.string name,.int .i64 num,.slice (some ⟨q,0,none⟩) args.length ac] 74);rw[hsz4] at hnews;clear hao hb4 hfacts hcall)
    | (at_builtin;refine wpList_append_lies _ rfl _ _ _ rfl (W.heap.size+2) 74 i1 (.agg #[.int .i64 0,.string ⟨#[]⟩,.int .i64 0,.slice none 0 0]) 4 56 Tryz.underlying22 hi1 hy0 hy1 hy2 rfl (by omega) _ k NS rfl hon4 ⟨w4.heap.size,0,none⟩ 1 1 [.int .i64 kind,.string name,.int .i64 num,.slice (some ⟨q,0,none⟩) args.length ac] rfl rfl (World.news_of_block (cs:=#[.int .i64 kind,.string name,.int .i64 num,.slice (some ⟨q,0,none⟩) args.length ac]) (t:=74) (fr:=(0,0)) hnews) (by simp[Value.oneCell']) (by omega) (by unfold maxLen;omega) (by omega) (by simp;omega) (w4.heap.size+1) (by simp) ?_;intro gg cap' w5 hown5 hgr5 hat hlt5))
   go_roundw
   case rel=>
    refine⟨k+1,gg,cap',avs++[.slice (some ⟨q,0,none⟩) args.length ac],by omega,congrArg (Value.int .i64) (by omega),rfl,?_,?_⟩
    ·show Hn _ _ _ _ _ _
     rw[hts]
     exact hpush.out _ w5 gg cap' _ (hb4s.trans ((below_alloc _ _).mono (by rw[hsz4];omega))) (by omega) (haos.below (below_alloc _ _)) hgr5 hown5
    ·have h1:=hbb _ hb4s
     exact (h1.alloc (by rw[hsz4];omega) _).grown hgr5 (by simp;omega) (fun j e=>by
      injection e with e
      subst e
      exact (honn.lt _ rfl).1)
   case measure=>simp[intOf];omega
  ·have hkl:k=g.nodes.length:=by omega
   subst hkl
   have hT':=hT.out
   rw[List.take_of_length_le (Nat.le_refl _)] at hT'
   have honn:=hT'.n
   have hlen:=hid hT'.len
   have hargs:=hid hT'.a
   have hgl:=(honn.lt gb rfl).2
   have hne:=hid (fun (j:Nat) (hj:j<g.nodes.length)=>(hT'.a j hj).ne honn)
   have hon4:=World.ownsRow.alloc honn (.cells #[.int .i64 (-77),.string ⟨#[]⟩,.int .i64 0,.slice none 0 0] 74)
   have hb4:=below_alloc wr (.cells #[.int .i64 (-77),.string ⟨#[]⟩,.int .i64 0,.slice none 0 0] 74)
   have hcp:=hid (fun (w:World) (hb:Below W.heap.size W w)=>hints_any (W:=w) (hG.2.below hb) (by omega))
   have hB5:=hid (fun (w5:World) (hg:(wr.alloc (.cells #[.int .i64 (-77),.string ⟨#[]⟩,.int .i64 0,.slice none 0 0] 74)).grownBy w5 (some gb))=>(show Below (W.heap.size+2) w2 w5 from ((hb.out.alloc (by omega) _).grown hg (by simp;omega) (fun j e=>by
    injection e with e
    subst e
    exact (honn.lt _ rfl).1))))
   have hA5:=hid (fun (w5:World) (hg:(wr.alloc (.cells #[.int .i64 (-77),.string ⟨#[]⟩,.int .i64 0,.slice none 0 0] 74)).grownBy w5 (some gb)) (j:Nat) (hj:j<g.nodes.length)=>(show Hr w5 (W.heap.size+2) (avs.getD j undef) (g.nodes.getD j nd0).args from ((hargs.out j hj).below hb4).keep (fun k ek=>hg.block k (by have:=((hargs.out j hj).lt k ek).2;simp;omega) (fun e'=>by
    injection e' with e'
    exact hne.out j hj k ek e'))))
   generalize hNS0:ncells g.nodes avs=NS at honn hon4
   have hNS:=hid hNS0
   clear hNS0
   have hz6:W.heap.size+2<=wr.heap.size:=by omega
   have c0:wr.cell? ⟨W.heap.size,0,none⟩=some (.slice na g.nodes.length nc):=by rw[hb.out.cell (p:=⟨W.heap.size,0,none⟩) (by show W.heap.size<W.heap.size+2;omega)];exact (blk2 b0).1.1
   clear hT hT' hNc hG ha hL hbb hbW hlt hargs hne
   go_wp2_with (first
    | (at_builtin;refine wpList_append_lies _ rfl _ _ _ rfl (W.heap.size+2) 74 i1 (.agg #[.int .i64 0,.string ⟨#[]⟩,.int .i64 0,.slice none 0 0]) 4 56 Tryz.underlying22 hi1 hy0 hy1 hy2 rfl (by omega) _ g.nodes.length NS rfl hon4 ⟨wr.heap.size,0,none⟩ 1 1 [.int .i64 (-77),.string ⟨#[]⟩,.int .i64 0,.slice none 0 0] rfl rfl (World.news_of_block (cs:=#[.int .i64 (-77),.string ⟨#[]⟩,.int .i64 0,.slice none 0 0]) (t:=74) (fr:=(0,0)) (heap_alloc_new wr _)) (by simp[Value.oneCell']) (by omega) (by unfold maxLen;omega) (by omega) (by simp;omega) (wr.heap.size+1) (by simp) ?_;intro gg cap' w5 hown5 hgr5 hat hlt5;have hb5:=hB5.out w5 hgr5;have hcap:=own_cap hown5;have hcap2:g.nodes.length<=cap':=(by omega);obtain⟨⟨d0,d1⟩,_⟩:=blk2 ((hb5.block W.heap.size (by omega)).trans b0)))
   have hA5':=hA5.out w5 hgr5
   have hbW5:Below W.heap.size W w5:=hb2.trans (hb5.mono (by omega))
   have hcall:=hcp.out w5.drew hbW5.drew
   have hz5:=hb5.size
   clear hA5 hB5 hcp hgr5 hon4 honn
   go_region_law (first
    | (go_simp;go_at_call 31;refine hcall.mono ?_;rintro e w6 ⟨⟨q,ac,rfl,hao⟩,hb6⟩;replace hao:=(show w6.ownsRow w5.heap.size _ _ _ _ _ from hao);replace hb6:=undr1 hb6;have j0:=(hb6.block W.heap.size (by omega)).trans ((hb5.block W.heap.size (by omega)).trans b0);have j1:=(hb6.block (W.heap.size+1) (by omega)).trans ((hb5.block (W.heap.size+1) (by omega)).trans b1);clear d0 d1;obtain⟨⟨d0,d1⟩,_⟩:=blk2 j0;obtain⟨⟨e0,e1⟩,e2,e3⟩:=blk2 j1))
   all_goals go_wp2
   all_goals
    have hk:∀k,W.heap.size+1<k->((w6.setCell ⟨W.heap.size+1,0,none⟩ (.slice (some ⟨gg,0,none⟩) g.nodes.length cap')).setCell ⟨W.heap.size+1,1,none⟩ (.slice (some ⟨q,0,none⟩) g.roots.length ac)).heap[k]?=w6.heap[k]?:=fun k hk=>by
     rw[Below.heap_setCell _ _ _ _ (by show k≠W.heap.size+1;omega),Below.heap_setCell _ _ _ _ (by show k≠W.heap.size+1;omega)]
    refine bodyPost_ret (ret_g0 Tryz.results9 (by rfl) (blk2_set j1)) rfl ⟨⟨gg,cap',_,avs,rfl,⟨?_,hlen.out,fun j hj=>?_,?_⟩⟩,?_⟩
    ·rw[hNS.out]
     exact own_base (B:=W.heap.size+2) (own_block (own_below hown5 hb6) (fun k e=>hk k (by have:=(hown5.lt k e).1;omega))) (by omega)
    ·exact (((hA5' j hj).below hb6).keep (fun k e=>hk k (by have:=((hA5' j hj).lt k e).1;omega))).base (by omega)
    ·exact⟨q,ac,rfl,own_base (own_block hao (fun k e=>hk k (by have:=(hao.lt k e).1;omega))) (by omega)⟩
    ·exact ((Below.next hbW5 hb6).setCell (by simp) _).setCell (by simp) _
end Go.Proofs.YtbfbkmkjcekpaaaGreatDoor
