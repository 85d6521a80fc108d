/- slices.Clone of a trail and of points. -/
import Derived.Shelf.Abstract
import Derived.OwnWalkIn
import Derived.TacticsInMore
import Derived.LoopNIn
import Derived.LoopIn
import Derived.Test.YtbfbkmkjcekpaaaGreatDoorow30Z
import Derived.Test.YtbfbkmkjcekpaaaGreatDoorow05Z
namespace Go.Proofs.YtbfbkmkjcekpaaaGreatDoor
set_option maxRecDepth 100000
open Go.RowKit
theorem run_app_none {P:Program} {w:World} (base:Nat) (t ty e:TypeId) (i:TypeInfo) (size:Nat) (ht:P.underlying t=some (.slice e)) (hi:P.info? e=some i)
  (v:Value) (n:Nat) (xs:List Value) (hown:w.ownsRow base e size v n xs) (ao:Option Addr) (c:Nat) :
  (Builtin.append_ #[t,t] ty #[v,.slice ao 0 c]).run P w=.ok v w:=by
 cases ao with
 | none=>
  rcases hown.2 with⟨rfl,rfl⟩ | ⟨g,cap,cur,rfl,_,_,hnc,_⟩
  ·simp[Builtin.append_,run_underlying ht,sizeOf,typeInfo,hi,Builtin.lenOf,Builtin.firstCells]
  ·simp[Builtin.append_,run_underlying ht,sizeOf,typeInfo,hi,Builtin.lenOf,Builtin.firstCells,hnc,storeCells]
 | some a=>
  rcases hown.2 with⟨rfl,rfl⟩ | ⟨g,cap,cur,rfl,_,_,hnc,_⟩
  ·simp[Builtin.append_,run_underlying ht,sizeOf,typeInfo,hi,Builtin.lenOf,Builtin.firstCells,loadCells,loadCellsFrom]
  ·simp[Builtin.append_,run_underlying ht,sizeOf,typeInfo,hi,Builtin.lenOf,Builtin.firstCells,hnc,storeCells,loadCells,loadCellsFrom]
theorem qslice_nil_in {P:Program} (w:World) (d:Nat) (t:TypeId) {e:TypeId} (h:P.underlying t=some (.slice e)) (ao:Option Addr) (n c:Nat):(Op.equalIn (d+1) t (.slice ao n c) (.slice none 0 0)).run P w=.ok ao.isNone w:=by
 cases ao <;> simp[Op.equalIn,run_underlying h]
theorem svC_one (tr:List Te):∀u∈svC tr,u.oneCell'=true:=fun u hu=>by
 obtain⟨e,_,he⟩:=List.mem_flatMap.1 hu
 rcases List.mem_cons.1 he with rfl | he
 ·rfl
 ·have:u=.int .u64 e.2:=by simpa using he
  rw[this]
  rfl
theorem mkC_one (pt:List Pe):∀u∈mkC pt,u.oneCell'=true:=fun u hu=>by
 obtain⟨e,_,he⟩:=List.mem_flatMap.1 hu
 rcases List.mem_cons.1 he with rfl | he
 ·rfl
 ·rcases List.mem_cons.1 he with rfl | he
  ·rfl
  ·have:u=.slice none 0 0:=by simpa using he
   rw[this]
   rfl
theorem svslice_nil (w:World) (ao:Option Addr) (n c:Nat):(binOp .eql 49 (.slice ao n c) (.slice none 0 0)).run Tryz.prog w=.ok (.bool ao.isNone) w:=by
 simp only[binOp]
 simp[show Op.equal 49 (.slice ao n c) (.slice none 0 0)=Op.equalIn (9999+1) 49 (.slice ao n c) (.slice none 0 0) from rfl,qslice_nil_in w 9999 49 Tryz.underlying49]
set_option maxHeartbeats 1000000 in
theorem svclone_any {w:World} {B n:Nat} {v:Value} {xs:List Value} (h:w.ownsRow B 59 2 v n xs) (h1:∀u∈xs,u.oneCell'=true) (hl:n<=100000) :
  Calls Tryz.prog 46 #[v] w fun e w'=>∃ao c,e=.returned (.slice ao n c)/\w'.ownsRow w.heap.size 59 2 (.slice ao n c) n xs/\Below w.heap.size w w':=by
 obtain⟨i0,hi,hz0,hz1,hz2⟩:=info_parts infoSv
 have h0:=h
 have hlen:=h.1
 rcases h.2 with⟨rfl,hn⟩ | ⟨g,cap,cur,rfl,_⟩
 ·subst hn
  have hx:xs=[]:=List.eq_nil_of_length_eq_zero (by omega)
  subst hx
  have hsn:=fun w:World=>svslice_nil w none 0 0
  clear h h0 h1 hlen
  go_enter Tryz.func46,Tryz.ntmps46
  go_wp2
  go_ret
  exact⟨_,_,rfl,World.ownsRow_nil _ _ _ _,Below.refl _ _⟩
 ·have hown:(w.alloc (.cells #[] 59)).ownsRow w.heap.size 59 2 (.slice (some ⟨w.heap.size,0,none⟩) 0 0) 0 []:=⟨rfl,Or.inr ⟨w.heap.size,0,#[],rfl,Nat.le_refl _,heap_alloc_new w _,Nat.le_refl _,Nat.zero_le _,rfl,rfl⟩⟩
  have hsn:=fun w:World=>svslice_nil w (some ⟨g,0,none⟩) n cap
  by_cases hn:n=0
  ·subst hn
   have hx:xs=[]:=List.eq_nil_of_length_eq_zero (by omega)
   subst hx
   have hr:=fun ty=>run_app_none (P:=Tryz.prog) w.heap.size 49 ty 59 i0 2 Tryz.underlying49 hi _ 0 [] hown (some ⟨g,0,none⟩) cap
   clear h h0 h1 hlen
   go_enter Tryz.func46,Tryz.ntmps46
   go_wp2_with (at_builtin;refine Lib.wpList_append_run _ rfl _ _ _ _ rfl _ _ rfl rfl _ _ (hr _) ?_)
   go_ret
   exact⟨_,_,rfl,hown,below_alloc w _⟩
  ·have hnews:∀j u,xs[j]?=some u->(w.alloc (.cells #[] 59)).cell? ((⟨g,0,none⟩:Addr).add j)=some u:=fun j u hj=>by
    exact ((h0.alloc (.cells #[] 59)).cells (g:=g) rfl) j u hj
   have hpos:0<n:=by omega
   clear h h0 hn
   go_enter Tryz.func46,Tryz.ntmps46
   go_wp2_with (at_builtin;refine wpList_append_lies _ rfl _ _ 49 rfl w.heap.size 59 i0 (.agg #[.int .i64 0,.int .u64 0]) 2 16 Tryz.underlying49 hi hz0 hz1 hz2 rfl (by decide) (.slice (some ⟨w.heap.size,0,none⟩) 0 0) 0 [] rfl hown ⟨g,0,none⟩ n cap xs rfl hlen hnews h1 hpos (by unfold maxLen;omega) (by omega) (by simp) _ rfl ?_;intro g' cap' w1 hown' hgrow _ _)
   go_ret
   refine⟨some ⟨g',0,none⟩,cap',by simp,by simpa using hown',?_⟩
   exact (below_alloc w _).grown hgrow (by simp) (fun k e=>by
    have e':k=w.heap.size:=by simpa[Value.ownBlock] using e.symm
    omega)
theorem mkslice_nil (w:World) (ao:Option Addr) (n c:Nat):(binOp .eql 50 (.slice ao n c) (.slice none 0 0)).run Tryz.prog w=.ok (.bool ao.isNone) w:=by
 simp only[binOp]
 simp[show Op.equal 50 (.slice ao n c) (.slice none 0 0)=Op.equalIn (9999+1) 50 (.slice ao n c) (.slice none 0 0) from rfl,qslice_nil_in w 9999 50 Tryz.underlying50]
set_option maxHeartbeats 1000000 in
theorem mkclone_any {w:World} {B n:Nat} {v:Value} {xs:List Value} (h:w.ownsRow B 61 3 v n xs) (h1:∀u∈xs,u.oneCell'=true) (hl:n<=100000) :
  Calls Tryz.prog 47 #[v] w fun e w'=>∃ao c,e=.returned (.slice ao n c)/\w'.ownsRow w.heap.size 61 3 (.slice ao n c) n xs/\Below w.heap.size w w':=by
 obtain⟨i0,hi,hz0,hz1,hz2⟩:=info_parts infoMk
 have h0:=h
 have hlen:=h.1
 rcases h.2 with⟨rfl,hn⟩ | ⟨g,cap,cur,rfl,_⟩
 ·subst hn
  have hx:xs=[]:=List.eq_nil_of_length_eq_zero (by omega)
  subst hx
  have hsn:=fun w:World=>mkslice_nil w none 0 0
  clear h h0 h1 hlen
  go_enter Tryz.func47,Tryz.ntmps47
  go_wp2
  go_ret
  exact⟨_,_,rfl,World.ownsRow_nil _ _ _ _,Below.refl _ _⟩
 ·have hown:(w.alloc (.cells #[] 61)).ownsRow w.heap.size 61 3 (.slice (some ⟨w.heap.size,0,none⟩) 0 0) 0 []:=⟨rfl,Or.inr ⟨w.heap.size,0,#[],rfl,Nat.le_refl _,heap_alloc_new w _,Nat.le_refl _,Nat.zero_le _,rfl,rfl⟩⟩
  have hsn:=fun w:World=>mkslice_nil w (some ⟨g,0,none⟩) n cap
  by_cases hn:n=0
  ·subst hn
   have hx:xs=[]:=List.eq_nil_of_length_eq_zero (by omega)
   subst hx
   have hr:=fun ty=>run_app_none (P:=Tryz.prog) w.heap.size 50 ty 61 i0 3 Tryz.underlying50 hi _ 0 [] hown (some ⟨g,0,none⟩) cap
   clear h h0 h1 hlen
   go_enter Tryz.func47,Tryz.ntmps47
   go_wp2_with (at_builtin;refine Lib.wpList_append_run _ rfl _ _ _ _ rfl _ _ rfl rfl _ _ (hr _) ?_)
   go_ret
   exact⟨_,_,rfl,hown,below_alloc w _⟩
  ·have hnews:∀j u,xs[j]?=some u->(w.alloc (.cells #[] 61)).cell? ((⟨g,0,none⟩:Addr).add j)=some u:=fun j u hj=>by
    exact ((h0.alloc (.cells #[] 61)).cells (g:=g) rfl) j u hj
   have hpos:0<n:=by omega
   clear h h0 hn
   go_enter Tryz.func47,Tryz.ntmps47
   go_wp2_with (at_builtin;refine wpList_append_lies _ rfl _ _ 50 rfl w.heap.size 61 i0 (.agg #[.int .i64 0,.int .i64 0,.slice none 0 0]) 3 40 Tryz.underlying50 hi hz0 hz1 hz2 rfl (by decide) (.slice (some ⟨w.heap.size,0,none⟩) 0 0) 0 [] rfl hown ⟨g,0,none⟩ n cap xs rfl hlen hnews h1 hpos (by unfold maxLen;omega) (by omega) (by simp) _ rfl ?_;intro g' cap' w1 hown' hgrow _ _)
   go_ret
   refine⟨some ⟨g',0,none⟩,cap',by simp,by simpa using hown',?_⟩
   exact (below_alloc w _).grown hgrow (by simp) (fun k e=>by
    have e':k=w.heap.size:=by simpa[Value.ownBlock] using e.symm
    omega)
end Go.Proofs.YtbfbkmkjcekpaaaGreatDoor
namespace Go.Proofs.YtbfbkmkjcekpaaaGreatDoor
set_option maxRecDepth 100000
open Go.RowKit Go.Shelf
attribute [local go_sem] Oper.semAt_some
theorem ret_voidS {w:World} {fn:Func} (hfn:fn.results=#[]) {tmps:Array Value}:(results fn tmps).run Tryz.prog w=.ok (.tuple #[]) w:=by
 simp[results,hfn,go_sem]
def encS (x:Nat×Te):Array Value:=#[.int .i64 (x.1:Int),.agg #[.int .i64 (x.2.1:Int),.int .u64 x.2.2]]
def nextS (es:List Te) (pre:List (Nat×Te)) (x:Nat×Te) (_:World):Prop:=pre.length<es.length/\x=(es.length-1-pre.length,es.getD (es.length-1-pre.length) (0,0))
structure ES (es:List Te) (g o c B Bs:Nat) (J:List (Nat×Te)->World->Prop) (r:Nat) (pre:List (Nat×Te)) (wr:World):Prop where
 len:pre.length+r=es.length
 j:J pre wr
 box:wr.heap[Bs]?=some (.cells #[.slice (some ⟨g,o,none⟩) es.length c] 49)
 row:∀j,j<es.length->wr.cell? ⟨g,o+j*2,none⟩=some (.int .i64 ((es.getD j (0,0)).1:Int))/\wr.cell? ⟨g,o+j*2+1,none⟩=some (.int .u64 (es.getD j (0,0)).2)
 size:B<=wr.heap.size
set_option maxHeartbeats 4000000 in
theorem backS_tells (es:List Te) (g o c N B Bs:Nat) (w:World) (hN:2<=N) (hn:es.length<=10000000) (hBs:w.heap[Bs]?=some (.cells #[.slice (some ⟨g,o,none⟩) es.length c] 49)) (hrow:∀j,j<es.length->w.cell? ⟨g,o+j*2,none⟩=some (.int .i64 ((es.getD j (0,0)).1:Int))/\w.cell? ⟨g,o+j*2+1,none⟩=some (.int .u64 (es.getD j (0,0)).2)) :
  TellsP N Tryz.prog 95 #[.pointer (some ⟨Bs,0,none⟩)] encS B (fun k=>k=Bs∨k=g) (nextS es) (fun xs=>xs.length=es.length) w:=by
 intro l J Jx W hW hBW hJ hJx hY h0
 have hbx:W.heap[Bs]?=some (.cells #[.slice (some ⟨g,o,none⟩) es.length c] 49):=(hW.block _ (lt_of_block hBs)).trans hBs
 have hrw:∀j,j<es.length->W.cell? ⟨g,o+j*2,none⟩=some (.int .i64 ((es.getD j (0,0)).1:Int))/\W.cell? ⟨g,o+j*2+1,none⟩=some (.int .u64 (es.getD j (0,0)).2):=fun j hj=>⟨(hW.cell (p:=⟨g,o+j*2,none⟩) (lt_of_cell (hrow j hj).1)).trans (hrow j hj).1,(hW.cell (p:=⟨g,o+j*2+1,none⟩) (lt_of_cell (hrow j hj).1)).trans (hrow j hj).2⟩
 have hcb:W.cell? ⟨Bs,0,none⟩=some (.slice (some ⟨g,o,none⟩) es.length c):=by simp[World.cell?,hbx]
 have h1n:1<=N:=by omega
 have hwr:IntKind.i64.wrap ((es.length:Int)-1)=(es.length:Int)-1:=by rw[IntKind.wrap_i64];omega
 refine callsIn_of_wp Tryz.func95 rfl trivial ?_ rfl
 simp only[Tryz.ntmps95,List.size_toArray,List.length_cons,List.length_nil,Nat.reduceAdd,Nat.reduceSub,Array.replicate_succ,Array.replicate_zero,List.push_toArray,List.append_toArray,List.nil_append,List.cons_append]
 gi_wp2
 gi_loopw [3] (fun i wr=>∃(r:Nat) (pre:List (Nat×Te)),i=.int .i64 ((r:Int)-1)/\ES es g o c B Bs J r pre wr) (fun i _=>(intOf i+1).toNat)
 case atStart=>exact⟨es.length,[],rfl,⟨by simp,h0,hbx,hrw,hBW⟩⟩
 case round=>
  obtain⟨r,pre,rfl,hi⟩:=hrel
  have hcr:wr.cell? ⟨Bs,0,none⟩=some (.slice (some ⟨g,o,none⟩) es.length c):=by simp[World.cell?,hi.box]
  cases r with
  | zero=>
   have hS:pre.length=es.length:=by have:=hi.len;omega
   have hJ:=hi.j
   gi_wp2
   refine bodyPost_end (ret_voidS Tryz.results95) rfl ?_
   exact⟨⟨_,rfl⟩,.inl ⟨_,hS,hJ⟩⟩
  | succ jj=>
   have hjn:jj<es.length:=by have:=hi.len;omega
   have hlen:=hi.len
   have e0:(((jj+1:Nat):Int)-1)=(jj:Int):=by omega
   rw[e0]
   obtain⟨c0,c1⟩:=hi.row jj hjn
   have hT:nextS es pre (jj,es.getD jj (0,0)) wr:=⟨by omega,by rw[show es.length-1-pre.length=jj by omega]⟩
   obtain⟨fn,tmps,assign,body,hy,hR⟩:=hY pre _ wr hi.j hT
   simp only[encS] at hy
   have hwr2:IntKind.i64.wrap ((jj:Int)-1)=(jj:Int)-1:=by rw[IntKind.wrap_i64];omega
   have hj2:(jj:Int)<(es.length:Int):=by omega
   have HI:=hid hi
   have HR:=hid hR
   clear hT hi hR
   obtain⟨x,hx⟩:∃x,x=es.getD jj (0,0):=⟨_,rfl⟩
   rw[←hx] at c0 c1 hy HR
   clear hx
   gi_wp2
   refine HR.out.mono ?_
   rintro e W3 (⟨rfl,hJ3,hk3⟩ | ⟨rfl,hJx3⟩)
   ·have hb3:W3.heap[Bs]?=some (.cells #[.slice (some ⟨g,o,none⟩) es.length c] 49):=(hk3.2 _ (Or.inl (Or.inl rfl)) (lt_of_block HI.out.box)).trans HI.out.box
    have hg3:W3.heap[g]?=wr.heap[g]?:=hk3.2 g (Or.inl (Or.inr rfl)) (lt_of_cell c0)
    have hr3:∀j,j<es.length->W3.cell? ⟨g,o+j*2,none⟩=some (.int .i64 ((es.getD j (0,0)).1:Int))/\W3.cell? ⟨g,o+j*2+1,none⟩=some (.int .u64 (es.getD j (0,0)).2):=fun j hj=>by
     rw[World.cell?_of_block (w:=wr) (a:=⟨g,o+j*2,none⟩) hg3,World.cell?_of_block (w:=wr) (a:=⟨g,o+j*2+1,none⟩) hg3]
     exact HI.out.row j hj
    have hI3:ES es g o c B Bs J jj (pre++[(jj,x)]) W3:=⟨by simp;omega,hJ3,hb3,hr3,Nat.le_trans HI.out.size hk3.1⟩
    gi_wp2
    exact⟨⟨jj,_,rfl,hI3⟩,by simp[intOf]⟩
   ·gi_wp2
    refine bodyPost_ret (results_none rfl _ _ _) rfl ?_
    exact⟨⟨_,rfl⟩,.inr ⟨_,hJx3⟩⟩
set_option maxHeartbeats 4000000 in
theorem backS_tells0 (ao:Option Addr) (c N B Bs:Nat) (w:World) (hBs:w.heap[Bs]?=some (.cells #[.slice ao 0 c] 49)) :
  TellsP N Tryz.prog 95 #[.pointer (some ⟨Bs,0,none⟩)] encS B (fun k=>k=Bs) (nextS []) (fun xs=>xs=[]) w:=by
 intro lp J Jx W hW hBW hJ hJx hY h0
 have hbx:W.heap[Bs]?=some (.cells #[.slice ao 0 c] 49):=(hW.block _ (lt_of_block hBs)).trans hBs
 have hcb:W.cell? ⟨Bs,0,none⟩=some (.slice ao 0 c):=by simp[World.cell?,hbx]
 refine callsIn_of_wp Tryz.func95 rfl trivial ?_ rfl
 simp only[Tryz.ntmps95,List.size_toArray,List.length_cons,List.length_nil,Nat.reduceAdd,Nat.reduceSub,Array.replicate_succ,Array.replicate_zero,List.push_toArray,List.append_toArray,List.nil_append,List.cons_append]
 gi_wp2
 gi_loopw [3] (fun i wr=>i=.int .i64 (-1)/\J [] wr) (fun _ _=>0)
 case atStart=>exact⟨rfl,h0⟩
 case round=>
  obtain⟨rfl,hJs⟩:=hrel
  gi_wp2
  refine bodyPost_end (ret_voidS Tryz.results95) rfl ?_
  exact⟨⟨_,rfl⟩,.inl ⟨_,rfl,hJs⟩⟩
set_option maxHeartbeats 1000000 in
theorem backS_any (ao:Option Addr) (n c:Nat) (w:World) :
  Calls Tryz.prog 65 #[.slice ao n c] w fun e w'=>e=.returned (.func (.func 95) #[] #[.pointer (some ⟨w.heap.size,0,none⟩)])/\w'=w.alloc (.cells #[.slice ao n c] 49):=by
 have hmf:∀(fn:Fn) (first cap:Array Value) (w:World),(Instr.makeFunc fn first cap).run Tryz.prog w=.ok (.func fn first cap) w:=fun _ _ _ _=>rfl
 go_enter Tryz.func65,Tryz.ntmps65
 go_wp2
 go_ret
 exact⟨rfl,rfl⟩
end Go.Proofs.YtbfbkmkjcekpaaaGreatDoor
