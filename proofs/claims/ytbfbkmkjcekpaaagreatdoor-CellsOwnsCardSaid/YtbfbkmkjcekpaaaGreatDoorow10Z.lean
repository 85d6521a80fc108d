/- What the laws of layer 4 share: arguments that are graphs, rows of graphs, rows of numbers, walks. -/
import Derived.Test.YtbfbkmkjcekpaaaGreatDoorRows
import Derived.ProofKit
import Derived.SizedLaws
import Derived.OpenShut
import Derived.ShutString
import Derived.Deep.Strs
import Derived.RangeFuncNested
import Derived.RangeFuncBound
import Derived.Maps.AppendAt
import Derived.Shelf.SlMaps.Clone
import Derived.Deep.RegionHeld3
import Derived.Deep.DrawnRows
import Derived.Test.YtbfbkmkjcekpaaaGreatDoorow07Z
import Derived.Test.YtbfbkmkjcekpaaaGreatDoorow05Z
import Derived.Test.YtbfbkmkjcekpaaaGreatDoorow06Z
import Derived.Test.YtbfbkmkjcekpaaaGreatDoorow00Z
import Derived.Test.YtbfbkmkjcekpaaaGreatDoorow04Z
namespace Go.Proofs.YtbfbkmkjcekpaaaGreatDoor
set_option maxRecDepth 100000
open Go.ChangeShapes Go.WideShapes Go.ChangeAt Go.RowKit Go.Deep
theorem own:ownKnob Tryz.prog.godebug=none:=by kernel_rfl
theorem laidOut:laidOutB Tryz.prog=true:=by kernel_rfl
theorem cellsI:Tryz.prog.cellsOf 3=1:=by kernel_rfl
theorem cellsS:Tryz.prog.cellsOf 9=1:=by kernel_rfl
theorem cellsIs:Tryz.prog.cellsOf 23=1:=by kernel_rfl
theorem cellsNs:Tryz.prog.cellsOf 22=1:=by kernel_rfl
theorem cellsN:Tryz.prog.cellsOf 74=4:=by kernel_rfl
theorem cellsG:Tryz.prog.cellsOf 25=2:=by kernel_rfl
theorem ints_of_cells {H:Type} {enc:TypeId×Value->H} {W:World} {fuel:Nat} {u:Value} {x:DataW H×List MemPlace} (h:DataW.trod enc Tryz.prog W 0 (fun _=>true) true fuel 23 [u]=some x) :
  ∃l:List Int,Ri W u l/\l.length<=9223372036854775807:=by
 rcases open_ints Tryz.underlying23 Tryz.underlying3 cellsI h with⟨hcs,hx⟩ | ⟨a,len,cap,zs,hcs,_,hl,hm,hz,hx,hcell,hwz⟩
 ·simp at hcs
  subst hcs
  exact⟨[],Ri.nil _,by simp⟩
 ·simp at hcs
  subst hcs
  simp only[if_true] at hz
  have hlen:(zs.take len).length=len:=by simp;omega
  refine⟨zs.take len,⟨some a,cap,by rw[hlen],fun j hj=>?_⟩,by rw[hlen];unfold maxLen at hm;omega⟩
  rw[hlen] at hj
  obtain⟨b,off,spot⟩:=a
  have hspot:spot=none:=by simpa[Addr.add] using World.cell?_spot (hcell 0 (by omega))
  subst hspot
  refine⟨b,off,rfl,?_⟩
  have:=hcell j (by omega)
  rw[add_plain] at this
  rw[this]
  simp[List.getD,hj]
theorem node_of_cells {H:Type} {enc:TypeId×Value->H} {W:World} {fuel:Nat} {cs:List Value} {x:DataW H×List MemPlace} (h:DataW.trod enc Tryz.prog W 0 (fun _=>true) true fuel 74 cs=some x) :
  ∃(n:Nd) (av:Value),cs=[.int .i64 n.kind,.string n.name,.int .i64 n.num,av]/\Ri W av n.args/\n.name.size<=9223372036854775807:=by
 obtain⟨xs,n,_,hx,hl,hlen,hf⟩:=DataW.trod_struct Tryz.underlying74 h
 rw[cellsN] at hl
 match cs,hl with
 | [c0,c1,c2,c3],_=>
  match xs,hlen with
  | [y0,y1,y2,y3],_=>
   have h0:=hf 0 _ rfl
   have h1:=hf 1 _ rfl
   have h2:=hf 2 _ rfl
   have h3:=hf 3 _ rfl
   simp[cellsI] at h0 h2
   simp[cellsS] at h1
   simp[cellsIs] at h3
   obtain⟨a0,e0,_,w0⟩:=DataW.trod_int Tryz.underlying3 h0
   obtain⟨a1,e1,_,w1⟩:=DataW.trod_string Tryz.underlying9 h1
   obtain⟨a2,e2,_,w2⟩:=DataW.trod_int Tryz.underlying3 h2
   obtain⟨l,hr,_⟩:=ints_of_cells h3
   simp at e0 e1 e2
   subst e0 e1 e2
   exact⟨⟨a0,a1,a2,l⟩,c3,rfl,hr,by unfold maxLen at w1;exact w1⟩
theorem nodes_of_cells {H:Type} {enc:TypeId×Value->H} {W:World} {fuel:Nat} {u:Value} {x:DataW H×List MemPlace} (h:DataW.trod enc Tryz.prog W 0 (fun _=>true) true fuel 22 [u]=some x) :
  ∃l:List Nd,Rn W u l/\(∀n∈l,n.name.size<=9223372036854775807)/\l.length<=9223372036854775807:=by
 rcases Go.Deep.open_slice Tryz.underlying22 h with⟨hcs,_⟩ | ⟨ad,len,cap,m,n,D,Pl,hcs,_,hl,hm,hmm,_,hel⟩
 ·simp at hcs
  subst hcs
  exact⟨[],Rn.nil _,by simp,by simp⟩
 ·simp at hcs
  subst hcs
  simp only[if_true] at hmm
  rw[cellsN] at hel
  have each:∀i,∃(n:Nd) (av:Value),i<len->(Ri W av n.args/\n.name.size<=9223372036854775807)/\W.cells? 0 (ad.add (i*4)) 4=some [.int .i64 n.kind,.string n.name,.int .i64 n.num,av]:=fun i=>by
   by_cases hi:i<len
   ·obtain⟨cs',hc,ht⟩:=hel i (by omega)
    obtain⟨n,av,rfl,h1,h2⟩:=node_of_cells ht
    exact⟨n,av,fun _=>⟨⟨h1,h2⟩,hc⟩⟩
   ·exact⟨nd0,.nilIface,fun h=>absurd h hi⟩
  obtain⟨ns,hns⟩:∃ns:Nat->Nd,∀i,∃av:Value,i<len->(Ri W av (ns i).args/\(ns i).name.size<=9223372036854775807)/\W.cells? 0 (ad.add (i*4)) 4=some [.int .i64 (ns i).kind,.string (ns i).name,.int .i64 (ns i).num,av]:=
   ⟨fun i=>Classical.choose (each i),fun i=>Classical.choose_spec (each i)⟩
  refine⟨(List.range len).map ns,⟨some ad,cap,by simp,fun j hj=>?_⟩,fun n hn=>?_,by simp;unfold maxLen at hm;omega⟩
  ·have hj':j<len:=by simpa using hj
   obtain⟨b,off,spot⟩:=ad
   obtain⟨av,hav⟩:=hns j
   obtain⟨⟨h1,h2⟩,h3⟩:=hav hj'
   have hcj:=(World.cells?_some h3).2.2
   have hspot:spot=none:=by
    obtain⟨av0,hav0⟩:=hns 0
    have:=(World.cells?_some (hav0 (by omega)).2).2.2 0 (by omega)
    simp at this
    simpa[Addr.add] using World.cell?_spot this
   subst hspot
   have e:∀i,((⟨b,off,none⟩:Addr).add (j*4)).add i=⟨b,off+j*4+i,none⟩:=fun i=>by rw[add_plain,add_plain]
   have hg:((List.range len).map ns).getD j nd0=ns j:=by simp[List.getD,hj']
   refine⟨b,off,av,rfl,?_⟩
   rw[hg]
   refine⟨?_,?_,?_,?_,h1⟩
   ·have:=hcj 0 (by omega);rw[e] at this;simpa using this
   ·have:=hcj 1 (by omega);rw[e] at this;simpa using this
   ·have:=hcj 2 (by omega);rw[e] at this;simpa using this
   ·have:=hcj 3 (by omega);rw[e] at this;simpa using this
  ·obtain⟨i,hi,rfl⟩:=List.mem_map.1 hn
   obtain⟨av,hav⟩:=hns i
   exact (hav (List.mem_range.1 hi)).1.2
theorem graph_of_cells {H:Type} {enc:TypeId×Value->H} {W:World} {fuel:Nat} {cs:List Value} {x:DataW H×List MemPlace} (h:DataW.trod enc Tryz.prog W 0 (fun _=>true) true fuel 25 cs=some x) :
  ∃(nv rv:Value) (g:Gf),cs=[nv,rv]/\Gr W nv rv g/\Sized g:=by
 obtain⟨xs,n,_,hx,hl,hlen,hf⟩:=DataW.trod_struct Tryz.underlying25 h
 rw[cellsG] at hl
 match cs,hl with
 | [c0,c1],_=>
  match xs,hlen with
  | [y0,y1],_=>
   have h0:=hf 0 _ rfl
   have h1:=hf 1 _ rfl
   simp[cellsNs] at h0
   simp[cellsIs] at h1
   obtain⟨ns,hr,hs,_⟩:=nodes_of_cells h0
   obtain⟨l,hr',_⟩:=ints_of_cells h1
   exact⟨c0,c1,⟨ns,l⟩,rfl,⟨hr,hr'⟩,hs⟩
theorem graph_of {H:Type} {enc:TypeId×Value->H} {W:World} {base:Nat} {u:Value} {d:DataW H} {p:List MemPlace} (hv:Value.okWide Tryz.prog W .any base 25 u) (h:DataW.Trod enc Tryz.prog W 0 (fun _=>true) true 25 u d p) :
  ∃(nv rv:Value) (g:Gf),u=.agg #[nv,rv]/\Gr W nv rv g/\Sized g:=by
 obtain⟨cs,rfl,hsz⟩:=okWide_struct Tryz.underlying25 hv
 obtain⟨fuel,hf⟩:=h
 have hf':DataW.trod enc Tryz.prog W 0 (fun _=>true) true fuel 25 cs.toList=some (d,p):=by simpa[Value.cells] using hf
 obtain⟨nv,rv,g,hc,h1,h2⟩:=graph_of_cells hf'
 refine⟨nv,rv,g,?_,h1,h2⟩
 congr 1
 exact Array.toList_inj.1 (by simpa using hc)
end Go.Proofs.YtbfbkmkjcekpaaaGreatDoor
namespace Go.Proofs.YtbfbkmkjcekpaaaGreatDoor
set_option maxRecDepth 100000
open Go.RowKit Go.Shelf
attribute [local go_sem] Oper.semAt_some
def encA (x:Nat×ByteArray):Array Value:=#[.int .i64 (x.1:Int),.string x.2]
def nextA (l:List ByteArray) (pre:List (Nat×ByteArray)) (x:Nat×ByteArray) (_:World):Prop:=pre=upto l pre.length/\pre.length<l.length/\x=(pre.length,l.getD pre.length ⟨#[]⟩)
set_option maxHeartbeats 4000000 in
theorem sall_tells0 (ao:Option Addr) (c N B Bs:Nat) (w:World) (hBs:w.heap[Bs]?=some (.cells #[.slice ao 0 c] 51)) :
  TellsP N Tryz.prog 119 #[.pointer (some ⟨Bs,0,none⟩)] encA B (fun k=>k=Bs) (nextA []) (fun xs=>xs=[]) w:=by
 intro lp J Jx W hW hBW hJ hJx hY h0
 have hbx:W.heap[Bs]?=some (.cells #[.slice ao 0 c] 51):=(hW.block _ (lt_of_block hBs)).trans hBs
 have hcb:W.cell? ⟨Bs,0,none⟩=some (.slice ao 0 c):=by simp[World.cell?,hbx]
 refine callsIn_of_wp Tryz.func119 rfl trivial ?_ rfl
 simp only[Tryz.ntmps119,List.size_toArray,List.length_cons,List.length_nil,Nat.reduceAdd,Nat.reduceSub,Array.replicate_succ,Array.replicate_zero,List.push_toArray,List.append_toArray,List.nil_append,List.cons_append]
 gi_wp2
 gi_loopw [7] (fun i wr=>i=.int .i64 0/\J [] wr) (fun _ _=>0)
 case atStart=>exact⟨rfl,h0⟩
 case round=>
  obtain⟨rfl,hJs⟩:=hrel
  gi_wp2
  go_end0
  exact⟨⟨_,rfl⟩,.inl ⟨_,rfl,hJs⟩⟩
end Go.Proofs.YtbfbkmkjcekpaaaGreatDoor
namespace Go.Proofs.YtbfbkmkjcekpaaaGreatDoor
set_option maxRecDepth 100000
open Go.RowKit Go.Shelf
attribute [local go_sem] Oper.semAt_some
theorem own_shape {W:World} {n₀:Nat} {e:TypeId} {u:Value} {k:Nat} {xs:List Value} (h:W.ownsRow n₀ e 1 u k xs):∃ao c,u=.slice ao k c:=by
 rcases h.2 with⟨rfl,rfl⟩ | ⟨g,cap,cur,rfl,_⟩
 ·exact⟨none,0,rfl⟩
 ·exact⟨_,cap,rfl⟩
theorem upto_rows (l:List ByteArray) {k:Nat} (hk:k<=l.length):((upto l k).map fun x=>Value.string x.2)=(l.take k).map Value.string:=by
 rw[←upto_texts l hk,List.map_map]
 rfl
end Go.Proofs.YtbfbkmkjcekpaaaGreatDoor
namespace Go.Proofs.YtbfbkmkjcekpaaaGreatDoor
set_option maxRecDepth 100000
open Go.RowKit Go.Maps
theorem n_own_below {w w':World} {B:Nat} {e:TypeId} {v:Value} {n:Nat} {xs:List Value} (h:w.ownsRow B e 1 v n xs) (hm:Below w.heap.size w w'):w'.ownsRow B e 1 v n xs:=own_keep (ks:=[]) h (n_Mod.ofBelow hm) (by simp)
end Go.Proofs.YtbfbkmkjcekpaaaGreatDoor
namespace Go.Proofs.YtbfbkmkjcekpaaaGreatDoor
set_option maxRecDepth 100000
open Go.RowKit Go.Maps
set_option maxHeartbeats 1000000 in
theorem n_same_some (b o c b' o' c':Nat) (l:List ByteArray) (w:World) (hl:l.length<=5000) (hc:∀j,j<l.length->w.cell? ⟨b,o+j,none⟩=some (.string (l.getD j ⟨#[]⟩))) (hc':∀j,j<l.length->w.cell? ⟨b',o'+j,none⟩=some (.string (l.getD j ⟨#[]⟩))) :
  Calls Tryz.prog 21 #[.slice (some ⟨b,o,none⟩) l.length c,.slice (some ⟨b',o',none⟩) l.length c'] w fun e w'=>e=.returned (.bool true)/\∃d,w'=w.drewN d:=by
 go_enter Tryz.func21,Tryz.ntmps21
 go_wp2
 go_loopw [5] (fun i wr=>∃k:Nat,k<=l.length/\i=.int .i64 k/\∃d,wr=w.drewN d) (fun i _=>l.length-(intOf i).toNat)
 case atStart=>exact⟨0,Nat.zero_le _,rfl,0,rfl⟩
 case round=>
  obtain⟨k,hk,rfl,d,rfl⟩:=hrel
  by_cases hlt:k<l.length
  ·have h1:=hc k hlt
   have h2:=hc' k hlt
   obtain⟨x,hx⟩:∃x,x=l.getD k ⟨#[]⟩:=⟨_,rfl⟩
   rw[←hx] at h1 h2
   clear hc hc' hx
   have hk0:(0:Int)<=(k:Int):=by omega
   have hlt':(k:Int)<(l.length:Int):=by omega
   go_wp2
   go_quiet (fail)
   go_wp2
   go_roundw
   case rel=>exact⟨k+1,by omega,by go_num,_,rfl⟩
   case measure=>simp[intOf];omega
  ·have hlt':¬(k:Int)<(l.length:Int):=by omega
   go_wp2
   go_ret
   exact⟨rfl,d,rfl⟩
set_option maxHeartbeats 400000 in
theorem n_same_none (ao ao':Option Addr) (c c':Nat) (w:World) :
  Calls Tryz.prog 21 #[.slice ao 0 c,.slice ao' 0 c'] w fun e w'=>e=.returned (.bool true)/\w'=w:=by
 go_enter Tryz.func21,Tryz.ntmps21
 go_wp2
 refine wp_loop_rounds 1 ?_
 rw[rounds_succ]
 go_wp2
 go_ret
 exact⟨rfl,rfl⟩
theorem n_same_any {w:World} {u u':Value} {l:List ByteArray} (h:Rs w u l) (h':Rs w u' l) (hl:l.length<=5000) :
  Calls Tryz.prog 21 #[u,u'] w fun e w'=>e=.returned (.bool true)/\Below w.heap.size w w':=by
 by_cases h0:l=[]
 ·subst h0
  obtain⟨ao,c,rfl⟩:=h.shape
  obtain⟨ao',c',rfl⟩:=h'.shape
  exact (n_same_none ao ao' c c' w).mono fun e w' ⟨he,hw⟩=>⟨he,by rw[hw];exact Below.refl _ _⟩
 ·rcases h with⟨_,h1⟩ | ⟨_,_,_,h1⟩ | ⟨b,o,c,rfl,hc⟩
  ·exact absurd h1 h0
  ·exact absurd h1 h0
  ·rcases h' with⟨_,h1⟩ | ⟨_,_,_,h1⟩ | ⟨b',o',c',rfl,hc'⟩
   ·exact absurd h1 h0
   ·exact absurd h1 h0
   ·exact (n_same_some b o c b' o' c' l w hl hc hc').mono fun e w' ⟨he,d,hw⟩=>⟨he,by rw[hw];exact below_drewN (Below.refl _ _) d⟩
end Go.Proofs.YtbfbkmkjcekpaaaGreatDoor
namespace Go.Proofs.YtbfbkmkjcekpaaaGreatDoor
set_option maxRecDepth 100000
open Go.RowKit Go.Maps
def mcRen:Go.Shelf.Ren:=⟨fun n=>if n=5 then 108 else 132,fun n=>if n=23 then 151 else if n=25 then 9 else n,fun n=>n⟩
theorem mcLays:SlLaysW.n5 Tryz.prog mcRen:=
 ⟨(by kernel_rfl),⟨Tryz.f108.name,(by kernel_rfl),(by kernel_rfl)⟩,(by kernel_rfl),(by kernel_rfl),(fun _=>by kernel_rfl),(fun _=>by kernel_rfl),(fun _=>by kernel_rfl),(by kernel_rfl),(fun _=>by kernel_rfl),(fun _=>by kernel_rfl),
  (fun _=>by kernel_rfl),(by kernel_rfl),(fun _=>by kernel_rfl),(fun _=>by kernel_rfl),(fun _=>by kernel_rfl)⟩
theorem mclone_any {w:World} {q n:Nat} {D:DataW Unit} (h:w.ownsMap Tryz.prog 9 (plainElem Tryz.prog 3) q n D) :
  Calls Tryz.prog 108 #[.map (some q)] w fun e w'=>e=.returned (.map (some w.heap.size))/\w'.ownsMap Tryz.prog 9 (plainElem Tryz.prog 3) w.heap.size n D/\Below w.heap.size w w':=
 (AnyW.maps_Clone_owns mcLays 9 (plainElem Tryz.prog 3) q n D w h).mono fun _ _ ⟨h1,h2,_,h4⟩=>⟨h1,h2,h4⟩
theorem strs_one (l:List ByteArray):∀u∈l.map Value.string,u.oneCell'=true:=fun u hu=>by
 obtain⟨s,_,rfl⟩:=List.mem_map.1 hu
 simp[Value.oneCell']
theorem slice_nil_in {P:Program} (w:World) (d:Nat) (t:TypeId) {e:TypeId} (h:P.underlying t=some (.slice e)) (ao:Option Addr) (n c:Nat):(Op.equalIn (d+1) t (.slice ao n c) (.slice none 0 0)).run P w=.ok ao.isNone w:=by
 cases ao <;> simp[Op.equalIn,run_underlying h]
theorem slice_nil (w:World) (ao:Option Addr) (n c:Nat):(binOp .eql 51 (.slice ao n c) (.slice none 0 0)).run Tryz.prog w=.ok (.bool ao.isNone) w:=by
 simp only[binOp]
 simp[show Op.equal 51 (.slice ao n c) (.slice none 0 0)=Op.equalIn (9999+1) 51 (.slice ao n c) (.slice none 0 0) from rfl,slice_nil_in w 9999 51 Tryz.underlying51]
set_option maxHeartbeats 1000000 in
theorem slclone_any {w:World} {B:Nat} {v:Value} {l:List ByteArray} (h:w.ownsRow B 9 1 v l.length (l.map Value.string)) (hl:l.length<=1024) :
  Calls Tryz.prog 107 #[v] w fun e w'=>∃v',e=.returned v'/\w'.ownsRow w.heap.size 9 1 v' l.length (l.map Value.string)/\Below w.heap.size w w':=by
 obtain⟨i0,hi,hz0,hz1,hz2⟩:=info_parts infoS
 have h0:=h
 rcases h.2 with⟨rfl,hn⟩ | ⟨g,cap,cur,rfl,_⟩
 ·have hl0:l=[]:=List.eq_nil_of_length_eq_zero hn
  subst hl0
  have hsn:=fun w:World=>slice_nil w none 0 0
  go_enter Tryz.func107,Tryz.ntmps107
  go_wp2
  go_ret
  exact⟨_,rfl,World.ownsRow_nil _ _ _ _,Below.refl _ _⟩
 ·have hnews:∀j u,(l.map Value.string)[j]?=some u->(w.alloc (.cells #[] 9)).cell? ((⟨g,0,none⟩:Addr).add j)=some u:=fun j u hj=>by
   exact ((h0.alloc (.cells #[] 9)).cells (g:=g) rfl) j u hj
  have hown:(w.alloc (.cells #[] 9)).ownsRow w.heap.size 9 1 (.slice (some ⟨w.heap.size,0,none⟩) 0 0) 0 []:=⟨rfl,Or.inr ⟨w.heap.size,0,#[],rfl,Nat.le_refl _,heap_alloc_new w _,Nat.le_refl _,Nat.zero_le _,rfl,rfl⟩⟩
  have hsn:=fun w:World=>slice_nil w (some ⟨g,0,none⟩) l.length cap
  clear h h0
  go_enter Tryz.func107,Tryz.ntmps107
  go_wp2_with (at_builtin;refine wpList_append_own _ rfl _ _ 51 rfl w.heap.size 9 i0 (.string ⟨#[]⟩) 1 16 Tryz.underlying51 hi hz0 hz1 hz2 rfl (by decide) (.slice (some ⟨w.heap.size,0,none⟩) 0 0) 0 [] rfl hown ⟨g,0,none⟩ l.length cap (l.map Value.string) rfl (by simp) hnews (strs_one l) (by unfold maxLen;omega) (by omega) (by simp) ?_;intro v' w1 hown' hgrow _)
  go_ret
  refine⟨v',rfl,by simpa using hown',?_⟩
  exact (n_below_alloc w _).grown hgrow (by simp) (fun k e=>by
   have e':k=w.heap.size:=by simpa[Value.ownBlock] using e.symm
   omega)
theorem map_below {w w':World} {q n:Nat} {D:DataW Unit} (h:w.ownsMap Tryz.prog 9 (plainElem Tryz.prog 3) q n D) (hm:Below w.heap.size w w'):w'.ownsMap Tryz.prog 9 (plainElem Tryz.prog 3) q n D:=map_keep (ks:=[]) h (n_Mod.ofBelow hm) (by simp)
theorem n_undr {w w':World} (h:Below w.drew.heap.size w.drew w'):Below w.heap.size w w':=⟨h.os,h.tape,h.output,h.size,h.block⟩
theorem copy_tb {w w3:World} {B B1 B2 p q q':Nat} {v v':Value} {l:List ByteArray} {D:DataW Unit} (h:Tb w B p v q l) (ho:w3.ownsRow B1 9 1 v' l.length (l.map Value.string)) (hm:w3.ownsMap Tryz.prog 9 (plainElem Tryz.prog 3) q' l.length D) (hO:MapOf l D) (h1:B2<=B1) (h2:B2<=q') (h3:B2<=w3.heap.size) :
  Tb (w3.alloc (.cells #[v',.map (some q')] 153)) B2 w3.heap.size v' q' l:=
 ⟨heap_alloc_new w3 _,h3,n_own_base (n_own_below ho (n_below_alloc _ _)) h1,h2,⟨D,hm.alloc _,hO⟩,h.len,h.good,h.nodup⟩
set_option maxHeartbeats 2000000 in
theorem copy_any {w:World} {B p q:Nat} {v:Value} {l:List ByteArray} (h:Tb w B p v q l) :
  Calls Tryz.prog 73 #[.pointer (some ⟨p,0,none⟩)] w fun e w'=>∃p' v' q',e=.returned (.pointer (some ⟨p',0,none⟩))/\Tb w' w.heap.size p' v' q' l/\Below w.heap.size w w':=by
 have c0:=h.c0
 have c1:=h.c1
 have hlen:=h.len
 obtain⟨D,hD,hO⟩:=h.map
 have hown:=h.own
 obtain⟨ao,c,rfl⟩:=own_shape hown
 have hp:=h.lt
 have hb:Below w.heap.size w w:=Below.refl _ _
 go_enter Tryz.func73,Tryz.ntmps73
 go_wp2
 go_region_held3 (fun w'=>w'.cell? ⟨p,0,none⟩=some (.slice ao l.length c)/\w'.cell? ⟨p,1,none⟩=some (.map (some q))) (first | exact⟨c0,c1⟩ | go_keep)
  (first
   | (go_at_call 107;refine Calls.mono (slclone_any (B:=B) (by exact hown) hlen) ?_;rintro e w4 ⟨v',rfl,ho,hN⟩;(try replace hN:=n_undr hN);replace c0:=(hN.cell (p:=⟨p,0,none⟩) (Nat.lt_of_lt_of_le hp hb.size)).trans c0;replace c1:=(hN.cell (p:=⟨p,1,none⟩) (Nat.lt_of_lt_of_le hp hb.size)).trans c1;have z4:=hb.size;replace hb:=hb.trans (hN.mono z4);(try replace hD:=map_below hD hN);(try replace hm:=map_below hm hN);obtain⟨ao',c',rfl⟩:=own_shape ho)
   | (go_at_call 108;refine Calls.mono (mclone_any (n:=l.length) (D:=D) (by exact hD)) ?_;rintro e w5 ⟨rfl,hm,hN⟩;(try replace hN:=n_undr hN);replace c0:=(hN.cell (p:=⟨p,0,none⟩) (Nat.lt_of_lt_of_le hp hb.size)).trans c0;replace c1:=(hN.cell (p:=⟨p,1,none⟩) (Nat.lt_of_lt_of_le hp hb.size)).trans c1;have z5:=hb.size;replace hb:=hb.trans (hN.mono z5);(try replace hown:=n_own_below hown hN);(try replace ho:=n_own_below ho hN)))
 all_goals go_wp2
 all_goals go_ret
 all_goals exact⟨_,_,_,rfl,copy_tb h ho hm hO (by first | omega | (simp;done) | (simp;omega)) (by first | omega | (simp;done) | (simp;omega)) hb.size,hb.alloc hb.size _⟩
end Go.Proofs.YtbfbkmkjcekpaaaGreatDoor
namespace Go.Proofs.YtbfbkmkjcekpaaaGreatDoor
set_option maxRecDepth 100000
open Go.RowKit Go.Shelf
attribute [local go_sem] Oper.semAt_some
structure EAK (l:List ByteArray) (b o c Bs:Nat) (J:List (Nat×ByteArray)->World->Prop) (k:Nat) (wr:World):Prop where
 j:J (upto l k) wr
 box:wr.heap[Bs]?=some (.cells #[.slice (some ⟨b,o,none⟩) l.length c] 51)
 row:∀j,j<l.length->wr.cell? ⟨b,o+j,none⟩=some (.string (l.getD j ⟨#[]⟩))
set_option maxHeartbeats 4000000 in
theorem sallK_tells (l:List ByteArray) (b o c N Bs:Nat) (w:World) (hN:2<=N) (hl:l.length<=5000) (hBs:w.heap[Bs]?=some (.cells #[.slice (some ⟨b,o,none⟩) l.length c] 51)) (hrow:∀j,j<l.length->w.cell? ⟨b,o+j,none⟩=some (.string (l.getD j ⟨#[]⟩))) :
  TellsK N Tryz.prog 119 #[.pointer (some ⟨Bs,0,none⟩)] encA (fun k=>k=Bs∨(l≠[]/\k=b)) (nextA l) (fun xs=>xs=upto l l.length) w:=by
 intro lp J Jx W hW hJ hJx hY h0
 have hbx:W.heap[Bs]?=some (.cells #[.slice (some ⟨b,o,none⟩) l.length c] 51):=(hW.block _ (lt_of_block hBs)).trans hBs
 have hrw:∀j,j<l.length->W.cell? ⟨b,o+j,none⟩=some (.string (l.getD j ⟨#[]⟩)):=fun j hj=>(hW.cell (p:=⟨b,o+j,none⟩) (lt_of_cell (hrow j hj))).trans (hrow j hj)
 have hcb:W.cell? ⟨Bs,0,none⟩=some (.slice (some ⟨b,o,none⟩) l.length c):=by simp[World.cell?,hbx]
 have h1n:1<=N:=by omega
 refine callsIn_of_wp Tryz.func119 rfl trivial ?_ rfl
 simp only[Tryz.ntmps119,List.size_toArray,List.length_cons,List.length_nil,Nat.reduceAdd,Nat.reduceSub,Array.replicate_succ,Array.replicate_zero,List.push_toArray,List.append_toArray,List.nil_append,List.cons_append]
 gi_wp2
 gi_loopw [7] (fun i wr=>∃k:Nat,k<=l.length/\i=.int .i64 (k:Int)/\EAK l b o c Bs J k wr) (fun i _=>l.length-(intOf i).toNat)
 case atStart=>exact⟨0,Nat.zero_le _,rfl,⟨h0,hbx,hrw⟩⟩
 case round=>
  obtain⟨k,hk,rfl,hi⟩:=hrel
  by_cases hlt:k<l.length
  ·have hcx':=hi.row k hlt
   have hup:=upto_succ l k
   have hT:nextA l (upto l k) (k,l.getD k ⟨#[]⟩) wr:=⟨by rw[upto_length],by rw[upto_length];exact hlt,by rw[upto_length]⟩
   obtain⟨fn,tmps,assign,body,hy,hR⟩:=hY _ _ wr hi.j hT
   simp only[encA] at hy
   have hlt':(k:Int)<(l.length:Int):=by omega
   have HI:=hid hi
   have HR:=hid hR
   clear hT hi hR
   obtain⟨x,hx⟩:∃x,x=l.getD k ⟨#[]⟩:=⟨_,rfl⟩
   rw[←hx] at hcx' hup hy HR
   clear hx
   gi_wp2
   refine HR.out.mono ?_
   rintro e W3 (⟨rfl,hJ3,hk3⟩ | ⟨rfl,hJx3⟩)
   ·have hb3:W3.heap[Bs]?=some (.cells #[.slice (some ⟨b,o,none⟩) l.length c] 51):=(hk3.2 _ (Or.inl rfl) (lt_of_block HI.out.box)).trans HI.out.box
    have hr3:∀j,j<l.length->W3.cell? ⟨b,o+j,none⟩=some (.string (l.getD j ⟨#[]⟩)):=fun j hj=>by
     have h1:=HI.out.row j hj
     rw[World.cell?_of_block (w:=wr) (a:=⟨b,o+j,none⟩) (hk3.2 b (Or.inr ⟨fun e=>by rw[e] at hj;simp at hj,rfl⟩) (lt_of_cell h1))]
     exact h1
    have hI3:EAK l b o c Bs J (k+1) W3:=⟨by rw[hup];exact hJ3,hb3,hr3⟩
    gi_wp2
    go_roundw
    case rel=>exact⟨k+1,by omega,by simp,hI3⟩
    case measure=>simp[intOf];omega
   ·gi_wp2
    refine bodyPost_ret (results_none rfl _ _ _) rfl ?_
    exact⟨⟨_,rfl⟩,.inr ⟨_,hJx3⟩⟩
  ·obtain rfl:k=l.length:=by omega
   have hJ:=hi.j
   gi_wp2
   go_end0
   exact⟨⟨_,rfl⟩,.inl ⟨_,rfl,hJ⟩⟩
end Go.Proofs.YtbfbkmkjcekpaaaGreatDoor
