/- Package cells: what a cell holds. -/
import Derived.BigQuiet
import Derived.Deep.RegionWith
import Derived.Test.YtbfbkmkjcekpaaaGreatDoorow16Z
import Derived.Test.YtbfbkmkjcekpaaaGreatDoorow05Z
import Derived.Test.YtbfbkmkjcekpaaaGreatDoorow08Z
import Derived.Test.YtbfbkmkjcekpaaaGreatDoorow19Z
import Derived.Test.YtbfbkmkjcekpaaaGreatDoorow07Z
import Derived.Test.YtbfbkmkjcekpaaaGreatDoorow02Z
namespace Go.Proofs.YtbfbkmkjcekpaaaGreatDoor
set_option maxRecDepth 100000
open Go.RowKit
section
variable {w:World} {B p q:Nat} {v:Value} {ns:List ByteArray}
set_option maxHeartbeats 800000 in
theorem text_any (h:Tb w B p v q ns) (k:Nat) (hk:k<ns.length) :
  Calls Tryz.prog 84 #[.agg #[.pointer (some ⟨p,0,none⟩)],.int .i64 (k:Int)] w fun e w'=>e=.returned (.string (ns.getD k ⟨#[]⟩))/\Below w.heap.size w w':=by
 have hb:=hid (below_alloc w (.cells #[.pointer (some ⟨p,0,none⟩)] 85))
 have hnm:=hid (name_yes (h.below hb.out) k hk)
 have hsz:(ns.getD k ⟨#[]⟩).size<=281474976710656:=by
  have h1:=h.good (ns.getD k ⟨#[]⟩) (by simp[List.getD,hk])
  have:=n_goodS_size h1
  omega
 have hcl:=hid (fun w=>n_clone_any (ns.getD k ⟨#[]⟩) w hsz)
 generalize ns.getD k ⟨#[]⟩=s at *
 clear h hk
 go_enter Tryz.func84,Tryz.ntmps84
 go_wp2_with (first
  | (go_at_call 115;refine hnm.out.mono ?_;rintro e w1 ⟨rfl,rfl⟩)
  | (go_at_call 49;refine (hcl.out _).mono ?_;rintro e w1 ⟨rfl,hb1⟩))
 go_ret
 exact⟨rfl,Below.next hb.out hb1⟩
end
def rchL (k:Nat) (x:Int):List Int:=if x % 8=0∨x % 8=3∨x % 8=5 then [valOf x] else if x % 8=4 then (List.range (valOf x % 16).toNat).map (fun i=>((k+1+i:Nat):Int)) else []
theorem rng_take {k i:Nat}:(List.range (i+1)).map (fun i=>((k+1+i:Nat):Int))=(List.range i).map (fun i=>((k+1+i:Nat):Int))++[((k+1+i:Nat):Int)]:=by
 rw[List.range_succ,List.map_append]
 rfl
set_option maxHeartbeats 2000000 in
theorem reached_any (w:World) (k:Nat) (hk:k<65536) (x:Int) (h0:0<=x) (h1:x<=18446744073709551615) (hg:goodB x=true) :
  Calls Tryz.prog 87 #[.int .i64 (k:Int),.int .u64 x] w fun e w'=>(∃ao c,e=.returned (.slice ao (rchL k x).length c)/\w'.ownsRow w.heap.size 3 1 (.slice ao (rchL k x).length c) (rchL k x).length ((rchL k x).map (Value.int .i64)))/\Below w.heap.size w w':=by
 obtain⟨i0,hi,hz0,hz1,hz2⟩:=info_parts infoI
 by_cases hp:x % 8=0∨x % 8=3∨x % 8=5
 ·have hR:Hid (rchL k x=[valOf x]):=show _=_ by unfold rchL;rw[if_pos hp]
  have hpl:=hid (fun w=>place_yes x w h0 h1 hg hp)
  generalize rchL k x=R at *
  generalize valOf x=y at *
  have hlit:=hid (World.ownsRow_lit (base:=w.heap.size) (e:=3) (size:=1) w #[.int .i64 y] 1 (Nat.le_refl _) (by unfold maxLen;omega) (by simp))
  go_enter Tryz.func87,Tryz.ntmps87
  go_wp2_with (go_at_call 118;refine (hpl.out _).mono ?_;rintro e w1 ⟨rfl,rfl⟩)
  go_ret
  rw[hR.out]
  exact⟨⟨_,_,rfl,hlit.out⟩,below_alloc _ _⟩
 ·have hpl:=hid (fun w=>place_no x w h0 h1 (Or.inr (by omega)))
  by_cases h4:x % 8=4
  ·have hfv:=fun_val x hg h4
   obtain⟨a,ha⟩:∃a:Nat,valOf x % 16=(a:Int):=⟨(valOf x % 16).toNat,by omega⟩
   have hR:Hid (rchL k x=(List.range a).map (fun i=>((k+1+i:Nat):Int))):=show _=_ by
    unfold rchL
    rw[if_neg hp,if_pos h4,ha,Int.toNat_natCast]
   have hhd:=hid (fun w=>head_yes x w h0 h1 hg h4)
   rw[ha] at hhd
   have ha8:a<=8:=by omega
   generalize rchL k x=R at *
   generalize valOf x / 16=f at *
   clear hp h4 hfv ha
   obtain⟨W,rfl⟩:∃W:World,W=w:=⟨_,rfl⟩
   go_enter Tryz.func87,Tryz.ntmps87
   go_wp2_with (first
    | (go_at_call 118;refine (hpl.out _).mono ?_;rintro e w1 ⟨rfl,hw1⟩;replace hw1:=hw1.symm;subst hw1)
    | (go_at_call 86;refine (hhd.out _).mono ?_;rintro e w1 ⟨rfl,hw1⟩;replace hw1:=hw1.symm;subst hw1))
   go_loopw [7,11,27] (fun s _ i wr=>∃(j:Nat) (ao:Option Addr) (c:Nat),j<=a/\i=.int .i64 (j:Int)/\s=.slice ao j c/\Hid (Below W.heap.size W wr)/\Hid (wr.ownsRow W.heap.size 3 1 (.slice ao j c) j (((List.range j).map (fun i=>((k+1+i:Nat):Int))).map (Value.int .i64)))) (fun _ _ i _=>a-(intOf i).toNat)
   case atStart=>exact⟨0,none,0,Nat.zero_le _,rfl,rfl,Below.refl _ _,World.ownsRow_nil _ _ _ _⟩
   case round=>
    obtain⟨j,ao,c,hj,rfl,rfl,hb,ho⟩:=hrel
    by_cases hlt:j<a
    ·have hji:(j:Int)<(a:Int):=by omega
     have hO1:=World.ownsRow.alloc ho.out (.cells #[.int .i64 ((k:Int)+1+(j:Int))] 3)
     have hzk:=hb.out.size
     have hlo:Hid (∀q,(Value.slice ao j c).ownBlock=some q->W.heap.size<=q):=fun q hq=>(ho.out.lt q hq).1
     have hst:Hid (((List.range (j+1)).map (fun i=>((k+1+i:Nat):Int))).map (Value.int .i64)=((List.range j).map (fun i=>((k+1+i:Nat):Int))).map (Value.int .i64)++[.int .i64 ((k:Int)+1+(j:Int))]):=show _=_ by
      rw[rng_take,List.map_append]
      congr 2
     generalize ((List.range j).map (fun i=>((k+1+i:Nat):Int))).map (Value.int .i64)=XS at *
     clear ho
     go_wp2_with (at_builtin;go_must (refine wpList_append_lies _ rfl _ _ 23 rfl W.heap.size 3 i0 (.int .i64 0) 1 8 Tryz.underlying23 hi hz0 hz1 hz2 rfl (by decide) _ j _ rfl hO1 ⟨wr.heap.size,0,none⟩ 1 1 [.int .i64 ((k:Int)+1+(j:Int))] rfl rfl (World.news_of_block (cs:=#[.int .i64 ((k:Int)+1+(j:Int))]) (t:=3) (fr:=(0,0)) (heap_alloc_new wr _)) (by simp[Value.oneCell']) (by decide) (by unfold maxLen;omega) (by omega) (by simp;omega) _ rfl ?_;intro g6 cap w6 hown6 hg6 hat6 hlt6))
     have hb6:Hid (Below W.heap.size W w6):=hb.out.trans (((Below.refl _ _).alloc hzk _).grown hg6 (by simp;omega) (fun q hq=>hlo.out q hq))
     go_roundw
     case rel=>exact⟨j+1,some ⟨g6,0,none⟩,cap,by omega,by go_num,rfl,hb6,(show World.ownsRow _ _ _ _ _ _ _ by rw[hst.out];exact hown6)⟩
     case measure=>simp[intOf];omega
    ·obtain rfl:j=a:=by omega
     go_wp2
     go_ret
     rw[hR.out]
     refine⟨⟨ao,c,by simp,?_⟩,hb.out⟩
     have h9:=ho.out
     simp only[List.length_map,List.length_range] at h9 ⊢
     exact h9
  ·have hR:Hid (rchL k x=[]):=show _=_ by unfold rchL;rw[if_neg hp,if_neg h4]
   have hhd:=hid (fun w=>head_no x w h0 h1 (Or.inr h4))
   generalize rchL k x=R at *
   go_enter Tryz.func87,Tryz.ntmps87
   go_wp2_with (first
    | (go_at_call 118;refine (hpl.out _).mono ?_;rintro e w1 ⟨rfl,hw1⟩;replace hw1:=hw1.symm;subst hw1)
    | (go_at_call 86;refine (hhd.out _).mono ?_;rintro e w1 ⟨rfl,hw1⟩;replace hw1:=hw1.symm;subst hw1))
   go_loopw [7,11,27] (fun s _ i wr=>i=.int .i64 0/\s=.slice none 0 0/\wr=w) (fun _ _ _ _=>0)
   case atStart=>exact⟨rfl,rfl,rfl⟩
   case round=>
    obtain⟨rfl,rfl,rfl⟩:=hrel
    go_wp2
    go_ret
    rw[hR.out]
    exact⟨⟨none,0,rfl,World.ownsRow_nil _ _ _ _⟩,Below.refl _ _⟩
end Go.Proofs.YtbfbkmkjcekpaaaGreatDoor
namespace Go.Proofs.YtbfbkmkjcekpaaaGreatDoor
set_option maxRecDepth 100000
open Go.RowKit
def tdK (x:Int):Int:=if x % 8=1 then 2 else if x % 8=2 then 3 else if x % 8=3 then 4 else 1
def tdA (x:Int):Int:=if x % 8=1∨x % 8=2 then -1 else valOf x
def tdS (l:List Int) (ns:List ByteArray) (x:Int):ByteArray:=if x % 8=1 then ns.getD (valOf x).toNat ⟨#[]⟩ else if x % 8=3 then ns.getD (valOf (wdN l (valOf x).toNat) / 16).toNat ⟨#[]⟩ else ⟨#[]⟩
def tdN (x:Int):Int:=if x % 8=2 then valOf x else 0
def tdL (l:List Int) (x:Int):List Int:=if x % 8=3 then rchL (valOf x).toNat (wdN l (valOf x).toNat) else []
structure Tw (l:List Int) (ns:List ByteArray) (x:Int):Prop where
 r0:0<=x
 r1:x<=18446744073709551615
 tag:x % 8=0∨x % 8=1∨x % 8=2∨x % 8=3
 atom:x % 8=1->0<=valOf x/\(valOf x).toNat<ns.length
 str:x % 8=3->0<=valOf x/\(valOf x).toNat<l.length/\tgN l (valOf x).toNat=4/\goodB (wdN l (valOf x).toNat)=true/\(valOf (wdN l (valOf x).toNat) / 16).toNat<ns.length
abbrev cel0:Obj:=.cells #[.int .i64 0,.int .i64 0,.string ⟨#[]⟩,.int .i64 0,.slice none 0 0] 45
theorem ret_cel {w:World} {fn:Func} {t:Tmp} (hfn:fn.results=#[.cell t 45]) {tmps:Array Value} {q:Nat} {u0 u1 u2 u3 u4:Value} (h4:tmps[t]?.getD undef=.pointer (some ⟨q,0,none⟩)) (hq:w.heap[q]?=some (.cells #[u0,u1,u2,u3,u4] 45)):(results fn tmps).run Tryz.prog w=.ok (.agg #[u0,u1,u2,u3,u4]) w:=by
 have z0:w.cell? ⟨q,0,none⟩=some u0:=by simp[World.cell?,hq]
 have z1:w.cell? ⟨q,1,none⟩=some u1:=by simp[World.cell?,hq]
 have z2:w.cell? ⟨q,2,none⟩=some u2:=by simp[World.cell?,hq]
 have z3:w.cell? ⟨q,3,none⟩=some u3:=by simp[World.cell?,hq]
 have z4:w.cell? ⟨q,4,none⟩=some u4:=by simp[World.cell?,hq]
 simp[results,hfn,go_sem,h4,z0,z1,z2,z3,z4]
abbrev set5C (w:World) (q:Nat) (u0 u1 u2 u3 u4:Value):World:=((((w.setCell ⟨q,0,none⟩ u0).setCell ⟨q,1,none⟩ u1).setCell ⟨q,2,none⟩ u2).setCell ⟨q,3,none⟩ u3).setCell ⟨q,4,none⟩ u4
theorem set5C_at {w:World} {q:Nat} {v0 v1 v2 v3 v4:Value} {T:TypeId} (h:w.heap[q]?=some (.cells #[v0,v1,v2,v3,v4] T)) (u0 u1 u2 u3 u4:Value):(set5C w q u0 u1 u2 u3 u4).heap[q]?=some (.cells #[u0,u1,u2,u3,u4] T):=by
 have h0:=heap_setCell_same w q 0 _ _ u0 h
 have h1:=heap_setCell_same _ q 1 _ _ u1 h0
 have h2:=heap_setCell_same _ q 2 _ _ u2 h1
 have h3:=heap_setCell_same _ q 3 _ _ u3 h2
 exact heap_setCell_same _ q 4 _ _ u4 h3
theorem set5C_far (w:World) {q k:Nat} (u0 u1 u2 u3 u4:Value) (h:k≠q):(set5C w q u0 u1 u2 u3 u4).heap[k]?=w.heap[k]?:=by
 rw[Below.heap_setCell _ _ _ _ h,Below.heap_setCell _ _ _ _ h,Below.heap_setCell _ _ _ _ h,Below.heap_setCell _ _ _ _ h,Below.heap_setCell _ _ _ _ h]
theorem set5C_below {W w:World} {n q:Nat} (hb:Below n W w) (hq:n<=q) (u0 u1 u2 u3 u4:Value):Below n W (set5C w q u0 u1 u2 u3 u4):=((((hb.setCell (p:=⟨q,0,none⟩) hq _).setCell (p:=⟨q,1,none⟩) hq _).setCell (p:=⟨q,2,none⟩) hq _).setCell (p:=⟨q,3,none⟩) hq _).setCell (p:=⟨q,4,none⟩) hq _
theorem cel_cells {w:World} {q:Nat} {u0 u1 u2 u3 u4:Value} {T:TypeId} (h:w.heap[q]?=some (.cells #[u0,u1,u2,u3,u4] T)):(w.cell? ⟨q,0,none⟩=some u0/\w.cell? ⟨q,1,none⟩=some u1/\w.cell? ⟨q,2,none⟩=some u2/\w.cell? ⟨q,3,none⟩=some u3/\w.cell? ⟨q,4,none⟩=some u4)/\(w.frozen? ⟨q,0,none⟩=false/\w.frozen? ⟨q,1,none⟩=false/\w.frozen? ⟨q,2,none⟩=false/\w.frozen? ⟨q,3,none⟩=false/\w.frozen? ⟨q,4,none⟩=false)/\q<w.heap.size:=by
 refine⟨⟨?_,?_,?_,?_,?_⟩,⟨?_,?_,?_,?_,?_⟩,lt_of_block h⟩ <;> simp[World.cell?,World.frozen?,h]
section
variable {w:World} {B hb ab tb:Nat} {m:Int} {av:Value} {l:List Int} {tv:Value} {tq:Nat} {ns:List ByteArray} {trv ptv:Value} {n:Int}
set_option maxHeartbeats 4000000 in
theorem ctold_any (h:Hp w B hb ab tb m av l tv tq ns trv ptv n) (x:Int) (hx:Tw l ns x) :
  Calls Tryz.prog 43 #[.pointer (some ⟨hb,0,none⟩),.int .u64 x] w fun e w'=>(∃ao c,e=.returned (.agg #[.int .i64 (tdK x),.int .i64 (tdA x),.string (tdS l ns x),.int .i64 (tdN x),.slice ao (tdL l x).length c])/\w'.ownsRow w.heap.size 3 1 (.slice ao (tdL l x).length c) (tdL l x).length ((tdL l x).map (Value.int .i64)))/\Below w.heap.size w w':=by
 have hb0:=below_alloc w cel0
 have hx0:=hid (heap_alloc_new w cel0)
 have HB0:=hid hb0
 have h1:=h.below hb0
 obtain⟨⟨c0,c1,_⟩,c5⟩:=h1.cells
 have HH:=hid h1
 have htg:=hid (fun w=>tag_any x w hx.r0 hx.r1)
 have hva:=hid (fun w=>value_any x w)
 have hx':=hid hx
 clear h h1 hb0
 rcases hx.tag with ht | ht | ht | ht
 ·have eK:=hid (show tdK x=1/\tdA x=valOf x/\tdS l ns x=⟨#[]⟩/\tdN x=0/\tdL l x=[] by simp[tdK,tdA,tdS,tdN,tdL,ht])
  rw[ht] at htg
  rw[eK.out.1,eK.out.2.1,eK.out.2.2.1,eK.out.2.2.2.1,eK.out.2.2.2.2]
  clear hx ht eK hx'
  generalize valOf x=y at *
  have hfin:=hid (heap_alloc_new w (.cells #[.int .i64 1,.int .i64 y,.string ⟨#[]⟩,.int .i64 0,.slice none 0 0] 45))
  have hbf:=hid (below_alloc w (.cells #[.int .i64 1,.int .i64 y,.string ⟨#[]⟩,.int .i64 0,.slice none 0 0] 45))
  go_enter Tryz.func43,Tryz.ntmps43
  go_wp2_with (first
   | (go_at_call 60;refine (hva.out _).mono ?_;rintro e w2 ⟨rfl,hw⟩;replace hw:=hw.symm;subst hw)
   | (go_at_call 59;refine (htg.out _).mono ?_;rintro e w2 ⟨rfl,hw⟩;replace hw:=hw.symm;subst hw))
  exact bodyPost_ret (ret_cel Tryz.results43 (by rfl) hfin.out) rfl ⟨⟨none,0,rfl,World.ownsRow_nil _ _ _ _⟩,hbf.out⟩
 ·obtain⟨ha0,ha1⟩:=hx.atom ht
  obtain⟨y,hy⟩:∃y:Nat,valOf x=(y:Int):=⟨(valOf x).toNat,by omega⟩
  rw[hy,Int.toNat_natCast] at ha1
  have eK:=hid (show tdK x=2/\tdA x = -1/\tdS l ns x=ns.getD y ⟨#[]⟩/\tdN x=0/\tdL l x=[] by simp[tdK,tdA,tdS,tdN,tdL,ht,hy])
  rw[ht] at htg
  rw[hy] at hva
  have htx:=hid (text_any HH.out.tb y ha1)
  rw[eK.out.1,eK.out.2.1,eK.out.2.2.1,eK.out.2.2.2.1,eK.out.2.2.2.2]
  generalize ns.getD y ⟨#[]⟩=s at *
  clear hx ht eK hx' hy ha0
  go_enter Tryz.func43,Tryz.ntmps43
  go_wp2_with (first
   | (go_at_call 60;refine (hva.out _).mono ?_;rintro e w2 ⟨rfl,hw⟩;replace hw:=hw.symm;subst hw)
   | (go_at_call 59;refine (htg.out _).mono ?_;rintro e w2 ⟨rfl,hw⟩;replace hw:=hw.symm;subst hw)
   | (go_at_call 84;refine htx.out.mono ?_;rintro e w3 ⟨rfl,hb3⟩;have HB3:=hid (Below.next HB0.out hb3);have hx3:=hid ((hb3.block _ (lt_of_block hx0.out)).trans hx0.out);obtain⟨⟨k0,k1,k2,k3,k4⟩,⟨k5,k6,k7,k8,k9⟩,k10⟩:=cel_cells hx3.out;clear hb3))
  have hfin:=set5C_at hx3.out (.int .i64 2) (.int .i64 (-1)) (.string s) (.int .i64 0) (.slice none 0 0)
  have hbf:=set5C_below HB3.out (Nat.le_refl _) (.int .i64 2) (.int .i64 (-1)) (.string s) (.int .i64 0) (.slice none 0 0)
  exact bodyPost_ret (ret_cel Tryz.results43 (by rfl) hfin) rfl ⟨⟨none,0,rfl,World.ownsRow_nil _ _ _ _⟩,hbf⟩
 ·have eK:=hid (show tdK x=3/\tdA x = -1/\tdS l ns x=⟨#[]⟩/\tdN x=valOf x/\tdL l x=[] by simp[tdK,tdA,tdS,tdN,tdL,ht])
  rw[ht] at htg
  rw[eK.out.1,eK.out.2.1,eK.out.2.2.1,eK.out.2.2.2.1,eK.out.2.2.2.2]
  clear hx ht eK hx'
  generalize valOf x=y at *
  have hfin:=hid (heap_alloc_new w (.cells #[.int .i64 3,.int .i64 (-1),.string ⟨#[]⟩,.int .i64 y,.slice none 0 0] 45))
  have hbf:=hid (below_alloc w (.cells #[.int .i64 3,.int .i64 (-1),.string ⟨#[]⟩,.int .i64 y,.slice none 0 0] 45))
  go_enter Tryz.func43,Tryz.ntmps43
  go_wp2_with (first
   | (go_at_call 60;refine (hva.out _).mono ?_;rintro e w2 ⟨rfl,hw⟩;replace hw:=hw.symm;subst hw)
   | (go_at_call 59;refine (htg.out _).mono ?_;rintro e w2 ⟨rfl,hw⟩;replace hw:=hw.symm;subst hw))
  exact bodyPost_ret (ret_cel Tryz.results43 (by rfl) hfin.out) rfl ⟨⟨none,0,rfl,World.ownsRow_nil _ _ _ _⟩,hbf.out⟩
 ·obtain⟨hs0,hs1,hs2,hs3,hs4⟩:=hx.str ht
  obtain⟨y,hy⟩:∃y:Nat,valOf x=(y:Int):=⟨(valOf x).toNat,by omega⟩
  rw[hy,Int.toNat_natCast] at hs1 hs2 hs3 hs4
  have hl6:l.length<=65536:=by
   have h1:=HH.out.ar.len
   have h2:=HH.out.ar.m2
   omega
  have eK:=hid (show tdK x=4/\tdA x=(y:Int)/\tdS l ns x=ns.getD (valOf (wdN l y) / 16).toNat ⟨#[]⟩/\tdN x=0/\tdL l x=rchL y (wdN l y) by simp[tdK,tdA,tdS,tdN,tdL,ht,hy])
  rw[ht] at htg
  rw[hy] at hva
  have hwd:=hid (bword_ok HH.out.ar y hs1)
  have hrz:=HH.out.ar.rng (l.getD y 0) (by simp[List.getD,hs1])
  have hfv:=fun_val (wdN l y) hs3 hs2
  rw[eK.out.1,eK.out.2.1,eK.out.2.2.1,eK.out.2.2.2.1,eK.out.2.2.2.2]
  have ew:wdN l y=l.getD y 0:=rfl
  have ht4:wdN l y % 8=4:=hs2
  rw[←ew] at hwd hrz
  have hhd:=hid (fun w=>head_yes (wdN l y) w hrz.1 hrz.2 hs3 ht4)
  have hrc:=hid (fun w=>reached_any w y (by omega) (wdN l y) hrz.1 hrz.2 hs3)
  clear ew
  generalize wdN l y=z at *
  obtain⟨f,hf⟩:∃f:Nat,valOf z / 16=(f:Int):=⟨(valOf z / 16).toNat,by omega⟩
  rw[hf,Int.toNat_natCast] at hs4
  rw[hf] at hhd
  rw[hf,Int.toNat_natCast]
  have htx:=hid (fun w1 (hb1:Below (w.alloc cel0).heap.size (w.alloc cel0) w1)=>text_any (HH.out.below hb1).tb f hs4)
  generalize ns.getD f ⟨#[]⟩=s at *
  generalize valOf z % 16=ar at *
  generalize hRL:rchL y z=RL at *
  clear hRL
  clear hx ht eK hx' hy hs0 hs1 hs2 hs3 hs4 hfv hf ht4 hrz hl6
  go_enter Tryz.func43,Tryz.ntmps43
  go_wp2_with (first
   | (go_at_call 60;refine (hva.out _).mono ?_;rintro e w2 ⟨rfl,hw⟩;replace hw:=hw.symm;subst hw)
   | (go_at_call 59;refine (htg.out _).mono ?_;rintro e w2 ⟨rfl,hw⟩;replace hw:=hw.symm;subst hw)
   | (go_at_call 85;refine hwd.out.mono ?_;rintro e w3 ⟨rfl,hb3⟩;have Hb3:=hid hb3;obtain⟨⟨d0,d1,_⟩,d5⟩:=(HH.out.below hb3).cells;clear hb3)
   | (go_at_call 86;refine (hhd.out _).mono ?_;rintro e w2 ⟨rfl,hw⟩;replace hw:=hw.symm;subst hw)
   | (go_at_call 84;refine (htx.out _ Hb3.out).mono ?_;rintro e w4 ⟨rfl,hb4⟩;have Hb4:=hid (Below.next Hb3.out hb4);clear hb4)
   | (go_at_call 87;refine (hrc.out _).mono ?_;rintro e w5 ⟨⟨ao,c,rfl,ho⟩,hb5⟩;have HB5:=hid (Below.next Hb4.out hb5);have Ho:=hid ho;have hz4:=hid Hb4.out.size;have hx5:=hid ((HB5.out.block _ (lt_of_block hx0.out)).trans hx0.out);obtain⟨⟨k0,k1,k2,k3,k4⟩,⟨k5,k6,k7,k8,k9⟩,k10⟩:=cel_cells hx5.out;clear hb5 ho))
  have hfin:=set5C_at hx5.out (.int .i64 4) (.int .i64 (y:Int)) (.string s) (.int .i64 0) (.slice ao RL.length c)
  have hbf:=set5C_below (Below.next HB0.out HB5.out) (Nat.le_refl _) (.int .i64 4) (.int .i64 (y:Int)) (.string s) (.int .i64 0) (.slice ao RL.length c)
  have hz5:=hz4.out
  simp at hz5
  have hro:=own_base (B':=w.heap.size) (row_keep Ho.out (fun k hk=>set5C_far w5 (q:=w.heap.size) (.int .i64 4) (.int .i64 (y:Int)) (.string s) (.int .i64 0) (.slice ao RL.length c) (by have:=(Ho.out.lt k hk).1;omega))) (by omega)
  exact bodyPost_ret (ret_cel Tryz.results43 (by rfl) hfin) rfl ⟨⟨ao,c,rfl,hro⟩,hbf⟩
end
end Go.Proofs.YtbfbkmkjcekpaaaGreatDoor
namespace Go.Proofs.YtbfbkmkjcekpaaaGreatDoor
set_option maxRecDepth 100000
open Go.RowKit
structure NsB (l:List Int) (N:Nat):Prop where
 atom:∀k,k<l.length->tgN l k=1->vlN l k<N
 func:∀k,k<l.length->tgN l k=4->(valOf (wdN l k) / 16).toNat<N
theorem trm_ends {l:List Int} {V:Nat->Bool} (h:Snd l V):∀(r k:Nat),k<l.length->rkN l V k<=r->∃j,j<l.length/\nxN l j=none/\trmW l k=endW l j
 | r,k,hk,hr=>by
  cases e:nxN l k with
  | none=>exact⟨k,hk,e,trm_end e⟩
  | some i=>
   obtain⟨h1,h2⟩:=nx_rk h hk e
   rw[trm_next h hk e]
   match r,hr with
   | 0,hr=>omega
   | r+1,hr=>exact trm_ends h r i h1 (by omega)
theorem word_str {j:Nat} (h:j<65536):wordOf 3 (j:Int) % 8=3/\valOf (wordOf 3 (j:Int))=(j:Int)/\0<=wordOf 3 (j:Int)/\wordOf 3 (j:Int)<=18446744073709551615:=by
 unfold wordOf valOf wrap64
 omega
theorem trm_tw {l:List Int} {V:Nat->Bool} {ns:List ByteArray} (h:Snd l V) (hn:NsB l ns.length) (hl:l.length<=65536) {k:Nat} (hk:k<l.length):Tw l ns (trmW l k):=by
 obtain⟨j,hj,e,e2⟩:=trm_ends h _ k hk (Nat.le_refl _)
 rw[e2]
 have hg:=h.good j hj
 have hr:=h.rng (wdN l j) (by unfold wdN;simp[List.getD,hj])
 unfold endW
 by_cases h4:tgN l j=4
 ·rw[if_pos h4]
  obtain⟨s1,s2,s3,s4⟩:=word_str (j:=j) (by omega)
  refine⟨s3,s4,by omega,fun e=>by omega,fun _=>?_⟩
  rw[s2,Int.toNat_natCast]
  exact⟨by omega,hj,h4,hg,hn.func j hj h4⟩
 ·rw[if_neg h4]
  have htc:=tag_cases hg
  have hne:¬(tgN l j=3∨tgN l j=5):=fun h3=>by
   unfold nxN at e
   rw[if_neg (by omega),if_pos h3] at e
   cases e
  have ht:wdN l j % 8=tgN l j:=rfl
  refine⟨hr.1,hr.2,by omega,fun h1=>?_,fun h3=>absurd (Or.inl (ht ▸ h3)) hne⟩
  have hf:fitsB (wdN l j % 8) (valOf (wdN l j))=true:=hg
  rw[h1] at hf
  have:0<=valOf (wdN l j):=by
   simp[fitsB] at hf
   omega
  exact⟨this,hn.atom j hj (ht ▸ h1)⟩
theorem ri_lit1 {w:World} {b:Nat} {x:Int} (h:w.heap[b]?=some (.cells #[.int .i64 x] 3)):Ri w (.slice (some ⟨b,0,none⟩) 1 1) [x]:=by
 refine⟨some ⟨b,0,none⟩,1,rfl,fun j hj=>?_⟩
 have e:j=0:=by simpa using hj
 subst e
 exact⟨b,0,rfl,by simp[World.cell?,h]⟩
theorem ret_celE {w:World} {fn:Func} {t s:Tmp} (hfn:fn.results=#[.cell t 45,.tmp s]) {tmps:Array Value} {q:Nat} {u0 u1 u2 u3 u4 v1:Value} (h4:tmps[t]?.getD undef=.pointer (some ⟨q,0,none⟩)) (h5:tmps[s]?.getD undef=v1) (hq:w.heap[q]?=some (.cells #[u0,u1,u2,u3,u4] 45)):(results fn tmps).run Tryz.prog w=.ok (.tuple #[.agg #[u0,u1,u2,u3,u4],v1]) w:=by
 obtain⟨⟨z0,z1,z2,z3,z4⟩,_⟩:=cel_cells hq
 simp[results,hfn,go_sem,h4,h5,z0,z1,z2,z3,z4]
section
variable {w:World} {B hb ab tb:Nat} {m:Int} {av:Value} {l:List Int} {tv:Value} {tq:Nat} {ns:List ByteArray} {trv ptv:Value} {n:Int} {V:Nat->Bool}
set_option maxHeartbeats 4000000 in
theorem look_ok (h:Hp w B hb ab tb m av l tv tq ns trv ptv n) (hs:Snd l V) (hn:NsB l ns.length) (k:Nat) (hc:cellB l (k:Int)=true) (hk:k<l.length) :
  Calls Tryz.prog 14 #[.pointer (some ⟨hb,0,none⟩),.int .i64 (k:Int)] w fun e w'=>(∃ao c,e=.returned (.tuple #[.agg #[.int .i64 (tdK (trmW l k)),.int .i64 (tdA (trmW l k)),.string (tdS l ns (trmW l k)),.int .i64 (tdN (trmW l k)),.slice ao (tdL l (trmW l k)).length c],.nilIface])/\w'.ownsRow w.heap.size 3 1 (.slice ao (tdL l (trmW l k)).length c) (tdL l (trmW l k)).length ((tdL l (trmW l k)).map (Value.int .i64)))/\Below w.heap.size w w':=by
 have hl6:l.length<=65536:=by
  have h1:=h.ar.len
  have h2:=h.ar.m2
  omega
 have hb0:=below_alloc w cel0
 have hx0:=hid (heap_alloc_new w cel0)
 have hb1:=hb0.alloc (by simp) (.cells #[.int .i64 (k:Int)] 3)
 have hri:Ri ((w.alloc cel0).alloc (.cells #[.int .i64 (k:Int)] 3)) (.slice (some ⟨w.heap.size+1,0,none⟩) 1 1) [(k:Int)]:=ri_lit1 (by
  have h9:=heap_alloc_new (w.alloc cel0) (.cells #[.int .i64 (k:Int)] 3)
  rw[show (w.alloc cel0).heap.size=w.heap.size+1 by simp] at h9
  exact h9)
 have hck:=hid (checkedC_any (h.below hb1).ar hri (by simp))
 have hbf:badF l [(k:Int)]=[]:=by
  unfold badF badC
  rw[if_neg (by rw[ixOf_miss 0 (fun x=>!cellB l x) [(k:Int)] (fun j hj=>by
   have e:j=0:=by simpa using hj
   subst e
   simp[hc])];              omega)]
 rw[hbf] at hck
 have Hb1:=hid hb1
 obtain⟨⟨c0,c1,_⟩,c5⟩:=(h.below hb0).cells
 have htr:=hid (fun w1 (hbb:Below w.heap.size w w1)=>term_any (h.below hbb).ar hs k hk)
 have htd:=hid (fun w1 (hbb:Below w.heap.size w w1)=>ctold_any (h.below hbb) (trmW l k) (trm_tw hs hn hl6 hk))
 have HH:=hid h
 generalize tdK (trmW l k)=tK at *
 generalize tdA (trmW l k)=tA at *
 generalize tdS l ns (trmW l k)=tS at *
 generalize tdN (trmW l k)=tN at *
 generalize tdL l (trmW l k)=tL at *
 generalize trmW l k=X at *
 clear h hs hn hc hk hb0 hb1 hri hbf
 go_enter Tryz.func14,Tryz.ntmps14
 go_wp2_with (first
  | (go_at_call 40;refine (self_some _ _).mono ?_;rintro e w2 ⟨rfl,hw⟩;replace hw:=hw.symm;subst hw)
  | (go_at_call 41;refine hck.out.mono ?_;rintro e w3 ⟨⟨ev,rfl,hev⟩,hb3⟩;have hev1:ev=.nilIface:=hev;subst hev1;have Hb3:=hid (Below.next Hb1.out hb3);have HX3:=hid ((hb3.block _ (by simp;omega)).trans ((Below.heap_alloc (w.alloc cel0) _ _ (by simp)).trans hx0.out));obtain⟨⟨d0,d1,_⟩,d5⟩:=(HH.out.below Hb3.out).cells;clear hev hb3)
  | (go_at_call 44;refine (htr.out _ Hb3.out).mono ?_;rintro e w4 ⟨rfl,hb4⟩;have Hb4:=hid (Below.next Hb3.out hb4);have HX4:=hid ((hb4.block _ (lt_of_block HX3.out)).trans HX3.out);clear hb4)
  | (go_at_call 43;refine (htd.out _ Hb4.out).mono ?_;rintro e w5 ⟨⟨ao,c,rfl,ho⟩,hb5⟩;have Ho:=hid ho;have Hb5:=hid (Below.next Hb4.out hb5);have HX5:=hid ((hb5.block _ (lt_of_block HX4.out)).trans HX4.out);have Hz4:=hid (lt_of_block HX4.out);obtain⟨⟨k0,k1,k2,k3,k4⟩,⟨k5,k6,k7,k8,k9⟩,k10⟩:=cel_cells HX5.out;clear ho hb5))
 have hfin:=set5C_at HX5.out (.int .i64 tK) (.int .i64 tA) (.string tS) (.int .i64 tN) (.slice ao tL.length c)
 have hbf:=set5C_below Hb5.out (Nat.le_refl _) (.int .i64 tK) (.int .i64 tA) (.string tS) (.int .i64 tN) (.slice ao tL.length c)
 have hz4:=Hz4.out
 have hro:=own_base (B':=w.heap.size) (row_keep Ho.out (fun k hk=>set5C_far w5 (q:=w.heap.size) (.int .i64 tK) (.int .i64 tA) (.string tS) (.int .i64 tN) (.slice ao tL.length c) (by have:=(Ho.out.lt k hk).1;omega))) (by omega)
 exact bodyPost_ret (ret_celE Tryz.results14 (by rfl) (by rfl) hfin) rfl ⟨⟨ao,c,rfl,hro⟩,hbf⟩
set_option maxHeartbeats 4000000 in
theorem look_no (h:Hp w B hb ab tb m av l tv tq ns trv ptv n) (x:Int) (hc:cellB l x=false) :
  Calls Tryz.prog 14 #[.pointer (some ⟨hb,0,none⟩),.int .i64 x] w fun e w'=>(∃ev,e=.returned (.tuple #[.agg #[.int .i64 0,.int .i64 0,.string ⟨#[]⟩,.int .i64 0,.slice none 0 0],ev])/\Er w' ev [(113,0)])/\Below w.heap.size w w':=by
 have hb0:=below_alloc w cel0
 have hx0:=hid (heap_alloc_new w cel0)
 have hb1:=hb0.alloc (by simp) (.cells #[.int .i64 x] 3)
 have hri:Ri ((w.alloc cel0).alloc (.cells #[.int .i64 x] 3)) (.slice (some ⟨w.heap.size+1,0,none⟩) 1 1) [x]:=ri_lit1 (by
  have h9:=heap_alloc_new (w.alloc cel0) (.cells #[.int .i64 x] 3)
  rw[show (w.alloc cel0).heap.size=w.heap.size+1 by simp] at h9
  exact h9)
 have hck:=hid (checkedC_any (h.below hb1).ar hri (by simp))
 have hbf:badF l [x]=[(113,0)]:=by
  have e0:badC l [x]=0:=ixOf_hit 0 (fun x=>!cellB l x) [x] 0 (by simp) (fun j hj=>absurd hj (Nat.not_lt_zero _)) (by simp[hc])
  unfold badF
  rw[e0,if_pos (by omega)]
 rw[hbf] at hck
 have Hb1:=hid hb1
 obtain⟨⟨c0,c1,_⟩,c5⟩:=(h.below hb0).cells
 clear h hc hb0 hb1 hri hbf
 go_enter Tryz.func14,Tryz.ntmps14
 go_wp2_with (first
  | (go_at_call 40;refine (self_some _ _).mono ?_;rintro e w2 ⟨rfl,hw⟩;replace hw:=hw.symm;subst hw)
  | (go_at_call 41;refine hck.out.mono ?_;rintro e w3 ⟨⟨ev,rfl,hev⟩,hb3⟩;have Hev:=hid hev;obtain⟨fb,rfl⟩:∃fb,ev=.iface 125 (.pointer (some ⟨fb,0,none⟩)):=(by obtain⟨_,fb,_,e,_⟩:=hev;exact⟨fb,e⟩);have Hb3:=hid (Below.next Hb1.out hb3);have HX3:=hid ((hb3.block _ (by simp;omega)).trans ((Below.heap_alloc (w.alloc cel0) _ _ (by simp)).trans hx0.out));obtain⟨⟨k0,k1,k2,k3,k4⟩,⟨k5,k6,k7,k8,k9⟩,k10⟩:=cel_cells HX3.out;clear hev hb3))
 have hfin:=set5C_at HX3.out (.int .i64 0) (.int .i64 0) (.string ⟨#[]⟩) (.int .i64 0) (.slice none 0 0)
 have hbf:=set5C_below Hb3.out (Nat.le_refl _) (.int .i64 0) (.int .i64 0) (.string ⟨#[]⟩) (.int .i64 0) (.slice none 0 0)
 refine bodyPost_ret (ret_celE Tryz.results14 (by rfl) (by rfl) hfin) rfl ⟨⟨_,rfl,?_⟩,hbf⟩
 obtain⟨h0,b,ev',e1,e2,e3⟩:=Hev.out
 refine⟨h0,b,ev',e1,?_,e3⟩
 rw[set5C_far]
 ·exact e2
 ·intro e
  subst e
  have:=HX3.out
  rw[e2] at this
  injection this with this
  injection this with _ this
  exact absurd this (by decide)
end
end Go.Proofs.YtbfbkmkjcekpaaaGreatDoor
namespace Go.Proofs.YtbfbkmkjcekpaaaGreatDoor
set_option maxRecDepth 100000
open Go.RowKit
set_option maxHeartbeats 2000000 in
theorem hnew_ok (m:Int) (w:World) (B:Nat) (hB:B<=w.heap.size) (h1:1<=m) (h2:m<=65536) :
  Calls Tryz.prog 22 #[.int .i64 m] w fun e w'=>(∃hb ab tb tq,e=.returned (.tuple #[.pointer (some ⟨hb,0,none⟩),.nilIface])/\Hp w' B hb ab tb m (.slice none 0 0) [] (.slice none 0 0) tq [] (.slice none 0 0) (.slice none 0 0) 0/\w.heap.size<=hb/\w.heap.size<=ab/\w.heap.size<=tb/\w.heap.size<=tq)/\Below w.heap.size w w':=by
 have hnw:=hid (new_ok m w B hB h1 h2)
 go_enter Tryz.func22,Tryz.ntmps22
 go_wp2_with (first
  | (go_at_call 56;refine hnw.out.mono ?_;rintro e w1 ⟨rfl,hA1,hb1⟩;have HA1:=hid hA1;have Hb1:=hid hb1;clear hA1 hb1)
  | (go_at_call 57;refine (new_any w1 B (Nat.le_trans hB Hb1.out.size)).mono ?_;rintro e w2 ⟨rfl,hT2,hb2⟩;have HT2:=hid hT2;have Hb2:=hid hb2;clear hT2 hb2))
 go_ret2
 have hz1:=Hb1.out.size
 have hz2:=Hb2.out.size
 have hb3:=below_alloc w2 (.cells #[.pointer (some ⟨w.heap.size,0,none⟩),.pointer (some ⟨w1.heap.size+1,0,none⟩),.slice none 0 0,.slice none 0 0,.int .i64 0] 91)
 refine⟨⟨w2.heap.size,w.heap.size,w1.heap.size+1,w1.heap.size,rfl,⟨heap_alloc_new w2 _,by omega,(HA1.out.below Hb2.out).below hb3,HT2.out.below hb3⟩,by omega,Nat.le_refl _,by omega,by omega⟩,Below.next (Below.next Hb1.out Hb2.out) hb3⟩
end Go.Proofs.YtbfbkmkjcekpaaaGreatDoor
namespace Go.Proofs.YtbfbkmkjcekpaaaGreatDoor
set_option maxRecDepth 100000
open Go.RowKit
section
variable {w:World} {B p q:Nat} {v:Value} {ns:List ByteArray}
set_option maxHeartbeats 800000 in
theorem number_tab (h:Tb w B p v q ns) (s:ByteArray) (hs:s.size<=281474976710656) :
  Calls Tryz.prog 112 #[.agg #[.pointer (some ⟨p,0,none⟩)],.string s] w fun e w'=>e=.returned (.int .i64 (num ns s:Int))/\Below w.heap.size w w':=by
 have hb:=hid (below_alloc w (.cells #[.pointer (some ⟨p,0,none⟩)] 85))
 have hf:=hid (find_any (h.below hb.out) s hs)
 generalize num ns s=k at *
 clear h
 go_enter Tryz.func112,Tryz.ntmps112
 go_wp2_with (go_at_call 72;refine hf.out.mono ?_;rintro e w1 ⟨rfl,hw⟩;replace hw:=hw.symm;subst hw)
 go_ret
 exact⟨rfl,hb.out⟩
end
def szN (nd:Nd):Nat:=if nd.kind=1 then 1 else if nd.kind=4 then 1+nd.args.length else 0
set_option maxHeartbeats 800000 in
theorem size_any (w:World) (nd:Nd) (ao:Option Addr) (c:Nat) (hl:nd.args.length<=5000) :
  Calls Tryz.prog 75 #[.agg #[.int .i64 nd.kind,.string nd.name,.int .i64 nd.num,.slice ao nd.args.length c]] w fun e w'=>e=.returned (.int .i64 (szN nd:Int))/\Below w.heap.size w w':=by
 obtain⟨kd,nm,nu,args⟩:=nd
 dsimp only at hl ⊢
 have hR:Hid (szN ⟨kd,nm,nu,args⟩=if kd=1 then 1 else if kd=4 then 1+args.length else 0):=rfl
 generalize szN ⟨kd,nm,nu,args⟩=R at *
 by_cases h1:kd=1
 ·have hR1:Hid (R=1):=show _=_ by rw[hR.out,if_pos h1]
  subst h1
  clear hR
  go_enter Tryz.func75,Tryz.ntmps75
  go_wp2
  go_ret
  exact⟨ret_int (by rw[hR1.out];rfl),below_alloc _ _⟩
 ·by_cases h4:kd=4
  ·have hR1:Hid (R=1+args.length):=show _=_ by rw[hR.out,if_neg h1,if_pos h4]
   subst h4
   clear hR h1
   go_enter Tryz.func75,Tryz.ntmps75
   go_wp2
   go_ret
   exact⟨ret_int (by rw[hR1.out];omega),below_alloc _ _⟩
  ·have hR1:Hid (R=0):=show _=_ by rw[hR.out,if_neg h1,if_neg h4]
   have d1:(kd == 1)=false:=by simpa using h1
   have d4:(kd == 4)=false:=by simpa using h4
   clear hR h1 h4
   go_enter Tryz.func75,Tryz.ntmps75
   go_wp2
   go_ret
   exact⟨ret_int (by rw[hR1.out];rfl),below_alloc _ _⟩
end Go.Proofs.YtbfbkmkjcekpaaaGreatDoor
namespace Go.Proofs.YtbfbkmkjcekpaaaGreatDoor
set_option maxRecDepth 100000
open Go.RowKit
def mtL (ps M:List Int):List Int:=ps.foldl (fun M x=>if x∈M then M else M++[x]) M
theorem mtL_snoc (ps M:List Int) (x:Int):mtL (ps++[x]) M=if x∈mtL ps M then mtL ps M else mtL ps M++[x]:=by
 unfold mtL
 rw[List.foldl_append]
 rfl
theorem mtL_ok {N:Nat}:∀(ps M:List Int),(∀x∈ps,0<=x/\x<(N:Int))->Ok N M->Ok N (mtL ps M)/\(∃r,mtL ps M=M++r)/\(∀x∈mtL ps M,x∈M∨x∈ps)/\∀x∈ps,x∈mtL ps M
 | [],M,_,hM=>⟨hM,⟨[],by simp[mtL]⟩,fun x hx=>Or.inl hx,fun x hx=>by cases hx⟩
 | y::ps,M,hp,hM=>by
  have hy:=hp y (by simp)
  have e:mtL (y::ps) M=mtL ps (if y∈M then M else M++[y]):=rfl
  rw[e]
  by_cases hin:y∈M
  ·rw[if_pos hin]
   obtain⟨h1,⟨r,hr⟩,h3,h4⟩:=mtL_ok ps M (fun x hx=>hp x (by simp[hx])) hM
   refine⟨h1,⟨r,hr⟩,fun x hx=>(h3 x hx).imp id (fun h=>by simp[h]),fun x hx=>?_⟩
   rcases List.mem_cons.1 hx with rfl | hx
   ·rw[hr];simp[hin]
   ·exact h4 x hx
  ·rw[if_neg hin]
   obtain⟨h1,⟨r,hr⟩,h3,h4⟩:=mtL_ok ps (M++[y]) (fun x hx=>hp x (by simp[hx])) (ok_snoc hM hin hy.1 hy.2)
   refine⟨h1,⟨[y]++r,by rw[hr,List.append_assoc]⟩,fun x hx=>?_,fun x hx=>?_⟩
   ·rcases h3 x hx with h | h
    ·rcases List.mem_append.1 h with h | h
     ·exact Or.inl h
     ·exact Or.inr (by simp at h;simp[h])
    ·exact Or.inr (by simp[h])
   ·rcases List.mem_cons.1 hx with rfl | hx
    ·rw[hr];simp
    ·exact h4 x hx
def rchN (l:List Int) (x:Int):List Int:=rchL x.toNat (wdN l x.toNat)
inductive RcB (l cs:List Int):Int->Prop
 | root {x:Int} (h:x∈cs):RcB l cs x
 | step {x y:Int} (h:RcB l cs x) (hy:y∈rchN l x):RcB l cs y
structure RcI (l cs M:List Int) (i:Nat):Prop where
 ok:Ok l.length M
 root:∀x∈cs,x∈M
 way:∀x∈M,RcB l cs x
 done:∀j,j<i->∀y∈rchN l (M.getD j 0),y∈M
theorem rch_rng {l:List Int} {V:Nat->Bool} (h:Snd l V) {x:Int} (h0:0<=x) (h1:x<(l.length:Int)):∀y∈rchN l x,0<=y/\y<(l.length:Int):=fun y hy=>by
 obtain⟨k,rfl⟩:∃k:Nat,x=(k:Int):=⟨x.toNat,by omega⟩
 have hk:k<l.length:=by omega
 have hg:=h.good k hk
 unfold rchN rchL at hy
 rw[Int.toNat_natCast] at hy
 have e2:vlN l k=(valOf (wdN l k)).toNat:=rfl
 split at hy
 ·rename_i h3
  have hv:=val_place hg h3
  have:vlN l k<l.length:=by
   rcases h3 with e | e | e
   ·exact (h.ref k hk e).1
   ·exact (h.str k hk e).1
   ·exact Nat.lt_trans (h.fwd k hk e).1 hk
  have hy':y=valOf (wdN l k):=by simpa using hy
  omega
 ·split at hy
  ·rename_i h4
   have ha:=(h.args k hk h4).1
   have hf:=fun_val (wdN l k) hg h4
   obtain⟨i,hi,rfl⟩:=List.mem_map.1 hy
   have hi:=List.mem_range.1 hi
   have e3:arN' l k=(valOf (wdN l k)).toNat % 16:=rfl
   omega
  ·cases hy
theorem RcI.start {l cs:List Int} (hc:∀x∈cs,0<=x/\x<(l.length:Int)):RcI l cs (mtL cs []) 0:=by
 obtain⟨h1,_,h3,h4⟩:=mtL_ok cs [] hc (ok_nil _)
 exact⟨h1,h4,fun x hx=>.root ((h3 x hx).resolve_left (by simp)),fun j hj=>absurd hj (Nat.not_lt_zero _)⟩
theorem RcI.at' {l cs M:List Int} {i j:Nat} (h:RcI l cs M i) (hj:j<M.length):0<=M.getD j 0/\M.getD j 0<(l.length:Int):=h.ok.rng _ (by simp[List.getD,hj])
theorem RcI.step {l cs M:List Int} {V:Nat->Bool} {i:Nat} (hs:Snd l V) (h:RcI l cs M i) (hi:i<M.length):RcI l cs (mtL (rchN l (M.getD i 0)) M) (i+1):=by
 have hr:=h.at' hi
 obtain⟨h1,⟨r,hr1⟩,h3,h4⟩:=mtL_ok (rchN l (M.getD i 0)) M (rch_rng hs hr.1 hr.2) h.ok
 have hin:∀x∈M,x∈mtL (rchN l (M.getD i 0)) M:=fun x hx=>by rw[hr1];simp[hx]
 have hat:∀j,j<M.length->(mtL (rchN l (M.getD i 0)) M).getD j 0=M.getD j 0:=fun j hj=>by rw[hr1];simp[List.getD,List.getElem?_append_left hj]
 refine⟨h1,fun x hx=>hin x (h.root x hx),fun x hx=>?_,fun j hj y hy=>?_⟩
 ·rcases h3 x hx with hx | hx
  ·exact h.way x hx
  ·exact .step (h.way (M.getD i 0) (by simp[List.getD,hi])) hx
 ·rw[hat j (by omega)] at hy
  rcases Nat.lt_or_ge j i with h5 | h5
  ·exact hin y (h.done j h5 y hy)
  ·have e:j=i:=by omega
   subst e
   exact h4 y hy
theorem RcI.more {l cs M:List Int} {V:Nat->Bool} {i:Nat} (hs:Snd l V) (h:RcI l cs M i) (hi:i<M.length):M.length<=(mtL (rchN l (M.getD i 0)) M).length:=by
 have hr:=h.at' hi
 obtain⟨h1,⟨r,hr1⟩,h3,h4⟩:=mtL_ok (rchN l (M.getD i 0)) M (rch_rng hs hr.1 hr.2) h.ok
 rw[hr1]
 simp
structure RcS (l cs M:List Int):Prop where
 ok:Ok l.length M
 all:∀x,x∈M↔RcB l cs x
theorem RcI.fin {l cs M:List Int} {i:Nat} (h:RcI l cs M i) (hi:M.length<=i):RcS l cs M:=by
 refine⟨h.ok,fun x=>⟨h.way x,fun hx=>?_⟩⟩
 induction hx with
 | root h0=>exact h.root _ h0
 | step _ hy ih=>
  obtain⟨j,hj,e⟩:=List.getElem_of_mem ih
  refine h.done j (by omega) _ ?_
  rw[show M.getD j 0=_ by simp[List.getD,hj];exact e]
  exact hy
end Go.Proofs.YtbfbkmkjcekpaaaGreatDoor
namespace Go.Proofs.YtbfbkmkjcekpaaaGreatDoor
set_option maxRecDepth 100000
open Go.RowKit
theorem crm_eg:∀args w,(callFunc 97 args).run Tryz.prog w=.ok (.enter 97 args) w:=enters_of Tryz.func97 (by kernel_rfl) rfl
structure Sr (W w:World) (N sr sv mv:Nat) (m:List Int) (ao:Option Addr) (c:Nat):Prop where
 b:Below W.heap.size W w
 sc:w.cell? ⟨sv,0,none⟩=some (.slice (some ⟨sr,0,none⟩) N N)
 row:w.heap[sr]?=some (.cells (seenArr N m) 4 (0,0))
 met:w.heap[mv]?=some (.cells #[.slice ao m.length c] 23 (0,0))
 own:w.ownsRow W.heap.size 3 1 (.slice ao m.length c) m.length (m.map (Value.int .i64))
 far:∀k,Value.ownBlock (.slice ao m.length c)=some k->k∉[sr,sv,mv]
structure Bk3 (W:World) (sr sv mv:Nat):Prop where
 nd:[sr,sv,mv].Nodup
 ge:∀k∈[sr,sv,mv],W.heap.size<=k
section
variable {W w w' w2:World} {N sr sv mv:Nat} {m:List Int} {ao:Option Addr} {c:Nat}
theorem Sr.next (h:Sr W w N sr sv mv m ao c) (hb:Below w.heap.size w w'):Sr W w' N sr sv mv m ao c:=
 ⟨Below.next h.b hb,(hb.cell (p:=⟨sv,0,none⟩) (lt_of_cell h.sc)).trans h.sc,(hb.block _ (lt_of_block h.row)).trans h.row,(hb.block _ (lt_of_block h.met)).trans h.met,own_block h.own (fun k e=>hb.block k (h.own.lt k e).2),h.far⟩
theorem Sr.drew (h:Sr W w N sr sv mv m ao c):Sr W w.drew N sr sv mv m ao c:=h.next (Below.refl _ w).drew
theorem Sr.lt (h:Sr W w N sr sv mv m ao c):∀k∈[sr,sv,mv],k<w.heap.size:=fun k hk=>by
 simp at hk
 rcases hk with rfl | rfl | rfl
 ·exact lt_of_block h.row
 ·exact lt_of_cell h.sc
 ·exact lt_of_block h.met
theorem Sr.mark {n:Nat} (hB:Bk3 W sr sv mv) (h:Sr W w N sr sv mv m ao c) (o:Obj) :
  (w.setCell ⟨sr,n,none⟩ (.bool true)).cell? ⟨mv,0,none⟩=some (.slice ao m.length c)/\((w.setCell ⟨sr,n,none⟩ (.bool true)).alloc o).ownsRow W.heap.size 3 1 (.slice ao m.length c) m.length (m.map (Value.int .i64)):=by
 have hnd:=hB.nd
 simp only[List.nodup_cons,List.mem_cons,List.not_mem_nil,or_false,not_or,List.nodup_nil,and_true,not_false_eq_true] at hnd
 refine⟨?_,own_block h.own (fun k e=>?_)⟩
 ·rw[World.cell?_of_block (a:=⟨mv,0,none⟩) (Below.heap_setCell w ⟨sr,n,none⟩ _ mv (fun e=>hnd.1.2 e.symm))]
  exact cell_of_one h.met
 ·have hlt:=(h.own.lt k e).2
  rw[Below.heap_alloc _ _ _ (by simpa using hlt),Below.heap_setCell _ _ _ _ (fun e'=>h.far k e (by rw[e'];simp))]
theorem Sr.push {n:Nat} {o:Obj} {g cap:Nat} (hB:Bk3 W sr sv mv) (h:Sr W w N sr sv mv m ao c)
  (hg:((w.setCell ⟨sr,n,none⟩ (.bool true)).alloc o).grownBy w2 (Value.ownBlock (.slice ao m.length c)))
  (hown:w2.ownsRow W.heap.size 3 1 (.slice (some ⟨g,0,none⟩) (m.length+1) cap) (m.length+1) (m.map (Value.int .i64)++[.int .i64 (n:Int)]))
  (hat:Value.ownBlock (.slice ao m.length c)=some g∨g=w.heap.size+1) :
  Sr W (w2.setCell ⟨mv,0,none⟩ (.slice (some ⟨g,0,none⟩) (m.length+1) cap)) N sr sv mv (m++[(n:Int)]) (some ⟨g,0,none⟩) cap:=by
 have hnd:=hB.nd
 simp only[List.nodup_cons,List.mem_cons,List.not_mem_nil,or_false,not_or,List.nodup_nil,and_true,not_false_eq_true] at hnd
 obtain⟨⟨a1,a2⟩,a3⟩:=hnd
 have hlt:=h.lt
 have hsz:((w.setCell ⟨sr,n,none⟩ (.bool true)).alloc o).heap.size=w.heap.size+1:=by simp
 have h1:∀k∈[sr,sv,mv],w2.heap[k]?=(w.setCell ⟨sr,n,none⟩ (.bool true)).heap[k]?:=fun k hk'=>by
  rw[hg.block k (by have:=hlt k hk';omega) (fun e=>h.far k e.symm hk'),Below.heap_alloc _ _ _ (by simpa using hlt k hk')]
 have hgk:g∉[sr,sv,mv]:=by
  rcases hat with e | e
  ·exact h.far g e
  ·intro hx
   have:=hlt g hx
   omega
 have hmv:=h1 mv (by simp)
 rw[Below.heap_setCell _ _ _ _ (fun e=>a2 e.symm),h.met] at hmv
 have hb1:Below W.heap.size W ((w.setCell ⟨sr,n,none⟩ (.bool true)).alloc o):=(h.b.setCell (hB.ge sr (by simp)) _).alloc (by simpa using h.b.size) _
 refine⟨?_,?_,?_,?_,?_,?_⟩
 ·exact (hb1.grown hg hb1.size (fun k e=>(h.own.lt k e).1)).setCell (hB.ge mv (by simp)) _
 ·refine (World.cell?_of_block (a:=⟨sv,0,none⟩) ?_).trans h.sc
  rw[Below.heap_setCell _ _ _ _ a3,h1 sv (by simp),Below.heap_setCell _ _ _ _ (fun e=>a1 e.symm)]
 ·rw[Below.heap_setCell _ _ _ _ a2,h1 sr (by simp),heap_setCell_same w sr n _ _ _ h.row,seen_set]
 ·have:=one_setCell (u:=.slice (some ⟨g,0,none⟩) (m.length+1) cap) hmv
  simpa using this
 ·have h3:(w2.setCell ⟨mv,0,none⟩ (.slice (some ⟨g,0,none⟩) (m.length+1) cap)).ownsRow W.heap.size 3 1 (.slice (some ⟨g,0,none⟩) (m.length+1) cap) (m.length+1) (m.map (Value.int .i64)++[.int .i64 (n:Int)]):=
   own_block hown (fun k e=>Below.heap_setCell _ _ _ _ (fun e'=>hgk (by
    have:g=k:=by simpa[Value.ownBlock] using e
    rw[this,e']
    simp)))
  simpa using h3
 ·intro k e
  have:g=k:=by simpa[Value.ownBlock] using e
  rw[←this]
  exact hgk
def srS (sr mv:Nat) (u:Value) (k:Nat):Prop:=k=sr∨k=mv∨u.ownBlock=some k
theorem mo_push {W0:World} {u0 u:Value} {n:Nat} {o:Obj} {v':Value} (hM:Mo (srS sr mv u0) W0 w) (hu:∀q,u.ownBlock=some q->u0.ownBlock=some q∨W0.heap.size<=q) (hg:((w.setCell ⟨sr,n,none⟩ (.bool true)).alloc o).grownBy w2 u.ownBlock):Mo (srS sr mv u0) W0 (w2.setCell ⟨mv,0,none⟩ v'):=by
 have h1:Mo (srS sr mv u0) W0 ((w.setCell ⟨sr,n,none⟩ (.bool true)).alloc o):=(hM.setCell (p:=⟨sr,n,none⟩) (Or.inl (Or.inl rfl)) _).alloc o
 have h2:Mo (srS sr mv u0) W0 w2:=h1.grown hg (fun k e=>by
  rcases hu k e with h | h
  ·exact Or.inl (Or.inr (Or.inr h))
  ·exact Or.inr h)
 exact h2.setCell (p:=⟨mv,0,none⟩) (Or.inl (Or.inr (Or.inl rfl))) _
end
theorem far_3 {w w2:World} {row:Option Nat} {mv sr n:Nat} {v:Value} {o:Obj} {T:TypeId} (hm:w.heap[mv]?=some (.cells #[v] T (0,0))) (hs:mv≠sr) (hg:((w.setCell ⟨sr,n,none⟩ (.bool true)).alloc o).grownBy w2 row) (hr:some mv≠row) :
  w2.cell? ⟨mv,0,none⟩=some v/\w2.frozen? ⟨mv,0,none⟩=false:=far_one hm hs hg hr
def Sm (W w0 w:World) (N sr sv mv:Nat) (u0:Value) (m:List Int):Prop:=∃ao c,Sr W w N sr sv mv m ao c/\Mo (srS sr mv u0) w0 w/\∀q,Value.ownBlock (.slice ao m.length c)=some q->u0.ownBlock=some q∨w0.heap.size<=q
set_option maxHeartbeats 4000000 in
theorem mt_any {W:World} {N sr sv mv:Nat} (hB:Bk3 W sr sv mv) (l m:List Int) (va:Option Addr) (vc:Nat) (ao:Option Addr) (c:Nat) (w:World)
  (hv:∀j,j<l.length->∃b o,va=some ⟨b,o,none⟩/\w.cell? ⟨b,o+j,none⟩=some (.int .i64 (l.getD j 0))/\¬srS sr mv (.slice ao m.length c) b)
  (hl:∀x∈l,0<=x/\x<(N:Int)) (hlen:l.length<=5000) (hN:N<=5000) (hok:Ok N m) (hst:Sr W w N sr sv mv m ao c) :
  Calls Tryz.prog 97 #[.slice va l.length vc,.pointer (some ⟨sv,0,none⟩),.pointer (some ⟨mv,0,none⟩)] w fun e w'=>e=.returned (.tuple #[])/\∃ao' c',Sr W w' N sr sv mv (mtL l m) ao' c':=by
 obtain⟨i0,hi,hz0,hz1,hz2⟩:=info_parts infoI
 have hS0:Hid (Sm W w w N sr sv mv (.slice ao m.length c) m):=⟨ao,c,hst,Mo.refl _ _,fun q e=>Or.inl e⟩
 go_enter Tryz.func97,Tryz.ntmps97
 go_wp2
 go_loopw [8] (fun i wr=>∃k:Nat,k<=l.length/\i=.int .i64 (k:Int)/\Hid (Sm W w wr N sr sv mv (.slice ao m.length c) (mtL (l.take k) m))) (fun i _=>l.length-(intOf i).toNat)
 case atStart=>exact⟨0,Nat.zero_le _,rfl,by simpa[Hid,mtL] using hS0⟩
 case round=>
  obtain⟨k,hk,rfl,hS⟩:=hrel
  by_cases hlt:k<l.length
  ·obtain⟨lb,lo,rfl,hlc,hnS⟩:=hv k hlt
   have hx:=hl _ (getD_mem hlt)
   obtain⟨n,hn⟩:∃n:Nat,l.getD k 0=(n:Int):=⟨(l.getD k 0).toNat,by omega⟩
   have hM:=(mtL_ok (l.take k) m (fun x hx=>hl x (List.mem_of_mem_take hx)) hok).1
   have hMs:mtL (l.take (k+1)) m=if (n:Int)∈mtL (l.take k) m then mtL (l.take k) m else mtL (l.take k) m++[(n:Int)]:=by rw[take_snoc hlt,hn,mtL_snoc]
   obtain⟨ao',c',hS1,hM1,hQ1⟩:=hS.out
   have hlc':wr.cell? ⟨lb,lo+k,none⟩=some (.int .i64 (n:Int)):=by
    rw[World.cell?_of_block (w:=w) (a:=⟨lb,lo+k,none⟩) (hM1.block lb (lt_of_cell hlc) hnS),hlc,hn]
   rw[hn] at hx
   have hnN:n<N:=by omega
   generalize mtL (l.take k) m=M at hS1 hM1 hQ1 hM hMs
   have s0:=hS1.sc
   have s1:wr.cell? ⟨sr,n,none⟩=some (.bool (decide ((n:Int)∈M))):=by
    rw[cell_of_row wr sr n _ _ _ hS1.row]
    exact seen_at hnN
   by_cases hin:(n:Int)∈M
   ·rw[decide_eq_true hin] at s1
    rw[if_pos hin] at hMs
    have hS':Hid (Sm W w wr N sr sv mv (.slice ao m.length c) (mtL (l.take (k+1)) m)):=by rw[hMs];exact⟨ao',c',hS1,hM1,hQ1⟩
    clear hin hMs hM hS hS1 hM1 hQ1 hlc hv hl hn hst hS0
    go_wp2
    go_roundw
    case rel=>exact⟨k+1,by omega,congrArg (Value.int .i64) (by omega),hS'⟩
    case measure=>simp[intOf];omega
   ·rw[decide_eq_false hin] at s1
    rw[if_neg hin] at hMs
    have hML:=(ok_snoc hM hin hx.1 hx.2).le
    simp at hML
    have hS':Hid (∀(w2:World) (gg cap:Nat),((wr.setCell ⟨sr,n,none⟩ (.bool true)).alloc (.cells #[.int .i64 (n:Int)] 3)).grownBy w2 (Value.ownBlock (.slice ao' M.length c'))->w2.ownsRow W.heap.size 3 1 (.slice (some ⟨gg,0,none⟩) (M.length+1) cap) (M.length+1) (M.map (Value.int .i64)++[.int .i64 (n:Int)])->(Value.ownBlock (.slice ao' M.length c')=some gg∨gg=wr.heap.size+1)->Sm W w (w2.setCell ⟨mv,0,none⟩ (.slice (some ⟨gg,0,none⟩) (M.length+1) cap)) N sr sv mv (.slice ao m.length c) (mtL (l.take (k+1)) m)):=fun w2 gg cap hg ho hat=>by
     rw[hMs]
     refine⟨_,_,Sr.push hB hS1 hg ho hat,mo_push hM1 hQ1 hg,fun q e=>?_⟩
     have eq:gg=q:=by simpa[Value.ownBlock] using e
     subst eq
     rcases hat with h | h
     ·exact hQ1 _ h
     ·exact Or.inr (by have:=hM1.size;omega)
    obtain⟨hm3,hm4⟩:=Sr.mark (n:=n) hB hS1 (.cells #[.int .i64 (n:Int)] 3)
    have hm0:=hS1.met
    have z1:wr.frozen? ⟨sr,n,none⟩=false:=by simp[World.frozen?,hS1.row]
    have hms:mv≠sr:=fun e=>by
     have:=hB.nd
     simp[e] at this
    have hsz:=hS1.b.size
    have hrm:some mv≠Value.ownBlock (.slice ao' M.length c'):=fun e=>hS1.far mv e.symm (by simp)
    clear hMs hM hlc hv hl hn hst hS hS0 hS1 hM1 hQ1
    go_wp2_with (at_builtin;refine wpList_append_lies _ rfl _ _ _ rfl W.heap.size 3 i0 (.int .i64 0) 1 8 Tryz.underlying23 hi hz0 hz1 hz2 rfl (by decide) _ M.length (M.map (Value.int .i64)) rfl hm4 ⟨wr.heap.size,0,none⟩ 1 1 [.int .i64 (n:Int)] rfl rfl (World.news_of_block (cs:=#[.int .i64 (n:Int)]) (t:=3) (fr:=(0,0)) (by simpa using heap_alloc_new (wr.setCell ⟨sr,n,none⟩ (.bool true)) (.cells #[.int .i64 (n:Int)] 3))) (by simp[Value.oneCell']) (by omega) (by unfold maxLen;omega) (by omega) (by simp;omega) (wr.heap.size+1) (by simp) ?_;intro gg cap w2 hown2 hgr hat hltg;obtain⟨d0,d1⟩:=far_3 hm0 hms hgr hrm)
    have hS3:=hid (hS'.out w2 gg cap hgr hown2 hat)
    clear hgr hown2 hat d0 d1 hm0 hm3 hm4 hrm hltg s0 s1 z1 hS'
    try go_wp2
    go_roundw
    case rel=>exact⟨k+1,by omega,congrArg (Value.int .i64) (by omega),hS3⟩
    case measure=>simp[intOf];omega
  ·have hS':Hid (Sm W w wr N sr sv mv (.slice ao m.length c) (mtL l m)):=by
    have:=hS
    rw[List.take_of_length_le (by omega)] at this
    exact this
   clear hv hl hst hS0 hS
   go_wp2
   go_end0
   obtain⟨ao',c',h1,_⟩:=hS'.out
   exact⟨rfl,ao',c',h1⟩
end Go.Proofs.YtbfbkmkjcekpaaaGreatDoor
