/- Package cells: what a cell holds. -/
import Derived.Test.YtpkojcfdkkjmcaaGreatDoorso15Z
import Derived.Test.YtpkojcfdkkjmcaaGreatDoorso03Z
import Derived.Test.YtpkojcfdkkjmcaaGreatDoorso05Z
import Derived.Test.YtpkojcfdkkjmcaaGreatDoorso13Z
namespace Go.Proofs.YtpkojcfdkkjmcaaGreatDoor
set_option maxRecDepth 100000
open Go.RowKit
section
variable {w:World} {B p q:Nat} {v:Value} {ns:List ByteArray}
set_option maxHeartbeats 800000 in
theorem text_any (h:Tb w B p v q ns) (k:Nat) (hk:k<ns.length) :
  Calls Tryz.prog 144 #[.agg #[.pointer (some ⟨p,0,none⟩)],.int .i64 (k:Int)] w fun e w'=>e=.returned (.string (ns.getD k ⟨#[]⟩))/\Below w.heap.size w w':=by
 have hb:=hid (below_alloc w (.cells #[.pointer (some ⟨p,0,none⟩)] 96))
 have hnm:=hid (name_yes (h.below hb.out) k hk)
 have hsz:(ns.getD k ⟨#[]⟩).size<=281474976710656:=by
  have h1:=h.good (ns.getD k ⟨#[]⟩) (by simp[List.getD,hk])
  have:=n_goodS_size h1
  omega
 have hcl:=hid (fun w=>n_clone_any (ns.getD k ⟨#[]⟩) w hsz)
 generalize ns.getD k ⟨#[]⟩=s at *
 clear h hk
 go_enter Tryz.func144,Tryz.ntmps144
 go_wp2_with (first
  | (go_at_call 170;refine hnm.out.mono ?_;rintro e w1 ⟨rfl,rfl⟩)
  | (go_at_call 90;refine (hcl.out _).mono ?_;rintro e w1 ⟨rfl,hb1⟩))
 go_ret
 exact⟨rfl,Below.next hb.out hb1⟩
end
def rchL (k:Nat) (x:Int):List Int:=if x % 8=0∨x % 8=3∨x % 8=5 then [valOf x] else if x % 8=4 then (List.range (valOf x % 16).toNat).map (fun i=>((k+1+i:Nat):Int)) else []
theorem rng_take {k i:Nat}:(List.range (i+1)).map (fun i=>((k+1+i:Nat):Int))=(List.range i).map (fun i=>((k+1+i:Nat):Int))++[((k+1+i:Nat):Int)]:=by
 rw[List.range_succ,List.map_append]
 rfl
set_option maxHeartbeats 2000000 in
theorem reached_any (w:World) (k:Nat) (hk:k<65536) (x:Int) (h0:0<=x) (h1:x<=18446744073709551615) (hg:goodB x=true) :
  Calls Tryz.prog 147 #[.int .i64 (k:Int),.int .u64 x] w fun e w'=>(∃ao c,e=.returned (.slice ao (rchL k x).length c)/\w'.ownsRow w.heap.size 3 1 (.slice ao (rchL k x).length c) (rchL k x).length ((rchL k x).map (Value.int .i64)))/\Below w.heap.size w w':=by
 obtain⟨i0,hi,hz0,hz1,hz2⟩:=info_parts infoI
 by_cases hp:x % 8=0∨x % 8=3∨x % 8=5
 ·have hR:Hid (rchL k x=[valOf x]):=show _=_ by unfold rchL;rw[if_pos hp]
  have hpl:=hid (fun w=>place_yes x w h0 h1 hg hp)
  generalize rchL k x=R at *
  generalize valOf x=y at *
  have hlit:=hid (World.ownsRow_lit (base:=w.heap.size) (e:=3) (size:=1) w #[.int .i64 y] 1 (Nat.le_refl _) (by unfold maxLen;omega) (by simp))
  go_enter Tryz.func147,Tryz.ntmps147
  go_wp2_with (go_at_call 168;refine (hpl.out _).mono ?_;rintro e w1 ⟨rfl,rfl⟩)
  go_ret
  rw[hR.out]
  exact⟨⟨_,_,rfl,hlit.out⟩,below_alloc _ _⟩
 ·have hpl:=hid (fun w=>place_no x w h0 h1 (Or.inr (by omega)))
  by_cases h4:x % 8=4
  ·have hfv:=fun_val x hg h4
   obtain⟨a,ha⟩:∃a:Nat,valOf x % 16=(a:Int):=⟨(valOf x % 16).toNat,by omega⟩
   have hR:Hid (rchL k x=(List.range a).map (fun i=>((k+1+i:Nat):Int))):=show _=_ by
    unfold rchL
    rw[if_neg hp,if_pos h4,ha,Int.toNat_natCast]
   have hhd:=hid (fun w=>head_yes x w h0 h1 hg h4)
   rw[ha] at hhd
   have ha8:a<=8:=by omega
   generalize rchL k x=R at *
   generalize valOf x / 16=f at *
   clear hp h4 hfv ha
   obtain⟨W,rfl⟩:∃W:World,W=w:=⟨_,rfl⟩
   go_enter Tryz.func147,Tryz.ntmps147
   go_wp2_with (first
    | (go_at_call 168;refine (hpl.out _).mono ?_;rintro e w1 ⟨rfl,hw1⟩;replace hw1:=hw1.symm;subst hw1)
    | (go_at_call 146;refine (hhd.out _).mono ?_;rintro e w1 ⟨rfl,hw1⟩;replace hw1:=hw1.symm;subst hw1))
   go_loopw [7,11,27] (fun s _ i wr=>∃(j:Nat) (ao:Option Addr) (c:Nat),j<=a/\i=.int .i64 (j:Int)/\s=.slice ao j c/\Hid (Below W.heap.size W wr)/\Hid (wr.ownsRow W.heap.size 3 1 (.slice ao j c) j (((List.range j).map (fun i=>((k+1+i:Nat):Int))).map (Value.int .i64)))) (fun _ _ i _=>a-(intOf i).toNat)
   case atStart=>exact⟨0,none,0,Nat.zero_le _,rfl,rfl,Below.refl _ _,World.ownsRow_nil _ _ _ _⟩
   case round=>
    obtain⟨j,ao,c,hj,rfl,rfl,hb,ho⟩:=hrel
    by_cases hlt:j<a
    ·have hji:(j:Int)<(a:Int):=by omega
     have hO1:=World.ownsRow.alloc ho.out (.cells #[.int .i64 ((k:Int)+1+(j:Int))] 3)
     have hzk:=hb.out.size
     have hlo:Hid (∀q,(Value.slice ao j c).ownBlock=some q->W.heap.size<=q):=fun q hq=>(ho.out.lt q hq).1
     have hst:Hid (((List.range (j+1)).map (fun i=>((k+1+i:Nat):Int))).map (Value.int .i64)=((List.range j).map (fun i=>((k+1+i:Nat):Int))).map (Value.int .i64)++[.int .i64 ((k:Int)+1+(j:Int))]):=show _=_ by
      rw[rng_take,List.map_append]
      congr 2
     generalize ((List.range j).map (fun i=>((k+1+i:Nat):Int))).map (Value.int .i64)=XS at *
     clear ho
     go_wp2_with (at_builtin;go_must (refine wpList_append_lies _ rfl _ _ 36 rfl W.heap.size 3 i0 (.int .i64 0) 1 8 Tryz.underlying36 hi hz0 hz1 hz2 rfl (by decide) _ j _ rfl hO1 ⟨wr.heap.size,0,none⟩ 1 1 [.int .i64 ((k:Int)+1+(j:Int))] rfl rfl (World.news_of_block (cs:=#[.int .i64 ((k:Int)+1+(j:Int))]) (t:=3) (fr:=(0,0)) (heap_alloc_new wr _)) (by simp[Value.oneCell']) (by decide) (by unfold maxLen;omega) (by omega) (by simp;omega) _ rfl ?_;intro g6 cap w6 hown6 hg6 hat6 hlt6))
     have hb6:Hid (Below W.heap.size W w6):=hb.out.trans (((Below.refl _ _).alloc hzk _).grown hg6 (by simp;omega) (fun q hq=>hlo.out q hq))
     go_roundw
     case rel=>exact⟨j+1,some ⟨g6,0,none⟩,cap,by omega,by go_num,rfl,hb6,(show World.ownsRow _ _ _ _ _ _ _ by rw[hst.out];exact hown6)⟩
     case measure=>simp[intOf];omega
    ·obtain rfl:j=a:=by omega
     go_wp2
     go_ret
     rw[hR.out]
     refine⟨⟨ao,c,by simp,?_⟩,hb.out⟩
     have h9:=ho.out
     simp only[List.length_map,List.length_range] at h9 ⊢
     exact h9
  ·have hR:Hid (rchL k x=[]):=show _=_ by unfold rchL;rw[if_neg hp,if_neg h4]
   have hhd:=hid (fun w=>head_no x w h0 h1 (Or.inr h4))
   generalize rchL k x=R at *
   go_enter Tryz.func147,Tryz.ntmps147
   go_wp2_with (first
    | (go_at_call 168;refine (hpl.out _).mono ?_;rintro e w1 ⟨rfl,hw1⟩;replace hw1:=hw1.symm;subst hw1)
    | (go_at_call 146;refine (hhd.out _).mono ?_;rintro e w1 ⟨rfl,hw1⟩;replace hw1:=hw1.symm;subst hw1))
   go_loopw [7,11,27] (fun s _ i wr=>i=.int .i64 0/\s=.slice none 0 0/\wr=w) (fun _ _ _ _=>0)
   case atStart=>exact⟨rfl,rfl,rfl⟩
   case round=>
    obtain⟨rfl,rfl,rfl⟩:=hrel
    go_wp2
    go_ret
    rw[hR.out]
    exact⟨⟨none,0,rfl,World.ownsRow_nil _ _ _ _⟩,Below.refl _ _⟩
end Go.Proofs.YtpkojcfdkkjmcaaGreatDoor
namespace Go.Proofs.YtpkojcfdkkjmcaaGreatDoor
set_option maxRecDepth 100000
open Go.RowKit
def tdK (x:Int):Int:=if x % 8=1 then 2 else if x % 8=2 then 3 else if x % 8=3 then 4 else 1
def tdA (x:Int):Int:=if x % 8=1∨x % 8=2 then -1 else valOf x
def tdS (l:List Int) (ns:List ByteArray) (x:Int):ByteArray:=if x % 8=1 then ns.getD (valOf x).toNat ⟨#[]⟩ else if x % 8=3 then ns.getD (valOf (wdN l (valOf x).toNat) / 16).toNat ⟨#[]⟩ else ⟨#[]⟩
def tdN (x:Int):Int:=if x % 8=2 then valOf x else 0
def tdL (l:List Int) (x:Int):List Int:=if x % 8=3 then rchL (valOf x).toNat (wdN l (valOf x).toNat) else []
structure Tw (l:List Int) (ns:List ByteArray) (x:Int):Prop where
 r0:0<=x
 r1:x<=18446744073709551615
 tag:x % 8=0∨x % 8=1∨x % 8=2∨x % 8=3
 atom:x % 8=1->0<=valOf x/\(valOf x).toNat<ns.length
 str:x % 8=3->0<=valOf x/\(valOf x).toNat<l.length/\tgN l (valOf x).toNat=4/\goodB (wdN l (valOf x).toNat)=true/\(valOf (wdN l (valOf x).toNat) / 16).toNat<ns.length
abbrev cel0:Obj:=.cells #[.int .i64 0,.int .i64 0,.string ⟨#[]⟩,.int .i64 0,.slice none 0 0] 183
theorem ret_cel {w:World} {fn:Func} {t:Tmp} (hfn:fn.results=#[.cell t 183]) {tmps:Array Value} {q:Nat} {u0 u1 u2 u3 u4:Value} (h4:tmps[t]?.getD undef=.pointer (some ⟨q,0,none⟩)) (hq:w.heap[q]?=some (.cells #[u0,u1,u2,u3,u4] 183)):(results fn tmps).run Tryz.prog w=.ok (.agg #[u0,u1,u2,u3,u4]) w:=by
 have z0:w.cell? ⟨q,0,none⟩=some u0:=by simp[World.cell?,hq]
 have z1:w.cell? ⟨q,1,none⟩=some u1:=by simp[World.cell?,hq]
 have z2:w.cell? ⟨q,2,none⟩=some u2:=by simp[World.cell?,hq]
 have z3:w.cell? ⟨q,3,none⟩=some u3:=by simp[World.cell?,hq]
 have z4:w.cell? ⟨q,4,none⟩=some u4:=by simp[World.cell?,hq]
 simp[results,hfn,go_sem,h4,z0,z1,z2,z3,z4]
abbrev set5C (w:World) (q:Nat) (u0 u1 u2 u3 u4:Value):World:=((((w.setCell ⟨q,0,none⟩ u0).setCell ⟨q,1,none⟩ u1).setCell ⟨q,2,none⟩ u2).setCell ⟨q,3,none⟩ u3).setCell ⟨q,4,none⟩ u4
theorem set5C_at {w:World} {q:Nat} {v0 v1 v2 v3 v4:Value} {T:TypeId} (h:w.heap[q]?=some (.cells #[v0,v1,v2,v3,v4] T)) (u0 u1 u2 u3 u4:Value):(set5C w q u0 u1 u2 u3 u4).heap[q]?=some (.cells #[u0,u1,u2,u3,u4] T):=by
 have h0:=heap_setCell_same w q 0 _ _ u0 h
 have h1:=heap_setCell_same _ q 1 _ _ u1 h0
 have h2:=heap_setCell_same _ q 2 _ _ u2 h1
 have h3:=heap_setCell_same _ q 3 _ _ u3 h2
 exact heap_setCell_same _ q 4 _ _ u4 h3
theorem set5C_far (w:World) {q k:Nat} (u0 u1 u2 u3 u4:Value) (h:k≠q):(set5C w q u0 u1 u2 u3 u4).heap[k]?=w.heap[k]?:=by
 rw[Below.heap_setCell _ _ _ _ h,Below.heap_setCell _ _ _ _ h,Below.heap_setCell _ _ _ _ h,Below.heap_setCell _ _ _ _ h,Below.heap_setCell _ _ _ _ h]
theorem set5C_below {W w:World} {n q:Nat} (hb:Below n W w) (hq:n<=q) (u0 u1 u2 u3 u4:Value):Below n W (set5C w q u0 u1 u2 u3 u4):=((((hb.setCell (p:=⟨q,0,none⟩) hq _).setCell (p:=⟨q,1,none⟩) hq _).setCell (p:=⟨q,2,none⟩) hq _).setCell (p:=⟨q,3,none⟩) hq _).setCell (p:=⟨q,4,none⟩) hq _
theorem cel_cells {w:World} {q:Nat} {u0 u1 u2 u3 u4:Value} {T:TypeId} (h:w.heap[q]?=some (.cells #[u0,u1,u2,u3,u4] T)):(w.cell? ⟨q,0,none⟩=some u0/\w.cell? ⟨q,1,none⟩=some u1/\w.cell? ⟨q,2,none⟩=some u2/\w.cell? ⟨q,3,none⟩=some u3/\w.cell? ⟨q,4,none⟩=some u4)/\(w.frozen? ⟨q,0,none⟩=false/\w.frozen? ⟨q,1,none⟩=false/\w.frozen? ⟨q,2,none⟩=false/\w.frozen? ⟨q,3,none⟩=false/\w.frozen? ⟨q,4,none⟩=false)/\q<w.heap.size:=by
 refine⟨⟨?_,?_,?_,?_,?_⟩,⟨?_,?_,?_,?_,?_⟩,lt_of_block h⟩ <;> simp[World.cell?,World.frozen?,h]
section
variable {w:World} {B hb ab tb:Nat} {m:Int} {av:Value} {l:List Int} {tv:Value} {tq:Nat} {ns:List ByteArray} {trv ptv:Value} {n:Int}
set_option maxHeartbeats 4000000 in
theorem ctold_any (h:Hp w B hb ab tb m av l tv tq ns trv ptv n) (x:Int) (hx:Tw l ns x) :
  Calls Tryz.prog 106 #[.pointer (some ⟨hb,0,none⟩),.int .u64 x] w fun e w'=>(∃ao c,e=.returned (.agg #[.int .i64 (tdK x),.int .i64 (tdA x),.string (tdS l ns x),.int .i64 (tdN x),.slice ao (tdL l x).length c])/\w'.ownsRow w.heap.size 3 1 (.slice ao (tdL l x).length c) (tdL l x).length ((tdL l x).map (Value.int .i64)))/\Below w.heap.size w w':=by
 have hb0:=below_alloc w cel0
 have hx0:=hid (heap_alloc_new w cel0)
 have HB0:=hid hb0
 have h1:=h.below hb0
 obtain⟨⟨c0,c1,_⟩,c5⟩:=h1.cells
 have HH:=hid h1
 have htg:=hid (fun w=>tag_any x w hx.r0 hx.r1)
 have hva:=hid (fun w=>value_any x w)
 have hx':=hid hx
 clear h h1 hb0
 rcases hx.tag with ht | ht | ht | ht
 ·have eK:=hid (show tdK x=1/\tdA x=valOf x/\tdS l ns x=⟨#[]⟩/\tdN x=0/\tdL l x=[] by simp[tdK,tdA,tdS,tdN,tdL,ht])
  rw[ht] at htg
  rw[eK.out.1,eK.out.2.1,eK.out.2.2.1,eK.out.2.2.2.1,eK.out.2.2.2.2]
  clear hx ht eK hx'
  generalize valOf x=y at *
  have hfin:=hid (heap_alloc_new w (.cells #[.int .i64 1,.int .i64 y,.string ⟨#[]⟩,.int .i64 0,.slice none 0 0] 183))
  have hbf:=hid (below_alloc w (.cells #[.int .i64 1,.int .i64 y,.string ⟨#[]⟩,.int .i64 0,.slice none 0 0] 183))
  go_enter Tryz.func106,Tryz.ntmps106
  go_wp2_with (first
   | (go_at_call 143;refine (hva.out _).mono ?_;rintro e w2 ⟨rfl,hw⟩;replace hw:=hw.symm;subst hw)
   | (go_at_call 141;refine (htg.out _).mono ?_;rintro e w2 ⟨rfl,hw⟩;replace hw:=hw.symm;subst hw))
  exact bodyPost_ret (ret_cel Tryz.results106 (by rfl) hfin.out) rfl ⟨⟨none,0,rfl,World.ownsRow_nil _ _ _ _⟩,hbf.out⟩
 ·obtain⟨ha0,ha1⟩:=hx.atom ht
  obtain⟨y,hy⟩:∃y:Nat,valOf x=(y:Int):=⟨(valOf x).toNat,by omega⟩
  rw[hy,Int.toNat_natCast] at ha1
  have eK:=hid (show tdK x=2/\tdA x = -1/\tdS l ns x=ns.getD y ⟨#[]⟩/\tdN x=0/\tdL l x=[] by simp[tdK,tdA,tdS,tdN,tdL,ht,hy])
  rw[ht] at htg
  rw[hy] at hva
  have htx:=hid (text_any HH.out.tb y ha1)
  rw[eK.out.1,eK.out.2.1,eK.out.2.2.1,eK.out.2.2.2.1,eK.out.2.2.2.2]
  generalize ns.getD y ⟨#[]⟩=s at *
  clear hx ht eK hx' hy ha0
  go_enter Tryz.func106,Tryz.ntmps106
  go_wp2_with (first
   | (go_at_call 143;refine (hva.out _).mono ?_;rintro e w2 ⟨rfl,hw⟩;replace hw:=hw.symm;subst hw)
   | (go_at_call 141;refine (htg.out _).mono ?_;rintro e w2 ⟨rfl,hw⟩;replace hw:=hw.symm;subst hw)
   | (go_at_call 144;refine htx.out.mono ?_;rintro e w3 ⟨rfl,hb3⟩;have HB3:=hid (Below.next HB0.out hb3);have hx3:=hid ((hb3.block _ (lt_of_block hx0.out)).trans hx0.out);obtain⟨⟨k0,k1,k2,k3,k4⟩,⟨k5,k6,k7,k8,k9⟩,k10⟩:=cel_cells hx3.out;clear hb3))
  have hfin:=set5C_at hx3.out (.int .i64 2) (.int .i64 (-1)) (.string s) (.int .i64 0) (.slice none 0 0)
  have hbf:=set5C_below HB3.out (Nat.le_refl _) (.int .i64 2) (.int .i64 (-1)) (.string s) (.int .i64 0) (.slice none 0 0)
  exact bodyPost_ret (ret_cel Tryz.results106 (by rfl) hfin) rfl ⟨⟨none,0,rfl,World.ownsRow_nil _ _ _ _⟩,hbf⟩
 ·have eK:=hid (show tdK x=3/\tdA x = -1/\tdS l ns x=⟨#[]⟩/\tdN x=valOf x/\tdL l x=[] by simp[tdK,tdA,tdS,tdN,tdL,ht])
  rw[ht] at htg
  rw[eK.out.1,eK.out.2.1,eK.out.2.2.1,eK.out.2.2.2.1,eK.out.2.2.2.2]
  clear hx ht eK hx'
  generalize valOf x=y at *
  have hfin:=hid (heap_alloc_new w (.cells #[.int .i64 3,.int .i64 (-1),.string ⟨#[]⟩,.int .i64 y,.slice none 0 0] 183))
  have hbf:=hid (below_alloc w (.cells #[.int .i64 3,.int .i64 (-1),.string ⟨#[]⟩,.int .i64 y,.slice none 0 0] 183))
  go_enter Tryz.func106,Tryz.ntmps106
  go_wp2_with (first
   | (go_at_call 143;refine (hva.out _).mono ?_;rintro e w2 ⟨rfl,hw⟩;replace hw:=hw.symm;subst hw)
   | (go_at_call 141;refine (htg.out _).mono ?_;rintro e w2 ⟨rfl,hw⟩;replace hw:=hw.symm;subst hw))
  exact bodyPost_ret (ret_cel Tryz.results106 (by rfl) hfin.out) rfl ⟨⟨none,0,rfl,World.ownsRow_nil _ _ _ _⟩,hbf.out⟩
 ·obtain⟨hs0,hs1,hs2,hs3,hs4⟩:=hx.str ht
  obtain⟨y,hy⟩:∃y:Nat,valOf x=(y:Int):=⟨(valOf x).toNat,by omega⟩
  rw[hy,Int.toNat_natCast] at hs1 hs2 hs3 hs4
  have hl6:l.length<=65536:=by
   have h1:=HH.out.ar.len
   have h2:=HH.out.ar.m2
   omega
  have eK:=hid (show tdK x=4/\tdA x=(y:Int)/\tdS l ns x=ns.getD (valOf (wdN l y) / 16).toNat ⟨#[]⟩/\tdN x=0/\tdL l x=rchL y (wdN l y) by simp[tdK,tdA,tdS,tdN,tdL,ht,hy])
  rw[ht] at htg
  rw[hy] at hva
  have hwd:=hid (bword_ok HH.out.ar y hs1)
  have hrz:=HH.out.ar.rng (l.getD y 0) (by simp[List.getD,hs1])
  have hfv:=fun_val (wdN l y) hs3 hs2
  rw[eK.out.1,eK.out.2.1,eK.out.2.2.1,eK.out.2.2.2.1,eK.out.2.2.2.2]
  have ew:wdN l y=l.getD y 0:=rfl
  have ht4:wdN l y % 8=4:=hs2
  rw[←ew] at hwd hrz
  have hhd:=hid (fun w=>head_yes (wdN l y) w hrz.1 hrz.2 hs3 ht4)
  have hrc:=hid (fun w=>reached_any w y (by omega) (wdN l y) hrz.1 hrz.2 hs3)
  clear ew
  generalize wdN l y=z at *
  obtain⟨f,hf⟩:∃f:Nat,valOf z / 16=(f:Int):=⟨(valOf z / 16).toNat,by omega⟩
  rw[hf,Int.toNat_natCast] at hs4
  rw[hf] at hhd
  rw[hf,Int.toNat_natCast]
  have htx:=hid (fun w1 (hb1:Below (w.alloc cel0).heap.size (w.alloc cel0) w1)=>text_any (HH.out.below hb1).tb f hs4)
  generalize ns.getD f ⟨#[]⟩=s at *
  generalize valOf z % 16=ar at *
  generalize hRL:rchL y z=RL at *
  clear hRL
  clear hx ht eK hx' hy hs0 hs1 hs2 hs3 hs4 hfv hf ht4 hrz hl6
  go_enter Tryz.func106,Tryz.ntmps106
  go_wp2_with (first
   | (go_at_call 143;refine (hva.out _).mono ?_;rintro e w2 ⟨rfl,hw⟩;replace hw:=hw.symm;subst hw)
   | (go_at_call 141;refine (htg.out _).mono ?_;rintro e w2 ⟨rfl,hw⟩;replace hw:=hw.symm;subst hw)
   | (go_at_call 145;refine hwd.out.mono ?_;rintro e w3 ⟨rfl,hb3⟩;have Hb3:=hid hb3;obtain⟨⟨d0,d1,_⟩,d5⟩:=(HH.out.below hb3).cells;clear hb3)
   | (go_at_call 146;refine (hhd.out _).mono ?_;rintro e w2 ⟨rfl,hw⟩;replace hw:=hw.symm;subst hw)
   | (go_at_call 144;refine (htx.out _ Hb3.out).mono ?_;rintro e w4 ⟨rfl,hb4⟩;have Hb4:=hid (Below.next Hb3.out hb4);clear hb4)
   | (go_at_call 147;refine (hrc.out _).mono ?_;rintro e w5 ⟨⟨ao,c,rfl,ho⟩,hb5⟩;have HB5:=hid (Below.next Hb4.out hb5);have Ho:=hid ho;have hz4:=hid Hb4.out.size;have hx5:=hid ((HB5.out.block _ (lt_of_block hx0.out)).trans hx0.out);obtain⟨⟨k0,k1,k2,k3,k4⟩,⟨k5,k6,k7,k8,k9⟩,k10⟩:=cel_cells hx5.out;clear hb5 ho))
  have hfin:=set5C_at hx5.out (.int .i64 4) (.int .i64 (y:Int)) (.string s) (.int .i64 0) (.slice ao RL.length c)
  have hbf:=set5C_below (Below.next HB0.out HB5.out) (Nat.le_refl _) (.int .i64 4) (.int .i64 (y:Int)) (.string s) (.int .i64 0) (.slice ao RL.length c)
  have hz5:=hz4.out
  simp at hz5
  have hro:=own_base (B':=w.heap.size) (row_keep Ho.out (fun k hk=>set5C_far w5 (q:=w.heap.size) (.int .i64 4) (.int .i64 (y:Int)) (.string s) (.int .i64 0) (.slice ao RL.length c) (by have:=(Ho.out.lt k hk).1;omega))) (by omega)
  exact bodyPost_ret (ret_cel Tryz.results106 (by rfl) hfin) rfl ⟨⟨ao,c,rfl,hro⟩,hbf⟩
end
end Go.Proofs.YtpkojcfdkkjmcaaGreatDoor
namespace Go.Proofs.YtpkojcfdkkjmcaaGreatDoor
set_option maxRecDepth 100000
open Go.RowKit
structure NsB (l:List Int) (N:Nat):Prop where
 atom:∀k,k<l.length->tgN l k=1->vlN l k<N
 func:∀k,k<l.length->tgN l k=4->(valOf (wdN l k) / 16).toNat<N
theorem trm_ends {l:List Int} {V:Nat->Bool} (h:Snd l V):∀(r k:Nat),k<l.length->rkN l V k<=r->∃j,j<l.length/\nxN l j=none/\trmW l k=endW l j
 | r,k,hk,hr=>by
  cases e:nxN l k with
  | none=>exact⟨k,hk,e,trm_end e⟩
  | some i=>
   obtain⟨h1,h2⟩:=nx_rk h hk e
   rw[trm_next h hk e]
   match r,hr with
   | 0,hr=>omega
   | r+1,hr=>exact trm_ends h r i h1 (by omega)
theorem word_str {j:Nat} (h:j<65536):wordOf 3 (j:Int) % 8=3/\valOf (wordOf 3 (j:Int))=(j:Int)/\0<=wordOf 3 (j:Int)/\wordOf 3 (j:Int)<=18446744073709551615:=by
 unfold wordOf valOf wrap64
 omega
theorem trm_tw {l:List Int} {V:Nat->Bool} {ns:List ByteArray} (h:Snd l V) (hn:NsB l ns.length) (hl:l.length<=65536) {k:Nat} (hk:k<l.length):Tw l ns (trmW l k):=by
 obtain⟨j,hj,e,e2⟩:=trm_ends h _ k hk (Nat.le_refl _)
 rw[e2]
 have hg:=h.good j hj
 have hr:=h.rng (wdN l j) (by unfold wdN;simp[List.getD,hj])
 unfold endW
 by_cases h4:tgN l j=4
 ·rw[if_pos h4]
  obtain⟨s1,s2,s3,s4⟩:=word_str (j:=j) (by omega)
  refine⟨s3,s4,by omega,fun e=>by omega,fun _=>?_⟩
  rw[s2,Int.toNat_natCast]
  exact⟨by omega,hj,h4,hg,hn.func j hj h4⟩
 ·rw[if_neg h4]
  have htc:=tag_cases hg
  have hne:¬(tgN l j=3∨tgN l j=5):=fun h3=>by
   unfold nxN at e
   rw[if_neg (by omega),if_pos h3] at e
   cases e
  have ht:wdN l j % 8=tgN l j:=rfl
  refine⟨hr.1,hr.2,by omega,fun h1=>?_,fun h3=>absurd (Or.inl (ht ▸ h3)) hne⟩
  have hf:fitsB (wdN l j % 8) (valOf (wdN l j))=true:=hg
  rw[h1] at hf
  have:0<=valOf (wdN l j):=by
   simp[fitsB] at hf
   omega
  exact⟨this,hn.atom j hj (ht ▸ h1)⟩
theorem ri_lit1 {w:World} {b:Nat} {x:Int} (h:w.heap[b]?=some (.cells #[.int .i64 x] 3)):Ri w (.slice (some ⟨b,0,none⟩) 1 1) [x]:=by
 refine⟨some ⟨b,0,none⟩,1,rfl,fun j hj=>?_⟩
 have e:j=0:=by simpa using hj
 subst e
 exact⟨b,0,rfl,by simp[World.cell?,h]⟩
theorem ret_celE {w:World} {fn:Func} {t s:Tmp} (hfn:fn.results=#[.cell t 183,.tmp s]) {tmps:Array Value} {q:Nat} {u0 u1 u2 u3 u4 v1:Value} (h4:tmps[t]?.getD undef=.pointer (some ⟨q,0,none⟩)) (h5:tmps[s]?.getD undef=v1) (hq:w.heap[q]?=some (.cells #[u0,u1,u2,u3,u4] 183)):(results fn tmps).run Tryz.prog w=.ok (.tuple #[.agg #[u0,u1,u2,u3,u4],v1]) w:=by
 obtain⟨⟨z0,z1,z2,z3,z4⟩,_⟩:=cel_cells hq
 simp[results,hfn,go_sem,h4,h5,z0,z1,z2,z3,z4]
section
variable {w:World} {B hb ab tb:Nat} {m:Int} {av:Value} {l:List Int} {tv:Value} {tq:Nat} {ns:List ByteArray} {trv ptv:Value} {n:Int} {V:Nat->Bool}
set_option maxHeartbeats 4000000 in
theorem look_ok (h:Hp w B hb ab tb m av l tv tq ns trv ptv n) (hs:Snd l V) (hn:NsB l ns.length) (k:Nat) (hc:cellB l (k:Int)=true) (hk:k<l.length) :
  Calls Tryz.prog 180 #[.pointer (some ⟨hb,0,none⟩),.int .i64 (k:Int)] w fun e w'=>(∃ao c,e=.returned (.tuple #[.agg #[.int .i64 (tdK (trmW l k)),.int .i64 (tdA (trmW l k)),.string (tdS l ns (trmW l k)),.int .i64 (tdN (trmW l k)),.slice ao (tdL l (trmW l k)).length c],.nilIface])/\w'.ownsRow w.heap.size 3 1 (.slice ao (tdL l (trmW l k)).length c) (tdL l (trmW l k)).length ((tdL l (trmW l k)).map (Value.int .i64)))/\Below w.heap.size w w':=by
 have hl6:l.length<=65536:=by
  have h1:=h.ar.len
  have h2:=h.ar.m2
  omega
 have hb0:=below_alloc w cel0
 have hx0:=hid (heap_alloc_new w cel0)
 have hb1:=hb0.alloc (by simp) (.cells #[.int .i64 (k:Int)] 3)
 have hri:Ri ((w.alloc cel0).alloc (.cells #[.int .i64 (k:Int)] 3)) (.slice (some ⟨w.heap.size+1,0,none⟩) 1 1) [(k:Int)]:=ri_lit1 (by
  have h9:=heap_alloc_new (w.alloc cel0) (.cells #[.int .i64 (k:Int)] 3)
  rw[show (w.alloc cel0).heap.size=w.heap.size+1 by simp] at h9
  exact h9)
 have hck:=hid (checkedC_any (h.below hb1).ar hri (by simp))
 have hbf:badF l [(k:Int)]=[]:=by
  unfold badF badC
  rw[if_neg (by rw[ixOf_miss 0 (fun x=>!cellB l x) [(k:Int)] (fun j hj=>by
   have e:j=0:=by simpa using hj
   subst e
   simp[hc])];              omega)]
 rw[hbf] at hck
 have Hb1:=hid hb1
 obtain⟨⟨c0,c1,_⟩,c5⟩:=(h.below hb0).cells
 have htr:=hid (fun w1 (hbb:Below w.heap.size w w1)=>term_any (h.below hbb).ar hs k hk)
 have htd:=hid (fun w1 (hbb:Below w.heap.size w w1)=>ctold_any (h.below hbb) (trmW l k) (trm_tw hs hn hl6 hk))
 have HH:=hid h
 generalize tdK (trmW l k)=tK at *
 generalize tdA (trmW l k)=tA at *
 generalize tdS l ns (trmW l k)=tS at *
 generalize tdN (trmW l k)=tN at *
 generalize tdL l (trmW l k)=tL at *
 generalize trmW l k=X at *
 clear h hs hn hc hk hb0 hb1 hri hbf
 go_enter Tryz.func180,Tryz.ntmps180
 go_wp2_with (first
  | (go_at_call 57;refine (self_some _ _).mono ?_;rintro e w2 ⟨rfl,hw⟩;replace hw:=hw.symm;subst hw)
  | (go_at_call 58;refine hck.out.mono ?_;rintro e w3 ⟨⟨ev,rfl,hev⟩,hb3⟩;have hev1:ev=.nilIface:=hev;subst hev1;have Hb3:=hid (Below.next Hb1.out hb3);have HX3:=hid ((hb3.block _ (by simp;omega)).trans ((Below.heap_alloc (w.alloc cel0) _ _ (by simp)).trans hx0.out));obtain⟨⟨d0,d1,_⟩,d5⟩:=(HH.out.below Hb3.out).cells;clear hev hb3)
  | (go_at_call 142;refine (htr.out _ Hb3.out).mono ?_;rintro e w4 ⟨rfl,hb4⟩;have Hb4:=hid (Below.next Hb3.out hb4);have HX4:=hid ((hb4.block _ (lt_of_block HX3.out)).trans HX3.out);clear hb4)
  | (go_at_call 106;refine (htd.out _ Hb4.out).mono ?_;rintro e w5 ⟨⟨ao,c,rfl,ho⟩,hb5⟩;have Ho:=hid ho;have Hb5:=hid (Below.next Hb4.out hb5);have HX5:=hid ((hb5.block _ (lt_of_block HX4.out)).trans HX4.out);have Hz4:=hid (lt_of_block HX4.out);obtain⟨⟨k0,k1,k2,k3,k4⟩,⟨k5,k6,k7,k8,k9⟩,k10⟩:=cel_cells HX5.out;clear ho hb5))
 have hfin:=set5C_at HX5.out (.int .i64 tK) (.int .i64 tA) (.string tS) (.int .i64 tN) (.slice ao tL.length c)
 have hbf:=set5C_below Hb5.out (Nat.le_refl _) (.int .i64 tK) (.int .i64 tA) (.string tS) (.int .i64 tN) (.slice ao tL.length c)
 have hz4:=Hz4.out
 have hro:=own_base (B':=w.heap.size) (row_keep Ho.out (fun k hk=>set5C_far w5 (q:=w.heap.size) (.int .i64 tK) (.int .i64 tA) (.string tS) (.int .i64 tN) (.slice ao tL.length c) (by have:=(Ho.out.lt k hk).1;omega))) (by omega)
 exact bodyPost_ret (ret_celE Tryz.results180 (by rfl) (by rfl) hfin) rfl ⟨⟨ao,c,rfl,hro⟩,hbf⟩
end
end Go.Proofs.YtpkojcfdkkjmcaaGreatDoor
namespace Go.Proofs.YtpkojcfdkkjmcaaGreatDoor
set_option maxRecDepth 100000
open Go.RowKit
set_option maxHeartbeats 2000000 in
theorem hnew_ok (m:Int) (w:World) (B:Nat) (hB:B<=w.heap.size) (h1:1<=m) (h2:m<=65536) :
  Calls Tryz.prog 7 #[.int .i64 m] w fun e w'=>(∃hb ab tb tq,e=.returned (.tuple #[.pointer (some ⟨hb,0,none⟩),.nilIface])/\Hp w' B hb ab tb m (.slice none 0 0) [] (.slice none 0 0) tq [] (.slice none 0 0) (.slice none 0 0) 0/\w.heap.size<=hb/\w.heap.size<=ab/\w.heap.size<=tb/\w.heap.size<=tq)/\Below w.heap.size w w':=by
 have hnw:=hid (new_ok m w B hB h1 h2)
 go_enter Tryz.func7,Tryz.ntmps7
 go_wp2_with (first
  | (go_at_call 39;refine hnw.out.mono ?_;rintro e w1 ⟨rfl,hA1,hb1⟩;have HA1:=hid hA1;have Hb1:=hid hb1;clear hA1 hb1)
  | (go_at_call 41;refine (new_any w1 B (Nat.le_trans hB Hb1.out.size)).mono ?_;rintro e w2 ⟨rfl,hT2,hb2⟩;have HT2:=hid hT2;have Hb2:=hid hb2;clear hT2 hb2))
 go_ret2
 have hz1:=Hb1.out.size
 have hz2:=Hb2.out.size
 have hb3:=below_alloc w2 (.cells #[.pointer (some ⟨w.heap.size,0,none⟩),.pointer (some ⟨w1.heap.size+1,0,none⟩),.slice none 0 0,.slice none 0 0,.int .i64 0] 100)
 refine⟨⟨w2.heap.size,w.heap.size,w1.heap.size+1,w1.heap.size,rfl,⟨heap_alloc_new w2 _,by omega,(HA1.out.below Hb2.out).below hb3,HT2.out.below hb3⟩,by omega,Nat.le_refl _,by omega,by omega⟩,Below.next (Below.next Hb1.out Hb2.out) hb3⟩
end Go.Proofs.YtpkojcfdkkjmcaaGreatDoor
