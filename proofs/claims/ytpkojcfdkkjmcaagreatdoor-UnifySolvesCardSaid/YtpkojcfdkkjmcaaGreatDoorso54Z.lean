/- UnifySolves: the short ways, and all of it. -/
import Derived.Test.YtpkojcfdkkjmcaaGreatDoorso53Z
namespace Go.Proofs.YtpkojcfdkkjmcaaGreatDoor
set_option maxRecDepth 100000
open Go.RowKit Go.Maps
set_option maxHeartbeats 8000000 in
theorem solves_small {W:World} {nv rv:Value} {g:Gf} (hG:Gr W nv rv g) (hs:smallK 200 g=false) (i j:Int) :
  Calls Tryz.prog 5 #[.agg #[nv,rv],.int .i64 i,.int .i64 j] W fun e w'=>e=.returned (.bool true)/\Below W.heap.size W w':=by
 have hb0:=hid (below_alloc W (grO nv rv))
 have hx0:=hid (heap_alloc_new W (grO nv rv))
 have hsm:=hid (fun w1 (h:Below W.heap.size W w1)=>smallK_any (K:=200) (by decide) (hG.below h))
 rw[hs] at hsm
 obtain⟨na,nc,rfl,_⟩:=hG.1
 obtain⟨ra,rc,rfl,_⟩:=hG.2
 have t1:True:=trivial
 clear hG hs
 go_enter Tryz.func5,Tryz.ntmps5
 go_wp2_with (first
  | (go_at_call 6;have _m:=t1;clear t1 _m;refine (ulives_any _).mono ?_;rintro e w1 ⟨rfl,hb1⟩;have HX1:=hid ((hb1.block _ (by simp)).trans hx0.out);have Hb1:=hid (Below.next hb0.out hb1);obtain⟨⟨x0,x1⟩,_⟩:=cblk2 HX1.out;have x2:=lt_of_block HX1.out;clear hb1)
  | (go_at_call 9;refine (hsm.out _ Hb1.out).mono ?_;rintro e w2 ⟨rfl,hb2⟩;have HX2:=hid ((hb2.block _ (lt_of_block HX1.out)).trans HX1.out);have Hb2:=hid (Below.next Hb1.out hb2);clear hb2 x0 x1 x2;obtain⟨⟨x0,x1⟩,_⟩:=cblk2 HX2.out;have x2:=lt_of_block HX2.out)
  | (go_at_call 6;refine (ulives_any _).mono ?_;rintro e w5 ⟨rfl,hb5⟩;have Hb5:=hid (Below.next Hb2.out hb5);clear hb5))
 go_ret
 exact⟨rfl,Hb5.out⟩
set_option maxHeartbeats 8000000 in
theorem solves_check {W:World} {nv rv:Value} {g:Gf} (hG:Gr W nv rv g) (hS:Sized g) (hs:smallK 200 g=true) (hc:one (chk g)≠[]) (i j:Int) :
  Calls Tryz.prog 5 #[.agg #[nv,rv],.int .i64 i,.int .i64 j] W fun e w'=>e=.returned (.bool true)/\Below W.heap.size W w':=by
 have hb0:=hid (below_alloc W (grO nv rv))
 have hx0:=hid (heap_alloc_new W (grO nv rv))
 have hsm:=hid (fun w1 (h:Below W.heap.size W w1)=>smallK_any (K:=200) (by decide) (hG.below h))
 rw[hs] at hsm
 have hck:Hid (∀w1,Below W.heap.size W w1->Calls Tryz.prog 28 #[.agg #[nv,rv]] w1 fun e w'=>(∃b,e=.returned (.iface 130 (.pointer (some ⟨b,0,none⟩))))/\Below w1.heap.size w1 w'):=fun w1 h=>(check_any (hG.below h) hS).mono fun e w' ⟨⟨ev,e1,hE⟩,hb⟩=>⟨by
  match h9:one (chk g),hc,hE with
  | [],hc,_=>exact absurd rfl hc
  | x::r,_,hE=>
   obtain⟨_,b,ev',e2,_⟩:=hE
   exact⟨b,by rw[e1,e2]⟩,hb⟩
 obtain⟨na,nc,rfl,_⟩:=hG.1
 obtain⟨ra,rc,rfl,_⟩:=hG.2
 have t1:True:=trivial
 clear hG hs hc
 go_enter Tryz.func5,Tryz.ntmps5
 go_wp2_with (first
  | (go_at_call 6;have _m:=t1;clear t1 _m;refine (ulives_any _).mono ?_;rintro e w1 ⟨rfl,hb1⟩;have HX1:=hid ((hb1.block _ (by simp)).trans hx0.out);have Hb1:=hid (Below.next hb0.out hb1);obtain⟨⟨x0,x1⟩,_⟩:=cblk2 HX1.out;have x2:=lt_of_block HX1.out;clear hb1)
  | (go_at_call 9;refine (hsm.out _ Hb1.out).mono ?_;rintro e w2 ⟨rfl,hb2⟩;have HX2:=hid ((hb2.block _ (lt_of_block HX1.out)).trans HX1.out);have Hb2:=hid (Below.next Hb1.out hb2);clear hb2 x0 x1 x2;obtain⟨⟨x0,x1⟩,_⟩:=cblk2 HX2.out;have x2:=lt_of_block HX2.out)
  | (go_at_call 28;refine (hck.out _ Hb2.out).mono ?_;rintro e w3 ⟨⟨b,rfl⟩,hb3⟩;have HX3:=hid ((hb3.block _ (lt_of_block HX2.out)).trans HX2.out);have Hb3:=hid (Below.next Hb2.out hb3);clear hb3 x0 x1 x2;obtain⟨⟨x0,x1⟩,_⟩:=cblk2 HX3.out;have x2:=lt_of_block HX3.out)
  | (go_at_call 6;refine (ulives_any _).mono ?_;rintro e w5 ⟨rfl,hb5⟩;have Hb5:=hid (Below.next Hb3.out hb5);clear hb5))
 go_ret
 exact⟨rfl,Hb5.out⟩
set_option maxHeartbeats 8000000 in
theorem solves_out {W:World} {nv rv:Value} {g:Gf} (hG:Gr W nv rv g) (hS:Sized g) (hs:smallK 200 g=true) (hc:one (chk g)=[]) (i j:Int) (ho:¬(0<=i/\0<=j/\i<(g.nodes.length:Int)/\j<(g.nodes.length:Int))) :
  Calls Tryz.prog 5 #[.agg #[nv,rv],.int .i64 i,.int .i64 j] W fun e w'=>e=.returned (.bool true)/\Below W.heap.size W w':=by
 have hsz:=(smallK_fits hs).2.1
 have hb0:=hid (below_alloc W (grO nv rv))
 have hx0:=hid (heap_alloc_new W (grO nv rv))
 have hsm:=hid (fun w1 (h:Below W.heap.size W w1)=>smallK_any (K:=200) (by decide) (hG.below h))
 rw[hs] at hsm
 have hck:=hid (fun w1 (h:Below W.heap.size W w1)=>check_any (hG.below h) hS)
 rw[hc] at hck
 obtain⟨na,nc,rfl,_⟩:=hG.1
 obtain⟨ra,rc,rfl,_⟩:=hG.2
 clear hG hs hc
 have hway:i<0∨(¬i<0/\j<0)∨(¬i<0/\¬j<0/\(g.nodes.length:Int)<=i)∨(¬i<0/\¬j<0/\¬(g.nodes.length:Int)<=i/\(g.nodes.length:Int)<=j):=by omega
 clear ho
 rcases hway with k1 | ⟨k1,k2⟩ | ⟨k1,k2,k3⟩ | ⟨k1,k2,k3,k4⟩
 all_goals
  have t1:True:=trivial
  go_enter Tryz.func5,Tryz.ntmps5
  go_wp2_with (first
   | (go_at_call 6;have _m:=t1;clear t1 _m;refine (ulives_any _).mono ?_;rintro e w1 ⟨rfl,hb1⟩;have HX1:=hid ((hb1.block _ (by simp)).trans hx0.out);have Hb1:=hid (Below.next hb0.out hb1);obtain⟨⟨x0,x1⟩,_⟩:=cblk2 HX1.out;have x2:=lt_of_block HX1.out;clear hb1)
   | (go_at_call 9;refine (hsm.out _ Hb1.out).mono ?_;rintro e w2 ⟨rfl,hb2⟩;have HX2:=hid ((hb2.block _ (lt_of_block HX1.out)).trans HX1.out);have Hb2:=hid (Below.next Hb1.out hb2);clear hb2 x0 x1 x2;obtain⟨⟨x0,x1⟩,_⟩:=cblk2 HX2.out;have x2:=lt_of_block HX2.out)
   | (go_at_call 28;refine (hck.out _ Hb2.out).mono ?_;rintro e w3 ⟨⟨ev,rfl,hE⟩,hb3⟩;obtain rfl:ev=.nilIface:=hE;have HX3:=hid ((hb3.block _ (lt_of_block HX2.out)).trans HX2.out);have Hb3:=hid (Below.next Hb2.out hb3);clear hb3 x0 x1 x2;obtain⟨⟨x0,x1⟩,_⟩:=cblk2 HX3.out;have x2:=lt_of_block HX3.out)
   | (go_at_call 6;refine (ulives_any _).mono ?_;rintro e w5 ⟨rfl,hb5⟩;have Hb5:=hid (Below.next Hb3.out hb5);clear hb5))
  go_ret
  exact⟨rfl,Hb5.out⟩
theorem unifySolves_walk {W:World} (_:ErrC W) {nv rv:Value} {g:Gf} (hG:Gr W nv rv g) (hS:Sized g) (i j:Int) :
  Calls Tryz.prog 5 #[.agg #[nv,rv],.int .i64 i,.int .i64 j] W fun e w'=>e=.returned (.bool true)/\Below W.heap.size W w':=by
 cases hs:smallK 200 g with
 | false=>exact solves_small hG hs i j
 | true=>
  by_cases hc:one (chk g)=[]
  ·by_cases ho:0<=i/\0<=j/\i<(g.nodes.length:Int)/\j<(g.nodes.length:Int)
   ·obtain⟨a,rfl⟩:∃a:Nat,i=(a:Int):=⟨i.toNat,by omega⟩
    obtain⟨b,rfl⟩:∃b:Nat,j=(b:Int):=⟨j.toNat,by omega⟩
    exact solves_main hG hS hs hc a b (by omega) (by omega)
   ·exact solves_out hG hS hs hc i j ho
  ·exact solves_check hG hS hs hc i j
end Go.Proofs.YtpkojcfdkkjmcaaGreatDoor
