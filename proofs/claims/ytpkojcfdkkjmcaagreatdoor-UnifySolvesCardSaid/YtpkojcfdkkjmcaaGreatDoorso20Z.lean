/- Package cells: Put's small functions. -/
import Derived.BigQuiet
import Derived.Deep.RegionWith
import Derived.Deep.RegionHeld3
import Derived.Test.YtpkojcfdkkjmcaaGreatDoorso17Z
import Derived.Test.YtpkojcfdkkjmcaaGreatDoorso02Z
import Derived.Test.YtpkojcfdkkjmcaaGreatDoorso10Z
import Derived.Test.YtpkojcfdkkjmcaaGreatDoorso14Z
namespace Go.Proofs.YtpkojcfdkkjmcaaGreatDoor
set_option maxRecDepth 100000
open Go.RowKit
section
variable {w:World} {B p q:Nat} {v:Value} {ns:List ByteArray}
set_option maxHeartbeats 800000 in
theorem number_tab (h:Tb w B p v q ns) (s:ByteArray) (hs:s.size<=281474976710656) :
  Calls Tryz.prog 135 #[.agg #[.pointer (some ⟨p,0,none⟩)],.string s] w fun e w'=>e=.returned (.int .i64 (num ns s:Int))/\Below w.heap.size w w':=by
 have hb:=hid (below_alloc w (.cells #[.pointer (some ⟨p,0,none⟩)] 96))
 have hf:=hid (find_any (h.below hb.out) s hs)
 generalize num ns s=k at *
 clear h
 go_enter Tryz.func135,Tryz.ntmps135
 go_wp2_with (go_at_call 87;refine hf.out.mono ?_;rintro e w1 ⟨rfl,hw⟩;replace hw:=hw.symm;subst hw)
 go_ret
 exact⟨rfl,hb.out⟩
end
def szN (nd:Nd):Nat:=if nd.kind=1 then 1 else if nd.kind=4 then 1+nd.args.length else 0
set_option maxHeartbeats 800000 in
theorem size_any (w:World) (nd:Nd) (ao:Option Addr) (c:Nat) (hl:nd.args.length<=5000) :
  Calls Tryz.prog 91 #[.agg #[.int .i64 nd.kind,.string nd.name,.int .i64 nd.num,.slice ao nd.args.length c]] w fun e w'=>e=.returned (.int .i64 (szN nd:Int))/\Below w.heap.size w w':=by
 obtain⟨kd,nm,nu,args⟩:=nd
 dsimp only at hl ⊢
 have hR:Hid (szN ⟨kd,nm,nu,args⟩=if kd=1 then 1 else if kd=4 then 1+args.length else 0):=rfl
 generalize szN ⟨kd,nm,nu,args⟩=R at *
 by_cases h1:kd=1
 ·have hR1:Hid (R=1):=show _=_ by rw[hR.out,if_pos h1]
  subst h1
  clear hR
  go_enter Tryz.func91,Tryz.ntmps91
  go_wp2
  go_ret
  exact⟨ret_int (by rw[hR1.out];rfl),below_alloc _ _⟩
 ·by_cases h4:kd=4
  ·have hR1:Hid (R=1+args.length):=show _=_ by rw[hR.out,if_neg h1,if_pos h4]
   subst h4
   clear hR h1
   go_enter Tryz.func91,Tryz.ntmps91
   go_wp2
   go_ret
   exact⟨ret_int (by rw[hR1.out];omega),below_alloc _ _⟩
  ·have hR1:Hid (R=0):=show _=_ by rw[hR.out,if_neg h1,if_neg h4]
   have d1:(kd == 1)=false:=by simpa using h1
   have d4:(kd == 4)=false:=by simpa using h4
   clear hR h1 h4
   go_enter Tryz.func91,Tryz.ntmps91
   go_wp2
   go_ret
   exact⟨ret_int (by rw[hR1.out];rfl),below_alloc _ _⟩
end Go.Proofs.YtpkojcfdkkjmcaaGreatDoor
namespace Go.Proofs.YtpkojcfdkkjmcaaGreatDoor
set_option maxRecDepth 100000
open Go.RowKit
theorem fun_fitsC (a k:Int) (h:funB a k=true):fitsB 4 (a*16+k)=true/\0<=a/\a<1024/\1<=k/\k<=8:=by
 simp[funB] at h
 refine⟨?_,h⟩
 simp[fitsB];omega
set_option maxHeartbeats 400000 in
theorem fun_okC (a k:Int) (w:World) (h:funB a k=true) :
  Calls Tryz.prog 136 #[.int .i64 a,.int .i64 k] w fun e w'=>e=.returned (.tuple #[.int .u64 (wordOf 4 (a*16+k)),.nilIface])/\w'=w:=by
 obtain⟨hf,hb⟩:=fun_fitsC a k h
 go_enter Tryz.func136,Tryz.ntmps136
 go_wp2_with (first | (go_at_call 167;refine (isFunctor_any _ _ _).mono ?_;rintro e w' ⟨rfl,rfl⟩) | (go_at_call 133;refine (pack_ok _ _ _ hf).mono ?_;rintro e w' ⟨rfl,rfl⟩))
 go_ret2
 exact⟨rfl,rfl⟩
def cwF (ns:List ByteArray) (nd:Nd) (pl:Nat):Int:=if nd.kind=2 then wordOf 1 (num ns nd.name:Int) else if nd.kind=3 then wordOf 2 nd.num else if nd.kind=4 then wordOf 3 pl else wordOf 0 pl
theorem num_1024 {ns:List ByteArray} {s:ByteArray} (h:ns.length<=1024):num ns s<1024:=by
 by_cases hi:inL ns s=true
 ·have:=num_lt hi
  omega
 ·unfold num
  rw[if_neg hi]
  omega
section
variable {w:World} {B hb ab tb:Nat} {m:Int} {av:Value} {l:List Int} {tv:Value} {tq:Nat} {ns:List ByteArray} {trv ptv:Value} {n:Int}
set_option maxHeartbeats 4000000 in
theorem ccell_any (h:Hp w B hb ab tb m av l tv tq ns trv ptv n) (nd:Nd) (ao:Option Addr) (k c:Nat) (hs:nd.name.size<=281474976710656) (h3:nd.kind=3->fitsB 2 nd.num=true) (pl:Nat) (hp:nd.kind≠2->nd.kind≠3->pl<65536) :
  Calls Tryz.prog 93 #[.pointer (some ⟨hb,0,none⟩),.agg #[.int .i64 nd.kind,.string nd.name,.int .i64 nd.num,.slice ao k c],.int .i64 (pl:Int)] w fun e w'=>e=.returned (.int .u64 (cwF ns nd pl))/\Below w.heap.size w w':=by
 obtain⟨kd,nm,nu,args⟩:=nd
 dsimp only at hs h3 hp ⊢
 have hR:Hid (cwF ns ⟨kd,nm,nu,args⟩ pl=if kd=2 then wordOf 1 (num ns nm:Int) else if kd=3 then wordOf 2 nu else if kd=4 then wordOf 3 pl else wordOf 0 pl):=rfl
 generalize cwF ns ⟨kd,nm,nu,args⟩ pl=R at *
 have hb0:=hid (below_alloc w (.cells #[.int .i64 kd,.string nm,.int .i64 nu,.slice ao k c] 86))
 by_cases k2:kd=2
 ·have hR1:Hid (R=wordOf 1 (num ns nm:Int)):=show _=_ by rw[hR.out,if_pos k2]
  have h1:=h.below hb0.out
  obtain⟨⟨c0,c1,_⟩,c5⟩:=h1.cells
  have hnu:=hid (fun w1 (hbb:Below (w.alloc (.cells #[.int .i64 kd,.string nm,.int .i64 nu,.slice ao k c] 86)).heap.size (w.alloc (.cells #[.int .i64 kd,.string nm,.int .i64 nu,.slice ao k c] 86)) w1)=>number_tab (h1.below hbb).tb nm hs)
  have hpk:=hid (fun w1=>packed_ok 1 (num ns nm:Int) w1 (by have:=num_1024 (s:=nm) h.tb.len;simp[fitsB];omega))
  subst k2
  generalize num ns nm=N at *
  clear hR h h1 h3
  generalize wordOf 1 (N:Int)=X at *
  go_enter Tryz.func93,Tryz.ntmps93
  go_wp2
  go_region_with (first
   | (go_at_call 135;refine (hnu.out _ ?_).mono ?_;exact (Below.refl _ _).drew;rintro e w3 ⟨rfl,hb3⟩;have Hb3:=hid (Below.next hb0.out (Below.next (Below.refl _ _).drew hb3));clear hb3)
   | (go_at_call 134;refine (hpk.out _).mono ?_;rintro e w2 ⟨rfl,hw⟩;replace hw:=hw.symm;subst hw))
  all_goals go_wp2
  all_goals go_ret
  all_goals exact⟨ret_int hR1.out.symm,Hb3.out⟩
 ·have d2:(kd == 2)=false:=by simpa using k2
  by_cases k3:kd=3
  ·have hR1:Hid (R=wordOf 2 nu):=show _=_ by rw[hR.out,if_neg k2,if_pos k3]
   have hpk:=hid (fun w1=>packed_ok 2 nu w1 (h3 k3))
   subst k3
   clear hR h h3 k2
   generalize wordOf 2 nu=X at *
   go_enter Tryz.func93,Tryz.ntmps93
   go_wp2_with (go_at_call 134;refine (hpk.out _).mono ?_;rintro e w2 ⟨rfl,hw⟩;replace hw:=hw.symm;subst hw)
   go_ret
   exact⟨ret_int hR1.out.symm,hb0.out⟩
  ·have d3:(kd == 3)=false:=by simpa using k3
   by_cases k4:kd=4
   ·have hR1:Hid (R=wordOf 3 pl):=show _=_ by rw[hR.out,if_neg k2,if_neg k3,if_pos k4]
    have hpk:=hid (fun w1=>packed_ok 3 (pl:Int) w1 (fits_str (hp k2 k3)))
    subst k4
    clear hR h h3 k2 k3
    generalize wordOf 3 (pl:Int)=X at *
    go_enter Tryz.func93,Tryz.ntmps93
    go_wp2_with (go_at_call 134;refine (hpk.out _).mono ?_;rintro e w2 ⟨rfl,hw⟩;replace hw:=hw.symm;subst hw)
    go_ret
    exact⟨ret_int hR1.out.symm,hb0.out⟩
   ·have hR1:Hid (R=wordOf 0 pl):=show _=_ by rw[hR.out,if_neg k2,if_neg k3,if_neg k4]
    have d4:(kd == 4)=false:=by simpa using k4
    have hpk:=hid (fun w1=>packed_ok 0 (pl:Int) w1 (by have:=hp k2 k3;simp[fitsB];omega))
    clear hR h h3 k2 k3 k4
    generalize wordOf 0 (pl:Int)=X at *
    go_enter Tryz.func93,Tryz.ntmps93
    go_wp2_with (go_at_call 134;refine (hpk.out _).mono ?_;rintro e w2 ⟨rfl,hw⟩;replace hw:=hw.symm;subst hw)
    go_ret
    exact⟨ret_int hR1.out.symm,hb0.out⟩
theorem nblk4 {w:World} {b:Nat} {u0 u1 u2 u3:Value} {T:TypeId} (h:w.heap[b]?=some (.cells #[u0,u1,u2,u3] T)):(w.cell? ⟨b,0,none⟩=some u0/\w.cell? ⟨b,1,none⟩=some u1/\w.cell? ⟨b,2,none⟩=some u2/\w.cell? ⟨b,3,none⟩=some u3)/\b<w.heap.size:=by
 refine⟨⟨?_,?_,?_,?_⟩,lt_of_block h⟩ <;> simp[World.cell?,h]
def fwF (ns:List ByteArray) (nd:Nd):Int:=wordOf 4 ((num ns nd.name:Int)*16+(nd.args.length:Int))
set_option maxHeartbeats 4000000 in
theorem functor_any (h:Hp w B hb ab tb m av l tv tq ns trv ptv n) (nd:Nd) (ao:Option Addr) (c:Nat) (hs:nd.name.size<=281474976710656) (h1:1<=nd.args.length) (h8:nd.args.length<=8) :
  Calls Tryz.prog 94 #[.pointer (some ⟨hb,0,none⟩),.agg #[.int .i64 nd.kind,.string nd.name,.int .i64 nd.num,.slice ao nd.args.length c]] w fun e w'=>e=.returned (.int .u64 (fwF ns nd))/\Below w.heap.size w w':=by
 obtain⟨kd,nm,nu,args⟩:=nd
 dsimp only at hs h1 h8 ⊢
 have hb0:=hid (below_alloc w (.cells #[.int .i64 kd,.string nm,.int .i64 nu,.slice ao args.length c] 86))
 have hh1:=h.below hb0.out
 obtain⟨⟨c0,c1,_⟩,c5⟩:=hh1.cells
 have hnu:=hid (fun w1 (hbb:Below (w.alloc (.cells #[.int .i64 kd,.string nm,.int .i64 nu,.slice ao args.length c] 86)).heap.size (w.alloc (.cells #[.int .i64 kd,.string nm,.int .i64 nu,.slice ao args.length c] 86)) w1)=>number_tab (hh1.below hbb).tb nm hs)
 have hfn:=hid (fun w1=>fun_okC (num ns nm:Int) (args.length:Int) w1 (by have:=num_1024 (s:=nm) h.tb.len;simp[funB];omega))
 have hR:Hid (fwF ns ⟨kd,nm,nu,args⟩=wordOf 4 ((num ns nm:Int)*16+(args.length:Int))):=rfl
 generalize fwF ns ⟨kd,nm,nu,args⟩=R at *
 generalize num ns nm=N at *
 generalize wordOf 4 ((N:Int)*16+(args.length:Int))=X at *
 have z0:w.heap.size<(w.alloc (.cells #[.int .i64 kd,.string nm,.int .i64 nu,.slice ao args.length c] 86)).heap.size:=by simp
 clear h hh1
 go_enter Tryz.func94,Tryz.ntmps94
 go_wp2
 have bx:=heap_alloc_new w (.cells #[.int .i64 kd,.string nm,.int .i64 nu,.slice ao args.length c] 86)
 obtain⟨⟨n0,n1,n2,n3⟩,_⟩:=nblk4 bx
 have HX:=hid bx
 clear bx n0 n2
 go_region_held3 (fun w'=>w'.cell? ⟨hb,1,none⟩=some (.pointer (some ⟨tb,0,none⟩))/\w'.cell? ⟨w.heap.size,1,none⟩=some (.string nm)/\w'.cell? ⟨w.heap.size,3,none⟩=some (.slice ao args.length c)) (first | exact⟨c1,n1,n3⟩ | go_keep)
  (first
   | (go_at_call 135;refine (hnu.out _ ?_).mono ?_;exact (Below.refl _ _).drew;rintro e w3 ⟨rfl,hb3⟩;have hb4:=Below.next (Below.refl _ _).drew hb3;have Hb3:=hid (Below.next hb0.out hb4);replace c1:=(hb4.cell (p:=⟨hb,1,none⟩) c5).trans c1;replace n1:=(hb4.cell (p:=⟨w.heap.size,1,none⟩) z0).trans n1;replace n3:=(hb4.cell (p:=⟨w.heap.size,3,none⟩) z0).trans n3;clear hb3 hb4)
   | (go_at_call 136;refine (hfn.out _).mono ?_;rintro e w2 ⟨rfl,hw⟩;replace hw:=hw.symm;subst hw))
 all_goals go_wp2
 all_goals go_ret
 all_goals exact⟨ret_int hR.out.symm,Hb3.out⟩
end
end Go.Proofs.YtpkojcfdkkjmcaaGreatDoor
namespace Go.Proofs.YtpkojcfdkkjmcaaGreatDoor
set_option maxRecDepth 100000
open Go.RowKit
theorem mod_an {ks:List Nat} {w w':World} (h:a_Mod ks w w'):n_Mod ks w w':=⟨h.os,h.tape,h.output,h.size,h.block⟩
section
variable {w w':World} {B hb ab tb:Nat} {m:Int} {av:Value} {l:List Int} {tv:Value} {tq:Nat} {ns:List ByteArray} {trv ptv:Value} {n:Int}
theorem Hp.apart (h:Hp w B hb ab tb m av l tv tq ns trv ptv n) {k:Nat} (hk:k∈a_foot ab av):k≠hb/\k∉n_foot tb tv tq:=by
 have hT:∃cs T,w.heap[k]?=some (.cells cs T (0,0))/\(T=153∨T=120):=by
  rcases a_mem_foot.1 hk with rfl | hk
  ·exact⟨_,_,h.ar.blk,Or.inl rfl⟩
  ·obtain⟨cur,hc,_⟩:=own_block_obj h.ar.own hk
   exact⟨cur,_,hc,Or.inr rfl⟩
 obtain⟨cs,T,hw,hTT⟩:=hT
 refine⟨fun e=>?_,fun hf=>?_⟩
 ·subst e
  have hq:=h.blk
  rw[hw] at hq
  injection hq with hq
  injection hq with _ hq
  rcases hTT with rfl | rfl <;> exact absurd hq (by decide)
 ·rcases n_mem_foot.1 hf with e | e | e
  ·subst e
   have hq:=h.tb.blk
   rw[hw] at hq
   injection hq with hq
   injection hq with _ hq
   rcases hTT with rfl | rfl <;> exact absurd hq (by decide)
  ·subst e
   obtain⟨D,⟨es,clock,hq,_⟩,_⟩:=h.tb.map
   rw[hw] at hq
   simp at hq
  ·obtain⟨cur,hc,_⟩:=own_block_obj h.tb.own e
   rw[hw] at hc
   injection hc with hc
   injection hc with _ hc
   rcases hTT with rfl | rfl <;> exact absurd hc (by decide)
theorem Hp.words {av':Value} {l':List Int} (h:Hp w B hb ab tb m av l tv tq ns trv ptv n) (u:a_Upd 153 w w' B ab m av l' av'):Hp w' B hb ab tb m av' l' tv tq ns trv ptv n:=
 ⟨(u.mod.block hb (lt_of_block h.blk) (fun hk=>(h.apart hk).1 rfl)).trans h.blk,h.base,u.ar,h.tb.keep (mod_an u.mod) (fun _ hk=>(h.apart hk).2)⟩
end
section
variable {w:World} {B p:Nat} {m:Int} {v:Value} {l:List Int}
set_option maxHeartbeats 1000000 in
theorem blay_ok (h:Ar 153 w B p m v l) (k:Nat) (x:Int) (hk:k<l.length) (x0:0<=x) (x1:x<=18446744073709551615) (hm:mayB x l.length=true) :
  Calls Tryz.prog 55 #[blkV p,.int .i64 (k:Int),.int .u64 x] w fun e w'=>e=.returned (.tuple #[])/\a_Upd 153 w w' B p m v (l.set k x) v:=by
 have hb:=hid (below_alloc w (.cells #[.pointer (some ⟨p,0,none⟩)] 92))
 have hst:=hid (store_ok (h.below hb.out) k x hk x0 x1 hm)
 have hu0:=hid (a_Upd.same h hb.out)
 clear h
 go_enter Tryz.func55,Tryz.ntmps55
 go_wp2_with (go_at_call 102;refine hst.out.mono ?_;rintro e w1 ⟨rfl,hu⟩;have Hu:=hid hu;clear hu)
 go_end0
 exact⟨rfl,hu0.out.trans Hu.out⟩
end
end Go.Proofs.YtpkojcfdkkjmcaaGreatDoor
namespace Go.Proofs.YtpkojcfdkkjmcaaGreatDoor
set_option maxRecDepth 100000
open Go.RowKit
theorem cblk2 {w:World} {q:Nat} {u0 u1:Value} {T:TypeId} (h:w.heap[q]?=some (.cells #[u0,u1] T)):(w.cell? ⟨q,0,none⟩=some u0/\w.cell? ⟨q,1,none⟩=some u1)/\w.frozen? ⟨q,0,none⟩=false/\w.frozen? ⟨q,1,none⟩=false:=by
 refine⟨⟨?_,?_⟩,?_,?_⟩ <;> simp[World.cell?,World.frozen?,h]
theorem gr_nd {W w:World} {na:Option Addr} {nc:Nat} {rv:Value} {g:Gf} (hG:Gr W (.slice na g.nodes.length nc) rv g) (hb:Below W.heap.size W w) {x:Nat} (hx:x<g.nodes.length):∃b o aa ac,na=some ⟨b,o,none⟩/\w.cell? ⟨b,o+x*4,none⟩=some (.int .i64 (g.nodes.getD x nd0).kind)/\w.cell? ⟨b,o+x*4+1,none⟩=some (.string (g.nodes.getD x nd0).name)/\w.cell? ⟨b,o+x*4+2,none⟩=some (.int .i64 (g.nodes.getD x nd0).num)/\w.cell? ⟨b,o+x*4+3,none⟩=some (.slice aa (g.nodes.getD x nd0).args.length ac):=by
 obtain⟨na',nc',e,hc⟩:=hG.1
 injection e with e1 _ _
 subst e1
 obtain⟨b,o,av,rfl,h0⟩:=hc x hx
 obtain⟨p0,p1,p2,p3,_⟩:=h0.below hb
 obtain⟨aa,ac,rfl,_⟩:=h0.2.2.2.2
 exact⟨b,o,aa,ac,rfl,p0,p1,p2,p3⟩
def wantJ (g:Gf) (met:List Int):Nat->Nat
 | 0=>g.roots.length
 | j+1=>wantJ g met j+szN (g.nodes.getD (met.getD j 0).toNat nd0)
theorem sz_le {nd:Nd} (h:nd.args.length<=8):szN nd<=9:=by
 unfold szN
 split
 ·omega
 ·split <;> omega
theorem want_le {g:Gf} (hg:Good g) {met:List Int}:∀j,wantJ g met j<=g.roots.length+9*j
 | 0=>Nat.le_refl _
 | j+1=>by
  have ih:=want_le hg (met:=met) j
  have h8:(g.nodes.getD (met.getD j 0).toNat nd0).args.length<=8:=by
   generalize met.getD j 0=y
   by_cases hx:y.toNat<g.nodes.length
   ·exact (good_args (hg.node _ (by simp[List.getD,hx]))).2
   ·rw[List.getD,List.getElem?_eq_none (by omega)]
    exact Nat.zero_le _
  have:=sz_le h8
  show wantJ g met j+_<=_
  omega
set_option maxHeartbeats 4000000 in
theorem wanted_any {W:World} {nv rv mv:Value} {g:Gf} {met:List Int} (hG:Gr W nv rv g) (hg:Good g) (hM:Ri W mv met) (hm:∀x∈met,0<=x/\x<(g.nodes.length:Int)) (hl:met.length<=5000) :
  Calls Tryz.prog 45 #[.agg #[nv,rv],mv] W fun e w'=>e=.returned (.int .i64 (wantJ g met met.length:Int))/\Below W.heap.size W w':=by
 have hb0:=hid (below_alloc W (.cells #[nv,rv] 38))
 have hx0:=hid (heap_alloc_new W (.cells #[nv,rv] 38))
 have HG:=hid hG
 have HM:=hid hM
 have Hg:=hid hg
 have Hm:=hid hm
 have hR:g.roots.length<=4096:=hg.roots
 obtain⟨na,nc,rfl,_⟩:=hG.1
 obtain⟨ra,rc,rfl,_⟩:=hG.2
 obtain⟨ma,mc,rfl,_⟩:=hM
 clear hG hg hm
 go_enter Tryz.func45,Tryz.ntmps45
 go_wp2
 go_loopw [5,7,13] (fun s _ i wr=>∃j:Nat,j<=met.length/\i=.int .i64 (j:Int)/\s=.int .i64 (wantJ g met j:Int)/\Hid (Below W.heap.size W wr)/\Hid (wr.heap[W.heap.size]?=some (.cells #[.slice na g.nodes.length nc,.slice ra g.roots.length rc] 38))) (fun _ _ i _=>met.length-(intOf i).toNat)
 case atStart=>exact⟨0,Nat.zero_le _,rfl,rfl,hb0,hx0⟩
 case round=>
  clear hb0 hx0
  obtain⟨j,hj,rfl,rfl,hb,hx⟩:=hrel
  by_cases hlt:j<met.length
  ·have hji:(j:Int)<(met.length:Int):=by omega
   obtain⟨mb,mo,hma,m0⟩:=(HM.out.below hb.out).at hlt
   subst hma
   have zm:=lt_of_cell m0
   have hmr:=Hm.out _ (getD_mem hlt)
   have hst:Hid (wantJ g met (j+1)=wantJ g met j+szN (g.nodes.getD (met.getD j 0).toNat nd0)):=rfl
   have hwl:=want_le Hg.out (met:=met) j
   generalize met.getD j 0=y at *
   obtain⟨yn,rfl⟩:∃yn:Nat,y=(yn:Int):=⟨y.toNat,by omega⟩
   rw[Int.toNat_natCast] at hst
   have hyn:yn<g.nodes.length:=by omega
   have hyi:(yn:Int)<(g.nodes.length:Int):=by omega
   obtain⟨⟨b0,b1⟩,_⟩:=cblk2 hx.out
   have zb:=lt_of_block hx.out
   obtain⟨nb,no,aa,ac,hna,p0,p1,p2,p3⟩:=gr_nd HG.out hb.out hyn
   subst hna
   have zn:=lt_of_cell p0
   have h8:=(good_args (Hg.out.node (g.nodes.getD yn nd0) (by simp[List.getD,hyn]))).2
   have hsz:=hid (fun w=>size_any w (g.nodes.getD yn nd0) aa ac (by omega))
   have hs9:=sz_le h8
   generalize szN (g.nodes.getD yn nd0)=sz at *
   generalize wantJ g met j=wj at *
   generalize g.nodes.getD yn nd0=nd at *
   obtain⟨kd,nm,nu,args⟩:=nd
   dsimp only at p0 p1 p2 p3 hsz
   clear hmr
   go_wp2_with (go_at_call 91;refine (hsz.out _).mono ?_;rintro e w3 ⟨rfl,hb3⟩;have Hb3:=hid (Below.next hb.out hb3);have Hx3:=hid ((hb3.block _ zb).trans hx.out);clear hb3)
   go_roundw
   case rel=>exact⟨j+1,by omega,by go_num,congrArg (Value.int .i64) (by rw[hst.out];omega),Hb3,Hx3⟩
   case measure=>simp[intOf];omega
  ·obtain rfl:j=met.length:=by omega
   go_wp2
   go_ret
   exact⟨rfl,hb.out⟩
end Go.Proofs.YtpkojcfdkkjmcaaGreatDoor
namespace Go.Proofs.YtpkojcfdkkjmcaaGreatDoor
set_option maxRecDepth 100000
open Go.RowKit
section
variable {w w':World} {B hb ab tb:Nat} {m:Int} {av:Value} {l:List Int} {tv:Value} {tq:Nat} {ns:List ByteArray} {trv ptv:Value} {n:Int}
theorem Hp.self (h:Hp w B hb ab tb m av l tv tq ns trv ptv n):hb∉a_foot ab av/\hb∉n_foot tb tv tq:=by
 refine⟨fun hk=>(h.apart hk).1 rfl,fun hf=>?_⟩
 have hq:=h.blk
 rcases n_mem_foot.1 hf with e | e | e
 ·subst e
  rw[h.tb.blk] at hq
  injection hq with hq
  injection hq with _ hq
  exact absurd hq (by decide)
 ·subst e
  obtain⟨D,⟨es,clock,hq2,_⟩,_⟩:=h.tb.map
  rw[hq2] at hq
  simp at hq
 ·obtain⟨cur,hc,_⟩:=own_block_obj h.tb.own e
  rw[hc] at hq
  injection hq with hq
  injection hq with _ hq
  exact absurd hq (by decide)
end
end Go.Proofs.YtpkojcfdkkjmcaaGreatDoor
namespace Go.Proofs.YtpkojcfdkkjmcaaGreatDoor
set_option maxRecDepth 100000
open Go.RowKit
def wth1 (ns:List ByteArray) (s:ByteArray):List ByteArray:=if inL ns s=true∨s.size=0 then ns else ns++[s]
def wthJ (ns:List ByteArray) (g:Gf) (met:List Int):Nat->List ByteArray
 | 0=>ns
 | j+1=>wth1 (wthJ ns g met j) (g.nodes.getD (met.getD j 0).toNat nd0).name
theorem wth1_len (ns:List ByteArray) (s:ByteArray):(wth1 ns s).length<=ns.length+1:=by
 unfold wth1
 split
 ·omega
 ·simp
theorem wthJ_len (ns:List ByteArray) (g:Gf) (met:List Int):∀j,(wthJ ns g met j).length<=ns.length+j
 | 0=>Nat.le_refl _
 | j+1=>by
  have h1:=wthJ_len ns g met j
  have h2:=wth1_len (wthJ ns g met j) (g.nodes.getD (met.getD j 0).toNat nd0).name
  show (wth1 _ _).length<=_
  omega
theorem wth1_ge (ns:List ByteArray) (s:ByteArray):ns.length<=(wth1 ns s).length:=by
 unfold wth1
 split
 ·exact Nat.le_refl _
 ·simp
theorem wthJ_mono (ns:List ByteArray) (g:Gf) (met:List Int) (j:Nat):∀d,(wthJ ns g met j).length<=(wthJ ns g met (j+d)).length
 | 0=>Nat.le_refl _
 | d+1=>Nat.le_trans (wthJ_mono ns g met j d) (wth1_ge _ _)
theorem wth1_pre (ns:List ByteArray) (s:ByteArray):ns <+: wth1 ns s:=by
 unfold wth1
 split
 ·exact List.prefix_refl _
 ·exact List.prefix_append _ _
theorem wthJ_pre (ns:List ByteArray) (g:Gf) (met:List Int) (i:Nat):∀d,wthJ ns g met i <+: wthJ ns g met (i+d)
 | 0=>List.prefix_refl _
 | d+1=>(wthJ_pre ns g met i d).trans (wth1_pre _ _)
theorem idx_pre:∀{l t:List ByteArray} {s:ByteArray},inL l s=true->idx (l++t) s=idx l s
 | [],_,_,h=>by simp[inL] at h
 | y::r,t,s,h=>by
  by_cases e:y=s
  ·simp[idx,e]
  ·have h':inL r s=true:=by
    rw[inL_iff] at h ⊢
    rcases List.mem_cons.1 h with h | h
    ·exact absurd h.symm e
    ·exact h
   have:=idx_pre (t:=t) h'
   simp only[List.cons_append,idx,if_neg e,this]
theorem pre_in {l m:List ByteArray} {s:ByteArray} (h:l <+: m) (hs:inL l s=true):inL m s=true/\num m s=num l s:=by
 obtain⟨t,rfl⟩:=h
 have h1:inL (l++t) s=true:=by
  rw[inL_iff] at hs ⊢
  exact List.mem_append_left _ hs
 refine⟨h1,?_⟩
 unfold num
 rw[if_pos h1,if_pos hs,idx_pre hs]
theorem wthJ_in (ns:List ByteArray) (g:Gf) (met:List Int) {i j:Nat} (h:i<j) (hs:(g.nodes.getD (met.getD i 0).toNat nd0).name.size≠0):inL (wthJ ns g met j) (g.nodes.getD (met.getD i 0).toNat nd0).name=true:=by
 have h1:inL (wthJ ns g met (i+1)) (g.nodes.getD (met.getD i 0).toNat nd0).name=true:=by
  show inL (wth1 _ _) _=true
  unfold wth1
  split
  ·rename_i h2
   rcases h2 with h2 | h2
   ·exact h2
   ·exact absurd h2 hs
  ·rw[inL_iff]
   simp
 have h2:=wthJ_pre ns g met (i+1) (j-(i+1))
 rw[show i+1+(j-(i+1))=j by omega] at h2
 exact (pre_in h2 h1).1
def plN (g:Gf) (met:List Int) (b:Nat) (x:Int):Nat:=b+wantJ g met (pos met x)
def cwX (ns:List ByteArray) (g:Gf) (met:List Int) (b:Nat) (x:Int):Int:=cwF ns (g.nodes.getD x.toNat nd0) (plN g met b x)
def nwX (ns:List ByteArray) (g:Gf) (met:List Int) (b:Nat) (x:Int):List Int:=
 if (g.nodes.getD x.toNat nd0).kind=1 then [8*(plN g met b x:Int)]
 else if (g.nodes.getD x.toNat nd0).kind=4 then fwF ns (g.nodes.getD x.toNat nd0)::(g.nodes.getD x.toNat nd0).args.map (cwX ns g met b) else []
def putW (ns:List ByteArray) (g:Gf) (met:List Int) (b:Nat):List Int:=g.roots.map (cwX ns g met b)++met.flatMap (nwX ns g met b)
section
variable {ns:List ByteArray} {g:Gf} {met:List Int} {b:Nat}
theorem nwX_len (x:Int):(nwX ns g met b x).length=szN (g.nodes.getD x.toNat nd0):=by
 unfold nwX szN
 split
 ·rfl
 ·split
  ·simp
   omega
  ·rfl
theorem take_snocD {j:Nat} (h:j<met.length):met.take (j+1)=met.take j++[met.getD j 0]:=by
 rw[List.take_add_one]
 simp[List.getD,h]
theorem want_flat:∀j,j<=met.length->wantJ g met j=g.roots.length+((met.take j).flatMap (nwX ns g met b)).length
 | 0,_=>by simp[wantJ]
 | j+1,h=>by
  have ih:=want_flat j (by omega)
  show wantJ g met j+_=_
  rw[take_snocD (by omega),List.flatMap_append,List.length_append,ih]
  simp[nwX_len]
  omega
theorem putW_len:(putW ns g met b).length=wantJ g met met.length:=by
 rw[want_flat (ns:=ns) (b:=b) _ (Nat.le_refl _),List.take_length]
 simp[putW]
theorem putW_root {i:Nat} (h:i<g.roots.length):(putW ns g met b).getD i 0=cwX ns g met b (g.roots.getD i 0):=by
 simp[putW,List.getD,h,List.getElem?_append_left]
theorem want_mono:∀(i d:Nat),wantJ g met i<=wantJ g met (i+d)
 | _,0=>Nat.le_refl _
 | i,d+1=>Nat.le_trans (want_mono i d) (Nat.le_add_right _ _)
theorem want_next {i j:Nat} (h:i<j):wantJ g met i+szN (g.nodes.getD (met.getD i 0).toNat nd0)<=wantJ g met j:=by
 have:=want_mono (g:=g) (met:=met) (i+1) (j-(i+1))
 rw[show i+1+(j-(i+1))=j by omega] at this
 exact this
theorem want_root (j:Nat):g.roots.length<=wantJ g met j:=by
 have:=want_mono (g:=g) (met:=met) 0 j
 rw[Nat.zero_add] at this
 exact this
theorem putW_node {j r:Nat} (hj:j<met.length) (hr:r<szN (g.nodes.getD (met.getD j 0).toNat nd0)):(putW ns g met b).getD (wantJ g met j+r) 0=(nwX ns g met b (met.getD j 0)).getD r 0:=by
 have h1:met.flatMap (nwX ns g met b)=(met.take j).flatMap (nwX ns g met b)++(nwX ns g met b (met.getD j 0)++(met.drop (j+1)).flatMap (nwX ns g met b)):=by
  have e:met.flatMap (nwX ns g met b)=(met.take j++met.drop j).flatMap (nwX ns g met b):=by rw[List.take_append_drop]
  rw[e,drop_step hj]
  simp
 have h2:=want_flat (ns:=ns) (b:=b) (g:=g) (met:=met) j (by omega)
 unfold putW
 rw[h1,h2]
 have h3:r<(nwX ns g met b (met.getD j 0)).length:=by rw[nwX_len];exact hr
 generalize (met.take j).flatMap (nwX ns g met b)=F
 generalize (met.drop (j+1)).flatMap (nwX ns g met b)=H
 generalize nwX ns g met b (met.getD j 0)=M at *
 have h4:(g.roots.map (cwX ns g met b)).length=g.roots.length:=by simp
 generalize g.roots.map (cwX ns g met b)=K at *
 simp only[List.getD]
 rw[List.getElem?_append_right (by omega),List.getElem?_append_right (by omega),List.getElem?_append_left (by omega)]
 congr 2
 omega
theorem want_cover:∀(j c:Nat),c<wantJ g met j->c<g.roots.length∨∃i r,i<j/\r<szN (g.nodes.getD (met.getD i 0).toNat nd0)/\c=wantJ g met i+r
 | 0,c,h=>Or.inl h
 | j+1,c,h=>by
  by_cases h1:c<wantJ g met j
  ·rcases want_cover j c h1 with h2 | ⟨i,r,h2,h3,h4⟩
   ·exact Or.inl h2
   ·exact Or.inr ⟨i,r,by omega,h3,h4⟩
  ·have h2:c<wantJ g met j+szN (g.nodes.getD (met.getD j 0).toNat nd0):=h
   exact Or.inr ⟨j,c-wantJ g met j,by omega,by omega,by omega⟩
end
def mixW (T:List Int) (b c:Nat):List Int:=T.take c++frsh (b+c) (T.length-c)
theorem mix_len {T:List Int} {b c:Nat} (h:c<=T.length):(mixW T b c).length=T.length:=by
 simp[mixW,frsh_len]
 omega
theorem mix_zero (T:List Int) (b:Nat):mixW T b 0=frsh b T.length:=by simp[mixW]
theorem mix_full (T:List Int) (b:Nat):mixW T b T.length=T:=by simp[mixW,frsh]
theorem frsh_cons (s k:Nat):frsh s (k+1)=8*(s:Int)::frsh (s+1) k:=by
 unfold frsh
 rw[List.range_succ_eq_map,List.map_cons,List.map_map]
 congr 1
 apply List.map_congr_left
 intro i _
 simp
 omega
theorem mix_split {T:List Int} {b c:Nat} (h:c<T.length):mixW T b c=T.take c++8*((b+c:Nat):Int)::frsh (b+(c+1)) (T.length-(c+1)):=by
 unfold mixW
 rw[show T.length-c=(T.length-(c+1))+1 by omega,frsh_cons,show b+c+1=b+(c+1) by omega]
theorem mix_next {T:List Int} {b c:Nat} (h:c<T.length):mixW T b (c+1)=T.take c++T.getD c 0::frsh (b+(c+1)) (T.length-(c+1)):=by
 unfold mixW
 rw[take_snocD h,List.append_assoc]
 rfl
theorem mix_set {l T:List Int} {c:Nat} (h:c<T.length):(l++mixW T l.length c).set (l.length+c) (T.getD c 0)=l++mixW T l.length (c+1):=by
 rw[mix_split h,mix_next h,List.set_append_right _ _ (by omega),show l.length+c-l.length=c by omega,List.set_append_right _ _ (by simp;omega)]
 have e:c-(T.take c).length=0:=by simp;omega
 rw[e,List.set_cons_zero]
theorem mix_skip {T:List Int} {b c:Nat} (h:c<T.length) (e:T.getD c 0=8*((b+c:Nat):Int)):mixW T b c=mixW T b (c+1):=by
 rw[mix_split h,mix_next h,e]
end Go.Proofs.YtpkojcfdkkjmcaaGreatDoor
