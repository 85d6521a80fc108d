/- Laws of layer 12: the heap, and the row of cells, between calls. -/
import Derived.Deep.DeepCutAuto
import Derived.Deep.RegionHeld3
import Derived.WalkKit
import Derived.RangeFuncBox
import Derived.RangeFuncNested
import Derived.RangeFuncCalls
import Derived.RangeFuncLeaves
import Derived.Shelf.Abstract
import Derived.OwnWalkIn
import Derived.TacticsInMore
import Derived.LoopNIn
import Derived.LoopIn
import Derived.Test.YtpkojcfdkkjmcaaGreatDoorso43Z
import Derived.Test.YtpkojcfdkkjmcaaGreatDoorso17Z
import Derived.Test.YtpkojcfdkkjmcaaGreatDoorso05Z
import Derived.Test.YtpkojcfdkkjmcaaGreatDoorso40Z
import Derived.Test.YtpkojcfdkkjmcaaGreatDoorso49Z
import Derived.Test.YtpkojcfdkkjmcaaGreatDoorso08Z
import Derived.Test.YtpkojcfdkkjmcaaGreatDoorso11Z
import Derived.Test.YtpkojcfdkkjmcaaGreatDoorso32Z
import Derived.Test.YtpkojcfdkkjmcaaGreatDoorso25Z
import Derived.Test.YtpkojcfdkkjmcaaGreatDoorso34Z
import Derived.Test.YtpkojcfdkkjmcaaGreatDoorso33Z
import Derived.Test.YtpkojcfdkkjmcaaGreatDoorso37Z
import Derived.Test.YtpkojcfdkkjmcaaGreatDoorso02Z
import Derived.Test.YtpkojcfdkkjmcaaGreatDoorso15Z
import Derived.Test.YtpkojcfdkkjmcaaGreatDoorso03Z
import Derived.Test.YtpkojcfdkkjmcaaGreatDoorso01Z
import Derived.Test.YtpkojcfdkkjmcaaGreatDoorso29Z
import Derived.Test.YtpkojcfdkkjmcaaGreatDoorso06Z
import Derived.Test.YtpkojcfdkkjmcaaGreatDoorso38Z
import Derived.Test.YtpkojcfdkkjmcaaGreatDoorso30Z
import Derived.Test.YtpkojcfdkkjmcaaGreatDoorso27Z
import Derived.Test.YtpkojcfdkkjmcaaGreatDoorso24Z
import Derived.Test.YtpkojcfdkkjmcaaGreatDoorso45Z
namespace Go.Proofs.YtpkojcfdkkjmcaaGreatDoor
set_option maxRecDepth 100000
open Go.RowKit Go.Maps
theorem putc_small {g:Gf} {z:Int} (hc:one (chk g)=[]) (hn:g.nodes.length<=400) (hz:4000<=z):PutC hs0 (gAll g) z/\(putHs hs0 (gAll g)).l.length<=4000:=by
 have hg:=chk_good hc
 have hG:Good (gAll g):=⟨hg.nodes,by rw[gAll_len];omega,hg.node,fun x hx=>by
  obtain⟨k,hk,rfl⟩:=List.mem_map.1 hx
  have:=List.mem_range.1 hk
  show 0<=(k:Int)/\(k:Int)<(g.nodes.length:Int)
  omega⟩
 have hm:(metF (gAll g)).length<=400:=Nat.le_trans (met_ok hG).le hn
 have h1:=wthJ_len [] (gAll g) (metF (gAll g)) (metF (gAll g)).length
 have h2:=want_le hG (met:=metF (gAll g)) (metF (gAll g)).length
 rw[gAll_len] at h2
 have hw:wantJ (gAll g) (metF (gAll g)) (metF (gAll g)).length<=4000:=by omega
 refine⟨⟨chk_of_good hG,?_,?_⟩,?_⟩
 ·show (wthJ [] (gAll g) (metF (gAll g)) (metF (gAll g)).length).length<=1024
  simp only[List.length_nil] at h1
  omega
 ·show ((([]:List Int).length:Int)+_)<=z
  simp only[List.length_nil]
  omega
 ·show (wdP [] [] (gAll g)).length<=4000
  unfold wdP
  rw[List.length_append,putW_len]
  simp only[List.length_nil]
  omega
structure Bs (W:World) (B hb q n:Nat) (m:Int) (s:Hst) (w:World):Prop where
 b:Below W.heap.size W w
 h:∃F,Hs w B hb m F s/\∀k,F k->W.heap.size<=k/\(0<n->k≠q)
 r:∀k,k<n->w.cell? ⟨q,k,none⟩=some (.int .i64 (k:Int))
 z:0<n->q<w.heap.size
 B1:W.heap.size<=B
 B2:B<=w.heap.size
 sn:SndN s.l s.ns.length
 nd:s.ns.Nodup
 l4:s.l.length<=4000
 n0:n<=s.l.length
 c:∀k,k<n->cellB s.l (k:Int)=true
section
variable {W w w':World} {B hb q n:Nat} {m:Int} {s:Hst}
theorem Hs.lt {F:Nat->Prop} (h:Hs w B hb m F s):Hs w B hb m (fun k=>F k/\k<w.heap.size) s:=by
 obtain⟨ab,tb,av,tv,tq,trv,ptv,hq,hf⟩:=h
 refine⟨ab,tb,av,tv,tq,trv,ptv,hq,fun k hk=>⟨hf k hk,?_⟩⟩
 rcases mem_qfoot.1 hk with e | e | e | e
 ·rw[e]
  exact lt_of_block hq.hp.blk
 ·exact hq.hp.ltz.2.1 k e
 ·exact (hq.tr.lt k e).2
 ·exact (hq.pt.lt k e).2
end
theorem bs_of {W w3 w:World} {hb:Nat} {m:Int} {F:Nat->Prop} {g:Gf} {ao:Option Addr} {c:Nat} (h3:Below W.heap.size W w3) (hb':Below w3.heap.size w3 w) (hl:(putHs hs0 (gAll g)).l.length<=4000) (hn:0<g.nodes.length) (ho:w.ownsRow w3.heap.size 3 1 (.slice ao g.nodes.length c) g.nodes.length ((csL 0 g.nodes.length).map (Value.int .i64))) (hH:Hs w w3.heap.size hb m F (putHs hs0 (gAll g))) (hF:∀k,F k->w3.heap.size<=k/\(Value.slice ao g.nodes.length c).ownBlock≠some k) (hj:Sj (putHs hs0 (gAll g)) 1) (hpm:PmC (nsP [] (gAll g)) (gAll g) (metF (gAll g)) 0) :
  ∃q,ao=some ⟨q,0,none⟩/\g.nodes.length<=c/\w3.heap.size<=q/\Bs W w3.heap.size hb q g.nodes.length m (putHs hs0 (gAll g)) w:=by
 obtain⟨q,rfl⟩:∃q,ao=some ⟨q,0,none⟩:=by
  rcases ho.2 with⟨h8,h9⟩ | ⟨g,cap,cur,h8,_⟩
  ·omega
  ·injection h8 with h8 _ _
   exact⟨g,h8⟩
 obtain⟨_,c9,e9,h9,_⟩:=own_slq ho
 injection e9 with _ _ e9
 have hz:=h3.size
 have hnd:(putHs hs0 (gAll g)).ns.Nodup:=by
  obtain⟨ab,tb,av,tv,tq,trv,ptv,hq,_⟩:=hH
  exact hq.hp.tb.nodup
 have hc:=csl_cell (l:=[]) (ns:=[]) (g:=gAll g) hpm
 rw[gAll_len] at hc
 refine⟨q,rfl,by omega,(ho.lt q rfl).1,Below.trans h3 (hb'.mono hz),⟨F,hH,fun k hk=>⟨by have:=(hF k hk).1;omega,fun _ e=>(hF k hk).2 (by rw[e];rfl)⟩⟩,fun k hk=>?_,fun _=>(ho.lt q rfl).2,hz,hb'.size,hj.si.now,hnd,hl,?_,fun k hk=>hc _ (List.mem_map.2 ⟨k,List.mem_range.2 hk,by simp⟩)⟩
 ·rw[ho.cellAt k (by omega)]
  simp[csL,hk]
 ·show g.nodes.length<=(wdP [] [] (gAll g)).length
  have hr:=want_root (g:=gAll g) (met:=metF (gAll g)) (metF (gAll g)).length
  unfold wdP
  rw[List.length_append,putW_len]
  rw[gAll_len] at hr
  omega
end Go.Proofs.YtpkojcfdkkjmcaaGreatDoor
namespace Go.Proofs.YtpkojcfdkkjmcaaGreatDoor
set_option maxRecDepth 100000
open Go.RowKit Go.Maps
def Tyh (w:World) (k:Nat):Prop:=∃cs T,w.heap[k]?=some (.cells cs T (0,0))/\(T=100∨T=153∨T=120∨T=122∨T=115)
section
variable {w w':World} {B hb:Nat} {m:Int} {F G:Nat->Prop} {s:Hst}
theorem Hs.sharp (h:Hs w B hb m F s):Hs w B hb m (fun k=>F k/\Tyh w k/\k<w.heap.size) s:=by
 obtain⟨ab,tb,av,tv,tq,trv,ptv,hq,hf⟩:=h
 have hT:∀k,k∈qfoot hb ab av trv ptv->Tyh w k:=fun k hk=>by
  rcases mem_qfoot.1 hk with rfl | hk | hk | hk
  ·exact⟨_,_,hq.hp.blk,Or.inl rfl⟩
  ·obtain⟨cs,T,e,ht⟩:=hq.aty hk
   exact⟨cs,T,e,by rcases ht with ht | ht;exact Or.inr (Or.inl ht);exact Or.inr (Or.inr (Or.inl ht))⟩
  ·obtain⟨cur,hc⟩:=row_obj hq.tr hk
   exact⟨_,_,hc,Or.inr (Or.inr (Or.inr (Or.inl rfl)))⟩
  ·obtain⟨cur,hc⟩:=row_obj hq.pt hk
   exact⟨_,_,hc,Or.inr (Or.inr (Or.inr (Or.inr rfl)))⟩
 refine⟨ab,tb,av,tv,tq,trv,ptv,hq,fun k hk=>⟨hf k hk,hT k hk,?_⟩⟩
 obtain⟨cs,T,e,_⟩:=hT k hk
 exact lt_of_block e
theorem Hs.far (h:Hs w B hb m F s) (hm:Mo G w w') (h1:∀k,F k->¬G k) (h2:∀k,G k->k<w.heap.size->Tyh w k):Hs w' B hb m F s:=by
 classical
 obtain⟨ab,tb,av,tv,tq,trv,ptv,hq,hf⟩:=h
 have ha:a_Mod ((List.range w.heap.size).filter (fun k=>decide (G k))) w w':=⟨hm.os,hm.tape,hm.output,hm.size,fun k hk hx=>hm.block k hk (fun hG=>hx (List.mem_filter.2 ⟨List.mem_range.2 hk,by simpa using hG⟩))⟩
 refine⟨ab,tb,av,tv,tq,trv,ptv,hq.keep ha (fun k hk=>?_),hf⟩
 obtain⟨hk1,hk2⟩:=List.mem_filter.1 hk
 have hG:G k:=by simpa using hk2
 refine⟨fun hx=>h1 k (hf k hx) hG,fun hx=>?_⟩
 obtain⟨cs,T,e,hT⟩:=h2 k hG (List.mem_range.1 hk1)
 rcases n_mem_foot.1 hx with rfl | rfl | hx
 ·exact obj_ne e hq.hp.tb.blk (by rcases hT with rfl | rfl | rfl | rfl | rfl <;> decide) rfl
 ·obtain⟨D,⟨es,clock,hq2,_⟩,_⟩:=hq.hp.tb.map
  rw[e] at hq2
  simp at hq2
 ·obtain⟨cur,hc⟩:=row_obj hq.hp.tb.own hx
  exact obj_ne e hc (by rcases hT with rfl | rfl | rfl | rfl | rfl <;> decide) rfl
theorem Hs.getN (h:Hs w B hb m F s) (hS:SndN s.l s.ns.length) (hl:s.l.length<=4000) {cv:Value} {cs:List Int} (hC:Ri w cv cs) (hcs:∀x∈cs,cellB s.l x=true) (hcl:cs.length<=4096) :
  Calls Tryz.prog 21 #[.pointer (some ⟨hb,0,none⟩),cv] w fun e w'=>(∃nv rv avs TS ee,e=.returned (.tuple #[.agg #[nv,rv],.nilIface])/\Rfi s.l cs TS/\Good (rdG s.l s.ns cs TS)/\(∀x y:Nat,(ee x y=true↔Al (rdG s.l s.ns cs TS) (x:Int) (y:Int)))/\Og w' w.heap.size nv rv avs (trimF (quoF ee (rdG s.l s.ns cs TS))))/\Below w.heap.size w w':=by
 obtain⟨ab,tb,av,tv,tq,trv,ptv,hq,hf⟩:=h
 obtain⟨⟨V,hV⟩,hn⟩:=hS
 refine get_ok hq.hp hV hn hC hcs hcl (fun TS hT=>?_)
 have h9:=nodup_valsG (fun k=>trmW s.l k) s.l.length TS hT.nodup (fun t ht=>by
  obtain⟨k,hk,e⟩:=hT.inT t ht
  exact⟨k,hk,e⟩)
 omega
end
structure B2 (W:World) (m:Int) (hb:Nat) (s:Hst) (hc:Nat) (s2:Hst) (X:Nat->Prop) (w:World):Prop where
 b:Below W.heap.size W w
 h:∃B C F G,Hs w B hb m F s/\Hs w C hc m G s2/\(∀k,F k->k<w.heap.size/\W.heap.size<=k/\¬X k/\¬G k)/\(∀k,G k->k<w.heap.size/\W.heap.size<=k/\¬X k)/\B<=w.heap.size/\C<=w.heap.size
 xz:∀k,X k->k<w.heap.size
 sn:SndN s.l s.ns.length
 nd:s.ns.Nodup
 l4:s.l.length<=4000
 sn2:SndN s2.l s2.ns.length
 nd2:s2.ns.Nodup
 l42:s2.l.length<=4000
section
variable {W w w':World} {hb hc:Nat} {m:Int} {s s2:Hst} {X:Nat->Prop}
theorem B2.swap (h:B2 W m hb s hc s2 X w):B2 W m hc s2 hb s X w:=by
 obtain⟨B,C,F,G,h1,h2,h3,h4,h5,h6⟩:=h.h
 exact⟨h.b,⟨C,B,G,F,h2,h1,fun k hk=>⟨(h4 k hk).1,(h4 k hk).2.1,(h4 k hk).2.2,fun hF=>(h3 k hF).2.2.2 hk⟩,fun k hk=>⟨(h3 k hk).1,(h3 k hk).2.1,(h3 k hk).2.2.1⟩,h6,h5⟩,h.xz,h.sn2,h.nd2,h.l42,h.sn,h.nd,h.l4⟩
theorem B2.next (h:B2 W m hb s hc s2 X w) (hb':Below w.heap.size w w'):B2 W m hb s hc s2 X w':=by
 obtain⟨B,C,F,G,h1,h2,h3,h4,h5,h6⟩:=h.h
 have hz:=hb'.size
 exact⟨Below.next h.b hb',⟨B,C,F,G,h1.below hb',h2.below hb',fun k hk=>⟨Nat.lt_of_lt_of_le (h3 k hk).1 hz,(h3 k hk).2⟩,fun k hk=>⟨Nat.lt_of_lt_of_le (h4 k hk).1 hz,(h4 k hk).2⟩,Nat.le_trans h5 hz,Nat.le_trans h6 hz⟩,fun k hk=>Nat.lt_of_lt_of_le (h.xz k hk) hz,h.sn,h.nd,h.l4,h.sn2,h.nd2,h.l42⟩
theorem B2.more (h:B2 W m hb s hc s2 X w) (hb':Below w.heap.size w w'):B2 W m hb s hc s2 (fun k=>X k∨(w.heap.size<=k/\k<w'.heap.size)) w':=by
 obtain⟨B,C,F,G,h1,h2,h3,h4,h5,h6⟩:=h.h
 have hz:=hb'.size
 refine⟨Below.next h.b hb',⟨B,C,F,G,h1.below hb',h2.below hb',fun k hk=>⟨Nat.lt_of_lt_of_le (h3 k hk).1 hz,(h3 k hk).2.1,fun hx=>?_,(h3 k hk).2.2.2⟩,fun k hk=>⟨Nat.lt_of_lt_of_le (h4 k hk).1 hz,(h4 k hk).2.1,fun hx=>?_⟩,Nat.le_trans h5 hz,Nat.le_trans h6 hz⟩,fun k hk=>?_,h.sn,h.nd,h.l4,h.sn2,h.nd2,h.l42⟩
 ·have:=(h3 k hk).1
  rcases hx with hx | hx
  ·exact (h3 k hk).2.2.1 hx
  ·omega
 ·have:=(h4 k hk).1
  rcases hx with hx | hx
  ·exact (h4 k hk).2.2 hx
  ·omega
 ·rcases hk with hk | hk
  ·exact Nat.lt_of_lt_of_le (h.xz k hk) hz
  ·exact hk.2
theorem B2.unify (h:B2 W m hb s hc s2 X w) (hf:Few s) {a b:Int} (ha:cellB s.l a=true) (hb':cellB s.l b=true) :
  Calls Tryz.prog 38 #[.pointer (some ⟨hb,0,none⟩),.int .i64 a,.int .i64 b] w fun e w'=>∃ok s',e=.returned (.tuple #[.bool ok,.nilIface])/\(ok=true->∃E n,UnR s [(utI s.l a.toNat,utI s.l b.toNat)] E n s')/\(ok=false->s'=s/\NoSol (utN s.l s.ns) [(utI s.l a.toNat,utI s.l b.toNat)])/\s'.ns=s.ns/\B2 W m hb s' hc s2 X w'/\(∀k,X k->w'.heap[k]?=w.heap[k]?):=by
 obtain⟨B,C,F,G,h1,h2,h3,h4,h5,h6⟩:=h.h
 have hl:=h.l4
 refine (unify_any h1.sharp h.sn (by omega) h.nd hf h5 ha hb').mono ?_
 rintro e w' ⟨ok,e1,hy,hn⟩
 cases ok with
 | false=>
  obtain⟨n1,n2⟩:=hn rfl
  exact⟨false,s,e1,fun e=>(by cases e),fun _=>⟨rfl,n1⟩,rfl,h.next n2,fun k hk=>n2.block k (h.xz k hk)⟩
 | true=>
  obtain⟨E,n,s',g1,g2,g3⟩:=hy rfl
  obtain⟨k1,k2,k3,k4,k5,k6⟩:=g1.wr.keeps
  have hz:=g3.size
  have hW:=h.b.size
  have hX:∀k,X k->w'.heap[k]?=w.heap[k]?:=fun k hk=>g3.block k (h.xz k hk) (fun hx=>(h3 k hx.1).2.2.1 hk)
  have h7:=g1.wf.snd
  rw[←k1] at h7
  have h8:=h2.far g3 (fun k hG hF=>(h3 k hF.1).2.2.2 hG) (fun k hF _=>hF.2.1)
  refine⟨true,s',e1,fun _=>⟨E,n,g1⟩,fun e=>(by cases e),k1,⟨Below.trans h.b (g3.below (fun k hk=>(h3 k hk.1).2.1) hW),⟨B,C,_,G,g2.lt,h8,fun k hk=>?_,fun k hk=>⟨Nat.lt_of_lt_of_le (h4 k hk).1 hz,(h4 k hk).2⟩,Nat.le_trans h5 hz,Nat.le_trans h6 hz⟩,fun k hk=>Nat.lt_of_lt_of_le (h.xz k hk) hz,h7,by rw[k1];exact h.nd,by omega,h.sn2,h.nd2,h.l42⟩,hX⟩
  rcases hk.1 with hk1 | hk1
  ·exact⟨hk.2,(h3 k hk1.1).2.1,(h3 k hk1.1).2.2⟩
  ·exact⟨hk.2,by omega,fun hx=>(by have:=h.xz k hx;omega),fun hx=>(by have:=(h4 k hx).1;omega)⟩
theorem B2.get (h:B2 W m hb s hc s2 X w) {cv:Value} {cs:List Int} (hC:Ri w cv cs) (hcs:∀x∈cs,cellB s.l x=true) (hcl:cs.length<=4096) :
  Calls Tryz.prog 21 #[.pointer (some ⟨hb,0,none⟩),cv] w fun e w'=>(∃nv rv avs TS ee,e=.returned (.tuple #[.agg #[nv,rv],.nilIface])/\Rfi s.l cs TS/\Good (rdG s.l s.ns cs TS)/\(∀x y:Nat,(ee x y=true↔Al (rdG s.l s.ns cs TS) (x:Int) (y:Int)))/\Og w' w.heap.size nv rv avs (trimF (quoF ee (rdG s.l s.ns cs TS))))/\Below w.heap.size w w':=by
 obtain⟨B,C,F,G,h1,_⟩:=h.h
 exact h1.getN h.sn h.l4 hC hcs hcl
end
end Go.Proofs.YtpkojcfdkkjmcaaGreatDoor
