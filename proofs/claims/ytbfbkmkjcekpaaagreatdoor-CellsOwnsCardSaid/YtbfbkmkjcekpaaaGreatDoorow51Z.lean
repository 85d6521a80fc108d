/- Package cells: a heap between calls, and what a call makes of it. -/
import Derived.Test.YtbfbkmkjcekpaaaGreatDoorow39Z
import Derived.Test.YtbfbkmkjcekpaaaGreatDoorow45Z
import Derived.Test.YtbfbkmkjcekpaaaGreatDoorow50Z
import Derived.Test.YtbfbkmkjcekpaaaGreatDoorow48Z
import Derived.Test.YtbfbkmkjcekpaaaGreatDoorow46Z
import Derived.Test.YtbfbkmkjcekpaaaGreatDoorow02Z
namespace Go.Proofs.YtbfbkmkjcekpaaaGreatDoor
set_option maxRecDepth 100000
open Go.RowKit
structure Hst where
 l:List Int
 ns:List ByteArray
 tr:List Te
 pt:List Pe
 n:Int
def Hs (w:World) (B hb:Nat) (m:Int) (F:Nat->Prop) (s:Hst):Prop:=
 ∃ab tb av tv tq trv ptv,Hq w B hb ab tb m av s.l tv tq s.ns trv s.tr ptv s.pt s.n/\∀k,k∈qfoot hb ab av trv ptv->F k
theorem Hs.below {w w':World} {B hb:Nat} {m:Int} {F:Nat->Prop} {s:Hst} (h:Hs w B hb m F s) (hb':Below w.heap.size w w'):Hs w' B hb m F s:=by
 obtain⟨ab,tb,av,tv,tq,trv,ptv,h,hf⟩:=h
 exact⟨ab,tb,av,tv,tq,trv,ptv,h.below hb',hf⟩
theorem Hs.weak {w:World} {B hb:Nat} {m:Int} {F F':Nat->Prop} {s:Hst} (h:Hs w B hb m F s) (hF:∀k,F k->F' k):Hs w B hb m F' s:=by
 obtain⟨ab,tb,av,tv,tq,trv,ptv,h,hf⟩:=h
 exact⟨ab,tb,av,tv,tq,trv,ptv,h,fun k hk=>hF k (hf k hk)⟩
structure Sj (s:Hst) (j:Nat):Prop where
 si:SI s.l s.ns.length s.tr s.pt
 n0:0<=s.n
 n1:s.n<=j
 t1:s.tr.length<=j
 p1:s.pt.length<=j
theorem Sj.more {s:Hst} {j k:Nat} (h:Sj s j) (hk:j<=k):Sj s k:=⟨h.si,h.n0,Int.le_trans h.n1 (by omega),Nat.le_trans h.t1 hk,Nat.le_trans h.p1 hk⟩
inductive Stp (kd a:Int) (s:Hst):Hst->Prop
 | same:Stp kd a s s
 | write (k:Nat) (x:Int) (hk:k<s.l.length) (h:SndN (s.l.set k x) s.ns.length):Stp kd a s ⟨s.l.set k x,s.ns,trW s.l s.tr s.pt k,s.pt,s.n+1⟩
 | put (m:List Int) (ns':List ByteArray) (h1:s.ns.length<=ns'.length) (h:SndN (s.l++m) ns'.length):Stp kd a s ⟨s.l++m,ns',s.tr,s.pt,s.n⟩
 | point:Stp kd a s ⟨s.l,s.ns,s.tr,s.pt++[(s.tr.length,s.l.length)],s.n⟩
 | release (j:Nat) (hj:j<s.pt.length) (hk:kd=7) (ha:a=(j:Int)):Stp kd a s ⟨s.l,s.ns,s.tr,s.pt.take j,s.n⟩
 | undo (j:Nat) (hj:j<s.pt.length) (hk:kd=6) (ha:a=(j:Int)):Stp kd a s ⟨atP s.l s.tr s.pt[j],s.ns,s.tr.take s.pt[j].1,s.pt.take (j+1),s.n⟩
theorem trW_len (l:List Int) (tr:List Te) (pt:List Pe) (k:Nat):(trW l tr pt k).length<=tr.length+1:=by
 unfold trW
 split <;> simp
theorem Stp.sj {kd a:Int} {s s':Hst} {j:Nat} (h:Stp kd a s s') (hs:Sj s j):Sj s' (j+1):=by
 have hn:=hs.n1
 have h0:=hs.n0
 have ht:=hs.t1
 have hp:=hs.p1
 cases h with
 | same=>exact hs.more (by omega)
 | write k x hk h=>
  have:=trW_len s.l s.tr s.pt k
  exact⟨hs.si.write hk h,by show 0<=s.n+1;omega,by show s.n+1<=_;omega,by show (trW s.l s.tr s.pt k).length<=_;omega,by show s.pt.length<=_;omega⟩
 | put m ns' h1 h=>exact⟨hs.si.put h1 h,h0,by show s.n<=_;omega,by show s.tr.length<=_;omega,by show s.pt.length<=_;omega⟩
 | point=>exact⟨hs.si.point,h0,by show s.n<=_;omega,by show s.tr.length<=_;omega,by show (s.pt++[_]).length<=_;simp;omega⟩
 | release i hj hk ha=>exact⟨hs.si.release i,h0,by show s.n<=_;omega,by show s.tr.length<=_;omega,by show (s.pt.take i).length<=_;simp;omega⟩
 | undo i hj hk ha=>exact⟨hs.si.undo i hj,h0,by show s.n<=_;omega,by show (s.tr.take _).length<=_;simp;omega,by show (s.pt.take _).length<=_;simp;omega⟩
section
variable {w w':World} {B hb ab tb:Nat} {m:Int} {av:Value} {l:List Int} {tv:Value} {tq:Nat} {ns:List ByteArray} {trv:Value} {tr:List Te} {ptv:Value} {pt:List Pe} {n:Int} {F:Nat->Prop}
theorem mo_of {ks:List Nat} (h:a_Mod ks w w') (hk:∀k∈ks,F k):Mo F w w':=⟨h.os,h.tape,h.output,h.size,fun k hk' hn=>h.block k hk' (fun hx=>hn (hk k hx))⟩
theorem foot_new {av' trv' ptv':Value} (hf:∀k,k∈qfoot hb ab av trv ptv->F k) (h1:a_Nx w av av') (h2:a_Nx w trv trv') (h3:a_Nx w ptv ptv'):∀k,k∈qfoot hb ab av' trv' ptv'->F k∨w.heap.size<=k:=fun k hk=>by
 rcases mem_qfoot.1 hk with rfl | hk | hk | hk
 ·exact Or.inl (hf _ (mem_qfoot.2 (Or.inl rfl)))
 ·rcases a_mem_foot.1 hk with rfl | hk
  ·exact Or.inl (hf _ (mem_qfoot.2 (Or.inr (Or.inl (a_mem_foot.2 (Or.inl rfl))))))
  ·rcases h1 k hk with h | h
   ·exact Or.inl (hf _ (mem_qfoot.2 (Or.inr (Or.inl (a_mem_foot.2 (Or.inr h))))))
   ·exact Or.inr h
 ·rcases h2 k hk with h | h
  ·exact Or.inl (hf _ (mem_qfoot.2 (Or.inr (Or.inr (Or.inl h)))))
  ·exact Or.inr h
 ·rcases h3 k hk with h | h
  ·exact Or.inl (hf _ (mem_qfoot.2 (Or.inr (Or.inr (Or.inr h)))))
  ·exact Or.inr h
end
def Lv (w w':World) (B hb:Nat) (m:Int) (F:Nat->Prop) (kd a:Int) (s:Hst):Prop:=∃s',Stp kd a s s'/\Hs w' B hb m (fun k=>F k∨w.heap.size<=k) s'/\Mo F w w'
section
variable {w:World} {B hb:Nat} {m:Int} {F:Nat->Prop} {s:Hst}
theorem Lv.same {w':World} {kd a:Int} (h:Hs w B hb m F s) (hb':Below w.heap.size w w'):Lv w w' B hb m F kd a s:=⟨s,.same,(h.below hb').weak (fun _=>Or.inl),Mo.ofBelow hb'⟩
theorem act_lv {w':World} {ab tb:Nat} {av tv:Value} {tq:Nat} {trv ptv:Value} {kd a:Int} (h:Hs w B hb m F s) (hf:∀k,k∈qfoot hb ab av trv ptv->F k) (ha:Act1 w w' B hb ab tb m av s.l tv tq s.ns trv s.tr ptv s.pt s.n):Lv w w' B hb m F kd a s:=by
 rcases ha with ha | ⟨k,x,hk,hs,trv',hq,hm,hx⟩
 ·exact Lv.same h ha
 ·exact⟨_,.write k x hk hs,⟨ab,tb,av,tv,tq,trv',ptv,hq,foot_new hf (a_Nx.refl _ _) hx (a_Nx.refl _ _)⟩,mo_of hm hf⟩
theorem bind_lv (h:Hs w B hb m F s) (hB:B<=w.heap.size) {j:Nat} (hs:Sj s j) (hj:j<=1000) (kd a x y:Int) :
  Calls Tryz.prog 25 #[.pointer (some ⟨hb,0,none⟩),.int .i64 x,.int .i64 y] w fun e w'=>(∃ev,e=.returned ev)/\Lv w w' B hb m F kd a s:=by
 obtain⟨ab,tb,av,tv,tq,trv,ptv,hq,hf⟩:=h
 have h1:=hs.n1
 have h2:=hs.t1
 have h3:=hs.p1
 exact (bind_act hq hB hs.si.now hs.n0 (by omega) (by omega) (by omega) x y).mono fun e w' ⟨e1,e2⟩=>⟨e1,act_lv ⟨ab,tb,av,tv,tq,trv,ptv,hq,hf⟩ hf e2⟩
theorem merge_lv (h:Hs w B hb m F s) (hB:B<=w.heap.size) {j:Nat} (hs:Sj s j) (hj:j<=1000) (kd a x y:Int) :
  Calls Tryz.prog 26 #[.pointer (some ⟨hb,0,none⟩),.int .i64 x,.int .i64 y] w fun e w'=>(∃ev,e=.returned ev)/\Lv w w' B hb m F kd a s:=by
 obtain⟨ab,tb,av,tv,tq,trv,ptv,hq,hf⟩:=h
 have h1:=hs.n1
 have h2:=hs.t1
 have h3:=hs.p1
 exact (merge_act hq hB hs.si.now hs.n0 (by omega) (by omega) (by omega) x y).mono fun e w' ⟨e1,e2⟩=>⟨e1,act_lv ⟨ab,tb,av,tv,tq,trv,ptv,hq,hf⟩ hf e2⟩
theorem point_lv (h:Hs w B hb m F s) (hB:B<=w.heap.size) {j:Nat} (hs:Sj s j) (hj:j<=1000) :
  Calls Tryz.prog 27 #[.pointer (some ⟨hb,0,none⟩)] w fun e w'=>e=.returned (.tuple #[.int .i64 (s.pt.length:Int),.nilIface])/\Hs w' B hb m (fun k=>F k∨w.heap.size<=k) ⟨s.l,s.ns,s.tr,s.pt++[(s.tr.length,s.l.length)],s.n⟩/\Mo F w w':=by
 obtain⟨ab,tb,av,tv,tq,trv,ptv,hq,hf⟩:=h
 have h3:=hs.p1
 exact (point_any hq hB (by omega)).mono fun e w' ⟨e1,ptv',e2,e3,e4⟩=>⟨e1,⟨ab,tb,av,tv,tq,trv,ptv',e2,foot_new hf (a_Nx.refl _ _) (a_Nx.refl _ _) e4⟩,mo_of e3 hf⟩
theorem undo_lv (h:Hs w B hb m F s) {j:Nat} (hs:Sj s j) (hj:j<=1000) (i:Nat) (hi:i<s.pt.length) :
  Calls Tryz.prog 28 #[.pointer (some ⟨hb,0,none⟩),.int .i64 (i:Int)] w fun e w'=>e=.returned .nilIface/\Hs w' B hb m (fun k=>F k∨w.heap.size<=k) ⟨atP s.l s.tr s.pt[i],s.ns,s.tr.take s.pt[i].1,s.pt.take (i+1),s.n⟩/\Mo F w w':=by
 obtain⟨ab,tb,av,tv,tq,trv,ptv,hq,hf⟩:=h
 have h2:=hs.t1
 have h3:=hs.p1
 have hl:=hs.si.len _ (List.getElem_mem hi)
 exact (undo_yes hq i hi s.pt[i].1 s.pt[i].2 (by simp[List.getD,hi]) hl.1 hl.2 (by omega) (by omega) hs.si.ent).mono fun e w' ⟨e1,av',trv',ptv',e2,e3,e4,e5,e6⟩=>⟨e1,⟨ab,tb,av',tv,tq,trv',ptv',e2,foot_new hf e4 e5 e6⟩,mo_of e3 hf⟩
theorem undo_any (h:Hs w B hb m F s) {j:Nat} (hs:Sj s j) (hj:j<=1000) (a:Int) :
  Calls Tryz.prog 28 #[.pointer (some ⟨hb,0,none⟩),.int .i64 a] w fun e w'=>(∃ev,e=.returned ev)/\Lv w w' B hb m F 6 a s:=by
 by_cases ha:0<=a/\a<(s.pt.length:Int)
 ·obtain⟨i,rfl⟩:∃i:Nat,a=(i:Int):=⟨a.toNat,by omega⟩
  exact (undo_lv h hs hj i (by omega)).mono fun e w' ⟨e1,e2,e3⟩=>⟨⟨_,e1⟩,_,.undo i (by omega) rfl rfl,e2,e3⟩
 ·obtain⟨ab,tb,av,tv,tq,trv,ptv,hq,hf⟩:=h
  exact (undo_no hq a (by omega)).mono fun e w' ⟨⟨_,e1,_⟩,e2⟩=>⟨⟨_,e1⟩,Lv.same ⟨ab,tb,av,tv,tq,trv,ptv,hq,hf⟩ e2⟩
theorem release_any (h:Hs w B hb m F s) (a:Int) :
  Calls Tryz.prog 29 #[.pointer (some ⟨hb,0,none⟩),.int .i64 a] w fun e w'=>(∃ev,e=.returned ev)/\Lv w w' B hb m F 7 a s:=by
 obtain⟨ab,tb,av,tv,tq,trv,ptv,hq,hf⟩:=h
 by_cases ha:0<=a/\a<(s.pt.length:Int)
 ·obtain⟨i,rfl⟩:∃i:Nat,a=(i:Int):=⟨a.toNat,by omega⟩
  exact (release_yes hq i (by omega)).mono fun e w' ⟨e1,ptv',e2,e3,e4⟩=>⟨⟨_,e1⟩,_,.release i (by omega) rfl rfl,⟨ab,tb,av,tv,tq,trv,ptv',e2,foot_new hf (a_Nx.refl _ _) (a_Nx.refl _ _) e4⟩,mo_of e3 hf⟩
 ·exact (release_no hq a (by omega)).mono fun e w' ⟨⟨_,e1,_⟩,e2⟩=>⟨⟨_,e1⟩,Lv.same ⟨ab,tb,av,tv,tq,trv,ptv,hq,hf⟩ e2⟩
theorem put_lv {W0:World} (hE:ErrC w) (h:Hs w B hb m F s) (hB:B<=w.heap.size) (hF:∀k,F k->B<=k) {j:Nat} (hs:Sj s j) (kd a:Int) {nv rv:Value} {g:Gf} (hW:Below W0.heap.size W0 w) (hWB:W0.heap.size<=B) (hG:Gr W0 nv rv g) (hS:Sized g) :
  Calls Tryz.prog 10 #[.pointer (some ⟨hb,0,none⟩),.agg #[nv,rv]] w fun e w'=>(∃ev,e=.returned ev)/\Lv w w' B hb m F kd a s:=by
 have h0:=h
 obtain⟨ab,tb,av,tv,tq,trv,ptv,hq,hf⟩:=h
 have hGw:=hG.below hW
 by_cases hck:one (chk g)=[]
 ·by_cases hna:(wthJ s.ns g (metF g) (metF g).length).length<=1024
  ·by_cases hro:(s.l.length+wantJ g (metF g) (metF g).length:Int)<=m
   ·have hg:=chk_good hck
    have hm2:=hq.hp.ar.m2
    have hpm:=pmc_ofG (ns:=s.ns) (b:=s.l.length) hg hna (by omega)
    obtain⟨avs,hA⟩:=gra_of hG
    have hfa:∀k∈hb::a_foot ab av,F k:=fun k hk=>by
     rcases List.mem_cons.1 hk with rfl | hk
     ·exact hf _ (mem_qfoot.2 (Or.inl rfl))
     ·exact hf _ (mem_qfoot.2 (Or.inr (Or.inl hk)))
    have hGk:∀w',a_Mod (hb::a_foot ab av) w w'->Gra w' nv rv g avs:=fun w' hm=>hA.below (hW.trans ((hm.below (fun k hk=>hF k (hfa k hk)) hB).mono hWB))
    obtain⟨V,hV⟩:=hs.si.now.1
    refine (put_okG hq.hp hB hGk hS hck hro hna (fun c hc=>hpm.may hc)).mono ?_
    rintro e w' ⟨ao,c,av',tb',tv',tq',rfl,ho,hp,hm,hx,ht⟩
    obtain⟨r1,r2⟩:=hq.rows hm (fun k hk hx=>by
     have:=hq.apart hx
     rcases List.mem_cons.1 hk with rfl | hk
     ·exact this.1 rfl
     ·exact this.2.1 hk)
    exact⟨⟨_,rfl⟩,_,.put _ _ (wthJ_ge _ _ _ _) ⟨⟨_,put_snd hV hpm⟩,put_nsb hs.si.now.2 (wthJ_ge _ _ _ _) hpm⟩,⟨ab,tb',av',tv',tq',trv,ptv,⟨hp,r1,r2⟩,foot_new hf hx (a_Nx.refl _ _) (a_Nx.refl _ _)⟩,mo_of hm hfa⟩
   ·exact (hput_full hE hq.hp hB hGw hS hck (by omega) hna).mono fun e w' ⟨⟨_,e1⟩,e2⟩=>⟨⟨_,e1⟩,Lv.same h0 e2⟩
  ·exact (put_names hE hq.hp hB hGw hS hck (by omega)).mono fun e w' ⟨⟨_,e1⟩,e2⟩=>⟨⟨_,e1⟩,Lv.same h0 e2⟩
 ·exact (hput_bad hb hE hGw hS hck).mono fun e w' ⟨⟨_,e1⟩,e2⟩=>⟨⟨_,e1⟩,Lv.same h0 e2⟩
theorem get_lv (h:Hs w B hb m F s) {j:Nat} (hs:Sj s j) (hm:m<=4096) (kd a:Int) {cv:Value} {cs:List Int} (hC:Ri w cv cs) (hl:cs.length<=4096) :
  Calls Tryz.prog 13 #[.pointer (some ⟨hb,0,none⟩),cv] w fun e w'=>(∃ev,e=.returned ev)/\Lv w w' B hb m F kd a s:=by
 have h0:=h
 obtain⟨ab,tb,av,tv,tq,trv,ptv,hq,hf⟩:=h
 obtain⟨V,hV⟩:=hs.si.now.1
 have:=hq.hp.ar.len
 exact (get_any hq.hp hV hs.si.now.2 (by omega) hC hl).mono fun e w' ⟨e1,e2⟩=>⟨e1,Lv.same h0 e2⟩
theorem look_lv (h:Hs w B hb m F s) {j:Nat} (hs:Sj s j) (kd a x:Int) :
  Calls Tryz.prog 14 #[.pointer (some ⟨hb,0,none⟩),.int .i64 x] w fun e w'=>(∃ev,e=.returned ev)/\Lv w w' B hb m F kd a s:=by
 have h0:=h
 obtain⟨ab,tb,av,tv,tq,trv,ptv,hq,hf⟩:=h
 obtain⟨V,hV⟩:=hs.si.now.1
 exact (look_any hq.hp hV hs.si.now.2 x).mono fun e w' ⟨e1,e2⟩=>⟨e1,Lv.same h0 e2⟩
end
end Go.Proofs.YtbfbkmkjcekpaaaGreatDoor
