/- Package cells: the graph that is read is good. -/
import Derived.Deep.CutRange
import Derived.Test.YtbfbkmkjcekpaaaGreatDoorow39Z
import Derived.Test.YtbfbkmkjcekpaaaGreatDoorow30Z
import Derived.Test.YtbfbkmkjcekpaaaGreatDoorow36Z
import Derived.Test.YtbfbkmkjcekpaaaGreatDoorow35Z
import Derived.Test.YtbfbkmkjcekpaaaGreatDoorow38Z
import Derived.Test.YtbfbkmkjcekpaaaGreatDoorow16Z
namespace Go.Proofs.YtbfbkmkjcekpaaaGreatDoor
set_option maxRecDepth 100000
open Go.RowKit
section
variable {l:List Int} {ns:List ByteArray} {cs TS:List Int} {V:Nat->Bool}
theorem trm_int (h:Snd l V) (hl:l.length<=65536) {k:Nat} (hk:k<l.length) (h2:trmW l k % 8=2):-1125899906842624<=valOf (trmW l k)/\valOf (trmW l k)<=1125899906842624:=by
 obtain⟨j,hj,e,e2⟩:=trm_ends h _ k hk (Nat.le_refl _)
 rw[e2] at h2 ⊢
 unfold endW at h2 ⊢
 split at h2
 ·obtain⟨s1,_⟩:=word_str (j:=j) (by omega)
  omega
 ·rename_i h4
  rw[if_neg h4]
  have hg:=h.good j hj
  unfold goodB at hg
  rw[h2] at hg
  simp[fitsB] at hg
  exact hg
theorem posF_in {x:Int} (h:x∈TS):0<=posF TS x/\posF TS x<(TS.length:Int):=by
 unfold posF
 rw[if_pos h]
 have:=pos_lt h
 omega
theorem rd_nodes (_h:Rfi l cs TS):(rdG l ns cs TS).nodes.length=TS.length:=by simp[rdG,rdN]
theorem rd_good (hs:Snd l V) (hn:NsB l ns.length) (hl:l.length<=65536) (hg:∀s∈ns,n_goodS s=true) (h:Rfi l cs TS) (h1:TS.length<=4096) (h2:cs.length<=4096):Good (rdG l ns cs TS):=by
 refine⟨by rw[rd_nodes h];exact h1,by simp[rdG];exact h2,fun nd hnd=>?_,fun x hx=>?_⟩
 ·rw[rd_nodes h]
  have hnd':nd∈(TS.take TS.length).map (ndT l ns TS):=hnd
  rw[List.take_length] at hnd'
  obtain⟨t,ht,rfl⟩:=List.mem_map.1 hnd'
  obtain⟨k,hk,hte⟩:=h.inT t ht
  have hTw:Tw l ns t:=by rw[hte];exact trm_tw hs hn hl hk
  have hcl:∀c∈tdL l t,tmC l c∈TS:=by
   obtain⟨i,hi,rfl⟩:=list_mem_getD ht
   exact h.cl i hi
  have hgD:∀i,i<ns.length->goodS (ns.getD i ⟨#[]⟩)=true:=fun i hi=>hg _ (by simp[List.getD,hi])
  have he:(⟨#[]⟩:ByteArray).toList=[]:=by rw[ByteArray.toList_eq]
  unfold goodNd ndT
  dsimp only
  rcases hTw.tag with e | e | e | e
  ·have k1:tdK t=1:=by simp[tdK,e]
   rw[if_pos k1]
   simp[tdS,tdN,tdL,e,he]
  ·have k1:tdK t=2:=by simp[tdK,e]
   rw[if_neg (by omega),if_pos k1]
   have hs1:tdS l ns t=ns.getD (valOf t).toNat ⟨#[]⟩:=by simp[tdS,e]
   rw[hs1,hgD _ (hTw.atom e).2]
   simp[tdN,tdL,e]
  ·have k1:tdK t=3:=by simp[tdK,e]
   rw[if_neg (by omega),if_neg (by omega),if_pos k1]
   have hi:=trm_int hs hl hk (by rw[←hte];exact e)
   rw[←hte] at hi
   simp[tdS,tdN,tdL,e,he,hi]
  ·have k1:tdK t=4:=by simp[tdK,e]
   rw[if_neg (by omega),if_neg (by omega),if_neg (by omega),if_pos k1]
   obtain⟨_,hy,h4,hgw,hnm⟩:=hTw.str e
   have hs1:tdS l ns t=ns.getD (valOf (wdN l (valOf t).toNat) / 16).toNat ⟨#[]⟩:=by simp[tdS,e]
   rw[hs1,hgD _ hnm]
   have h4':wdN l (valOf t).toNat % 8=4:=h4
   have hfv:=fun_val (wdN l (valOf t).toNat) hgw h4'
   have hln:(tdL l t).length=(valOf (wdN l (valOf t).toNat) % 16).toNat:=by
    unfold tdL rchL
    rw[if_pos e,if_neg (by omega),if_pos h4']
    simp
   have hst:((tdL l t).map (fun c=>posF TS (tmC l c))).any (strange TS.length)=false:=by
    rw[List.any_eq_false]
    intro x hx
    obtain⟨c,hc,rfl⟩:=List.mem_map.1 hx
    have:=posF_in (hcl c hc)
    simp[strange]
    omega
   rw[hst,List.length_map,hln]
   have hn0:tdN t=0:=by simp[tdN,e]
   rw[hn0]
   simp
   omega
 ·rw[rd_nodes h]
  have hx':x∈cs.map (fun c=>posF TS (tmC l c)):=hx
  obtain⟨c,hc,rfl⟩:=List.mem_map.1 hx'
  exact posF_in (h.root c hc)
end
end Go.Proofs.YtbfbkmkjcekpaaaGreatDoor
namespace Go.Proofs.YtbfbkmkjcekpaaaGreatDoor
set_option maxRecDepth 100000
open Go.RowKit
theorem getD_mapI (f:Int->Int) {L:List Int} {i:Nat} (h:i<L.length):(L.map f).getD i 0=f (L.getD i 0):=by simp[List.getD,h]
theorem getD_mapR {n i:Nat} (f:Nat->Int) (h:i<n):((List.range n).map f).getD i 0=f i:=by simp[List.getD,h]
section
variable {NS:List ByteArray} {g:Gf} {met:List Int} {l:List Int} {V:Nat->Bool}
theorem PmC.inj (h:PmC NS g met l.length) {x y:Int} (hx:x∈met) (hy:y∈met) (kx:1<=szN (g.nodes.getD x.toNat nd0)) (ky:1<=szN (g.nodes.getD y.toNat nd0)) (e:plN g met l.length x=plN g met l.length y):x=y:=by
 have _:=h.len
 have h1:pos met x=pos met y:=by
  rcases Nat.lt_trichotomy (pos met x) (pos met y) with h1 | h1 | h1
  ·have:=want_next (g:=g) (met:=met) h1
   rw[pos_at hx] at this
   unfold plN at e
   omega
  ·exact h1
  ·have:=want_next (g:=g) (met:=met) h1
   rw[pos_at hy] at this
   unfold plN at e
   omega
 rw[←pos_at hx,h1,pos_at hy]
theorem PmC.trm (hs:Snd l V) (h:PmC NS g met l.length) {x:Int} (hx:x∈met) {k:Nat} (hk:k<(l++putW NS g met l.length).length) (e:wdN (l++putW NS g met l.length) k=cwX NS g met l.length x):trmW (l++putW NS g met l.length) k=cwX NS g met l.length x:=by
 have hsn:=put_snd hs h
 have hcw:=h.cw hx
 have hpl:=h.pl hx
 have hrm:=h.room
 have hlen:(l++putW NS g met l.length).length=l.length+(putW NS g met l.length).length:=by simp
 have ht:tgN (l++putW NS g met l.length) k=cwX NS g met l.length x % 8:=by unfold tgN;rw[e]
 rcases hcw.tag with t | t | t | t
 ·obtain⟨kk,hv⟩:=hcw.ref t
  have hvl:vlN (l++putW NS g met l.length) k=plN g met l.length x:=by unfold vlN;rw[e,hv,Int.toNat_natCast]
  have hw:=h.var hx kk
  have hwe:(8*(plN g met l.length x:Int))=cwX NS g met l.length x:=by
   have:=wordOf_back (cwX NS g met l.length x) hcw.rng.1 hcw.rng.2
   rw[t,hv] at this
   rw[←this]
   rw[sz_var kk] at hpl
   unfold wordOf
   omega
  by_cases hself:vlN (l++putW NS g met l.length) k=k
  ·have hn:nxN (l++putW NS g met l.length) k=none:=by unfold nxN;rw[if_pos (by omega),if_pos hself]
   rw[trm_end hn]
   unfold endW
   rw[if_neg (by omega),e]
  ·have hn:nxN (l++putW NS g met l.length) k=some (plN g met l.length x):=by unfold nxN;rw[if_pos (by omega),if_neg hself,hvl]
   rw[trm_next hsn hk hn]
   have ht2:tgN (l++putW NS g met l.length) (plN g met l.length x)=0:=by unfold tgN;rw[hw,hwe];exact t
   have hv2:vlN (l++putW NS g met l.length) (plN g met l.length x)=plN g met l.length x:=by unfold vlN;rw[hw,hwe,hv,Int.toNat_natCast]
   have hn2:nxN (l++putW NS g met l.length) (plN g met l.length x)=none:=by unfold nxN;rw[if_pos ht2,if_pos hv2]
   rw[trm_end hn2]
   unfold endW
   rw[if_neg (by omega),hw,hwe]
 ·have hn:nxN (l++putW NS g met l.length) k=none:=by unfold nxN;rw[if_neg (by omega),if_neg (by omega)]
  rw[trm_end hn]
  unfold endW
  rw[if_neg (by omega),e]
 ·have hn:nxN (l++putW NS g met l.length) k=none:=by unfold nxN;rw[if_neg (by omega),if_neg (by omega)]
  rw[trm_end hn]
  unfold endW
  rw[if_neg (by omega),e]
 ·obtain⟨kk,hv⟩:=hcw.str t
  have hvl:vlN (l++putW NS g met l.length) k=plN g met l.length x:=by unfold vlN;rw[e,hv,Int.toNat_natCast]
  have hn:nxN (l++putW NS g met l.length) k=some (plN g met l.length x):=by unfold nxN;rw[if_neg (by omega),if_pos (Or.inl (by omega)),hvl]
  rw[trm_next hsn hk hn]
  have ht2:tgN (l++putW NS g met l.length) (plN g met l.length x)=4:=by unfold tgN;rw[h.fun hx kk];exact (h.fw hx kk).2.2.1
  have hn2:nxN (l++putW NS g met l.length) (plN g met l.length x)=none:=by unfold nxN;rw[if_neg (by omega),if_neg (by omega)]
  rw[trm_end hn2]
  unfold endW
  rw[if_pos ht2]
  have:=wordOf_back (cwX NS g met l.length x) hcw.rng.1 hcw.rng.2
  rw[t,hv] at this
  exact this
theorem PmC.tdL (hs:Snd l V) (h:PmC NS g met l.length) {x:Int} (hx:x∈met):(tdL (l++putW NS g met l.length) (cwX NS g met l.length x)).map (tmC (l++putW NS g met l.length))=(g.nodes.getD x.toNat nd0).args.map (cwX NS g met l.length):=by
 have hcw:=h.cw hx
 have hn:=h.nd hx
 have hlen:(l++putW NS g met l.length).length=l.length+(putW NS g met l.length).length:=by simp
 by_cases t:cwX NS g met l.length x % 8=3
 ·obtain⟨kk,hv⟩:=hcw.str t
  obtain⟨f1,_,f3,f4⟩:=h.fw hx kk
  have h18:=good_comp hn kk
  have hpl:=h.pl hx
  rw[sz_comp kk] at hpl
  unfold Go.Proofs.YtbfbkmkjcekpaaaGreatDoor.tdL rchL
  rw[if_pos t,hv,Int.toNat_natCast,h.fun hx kk,if_neg (by omega),if_pos f3,f4]
  have ha:(((num NS (g.nodes.getD x.toNat nd0).name:Int)*16+((g.nodes.getD x.toNat nd0).args.length:Int)) % 16).toNat=(g.nodes.getD x.toNat nd0).args.length:=by omega
  rw[ha]
  refine list_ext0 (by simp) (fun i hi=>?_)
  have hi':i<(g.nodes.getD x.toNat nd0).args.length:=by simpa using hi
  obtain⟨ea,hm⟩:=h.args hx kk hi'
  have hk:plN g met l.length x+1+i<(l++putW NS g met l.length).length:=by rw[hlen];omega
  have htm:=h.trm hs hm hk ea
  rw[getD_mapI _ (by simpa using hi'),getD_mapR _ hi',getD_mapI _ hi']
  show trmW _ ((plN g met l.length x+1+i:Nat):Int).toNat=_
  rw[Int.toNat_natCast]
  exact htm
 ·have hne:(g.nodes.getD x.toNat nd0).kind≠4:=fun k4=>t (by
   unfold cwX cwF
   rw[if_neg (by omega),if_neg (by omega),if_pos k4]
   exact wordOf_tag _ _ (by omega) (by omega))
  have ha:(g.nodes.getD x.toNat nd0).args=[]:=by
   have:(g.nodes.getD x.toNat nd0).args.length=0:=by
    unfold goodNd at hn
    rcases good_kind (h.nd hx) with k | k | k | k
    ·rw[if_pos k] at hn
     simp only[Bool.and_eq_true,decide_eq_true_eq] at hn
     exact hn.2
    ·rw[if_neg (by omega),if_pos k] at hn
     simp only[Bool.and_eq_true,decide_eq_true_eq] at hn
     exact hn.2
    ·rw[if_neg (by omega),if_neg (by omega),if_pos k] at hn
     simp only[Bool.and_eq_true,decide_eq_true_eq] at hn
     exact hn.2
    ·exact absurd k hne
   exact List.eq_nil_of_length_eq_zero this
  rw[ha]
  unfold Go.Proofs.YtbfbkmkjcekpaaaGreatDoor.tdL
  rw[if_neg t]
  rfl
theorem bytes_nil {s:ByteArray} (h:s.toList=[]):s=⟨#[]⟩:=by
 rw[ByteArray.toList_eq] at h
 apply ByteArray.ext
 exact Array.toList_inj.1 h
theorem PmC.lab (h:PmC NS g met l.length) (hin:∀x∈met,(g.nodes.getD x.toNat nd0).kind=2∨(g.nodes.getD x.toNat nd0).kind=4->inL NS (g.nodes.getD x.toNat nd0).name=true) {x:Int} (hx:x∈met):tdK (cwX NS g met l.length x)=(g.nodes.getD x.toNat nd0).kind/\tdS (l++putW NS g met l.length) NS (cwX NS g met l.length x)=(g.nodes.getD x.toNat nd0).name/\tdN (cwX NS g met l.length x)=(g.nodes.getD x.toNat nd0).num:=by
 have hcw:=h.cw hx
 have hn:=h.nd hx
 have hl:=h.len
 unfold goodNd at hn
 rcases good_kind (h.nd hx) with k | k | k | k
 ·rw[if_pos k] at hn
  simp only[Bool.and_eq_true,decide_eq_true_eq] at hn
  have t:cwX NS g met l.length x % 8=0:=by
   unfold cwX cwF
   rw[if_neg (by omega),if_neg (by omega),if_neg (by omega)]
   exact wordOf_tag _ _ (by omega) (by omega)
  refine⟨by rw[k];simp[tdK,t],?_,by rw[hn.1.2];simp[tdN,t]⟩
  rw[bytes_nil hn.1.1]
  simp[tdS,t]
 ·rw[if_neg (by omega),if_pos k] at hn
  simp only[Bool.and_eq_true,decide_eq_true_eq] at hn
  have hnm:=h.nm x hx (Or.inl k)
  have hwe:cwX NS g met l.length x=wordOf 1 (num NS (g.nodes.getD x.toNat nd0).name:Int):=by
   unfold cwX cwF
   rw[if_pos k]
  have hf:fitsB 1 (num NS (g.nodes.getD x.toNat nd0).name:Int)=true:=by generalize num NS (g.nodes.getD x.toNat nd0).name=v at *;simp[fitsB];omega
  have t:cwX NS g met l.length x % 8=1:=by
   rw[hwe]
   exact wordOf_tag _ _ (by omega) (by omega)
  have hv:valOf (cwX NS g met l.length x)=(num NS (g.nodes.getD x.toNat nd0).name:Int):=by rw[hwe];exact wordOf_val _ _ hf
  refine⟨by rw[k];simp[tdK,t],?_,by rw[hn.1.2];simp[tdN,t]⟩
  unfold tdS
  rw[if_pos t,hv,Int.toNat_natCast]
  exact num_at (hin x hx (Or.inl k))
 ·rw[if_neg (by omega),if_neg (by omega),if_pos k] at hn
  simp only[Bool.and_eq_true,decide_eq_true_eq] at hn
  have hwe:cwX NS g met l.length x=wordOf 2 (g.nodes.getD x.toNat nd0).num:=by
   unfold cwX cwF
   rw[if_neg (by omega),if_pos k]
  have t:cwX NS g met l.length x % 8=2:=by
   rw[hwe]
   exact wordOf_tag _ _ (by omega) (by omega)
  have hv:valOf (cwX NS g met l.length x)=(g.nodes.getD x.toNat nd0).num:=by rw[hwe];exact wordOf_val _ _ (good_int (h.nd hx) k)
  refine⟨by rw[k];simp[tdK,t],?_,?_⟩
  ·rw[bytes_nil hn.1.1.1]
   simp[tdS,t]
  ·unfold tdN
   rw[if_pos t,hv]
 ·rw[if_neg (by omega),if_neg (by omega),if_neg (by omega),if_pos k] at hn
  simp only[Bool.and_eq_true,decide_eq_true_eq] at hn
  have t:cwX NS g met l.length x % 8=3:=by
   unfold cwX cwF
   rw[if_neg (by omega),if_neg (by omega),if_pos k]
   exact wordOf_tag _ _ (by omega) (by omega)
  obtain⟨_,hv⟩:=hcw.str t
  have h18:=good_comp (h.nd hx) k
  refine⟨by rw[k];simp[tdK,t],?_,by rw[hn.1.1.1.2];simp[tdN,t]⟩
  unfold tdS
  rw[if_neg (by omega),if_pos t,hv,Int.toNat_natCast,h.fun hx k,(h.fw hx k).2.2.2]
  have:(((num NS (g.nodes.getD x.toNat nd0).name:Int)*16+((g.nodes.getD x.toNat nd0).args.length:Int)) / 16).toNat=num NS (g.nodes.getD x.toNat nd0).name:=by omega
  rw[this]
  exact num_at (hin x hx (Or.inr k))
theorem put_pr (hs:Snd l V) (h:PmC NS g met l.length) (hin:∀x∈met,(g.nodes.getD x.toNat nd0).kind=2∨(g.nodes.getD x.toNat nd0).kind=4->inL NS (g.nodes.getD x.toNat nd0).name=true) {cs TS:List Int} (hcs:cs=(List.range g.roots.length).map (fun i=>((l.length+i:Nat):Int))) (hF:Rfi (l++putW NS g met l.length) cs TS) :
  Pr (rdG (l++putW NS g met l.length) NS cs TS) g (fun i x=>x∈met/\isN (rdG (l++putW NS g met l.length) NS cs TS) i/\TS.getD i.toNat 0=cwX NS g met l.length x)/\TS.length<=met.length:=by
 have hlen:(l++putW NS g met l.length).length=l.length+(putW NS g met l.length).length:=by simp
 have hnn:=rd_nodes (ns:=NS) hF
 have hcl:cs.length=g.roots.length:=by rw[hcs];simp
 have hroot:∀i,i<g.roots.length->tmC (l++putW NS g met l.length) (cs.getD i 0)=cwX NS g met l.length (g.roots.getD i 0)/\g.roots.getD i 0∈met:=fun i hi=>by
  have hm:=h.root _ (getD_mem hi)
  refine⟨?_,hm⟩
  rw[hcs,getD_mapR _ hi]
  show trmW _ ((l.length+i:Nat):Int).toNat=_
  rw[Int.toNat_natCast]
  have hr:=want_root (g:=g) (met:=met) met.length
  have hpl:=putW_len (ns:=NS) (g:=g) (met:=met) (b:=l.length)
  refine h.trm hs hm (by rw[hlen];omega) ?_
  rw[wd_nw (by omega),show l.length+i-l.length=i by omega]
  exact putW_root hi
 have hall:∀t∈TS,∃x∈met,t=cwX NS g met l.length x:=hF.mn (fun t=>∃x∈met,t=cwX NS g met l.length x) (fun c hc=>by
  obtain⟨i,hi,rfl⟩:=list_mem_getD hc
  obtain⟨e,hm⟩:=hroot i (by omega)
  exact⟨_,hm,e⟩) (fun t ht c hc=>by
  obtain⟨x,hx,rfl⟩:=ht
  have e:=h.tdL hs hx
  have hmem:tmC (l++putW NS g met l.length) c∈(g.nodes.getD x.toNat nd0).args.map (cwX NS g met l.length):=by
   rw[←e]
   exact List.mem_map.2 ⟨c,hc,rfl⟩
  obtain⟨y,hy,hye⟩:=List.mem_map.1 hmem
  exact⟨y,h.arg x hx y hy,hye.symm⟩)
 have hndx:∀i x,x∈met->isN (rdG (l++putW NS g met l.length) NS cs TS) i->TS.getD i.toNat 0=cwX NS g met l.length x->(rdG (l++putW NS g met l.length) NS cs TS).nd i=⟨(g.nd x).kind,(g.nd x).name,(g.nd x).num,(g.nd x).args.map (fun a=>posF TS (cwX NS g met l.length a))⟩:=fun i x hx hi e=>by
  have hi2:i.toNat<TS.length:=by
   unfold isN at hi
   rw[hnn] at hi
   omega
  have h1:(rdG (l++putW NS g met l.length) NS cs TS).nd i=ndT (l++putW NS g met l.length) NS TS (TS.getD i.toNat 0):=by
   show ((TS.take TS.length).map (ndT (l++putW NS g met l.length) NS TS)).getD i.toNat nd0=_
   rw[List.take_length]
   simp[List.getD,hi2]
  rw[h1,e]
  obtain⟨k1,k2,k3⟩:=h.lab hin hx
  unfold ndT
  rw[k1,k2,k3]
  have e2:=h.tdL hs hx
  have e3:(Go.Proofs.YtbfbkmkjcekpaaaGreatDoor.tdL (l++putW NS g met l.length) (cwX NS g met l.length x)).map (fun c=>posF TS (tmC (l++putW NS g met l.length) c))=(g.nd x).args.map (fun a=>posF TS (cwX NS g met l.length a)):=by
   have:=congrArg (List.map (posF TS)) e2
   rw[List.map_map,List.map_map] at this
   exact this
  rw[e3]
  rfl
 have hposN:∀t,t∈TS->isN (rdG (l++putW NS g met l.length) NS cs TS) (posF TS t)/\TS.getD (posF TS t).toNat 0=t:=fun t ht=>by
  have hp:=posF_in ht
  refine⟨by unfold isN;rw[hnn];exact hp,?_⟩
  unfold posF
  rw[if_pos ht,Int.toNat_natCast]
  exact pos_at ht
 refine⟨⟨fun i x r=>⟨r.2.1,?_⟩,fun i x r=>?_,fun i x r k hk=>?_,fun i y y' r r' hk=>?_,fun i i' y r r' hk=>?_,?_,fun i hi=>?_⟩,?_⟩
 ·exact h.ok.rng x r.1
 ·rw[hndx i x r.1 r.2.1 r.2.2]
  exact⟨rfl,rfl,rfl,by simp⟩
 ·have hn:=hndx i x r.1 r.2.1 r.2.2
  have hk':k<(g.nd x).args.length:=by rw[hn] at hk;simpa using hk
  have harg:(g.nd x).args.getD k 0∈met:=h.arg x r.1 _ (getD_mem hk')
  have e1:(rdG (l++putW NS g met l.length) NS cs TS).arg i k=posF TS (cwX NS g met l.length ((g.nd x).args.getD k 0)):=by
   unfold Gf.arg
   rw[hn]
   exact getD_mapI _ hk'
  have hmem:cwX NS g met l.length ((g.nd x).args.getD k 0)∈TS:=by
   have hi2:i.toNat<TS.length:=by
    have:=r.2.1
    unfold isN at this
    rw[hnn] at this
    omega
   have e2:=h.tdL hs r.1
   have hm2:cwX NS g met l.length ((g.nd x).args.getD k 0)∈(Go.Proofs.YtbfbkmkjcekpaaaGreatDoor.tdL (l++putW NS g met l.length) (cwX NS g met l.length x)).map (tmC (l++putW NS g met l.length)):=by
    rw[e2]
    exact List.mem_map.2 ⟨_,getD_mem hk',rfl⟩
   obtain⟨c,hc,hce⟩:=List.mem_map.1 hm2
   rw[←hce]
   exact hF.cl i.toNat hi2 c (by rw[r.2.2];exact hc)
  rw[e1]
  obtain⟨p1,p2⟩:=hposN _ hmem
  exact⟨harg,p1,p2⟩
 ·have k1:(g.nd y).kind=1:=by rw[hndx i y r.1 r.2.1 r.2.2] at hk;exact hk
  have k2:(g.nd y').kind=1:=by rw[hndx i y' r'.1 r'.2.1 r'.2.2] at hk;exact hk
  have e:cwX NS g met l.length y=cwX NS g met l.length y':=by rw[←r.2.2,r'.2.2]
  have w1:∀z,z∈met->(g.nd z).kind=1->valOf (cwX NS g met l.length z)=(plN g met l.length z:Int):=fun z hz kz=>by
   have t:cwX NS g met l.length z % 8=0:=by
    have kz':(g.nodes.getD z.toNat nd0).kind=1:=kz
    unfold cwX cwF
    rw[if_neg (by omega),if_neg (by omega),if_neg (by omega)]
    exact wordOf_tag _ _ (by omega) (by omega)
   exact ((h.cw hz).ref t).2
  have e2:=w1 y r.1 k1
  rw[e,w1 y' r'.1 k2] at e2
  exact h.inj r.1 r'.1 (by rw[sz_var (n:=g.nodes.getD y.toNat nd0) k1];omega) (by rw[sz_var (n:=g.nodes.getD y'.toNat nd0) k2];omega) (by omega)
 ·have e:TS.getD i.toNat 0=TS.getD i'.toNat 0:=by rw[r.2.2,r'.2.2]
  have h1:=r.2.1
  have h2:=r'.2.1
  unfold isN at h1 h2
  rw[hnn] at h1 h2
  have p1:=pos_of_getD hF.nodup (show i.toNat<TS.length by omega)
  have p2:=pos_of_getD hF.nodup (show i'.toNat<TS.length by omega)
  rw[e,p2] at p1
  omega
 ·show (cs.map (fun c=>posF TS (tmC (l++putW NS g met l.length) c))).length=_
  rw[List.length_map]
  exact hcl
 ·have hi':i<cs.length:=by
   have:(rdG (l++putW NS g met l.length) NS cs TS).roots.length=cs.length:=by simp[rdG]
   omega
  obtain⟨e,hm⟩:=hroot i (by omega)
  have hmem:=hF.root _ (getD_mem hi')
  have e1:(rdG (l++putW NS g met l.length) NS cs TS).roots.getD i 0=posF TS (tmC (l++putW NS g met l.length) (cs.getD i 0)):=getD_mapI _ hi'
  rw[e1]
  obtain⟨p1,p2⟩:=hposN _ hmem
  exact⟨hm,p1,by rw[p2];exact e⟩
 ·have:=len_le_of_subset (met.map (cwX NS g met l.length)) TS hF.nodup (fun t ht=>by
   obtain⟨x,hx,rfl⟩:=hall t ht
   exact List.mem_map.2 ⟨x,hx,rfl⟩)
  simpa using this
end
end Go.Proofs.YtbfbkmkjcekpaaaGreatDoor
namespace Go.Proofs.YtbfbkmkjcekpaaaGreatDoor
set_option maxRecDepth 100000
open Go.RowKit
abbrev fSC:ByteArray:=⟨#[102]⟩
def gL:Gf:=⟨[⟨4,fSC,0,[0,1]⟩,⟨1,⟨#[]⟩,0,[]⟩],[0]⟩
theorem gL_good:Good gL:=by
 have hf:goodS fSC=true:=by decide
 refine⟨by decide,by decide,fun n hn=>?_,fun x hx=>?_⟩
 ·have h:n=⟨4,fSC,0,[0,1]⟩∨n=⟨1,⟨#[]⟩,0,[]⟩:=by simpa[gL] using hn
  rcases h with rfl | rfl
  ·simp[goodNd,hf,strange,gL]
  ·simp[goodNd,ByteArray.toList_eq]
 ·have h:x=0:=by simpa[gL] using hx
  subst h
  decide
theorem gL_met:metF gL=[0,1]:=by simp[metF,gL,meetF,Gf.argsOf]
theorem gL_ns:wthJ [] gL (metF gL) (metF gL).length=[fSC]:=by
 rw[gL_met]
 decide
theorem gL_want:wantJ gL (metF gL) (metF gL).length=5:=by
 rw[gL_met]
 decide
abbrev lL1:List Int:=[11,20,11,32,32]
abbrev lL2:List Int:=[11,20,11,32,11]
theorem gL_w:putW [fSC] gL (metF gL) 0=lL1:=by
 rw[gL_met]
 decide
theorem gL_pm:PmC (wthJ [] gL (metF gL) (metF gL).length) gL (metF gL) 0:=pmc_of gL_good (by rw[gL_met];decide) (by rw[gL_want];decide)
theorem sndL0:Snd [] (fun _=>false):=⟨fun _ h=>absurd h (Nat.not_lt_zero _),(fun _ h=>by cases h),fun _ h=>absurd h (Nat.not_lt_zero _),fun _ h=>absurd h (Nat.not_lt_zero _),fun _ h=>absurd h (Nat.not_lt_zero _),fun _ h=>absurd h (Nat.not_lt_zero _),fun _ h=>absurd h (Nat.not_lt_zero _)⟩
abbrev vL:Nat->Bool:=vrP gL (metF gL) 0 (fun _=>false)
theorem sndL1:Snd lL1 vL:=by
 have h:=put_snd (l:=[]) sndL0 gL_pm
 rw[gL_ns] at h
 rw[show ([]:List Int).length=0 from rfl,gL_w] at h
 exact h
theorem vL4:vL 4=true:=by
 show vrP gL (metF gL) 0 (fun _=>false) 4=true
 rw[gL_met]
 decide
theorem trL14:trmW lL1 4=32:=by decide +kernel
theorem trL10:trmW lL1 0=11:=by decide +kernel
theorem trL23:trmW lL2 3=11:=by decide +kernel
theorem trL22:trmW lL2 2=11:=by decide +kernel
theorem trL20:trmW lL2 0=11:=by decide +kernel
theorem sndL2:Snd lL2 vL:=snd_bind (l:=lL1) (j:=4) (x:=11) sndL1 (by decide) vL4 (by decide) (by decide +kernel) (by decide +kernel) (fun e=>absurd e (by decide +kernel)) (fun _=>⟨by decide +kernel,Or.inl (by decide +kernel)⟩)
theorem five {P:Nat->Prop} (h0:P 0) (h1:P 1) (h2:P 2) (h3:P 3) (h4:P 4):∀k,k<5->P k:=fun k hk=>by
 have:k=0∨k=1∨k=2∨k=3∨k=4:=by omega
 rcases this with rfl | rfl | rfl | rfl | rfl <;> assumption
theorem nsL2:NsB lL2 ([fSC]:List ByteArray).length:=⟨five (by decide +kernel) (by decide +kernel) (by decide +kernel) (by decide +kernel) (by decide +kernel),five (by decide +kernel) (by decide +kernel) (by decide +kernel) (by decide +kernel) (by decide +kernel)⟩
theorem tdL2:tdL lL2 11=[2,3]:=by decide +kernel
theorem oneL {TS:List Int} (h:Rfi lL2 [0] TS):TS=[11]:=by
 have h1:∀t∈TS,t=11:=h.mn (fun t=>t=11) (fun c hc=>by
  have e:c=0:=by simpa using hc
  subst e
  exact trL20) (fun t ht c hc=>by
  subst ht
  rw[tdL2] at hc
  have e:c=2∨c=3:=by simpa using hc
  rcases e with rfl | rfl
  ·exact trL22
  ·exact trL23)
 have h2:=h.root 0 (by simp)
 have h3:=h.nodup
 match TS,h1,h2,h3 with
 | [],_,h2,_=>cases h2
 | [x],h1,_,_=>rw[h1 x (by simp)]
 | x::y::r,h1,_,h3=>
  have ex:=h1 x (by simp)
  have ey:=h1 y (by simp)
  subst ex
  rw[List.nodup_cons] at h3
  exact absurd (by rw[ey];simp) h3.1
theorem lenL {TS:List Int} (h:Rfi lL2 [0] TS) {ns:List ByteArray} (hg:Good (rdG lL2 ns [0] TS)) {ee:Nat->Nat->Bool} (he:∀x y:Nat,(ee x y=true↔Al (rdG lL2 ns [0] TS) (x:Int) (y:Int))):(trimF (quoF ee (rdG lL2 ns [0] TS))).nodes.length=1:=by
 have hev:=al_eqv hg he
 have hq:=quo_good hg hev
 have hl:=trim_len hq
 have h1:=(met_ok hq).le
 rw[quo_len] at h1
 have h2:=lsF_le ee (rdG lL2 ns [0] TS).nodes.length
 rw[rd_nodes h,oneL h] at h2
 rw[rd_nodes h,oneL h] at h1
 have h3:1<=(metF (quoF ee (rdG lL2 ns [0] TS))).length:=by
  have hr:(quoF ee (rdG lL2 ns [0] TS)).roots.length=1:=by simp[quoF,rdG]
  have:=met_root hq _ (getD_mem (l:=(quoF ee (rdG lL2 ns [0] TS)).roots) (k:=0) (by omega))
  exact List.length_pos_of_mem this
 have h4:([11]:List Int).length=1:=rfl
 rw[oneL h] at *
 omega
end Go.Proofs.YtbfbkmkjcekpaaaGreatDoor
namespace Go.Proofs.YtbfbkmkjcekpaaaGreatDoor
set_option maxRecDepth 100000
open Go.RowKit
structure Wb (w1 wc:World) (B bx tb:Nat) (tv:Value) (tq:Nat) (ns':List ByteArray) (tb':Nat) (tv':Value) (tq':Nat):Prop where
 b:Below w1.heap.size w1 wc
 x:wc.heap[bx]?=some (.cells #[.pointer (some ⟨tb',0,none⟩)] 85)
 f:w1.heap.size<=bx
 t:Tb wc B tb' tv' tq' ns'
 o:(tb'=tb/\tv'=tv/\tq'=tq)∨∀k∈n_foot tb' tv' tq',w1.heap.size<=k
theorem tb_foot {w:World} {B p q:Nat} {v:Value} {l:List ByteArray} (h:Tb w B p v q l):∀k∈n_foot p v q,B<=k:=fun k hk=>by
 rcases n_mem_foot.1 hk with rfl | rfl | hk
 ·exact h.base
 ·exact h.mbase
 ·exact (h.row hk).1
theorem with_tb {w1 wq w3:World} {B p q p' q':Nat} {v v':Value} {ns ns':List ByteArray} (hT:Tb w1 B p v q ns) (hB:B<=w1.heap.size) (hb:Below w1.heap.size w1 wq) (hb3:Below wq.heap.size wq w3) (h:(p'=p/\v'=v/\q'=q/\ns'=ns)∨Tb w3 wq.heap.size p' v' q' ns'):Tb w3 B p' v' q' ns'/\((p'=p/\v'=v/\q'=q)∨∀k∈n_foot p' v' q',wq.heap.size<=k):=by
 rcases h with⟨rfl,rfl,rfl,rfl⟩ | h
 ·exact⟨hT.below (Below.next hb hb3),Or.inl ⟨rfl,rfl,rfl⟩⟩
 ·exact⟨tb_base h (Nat.le_trans hB hb.size),Or.inr (tb_foot h)⟩
theorem wb_call {w1 wq w3:World} {B p q p' q':Nat} {v v':Value} {ns ns':List ByteArray} (hT:Tb w1 B p v q ns) (hB:B<=w1.heap.size) (hb:Below w1.heap.size w1 wq) (hb3:Below wq.heap.size wq w3) (h:(p'=p/\v'=v/\q'=q/\ns'=ns)∨Tb w3 wq.heap.size p' v' q' ns'):Wb w1 (w3.alloc (.cells #[.pointer (some ⟨p',0,none⟩)] 85)) B w3.heap.size p v q ns' p' v' q':=by
 obtain⟨h1,h2⟩:=with_tb hT hB hb hb3 h
 have hz:=hb.size
 have hz3:=hb3.size
 refine⟨Below.next (Below.next hb hb3) (below_alloc _ _),heap_alloc_new _ _,by omega,h1.below (below_alloc _ _),?_⟩
 rcases h2 with h2 | h2
 ·exact Or.inl h2
 ·exact Or.inr (fun k hk=>Nat.le_trans hz (h2 k hk))
theorem wb_box {w1 wq w3:World} {B p q p' q' bx:Nat} {v v':Value} {ns ns':List ByteArray} {u:Value} (hT:Tb w1 B p v q ns) (hB:B<=w1.heap.size) (hb:Below w1.heap.size w1 wq) (hx:wq.heap[bx]?=some (.cells #[u] 85)) (hf:w1.heap.size<=bx) (hb3:Below wq.heap.size wq w3) (h:(p'=p/\v'=v/\q'=q/\ns'=ns)∨Tb w3 wq.heap.size p' v' q' ns'):Wb w1 (w3.setCell ⟨bx,0,none⟩ (.pointer (some ⟨p',0,none⟩))) B bx p v q ns' p' v' q':=by
 obtain⟨h1,h2⟩:=with_tb hT hB hb hb3 h
 have hz:=hb.size
 have hx3:=(hb3.block _ (lt_of_block hx)).trans hx
 refine⟨(Below.next hb hb3).setCell (p:=⟨bx,0,none⟩) hf _,heap_setCell_same w3 bx 0 _ _ _ hx3,hf,h1.keep (ks:=[bx]) ((n_Mod.refl _ w3).setCell (p:=⟨bx,0,none⟩) (Or.inl (by simp)) _) (fun k hk hf2=>?_),?_⟩
 ·have e:k=bx:=by simpa using hk
  subst e
  have hlt:=lt_of_block hx
  rcases h2 with⟨rfl,rfl,rfl⟩ | h2
  ·rcases n_mem_foot.1 hf2 with e | e | e
   ·have:=hT.lt
    omega
   ·have:=hT.mlt
    omega
   ·have:=(hT.row e).2.1
    omega
  ·have:=h2 k hf2
   omega
 ·rcases h2 with h2 | h2
  ·exact Or.inl h2
  ·exact Or.inr (fun k hk=>Nat.le_trans hz (h2 k hk))
theorem set_far (w:World) (v:Value) {q i k o:Nat} (h:k≠q):(w.setCell ⟨q,i,none⟩ v).cell? ⟨k,o,none⟩=w.cell? ⟨k,o,none⟩:=World.cell?_of_block (w:=w) (a:=⟨k,o,none⟩) (Below.heap_setCell _ _ _ _ h)
theorem box_cell {w1 w3:World} (h:Below (w1.alloc (.cells #[.pointer none] 85)).drew.heap.size (w1.alloc (.cells #[.pointer none] 85)).drew w3):w3.heap[w1.heap.size]?=some (.cells #[.pointer none] 85)/\w3.cell? ⟨w1.heap.size,0,none⟩=some (.pointer none)/\w3.frozen? ⟨w1.heap.size,0,none⟩=false:=by
 have h0:w3.heap[w1.heap.size]?=some (.cells #[.pointer none] 85):=(h.block _ (show w1.heap.size<(w1.alloc _).heap.size by simp)).trans (heap_alloc_new w1 _)
 exact⟨h0,by simp[World.cell?,h0],by simp[World.frozen?,h0]⟩
theorem met_none {g:Gf} (h:g.roots=[]):metF g=[]:=by
 unfold metF
 rw[h]
 cases g.nodes.length <;> rfl
section
variable {w1 wc w4 w5:World} {B hb ab tb bx tb' tq':Nat} {m:Int} {av av':Value} {l l':List Int} {tv tv':Value} {tq:Nat} {ns ns':List ByteArray} {trv ptv:Value} {n:Int}
theorem put_lay {W w1 wc w4 w5:World} {B hb ab tb tb':Nat} {m:Int} {av av':Value} {l:List Int} {tv tv':Value} {tq tq':Nat} {ns NS:List ByteArray} {trv ptv:Value} {n:Int} {nv rv:Value} {g:Gf} {avs:Nat->Value} {MT:List Int} {CT mc:Nat} {mo:Option Addr}
  (HH:Hp W B hb ab tb m av l tv tq ns trv ptv n) (HGk:∀w',a_Mod (hb::a_foot ab av) W w'->Gra w' nv rv g avs) (Hbw:Below W.heap.size W wc) (Hb4:Below wc.heap.size wc w4) (HU:a_Upd 138 w4 w5 B ab m av (l++frsh l.length CT) av')
  (HP:Hp (w5.setCell ⟨hb,1,none⟩ (.pointer (some ⟨tb',0,none⟩))) B hb ab tb' m av' (l++frsh l.length CT) tv' tq' NS trv ptv n) {B1:Nat} (Ho1:w1.ownsRow B1 3 1 (.slice mo MT.length mc) MT.length (MT.map (Value.int .i64))) (Hb1:Below W.heap.size W w1) (Hb2:Below w1.heap.size w1 wc) (hB1:W.heap.size<=B1)
  (Hg:Good g) (Hok:Ok g.nodes.length MT) (Hro:∀x∈g.roots,x∈MT) (Har:∀x∈MT,∀y∈g.argsOf x,y∈MT) (hTl:(putW NS g MT l.length).length=CT)
  (HTr:∀c,c<(putW NS g MT l.length).length->0<=(putW NS g MT l.length).getD c 0/\(putW NS g MT l.length).getD c 0<=18446744073709551615/\mayB ((putW NS g MT l.length).getD c 0) (l.length+(putW NS g MT l.length).length)=true) :
  Calls Tryz.prog 38 #[.pointer (some ⟨hb,0,none⟩),.agg #[nv,rv],.slice mo MT.length mc,.int .i64 (l.length:Int)] (w5.setCell ⟨hb,1,none⟩ (.pointer (some ⟨tb',0,none⟩))) fun e w'=>∃ao c,e=.returned (.slice ao g.roots.length c)/\w'.ownsRow W.heap.size 3 1 (.slice ao g.roots.length c) g.roots.length (((List.range g.roots.length).map (fun i=>((l.length+i:Nat):Int))).map (Value.int .i64))/\Hp w' B hb ab tb' m av' (l++putW NS g MT l.length) tv' tq' NS trv ptv n/\a_Mod (hb::a_foot ab av) W w'/\a_Nx W av av':=by
 obtain⟨z0,z1,z2⟩:=HH.ltz
 have hz1:=Hb1.size
 have hz2:=Hb2.size
 have hz4:=Hb4.size
 have hnx:a_Nx W av av':=fun k hk=>by
  rcases HU.nx k hk with h | h
  ·exact Or.inl h
  ·exact Or.inr (by omega)
 have hm5:a_Mod (hb::a_foot ab av) W w5:=(a_Mod.ofBelow (Below.next Hbw Hb4)).trans HU.mod (fun x hx=>Or.inl (List.mem_cons_of_mem _ hx))
 have hm6:a_Mod (hb::a_foot ab av) W (w5.setCell ⟨hb,1,none⟩ (.pointer (some ⟨tb',0,none⟩))):=hm5.setCell (p:=⟨hb,1,none⟩) (Or.inl (by simp)) _
 have hm65:a_Mod (hb::a_foot ab av) w4 (w5.setCell ⟨hb,1,none⟩ (.pointer (some ⟨tb',0,none⟩))):=(HU.mod.ofMem _ (fun x hx=>Or.inl (List.mem_cons_of_mem _ hx))).setCell (p:=⟨hb,1,none⟩) (Or.inl (by simp)) _
 generalize w5.setCell ⟨hb,1,none⟩ (.pointer (some ⟨tb',0,none⟩))=w6 at *
 have hfo:∀x∈a_foot ab av',x∈hb::a_foot ab av∨w4.heap.size<=x:=fun x hx=>by
  rcases a_mem_foot.1 hx with rfl | hx
  ·exact Or.inl (List.mem_cons_of_mem _ (a_mem_foot.2 (Or.inl rfl)))
  ·rcases HU.nx x hx with h | h
   ·exact Or.inl (List.mem_cons_of_mem _ (a_mem_foot.2 (Or.inr h)))
   ·exact Or.inr h
 have hH6:Hp w6 B hb ab tb' m av' (l++mixW (putW NS g MT l.length) l.length 0) tv' tq' NS trv ptv n:=by
  rw[mix_zero,hTl]
  exact HP
 have hlw:∀w',a_Mod (a_foot ab av') w6 w'->a_Mod (hb::a_foot ab av) w4 w':=fun w' h=>hm65.trans h hfo
 have hal:∀w',a_Mod (a_foot ab av') w6 w'->a_Mod (hb::a_foot ab av) W w':=fun w' h=>hm6.trans h (fun x hx=>by
  rcases hfo x hx with h1 | h1
  ·exact Or.inl h1
  ·exact Or.inr (by omega))
 have hri4:∀w',a_Mod (hb::a_foot ab av) w4 w'->Ri w' (.slice mo MT.length mc) MT:=fun w' h=>by
  have ho4:=row_keep Ho1 (fun k hk=>(Below.next Hb2 Hb4).block k (Ho1.lt k hk).2)
  refine ri_own (row_keep ho4 (fun k hk=>h.block k (ho4.lt k hk).2 (fun hx=>?_)))
  have h1:=(Ho1.lt k hk).1
  rcases List.mem_cons.1 hx with rfl | hx
  ·omega
  ·have:=z1 _ hx
   omega
 refine (lay_ok (putW NS g MT l.length) hH6 (fun w' h=>HGk w' (hal w' h)) (fun w' h=>hri4 w' (hlw w' h)) Hg Hok.rng Hok.nodup Hro Har rfl HTr).mono ?_
 rintro e w7 ⟨⟨ao,c,rfl,ho⟩,hp,hm⟩
 exact⟨ao,c,rfl,own_base ho (by have:=hm6.size;omega),hp,hal _ hm,hnx⟩
theorem hp_named (H:Hp w1 B hb ab tb m av l tv tq ns trv ptv n) (hW:Wb w1 wc B bx tb tv tq ns' tb' tv' tq') (hb4:Below wc.heap.size wc w4) (hu:a_Upd 138 w4 w5 B ab m av l' av') :
  Hp (w5.setCell ⟨hb,1,none⟩ (.pointer (some ⟨tb',0,none⟩))) B hb ab tb' m av' l' tv' tq' ns' trv ptv n/\w5.cell? ⟨bx,0,none⟩=some (.pointer (some ⟨tb',0,none⟩))/\w5.cell? ⟨hb,1,none⟩=some (.pointer (some ⟨tb,0,none⟩))/\w5.frozen? ⟨hb,1,none⟩=false/\bx<w5.heap.size:=by
 have hb14:=Below.next hW.b hb4
 have H4:=H.below hb14
 obtain⟨z0,z1,z2⟩:=H.ltz
 have h5:=H4.words hu
 have hbx4:=(hb4.block _ (lt_of_block hW.x)).trans hW.x
 have hbx:w5.heap[bx]?=some (.cells #[.pointer (some ⟨tb',0,none⟩)] 85):=(hu.mod.block _ (lt_of_block hbx4) (fun hx=>by have:=z1 _ hx;have:=hW.f;omega)).trans hbx4
 have hof:∀k∈n_foot tb' tv' tq',k≠hb/\k∉a_foot ab av:=fun k hk=>by
  rcases hW.o with⟨rfl,rfl,rfl⟩ | h
  ·exact⟨fun e=>H.self.2 (e ▸ hk),fun hx=>(H.apart hx).2 hk⟩
  ·have:=h k hk
   exact⟨by omega,fun hx=>by have:=z1 _ hx;omega⟩
 have hT5:Tb w5 B tb' tv' tq' ns':=(hW.t.below hb4).keep (mod_an hu.mod) (fun k hk hf=>(hof k hf).2 hk)
 have hm:a_Mod [hb] w5 (w5.setCell ⟨hb,1,none⟩ (.pointer (some ⟨tb',0,none⟩))):=(a_Mod.refl [hb] w5).setCell (p:=⟨hb,1,none⟩) (Or.inl (by simp)) _
 refine⟨⟨heap_setCell_same w5 hb 1 _ _ _ h5.blk,h5.base,h5.ar.keep hm (fun k hk=>by
  have e:k=hb:=by simpa using hk
  rw[e];exact h5.self.1),hT5.keep (mod_an hm) (fun k hk hf=>by
  have e:k=hb:=by simpa using hk
  exact (hof k hf).1 e)⟩,by simp[World.cell?,hbx],h5.cells.1.2.1,by simp[World.frozen?,h5.blk],lt_of_block hbx⟩
end
section
variable {W:World} {B hb ab tb:Nat} {m:Int} {av:Value} {l:List Int} {tv:Value} {tq:Nat} {ns:List ByteArray} {trv ptv:Value} {n:Int}
set_option maxHeartbeats 16000000 in
theorem put_okG {nv rv:Value} {g:Gf} (hH:Hp W B hb ab tb m av l tv tq ns trv ptv n) (hB:B<=W.heap.size) {avs:Nat->Value}
  (hGk:∀w',a_Mod (hb::a_foot ab av) W w'->Gra w' nv rv g avs) (hS:Sized g) (hck:one (chk g)=[])
  (hro:(l.length+wantJ g (metF g) (metF g).length:Int)<=m) (hna:(wthJ ns g (metF g) (metF g).length).length<=1024)
  (hTr:∀c,c<(putW (wthJ ns g (metF g) (metF g).length) g (metF g) l.length).length->0<=(putW (wthJ ns g (metF g) (metF g).length) g (metF g) l.length).getD c 0/\(putW (wthJ ns g (metF g) (metF g).length) g (metF g) l.length).getD c 0<=18446744073709551615/\mayB ((putW (wthJ ns g (metF g) (metF g).length) g (metF g) l.length).getD c 0) (l.length+(putW (wthJ ns g (metF g) (metF g).length) g (metF g) l.length).length)=true) :
  Calls Tryz.prog 10 #[.pointer (some ⟨hb,0,none⟩),.agg #[nv,rv]] W fun e w'=>∃ao c av' tb' tv' tq',e=.returned (.tuple #[.slice ao g.roots.length c,.nilIface])/\w'.ownsRow W.heap.size 3 1 (.slice ao g.roots.length c) g.roots.length (((List.range g.roots.length).map (fun i=>((l.length+i:Nat):Int))).map (Value.int .i64))/\Hp w' B hb ab tb' m av' (l++putW (wthJ ns g (metF g) (metF g).length) g (metF g) l.length) tv' tq' (wthJ ns g (metF g) (metF g).length) trv ptv n/\a_Mod (hb::a_foot ab av) W w'/\a_Nx W av av'/\((tb'=tb/\tv'=tv/\tq'=tq)∨∀k∈n_foot tb' tv' tq',W.heap.size<=k):=by
 have hg:=chk_good hck
 have hok:=met_ok hg
 have hml:=hok.le
 have hN:g.nodes.length<=4096:=hg.nodes
 have hGr:∀w',a_Mod (hb::a_foot ab av) W w'->Gr w' nv rv g:=fun w' h=>(hGk w' h).gr
 have hb0:=below_alloc W (.cells #[nv,rv] 25)
 have hre:=hid (reach_good (hGr _ (a_Mod.ofBelow hb0)) hS hck)
 have HGk:=hid hGk
 have HGr:=hid hGr
 have HH:=hid hH
 have Hg:=hid hg
 have Hro:=hid (met_root hg)
 have Har:=hid (met_arg hg)
 have Hok:=hid hok
 have HTr:=hid hTr
 obtain⟨na,nc,rfl,_⟩:=(hGk W (a_Mod.refl _ _)).1
 obtain⟨ra,rc,rfl,_⟩:=(hGk W (a_Mod.refl _ _)).2
 have hx0:=hid (heap_alloc_new W (.cells #[.slice na g.nodes.length nc,.slice ra g.roots.length rc] 25))
 have Hb0:=hid hb0
 obtain⟨MT,hMT⟩:∃MT,MT=metF g:=⟨_,rfl⟩
 rw[←hMT] at hre Hro Har Hok HTr hml hna hro
 rw[←hMT]
 obtain⟨NS,hNS⟩:∃NS,NS=wthJ ns g MT MT.length:=⟨_,rfl⟩
 rw[←hNS] at HTr
 rw[←hNS]
 replace hNS:=hid hNS
 replace hMT:=hid hMT
 clear hg hok hGr hGk hH hTr hb0 hS hck
 go_enter Tryz.func10,Tryz.ntmps10
 go_wp2_with (go_at_call 33;refine hre.out.mono ?_;rintro e w1 ⟨⟨mo,mc,rfl,ho1⟩,hb1⟩;have Hb1:=hid (Below.next Hb0.out hb1);have Ho1:=hid ho1;have Hx1:=hid ((hb1.block _ (by simp)).trans hx0.out);clear ho1 hb1)
 obtain⟨⟨x0,x1⟩,_⟩:=cblk2 Hx1.out
 have HH1:=hid (HH.out.below Hb1.out)
 obtain⟨⟨h0,h1,_⟩,zh⟩:=HH1.out.cells
 have zx:=lt_of_block Hx1.out
 have hri:Hid (Ri w1 (.slice mo MT.length mc) MT):=ri_own Ho1.out
 have hwi:=hid (fun wq (hbq:Below w1.heap.size w1 wq)=>with_okG (HH1.out.tb.below hbq) (by have:=Hb1.out.size;have:=hbq.size;omega) (HGr.out wq (a_Mod.ofBelow (Below.next Hb1.out hbq))) Hg.out (hri.out.below hbq) Hok.out.rng (by omega) hna)
 rw[←hNS.out] at hwi
 have hBz:B<=w1.heap.size:=by have:=Hb1.out.size;omega
 go_cut [8,7] from 24 to 32 (fun s8 s7 wc=>∃bx tb' tv' tq',s8=.pointer (some ⟨bx,0,none⟩)/\s7=.nilIface/\Hid (Wb w1 wc B bx tb tv tq NS tb' tv' tq'))
 case first=>
  go_region_held3 (fun w'=>w'.cell? ⟨hb,1,none⟩=some (.pointer (some ⟨tb,0,none⟩))/\w'.cell? ⟨W.heap.size,0,none⟩=some (.slice na g.nodes.length nc)/\w'.cell? ⟨W.heap.size,1,none⟩=some (.slice ra g.roots.length rc)) (first | exact⟨h1,x0,x1⟩ | exact⟨(set_far _ _ (by omega)).trans h1,(set_far _ _ (by omega)).trans x0,(set_far _ _ (by omega)).trans x1⟩ | go_keep)
   (first
    | (go_at_call 35;refine (hwi.out _ ?_).mono ?_;exact (Below.refl _ _).drew;rintro e w3 ⟨⟨tb',tv',tq',rfl,ht⟩,hb3⟩;have HE:=hid (wb_call HH1.out.tb hBz (Below.refl _ _).drew hb3 ht);have HB5:=hid (Below.next (Below.refl _ _).drew hb3);clear ht;replace h1:=(HB5.out.cell (p:=⟨hb,1,none⟩) zh).trans h1;replace x0:=(HB5.out.cell (p:=⟨W.heap.size,0,none⟩) zx).trans x0;replace x1:=(HB5.out.cell (p:=⟨W.heap.size,1,none⟩) zx).trans x1;clear hb3)
    | (go_at_call 35;refine (hwi.out _ ?_).mono ?_;exact (below_alloc w1 _).drew;rintro e w3 ⟨⟨tb',tv',tq',rfl,ht⟩,hb3⟩;have HE:=hid (wb_box HH1.out.tb hBz (below_alloc w1 _).drew (heap_alloc_new w1 _) (Nat.le_refl _) hb3 ht);obtain⟨bx3,bx4,bx5⟩:=box_cell hb3;have HB5:=hid (Below.next (below_alloc w1 _).drew hb3);clear ht;replace h1:=(HB5.out.cell (p:=⟨hb,1,none⟩) zh).trans h1;replace x0:=(HB5.out.cell (p:=⟨W.heap.size,0,none⟩) zx).trans x0;replace x1:=(HB5.out.cell (p:=⟨W.heap.size,1,none⟩) zx).trans x1;clear hb3))
  all_goals go_wp2_with fail
  all_goals go_meet
  all_goals exact⟨_,tb',tv',tq',rfl,rfl,HE⟩
 case rest=>
  obtain⟨bx,tb',tv',tq',rfl,rfl,hW⟩:=hcut
  have Hbw:=hid (Below.next Hb1.out hW.out.b)
  obtain⟨⟨y0,y1⟩,_⟩:=cblk2 ((hW.out.b.block _ zx).trans Hx1.out)
  have zy:=lt_of_block ((hW.out.b.block _ zx).trans Hx1.out)
  obtain⟨⟨k0,_⟩,zk⟩:=(HH1.out.below hW.out.b).cells
  have hric:=hid (hri.out.below hW.out.b)
  have hwa:=hid (wanted_any (HGr.out wc (a_Mod.ofBelow Hbw.out)) Hg.out hric.out Hok.out.rng (by omega))
  have hwle:=want_le Hg.out (met:=MT) MT.length
  have hrr:=want_root (g:=g) (met:=MT) MT.length
  have hrl:g.roots.length<=4096:=Hg.out.roots
  have HHc:=hid (HH1.out.below hW.out.b)
  have hTl:Hid ((putW NS g MT l.length).length=wantJ g MT MT.length):=putW_len
  by_cases hc0:wantJ g MT MT.length=0
  ·have hr0:g.roots.length=0:=by omega
   have hT0:putW NS g MT l.length=[]:=List.eq_nil_of_length_eq_zero (by rw[hTl.out];exact hc0)
   have hM0:NS=ns:=by
    rw[hNS.out,hMT.out,met_none (List.eq_nil_of_length_eq_zero hr0)]
    rfl
   have HF:Hid (Hp wc B hb ab tb m av (l++putW NS g MT l.length) tv tq NS trv ptv n):=show Hp _ _ _ _ _ _ _ _ _ _ _ _ _ _ by
    rw[hT0,hM0,List.append_nil]
    exact HHc.out
   rw[hc0] at hwa
   have Hr0:=hid hr0
   clear hro hna hwle hrr hr0 hT0 hM0 hTl hc0
   go_wp2_with (go_at_call 36;refine hwa.out.mono ?_;rintro e w4 ⟨rfl,hb4⟩;have Hb4:=hid hb4;clear hb4)
   go_ret2
   exact⟨none,0,av,tb,tv,tq,by rw[Hr0.out];rfl,by rw[Hr0.out];exact World.ownsRow_nil _ _ _ _,HF.out.below Hb4.out,a_Mod.ofBelow (Below.next Hbw.out Hb4.out),a_Nx.refl _ _,Or.inl ⟨rfl,rfl,rfl⟩⟩
  ·obtain⟨CT,hCT⟩:∃CT,CT=wantJ g MT MT.length:=⟨_,rfl⟩
   rw[←hCT] at hwa hc0 hro hwle hrr hTl
   have hci:¬(CT:Int)=0:=by omega
   have hal:=hid (fun w4 (hb4:Below wc.heap.size wc w4)=>alloc_ok (HHc.out.below hb4).ar (by have:=hb4.size;have:=hW.out.b.size;omega) CT (by omega) (by omega))
   clear hro hna hCT
   have d0:((CT:Int) == 0)=false:=by simpa using hci
   have ne0:W.heap.size≠hb:=by have:=HH.out.ltz.1;omega
   have ne1:hb≠W.heap.size:=by omega
   have ne2:bx≠hb:=by have:=HH.out.ltz.1;have:=hW.out.f;have:=Hb1.out.size;omega
   go_wp2_with (first
    | (go_at_call 36;refine hwa.out.mono ?_;rintro e w4 ⟨rfl,hb4⟩;have Hb4:=hid hb4;obtain⟨⟨j0,_⟩,zj⟩:=(HHc.out.below hb4).cells;clear hb4)
    | (go_at_call 37;refine (hal.out _ Hb4.out).mono ?_;rintro e w5 ⟨av',rfl,hu⟩;have HU:=hid hu;obtain⟨HP6,bc5,j1,jf,jz⟩:=hp_named HH1.out hW.out Hb4.out hu;have HP:=hid HP6;have HX5:=hid ((hu.mod.block _ (Nat.lt_of_lt_of_le zy Hb4.out.size) (fun hx=>by have:=HH.out.ltz.2.1 _ hx;omega)).trans ((Hb4.out.block _ zy).trans ((hW.out.b.block _ zx).trans Hx1.out)));obtain⟨⟨q0,q1⟩,_⟩:=cblk2 HX5.out;have zq:=lt_of_block HX5.out;clear hu HP6))
   have hlay:=hid (put_lay HH.out HGk.out Hbw.out Hb4.out HU.out HP.out Ho1.out Hb1.out hW.out.b (by simp) Hg.out Hok.out Hro.out Har.out hTl.out HTr.out)
   go_wp2_with (go_at_call 38;refine hlay.out.mono ?_;rintro e w7 ⟨ro,rc',rfl,hro7,hp7,hm7,hn7⟩;have H7:=hid (And.intro hro7 (And.intro hp7 (And.intro hm7 hn7)));clear hro7 hp7 hm7 hn7)
   go_ret2
   refine⟨ro,rc',av',tb',tv',tq',rfl,H7.out.1,H7.out.2.1,H7.out.2.2.1,H7.out.2.2.2,?_⟩
   rcases hW.out.o with h | h
   ·exact Or.inl h
   ·exact Or.inr (fun k hk=>Nat.le_trans Hb1.out.size (h k hk))
theorem put_ok {nv rv:Value} {g:Gf} (hH:Hp W B hb ab tb m av l tv tq ns trv ptv n) (hB:B<=W.heap.size) {avs:Nat->Value}
  (hGk:∀w',a_Mod (hb::a_foot ab av) W w'->Gra w' nv rv g avs) (hS:Sized g) (hck:one (chk g)=[])
  (hro:(l.length+wantJ g (metF g) (metF g).length:Int)<=m) (hna:ns.length+(metF g).length<=1024)
  (hTr:∀c,c<(putW (wthJ ns g (metF g) (metF g).length) g (metF g) l.length).length->0<=(putW (wthJ ns g (metF g) (metF g).length) g (metF g) l.length).getD c 0/\(putW (wthJ ns g (metF g) (metF g).length) g (metF g) l.length).getD c 0<=18446744073709551615/\mayB ((putW (wthJ ns g (metF g) (metF g).length) g (metF g) l.length).getD c 0) (l.length+(putW (wthJ ns g (metF g) (metF g).length) g (metF g) l.length).length)=true) :
  Calls Tryz.prog 10 #[.pointer (some ⟨hb,0,none⟩),.agg #[nv,rv]] W fun e w'=>∃ao c av' tb' tv' tq',e=.returned (.tuple #[.slice ao g.roots.length c,.nilIface])/\w'.ownsRow W.heap.size 3 1 (.slice ao g.roots.length c) g.roots.length (((List.range g.roots.length).map (fun i=>((l.length+i:Nat):Int))).map (Value.int .i64))/\Hp w' B hb ab tb' m av' (l++putW (wthJ ns g (metF g) (metF g).length) g (metF g) l.length) tv' tq' (wthJ ns g (metF g) (metF g).length) trv ptv n/\a_Mod (hb::a_foot ab av) W w'/\a_Nx W av av'/\((tb'=tb/\tv'=tv/\tq'=tq)∨∀k∈n_foot tb' tv' tq',W.heap.size<=k):=
 put_okG hH hB hGk hS hck hro (Nat.le_trans (wthJ_len ns g (metF g) (metF g).length) hna) hTr
end
end Go.Proofs.YtbfbkmkjcekpaaaGreatDoor
namespace Go.Proofs.YtbfbkmkjcekpaaaGreatDoor
set_option maxRecDepth 100000
open Go.RowKit
theorem fits_good {g:Gf} (h:Good g):Fits g:=⟨by have:=h.nodes;omega,by have:=h.roots;omega,fun n hn=>by have:=(good_args (h.node n hn)).2;omega⟩
end Go.Proofs.YtbfbkmkjcekpaaaGreatDoor
