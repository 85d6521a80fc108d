/- UnifySolves, as plain data: all nodes of a laid graph are nodes of its heap's terms; what is read behind a union is the least graph of these. -/
import Derived.Test.YtpkojcfdkkjmcaaGreatDoorso43Z
import Derived.Test.YtpkojcfdkkjmcaaGreatDoorso17Z
import Derived.Test.YtpkojcfdkkjmcaaGreatDoorso05Z
import Derived.Test.YtpkojcfdkkjmcaaGreatDoorso40Z
import Derived.Test.YtpkojcfdkkjmcaaGreatDoorso36Z
import Derived.Test.YtpkojcfdkkjmcaaGreatDoorso30Z
namespace Go.Proofs.YtpkojcfdkkjmcaaGreatDoor
set_option maxRecDepth 100000
open Go.RowKit Go.Maps
section
variable {l cs TS:List Int} {V:Nat->Bool} {nm:List ByteArray}
theorem ut_rfi (hs:Snd l V) (hn:NsB l nm.length) (hl:l.length<=65536):Rfi l (plsU l) (utT l):=by
 refine⟨ut_nodup,fun i hi c hc=>?_,ut_in,fun P h1 _ t ht=>?_,fun c hc=>?_⟩
 ·obtain⟨k,hk,e⟩:=ut_in _ (getD_mem hi)
  rw[e] at hc
  have hr:=args_ok hs (trm_tw hs hn hl hk) c hc
  exact ut_mem (by omega)
 ·obtain⟨k,hk,rfl⟩:=ut_in t ht
  have:=h1 (k:Int) (List.mem_map.2 ⟨k,List.mem_range.2 hk,rfl⟩)
  exact this
 ·obtain⟨k,hk,rfl⟩:=List.mem_map.1 hc
  exact ut_mem (List.mem_range.1 hk)
def utG (l:List Int) (nm:List ByteArray) (n:Nat):Gf:=⟨utN l nm,(List.range n).map (fun (k:Nat)=>((utI l k:Nat):Int))⟩
theorem utG_good (hs:Snd l V) (hn:NsB l nm.length) (hl:l.length<=4000) (hg:∀s∈nm,n_goodS s=true) {n:Nat} (h0:n<=l.length):Good (utG l nm n):=by
 have h1:=ut_len (l:=l)
 have h:=rd_good (ns:=nm) hs hn (by omega) hg (ut_rfi (nm:=nm) hs hn (by omega)) (by omega) (by rw[pls_len];omega)
 have e:(rdG l nm (plsU l) (utT l)).nodes=utN l nm:=by simp[rdG,rdN,utN]
 refine⟨by have:=h.nodes;rw[e] at this;exact this,by simp[utG];omega,fun x hx=>?_,fun x hx=>?_⟩
 ·have:=h.node x (by rw[e];exact hx)
  rw[e] at this
  exact this
 ·obtain⟨k,hk,rfl⟩:=List.mem_map.1 hx
  have:=utI_lt (l:=l) (k:=k) (by have:=List.mem_range.1 hk;omega)
  show 0<=((utI l k:Nat):Int)/\((utI l k:Nat):Int)<((utN l nm).length:Int)
  rw[utN_len]
  omega
theorem posF_inj {x y:Int} (hx:x∈TS) (hy:y∈TS) (e:posF TS x=posF TS y):x=y:=by
 unfold posF at e
 rw[if_pos hx,if_pos hy] at e
 rw[←pos_at hx,←pos_at hy,show pos TS x=pos TS y by omega]
theorem rd_union (hs:Snd l V) (hn:NsB l nm.length) (hl:l.length<=65536) {P:List (Nat×Nat)} {E:Nat->Nat} (hU:Un (utN l nm) P E []) {l':List Int} (hW:Wf l nm.length E l') {n:Nat} (h0:n<=l.length) {cs:List Int} (hcs:cs=(List.range n).map (fun (k:Nat)=>(k:Int))) (hT:Rfi l' cs TS) :
  Pr (rdG l' nm cs TS) (gE (utG l nm n).nodes (utG l nm n).roots E) (fun u v=>∃k,k<l.length/\trmW l' k∈TS/\u=posF TS (trmW l' k)/\v=((E (utI l k):Nat):Int)):=by
 have hnn:=rd_nodes (ns:=nm) hT
 have hlen:(gE (utG l nm n).nodes (utG l nm n).roots E).nodes.length=(utT l).length:=by simp[gE,utG,utN]
 have hE:∀k,k<l.length->∃k2,k2<l.length/\utI l k2=E (utI l k)/\trmW l' k=trmW l k2:=fun k hk=>by
  have h1:=hU.rng (utI l k) (by rw[utN_len];exact utI_lt hk)
  rw[utN_len] at h1
  obtain⟨k2,h2,h3⟩:=utI_all h1
  refine⟨k2,h2,h3,?_⟩
  rw[hW.trm k hk]
  unfold eW
  rw[←h3,utI_at h2]
 have hL:∀k,k<l.length->trmW l' k∈TS->(rdG l' nm cs TS).nd (posF TS (trmW l' k))=ndT l' nm TS (trmW l' k):=fun k hk hm=>by
  have hp:=posF_in hm
  show ((TS.take TS.length).map (ndT l' nm TS)).getD _ nd0=_
  rw[List.take_length]
  have h2:(posF TS (trmW l' k)).toNat<TS.length:=by omega
  have h3:TS.getD (posF TS (trmW l' k)).toNat 0=trmW l' k:=by
   unfold posF
   rw[if_pos hm,Int.toNat_natCast]
   exact pos_at hm
  have h4:∀i,i<TS.length->(TS.map (ndT l' nm TS)).getD i nd0=ndT l' nm TS (TS.getD i 0):=fun i hi=>by simp[List.getD,hi]
  rw[h4 _ h2,h3]
 have hR:∀k,k<l.length->(gE (utG l nm n).nodes (utG l nm n).roots E).nd ((E (utI l k):Nat):Int)=renum (EI E) (ndN (utN l nm) (E (utI l k))):=fun k hk=>gE_nd (hU.rng _ (by rw[utN_len];exact utI_lt hk))
 have hD:∀k k2,k<l.length->k2<l.length->utI l k2=E (utI l k)->trmW l' k=trmW l k2->tdS l' nm (trmW l k2)=tdS l nm (trmW l k2)/\tdL l' (trmW l k2)=tdL l (trmW l k2):=fun k k2 hk hk2 e1 e2=>by
  have hw:trmW l k2 % 8=3->wdN l' (valOf (trmW l k2)).toNat=wdN l (valOf (trmW l k2)).toNat:=fun h3=>hW.wd k2 hk2 h3 (by rw[e1,hU.idem])
  refine⟨?_,?_⟩
  ·unfold tdS
   by_cases h3:trmW l k2 % 8=3
   ·rw[hw h3]
   ·rw[if_neg h3,if_neg h3]
  ·unfold tdL
   by_cases h3:trmW l k2 % 8=3
   ·rw[hw h3]
   ·rw[if_neg h3,if_neg h3]
 refine⟨?_,?_,?_,?_,?_,?_,?_⟩
 ·rintro u v ⟨k,hk,hm,rfl,rfl⟩
  have h1:=hU.rng (utI l k) (by rw[utN_len];exact utI_lt hk)
  rw[utN_len] at h1
  have hp:=posF_in hm
  exact⟨by unfold isN;rw[hnn];exact hp,by unfold isN;rw[hlen];omega⟩
 ·rintro u v ⟨k,hk,hm,rfl,rfl⟩
  obtain⟨k2,h2,h3,h4⟩:=hE k hk
  obtain⟨d1,d2⟩:=hD k k2 hk h2 h3 h4
  rw[hL k hk hm,hR k hk,←h3,utN_of h2,h4]
  unfold ndT renum
  rw[d1,d2]
  exact⟨rfl,rfl,rfl,by simp⟩
 ·rintro u v ⟨k,hk,hm,rfl,rfl⟩ j hj
  obtain⟨k2,h2,h3,h4⟩:=hE k hk
  obtain⟨d1,d2⟩:=hD k k2 hk h2 h3 h4
  rw[hL k hk hm] at hj
  have hj1:j<(tdL l (trmW l k2)).length:=by
   rw[h4] at hj
   unfold ndT at hj
   rw[d2] at hj
   simpa using hj
  obtain⟨a1,a2,a3⟩:=utN_arg (nm:=nm) hs hn hl h2 hj1
  have hpm:(posF TS (trmW l' k)).toNat<TS.length:=by have:=posF_in hm;omega
  have h5:TS.getD (posF TS (trmW l' k)).toNat 0=trmW l' k:=by
   unfold posF
   rw[if_pos hm,Int.toNat_natCast]
   exact pos_at hm
  have hc:=hT.cl (posF TS (trmW l' k)).toNat hpm ((tdL l (trmW l k2)).getD j 0) (by rw[h5,h4,d2];exact getD_mem hj1)
  refine⟨((tdL l (trmW l k2)).getD j 0).toNat,by omega,hc,?_,?_⟩
  ·show ((rdG l' nm cs TS).nd (posF TS (trmW l' k))).args.getD j 0=_
   rw[hL k hk hm,h4]
   unfold ndT
   rw[d2]
   exact getD_mapI (fun c=>posF TS (tmC l' c)) hj1
  ·show ((gE (utG l nm n).nodes (utG l nm n).roots E).nd ((E (utI l k):Nat):Int)).args.getD j 0=_
   rw[hR k hk,←h3]
   unfold renum
   rw[getD_mapI (EI E) (by rw[utN_args h2];exact hj1)]
   unfold EI
   have e9:((ndN (utN l nm) (utI l k2)).args.getD j 0).toNat=utI l ((tdL l (trmW l k2)).getD j 0).toNat:=a2
   rw[e9]
 ·rintro u v v' ⟨k,hk,hm,rfl,rfl⟩ ⟨k',hk',hm',e,rfl⟩ _
  have h1:=posF_inj hm hm' e
  obtain⟨k2,h2,h3,h4⟩:=hE k hk
  obtain⟨k3,g2,g3,g4⟩:=hE k' hk'
  rw[←h3,←g3,(utI_eq h2 g2).2 (by rw[←h4,←g4,h1])]
 ·rintro u u' v ⟨k,hk,hm,rfl,rfl⟩ ⟨k',hk',hm',rfl,e⟩ _
  obtain⟨k2,h2,h3,h4⟩:=hE k hk
  obtain⟨k3,g2,g3,g4⟩:=hE k' hk'
  have e2:utI l k2=utI l k3:=by rw[h3,g3];omega
  rw[h4,g4,(utI_eq h2 g2).1 e2]
 ·rw[hcs]
  simp[rdG,gE,utG]
 ·intro i hi
  have hin:i<n:=by
   rw[hcs] at hi
   simpa[rdG] using hi
  have hi2:i<cs.length:=by rw[hcs];simpa using hin
  have e1:cs.getD i 0=(i:Int):=by
   rw[hcs]
   simp[List.getD,hin]
  have hr:=hT.root (cs.getD i 0) (getD_mem hi2)
  rw[e1] at hr
  refine⟨i,by omega,hr,?_,?_⟩
  ·show (cs.map (fun c=>posF TS (tmC l' c))).getD i 0=_
   rw[getD_mapI _ hi2,e1]
   rfl
  ·show (((List.range n).map (fun (k:Nat)=>((utI l k:Nat):Int))).map (EI E)).getD i 0=_
   simp[List.getD,hin,EI]
end
end Go.Proofs.YtpkojcfdkkjmcaaGreatDoor
namespace Go.Proofs.YtpkojcfdkkjmcaaGreatDoor
set_option maxRecDepth 100000
open Go.RowKit Go.Maps
section
variable {l TS:List Int} {V:Nat->Bool} {NS:List ByteArray} {g:Gf} {met:List Int}
theorem snd_nilU:Snd [] (fun _=>false):=by constructor <;> intro k hk <;> simp at hk
theorem root_trm (hs:Snd l V) (h:PmC NS g met l.length) {i:Nat} (hi:i<g.roots.length):trmW (l++putW NS g met l.length) (l.length+i)=cwX NS g met l.length (g.roots.getD i 0)/\l.length+i<(l++putW NS g met l.length).length:=by
 have hlen:(l++putW NS g met l.length).length=l.length+(putW NS g met l.length).length:=by simp
 have hm:=h.root _ (getD_mem hi)
 have hr:=want_root (g:=g) (met:=met) met.length
 have hpl:=putW_len (ns:=NS) (g:=g) (met:=met) (b:=l.length)
 refine⟨?_,by rw[hlen];omega⟩
 refine h.trm hs hm (by rw[hlen];omega) ?_
 rw[wd_nw (by omega),show l.length+i-l.length=i by omega]
 exact putW_root hi
theorem gall_root {x:Nat} (hx:x<g.nodes.length):(gAll g).roots.getD x 0=(x:Int):=by simp[gAll,List.getD,hx]
theorem lay_trm (h:PmC (nsP [] (gAll g)) (gAll g) (metF (gAll g)) 0) {x:Nat} (hx:x<g.nodes.length):(x:Int)∈metF (gAll g)/\x<(wdP [] [] (gAll g)).length/\trmW (wdP [] [] (gAll g)) x=cwX (nsP [] (gAll g)) (gAll g) (metF (gAll g)) 0 (x:Int):=by
 have hx2:x<(gAll g).roots.length:=by rw[gAll_len];exact hx
 have h1:trmW (wdP [] [] (gAll g)) (0+x)=cwX (nsP [] (gAll g)) (gAll g) (metF (gAll g)) 0 ((gAll g).roots.getD x 0):=(root_trm (l:=[]) snd_nilU h hx2).1
 have h2:0+x<(wdP [] [] (gAll g)).length:=(root_trm (l:=[]) snd_nilU h hx2).2
 have h3:=h.root _ (getD_mem hx2)
 rw[gall_root hx] at h1 h3
 rw[Nat.zero_add] at h1 h2
 exact⟨h3,h2,h1⟩
theorem lay_hm (hs:Snd (wdP [] [] (gAll g)) V) (hn:NsB (wdP [] [] (gAll g)) (nsP [] (gAll g)).length) (hl:(wdP [] [] (gAll g)).length<=4000) (h:PmC (nsP [] (gAll g)) (gAll g) (metF (gAll g)) 0) :
  Hm (gAll g).nodes id (utG (wdP [] [] (gAll g)) (nsP [] (gAll g)) g.nodes.length) (utI (wdP [] [] (gAll g)))/\Rts (gAll g).nodes.length [] (utG (wdP [] [] (gAll g)) (nsP [] (gAll g)) g.nodes.length) (utI (wdP [] [] (gAll g))):=by
 have hnd:∀x,x<g.nodes.length->ndN (utN (wdP [] [] (gAll g)) (nsP [] (gAll g))) (utI (wdP [] [] (gAll g)) x)=ndT (wdP [] [] (gAll g)) (nsP [] (gAll g)) (utT (wdP [] [] (gAll g))) (cwX (nsP [] (gAll g)) (gAll g) (metF (gAll g)) 0 (x:Int)):=fun x hx=>by
  obtain⟨_,h2,h3⟩:=lay_trm h hx
  rw[utN_of h2,h3]
 have hlb:∀x,x<g.nodes.length->labS (ndN g.nodes x) (ndN (utN (wdP [] [] (gAll g)) (nsP [] (gAll g))) (utI (wdP [] [] (gAll g)) x)):=fun x hx=>by
  obtain⟨h1,h2,h3⟩:=lay_trm h hx
  obtain⟨k1,k2,k3⟩:=PmC.lab (l:=[]) h (names_in h.good []) h1
  have k4:(tdL (wdP [] [] (gAll g)) (cwX (nsP [] (gAll g)) (gAll g) (metF (gAll g)) 0 (x:Int))).map (tmC (wdP [] [] (gAll g)))=((gAll g).nodes.getD (x:Int).toNat nd0).args.map (cwX (nsP [] (gAll g)) (gAll g) (metF (gAll g)) 0):=PmC.tdL (l:=[]) snd_nilU h h1
  rw[hnd x hx]
  refine⟨k1.symm,k2.symm,k3.symm,?_⟩
  have:=congrArg List.length k4
  simp only[List.length_map] at this
  unfold ndT
  rw[List.length_map,this]
  rfl
 have hnn:(utG (wdP [] [] (gAll g)) (nsP [] (gAll g)) g.nodes.length).nodes.length=(utT (wdP [] [] (gAll g))).length:=utN_len
 refine⟨⟨fun x hx=>?_,fun x y _ _ e=>congrArg _ e,fun x hx=>hlb x hx,fun x hx k hk=>?_,fun x y hx hy hk e=>?_⟩,⟨by simp[utG,gAll],fun x hx=>?_,fun i hi=>(by cases hi)⟩⟩
 ·rw[hnn]
  exact utI_lt (lay_trm h hx).2.1
 ·have hx':x<g.nodes.length:=hx
  obtain⟨h1,h2,h3⟩:=lay_trm h hx'
  have hk1:k<(ndN g.nodes x).args.length:=hk
  have hk2:k<(tdL (wdP [] [] (gAll g)) (trmW (wdP [] [] (gAll g)) x)).length:=by
   rw[←utN_args (nm:=nsP [] (gAll g)) h2,←(hlb x hx').2.2.2]
   exact hk1
  obtain⟨a1,a2,_⟩:=utN_arg (nm:=nsP [] (gAll g)) hs hn (by omega) h2 hk2
  have k4:(tdL (wdP [] [] (gAll g)) (cwX (nsP [] (gAll g)) (gAll g) (metF (gAll g)) 0 (x:Int))).map (tmC (wdP [] [] (gAll g)))=((gAll g).nodes.getD (x:Int).toNat nd0).args.map (cwX (nsP [] (gAll g)) (gAll g) (metF (gAll g)) 0):=PmC.tdL (l:=[]) snd_nilU h h1
  rw[←h3] at k4
  have k5:=congrArg (fun z=>z.getD k 0) k4
  have hk3:k<((gAll g).nodes.getD (x:Int).toNat nd0).args.length:=hk1
  simp only[getD_mapI _ hk2,getD_mapI _ hk3] at k5
  have hy:=h.good.args (x:=(x:Int)) (by omega) (by show (x:Int)<(g.nodes.length:Int);omega)
  have hy2:=hy.1 _ (getD_mem (l:=(gAll g).argsOf (x:Int)) hk3)
  have hy3:argN g.nodes x k<g.nodes.length:=by
   have e:argN g.nodes x k=(((gAll g).argsOf (x:Int)).getD k 0).toNat:=rfl
   have e2:(gAll g).nodes.length=g.nodes.length:=rfl
   rw[e]
   omega
  obtain⟨b1,b2,b3⟩:=lay_trm h hy3
  show argN (utN (wdP [] [] (gAll g)) (nsP [] (gAll g))) (utI (wdP [] [] (gAll g)) x) k=utI (wdP [] [] (gAll g)) (argN g.nodes x k)
  rw[a2]
  refine (utI_eq (by omega) b2).2 ?_
  rw[b3]
  have e9:((argN g.nodes x k:Nat):Int)=((gAll g).nodes.getD (x:Int).toNat nd0).args.getD k 0:=by
   have e:argN g.nodes x k=(((gAll g).argsOf (x:Int)).getD k 0).toNat:=rfl
   have e2:((gAll g).argsOf (x:Int)).getD k 0=((gAll g).nodes.getD (x:Int).toNat nd0).args.getD k 0:=rfl
   rw[e,←e2]
   omega
  rw[e9]
  exact k5
 ·have hx':x<g.nodes.length:=hx
  have hy':y<g.nodes.length:=hy
  obtain⟨h1,h2,h3⟩:=lay_trm h hx'
  obtain⟨g1,g2,g3⟩:=lay_trm h hy'
  have e1:=(utI_eq h2 g2).1 e
  rw[h3,g3] at e1
  have kx:((gAll g).nodes.getD (x:Int).toNat nd0).kind=1:=hk
  have ky:((gAll g).nodes.getD (y:Int).toNat nd0).kind=1:=by
   have:=(hlb y hy').1
   rw[←e,←(hlb x hx').1] at this
   exact this.trans hk
  have w1:∀z,z∈metF (gAll g)->((gAll g).nodes.getD z.toNat nd0).kind=1->valOf (cwX (nsP [] (gAll g)) (gAll g) (metF (gAll g)) 0 z)=(plN (gAll g) (metF (gAll g)) 0 z:Int):=fun z hz kz=>by
   have t:cwX (nsP [] (gAll g)) (gAll g) (metF (gAll g)) 0 z % 8=0:=by
    unfold cwX cwF
    rw[if_neg (by omega),if_neg (by omega),if_neg (by omega)]
    exact wordOf_tag _ _ (by omega) (by omega)
   exact ((h.cw hz).ref t).2
  have e2:=w1 _ h1 kx
  rw[e1,w1 _ g1 ky] at e2
  have e3:((x:Nat):Int)=((y:Nat):Int):=PmC.inj (l:=[]) h h1 g1 (by rw[sz_var (n:=(gAll g).nodes.getD (x:Int).toNat nd0) kx];omega) (by rw[sz_var (n:=(gAll g).nodes.getD (y:Int).toNat nd0) ky];omega) (by show plN (gAll g) (metF (gAll g)) 0 (x:Int)=plN (gAll g) (metF (gAll g)) 0 (y:Int);omega)
  show x=y
  omega
 ·have hx':x<g.nodes.length:=hx
  show ((List.range g.nodes.length).map (fun (k:Nat)=>((utI (wdP [] [] (gAll g)) k:Nat):Int))).getD x 0=_
  simp[List.getD,hx']
end
end Go.Proofs.YtpkojcfdkkjmcaaGreatDoor
namespace Go.Proofs.YtpkojcfdkkjmcaaGreatDoor
set_option maxRecDepth 100000
open Go.RowKit Go.Maps
section
variable {l TS:List Int} {V:Nat->Bool} {g:Gf}
theorem gE_id {A:Gf} (hg:Good A):gE A.nodes A.roots id=A:=by
 have hE:∀y:Int,0<=y->EI id y=y:=fun y hy=>by
  show ((y.toNat:Nat):Int)=y
  omega
 have h1:A.nodes.map (renum (EI id))=A.nodes:=by
  refine (List.map_congr_left (g:=id) fun nd hnd=>?_).trans (List.map_id _)
  obtain⟨k,hk,e⟩:=List.getElem_of_mem hnd
  have h2:=(hg.args (x:=(k:Int)) (by omega) (by omega)).1
  have e2:A.argsOf (k:Int)=nd.args:=by
   unfold Gf.argsOf
   rw[Int.toNat_natCast]
   simp[List.getD,hk,e]
  rw[e2] at h2
  have h3:nd.args.map (EI id)=nd.args:=(List.map_congr_left (g:=id) fun y hy=>hE y (h2 y hy).1).trans (List.map_id _)
  show renum (EI id) nd=nd
  unfold renum
  rw[h3]
 have h2:A.roots.map (EI id)=A.roots:=(List.map_congr_left (g:=id) fun y hy=>hE y (hg.root y hy).1).trans (List.map_id _)
 show (⟨A.nodes.map (renum (EI id)),A.roots.map (EI id)⟩:Gf)=A
 rw[h1,h2]
theorem fin_all (hg:Good (gAll g)) {ps:List (Int×Int)} {F:Nat->Nat} (hF:Un (gAll g).nodes (ps.map natP) F []) {A:Gf} (hA:Good A) (hz:g.nodes.length<=2000) {r:Nat->Nat} (h:Hm (gAll g).nodes F A r) (hR:Rts (gAll g).nodes.length [] A r) {t:Gf} (ht:LeastS (gAll g) ps t) {e2:Nat->Nat->Bool} (hd2:∀x y:Nat,(e2 x y=true↔Al A (x:Int) (y:Int))):trimF (quoF e2 A)=t:=by
 have hn:(gAll g).nodes.length=g.nodes.length:=rfl
 have hl:A.roots.length=g.nodes.length:=by
  have:=hR.len
  rw[hn] at this
  simpa using this
 have e:(⟨A.nodes,(A.roots++A.roots).drop (gAll g).nodes.length⟩:Gf)=A:=by
  rw[hn,←hl,List.drop_left]
 have h':Hm (gAll g).nodes F ⟨A.nodes,A.roots++A.roots⟩ r:=⟨h.rng,h.ker,h.lab,h.arg,h.var⟩
 have hlow:∀x,x<g.nodes.length->(A.roots++A.roots).getD x 0=((r x:Nat):Int):=fun x hx=>by
  rw[←hR.nd x hx]
  simp[List.getD,List.getElem?_append_left,hl,hx]
 have hR':Rts (gAll g).nodes.length (gAll g).roots ⟨A.nodes,A.roots++A.roots⟩ r:=by
  refine⟨?_,hlow,fun i hi=>?_⟩
  ·show (A.roots++A.roots).length=_
   rw[List.length_append,hl,gAll_len,hn]
  ·rw[gAll_len] at hi
   rw[gall_root hi,Int.toNat_natCast,←hR.nd i hi,hn]
   show (A.roots++A.roots).getD (g.nodes.length+i) 0=_
   rw[List.getD,List.getElem?_append_right (by omega),List.getD]
   rw[hl,Nat.add_sub_cancel_left]
 have hA':Good ⟨A.nodes,A.roots++A.roots⟩:=⟨hA.nodes,by show (A.roots++A.roots).length<=4096;rw[List.length_append,hl];omega,hA.node,fun x hx=>hA.root x (by simpa using hx)⟩
 have:=Hm.fin hg hF hA' h' hR' ht (e2:=e2) (by rw[e];exact hd2)
 rw[e] at this
 exact this
variable (hs:Snd (wdP [] [] (gAll g)) V) (hn:NsB (wdP [] [] (gAll g)) (nsP [] (gAll g)).length) (hl:(wdP [] [] (gAll g)).length<=4000) (hg:∀s∈nsP [] (gAll g),n_goodS s=true) (h:PmC (nsP [] (gAll g)) (gAll g) (metF (gAll g)) 0) (hz:g.nodes.length<=2000) (h0:g.nodes.length<=(wdP [] [] (gAll g)).length)
include hs hn hl hg h hz h0
theorem solves_eq {i j:Nat} (hi:i<g.nodes.length) (hj:j<g.nodes.length) {E:Nat->Nat} (hU:Un (utN (wdP [] [] (gAll g)) (nsP [] (gAll g))) [(utI (wdP [] [] (gAll g)) i,utI (wdP [] [] (gAll g)) j)] E []) {l':List Int} (hW:Wf (wdP [] [] (gAll g)) (nsP [] (gAll g)).length E l') {cs:List Int} (hcs:cs=(List.range g.nodes.length).map (fun (k:Nat)=>(k:Int))) (hT:Rfi l' cs TS) (hgd:Good (rdG l' (nsP [] (gAll g)) cs TS)) {e1:Nat->Nat->Bool} (h1:∀x y:Nat,(e1 x y=true↔Al (rdG l' (nsP [] (gAll g)) cs TS) (x:Int) (y:Int))) {t:Gf} (ht:LeastS (gAll g) [((i:Int),(j:Int))] t):trimF (quoF e1 (rdG l' (nsP [] (gAll g)) cs TS))=t:=by
 have hA:=utG_good hs hn hl hg h0
 obtain⟨ee,hd⟩:=al_dec (gE (utG (wdP [] [] (gAll g)) (nsP [] (gAll g)) g.nodes.length).nodes (utG (wdP [] [] (gAll g)) (nsP [] (gAll g)) g.nodes.length).roots E)
 have hgE:=gE_good hA hU.rng
 rw[(rd_union hs hn (by omega) hU hW h0 hcs hT).least hgd hgE h1 hd]
 obtain⟨F,e2,hF,h2,h3⟩:=ht
 obtain⟨m1,m2⟩:=lay_hm hs hn hl h
 have hF':Un (gAll g).nodes ([]++[(i,j)]) F []:=hF
 obtain⟨r',k1,k2⟩:=Hm.step h.good (Un.init _) hA m1 (fun p hp=>(by cases hp)) (rs:=[]) (fun z hz=>(by cases hz)) m2 hi hj hF' hU hd
 have hA':=trim_good0 (quo_good hgE (al_eqv hgE hd))
 obtain⟨eq,hq⟩:=al_dec (trimF (quoF ee (gE (utG (wdP [] [] (gAll g)) (nsP [] (gAll g)) g.nodes.length).nodes (utG (wdP [] [] (gAll g)) (nsP [] (gAll g)) g.nodes.length).roots E)))
 have e9:=fin_all h.good hF hA' hz k1 k2 ⟨F,e2,hF,h2,h3⟩ hq
 rw[(least_pair hgE hd).least hA' hgE hq hd] at e9
 exact e9
theorem solves_nil {cs:List Int} (hcs:cs=(List.range g.nodes.length).map (fun (k:Nat)=>(k:Int))) (hT:Rfi (wdP [] [] (gAll g)) cs TS) (hgd:Good (rdG (wdP [] [] (gAll g)) (nsP [] (gAll g)) cs TS)) {e1:Nat->Nat->Bool} (h1:∀x y:Nat,(e1 x y=true↔Al (rdG (wdP [] [] (gAll g)) (nsP [] (gAll g)) cs TS) (x:Int) (y:Int))) {t:Gf} (ht:LeastS (gAll g) [] t):trimF (quoF e1 (rdG (wdP [] [] (gAll g)) (nsP [] (gAll g)) cs TS))=t:=by
 have hA:=utG_good hs hn hl hg h0
 have hW:Wf (wdP [] [] (gAll g)) (nsP [] (gAll g)).length id (wdP [] [] (gAll g)):=⟨rfl,⟨⟨V,hs⟩,hn⟩,fun _=>rfl,fun k hk=>by unfold eW;exact (utI_at hk).symm,fun _ _ _ _=>rfl⟩
 have hpr:=rd_union hs hn (by omega) (Un.init _) hW h0 hcs hT
 rw[gE_id hA] at hpr
 obtain⟨eq,hq⟩:=al_dec (utG (wdP [] [] (gAll g)) (nsP [] (gAll g)) g.nodes.length)
 rw[hpr.least hgd hA h1 hq]
 obtain⟨m1,m2⟩:=lay_hm hs hn hl h
 exact fin_all h.good (ps:=[]) (Un.init _) hA hz m1 m2 ht hq
omit hg hz h0 in
theorem solves_no {i j:Nat} (hi:i<g.nodes.length) (hj:j<g.nodes.length):NoSol (utN (wdP [] [] (gAll g)) (nsP [] (gAll g))) [(utI (wdP [] [] (gAll g)) i,utI (wdP [] [] (gAll g)) j)]↔NoSol (gAll g).nodes [(i,j)]:=by
 obtain⟨m1,_⟩:=lay_hm hs hn hl h
 exact Hm.nosol (goodA_of h.good) (Un.init _) m1 (fun p hp=>(by cases hp)) hi hj
end
end Go.Proofs.YtpkojcfdkkjmcaaGreatDoor
