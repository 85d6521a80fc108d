/- Package cells: what is put down is read as it was. -/
import Derived.Deep.RegionWith
import Derived.BigQuiet
import Derived.Test.YtpkojcfdkkjmcaaGreatDoorso22Z
import Derived.Test.YtpkojcfdkkjmcaaGreatDoorso26Z
import Derived.Test.YtpkojcfdkkjmcaaGreatDoorso04Z
namespace Go.Proofs.YtpkojcfdkkjmcaaGreatDoor
set_option maxRecDepth 100000
open Go.RowKit
theorem getD_mapI (f:Int->Int) {L:List Int} {i:Nat} (h:i<L.length):(L.map f).getD i 0=f (L.getD i 0):=by simp[List.getD,h]
theorem getD_mapR {n i:Nat} (f:Nat->Int) (h:i<n):((List.range n).map f).getD i 0=f i:=by simp[List.getD,h]
section
variable {NS:List ByteArray} {g:Gf} {met:List Int} {l:List Int} {V:Nat->Bool}
theorem PmC.inj (h:PmC NS g met l.length) {x y:Int} (hx:x∈met) (hy:y∈met) (kx:1<=szN (g.nodes.getD x.toNat nd0)) (ky:1<=szN (g.nodes.getD y.toNat nd0)) (e:plN g met l.length x=plN g met l.length y):x=y:=by
 have _:=h.len
 have h1:pos met x=pos met y:=by
  rcases Nat.lt_trichotomy (pos met x) (pos met y) with h1 | h1 | h1
  ·have:=want_next (g:=g) (met:=met) h1
   rw[pos_at hx] at this
   unfold plN at e
   omega
  ·exact h1
  ·have:=want_next (g:=g) (met:=met) h1
   rw[pos_at hy] at this
   unfold plN at e
   omega
 rw[←pos_at hx,h1,pos_at hy]
theorem PmC.trm (hs:Snd l V) (h:PmC NS g met l.length) {x:Int} (hx:x∈met) {k:Nat} (hk:k<(l++putW NS g met l.length).length) (e:wdN (l++putW NS g met l.length) k=cwX NS g met l.length x):trmW (l++putW NS g met l.length) k=cwX NS g met l.length x:=by
 have hsn:=put_snd hs h
 have hcw:=h.cw hx
 have hpl:=h.pl hx
 have hrm:=h.room
 have hlen:(l++putW NS g met l.length).length=l.length+(putW NS g met l.length).length:=by simp
 have ht:tgN (l++putW NS g met l.length) k=cwX NS g met l.length x % 8:=by unfold tgN;rw[e]
 rcases hcw.tag with t | t | t | t
 ·obtain⟨kk,hv⟩:=hcw.ref t
  have hvl:vlN (l++putW NS g met l.length) k=plN g met l.length x:=by unfold vlN;rw[e,hv,Int.toNat_natCast]
  have hw:=h.var hx kk
  have hwe:(8*(plN g met l.length x:Int))=cwX NS g met l.length x:=by
   have:=wordOf_back (cwX NS g met l.length x) hcw.rng.1 hcw.rng.2
   rw[t,hv] at this
   rw[←this]
   rw[sz_var kk] at hpl
   unfold wordOf
   omega
  by_cases hself:vlN (l++putW NS g met l.length) k=k
  ·have hn:nxN (l++putW NS g met l.length) k=none:=by unfold nxN;rw[if_pos (by omega),if_pos hself]
   rw[trm_end hn]
   unfold endW
   rw[if_neg (by omega),e]
  ·have hn:nxN (l++putW NS g met l.length) k=some (plN g met l.length x):=by unfold nxN;rw[if_pos (by omega),if_neg hself,hvl]
   rw[trm_next hsn hk hn]
   have ht2:tgN (l++putW NS g met l.length) (plN g met l.length x)=0:=by unfold tgN;rw[hw,hwe];exact t
   have hv2:vlN (l++putW NS g met l.length) (plN g met l.length x)=plN g met l.length x:=by unfold vlN;rw[hw,hwe,hv,Int.toNat_natCast]
   have hn2:nxN (l++putW NS g met l.length) (plN g met l.length x)=none:=by unfold nxN;rw[if_pos ht2,if_pos hv2]
   rw[trm_end hn2]
   unfold endW
   rw[if_neg (by omega),hw,hwe]
 ·have hn:nxN (l++putW NS g met l.length) k=none:=by unfold nxN;rw[if_neg (by omega),if_neg (by omega)]
  rw[trm_end hn]
  unfold endW
  rw[if_neg (by omega),e]
 ·have hn:nxN (l++putW NS g met l.length) k=none:=by unfold nxN;rw[if_neg (by omega),if_neg (by omega)]
  rw[trm_end hn]
  unfold endW
  rw[if_neg (by omega),e]
 ·obtain⟨kk,hv⟩:=hcw.str t
  have hvl:vlN (l++putW NS g met l.length) k=plN g met l.length x:=by unfold vlN;rw[e,hv,Int.toNat_natCast]
  have hn:nxN (l++putW NS g met l.length) k=some (plN g met l.length x):=by unfold nxN;rw[if_neg (by omega),if_pos (Or.inl (by omega)),hvl]
  rw[trm_next hsn hk hn]
  have ht2:tgN (l++putW NS g met l.length) (plN g met l.length x)=4:=by unfold tgN;rw[h.fun hx kk];exact (h.fw hx kk).2.2.1
  have hn2:nxN (l++putW NS g met l.length) (plN g met l.length x)=none:=by unfold nxN;rw[if_neg (by omega),if_neg (by omega)]
  rw[trm_end hn2]
  unfold endW
  rw[if_pos ht2]
  have:=wordOf_back (cwX NS g met l.length x) hcw.rng.1 hcw.rng.2
  rw[t,hv] at this
  exact this
theorem PmC.tdL (hs:Snd l V) (h:PmC NS g met l.length) {x:Int} (hx:x∈met):(tdL (l++putW NS g met l.length) (cwX NS g met l.length x)).map (tmC (l++putW NS g met l.length))=(g.nodes.getD x.toNat nd0).args.map (cwX NS g met l.length):=by
 have hcw:=h.cw hx
 have hn:=h.nd hx
 have hlen:(l++putW NS g met l.length).length=l.length+(putW NS g met l.length).length:=by simp
 by_cases t:cwX NS g met l.length x % 8=3
 ·obtain⟨kk,hv⟩:=hcw.str t
  obtain⟨f1,_,f3,f4⟩:=h.fw hx kk
  have h18:=good_comp hn kk
  have hpl:=h.pl hx
  rw[sz_comp kk] at hpl
  unfold Go.Proofs.YtpkojcfdkkjmcaaGreatDoor.tdL rchL
  rw[if_pos t,hv,Int.toNat_natCast,h.fun hx kk,if_neg (by omega),if_pos f3,f4]
  have ha:(((num NS (g.nodes.getD x.toNat nd0).name:Int)*16+((g.nodes.getD x.toNat nd0).args.length:Int)) % 16).toNat=(g.nodes.getD x.toNat nd0).args.length:=by omega
  rw[ha]
  refine list_ext0 (by simp) (fun i hi=>?_)
  have hi':i<(g.nodes.getD x.toNat nd0).args.length:=by simpa using hi
  obtain⟨ea,hm⟩:=h.args hx kk hi'
  have hk:plN g met l.length x+1+i<(l++putW NS g met l.length).length:=by rw[hlen];omega
  have htm:=h.trm hs hm hk ea
  rw[getD_mapI _ (by simpa using hi'),getD_mapR _ hi',getD_mapI _ hi']
  show trmW _ ((plN g met l.length x+1+i:Nat):Int).toNat=_
  rw[Int.toNat_natCast]
  exact htm
 ·have hne:(g.nodes.getD x.toNat nd0).kind≠4:=fun k4=>t (by
   unfold cwX cwF
   rw[if_neg (by omega),if_neg (by omega),if_pos k4]
   exact wordOf_tag _ _ (by omega) (by omega))
  have ha:(g.nodes.getD x.toNat nd0).args=[]:=by
   have:(g.nodes.getD x.toNat nd0).args.length=0:=by
    unfold goodNd at hn
    rcases good_kind (h.nd hx) with k | k | k | k
    ·rw[if_pos k] at hn
     simp only[Bool.and_eq_true,decide_eq_true_eq] at hn
     exact hn.2
    ·rw[if_neg (by omega),if_pos k] at hn
     simp only[Bool.and_eq_true,decide_eq_true_eq] at hn
     exact hn.2
    ·rw[if_neg (by omega),if_neg (by omega),if_pos k] at hn
     simp only[Bool.and_eq_true,decide_eq_true_eq] at hn
     exact hn.2
    ·exact absurd k hne
   exact List.eq_nil_of_length_eq_zero this
  rw[ha]
  unfold Go.Proofs.YtpkojcfdkkjmcaaGreatDoor.tdL
  rw[if_neg t]
  rfl
theorem bytes_nil {s:ByteArray} (h:s.toList=[]):s=⟨#[]⟩:=by
 rw[ByteArray.toList_eq] at h
 apply ByteArray.ext
 exact Array.toList_inj.1 h
theorem PmC.lab (h:PmC NS g met l.length) (hin:∀x∈met,(g.nodes.getD x.toNat nd0).kind=2∨(g.nodes.getD x.toNat nd0).kind=4->inL NS (g.nodes.getD x.toNat nd0).name=true) {x:Int} (hx:x∈met):tdK (cwX NS g met l.length x)=(g.nodes.getD x.toNat nd0).kind/\tdS (l++putW NS g met l.length) NS (cwX NS g met l.length x)=(g.nodes.getD x.toNat nd0).name/\tdN (cwX NS g met l.length x)=(g.nodes.getD x.toNat nd0).num:=by
 have hcw:=h.cw hx
 have hn:=h.nd hx
 have hl:=h.len
 unfold goodNd at hn
 rcases good_kind (h.nd hx) with k | k | k | k
 ·rw[if_pos k] at hn
  simp only[Bool.and_eq_true,decide_eq_true_eq] at hn
  have t:cwX NS g met l.length x % 8=0:=by
   unfold cwX cwF
   rw[if_neg (by omega),if_neg (by omega),if_neg (by omega)]
   exact wordOf_tag _ _ (by omega) (by omega)
  refine⟨by rw[k];simp[tdK,t],?_,by rw[hn.1.2];simp[tdN,t]⟩
  rw[bytes_nil hn.1.1]
  simp[tdS,t]
 ·rw[if_neg (by omega),if_pos k] at hn
  simp only[Bool.and_eq_true,decide_eq_true_eq] at hn
  have hnm:=h.nm x hx (Or.inl k)
  have hwe:cwX NS g met l.length x=wordOf 1 (num NS (g.nodes.getD x.toNat nd0).name:Int):=by
   unfold cwX cwF
   rw[if_pos k]
  have hf:fitsB 1 (num NS (g.nodes.getD x.toNat nd0).name:Int)=true:=by generalize num NS (g.nodes.getD x.toNat nd0).name=v at *;simp[fitsB];omega
  have t:cwX NS g met l.length x % 8=1:=by
   rw[hwe]
   exact wordOf_tag _ _ (by omega) (by omega)
  have hv:valOf (cwX NS g met l.length x)=(num NS (g.nodes.getD x.toNat nd0).name:Int):=by rw[hwe];exact wordOf_val _ _ hf
  refine⟨by rw[k];simp[tdK,t],?_,by rw[hn.1.2];simp[tdN,t]⟩
  unfold tdS
  rw[if_pos t,hv,Int.toNat_natCast]
  exact num_at (hin x hx (Or.inl k))
 ·rw[if_neg (by omega),if_neg (by omega),if_pos k] at hn
  simp only[Bool.and_eq_true,decide_eq_true_eq] at hn
  have hwe:cwX NS g met l.length x=wordOf 2 (g.nodes.getD x.toNat nd0).num:=by
   unfold cwX cwF
   rw[if_neg (by omega),if_pos k]
  have t:cwX NS g met l.length x % 8=2:=by
   rw[hwe]
   exact wordOf_tag _ _ (by omega) (by omega)
  have hv:valOf (cwX NS g met l.length x)=(g.nodes.getD x.toNat nd0).num:=by rw[hwe];exact wordOf_val _ _ (good_int (h.nd hx) k)
  refine⟨by rw[k];simp[tdK,t],?_,?_⟩
  ·rw[bytes_nil hn.1.1.1]
   simp[tdS,t]
  ·unfold tdN
   rw[if_pos t,hv]
 ·rw[if_neg (by omega),if_neg (by omega),if_neg (by omega),if_pos k] at hn
  simp only[Bool.and_eq_true,decide_eq_true_eq] at hn
  have t:cwX NS g met l.length x % 8=3:=by
   unfold cwX cwF
   rw[if_neg (by omega),if_neg (by omega),if_pos k]
   exact wordOf_tag _ _ (by omega) (by omega)
  obtain⟨_,hv⟩:=hcw.str t
  have h18:=good_comp (h.nd hx) k
  refine⟨by rw[k];simp[tdK,t],?_,by rw[hn.1.1.1.2];simp[tdN,t]⟩
  unfold tdS
  rw[if_neg (by omega),if_pos t,hv,Int.toNat_natCast,h.fun hx k,(h.fw hx k).2.2.2]
  have:(((num NS (g.nodes.getD x.toNat nd0).name:Int)*16+((g.nodes.getD x.toNat nd0).args.length:Int)) / 16).toNat=num NS (g.nodes.getD x.toNat nd0).name:=by omega
  rw[this]
  exact num_at (hin x hx (Or.inr k))
end
end Go.Proofs.YtpkojcfdkkjmcaaGreatDoor
namespace Go.Proofs.YtpkojcfdkkjmcaaGreatDoor
set_option maxRecDepth 100000
open Go.RowKit
def pcells (l:List (Nat×Nat)):List Value:=l.flatMap fun p=>[.int .i64 (p.1:Int),.int .i64 (p.2:Int)]
theorem pcells_snoc (l:List (Nat×Nat)) (p:Nat×Nat):pcells (l++[p])=pcells l++[.int .i64 (p.1:Int),.int .i64 (p.2:Int)]:=by simp[pcells]
theorem pcells_len:∀l:List (Nat×Nat),(pcells l).length=l.length*2
 | []=>rfl
 | p::r=>by
  show (_::_::pcells r).length=_
  rw[List.length_cons,List.length_cons,pcells_len r,List.length_cons]
  omega
theorem infoPr:(Tryz.prog.info? 72).map (fun i=>(i.zero,i.size,i.bytes))=some (some (.agg #[.int .i64 0,.int .i64 0]),2,16):=by kernel_rfl
theorem last_pair {w:World} {B g cap:Nat} {rest:List (Nat×Nat)} {a b:Nat} (h:w.ownsRow B 72 2 (.slice (some ⟨g,0,none⟩) (rest.length+1) cap) (rest.length+1) (pcells (rest++[(a,b)]))):w.cell? ⟨g,rest.length*2,none⟩=some (.int .i64 (a:Int))/\w.cell? ⟨g,rest.length*2+1,none⟩=some (.int .i64 (b:Int))/\w.ownsRow B 72 2 (.slice (some ⟨g,0,none⟩) rest.length cap) rest.length (pcells rest)/\rest.length+1<=cap/\cap<=maxLen/\B<=g/\g<w.heap.size:=by
 have hl:=pcells_len rest
 rw[pcells_snoc] at h
 have c0:=h.cellAt (rest.length*2) (by omega)
 have c1:=h.cellAt (rest.length*2+1) (by omega)
 have hlt:=h.lt g rfl
 refine⟨by rw[c0,List.getElem?_append_right (by omega),hl];simp,by rw[c1,List.getElem?_append_right (by omega),hl];simp,⟨hl,Or.inr ?_⟩,?_⟩
 ·rcases h.2 with⟨e,_⟩ | ⟨g',cap',cur,e,hb,hg,h1,h2,h3,h4⟩
  ·cases e
  ·injection e with e1 e2 e3
   injection e1 with e1
   injection e1 with e1 _ _
   subst e1 e3
   refine⟨g,cap,cur,rfl,hb,hg,by omega,h2,h3,?_⟩
   have h5:=congrArg (List.take (rest.length*2)) h4
   have h6:(pcells rest++[Value.int .i64 ((a,b).1:Int),.int .i64 ((a,b).2:Int)]).take (rest.length*2)=pcells rest:=by
    rw[←hl,List.take_left]
   rw[List.take_take,h6,Nat.min_eq_left (by omega)] at h5
   exact h5
 ·rcases h.2 with⟨e,_⟩ | ⟨g',cap',cur,e,hb,hg,h1,h2,h3,h4⟩
  ·cases e
  ·injection e with e1 e2 e3
   subst e3
   exact⟨h1,h2,hlt.1,hlt.2⟩
def lenOf:Value->Nat
 | .slice _ n _=>n
 | _=>0
theorem Mo.undr {S:Nat->Prop} {w w':World} {n:Nat} (h:Mo S (w.drewN n) w'):Mo S w w':=⟨h.os,h.tape,h.output,h.size,h.block⟩
noncomputable def lfix (g:Nat) (w:World):Nat->Nat
 | 0=>0
 | n+1=>lfix g w n+@ite _ (w.cell? ⟨g,n,none⟩=some (.int .i64 (n:Int))) (Classical.propDecidable _) 1 0
theorem lfix_is {W0 w:World} {mb:Nat} {nv:Value} {g c:Nat} {ns:List Nd} {L:List Nat} {E:Nat->Nat} (h:Mg W0 w mb nv (.slice (some ⟨g,0,none⟩) ns.length c) ns L) (hE:Ld L E):∀n,n<=ns.length->lfix g w n=fixN E n
 | 0,_=>rfl
 | n+1,hn=>by
  rw[lfix,fixN,lfix_is h hE n (by omega)]
  have hc:=(h.lcell (n:=n) (by omega)).1
  have hf:=hE.fix n (by rw[h.ll];omega)
  by_cases e:E n=n
  ·rw[if_pos e,if_pos (by rw[hc,hf.2 e])]
  ·rw[if_neg e,if_neg (fun h2=>e (hf.1 (by
    rw[hc] at h2
    injection h2 with h2
    injection h2 with _ h2
    omega)))]
structure NdW (w':World) (b o x:Nat) (aa:Option Addr) (ac:Nat) (y:Nd):Prop where
 k:w'.cell? ⟨b,o+x*4,none⟩=some (.int .i64 y.kind)
 n:w'.cell? ⟨b,o+x*4+1,none⟩=some (.string y.name)
 m:w'.cell? ⟨b,o+x*4+2,none⟩=some (.int .i64 y.num)
 s:w'.cell? ⟨b,o+x*4+3,none⟩=some (.slice aa y.args.length ac)
 z:b<w'.heap.size
 a:∀k,k<y.args.length->∃b' o',aa=some ⟨b',o',none⟩/\w'.cell? ⟨b',o'+k,none⟩=some (.int .i64 (y.args.getD k 0))/\b'<w'.heap.size
theorem Mg.node {W0 w:World} {mb:Nat} {nv lv:Value} {ns:List Nd} {L:List Nat} (h:Mg W0 w mb nv lv ns L) {x:Nat} (hx:x<ns.length):∃b o c aa ac,nv=.slice (some ⟨b,o,none⟩) ns.length c/\∀w',Below W0.heap.size W0 w'->NdW w' b o x aa ac (ndN ns x):=by
 obtain⟨ao,c,rfl,hn⟩:=h.nd
 obtain⟨b,o,av,rfl,hnd⟩:=hn x hx
 obtain⟨aa,ac,rfl,_⟩:=hnd.2.2.2.2
 refine⟨b,o,c,aa,ac,rfl,fun w' hb=>?_⟩
 obtain⟨h0,h1,h2,h3,h4⟩:=hnd.below hb
 obtain⟨aa',ac',e,h5⟩:=h4
 injection e with e1 _ _
 subst e1
 refine⟨h0,h1,h2,h3,lt_of_cell h0,fun k hk=>?_⟩
 obtain⟨b',o',e,h6⟩:=h5 k hk
 exact⟨b',o',e,h6,lt_of_cell h6⟩
set_option maxHeartbeats 2000000 in
theorem unlike_no (k:Int) (n:ByteArray) (m:Int) (a1 a2:Option Addr) (l c1 c2:Nat) (w:World) :
  Calls Tryz.prog 160 #[.agg #[.int .i64 k,.string n,.int .i64 m,.slice a1 l c1],.agg #[.int .i64 k,.string n,.int .i64 m,.slice a2 l c2]] w fun e w'=>e=.returned (.bool false)/\Below w.heap.size w w':=by
 go_enter Tryz.func160,Tryz.ntmps160
 go_wp2
 go_ret
 exact⟨rfl,(below_alloc w _).alloc (by simp) _⟩
set_option maxHeartbeats 4000000 in
theorem unlike_yes (k k':Int) (n n':ByteArray) (m m':Int) (a1 a2:Option Addr) (l l' c1 c2:Nat) (w:World) (h:¬(k=k'/\n=n'/\m=m'/\l=l')) :
  Calls Tryz.prog 160 #[.agg #[.int .i64 k,.string n,.int .i64 m,.slice a1 l c1],.agg #[.int .i64 k',.string n',.int .i64 m',.slice a2 l' c2]] w fun e w'=>e=.returned (.bool true)/\Below w.heap.size w w':=by
 have hb:=hid ((below_alloc w (.cells #[.int .i64 k,.string n,.int .i64 m,.slice a1 l c1] 86)).alloc (by simp) (.cells #[.int .i64 k',.string n',.int .i64 m',.slice a2 l' c2] 86))
 by_cases e1:k=k'
 ·subst e1
  by_cases e2:n=n'
  ·subst e2
   by_cases e3:m=m'
   ·subst e3
    have e4:l≠l':=fun e=>h ⟨rfl,rfl,rfl,e⟩
    have e5:((l:Int) == (l':Int))=false:=beq_eq_false_iff_ne.2 (by omega)
    have e6:((l:Int) != (l':Int))=true:=by rw[bne,e5];rfl
    clear h
    go_enter Tryz.func160,Tryz.ntmps160
    go_wp2
    go_ret
    exact⟨by first | rfl | (simp;omega),hb.out⟩
   ·have e5:(m == m')=false:=beq_eq_false_iff_ne.2 e3
    have e6:(m != m')=true:=by simpa using e3
    clear h
    go_enter Tryz.func160,Tryz.ntmps160
    go_wp2
    go_ret
    exact⟨by first | rfl | simp[e3],hb.out⟩
  ·have e5:(n.toList == n'.toList)=false:=by
    cases he:n.toList == n'.toList with
    | false=>rfl
    | true=>exact absurd (str_eq (by simpa using he)) e2
   clear h
   go_enter Tryz.func160,Tryz.ntmps160
   go_wp2
   go_ret
   exact⟨by first | rfl | simp[e5],hb.out⟩
 ·have e5:(k == k')=false:=beq_eq_false_iff_ne.2 e1
  have e6:(k != k')=true:=by simpa using e1
  clear h
  go_enter Tryz.func160,Tryz.ntmps160
  go_wp2
  go_ret
  exact⟨by first | rfl | simp[e1],hb.out⟩
end Go.Proofs.YtpkojcfdkkjmcaaGreatDoor
namespace Go.Proofs.YtpkojcfdkkjmcaaGreatDoor
set_option maxRecDepth 100000
open Go.RowKit
theorem MgL.mg {W0 w w':World} {mb:Nat} {nv lv:Value} {ns:List Nd} {E:Nat->Nat} (h:MgL W0 w w' mb nv lv ns E):∃L,Mg W0 w' mb nv lv ns L/\Ld L E:=by
 obtain⟨L,h1,h2,_⟩:=h
 exact⟨L,h1,h2⟩
theorem MgL.mo {W0 w w':World} {mb:Nat} {nv lv:Value} {ns:List Nd} {E:Nat->Nat} (h:MgL W0 w w' mb nv lv ns E):Mo (fun k=>lv.ownBlock=some k) w w':=by
 obtain⟨L,_,_,h3⟩:=h
 exact h3
theorem MgL.bel {W0 w w':World} {mb:Nat} {nv lv:Value} {ns:List Nd} {E:Nat->Nat} (h:MgL W0 w w' mb nv lv ns E):Below W0.heap.size W0 w':=by
 obtain⟨L,h1,_,_⟩:=h
 exact h1.bel
theorem MgL.drewN {W0 w w':World} {mb:Nat} {nv lv:Value} {ns:List Nd} {E:Nat->Nat} (h:MgL W0 w w' mb nv lv ns E) (n:Nat):MgL W0 w (w'.drewN n) mb nv lv ns E:=h.next (below_drewN (Below.refl _ _) n)
def OneR (W0 w:World) (mb:Nat) (nv lv:Value) (ns:List Nd) (P:List (Nat×Nat)) (e:Ending) (w':World):Prop:=
 (e=.returned (.bool true)/\∃E,Un ns P E []/\MgL W0 w w' mb nv lv ns E)∨(e=.returned (.bool false)/\NoSol ns P/\Below W0.heap.size W0 w'/\Mo (fun k=>lv.ownBlock=some k) w w')
structure Kk (W0 w w1:World) (mb:Nat) (nv:Value) (g c:Nat) (ns:List Nd) (E:Nat->Nat) (xb a b:Nat):Prop where
 l:MgL W0 w w1 mb nv (.slice (some ⟨g,0,none⟩) ns.length c) ns E
 x:w1.heap[xb]?=some (.cells #[.int .i64 (a:Int),.int .i64 (b:Int)] 72)
 ne:xb≠g
theorem Kk.drewN {W0 w w1:World} {mb:Nat} {nv:Value} {g c:Nat} {ns:List Nd} {E:Nat->Nat} {xb a b:Nat} (h:Kk W0 w w1 mb nv g c ns E xb a b) (n:Nat):Kk W0 w (w1.drewN n) mb nv g c ns E xb a b:=⟨h.l.drewN n,h.x,h.ne⟩
theorem kk_end {W0 w w1:World} {mb:Nat} {nv:Value} {g c:Nat} {ns:List Nd} {E:Nat->Nat} {xb a b n:Nat} (h:Kk W0 w w1 mb nv g c ns E xb a b) (hn:n<ns.length):Calls Tryz.prog 159 #[.pointer (some ⟨mb,0,none⟩),.int .i64 (n:Int)] w1 fun e w'=>e=.returned (.int .i64 (E n:Int))/\Kk W0 w w' mb nv g c ns E xb a b/\Mo (· = g) w1 w':=by
 obtain⟨L,h1,h2⟩:=h.l.mg
 refine (send_any h1 h2 n hn).mono ?_
 rintro e w' ⟨rfl,hL⟩
 have hm:=hL.mo
 refine⟨rfl,⟨MgL.trans h.l.mo hL,(hm.block xb (lt_of_block h.x) (fun e=>h.ne (Option.some.inj e).symm)).trans h.x,h.ne⟩,hm.weak (fun k hk=>Or.inl (Option.some.inj hk).symm)⟩
set_option maxHeartbeats 32000000 in
theorem one_any {W0 w:World} {mb:Nat} {nv lv:Value} {ns:List Nd} {L:List Nat} {E0:Nat->Nat} {P:List (Nat×Nat)} (h:Mg W0 w mb nv lv ns L) (hE:Ld L E0) (hA:GoodA ns) (hN:ns.length<=10000) (hU:Un ns P E0 []) {i j:Nat} (hi:i<ns.length) (hj:j<ns.length) :
  Calls Tryz.prog 122 #[.pointer (some ⟨mb,0,none⟩),.int .i64 (i:Int),.int .i64 (j:Int)] w (OneR W0 w mb nv lv ns (P++[(i,j)])):=by
 obtain⟨g,c,rfl⟩:=h.lsome hi
 obtain⟨i2,hi2,hz0,hz1,hz2⟩:=info_parts infoPr
 have hlt0:Hid (g<w.heap.size):=(h.l.lt g rfl).2
 have hbw:=hid h.bel.size
 have hmbw:=hid (lt_of_block h.blk)
 have hS:Hid (MgL W0 w (w.alloc (.cells #[.int .i64 (i:Int),.int .i64 (j:Int)] 72)) mb nv (.slice (some ⟨g,0,none⟩) ns.length c) ns E0):=⟨L,h.next (below_alloc w _),hE,(Mo.refl _ w).alloc _⟩
 have hU0:=hid (hU.pair hi hj)
 have hrow:Hid ((w.alloc (.cells #[.int .i64 (i:Int),.int .i64 (j:Int)] 72)).ownsRow w.heap.size 72 2 (.slice (some ⟨w.heap.size,0,none⟩) 1 1) 1 (pcells [(i,j)])):=World.ownsRow_lit (base:=w.heap.size) (e:=72) (size:=2) w #[.int .i64 (i:Int),.int .i64 (j:Int)] 1 (Nat.le_refl _) (by unfold maxLen;omega) (by rfl)
 generalize P++[(i,j)]=Q at *
 have HA:=hid hA
 clear h hE hU hA
 go_enter Tryz.func122,Tryz.ntmps122
 go_wp2
 go_loopw [7,8,9,10,11,12] (fun s7 _ _ _ _ _ wr=>∃(E:Nat->Nat) (todo:List (Nat×Nat)) (g7 cap:Nat),s7=.slice (some ⟨g7,0,none⟩) todo.length cap/\Hid (Un ns Q E todo)/\Hid (MgL W0 w wr mb nv (.slice (some ⟨g,0,none⟩) ns.length c) ns E)/\Hid (wr.ownsRow w.heap.size 72 2 (.slice (some ⟨g7,0,none⟩) todo.length cap) todo.length (pcells todo))/\Hid (9*fixN E ns.length+todo.length<=9*ns.length+1)) (fun s7 _ _ _ _ _ wr=>9*lfix g wr ns.length+lenOf s7)
 case atStart=>exact⟨E0,[(i,j)],w.heap.size,1,rfl,hU0,hS,hrow,(show 9*fixN E0 ns.length+1<=_ by have:=fixN_top E0 ns.length;omega)⟩
 case round=>
  clear hS hU0 hrow
  obtain⟨E,todo,g7,cap,rfl,hU,hL,hR,htl⟩:=hrel
  rcases List.eq_nil_or_concat todo with e | ⟨rest,p,e⟩
  ·subst e
   go_wp2
   go_ret
   exact Or.inl ⟨rfl,E,hU.out,hL.out⟩
  ·rw[List.concat_eq_append] at e
   subst e
   obtain⟨a,b⟩:=p
   have hlen:Hid ((rest++[(a,b)]).length=rest.length+1):=hid (by simp)
   rw[hlen.out] at hR htl ⊢
   have htl2:=htl.out
   obtain⟨c0,c1,hR2,hcap,hmax,hBg,hzg7⟩:=last_pair hR.out
   have hR2':=hid hR2
   have hmx:=hid hmax
   obtain⟨hta,htb⟩:=hU.out.tr (a,b) (by simp)
   have hEa:=hU.out.rng a hta
   have hEb:=hU.out.rng b htb
   have hrl:(rest.length:Int)<((rest.length+1:Nat):Int):=by omega
   have hrz:rest.length<=100000:=by omega
   have hwr:Hid (w.heap.size<=wr.heap.size):=hL.out.mo.size
   have hgne:Hid (∀k,w.heap.size<=k->k≠g):=fun k hk e=>by have:=hlt0.out;omega
   clear hR hR2 hmax
   have hL1:=hid (hL.out.next (below_alloc wr (.cells #[.int .i64 (a:Int),.int .i64 (b:Int)] 72)))
   have hKK:Hid (Kk W0 w (wr.alloc (.cells #[.int .i64 (a:Int),.int .i64 (b:Int)] 72)) mb nv g c ns E wr.heap.size a b):=⟨hL1.out,heap_alloc_new wr _,by have:=hlt0.out;have:=hwr.out;omega⟩
   have hR3:=hid (World.ownsRow.alloc hR2'.out (.cells #[.int .i64 (a:Int),.int .i64 (b:Int)] 72))
   have hfx:Hid (lfix g wr ns.length=fixN E ns.length):=by
    obtain⟨L1,k1,k2⟩:=hL.out.mg
    exact lfix_is k1 k2 _ (Nat.le_refl _)
   obtain⟨⟨x0,x1⟩,_⟩:=blk2y hKK.out.x
   clear hL1 hR2'
   go_wp2
   go_cut [9,10] from 31 to 38 (fun s9 s10 wc=>∃ka kb:Nat,s9=.int .i64 (ka:Int)/\s10=.int .i64 (kb:Int)/\Hid (ka=E a/\kb=E b)/\Hid (Kk W0 w wc mb nv g c ns E wr.heap.size a b)/\Hid (Mo (· = g) (wr.alloc (.cells #[.int .i64 (a:Int),.int .i64 (b:Int)] 72)) wc))
   case first=>
    have hca:=hid (fun w1 (hk:Kk W0 w w1 mb nv g c ns E wr.heap.size a b)=>kk_end hk hta)
    have hcb:=hid (fun w1 (hk:Kk W0 w w1 mb nv g c ns E wr.heap.size a b)=>kk_end hk htb)
    have hM0:=hid (Mo.refl (· = g) (wr.alloc (.cells #[.int .i64 (a:Int),.int .i64 (b:Int)] 72)))
    have m1:True:=trivial
    clear hU hL hR3 hfx c0 c1
    go_region_with (first
     | (have _m:=m1;go_at_call 159;refine (hca.out _ (by first | exact hKK.out | exact hKK.out.drewN _)).mono ?_;clear m1 _m;rintro e w5 ⟨rfl,hK5,hM5⟩;have hK5':=hid hK5;obtain⟨⟨y0,y1⟩,_⟩:=blk2y hK5.x;have hM5':=hid hM5;clear hK5 hM5)
     | (go_at_call 159;refine (hcb.out _ (by first | exact hK5'.out | exact hK5'.out.drewN _)).mono ?_;rintro e w6 ⟨rfl,hK6,hM6⟩;have hK6':=hid hK6;have hM6':=hid hM6;clear hK6 hM6))
    all_goals go_wp2_with fail
    all_goals go_meet
    all_goals exact⟨E a,E b,rfl,rfl,⟨rfl,rfl⟩,hK6',by first | exact hM5'.out.trans hM6'.out (fun _ h=>Or.inl h) | exact (Mo.undr hM5'.out).trans hM6'.out (fun _ h=>Or.inl h) | exact hM5'.out.trans (Mo.undr hM6'.out) (fun _ h=>Or.inl h) | exact (Mo.undr hM5'.out).trans (Mo.undr hM6'.out) (fun _ h=>Or.inl h)⟩
   case rest=>
    obtain⟨ka,kb,rfl,rfl,hkab,hK,hM⟩:=hcut
    obtain⟨w9,hw9⟩:∃w9,w9=wc:=⟨_,rfl⟩
    subst hw9
    clear hKK x0 x1 c0 c1 hL
    obtain⟨L1,hg1,hl1⟩:=hK.out.l.mg
    have hfc:Hid (lfix g w9 ns.length=fixN E ns.length):=lfix_is hg1 hl1 _ (Nat.le_refl _)
    have hkaN:ka<ns.length:=by rw[hkab.out.1];exact hEa
    have hkbN:kb<ns.length:=by rw[hkab.out.2];exact hEb
    have hRc:Hid (∀(wx:World),Mo (· = g) w9 wx->wx.ownsRow w.heap.size 72 2 (.slice (some ⟨g7,0,none⟩) rest.length cap) rest.length (pcells rest)):=fun wx hm=>row_keep hR3.out (fun k hk=>by
     have e:g7=k:=by simpa[Value.ownBlock] using hk
     subst e
     have hz:g7<(wr.alloc (.cells #[.int .i64 (a:Int),.int .i64 (b:Int)] 72)).heap.size:=by simp;omega
     exact (hm.block g7 (by have:=hM.out.size;omega) (hgne.out g7 hBg)).trans (hM.out.block g7 hz (hgne.out g7 hBg)))
    clear hEa hEb
    by_cases hab:ka=kb
    ·subst hab
     have hU2:=hid (hU.out.skip (by rw[←hkab.out.1,←hkab.out.2]))
     go_wp2
     go_roundw
     case rel=>exact⟨E,rest,g7,cap,rfl,hU2,hK.out.l,hRc.out w9 (Mo.refl _ _),show _<=_ by omega⟩
     case measure=>
      show 9*lfix g w9 ns.length+rest.length<9*lfix g wr ns.length+(rest.length+1)
      rw[hfc.out,hfx.out]
      omega
    ·have hne:((ka:Int) == (kb:Int))=false:=beq_eq_false_iff_ne.2 (by omega)
     obtain⟨nb,no,nc,aa,aac,hnv,pW⟩:=hg1.node hkaN
     obtain⟨nb',no',nc',ba,bac,hnv',qW⟩:=hg1.node hkbN
     have hnv2:=hnv.symm.trans hnv'
     injection hnv2 with u1 _ u3
     injection u1 with u1
     injection u1 with u1 u2 _
     subst u1 u2 u3
     subst hnv
     clear hnv'
     obtain⟨p0,p1,p2,p3,zn,_⟩:=pW w9 hg1.bel
     obtain⟨q0,q1,q2,q3,_,_⟩:=qW w9 hg1.bel
     have pW':=hid pW
     have qW':=hid qW
     clear pW qW
     obtain⟨⟨b0,b1⟩,_⟩:=blk2y hg1.blk
     have zb:=lt_of_block hg1.blk
     have hkai:(ka:Int)<(ns.length:Int):=by omega
     have hkbi:(kb:Int)<(ns.length:Int):=by omega
     have hla:(ndN ns ka).args.length<=8:=HA.out.few ka
     have hlb:(ndN ns kb).args.length<=8:=HA.out.few kb
     have hEka:Hid (E ka=ka):=by rw[hkab.out.1];exact hU.out.idem a
     have hEkb:Hid (E kb=kb):=by rw[hkab.out.2];exact hU.out.idem b
     clear hg1 hl1
     by_cases hva:(ndN ns ka).kind=1
     ·have hv1:((ndN ns ka).kind == 1)=true:=by simpa using hva
      go_wp2
      go_cut [78] from 17 to 116 (fun s78 wd=>∃bb:Bool,s78=.bool bb/\Hid (bb=true->NoSol ns Q)/\Hid (bb=false->Un ns Q (bindE E (ka,kb)) (rest++newsF ns kb ka (ndN ns ka).args.length)/\((ndN ns ka).args.length<=(ndN ns kb).args.length))/\Hid (Kk W0 w wd mb (.slice (some ⟨nb,no,none⟩) ns.length nc) g c ns E wr.heap.size a b)/\Hid (Mo (· = g) w9 wd))
      case first=>
       by_cases hvd:(ndN ns ka).kind=1
       ·have hd1:((ndN ns ka).kind == 1)=true:=by simpa using hvd
        have hd2:((ndN ns ka).kind != 1)=false:=by rw[bne,hd1];rfl
        have hUb:=hid (hU.out.bind HA.out (keep:=kb) (drop:=ka) (Or.inr ⟨hkab.out.2,hkab.out.1⟩) (by omega) (Or.inl hvd))
        have hz:Hid ((ndN ns ka).args.length<=(ndN ns kb).args.length):=by rw[HA.out.var ka hvd];exact Nat.zero_le _
        go_quiet (fail)
        go_wp2_with fail
        go_meet
        exact⟨false,rfl,fun h=>(by cases h),fun _=>⟨hUb.out,hz.out⟩,hK.out.drewN nq,Mo.ofBelow (below_drewN (Below.refl _ _) nq)⟩
       ·exact absurd hva hvd
      case rest=>
       obtain⟨bb,rfl,hbt,hbf,hKd,hMd⟩:=hcut
       clear hK p0 p1 p2 p3 q0 q1 q2 q3 b0 b1 zb zn
       cases bb with
       | true=>
        have hno:=hid (hbt.out rfl)
        clear hbt hbf
        go_wp2
        go_ret
        exact Or.inr ⟨rfl,hno.out,hKd.out.l.bel,hKd.out.l.mo.weak (fun k hk=>Or.inl hk)⟩
       | false=>
        obtain⟨hUb,hll⟩:=hbf.out rfl
        have hUb':=hid hUb
        clear hbt hbf hUb
        obtain⟨L2,hg2,hl2⟩:=hKd.out.l.mg
        obtain⟨d0,d1⟩:=hg2.lcell (n:=ka) hkaN
        have zg:=lt_of_cell d0
        have hgm:mb≠g:=Ne.symm (hg2.lne (k:=g) rfl)
        have hKE:Hid (E kb=kb):=hEkb
        have hDE:Hid (E ka=ka):=hEka
        have hg3:=hg2.led ka kb
        have hl3:Ld (L2.set ka kb) (bindE E (ka,kb)):=hl2.bind (p:=(ka,kb)) (by show ka<L2.length;rw[hg2.ll];exact hkaN) (by show kb<L2.length;rw[hg2.ll];exact hkbN) hDE.out (by show E kb≠ka;rw[hKE.out];omega)
        have hM3:Mo (· = g) w9 (wc.setCell ⟨g,ka,none⟩ (.int .i64 (kb:Int))):=hMd.out.setCell (p:=⟨g,ka,none⟩) (Or.inl rfl) _
        have hL3:Hid (MgL W0 w (wc.setCell ⟨g,ka,none⟩ (.int .i64 (kb:Int))) mb (.slice (some ⟨nb,no,none⟩) ns.length nc) (.slice (some ⟨g,0,none⟩) ns.length c) ns (bindE E (ka,kb))):=⟨_,hg3,hl3,hKd.out.l.mo.setCell (p:=⟨g,ka,none⟩) (Or.inl rfl) _⟩
        have hR5:=hid (hRc.out _ hM3)
        obtain⟨⟨b0,b1⟩,_⟩:=blk2y hg2.blk
        have zb:=lt_of_block hg2.blk
        obtain⟨p0,p1,p2,p3,zn,_⟩:=pW'.out _ hg3.bel
        have hfl:Hid (fixN (bindE E (ka,kb)) ns.length<fixN E ns.length):=fixN_bind hKE.out hDE.out (by omega) hkaN
        have hnode:Hid (∀wx:World,MgL W0 w wx mb (.slice (some ⟨nb,no,none⟩) ns.length nc) (.slice (some ⟨g,0,none⟩) ns.length c) ns (bindE E (ka,kb))->(wx.cell? ⟨mb,0,none⟩=some (.slice (some ⟨nb,no,none⟩) ns.length nc)/\mb<wx.heap.size)/\NdW wx nb no kb ba bac (ndN ns kb)/\NdW wx nb no ka aa aac (ndN ns ka)):=fun wx hx=>by
         obtain⟨L5,y1,y2⟩:=hx.mg
         obtain⟨⟨e0,e1⟩,_⟩:=blk2y y1.blk
         exact⟨⟨e0,lt_of_block y1.blk⟩,qW'.out wx y1.bel,pW'.out wx y1.bel⟩
        have hAk:=hid (fun k (hk:k<(ndN ns kb).args.length)=>HA.out.arg kb hkbN k hk)
        have hAd:=hid (fun k (hk:k<(ndN ns ka).args.length)=>HA.out.arg ka hkaN k hk)
        clear hg2 hl2 hg3 hl3 hM3 hMd hKd hM hRc hR3
        have hll':(ndN ns ka).args.length<=8:=HA.out.few ka
        have hN8:(ndN ns ka).args.length<=(ndN ns kb).args.length:=hll
        go_wp2
        go_loopw [7,11,12,95] (fun s7 _ _ s95 wy=>∃(k g8 cap8:Nat),s95=.int .i64 (k:Int)/\k<=(ndN ns ka).args.length/\s7=.slice (some ⟨g8,0,none⟩) (rest.length+k) cap8/\Hid (MgL W0 w wy mb (.slice (some ⟨nb,no,none⟩) ns.length nc) (.slice (some ⟨g,0,none⟩) ns.length c) ns (bindE E (ka,kb)))/\Hid (wy.ownsRow w.heap.size 72 2 (.slice (some ⟨g8,0,none⟩) (rest.length+k) cap8) (rest.length+k) (pcells (rest++newsF ns kb ka k)))) (fun _ _ _ s95 _=>(ndN ns ka).args.length-(intOf s95).toNat)
        case atStart=>exact⟨0,g7,cap,rfl,Nat.zero_le _,rfl,hL3,by rw[newsF,List.append_nil];exact hR5⟩
        case round=>
         clear hL3 hR5
         obtain⟨k,g8,cap8,rfl,hk,rfl,hL4,hR4⟩:=hrel
         by_cases hklt:k<(ndN ns ka).args.length
         ·have hkz:(k:Int)<((ndN ns ka).args.length:Int):=by omega
          have hkk:(k:Int)<((ndN ns kb).args.length:Int):=by omega
          obtain⟨⟨m0,m1⟩,nK,nD⟩:=hnode.out wr hL4.out
          obtain⟨kb1,ko1,e1,t1,zt1⟩:=nK.a k (by omega)
          obtain⟨kb2,ko2,e2,t2,zt2⟩:=nD.a k hklt
          have k3:=nK.s
          have k4:=nK.z
          obtain⟨an,han⟩:∃an:Nat,(ndN ns kb).args.getD k 0=(an:Int):=⟨((ndN ns kb).args.getD k 0).toNat,by have:=(hAk.out k (by omega)).1;omega⟩
          obtain⟨bn,hbn⟩:∃bn:Nat,(ndN ns ka).args.getD k 0=(bn:Int):=⟨((ndN ns ka).args.getD k 0).toNat,by have:=(hAd.out k hklt).1;omega⟩
          have hpair:Hid (newsF ns kb ka (k+1)=newsF ns kb ka k++[(an,bn)]):=by
           show _=_
           rw[newsF]
           unfold argN
           rw[han,hbn]
           rfl
          rw[han] at t1
          rw[hbn] at t2
          subst e1
          subst e2
          have ho4:=hid (World.ownsRow.alloc hR4.out (.cells #[.int .i64 (an:Int),.int .i64 (bn:Int)] 72))
          have hws:w.heap.size<=wr.heap.size:=hL4.out.mo.size
          have hfin:Hid (∀(g9 c9:Nat) (w8:World),w8.ownsRow w.heap.size 72 2 (.slice (some ⟨g9,0,none⟩) (rest.length+k+1) c9) (rest.length+k+1) (pcells (rest++newsF ns kb ka k)++[.int .i64 (an:Int),.int .i64 (bn:Int)])->(wr.alloc (.cells #[.int .i64 (an:Int),.int .i64 (bn:Int)] 72)).grownBy w8 (Value.slice (some ⟨g8,0,none⟩) (rest.length+k) cap8).ownBlock->MgL W0 w w8 mb (.slice (some ⟨nb,no,none⟩) ns.length nc) (.slice (some ⟨g,0,none⟩) ns.length c) ns (bindE E (ka,kb))/\w8.ownsRow w.heap.size 72 2 (.slice (some ⟨g9,0,none⟩) (rest.length+(k+1)) c9) (rest.length+(k+1)) (pcells (rest++newsF ns kb ka (k+1)))):=fun g9 c9 w8 h8 hg8=>by
           refine⟨?_,by rw[hpair.out,←List.append_assoc,pcells_snoc];exact h8⟩
           obtain⟨L6,y1,y2,y3⟩:=hL4.out
           have hge:=(hR4.out.lt g8 rfl).1
           have hgn:=hlt0.out
           have hbwo:=hbw.out
           have old:∀q,q<w.heap.size->w8.heap[q]?=wr.heap[q]?:=fun q hq=>by
            rw[hg8.block q (by have:=y3.size;simp;omega) (fun e=>by have e9:g8=q:=(Option.some.inj e).symm;omega)]
            exact Below.heap_alloc _ _ _ (by have:=y3.size;omega)
           refine⟨L6,y1.keep (y1.bel.trans ⟨hg8.os,hg8.tape,hg8.output,by have:=hg8.size;simp at this;omega,fun q hq=>old q (by omega)⟩) (old mb hmbw.out) (fun q hq=>old q (by have e9:g=q:=(by simpa[Value.ownBlock] using hq);omega)),y2,(y3.alloc _).grown hg8 (fun q hq=>Or.inr (by have e9:g8=q:=(by simpa[Value.ownBlock] using hq);omega))⟩
          clear hAk hAd hnode nK nD hL4 hR4 hpair
          go_wp2_with (at_builtin;go_must (refine wpList_append_lies _ rfl _ _ 67 rfl w.heap.size 72 i2 (.agg #[.int .i64 0,.int .i64 0]) 2 16 Tryz.underlying67 hi2 hz0 hz1 hz2 rfl (by decide) _ (rest.length+k) _ rfl ho4.out ⟨wr.heap.size,0,none⟩ 1 1 [.int .i64 (an:Int),.int .i64 (bn:Int)] rfl rfl (World.news_of_block (cs:=#[.int .i64 (an:Int),.int .i64 (bn:Int)]) (t:=72) (fr:=(0,0)) (heap_alloc_new wr _)) (by simp[Value.oneCell']) (by omega) (by unfold maxLen;omega) (by omega) (by simp;omega) (wr.heap.size+1) (by simp) ?_;intro g9 c9 w8 hown8 hg8 hat8 hlt8))
          obtain⟨hf1,hf2⟩:=hfin.out g9 c9 w8 hown8 hg8
          go_roundw
          case rel=>exact⟨k+1,g9,c9,by go_num,by omega,by rw[Nat.add_assoc],hf1,hf2⟩
          case measure=>simp[intOf];omega
         ·obtain rfl:k=(ndN ns ka).args.length:=by omega
          have hL4':=hid hL4.out
          have hR4':=hid hR4.out
          have hfd:Hid (lfix g wr ns.length=fixN (bindE E (ka,kb)) ns.length):=by
           obtain⟨L1,k1,k2⟩:=hL4.out.mg
           exact lfix_is k1 k2 _ (Nat.le_refl _)
          clear hnode hAk hAd hL4 hR4
          go_wp2
          go_roundw
          case rel=>exact⟨bindE E (ka,kb),rest++newsF ns kb ka (ndN ns ka).args.length,g8,cap8,by rw[List.length_append,newsF_len],hUb',hL4',by rw[List.length_append,newsF_len];exact hR4',show _<=_ by rw[List.length_append,newsF_len];have:=hfl.out;omega⟩
          case measure=>
           show 9*lfix g wr ns.length+(rest.length+(ndN ns ka).args.length)<9*lfix g _ ns.length+(rest.length+1)
           rw[hfd.out,hfx.out]
           have:=hfl.out
           omega
     ·have hv1:((ndN ns ka).kind == 1)=false:=beq_eq_false_iff_ne.2 hva
      go_wp2
      go_cut [78] from 17 to 116 (fun s78 wd=>∃bb:Bool,s78=.bool bb/\Hid (bb=true->NoSol ns Q)/\Hid (bb=false->Un ns Q (bindE E (kb,ka)) (rest++newsF ns ka kb (ndN ns kb).args.length)/\((ndN ns kb).args.length<=(ndN ns ka).args.length))/\Hid (Kk W0 w wd mb (.slice (some ⟨nb,no,none⟩) ns.length nc) g c ns E wr.heap.size a b)/\Hid (Mo (· = g) w9 wd))
      case first=>
       by_cases hvd:(ndN ns kb).kind=1
       ·have hd1:((ndN ns kb).kind == 1)=true:=by simpa using hvd
        have hd2:((ndN ns kb).kind != 1)=false:=by rw[bne,hd1];rfl
        have hUb:=hid (hU.out.bind HA.out (keep:=ka) (drop:=kb) (Or.inl ⟨hkab.out.1,hkab.out.2⟩) (by omega) (Or.inl hvd))
        have hz:Hid ((ndN ns kb).args.length<=(ndN ns ka).args.length):=by rw[HA.out.var kb hvd];exact Nat.zero_le _
        go_quiet (fail)
        go_wp2_with fail
        go_meet
        exact⟨false,rfl,fun h=>(by cases h),fun _=>⟨hUb.out,hz.out⟩,hK.out.drewN nq,Mo.ofBelow (below_drewN (Below.refl _ _) nq)⟩
       ·have hd1:((ndN ns kb).kind == 1)=false:=beq_eq_false_iff_ne.2 hvd
        have hd2:((ndN ns kb).kind != 1)=true:=by rw[bne,hd1];rfl
        have hkv:(ndN ns ka).kind≠1:=hva
        have hun:Hid (∀wx:World,Below w9.heap.size w9 wx->Kk W0 w wx mb (.slice (some ⟨nb,no,none⟩) ns.length nc) g c ns E wr.heap.size a b/\Mo (· = g) w9 wx):=fun wx hb=>⟨⟨hK.out.l.next hb,(hb.block _ (lt_of_block hK.out.x)).trans hK.out.x,hK.out.ne⟩,Mo.ofBelow hb⟩
        have hcl:Hid (∃bb:Bool,(∀wx:World,Calls Tryz.prog 160 #[.agg #[.int .i64 (ndN ns ka).kind,.string (ndN ns ka).name,.int .i64 (ndN ns ka).num,.slice aa (ndN ns ka).args.length aac],.agg #[.int .i64 (ndN ns kb).kind,.string (ndN ns kb).name,.int .i64 (ndN ns kb).num,.slice ba (ndN ns kb).args.length bac]] wx fun e w'=>e=.returned (.bool bb)/\Below wx.heap.size wx w')/\(bb=true->NoSol ns Q)/\(bb=false->Un ns Q (bindE E (kb,ka)) (rest++newsF ns ka kb (ndN ns kb).args.length)/\((ndN ns kb).args.length<=(ndN ns ka).args.length))):=by
         by_cases hlab:labS (ndN ns ka) (ndN ns kb)
         ·have hUb:=hU.out.bind HA.out (keep:=ka) (drop:=kb) (Or.inl ⟨hkab.out.1,hkab.out.2⟩) (by omega) (Or.inr ⟨hvd,hkv,hlab⟩)
          obtain⟨l1,l2,l3,l4⟩:=hlab
          refine⟨false,fun wx=>?_,fun h=>(by cases h),fun _=>⟨hUb,by omega⟩⟩
          rw[←l1,←l2,←l3,←l4]
          exact unlike_no _ _ _ _ _ _ _ _ wx
         ·have hno:=hU.out.fail (keep:=ka) (drop:=kb) (Or.inl ⟨hkab.out.1,hkab.out.2⟩) hvd hkv hlab
          exact⟨true,fun wx=>unlike_yes _ _ _ _ _ _ _ _ _ _ _ _ wx hlab,fun _=>hno,fun h=>(by cases h)⟩
        obtain⟨bb,hc1,hc2,hc3⟩:=hcl.out
        have hc1':=hid hc1
        have hc2':=hid hc2
        have hc3':=hid hc3
        clear hcl hc1 hc2 hc3
        go_still_tail 24,(by kernel_rfl)
        change wpList _ _ _ _ _ w9.drew
        go_wp2_with (go_at_call 160;go_must (refine (hc1'.out _).mono ?_;rintro e wd ⟨rfl,hbd⟩))
        go_meet
        obtain⟨hk9,hm9⟩:=hun.out wd (Below.next (Below.refl _ w9).drew hbd)
        exact⟨bb,rfl,hc2',hc3',hk9,hm9⟩
      case rest=>
       obtain⟨bb,rfl,hbt,hbf,hKd,hMd⟩:=hcut
       clear hK p0 p1 p2 p3 q0 q1 q2 q3 b0 b1 zb zn
       cases bb with
       | true=>
        have hno:=hid (hbt.out rfl)
        clear hbt hbf
        go_wp2
        go_ret
        exact Or.inr ⟨rfl,hno.out,hKd.out.l.bel,hKd.out.l.mo.weak (fun k hk=>Or.inl hk)⟩
       | false=>
        obtain⟨hUb,hll⟩:=hbf.out rfl
        have hUb':=hid hUb
        clear hbt hbf hUb
        obtain⟨L2,hg2,hl2⟩:=hKd.out.l.mg
        obtain⟨d0,d1⟩:=hg2.lcell (n:=kb) hkbN
        have zg:=lt_of_cell d0
        have hgm:mb≠g:=Ne.symm (hg2.lne (k:=g) rfl)
        have hKE:Hid (E ka=ka):=hEka
        have hDE:Hid (E kb=kb):=hEkb
        have hg3:=hg2.led kb ka
        have hl3:Ld (L2.set kb ka) (bindE E (kb,ka)):=hl2.bind (p:=(kb,ka)) (by show kb<L2.length;rw[hg2.ll];exact hkbN) (by show ka<L2.length;rw[hg2.ll];exact hkaN) hDE.out (by show E ka≠kb;rw[hKE.out];omega)
        have hM3:Mo (· = g) w9 (wc.setCell ⟨g,kb,none⟩ (.int .i64 (ka:Int))):=hMd.out.setCell (p:=⟨g,kb,none⟩) (Or.inl rfl) _
        have hL3:Hid (MgL W0 w (wc.setCell ⟨g,kb,none⟩ (.int .i64 (ka:Int))) mb (.slice (some ⟨nb,no,none⟩) ns.length nc) (.slice (some ⟨g,0,none⟩) ns.length c) ns (bindE E (kb,ka))):=⟨_,hg3,hl3,hKd.out.l.mo.setCell (p:=⟨g,kb,none⟩) (Or.inl rfl) _⟩
        have hR5:=hid (hRc.out _ hM3)
        obtain⟨⟨b0,b1⟩,_⟩:=blk2y hg2.blk
        have zb:=lt_of_block hg2.blk
        obtain⟨p0,p1,p2,p3,zn,_⟩:=qW'.out _ hg3.bel
        have hfl:Hid (fixN (bindE E (kb,ka)) ns.length<fixN E ns.length):=fixN_bind hKE.out hDE.out (by omega) hkbN
        have hnode:Hid (∀wx:World,MgL W0 w wx mb (.slice (some ⟨nb,no,none⟩) ns.length nc) (.slice (some ⟨g,0,none⟩) ns.length c) ns (bindE E (kb,ka))->(wx.cell? ⟨mb,0,none⟩=some (.slice (some ⟨nb,no,none⟩) ns.length nc)/\mb<wx.heap.size)/\NdW wx nb no ka aa aac (ndN ns ka)/\NdW wx nb no kb ba bac (ndN ns kb)):=fun wx hx=>by
         obtain⟨L5,y1,y2⟩:=hx.mg
         obtain⟨⟨e0,e1⟩,_⟩:=blk2y y1.blk
         exact⟨⟨e0,lt_of_block y1.blk⟩,pW'.out wx y1.bel,qW'.out wx y1.bel⟩
        have hAk:=hid (fun k (hk:k<(ndN ns ka).args.length)=>HA.out.arg ka hkaN k hk)
        have hAd:=hid (fun k (hk:k<(ndN ns kb).args.length)=>HA.out.arg kb hkbN k hk)
        clear hg2 hl2 hg3 hl3 hM3 hMd hKd hM hRc hR3
        have hll':(ndN ns kb).args.length<=8:=HA.out.few kb
        have hN8:(ndN ns kb).args.length<=(ndN ns ka).args.length:=hll
        go_wp2
        go_loopw [7,11,12,95] (fun s7 _ _ s95 wy=>∃(k g8 cap8:Nat),s95=.int .i64 (k:Int)/\k<=(ndN ns kb).args.length/\s7=.slice (some ⟨g8,0,none⟩) (rest.length+k) cap8/\Hid (MgL W0 w wy mb (.slice (some ⟨nb,no,none⟩) ns.length nc) (.slice (some ⟨g,0,none⟩) ns.length c) ns (bindE E (kb,ka)))/\Hid (wy.ownsRow w.heap.size 72 2 (.slice (some ⟨g8,0,none⟩) (rest.length+k) cap8) (rest.length+k) (pcells (rest++newsF ns ka kb k)))) (fun _ _ _ s95 _=>(ndN ns kb).args.length-(intOf s95).toNat)
        case atStart=>exact⟨0,g7,cap,rfl,Nat.zero_le _,rfl,hL3,by rw[newsF,List.append_nil];exact hR5⟩
        case round=>
         clear hL3 hR5
         obtain⟨k,g8,cap8,rfl,hk,rfl,hL4,hR4⟩:=hrel
         by_cases hklt:k<(ndN ns kb).args.length
         ·have hkz:(k:Int)<((ndN ns kb).args.length:Int):=by omega
          have hkk:(k:Int)<((ndN ns ka).args.length:Int):=by omega
          obtain⟨⟨m0,m1⟩,nK,nD⟩:=hnode.out wr hL4.out
          obtain⟨kb1,ko1,e1,t1,zt1⟩:=nK.a k (by omega)
          obtain⟨kb2,ko2,e2,t2,zt2⟩:=nD.a k hklt
          have k3:=nK.s
          have k4:=nK.z
          obtain⟨an,han⟩:∃an:Nat,(ndN ns ka).args.getD k 0=(an:Int):=⟨((ndN ns ka).args.getD k 0).toNat,by have:=(hAk.out k (by omega)).1;omega⟩
          obtain⟨bn,hbn⟩:∃bn:Nat,(ndN ns kb).args.getD k 0=(bn:Int):=⟨((ndN ns kb).args.getD k 0).toNat,by have:=(hAd.out k hklt).1;omega⟩
          have hpair:Hid (newsF ns ka kb (k+1)=newsF ns ka kb k++[(an,bn)]):=by
           show _=_
           rw[newsF]
           unfold argN
           rw[han,hbn]
           rfl
          rw[han] at t1
          rw[hbn] at t2
          subst e1
          subst e2
          have ho4:=hid (World.ownsRow.alloc hR4.out (.cells #[.int .i64 (an:Int),.int .i64 (bn:Int)] 72))
          have hws:w.heap.size<=wr.heap.size:=hL4.out.mo.size
          have hfin:Hid (∀(g9 c9:Nat) (w8:World),w8.ownsRow w.heap.size 72 2 (.slice (some ⟨g9,0,none⟩) (rest.length+k+1) c9) (rest.length+k+1) (pcells (rest++newsF ns ka kb k)++[.int .i64 (an:Int),.int .i64 (bn:Int)])->(wr.alloc (.cells #[.int .i64 (an:Int),.int .i64 (bn:Int)] 72)).grownBy w8 (Value.slice (some ⟨g8,0,none⟩) (rest.length+k) cap8).ownBlock->MgL W0 w w8 mb (.slice (some ⟨nb,no,none⟩) ns.length nc) (.slice (some ⟨g,0,none⟩) ns.length c) ns (bindE E (kb,ka))/\w8.ownsRow w.heap.size 72 2 (.slice (some ⟨g9,0,none⟩) (rest.length+(k+1)) c9) (rest.length+(k+1)) (pcells (rest++newsF ns ka kb (k+1)))):=fun g9 c9 w8 h8 hg8=>by
           refine⟨?_,by rw[hpair.out,←List.append_assoc,pcells_snoc];exact h8⟩
           obtain⟨L6,y1,y2,y3⟩:=hL4.out
           have hge:=(hR4.out.lt g8 rfl).1
           have hgn:=hlt0.out
           have hbwo:=hbw.out
           have old:∀q,q<w.heap.size->w8.heap[q]?=wr.heap[q]?:=fun q hq=>by
            rw[hg8.block q (by have:=y3.size;simp;omega) (fun e=>by have e9:g8=q:=(Option.some.inj e).symm;omega)]
            exact Below.heap_alloc _ _ _ (by have:=y3.size;omega)
           refine⟨L6,y1.keep (y1.bel.trans ⟨hg8.os,hg8.tape,hg8.output,by have:=hg8.size;simp at this;omega,fun q hq=>old q (by omega)⟩) (old mb hmbw.out) (fun q hq=>old q (by have e9:g=q:=(by simpa[Value.ownBlock] using hq);omega)),y2,(y3.alloc _).grown hg8 (fun q hq=>Or.inr (by have e9:g8=q:=(by simpa[Value.ownBlock] using hq);omega))⟩
          clear hAk hAd hnode nK nD hL4 hR4 hpair
          go_wp2_with (at_builtin;go_must (refine wpList_append_lies _ rfl _ _ 67 rfl w.heap.size 72 i2 (.agg #[.int .i64 0,.int .i64 0]) 2 16 Tryz.underlying67 hi2 hz0 hz1 hz2 rfl (by decide) _ (rest.length+k) _ rfl ho4.out ⟨wr.heap.size,0,none⟩ 1 1 [.int .i64 (an:Int),.int .i64 (bn:Int)] rfl rfl (World.news_of_block (cs:=#[.int .i64 (an:Int),.int .i64 (bn:Int)]) (t:=72) (fr:=(0,0)) (heap_alloc_new wr _)) (by simp[Value.oneCell']) (by omega) (by unfold maxLen;omega) (by omega) (by simp;omega) (wr.heap.size+1) (by simp) ?_;intro g9 c9 w8 hown8 hg8 hat8 hlt8))
          obtain⟨hf1,hf2⟩:=hfin.out g9 c9 w8 hown8 hg8
          go_roundw
          case rel=>exact⟨k+1,g9,c9,by go_num,by omega,by rw[Nat.add_assoc],hf1,hf2⟩
          case measure=>simp[intOf];omega
         ·obtain rfl:k=(ndN ns kb).args.length:=by omega
          have hL4':=hid hL4.out
          have hR4':=hid hR4.out
          have hfd:Hid (lfix g wr ns.length=fixN (bindE E (kb,ka)) ns.length):=by
           obtain⟨L1,k1,k2⟩:=hL4.out.mg
           exact lfix_is k1 k2 _ (Nat.le_refl _)
          clear hnode hAk hAd hL4 hR4
          go_wp2
          go_roundw
          case rel=>exact⟨bindE E (kb,ka),rest++newsF ns ka kb (ndN ns kb).args.length,g8,cap8,by rw[List.length_append,newsF_len],hUb',hL4',by rw[List.length_append,newsF_len];exact hR4',show _<=_ by rw[List.length_append,newsF_len];have:=hfl.out;omega⟩
          case measure=>
           show 9*lfix g wr ns.length+(rest.length+(ndN ns kb).args.length)<9*lfix g _ ns.length+(rest.length+1)
           rw[hfd.out,hfx.out]
           have:=hfl.out
           omega
end Go.Proofs.YtpkojcfdkkjmcaaGreatDoor
namespace Go.Proofs.YtpkojcfdkkjmcaaGreatDoor
set_option maxRecDepth 100000
open Go.RowKit
theorem MgL.far {W0 w1 w2 w3:World} {mb:Nat} {nv lv:Value} {ns:List Nd} {E:Nat->Nat} (hz:mb<w1.heap.size/\∀k,lv.ownBlock=some k->k<w1.heap.size) (hW:W0.heap.size<=w1.heap.size) (h:MgL W0 w1 w2 mb nv lv ns E) (hb:Below w1.heap.size w2 w3):MgL W0 w1 w3 mb nv lv ns E:=by
 obtain⟨L,hk,hl,hm⟩:=h
 exact⟨L,hk.keep (hk.bel.trans (hb.mono hW)) (hb.block mb hz.1) (fun k h1=>hb.block k (hz.2 k h1)),hl,hb.os.trans hm.os,hb.tape.trans hm.tape,hb.output.trans hm.output,Nat.le_trans hm.size hb.size,fun k h1 h2=>(hb.block k h1).trans (hm.block k h1 h2)⟩
theorem mgl_bel {W0 w w':World} {mb:Nat} {nv lv:Value} {ns:List Nd} {E:Nat->Nat} (h:MgL W0 w w' mb nv lv ns E):Below W0.heap.size W0 w'/\w.heap.size<=w'.heap.size/\w'.heap[mb]?=some (.cells #[nv,lv] 200):=by
 obtain⟨L,h1,_,h3⟩:=h
 exact⟨h1.bel,h3.size,h1.blk⟩
theorem nblk {w:World} {q:Nat} {u0 u1 u2 u3:Value} {T:TypeId} (h:w.heap[q]?=some (.cells #[u0,u1,u2,u3] T)):(w.cell? ⟨q,0,none⟩=some u0/\w.cell? ⟨q,1,none⟩=some u1/\w.cell? ⟨q,2,none⟩=some u2/\w.cell? ⟨q,3,none⟩=some u3)/\w.frozen? ⟨q,0,none⟩=false/\w.frozen? ⟨q,3,none⟩=false:=by
 refine⟨⟨?_,?_,?_,?_⟩,?_,?_⟩ <;> simp[World.cell?,World.frozen?,h]
theorem ret_sgr {w:World} {fn:Func} {t:Tmp} (hfn:fn.results=#[.cell t 38]) {tmps:Array Value} {q:Nat} {u0 u1:Value} (h4:tmps[t]?.getD undef=.pointer (some ⟨q,0,none⟩)) (hq:w.heap[q]?=some (.cells #[u0,u1] 38)):(results fn tmps).run Tryz.prog w=.ok (.agg #[u0,u1]) w:=by
 obtain⟨⟨z0,z1⟩,_⟩:=blk2y hq
 simp[results,hfn,go_sem,h4,z0,z1]
set_option maxHeartbeats 8000000 in
theorem sgraph_any {W0 w:World} {mb:Nat} {nv lv:Value} {st:List Nd} {L:List Nat} {E:Nat->Nat} (h:Mg W0 w mb nv lv st L) (hE:Ld L E) {rv:Value} {rs:List Int} (hv:Ri W0 rv rs) (hrs:∀x∈rs,0<=x/\x<(st.length:Int)) (hst:∀j,j<st.length->∀x∈(st.getD j nd0).args,0<=x/\x<(st.length:Int)) (h8:∀j,j<st.length->(st.getD j nd0).args.length<=8) (hr4:rs.length<=5000) (hN:st.length<=10000) :
  Calls Tryz.prog 83 #[.pointer (some ⟨mb,0,none⟩),rv] w fun e w'=>(∃na nc ra rc,e=.returned (.agg #[.slice na st.length nc,.slice ra rs.length rc])/\Gr w' (.slice na st.length nc) (.slice ra rs.length rc) (gE st rs E))/\Below W0.heap.size W0 w':=by
 obtain⟨i0,hi,hz0,hz1,hz2⟩:=info_parts infoI
 obtain⟨i1,hi1,hy0,hy1,hy2⟩:=info_parts infoN
 have hb0:=below_alloc w (.cells #[.slice none 0 0,.slice none 0 0] 38)
 have hK1:=h.next hb0
 have hRV:Hid (∀w',Below W0.heap.size W0 w'->Ri w' rv rs):=fun w' hb=>hv.below hb
 have hlw:Hid (∀k,lv.ownBlock=some k->W0.heap.size<=k):=fun k hk=>(h.l.lt k hk).1
 have hmb:Hid (∀(w1 w2:World),Below W0.heap.size W0 w1->Mo (fun k=>lv.ownBlock=some k) w1 w2->Below W0.heap.size W0 w2):=fun w1 w2 hb hm=>hb.trans (hm.below (fun k hk=>hlw.out k hk) hb.size)
 have hends:=sends_any hK1 hE (fun w' hm=>hRV.out w' (hmb.out _ _ hK1.bel hm)) hrs (by omega)
 have hkl:Hid (mb<(w.alloc (.cells #[.slice none 0 0,.slice none 0 0] 38)).heap.size/\∀k,lv.ownBlock=some k->k<(w.alloc (.cells #[.slice none 0 0,.slice none 0 0] 38)).heap.size):=⟨lt_of_block hK1.blk,fun k hk=>(hK1.l.lt k hk).2⟩
 have hW1:Hid (W0.heap.size<=(w.alloc (.cells #[.slice none 0 0,.slice none 0 0] 38)).heap.size):=hK1.bel.size
 have hW0:Hid (W0.heap.size<=w.heap.size):=h.bel.size
 have hlv2:Hid (∀k,lv.ownBlock=some k->k<w.heap.size):=fun k hk=>(h.l.lt k hk).2
 obtain⟨ra,rc,rfl,_⟩:=hv
 obtain⟨na,nc,rfl,_⟩:=h.nd
 have hRes:=hid (heap_alloc_new w (.cells #[.slice none 0 0,.slice none 0 0] 38))
 have hS1:w.heap.size<(w.alloc (.cells #[.slice none 0 0,.slice none 0 0] 38)).heap.size:=by simp
 have HST:=hid hst
 have H8:=hid h8
 have HN:=hid (fun x (hx:x<st.length)=>h.node hx)
 have htk:Hid (∀j,j<st.length->(st.map (renum (EI E))).take (j+1)=(st.map (renum (EI E))).take j++[renum (EI E) (st.getD j nd0)]):=fun j hj=>by
  rw[List.take_add_one]
  simp[List.getD,hj]
 clear h hK1 hb0 hE hst h8 hrs hlw
 generalize hW1':w.alloc (.cells #[.slice none 0 0,.slice none 0 0] 38)=w1 at *
 go_enter Tryz.func83,Tryz.ntmps83
 go_wp2_with (go_at_call 123;refine hends.mono ?_;rintro e w2 ⟨⟨ao2,c2,rfl,ho2⟩,hL2⟩;obtain⟨_,hsz2,hmk2⟩:=mgl_bel hL2;have hmz2:=lt_of_block hmk2;obtain⟨⟨k0,k1⟩,_⟩:=blk2y hmk2;clear hmk2)
 clear hW1'
 have hGp0:Hid (Gp w1.heap.size (w2.alloc (.cells #[.slice none 0 0,.slice ao2 rs.length c2] 38)) w2.heap.size (.slice none 0 0) (.slice ao2 rs.length c2) [] ((st.map (renum (EI E))).take 0) (rs.map (EI E))):=by
  refine⟨hsz2,heap_alloc_new w2 _,World.ownsRow_nil _ _ _ _,rfl,fun _ h=>absurd h (Nat.not_lt_zero _),?_⟩
  have h9:=World.ownsRow.alloc ho2 (.cells #[.slice none 0 0,.slice ao2 rs.length c2] 38)
  rw[List.length_map]
  exact h9
 have hKL0:Hid (MgL W0 w1 (w2.alloc (.cells #[.slice none 0 0,.slice ao2 rs.length c2] 38)) mb (.slice na st.length nc) lv st E):=MgL.far hkl.out hW1.out hL2 ((below_alloc w2 _).mono hsz2)
 clear ho2 hL2 hends
 go_loopw [7,17] (fun _ i wr=>∃(j:Nat) (ao:Option Addr) (c:Nat) (avs2:List Value),j<=st.length/\i=.int .i64 (j:Int)/\Hid (Gp w1.heap.size wr w2.heap.size (.slice ao j c) (.slice ao2 rs.length c2) avs2 ((st.map (renum (EI E))).take j) (rs.map (EI E)))/\Hid (MgL W0 w1 wr mb (.slice na st.length nc) lv st E)) (fun _ i _=>st.length-(intOf i).toNat)
 case atStart=>exact⟨0,none,0,[],by omega,rfl,hGp0,hKL0⟩
 case round=>
  clear hGp0 hKL0 k0 k1 hmz2
  obtain⟨j,ao,c,avs2,hj,rfl,hGp,hKL⟩:=hrel
  have hnds:((st.map (renum (EI E))).take j).length=j:=by simp;omega
  by_cases hlt:j<st.length
  ·obtain⟨L',hK',hE',hM'⟩:=hKL.out
   obtain⟨nb,no,nc2,aa,ac,hnv,hNd⟩:=HN.out j hlt
   injection hnv with u1 _ u3
   subst u1 u3
   obtain⟨d0,d1,d2,d3,hzn,dA⟩:=hNd wr hK'.bel
   have hav:=HST.out j hlt
   have ha8:=H8.out j hlt
   have htj:=hid (htk.out j hlt)
   have hRA:Hid (∀w',Below W0.heap.size W0 w'->Ri w' (.slice aa (ndN st j).args.length ac) (ndN st j).args):=fun w' hb=>⟨aa,ac,rfl,fun k hk=>by
    obtain⟨b',o',e,h6,_⟩:=(hNd w' hb).a k hk
    exact⟨b',o',e,h6⟩⟩
   have hjj:(j:Int)<(st.length:Int):=by omega
   clear dA hNd
   have e0:ndN st j=st.getD j nd0:=rfl
   rw[e0] at d0 d1 d2 d3 hRA
   generalize st.getD j nd0=nd at *
   obtain⟨kd,nm,nu,args⟩:=nd
   dsimp only at d0 d1 d2 d3 hav ha8 hRA
   clear e0
   have hb1:=below_alloc wr (.cells #[.int .i64 kd,.string nm,.int .i64 nu,.slice aa args.length ac] 86)
   have hbx:=heap_alloc_new wr (.cells #[.int .i64 kd,.string nm,.int .i64 nu,.slice aa args.length ac] 86)
   have hKn:=hK'.next hb1
   have hends:=sends_any hKn hE' (fun w' hm=>hRA.out w' (hmb.out _ _ hKn.bel hm)) hav (by omega)
   have hszr:w1.heap.size<=wr.heap.size:=hM'.size
   have hg0:=hGp.out
   have hzgb:=lt_of_block hg0.box
   have hlz:=hkl.out.2
   have hnx:Hid (∀w4 ao4 c4,w4.ownsRow (wr.alloc (.cells #[.int .i64 kd,.string nm,.int .i64 nu,.slice aa args.length ac] 86)).heap.size 3 1 (.slice ao4 args.length c4) args.length ((args.map (EI E)).map (Value.int .i64))->MgL W0 (wr.alloc (.cells #[.int .i64 kd,.string nm,.int .i64 nu,.slice aa args.length ac] 86)) w4 mb (.slice (some ⟨nb,no,none⟩) st.length nc) lv st E->w4.heap[wr.heap.size]?=some (.cells #[.int .i64 kd,.string nm,.int .i64 nu,.slice aa args.length ac] 86)/\Gp w1.heap.size (w4.setCell ⟨wr.heap.size,3,none⟩ (.slice ao4 args.length c4)) w2.heap.size (.slice ao j c) (.slice ao2 rs.length c2) avs2 ((st.map (renum (EI E))).take j) (rs.map (EI E))/\(w4.setCell ⟨wr.heap.size,3,none⟩ (.slice ao4 args.length c4)).ownsRow w1.heap.size 3 1 (.slice ao4 args.length c4) args.length ((args.map (EI E)).map (Value.int .i64))/\MgL W0 w1 (w4.setCell ⟨wr.heap.size,3,none⟩ (.slice ao4 args.length c4)) mb (.slice (some ⟨nb,no,none⟩) st.length nc) lv st E/\wr.heap.size<w4.heap.size/\w4.heap[w2.heap.size]?=some (.cells #[.slice ao j c,.slice ao2 rs.length c2] 38)):=fun w4 ao4 c4 ho4 hL4=>by
    have hm4:Mo (fun k=>lv.ownBlock=some k) (wr.alloc (.cells #[.int .i64 kd,.string nm,.int .i64 nu,.slice aa args.length ac] 86)) w4:=by
     obtain⟨_,_,_,h⟩:=hL4
     exact h
    have hs4:=hm4.size
    simp at hs4
    have hbx4:w4.heap[wr.heap.size]?=some (.cells #[.int .i64 kd,.string nm,.int .i64 nu,.slice aa args.length ac] 86):=by
     rw[hm4.block _ (by simp) (fun e=>by have:=hlz _ e;omega)]
     exact hbx
    refine⟨hbx4,hg0.keep (fun k h1 h2=>?_),?_,?_,by omega,(hm4.block _ (by simp;omega) (fun e=>by have:=hlz _ e;omega)).trans ((Below.heap_alloc _ _ _ hzgb).trans hg0.box)⟩
    ·rw[Below.heap_setCell _ _ _ _ (by show k≠wr.heap.size;omega),hm4.block k (by simp;omega) (fun e=>by have:=hlz _ e;omega),Below.heap_alloc _ _ _ h2]
    ·refine row_keep (w:=w4) (own_base ho4 (by simp;omega)) (fun k hk=>Below.heap_setCell _ _ _ _ ?_)
     have:=(ho4.lt k hk).1
     simp at this
     show k≠wr.heap.size
     omega
    ·refine MgL.far hkl.out hW1.out (MgL.trans (hM'.alloc _) hL4) ?_
     exact (Below.refl _ _).setCell (p:=⟨wr.heap.size,3,none⟩) hszr _
   have hpush:Hid (∀(w5 w6:World) (o:Obj) (ao4:Option Addr) (c4 g cap:Nat),Gp w1.heap.size w5 w2.heap.size (.slice ao j c) (.slice ao2 rs.length c2) avs2 ((st.map (renum (EI E))).take j) (rs.map (EI E))->w5.ownsRow w1.heap.size 3 1 (.slice ao4 args.length c4) args.length ((args.map (EI E)).map (Value.int .i64))->MgL W0 w1 w5 mb (.slice (some ⟨nb,no,none⟩) st.length nc) lv st E->w6.ownsRow w1.heap.size 86 4 (.slice (some ⟨g,0,none⟩) (j+1) cap) (j+1) (ncells ((st.map (renum (EI E))).take j) avs2++[.int .i64 kd,.string nm,.int .i64 nu,.slice ao4 args.length c4])->(w5.alloc o).grownBy w6 (Value.slice ao j c).ownBlock->((w6.cell? ⟨w2.heap.size,0,none⟩=some (.slice ao j c)/\w6.frozen? ⟨w2.heap.size,0,none⟩=false/\w2.heap.size<w6.heap.size)/\(∃avs3,Gp w1.heap.size (w6.setCell ⟨w2.heap.size,0,none⟩ (.slice (some ⟨g,0,none⟩) (j+1) cap)) w2.heap.size (.slice (some ⟨g,0,none⟩) (j+1) cap) (.slice ao2 rs.length c2) avs3 ((st.map (renum (EI E))).take (j+1)) (rs.map (EI E)))/\MgL W0 w1 (w6.setCell ⟨w2.heap.size,0,none⟩ (.slice (some ⟨g,0,none⟩) (j+1) cap)) mb (.slice (some ⟨nb,no,none⟩) st.length nc) lv st E)):=fun w5 w6 o ao4 c4 g cap hg5 ho5 hL5 hown hgr=>by
    have hs6:=hgr.size
    simp at hs6
    have hzb:=lt_of_block hg5.box
    have hs5:w1.heap.size<=w5.heap.size:=(mgl_bel hL5).2.1
    have hnb:∀k,(Value.slice ao j c).ownBlock=some k->w1.heap.size<=k/\k≠w2.heap.size:=fun k hk=>by
     obtain⟨cur,hc⟩:=row_obj hg5.n hk
     exact⟨(hg5.n.lt k hk).1,obj_ne hc hg5.box (by decide)⟩
    have b6:w6.heap[w2.heap.size]?=some (.cells #[.slice ao j c,.slice ao2 rs.length c2] 38):=by
     rw[hgr.block w2.heap.size (by simp;omega) (fun e=>(hnb w2.heap.size e.symm).2 rfl),Below.heap_alloc _ _ _ hzb]
     exact hg5.box
    refine⟨⟨by simp[World.cell?,b6],by simp[World.frozen?,b6],lt_of_block b6⟩,?_,?_⟩
    ·have hp:=hg5.push (nd:=⟨kd,nm,nu,args.map (EI E)⟩) (ao:=ao4) (ac:=c4) (g:=g) (cap:=cap) (by simpa using ho5) (by rw[hnds];simpa using hown) hgr
     rw[hnds] at hp
     rw[htj.out]
     exact⟨_,hp⟩
    ·refine MgL.far hkl.out hW1.out hL5 ((((Below.refl _ _).alloc hs5 o).grown hgr (by simp;omega) (fun k hk=>(hnb k hk).1)).setCell (p:=⟨w2.heap.size,0,none⟩) hg5.lo _)
   clear hGp hKL hK' hE' hM' hg0 hbx hKn hRA hlz
   go_wp2_with (first
    | (go_at_call 123;refine hends.mono ?_;rintro e w4 ⟨⟨ao4,c4,rfl,ho4⟩,hL4⟩;obtain⟨hbx4,hGp5,ho5,hL5,hzz,hb5⟩:=hnx.out w4 ao4 c4 ho4 hL4;obtain⟨⟨x0',x1',x2',x3'⟩,f0,f3⟩:=nblk hbx4;obtain⟨⟨g0',g1'⟩,g2',_⟩:=blk2y hb5;have hzg:=lt_of_block hb5;have hon:=World.ownsRow.alloc hGp5.n (.cells #[.int .i64 kd,.string nm,.int .i64 nu,.slice ao4 args.length c4] 86);rw[hnds] at hon)
    | (at_builtin;go_must (refine wpList_append_lies _ rfl _ _ 35 rfl w1.heap.size 86 i1 (.agg #[.int .i64 0,.string ⟨#[]⟩,.int .i64 0,.slice none 0 0]) 4 56 Tryz.underlying35 hi1 hy0 hy1 hy2 rfl (by decide) _ j _ rfl hon ⟨w4.heap.size,0,none⟩ 1 1 [.int .i64 kd,.string nm,.int .i64 nu,.slice ao4 args.length c4] rfl rfl (World.news_of_block (cs:=#[.int .i64 kd,.string nm,.int .i64 nu,.slice ao4 args.length c4]) (t:=86) (fr:=(0,0)) (by have h9:=heap_alloc_new (w4.setCell ⟨wr.heap.size,3,none⟩ (.slice ao4 args.length c4)) (.cells #[.int .i64 kd,.string nm,.int .i64 nu,.slice ao4 args.length c4] 86);simpa using h9)) (by simp[Value.oneCell']) (by decide) (by unfold maxLen;omega) (by omega) (by simp;omega) _ rfl ?_;intro g cap w6 hown6 hg6 hat6 hlt6;obtain⟨⟨r0,r1,r2⟩,⟨avs3,hGp6⟩,hL6⟩:=hpush.out _ w6 _ ao4 c4 g cap hGp5 ho5 hL5 hown6 hg6)))
   go_roundw
   case rel=>exact⟨j+1,some ⟨g,0,none⟩,cap,avs3,by omega,by go_num,hGp6,hL6⟩
   case measure=>simp[intOf];omega
  ·obtain rfl:j=st.length:=by omega
   have hGp9:=hGp.out
   have hKL9:=hid hKL.out
   rw[List.take_of_length_le (by simp)] at hGp9
   have hGr:Gr wr (.slice ao st.length c) (.slice ao2 rs.length c2) (gE st rs E):=hGp9.gr
   have hbxg:=hGp9.box
   have hzg:=lt_of_block hbxg
   obtain⟨⟨g0',g1'⟩,_⟩:=blk2y hbxg
   have hszr:w1.heap.size<=wr.heap.size:=(mgl_bel hKL9.out).2.1
   have hres:wr.heap[w.heap.size]?=some (.cells #[.slice none 0 0,.slice none 0 0] 38):=by
    obtain⟨_,_,_,hm⟩:=hKL9.out
    exact (hm.block _ hS1 (fun e=>by have:=hlv2.out _ e;omega)).trans hRes.out
   have hzr:=lt_of_block hres
   obtain⟨⟨s0,s1⟩,s2,s3⟩:=blk2y hres
   have hfar:Hid (Gr ((wr.setCell ⟨w.heap.size,0,none⟩ (.slice ao st.length c)).setCell ⟨w.heap.size,1,none⟩ (.slice ao2 rs.length c2)) (.slice ao st.length c) (.slice ao2 rs.length c2) (gE st rs E)):=(hGp9.keep (fun k h1 _=>by
    rw[Below.heap_setCell _ _ _ _ (by show k≠w.heap.size;omega),Below.heap_setCell _ _ _ _ (by show k≠w.heap.size;omega)])).gr
   have hbel:Hid (Below W0.heap.size W0 ((wr.setCell ⟨w.heap.size,0,none⟩ (.slice ao st.length c)).setCell ⟨w.heap.size,1,none⟩ (.slice ao2 rs.length c2))):=((mgl_bel hKL9.out).1.setCell (p:=⟨w.heap.size,0,none⟩) hW0.out _).setCell (p:=⟨w.heap.size,1,none⟩) hW0.out _
   have hrs':=hid hres
   clear hGp hKL hGp9 hGr hKL9 hres
   go_wp2
   exact bodyPost_ret (ret_sgr Tryz.results83 (by rfl) (blk2_set hrs'.out)) rfl ⟨⟨_,_,_,_,rfl,hfar.out⟩,hbel.out⟩
end Go.Proofs.YtpkojcfdkkjmcaaGreatDoor
