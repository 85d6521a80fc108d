/- What Bind and Merge write keeps words sound. -/
import Derived.BigRegion
import Derived.Test.YtpkojcfdkkjmcaaGreatDoorso27Z
import Derived.Test.YtpkojcfdkkjmcaaGreatDoorso25Z
import Derived.Test.YtpkojcfdkkjmcaaGreatDoorso20Z
import Derived.Test.YtpkojcfdkkjmcaaGreatDoorso03Z
namespace Go.Proofs.YtpkojcfdkkjmcaaGreatDoor
set_option maxRecDepth 100000
open Go.RowKit
theorem trm_kinds {l:List Int} {V:Nat->Bool} {N:Nat} (h:Snd l V) (hn:NsB l N) (hl:l.length<=65536) {k:Nat} (hk:k<l.length):((0<=trmW l k/\trmW l k<=18446744073709551615)/\goodB (trmW l k)=true)/\
  ((trmW l k % 8=0/\∃j:Nat,j<l.length/\valOf (trmW l k)=(j:Int)/\V j=true)∨(trmW l k % 8=3/\∃j:Nat,j<l.length/\valOf (trmW l k)=(j:Int)/\tgN l j=4)∨(trmW l k % 8=1/\(valOf (trmW l k)).toNat<N)∨trmW l k % 8=2):=by
 obtain⟨j,hj,e,e2⟩:=trm_ends h _ k hk (Nat.le_refl _)
 rw[e2]
 have hg:=h.good j hj
 have hr:=h.rng (wdN l j) (by unfold wdN;simp[List.getD,hj])
 unfold endW
 by_cases h4:tgN l j=4
 ·rw[if_pos h4]
  obtain⟨s1,s2,s3,s4⟩:=word_str (j:=j) (by omega)
  refine⟨⟨⟨s3,s4⟩,?_⟩,Or.inr (Or.inl ⟨s1,j,hj,s2,h4⟩)⟩
  unfold goodB
  rw[s1,s2]
  exact fits_str (by omega)
 ·rw[if_neg h4]
  have htc:=tag_cases hg
  have ht:wdN l j % 8=tgN l j:=rfl
  have hne:¬(tgN l j=3∨tgN l j=5):=fun h3=>by
   unfold nxN at e
   rw[if_neg (by omega),if_pos h3] at e
   cases e
  refine⟨⟨hr,hg⟩,?_⟩
  by_cases h0:tgN l j=0
  ·have hself:vlN l j=j:=by
    unfold nxN at e
    rw[if_pos h0] at e
    by_cases hs:vlN l j=j
    ·exact hs
    ·rw[if_neg hs] at e
     cases e
   have hv:=val_place hg (Or.inl (ht ▸ h0))
   have hV:=(h.ref j hj h0).2.1
   rw[hself] at hV
   unfold vlN at hself
   exact Or.inl ⟨ht ▸ h0,j,hj,by omega,hV⟩
  ·by_cases h1:tgN l j=1
   ·exact Or.inr (Or.inr (Or.inl ⟨ht ▸ h1,hn.atom j hj h1⟩))
   ·exact Or.inr (Or.inr (Or.inr (by omega)))
theorem nsb_set {l:List Int} {N:Nat} (hn:NsB l N) {j:Nat} {x:Int} (hj:j<l.length) (h1:x % 8=1->(valOf x).toNat<N) (h4:x % 8≠4):NsB (l.set j x) N:=by
 refine⟨fun k hk ht=>?_,fun k hk ht=>?_⟩
 ·rw[List.length_set] at hk
  by_cases e:k=j
  ·subst e
   rw[(tg_new hj).1] at ht
   rw[(tg_new hj).2]
   exact h1 ht
  ·rw[(tg_set hj e).1] at ht
   rw[(tg_set hj e).2]
   exact hn.atom k hk ht
 ·rw[List.length_set] at hk
  by_cases e:k=j
  ·subst e
   rw[(tg_new hj).1] at ht
   exact absurd ht h4
  ·rw[(tg_set hj e).1] at ht
   rw[wd_set hj,if_neg e]
   exact hn.func k hk ht
theorem bind_sndn {l:List Int} {N:Nat} (h:SndN l N) (hl:l.length<=65536) {a b:Nat} (ha:a<l.length) (hb:b<l.length) (hv:trmW l a % 8=0) (hle:trmW l b % 8=0->valOf (trmW l b)<=valOf (trmW l a)):(valOf (trmW l a)).toNat<l.length/\SndN (l.set (valOf (trmW l a)).toNat (trmW l b)) N:=by
 obtain⟨⟨V,hV⟩,hn⟩:=h
 obtain⟨_,ka⟩:=trm_kinds hV hn hl ha
 obtain⟨⟨rb,gb⟩,kb⟩:=trm_kinds hV hn hl hb
 obtain⟨j,hj,vj,Vj⟩:∃j:Nat,j<l.length/\valOf (trmW l a)=(j:Int)/\V j=true:=by
  rcases ka with⟨_,h⟩ | ⟨e,_⟩ | ⟨e,_⟩ | e
  ·exact h
  ·omega
  ·omega
  ·omega
 rw[vj,Int.toNat_natCast]
 rw[vj] at hle
 refine⟨hj,⟨V,snd_bind hV hj Vj rb gb (by rcases kb with⟨e,_⟩ | ⟨e,_⟩ | ⟨e,_⟩ | e <;> omega) (fun e=>?_) (fun e=>?_)⟩,nsb_set hn hj (fun e=>?_) (by rcases kb with⟨e,_⟩ | ⟨e,_⟩ | ⟨e,_⟩ | e <;> omega)⟩
 ·rcases kb with⟨_,i,hi,vi,Vi⟩ | ⟨e',_⟩ | ⟨e',_⟩ | e'
  ·have:=hle e
   rw[vi] at this
   rw[vi,Int.toNat_natCast]
   exact⟨by omega,Vi⟩
  all_goals omega
 ·rcases kb with⟨e',_⟩ | ⟨_,i,hi,vi,ti⟩ | ⟨e',_⟩ | e'
  ·omega
  ·rw[vi,Int.toNat_natCast]
   exact⟨hi,Or.inl ti⟩
  all_goals omega
 ·rcases kb with⟨e',_⟩ | ⟨e',_⟩ | ⟨_,h⟩ | e'
  ·omega
  ·omega
  ·exact h
  ·omega
theorem merge_sndn {l:List Int} {N:Nat} (h:SndN l N) (hl:l.length<=65536) {i j:Nat} (hj:j<l.length) (hij:i<j) (ti:tgN l i=4) (tj:tgN l j=4):SndN (l.set j (wordOf 5 (i:Int))) N:=by
 obtain⟨⟨V,hV⟩,hn⟩:=h
 have hf:fitsB 5 (i:Int)=true:=by
  simp[fitsB]
  omega
 have ht:wordOf 5 (i:Int) % 8=5:=wordOf_tag 5 (i:Int) (by omega) (by omega)
 have hv:valOf (wordOf 5 (i:Int))=(i:Int):=wordOf_val 5 (i:Int) hf
 have hg:goodB (wordOf 5 (i:Int))=true:=by
  unfold goodB
  rw[ht,hv]
  exact hf
 exact⟨⟨V,snd_fwd hV hj (Or.inl tj) hij (Or.inl ti) (wordOf_bd 5 (i:Int)) hg ht hv⟩,nsb_set hn hj (by omega) (by omega)⟩
end Go.Proofs.YtpkojcfdkkjmcaaGreatDoor
namespace Go.Proofs.YtpkojcfdkkjmcaaGreatDoor
set_option maxRecDepth 100000
open Go.RowKit
theorem infoSv:(Tryz.prog.info? 122).map (fun i=>(i.zero,i.size,i.bytes))=some (some (.agg #[.int .i64 0,.int .u64 0]),2,16):=by kernel_rfl
def svC (tr:List Te):List Value:=tr.flatMap fun e=>[.int .i64 (e.1:Int),.int .u64 e.2]
def mkC (pt:List Pe):List Value:=pt.flatMap fun p=>[.int .i64 (p.1:Int),.int .i64 (p.2:Int),.slice none 0 0]
theorem svC_app (a b:List Te):svC (a++b)=svC a++svC b:=by simp[svC]
theorem mkC_at:∀(l:List Pe) (j:Nat),j<l.length->(mkC l)[j*3]?=some (.int .i64 ((l.getD j (0,0)).1:Int))/\(mkC l)[j*3+1]?=some (.int .i64 ((l.getD j (0,0)).2:Int))/\(mkC l)[j*3+2]?=some (.slice none 0 0)
 | [],j,h=>absurd h (Nat.not_lt_zero _)
 | p::r,0,_=>⟨rfl,rfl,rfl⟩
 | p::r,j+1,h=>by
  have:=mkC_at r j (by simpa using h)
  rw[show (j+1)*3=j*3+1+1+1 by omega]
  have e:mkC (p::r)=.int .i64 (p.1:Int) :: .int .i64 (p.2:Int) :: .slice none 0 0::mkC r:=rfl
  rw[e]
  simpa[List.getD] using this
structure Hq (w:World) (B hb ab tb:Nat) (m:Int) (av:Value) (l:List Int) (tv:Value) (tq:Nat) (ns:List ByteArray) (trv:Value) (tr:List Te) (ptv:Value) (pt:List Pe) (n:Int):Prop where
 hp:Hp w B hb ab tb m av l tv tq ns trv ptv n
 tr:w.ownsRow B 122 2 trv tr.length (svC tr)
 pt:w.ownsRow B 115 3 ptv pt.length (mkC pt)
def qfoot (hb ab:Nat) (av trv ptv:Value):List Nat:=hb::(a_foot ab av++(trv.ownBlock.toList++ptv.ownBlock.toList))
theorem mem_qfoot {hb ab k:Nat} {av trv ptv:Value}:k∈qfoot hb ab av trv ptv↔k=hb∨k∈a_foot ab av∨trv.ownBlock=some k∨ptv.ownBlock=some k:=by simp[qfoot]
theorem own_slq {w:World} {B z:Nat} {e:TypeId} {v:Value} {n:Nat} {xs:List Value} (h:w.ownsRow B e z v n xs):∃ao c,v=.slice ao n c/\n<=c/\c<=maxLen/\(ao=none->n=0/\c=0)/\(∀a,ao=some a->a=⟨a.block,0,none⟩):=by
 rcases h.2 with⟨rfl,h0⟩ | ⟨g,cap,cur,rfl,_,_,hc,hm,_⟩
 ·exact⟨none,0,by rw[h0],by omega,by unfold maxLen;omega,(fun _=>⟨h0,rfl⟩),(fun a e=>by cases e)⟩
 ·exact⟨_,cap,rfl,hc,hm,(fun e=>by cases e),(fun a e=>by cases e;rfl)⟩
theorem own_cut {w:World} {B z:Nat} {e:TypeId} {ao:Option Addr} {c n k:Nat} {xs:List Value} (h:w.ownsRow B e z (.slice ao n c) n xs) (hk:k<=n):w.ownsRow B e z (.slice ao k c) k (xs.take (k*z)):=by
 have h1:=h.1
 have hkz:k*z<=n*z:=Nat.mul_le_mul_right z hk
 refine⟨by rw[List.length_take];omega,?_⟩
 rcases h.2 with⟨e0,h0⟩ | ⟨g,cap,cur,e0,hb,hg,hc,hm,hs,ht⟩
 ·injection e0 with e1 e2 e3
  subst e1 e3
  have:k=0:=by omega
  subst this
  exact Or.inl ⟨rfl,rfl⟩
 ·injection e0 with e1 e2 e3
  subst e1 e3
  refine Or.inr ⟨g,c,cur,rfl,hb,hg,by omega,hm,hs,?_⟩
  rw[←ht,List.take_take,Nat.min_eq_left hkz]
section
variable {w w':World} {B hb ab tb:Nat} {m:Int} {av:Value} {l:List Int} {tv:Value} {tq:Nat} {ns:List ByteArray} {trv:Value} {tr:List Te} {ptv:Value} {pt:List Pe} {n:Int}
theorem Hq.below (h:Hq w B hb ab tb m av l tv tq ns trv tr ptv pt n) (hm:Below w.heap.size w w'):Hq w' B hb ab tb m av l tv tq ns trv tr ptv pt n:=
 ⟨h.hp.below hm,row_keep h.tr (fun k hk=>hm.block k (h.tr.lt k hk).2),row_keep h.pt (fun k hk=>hm.block k (h.pt.lt k hk).2)⟩
theorem Hq.aty (h:Hq w B hb ab tb m av l tv tq ns trv tr ptv pt n) {k:Nat} (hk:k∈a_foot ab av):∃cs T,w.heap[k]?=some (.cells cs T (0,0))/\(T=153∨T=120):=by
 rcases a_mem_foot.1 hk with rfl | hk
 ·exact⟨_,_,h.hp.ar.blk,Or.inl rfl⟩
 ·obtain⟨cur,hc,_⟩:=own_block_obj h.hp.ar.own hk
  exact⟨cur,_,hc,Or.inr rfl⟩
theorem Hq.nty (h:Hq w B hb ab tb m av l tv tq ns trv tr ptv pt n) {k:Nat} (hk:k∈n_foot tb tv tq):(∃cs T,w.heap[k]?=some (.cells cs T (0,0))/\(T=158∨T=9))∨(∀cs T x,w.heap[k]?≠some (.cells cs T x)):=by
 rcases n_mem_foot.1 hk with e | e | e
 ·subst e
  exact Or.inl ⟨_,_,h.hp.tb.blk,Or.inl rfl⟩
 ·subst e
  obtain⟨D,⟨es,clock,hq,_⟩,_⟩:=h.hp.tb.map
  refine Or.inr (fun cs T x hx=>?_)
  rw[hq] at hx
  simp at hx
 ·obtain⟨cur,hc,_⟩:=own_block_obj h.hp.tb.own e
  exact Or.inl ⟨cur,_,hc,Or.inr rfl⟩
theorem Hq.apart (h:Hq w B hb ab tb m av l tv tq ns trv tr ptv pt n) {k:Nat} (hk:trv.ownBlock=some k∨ptv.ownBlock=some k):k≠hb/\k∉a_foot ab av/\k∉n_foot tb tv tq/\¬(trv.ownBlock=some k/\ptv.ownBlock=some k):=by
 have hT:∃cs T,w.heap[k]?=some (.cells cs T (0,0))/\(T=122∨T=115):=by
  rcases hk with hk | hk
  ·obtain⟨cur,hc,_⟩:=own_block_obj h.tr hk
   exact⟨cur,_,hc,Or.inl rfl⟩
  ·obtain⟨cur,hc,_⟩:=own_block_obj h.pt hk
   exact⟨cur,_,hc,Or.inr rfl⟩
 obtain⟨cs,T,hw,hTT⟩:=hT
 refine⟨fun e=>?_,fun hf=>?_,fun hf=>?_,fun⟨h1,h2⟩=>?_⟩
 ·subst e
  exact obj_ne hw h.hp.blk (by rcases hTT with rfl | rfl <;> decide) rfl
 ·obtain⟨cs',T',hw',hTT'⟩:=h.aty hf
  exact obj_ne hw hw' (by rcases hTT with rfl | rfl <;> rcases hTT' with rfl | rfl <;> decide) rfl
 ·rcases h.nty hf with⟨cs',T',hw',hTT'⟩ | hno
  ·exact obj_ne hw hw' (by rcases hTT with rfl | rfl <;> rcases hTT' with rfl | rfl <;> decide) rfl
  ·exact hno _ _ _ hw
 ·obtain⟨c1,e1,_⟩:=own_block_obj h.tr h1
  obtain⟨c2,e2,_⟩:=own_block_obj h.pt h2
  exact obj_ne e1 e2 (by decide) rfl
theorem Hq.rows (h:Hq w B hb ab tb m av l tv tq ns trv tr ptv pt n) {ks:List Nat} (hm:a_Mod ks w w') (hk:∀k∈ks,¬(trv.ownBlock=some k∨ptv.ownBlock=some k)):w'.ownsRow B 122 2 trv tr.length (svC tr)/\w'.ownsRow B 115 3 ptv pt.length (mkC pt):=
 ⟨row_keep h.tr (fun k e=>hm.block k (h.tr.lt k e).2 (fun hx=>hk k hx (Or.inl e))),row_keep h.pt (fun k e=>hm.block k (h.pt.lt k e).2 (fun hx=>hk k hx (Or.inr e)))⟩
theorem Hq.words {av':Value} {l':List Int} (h:Hq w B hb ab tb m av l tv tq ns trv tr ptv pt n) (u:a_Upd 153 w w' B ab m av l' av'):Hq w' B hb ab tb m av' l' tv tq ns trv tr ptv pt n:=by
 obtain⟨r1,r2⟩:=h.rows u.mod (fun k hk hx=>(h.apart hx).2.1 hk)
 exact⟨h.hp.words u,r1,r2⟩
theorem Hq.own {o:Nat} {u:Value} (h:Hq w B hb ab tb m av l tv tq ns trv tr ptv pt n):w.heap.size=(w.setCell ⟨hb,o,none⟩ u).heap.size/\Ar 153 (w.setCell ⟨hb,o,none⟩ u) B ab m av l/\Tb (w.setCell ⟨hb,o,none⟩ u) B tb tv tq ns/\(w.setCell ⟨hb,o,none⟩ u).ownsRow B 122 2 trv tr.length (svC tr)/\(w.setCell ⟨hb,o,none⟩ u).ownsRow B 115 3 ptv pt.length (mkC pt):=by
 obtain⟨h1,h2⟩:=h.hp.self
 have hm:a_Mod [hb] w (w.setCell ⟨hb,o,none⟩ u):=(a_Mod.refl [hb] w).setCell (p:=⟨hb,o,none⟩) (Or.inl (by simp)) _
 obtain⟨r1,r2⟩:=h.rows hm (fun k hk hx=>(h.apart hx).1 (by simpa using hk))
 refine⟨by simp,h.hp.ar.keep hm (fun k hk=>by
  have e:k=hb:=by simpa using hk
  rw[e];exact h1),h.hp.tb.keep (mod_an hm) (fun k hk=>by
  have e:k=hb:=by simpa using hk
  rw[e];exact h2),r1,r2⟩
theorem Hq.wrote (h:Hq w B hb ab tb m av l tv tq ns trv tr ptv pt n) (n':Int):Hq (w.setCell ⟨hb,4,none⟩ (.int .i64 n')) B hb ab tb m av l tv tq ns trv tr ptv pt n':=by
 obtain⟨_,ha,ht,r1,r2⟩:=h.own (o:=4) (u:=.int .i64 n')
 exact⟨⟨heap_setCell_same w hb 4 _ _ (.int .i64 n') h.hp.blk,h.hp.base,ha,ht⟩,r1,r2⟩
theorem Hq.grown {v:Value} (h:Hq w B hb ab tb m av l tv tq ns trv tr ptv pt n) (hv:v=trv∨v=ptv) (hg:w.grownBy w' v.ownBlock):Hp w' B hb ab tb m av l tv tq ns trv ptv n/\a_Mod v.ownBlock.toList w w'/\(∀k,k<w.heap.size->v.ownBlock≠some k->w'.heap[k]?=w.heap[k]?):=by
 have hb':∀k,k<w.heap.size->v.ownBlock≠some k->w'.heap[k]?=w.heap[k]?:=fun k hk hn=>hg.block k hk (fun e=>hn e.symm)
 have hne:∀k,v.ownBlock=some k->k≠hb/\k∉a_foot ab av/\k∉n_foot tb tv tq:=fun k hk=>by
  have:=h.apart (k:=k) (by rcases hv with rfl | rfl;exact Or.inl hk;exact Or.inr hk)
  exact⟨this.1,this.2.1,this.2.2.1⟩
 have hm:a_Mod v.ownBlock.toList w w':=⟨hg.os,hg.tape,hg.output,hg.size,fun k hk hn=>hb' k hk (fun e=>hn (by simp[e]))⟩
 refine⟨⟨(hb' hb (lt_of_block h.hp.blk) (fun e=>(hne hb e).1 rfl)).trans h.hp.blk,h.hp.base,h.hp.ar.keep hm (fun k hk=>(hne k (by simpa using hk)).2.1),h.hp.tb.keep (mod_an hm) (fun k hk=>(hne k (by simpa using hk)).2.2)⟩,hm,hb'⟩
end
end Go.Proofs.YtpkojcfdkkjmcaaGreatDoor
namespace Go.Proofs.YtpkojcfdkkjmcaaGreatDoor
set_option maxRecDepth 100000
open Go.RowKit
section
variable {w w':World} {B hb ab tb:Nat} {m:Int} {av:Value} {l:List Int} {tv:Value} {tq:Nat} {ns:List ByteArray} {trv:Value} {tr:List Te} {ptv:Value} {pt:List Pe} {n:Int}
def Wrq (w w':World) (B hb ab tb:Nat) (m:Int) (av:Value) (l':List Int) (tv:Value) (tq:Nat) (ns:List ByteArray) (trv:Value) (tr':List Te) (ptv:Value) (pt:List Pe) (n':Int):Prop:=
 ∃trv',Hq w' B hb ab tb m av l' tv tq ns trv' tr' ptv pt n'/\a_Mod (qfoot hb ab av trv ptv) w w'/\a_Nx w trv trv'
set_option maxHeartbeats 2000000 in
theorem write_not (h:Hq w B hb ab tb m av l tv tq ns trv tr ptv pt n) (k:Nat) (x:Int) (hk:k<l.length) (x0:0<=x) (x1:x<=18446744073709551615) (hm:mayB x l.length=true) (n0:0<=n) (n1:n<=4611686018427387904) (hs:seesB pt k=false) (hp:pt.length<=1000000) :
  Calls Tryz.prog 181 #[.pointer (some ⟨hb,0,none⟩),.int .i64 (k:Int),.int .u64 x] w fun e w'=>e=.returned (.tuple #[])/\Wrq w w' B hb ab tb m av (l.set k x) tv tq ns trv tr ptv pt (n+1):=by
 obtain⟨⟨c0,c1,c2,c3,c4⟩,c5⟩:=h.hp.cells
 have hl:=hid (blay_ok h.hp.ar k x hk x0 x1 hm)
 have HH:=hid h
 obtain⟨po,pc,rfl,hpc,_,hp0,hpa⟩:=own_slq h.pt
 have hfin:Hid (∀w1,a_Upd 153 w w1 B ab m av (l.set k x) av->Wrq w (w1.setCell ⟨hb,4,none⟩ (.int .i64 (n+1))) B hb ab tb m av (l.set k x) tv tq ns trv tr (.slice po pt.length pc) pt (n+1)):=fun w1 hu=>
  ⟨trv,(HH.out.words hu).wrote (n+1),(hu.mod.ofMem _ (fun y hy=>Or.inl (mem_qfoot.2 (Or.inr (Or.inl hy))))).setCell (p:=⟨hb,4,none⟩) (Or.inl (mem_qfoot.2 (Or.inl rfl))) _,a_Nx.refl _ _⟩
 by_cases hp1:pt.length=0
 ·have d0:decide ((0:Int)<(pt.length:Int))=false:=by simp[hp1]
  have d1:¬(0:Int)<(pt.length:Int):=by omega
  clear h hk hm hs hpa hp0
  go_enter Tryz.func181,Tryz.ntmps181
  go_wp2_with (go_at_call 55;refine hl.out.mono ?_;rintro e w1 ⟨rfl,hu⟩;have Hh:=hid (HH.out.words hu);have Hu:=hid hu;obtain⟨⟨d0,d1,d2,d3,d4⟩,d5⟩:=Hh.out.hp.cells;have d6:w1.frozen? ⟨hb,4,none⟩=false:=(by simp[World.frozen?,Hh.out.hp.blk]);clear hu)
  go_end0
  exact⟨rfl,hfin.out _ Hu.out⟩
 ·obtain⟨g,rfl⟩:∃g,po=some ⟨g,0,none⟩:=by
   cases po with
   | none=>exact absurd (hp0 rfl).1 hp1
   | some a=>exact⟨a.block,by rw[←hpa a rfl]⟩
  have hla:=(mkC_at pt (pt.length-1) (by omega)).2.1
  have hcell:w.cell? ⟨g,(pt.length-1)*3+1,none⟩=some (.int .i64 ((pt.getD (pt.length-1) (0,0)).2:Int)):=by
   rw[h.pt.cellAt _ (by omega)]
   exact hla
  have hno:¬(k:Int)<((pt.getD (pt.length-1) (0,0)).2:Int):=by
   unfold seesB at hs
   rw[List.getLast?_eq_getElem?] at hs
   rw[List.getElem?_eq_getElem (by omega)] at hs
   have:=of_decide_eq_false hs
   simp only[List.getD,List.getElem?_eq_getElem (show pt.length-1<pt.length by omega),Option.getD_some]
   omega
  have d0:(0:Int)<(pt.length:Int):=by omega
  have hsub:IntKind.i64.wrap ((pt.length:Int)-1)=((pt.length-1:Nat):Int):=by rw[IntKind.wrap_i64];omega
  have d1:(((pt.length-1:Nat):Int):Int)<(pt.length:Int):=by omega
  generalize (pt.getD (pt.length-1) (0,0)).2=top at *
  generalize hq:pt.length-1=q at *
  clear h hk hm hs hpa hp0 hla hq
  go_enter Tryz.func181,Tryz.ntmps181
  go_wp2_with (go_at_call 55;refine hl.out.mono ?_;rintro e w1 ⟨rfl,hu⟩;have Hh:=hid (HH.out.words hu);have Hu:=hid hu;obtain⟨⟨d0,d1,d2,d3,d4⟩,d5⟩:=Hh.out.hp.cells;have d6:w1.frozen? ⟨hb,4,none⟩=false:=(by simp[World.frozen?,Hh.out.hp.blk]);clear hu)
  go_end0
  exact⟨rfl,hfin.out _ Hu.out⟩
theorem wr_trail {w1 w6:World} {o:Obj} {g6 cap6:Nat} {k:Nat} {old:Int} (h:Hq w1 B hb ab tb m av l tv tq ns trv tr ptv pt n) (hown:w6.ownsRow B 122 2 (.slice (some ⟨g6,0,none⟩) (tr.length+1) cap6) (tr.length+1) (svC tr++[.int .i64 (k:Int),.int .u64 old])) (hg:(w1.alloc o).grownBy w6 trv.ownBlock) (hat:trv.ownBlock=some g6∨g6=(w1.alloc o).heap.size) :
  Hq (w6.setCell ⟨hb,2,none⟩ (.slice (some ⟨g6,0,none⟩) (tr.length+1) cap6)) B hb ab tb m av l tv tq ns (.slice (some ⟨g6,0,none⟩) (tr.length+1) cap6) (tr++[(k,old)]) ptv pt n/\a_Mod (qfoot hb ab av trv ptv) w1 (w6.setCell ⟨hb,2,none⟩ (.slice (some ⟨g6,0,none⟩) (tr.length+1) cap6))/\a_Nx w1 trv (.slice (some ⟨g6,0,none⟩) (tr.length+1) cap6):=by
 have ha:=h.below (below_alloc w1 o)
 obtain⟨hp6,hm6,hb6⟩:=ha.grown (Or.inl rfl) hg
 have hpt:w6.ownsRow B 115 3 ptv pt.length (mkC pt):=row_keep ha.pt (fun q hq=>hb6 q (ha.pt.lt q hq).2 (fun e=>(ha.apart (Or.inl e)).2.2.2 ⟨e,hq⟩))
 have hr:w6.ownsRow B 122 2 (.slice (some ⟨g6,0,none⟩) (tr.length+1) cap6) (tr++[(k,old)]).length (svC (tr++[(k,old)])):=by
  rw[svC_app,List.length_append]
  exact hown
 have hz:=h.hp.self
 refine⟨⟨⟨heap_setCell_same w6 hb 2 _ _ _ hp6.blk,hp6.base,?_,?_⟩,row_keep hr (fun q hq=>Below.heap_setCell _ _ _ _ (fun e=>?_)),row_keep hpt (fun q hq=>Below.heap_setCell _ _ _ _ (fun e=>?_))⟩,?_,fun q hq=>?_⟩
 ·refine hp6.ar.keep (ks:=[hb]) ((a_Mod.refl [hb] w6).setCell (p:=⟨hb,2,none⟩) (Or.inl (by simp)) _) (fun q hq=>?_)
  have e:q=hb:=by simpa using hq
  rw[e]
  exact hz.1
 ·refine hp6.tb.keep (mod_an ((a_Mod.refl [hb] w6).setCell (p:=⟨hb,2,none⟩) (Or.inl (by simp)) _)) (fun q hq=>?_)
  have e:q=hb:=by simpa using hq
  rw[e]
  exact hz.2
 ·obtain⟨c,e1,_⟩:=own_block_obj hr hq
  exact obj_ne e1 hp6.blk (by decide) e
 ·obtain⟨c,e1,_⟩:=own_block_obj hpt hq
  exact obj_ne e1 hp6.blk (by decide) e
 ·have hm:a_Mod (qfoot hb ab av trv ptv) w1 w6:=(a_Mod.ofBelow (below_alloc w1 o)).trans (hm6.ofMem (qfoot hb ab av trv ptv) (fun y hy=>Or.inl (mem_qfoot.2 (Or.inr (Or.inr (Or.inl (by simpa using hy))))))) (fun y hy=>Or.inl hy)
  exact hm.setCell (p:=⟨hb,2,none⟩) (Or.inl (mem_qfoot.2 (Or.inl rfl))) _
 ·have e:g6=q:=by simpa[Value.ownBlock] using hq
  subst e
  rcases hat with e | e
  ·exact Or.inl e
  ·exact Or.inr (by rw[e];simp)
theorem wr_cells {w1 w6:World} {o:Obj} (h:Hq w1 B hb ab tb m av l tv tq ns trv tr ptv pt n) (hg:(w1.alloc o).grownBy w6 trv.ownBlock):(w6.cell? ⟨hb,2,none⟩=some trv/\w6.frozen? ⟨hb,2,none⟩=false)/\hb<w6.heap.size:=by
 obtain⟨hp6,_⟩:=(h.below (below_alloc w1 o)).grown (Or.inl rfl) hg
 refine⟨⟨hp6.cells.1.2.2.1,?_⟩,hp6.cells.2⟩
 simp[World.frozen?,hp6.blk]
theorem wr_fin {w1 w7 w9:World} {trv':Value} {tr':List Te} {l':List Int} (hb1:Below w.heap.size w w1) (_:B<=w.heap.size) (h7:Hq w7 B hb ab tb m av l tv tq ns trv' tr' ptv pt n) (hm:a_Mod (qfoot hb ab av trv ptv) w1 w7) (hx:a_Nx w1 trv trv') (hu:a_Upd 153 w7 w9 B ab m av l' av):Wrq w (w9.setCell ⟨hb,4,none⟩ (.int .i64 (n+1))) B hb ab tb m av l' tv tq ns trv tr' ptv pt (n+1):=by
 have hm1:a_Mod (qfoot hb ab av trv ptv) w w7:=(a_Mod.ofBelow hb1).trans hm (fun y hy=>Or.inl hy)
 refine⟨trv',(h7.words hu).wrote (n+1),(hm1.trans (hu.mod.ofMem (qfoot hb ab av trv ptv) (fun y hy=>Or.inl (mem_qfoot.2 (Or.inr (Or.inl hy))))) (fun y hy=>Or.inl hy)).setCell (p:=⟨hb,4,none⟩) (Or.inl (mem_qfoot.2 (Or.inl rfl))) _,fun q hq=>?_⟩
 rcases hx q hq with h | h
 ·exact Or.inl h
 ·exact Or.inr (Nat.le_trans hb1.size h)
set_option maxHeartbeats 4000000 in
theorem write_seen (h:Hq w B hb ab tb m av l tv tq ns trv tr ptv pt n) (hB:B<=w.heap.size) (k:Nat) (x:Int) (hk:k<l.length) (x0:0<=x) (x1:x<=18446744073709551615) (hm:mayB x l.length=true) (n0:0<=n) (n1:n<=4611686018427387904) (hs:seesB pt k=true) (hp:pt.length<=1000000) (htl:tr.length<=1000000) :
  Calls Tryz.prog 181 #[.pointer (some ⟨hb,0,none⟩),.int .i64 (k:Int),.int .u64 x] w fun e w'=>e=.returned (.tuple #[])/\Wrq w w' B hb ab tb m av (l.set k x) tv tq ns trv (tr++[(k,l.getD k 0)]) ptv pt (n+1):=by
 obtain⟨i0,hi,hz0,hz1,hz2⟩:=info_parts infoSv
 obtain⟨⟨c0,c1,c2,c3,c4⟩,c5⟩:=h.hp.cells
 have HH:=hid h
 obtain⟨po,pc,rfl,hpc,_,hp0,hpa⟩:=own_slq h.pt
 obtain⟨tfo,tc,rfl,htc,_,_,_⟩:=own_slq h.tr
 have hp1:pt.length≠0:=fun e=>by
  rw[List.eq_nil_of_length_eq_zero e] at hs
  simp[seesB] at hs
 obtain⟨g,rfl⟩:∃g,po=some ⟨g,0,none⟩:=by
  cases po with
  | none=>exact absurd (hp0 rfl).1 hp1
  | some a=>exact⟨a.block,by rw[←hpa a rfl]⟩
 have hla:=(mkC_at pt (pt.length-1) (by omega)).2.1
 have hcell:w.cell? ⟨g,(pt.length-1)*3+1,none⟩=some (.int .i64 ((pt.getD (pt.length-1) (0,0)).2:Int)):=by
  rw[h.pt.cellAt _ (by omega)]
  exact hla
 have hno:(k:Int)<((pt.getD (pt.length-1) (0,0)).2:Int):=by
  unfold seesB at hs
  rw[List.getLast?_eq_getElem?] at hs
  rw[List.getElem?_eq_getElem (by omega)] at hs
  have:=of_decide_eq_true hs
  simp only[List.getD,List.getElem?_eq_getElem (show pt.length-1<pt.length by omega),Option.getD_some]
  omega
 have d0:(0:Int)<(pt.length:Int):=by omega
 have hsub:IntKind.i64.wrap ((pt.length:Int)-1)=((pt.length-1:Nat):Int):=by rw[IntKind.wrap_i64];omega
 have d1:(((pt.length-1:Nat):Int):Int)<(pt.length:Int):=by omega
 have hwo:=hid (fun w1 (hb1:Below w.heap.size w w1)=>bword_ok (h.hp.ar.below hb1) k hk)
 have hl:=hid (fun w2 (h2:Hq w2 B hb ab tb m av l tv tq ns (.slice tfo tr.length tc) tr (.slice (some ⟨g,0,none⟩) pt.length pc) pt n)=>h2)
 have hst:=hid (fun w2 (h2:Ar 153 w2 B ab m av l)=>blay_ok h2 k x hk x0 x1 hm)
 generalize (pt.getD (pt.length-1) (0,0)).2=top at *
 generalize hq:pt.length-1=q at *
 have HT:=hid h.tr
 have HBz:=hid hB
 generalize hK:l.getD k 0=old at *
 clear h hk hm hs hpa hp0 hla hq hl hK
 go_enter Tryz.func181,Tryz.ntmps181
 go_wp2
 go_region_law
  (first
   | (refine step_append_lies _ (by rfl) _ _ _ (by rfl) B 122 i0 (.agg #[.int .i64 0,.int .u64 0]) 2 16 Tryz.underlying97 hi hz0 hz1 hz2 rfl (by omega) _ tr.length (svC tr) (by rfl) hown ⟨w1.heap.size,0,none⟩ 1 1 [.int .i64 (k:Int),.int .u64 old] (by rfl) (by rfl) (World.news_of_block (cs:=#[.int .i64 (k:Int),.int .u64 old]) (t:=122) (fr:=(0,0)) (heap_alloc_new w1 _)) (by simp[Value.oneCell']) (by omega) (by unfold maxLen;omega) (by omega) (by have:=Hb1.out.size;have:=HBz.out;simp;omega) _ (by rfl) ?_;intro g6 cap6 w6 hown6 hg6 hat6 hlt6;have HW6:=hid (wr_trail HH1.out hown6 hg6 hat6);obtain⟨⟨k2,k2f⟩,k5⟩:=wr_cells HH1.out hg6;clear hown hown6 hg6 hat6 hlt6)
   | (go_simp;go_at_call 145;refine (hwo.out _ (Below.refl _ w).drew).mono ?_;rintro e w1 ⟨rfl,hb1⟩;have Hb1:=hid (Below.next (Below.refl _ w).drew hb1);have HH1:=hid (HH.out.below Hb1.out);obtain⟨⟨e0,e1,e2,e3,e4⟩,e5⟩:=HH1.out.hp.cells;have hown:=HH1.out.tr.alloc (.cells #[.int .i64 (k:Int),.int .u64 old] 122);clear hb1))
 all_goals
  obtain⟨hw6,hm6,hx6⟩:=HW6.out
  have HQ6:=hid hw6
  have HF:=hid (fun w9 (hu:a_Upd 153 (w6.setCell ⟨hb,2,none⟩ (.slice (some ⟨g6,0,none⟩) (tr.length+1) cap6)) w9 B ab m av (l.set k x) av)=>wr_fin Hb1.out HBz.out hw6 hm6 hx6 hu)
  obtain⟨⟨y0,y1,y2,y3,y4⟩,y5⟩:=hw6.hp.cells
  clear hw6 hm6 hx6 HW6 k2 k2f
  go_wp2_with (go_at_call 55;refine (hst.out _ HQ6.out.hp.ar).mono ?_;rintro e w9 ⟨rfl,hu⟩;have Hu:=hid hu;have Hh:=hid (HQ6.out.words hu);obtain⟨⟨v0,v1,v2,v3,v4⟩,v5⟩:=Hh.out.hp.cells;have v6:w9.frozen? ⟨hb,4,none⟩=false:=(by simp[World.frozen?,Hh.out.hp.blk]);clear hu)
  go_end0
  exact⟨rfl,HF.out _ Hu.out⟩
end
end Go.Proofs.YtpkojcfdkkjmcaaGreatDoor
