/- The size of graphs: Small of package tendrilhand. -/
import Derived.Test.YtpkojcfdkkjmcaaGreatDoorso04Z
namespace Go.Proofs.YtpkojcfdkkjmcaaGreatDoor
set_option maxRecDepth 100000
open Go.RowKit
def smallK (K:Nat) (g:Gf):Bool:=decide (g.nodes.length<=K) && decide (g.roots.length<=K) && g.nodes.all (fun n=>decide (n.args.length<=40))
theorem smallK_fits {K:Nat} {g:Gf} (h:smallK K g=true):(∀n∈g.nodes,n.args.length<=40)/\g.nodes.length<=K/\g.roots.length<=K:=by
 simp only[smallK,Bool.and_eq_true,decide_eq_true_eq,List.all_eq_true] at h
 obtain⟨⟨h1,h2⟩,h3⟩:=h
 exact⟨fun n hn=>h3 n hn,h1,h2⟩
set_option maxHeartbeats 2000000 in
theorem smallK_any {K:Nat} (hK:K<=5000) {W:World} {nv rv:Value} {g:Gf} (hG:Gr W nv rv g) :
  Calls Tryz.prog 9 #[.agg #[nv,rv],.int .i64 (K:Int)] W fun e w'=>e=.returned (.bool (smallK K g))/\Below W.heap.size W w':=by
 obtain⟨l,lr⟩:=g
 obtain⟨ua,uc,rfl,hu⟩:=hG.1
 obtain⟨ra,rc,rfl,_⟩:=hG.2
 dsimp only at hu ⊢
 have hE:=hid (show smallK K ⟨l,lr⟩=(decide (l.length<=K) && decide (lr.length<=K) && l.all (fun n=>decide (n.args.length<=40))) from rfl)
 generalize smallK K ⟨l,lr⟩=R at hE ⊢
 by_cases h1:K<l.length
 ·have h1':(K:Int)<(l.length:Int):=by omega
  have hR:=hid (show R=false by rw[hE.out,decide_eq_false (by omega:¬l.length<=K)];rfl)
  clear hE hu hG
  go_enter Tryz.func9,Tryz.ntmps9
  go_wp2
  go_ret
  exact⟨ret_bool hR.out.symm,below_alloc _ _⟩
 ·by_cases h2:K<lr.length
  ·have h1':¬(K:Int)<(l.length:Int):=by omega
   have h2':(K:Int)<(lr.length:Int):=by omega
   have hR:=hid (show R=false by rw[hE.out,decide_eq_false (by omega:¬lr.length<=K)];simp)
   clear hE hu hG
   go_enter Tryz.func9,Tryz.ntmps9
   go_wp2
   go_ret
   exact⟨ret_bool hR.out.symm,below_alloc _ _⟩
  ·have h1':¬(K:Int)<(l.length:Int):=by omega
   have h2':¬(K:Int)<(lr.length:Int):=by omega
   go_enter Tryz.func9,Tryz.ntmps9
   go_wp2
   go_loopw [22] (fun i wr=>∃k:Nat,k<=l.length/\i=.int .i64 k/\Hid (Below W.heap.size W wr)/\Hid (∀j,j<k->(l.getD j nd0).args.length<=40)) (fun i _=>l.length-(intOf i).toNat)
   case atStart=>exact⟨0,Nat.zero_le _,rfl,below_alloc _ _,fun j hj=>absurd hj (Nat.not_lt_zero _)⟩
   case round=>
    obtain⟨k,hk,rfl,hb,hp⟩:=hrel
    by_cases hlt:k<l.length
    ·obtain⟨ub,uo,uav,rfl,hcu⟩:=hu k hlt
     obtain⟨p0,p1,p2,p3,hA⟩:=hcu.below hb.out
     obtain⟨aa,ac,rfl,_⟩:=hA
     have hin:l.getD k nd0∈l:=by simp[List.getD,hlt]
     have hlp:=lt_of_cell p0
     by_cases h40:40<(l.getD k nd0).args.length
     ·have hR:=hid (show R=false by
       rw[hE.out]
       have:l.all (fun n=>decide (n.args.length<=40))=false:=List.all_eq_false.2 ⟨_,hin,by simpa using h40⟩
       rw[this]
       simp)
      clear hin hcu hu hp hE hG
      generalize l.getD k nd0=x at p0 p1 p2 p3 h40
      obtain⟨xk,xs,xn,xl⟩:=x
      dsimp only at p0 p1 p2 p3 h40
      have h40':(40:Int)<(xl.length:Int):=by omega
      go_wp2
      go_ret
      exact⟨ret_bool hR.out.symm,hb.out.alloc hb.out.size _⟩
     ·have hp':Hid (∀j,j<k+1->(l.getD j nd0).args.length<=40):=fun j hj=>by
       rcases Nat.lt_or_eq_of_le (Nat.le_of_lt_succ hj) with h | h
       ·exact hp.out j h
       ·subst h;omega
      clear hin hcu hu hp hE hG
      generalize l.getD k nd0=x at p0 p1 p2 p3 h40
      obtain⟨xk,xs,xn,xl⟩:=x
      dsimp only at p0 p1 p2 p3 h40
      have h40':¬(40:Int)<(xl.length:Int):=by omega
      go_wp2
      go_roundw
      case rel=>exact⟨k+1,by omega,congrArg (Value.int .i64) (by omega),hb.out.alloc hb.out.size _,hp'⟩
      case measure=>simp[intOf];omega
    ·have hR:=hid (show R=true by
      rw[hE.out,decide_eq_true (by omega:l.length<=K),decide_eq_true (by omega:lr.length<=K)]
      simp only[Bool.true_and,List.all_eq_true,decide_eq_true_eq]
      intro n hn
      obtain⟨i,hi,rfl⟩:=List.getElem_of_mem hn
      have:=hp.out i (by omega)
      simpa[List.getD,hi] using this)
     clear hE hu hG hp
     go_wp2
     go_ret
     exact⟨ret_bool hR.out.symm,hb.out⟩
end Go.Proofs.YtpkojcfdkkjmcaaGreatDoor
namespace Go.Proofs.YtpkojcfdkkjmcaaGreatDoor
set_option maxRecDepth 100000
open Go.RowKit
theorem list_ext {l m:List Int} (h:l.length=m.length) (he:∀j,j<l.length->l.getD j 0=m.getD j 0):l=m:=by
 apply List.ext_getElem h
 intro i h1 h2
 have:=he i h1
 simpa[List.getD,h1,h2] using this
theorem nds_ext {l m:List Nd} (h:l.length=m.length) (he:∀j,j<l.length->l.getD j nd0=m.getD j nd0):l=m:=by
 apply List.ext_getElem h
 intro i h1 h2
 have:=he i h1
 simpa[List.getD,h1,h2] using this
theorem text_eq {a b:ByteArray} (h:a.toList=b.toList):a=b:=by
 rw[ByteArray.toList_eq,ByteArray.toList_eq] at h
 exact ByteArray.ext (Array.toList_inj.1 h)
set_option maxHeartbeats 1000000 in
theorem equal_ints {W:World} {u v:Value} {l m:List Int} (hu:Ri W u l) (hv:Ri W v m) (hl:l.length<=5000) :
  Calls Tryz.prog 79 #[u,v] W fun e w'=>e=.returned (.bool (decide (l=m)))/\Below W.heap.size W w':=by
 obtain⟨ua,uc,rfl,hu⟩:=hu
 obtain⟨va,vc,rfl,hv⟩:=hv
 by_cases hlen:l.length=m.length
 ·have hln:(l.length:Int)=(m.length:Int):=by omega
  go_enter Tryz.func79,Tryz.ntmps79
  go_wp2
  go_loopw [5,13] (fun _ i wr=>∃k:Nat,k<=l.length/\i=.int .i64 k/\Hid (Below W.heap.size W wr)/\Hid (∀j,j<k->l.getD j 0=m.getD j 0)) (fun _ i _=>l.length-(intOf i).toNat)
  case atStart=>exact⟨0,Nat.zero_le _,rfl,Below.refl _ _,fun j hj=>absurd hj (Nat.not_lt_zero _)⟩
  case round=>
   obtain⟨k,hk,rfl,hb,hp⟩:=hrel
   by_cases hlt:k<l.length
   ·obtain⟨ub,uo,rfl,hcu⟩:=hu k hlt
    obtain⟨vb,vo,rfl,hcv⟩:=hv k (by omega)
    have du:wr.cell? ⟨ub,uo+k,none⟩=some (.int .i64 (l.getD k 0)):=by rw[hb.out.cell (p:=⟨ub,uo+k,none⟩) (lt_of_cell hcu)];exact hcu
    have dv:wr.cell? ⟨vb,vo+k,none⟩=some (.int .i64 (m.getD k 0)):=by rw[hb.out.cell (p:=⟨vb,vo+k,none⟩) (lt_of_cell hcv)];exact hcv
    by_cases he:l.getD k 0=m.getD k 0
    ·have hp':Hid (∀j,j<k+1->l.getD j 0=m.getD j 0):=fun j hj=>by
      rcases Nat.lt_or_eq_of_le (Nat.le_of_lt_succ hj) with h | h
      ·exact hp.out j h
      ·subst h;exact he
     rw[←he] at dv
     generalize l.getD k 0=x at du dv
     clear hcu hcv hu hv he hp
     go_wp2
     go_quiet (fail)
     go_wp2
     go_roundw
     case rel=>exact⟨k+1,by omega,congrArg (Value.int .i64) (by omega),below_drewN hb.out _,hp'⟩
     case measure=>simp[intOf];omega
    ·have hF:=hid (show decide (l=m)=false from decide_eq_false (fun e=>he (by rw[e])))
     have he':(l.getD k 0 == m.getD k 0)=false:=by simpa using he
     generalize l.getD k 0=x at du he he'
     generalize m.getD k 0=y at dv he he'
     clear hcu hcv hu hv hp
     go_wp2
     go_quiet (fail)
     go_wp2
     go_ret
     exact⟨ret_bool hF.out.symm,below_drewN hb.out _⟩
   ·have hT:=hid (show decide (l=m)=true from decide_eq_true (list_ext hlen (fun j hj=>hp.out j (by omega))))
    clear hu hv hp
    go_wp2
    go_ret
    exact⟨ret_bool hT.out.symm,hb.out⟩
 ·have hF:=hid (show decide (l=m)=false from decide_eq_false (fun e=>hlen (by rw[e])))
  have hln:((l.length:Int) == (m.length:Int))=false:=by simpa using (by omega:¬(l.length:Int)=(m.length:Int))
  clear hu hv
  go_enter Tryz.func79,Tryz.ntmps79
  go_wp2
  go_ret
  exact⟨ret_bool hF.out.symm,Below.refl _ _⟩
def eqNd (a b:Nd):Bool:=decide (a.kind=b.kind) && decide (a.name.toList=b.name.toList) && decide (a.num=b.num) && decide (a.args=b.args)
theorem eqNd_yes {a b:Nd} (h:a=b):eqNd a b=true:=by
 subst h
 simp[eqNd]
theorem eqNd_no {a b:Nd} (h:a≠b):eqNd a b=false:=by
 cases he:eqNd a b with
 | false=>rfl
 | true=>
  obtain⟨k,s,n,l⟩:=a
  obtain⟨k',s',n',l'⟩:=b
  simp only[eqNd,Bool.and_eq_true,decide_eq_true_eq] at he
  obtain⟨⟨⟨h1,h2⟩,h3⟩,h4⟩:=he
  exact absurd (by rw[h1,text_eq h2,h3,h4]) h
def eqNds:List Nd->List Nd->Bool
 | [],[]=>true
 | a::l,b::m=>eqNd a b && eqNds l m
 | _,_=>false
theorem eqNds_yes:∀{l m:List Nd},l=m->eqNds l m=true
 | [],_,h=>by subst h;rfl
 | a::l,_,h=>by
  subst h
  simp only[eqNds,eqNd_yes rfl,eqNds_yes (rfl:l=l),Bool.and_self]
theorem eqNds_no:∀{l m:List Nd},l≠m->eqNds l m=false
 | [],[],h=>absurd rfl h
 | [],b::m,_=>rfl
 | a::l,[],_=>rfl
 | a::l,b::m,h=>by
  simp only[eqNds]
  by_cases e:a=b
  ·rw[eqNds_no (fun e'=>h (by rw[e,e']))]
   simp
  ·rw[eqNd_no e]
   rfl
def eqG (a b:Gf):Bool:=eqNds a.nodes b.nodes && decide (a.roots=b.roots)
theorem eqG_yes (a:Gf):eqG a a=true:=by simp[eqG,eqNds_yes (rfl:a.nodes=a.nodes)]
theorem nd_eq (k k' n n':Int) (s s':ByteArray) (l l':List Int):eqNd ⟨k,s,n,l⟩ ⟨k',s',n',l'⟩=(decide (k=k') && decide (s.toList=s'.toList) && decide (n=n') && decide (l=l')):=rfl
set_option maxHeartbeats 2000000 in
theorem sameNode_any {W:World} {u v:Value} {a b:Nd} (hu:Ri W u a.args) (hv:Ri W v b.args) (hl:a.args.length<=5000) :
  Calls Tryz.prog 78 #[.agg #[.int .i64 a.kind,.string a.name,.int .i64 a.num,u],.agg #[.int .i64 b.kind,.string b.name,.int .i64 b.num,v]] W fun e w'=>e=.returned (.bool (eqNd a b))/\Below W.heap.size W w':=by
 obtain⟨k,s,n,l⟩:=a
 obtain⟨k',s',n',l'⟩:=b
 dsimp only at hu hv hl ⊢
 have hb2:Below W.heap.size W ((W.alloc (.cells #[.int .i64 k,.string s,.int .i64 n,u] 86)).alloc (.cells #[.int .i64 k',.string s',.int .i64 n',v] 86)):=(below_alloc W _).alloc (by simp) _
 have hE:=equal_ints (hu.below hb2) (hv.below hb2) hl
 have hG:=hid (nd_eq k k' n n' s s' l l')
 generalize eqNd ⟨k,s,n,l⟩ ⟨k',s',n',l'⟩=R at hG ⊢
 generalize decide (l=l')=r at hE hG
 clear hu hv
 by_cases hk:k=k'
 ·subst hk
  by_cases hn:n=n'
  ·subst hn
   go_enter Tryz.func78,Tryz.ntmps78
   go_wp2_with (go_at_call 79;refine hE.mono ?_;rintro e w' ⟨rfl,hb⟩)
   ·go_ret
    refine⟨ret_bool ?_,Below.next hb2 hb⟩
    rw[hG.out]
    simp[*]
   ·go_ret
    refine⟨ret_bool ?_,hb2⟩
    rw[hG.out]
    simp[*]
  ·go_enter Tryz.func78,Tryz.ntmps78
   go_wp2
   all_goals
    go_ret
    refine⟨ret_bool ?_,hb2⟩
    rw[hG.out]
    simp[*]
 ·go_enter Tryz.func78,Tryz.ntmps78
  go_wp2
  all_goals
   go_ret
   refine⟨ret_bool ?_,hb2⟩
   rw[hG.out]
   simp[*]
end Go.Proofs.YtpkojcfdkkjmcaaGreatDoor
