/- Package unify: meet, compounds. -/
import Derived.Test.YtpkojcfdkkjmcaaGreatDoorso42Z
namespace Go.Proofs.YtpkojcfdkkjmcaaGreatDoor
set_option maxRecDepth 100000
open Go.RowKit Go.Maps
section
variable {W w w0:World} {l:List Int} {V:Nat->Bool} {nm:List ByteArray} {hb ub mq:Nat} {ledv tdv:Value} {ls:List (Nat×Value)} {td:List (Nat×Nat)} {L:List Nat} {c d f t:Nat} {a1 a2 af at_:Option Addr} {ac ad df dt:Nat}
theorem ust_no {n:Nat} (hbd:Ubd n ub mq ledv tdv) {q:Nat} (hq:n<=q):¬uSt ub mq ledv tdv q:=fun h9=>by
 rcases h9 with h9 | h9 | h9 | h9
 ·have:=hbd.u;omega
 ·have:=hbd.m;omega
 ·have:=hbd.l q h9;omega
 ·have:=hbd.t q h9;omega
theorem ust_mid {n m p q:Nat} {ledv' tdv':Value} (hbd:Ubd n ub mq ledv tdv) (h1:∀q,ledv'.ownBlock=some q->ledv.ownBlock=some q∨m<=q) (h2:∀q,tdv'.ownBlock=some q->tdv.ownBlock=some q∨p<=q) (hq:n<=q) (hm:q<m) (hp:q<p):¬uSt ub mq ledv' tdv' q:=fun h9=>by
 rcases h9 with h9 | h9 | h9 | h9
 ·have:=hbd.u;omega
 ·have:=hbd.m;omega
 ·rcases h1 q h9 with h | h
  ·have:=hbd.l q h;omega
  ·omega
 ·rcases h2 q h9 with h | h
  ·have:=hbd.t q h;omega
  ·omega
set_option maxHeartbeats 8000000 in
theorem umeet_comp (hord:OrdH l nm c d f t a1 a2 af at_ ac ad df dt) (hs:Snd l V) (hn:NsB l nm.length) (hl:l.length<=65536) (h:Um W l nm hb ub mq ledv tdv ls td L w0) (hf:Tv w0 l f (.slice af (tdL l (trmW l f)).length df)) (ht:Tv w0 l t (.slice at_ (tdL l (trmW l t)).length dt)) (hk:tdK (trmW l f)=4) (hne:tdA (trmW l f)≠tdA (trmW l t)) (h0:0<=tdA (trmW l f)) (hne2:utI l t≠utI l f) (hls:ls.length<=100000) (hlab:labU l nm f t) (htd:td.length<=1000000) :
  Calls Tryz.prog 154 #[.pointer (some ⟨ub,0,none⟩),tmU l nm c (.slice a1 (tdL l (trmW l c)).length ac),tmU l nm d (.slice a2 (tdL l (trmW l d)).length ad)] w0 fun e w'=>∃ledv' tdv',e=.returned (.bool true)/\Ust W l nm hb ub mq ledv tdv w0 ledv' tdv' (ls++[(f,.slice af (tdL l (trmW l f)).length df)]) (td++argU l f t (tdL l (trmW l f)).length) (L.set (utI l f) (utI l t)) w':=by
 obtain⟨i0,hi,hz0,hz1,hz2⟩:=info_parts infoPr
 have hb2:Below w0.heap.size w0 ((w0.alloc (tmB l nm c (.slice a1 (tdL l (trmW l c)).length ac))).alloc (tmB l nm d (.slice a2 (tdL l (trmW l d)).length ad))):=(below_alloc w0 _).alloc (by simp) _
 have Hal:=hid (fun w=>alike_is (af:=af) (df:=df) (at_:=at_) (dt:=dt) w (b:=true) ⟨fun _=>hlab,fun _=>rfl⟩)
 have k1:(tdK (trmW l f) == 1)=false:=beq_eq_false_iff_ne.2 (by omega)
 have k4:(tdK (trmW l f) == 4)=true:=by simpa using hk
 have e1:(tdA (trmW l f) == tdA (trmW l t))=false:=beq_eq_false_iff_ne.2 hne
 have hn8:(tdL l (trmW l f)).length<=8:=args_eight (trm_tw hs hn hl hf.lt)
 have hnt:=hid hlab.2.2.2
 have HAf:=hid (fun k (hk:k<(tdL l (trmW l f)).length)=>(utN_arg hs hn hl hf.lt hk).1)
 have HAt:=hid (fun k (hk:k<(tdL l (trmW l t)).length)=>(utN_arg hs hn hl ht.lt hk).1)
 have hbd:=hid h.bd
 have H:=hid h
 have HF:=hid hf
 have HT:=hid ht
 have HS:=hid hs
 have HN:=hid hn
 have H0:=hid h0
 clear h hf ht hs hn h0 hk hne hlab
 go_enter Tryz.func154,Tryz.ntmps154
 go_wp2_with (first
  | (go_at_call 177;refine (hord _).mono ?_;rintro e w1 ⟨rfl,hb3⟩;have hb4:=Below.next hb2 hb3;have HX:=hid (bx2_at w1 (tmB l nm f (.slice af (tdL l (trmW l f)).length df)) (tmB l nm t (.slice at_ (tdL l (trmW l t)).length dt)));have hp0:=hid hb4.size;have hb5:Below w0.heap.size w0 ((w1.alloc (tmB l nm f (.slice af (tdL l (trmW l f)).length df))).alloc (tmB l nm t (.slice at_ (tdL l (trmW l t)).length dt))):=(hb4.alloc hb4.size _).alloc (by have:=hb4.size;simp;omega) _;clear hb3 hb4)
  | (go_at_call 179;refine (Hal.out _).mono ?_;rintro e w3 ⟨rfl,hb6⟩;have hb7:=Below.next hb5 hb6;have HY:=hid (And.intro ((hb6.block _ (lt_of_block HX.out.1)).trans HX.out.1) ((hb6.block _ (lt_of_block HX.out.2)).trans HX.out.2));obtain⟨⟨x0,x1,x2,x3,x4,x5⟩,_,x6⟩:=tm_cells HY.out.1;obtain⟨⟨y0,y1,y2,y3,y4,y5⟩,_,y6⟩:=tm_cells HY.out.2;have HB7:=hid hb7;clear hb5 hb6 HX hb7)
  | (go_at_call 178;refine (ulead_any HS.out HN.out hl (H.out.next HB7.out) (HF.out.keep (Ik.below HB7.out)) (HT.out.keep (Ik.below HB7.out)) H0.out hne2 hls).mono ?_;rintro e w4 ⟨ledv',rfl,hm,hk,hmo,hbl⟩;have HM:=hid (And.intro hm (And.intro hk (And.intro hmo hbl)));clear x0 x1 x2 x3 x4 x5 x6 y0 y1 y2 y3 y4 y5 y6;have HX4:=hid (And.intro ((hmo.block _ (lt_of_block HY.out.1) (ust_no hbd.out hp0.out)).trans HY.out.1) ((hmo.block _ (lt_of_block HY.out.2) (ust_no hbd.out (Nat.le_succ_of_le hp0.out))).trans HY.out.2));clear hm hk hmo hbl;obtain⟨⟨x0,x1,x2,x3,x4,x5⟩,_,x6⟩:=tm_cells HX4.out.1))
 clear x0 x1 x2 x3 x4 x5 x6
 have HU:=hid ((Ust.of H.out HB7.out).trans ⟨HM.out.1,HM.out.2.1,HM.out.2.2.1,HM.out.2.2.2,fun _ hq=>Or.inl hq⟩)
 have hz13:Hid (w1.heap.size+1<w3.heap.size):=lt_of_block HY.out.2
 have hz34:Hid (w3.heap.size<=w4.heap.size):=HM.out.2.2.1.size
 have Hbl:=hid HM.out.2.2.2
 go_loopw [9,10,62] (fun _ _ s62 wr=>∃(k:Nat) (tdv1:Value) (TK:List (Nat×Nat)),s62=.int .i64 (k:Int)/\k<=(tdL l (trmW l f)).length/\Hid (TK=td++argU l f t k)/\Hid (Ust W l nm hb ub mq ledv' tdv w4 ledv' tdv1 (ls++[(f,.slice af (tdL l (trmW l f)).length df)]) TK (L.set (utI l f) (utI l t)) wr)/\Hid (wr.heap[w1.heap.size+1]?=some (tmB l nm t (.slice at_ (tdL l (trmW l t)).length dt)))) (fun _ _ s62 _=>(tdL l (trmW l f)).length-(intOf s62).toNat)
 case atStart=>exact⟨0,tdv,td,rfl,Nat.zero_le _,by rw[argU_zero,List.append_nil];exact hid rfl,hid (Ust.start HM.out.1),hid HX4.out.2⟩
 case round=>
  obtain⟨k,tdv1,TK,rfl,hk,hTK,hS,hX⟩:=hrel
  have hTl:TK.length<=2000000:=by
   have h9:=congrArg List.length hTK.out
   rw[List.length_append,argU_len] at h9
   omega
  by_cases hklt:k<(tdL l (trmW l f)).length
  ·have hkz:(k:Int)<((tdL l (trmW l f)).length:Int):=by omega
   have hkt:k<(tdL l (trmW l t)).length:=by have:=hnt.out;omega
   have hkz2:(k:Int)<((tdL l (trmW l t)).length:Int):=by omega
   obtain⟨bf,haf,zf,cf⟩:=(HF.out.keep (HU.out.k.trans hS.out.k)).arg (by omega)
   obtain⟨bt,hat,zt,ct⟩:=(HT.out.keep (HU.out.k.trans hS.out.k)).arg (by omega)
   obtain⟨an,han⟩:∃an:Nat,(tdL l (trmW l f)).getD k 0=(an:Int):=⟨((tdL l (trmW l f)).getD k 0).toNat,by have:=(HAf.out k hklt).1;omega⟩
   obtain⟨bn,hbn⟩:∃bn:Nat,(tdL l (trmW l t)).getD k 0=(bn:Int):=⟨((tdL l (trmW l t)).getD k 0).toNat,by have:=(HAt.out k hkt).1;omega⟩
   have cf0:=cf k hklt
   have ct0:=ct k hkt
   rw[han] at cf0
   rw[hbn] at ct0
   have hpair:Hid (TK++[(an,bn)]=td++argU l f t (k+1)):=show _=_ by
    rw[argU_succ,han,hbn,←List.append_assoc,hTK.out]
    rfl
   subst haf
   subst hat
   obtain⟨⟨z0,z1,z2,z3⟩,⟨z4,z5⟩,z6⟩:=hS.out.m.cells
   obtain⟨⟨x0,x1,x2,x3,x4,x5⟩,_,x6⟩:=tm_cells hX.out
   obtain⟨la,lc',rfl,hlc1,hlc2,_,_⟩:=own_slq hS.out.m.td
   have hown:(wr.alloc (.cells #[.int .i64 (an:Int),.int .i64 (bn:Int)] 72)).drew.ownsRow W.heap.size 72 2 (.slice la TK.length lc') TK.length (pcells TK):=World.ownsRow.alloc hS.out.m.td _
   have hnw:=heap_alloc_new wr (.cells #[.int .i64 (an:Int),.int .i64 (bn:Int)] 72)
   have hW9:W.heap.size<=wr.heap.size:=hS.out.m.b.size
   clear cf ct hk
   go_wp2
   go_region_law
    (refine step_append_lies _ (by rfl) _ _ _ (by rfl) W.heap.size 72 i0 (.agg #[.int .i64 0,.int .i64 0]) 2 16 Tryz.underlying67 hi hz0 hz1 hz2 rfl (by omega) _ TK.length (pcells TK) (by rfl) hown ⟨wr.heap.size,0,none⟩ 1 1 [.int .i64 (an:Int),.int .i64 (bn:Int)] (by rfl) (by rfl) (World.news_of_block (cs:=#[.int .i64 (an:Int),.int .i64 (bn:Int)]) (t:=72) (fr:=(0,0)) hnw) (by simp[Value.oneCell']) (by omega) (by unfold maxLen;omega) (by omega) (by simp;omega) _ (by rfl) ?_;intro g6 cap6 w6 hown6 hg6 hat6 hlt6;have hP:=hid (hS.out.m.more hown6 hg6);have hAt:=hid hat6;obtain⟨⟨q2,q2f⟩,q5⟩:=hP.out.2;clear hown hown6 hg6 hat6 hlt6)
   all_goals
    have hnx:Hid (Ust W l nm hb ub mq ledv' tdv w4 ledv' (.slice (some ⟨g6,0,none⟩) (TK.length+1) cap6) (ls++[(f,.slice (some ⟨bf,0,none⟩) (tdL l (trmW l f)).length df)]) (TK++[(an,bn)]) (L.set (utI l f) (utI l t)) (w6.setCell ⟨ub,3,none⟩ (.slice (some ⟨g6,0,none⟩) (TK.length+1) cap6))):=hS.out.trans ⟨hP.out.1.1,hP.out.1.2.1,hP.out.1.2.2,fun _ hq=>Or.inl hq,fun q hq=>by
     have e9:g6=q:=by simpa[Value.ownBlock] using hq
     rw[←e9]
     rcases hAt.out with h9 | h9
     ·exact Or.inl h9
     ·refine Or.inr ?_
      simp at h9
      omega⟩
    have hbx:Hid ((w6.setCell ⟨ub,3,none⟩ (.slice (some ⟨g6,0,none⟩) (TK.length+1) cap6)).heap[w1.heap.size+1]?=some (tmB l nm t (.slice (some ⟨bt,0,none⟩) (tdL l (trmW l t)).length dt))):=(hP.out.1.2.2.block _ x6 (ust_mid hbd.out Hbl.out hS.out.bt (Nat.le_succ_of_le hp0.out) hz13.out (Nat.lt_of_lt_of_le hz13.out hz34.out))).trans hX.out
    clear hP hAt hS hX hnw z0 z1 z2 z3 z4 z5 z6 x0 x1 x2 x3 x4 x5 q2 q2f q5
    go_wp2
    go_roundw
   all_goals first
    | exact⟨k+1,_,_,by go_num,by omega,hpair,hnx,hbx⟩
    | (simp[intOf];omega)
  ·obtain rfl:k=(tdL l (trmW l f)).length:=by omega
   have hE:=hTK.out
   subst hE
   have HS2:=hid (HU.out.trans hS.out)
   clear hS hX
   go_wp2
   go_ret
   first
    | exact⟨ledv',tdv1,rfl,HS2.out⟩
    | exact⟨rfl,ledv',tdv1,HS2.out⟩
end
end Go.Proofs.YtpkojcfdkkjmcaaGreatDoor
