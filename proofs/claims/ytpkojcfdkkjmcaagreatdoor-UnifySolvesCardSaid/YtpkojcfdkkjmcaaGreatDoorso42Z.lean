/- Package unify: meet, where arguments are met. -/
import Derived.Test.YtpkojcfdkkjmcaaGreatDoorso41Z
namespace Go.Proofs.YtpkojcfdkkjmcaaGreatDoor
set_option maxRecDepth 100000
open Go.RowKit Go.Maps
section
variable {W w w0:World} {l:List Int} {V:Nat->Bool} {nm:List ByteArray} {hb ub mq:Nat} {ledv tdv:Value} {ls:List (Nat×Value)} {td:List (Nat×Nat)} {L:List Nat} {c d f t:Nat} {a1 a2 af at_:Option Addr} {ac ad df dt:Nat}
theorem Tv.arg (h:Tv w l f (.slice af (tdL l (trmW l f)).length df)) (h0:0<(tdL l (trmW l f)).length):∃b,af=some ⟨b,0,none⟩/\b<w.heap.size/\∀k,k<(tdL l (trmW l f)).length->w.cell? ⟨b,k,none⟩=some (.int .i64 ((tdL l (trmW l f)).getD k 0)):=by
 obtain⟨_,_,ao,d,e,B,ho⟩:=h
 injection e with e1 e2 e3
 subst e1 e3
 rcases ho.2 with⟨e,_⟩ | ⟨g',cap',cur,e,hb,hg,h1,h2,h3,h4⟩
 ·injection e with _ e _
  omega
 ·injection e with e1 e2 e3
  subst e1 e3
  refine⟨g',rfl,lt_of_block hg,fun k hk=>?_⟩
  rw[show k=0+k by omega]
  have:=ho.cellAt k (by simpa using hk)
  rw[show (0+k)=k by omega,this,List.getElem?_map,List.getElem?_eq_getElem hk]
  simp[List.getD,hk]
theorem kdU (hs:Snd l V) (hn:NsB l nm.length) (hl:l.length<=65536) {k:Nat} (hk:k<l.length):(tdK (trmW l k)=1/\0<=tdA (trmW l k)/\tdL l (trmW l k)=[])∨((tdK (trmW l k)=2∨tdK (trmW l k)=3)/\tdA (trmW l k)<0/\tdL l (trmW l k)=[])∨(tdK (trmW l k)=4/\0<=tdA (trmW l k)):=by
 have hT:=trm_tw hs hn hl hk
 have hv:trmW l k % 8=0∨trmW l k % 8=3->0<=valOf (trmW l k):=fun ht=>by
  obtain⟨p,_,e,_⟩:=trm_place hs hk ht hl
  omega
 unfold tdK tdA tdL
 rcases hT.tag with h | h | h | h
 ·have:=hv (Or.inl h)
  left
  simp[h,this]
 ·right;left
  simp[h]
 ·right;left
  simp[h]
 ·have:=hv (Or.inr h)
  right;right
  simp[h,this]
set_option maxHeartbeats 4000000 in
theorem umeet_leaf (hord:OrdH l nm c d f t a1 a2 af at_ ac ad df dt) (hk:tdK (trmW l f)≠1) (hk4:tdK (trmW l f)≠4) (h0:¬0<=tdA (trmW l f)) (hz:(tdL l (trmW l f)).length=0) (hlab:labU l nm f t) :
  Calls Tryz.prog 154 #[.pointer (some ⟨ub,0,none⟩),tmU l nm c (.slice a1 (tdL l (trmW l c)).length ac),tmU l nm d (.slice a2 (tdL l (trmW l d)).length ad)] w0 fun e w'=>e=.returned (.bool true)/\Below w0.heap.size w0 w':=by
 have hb2:Below w0.heap.size w0 ((w0.alloc (tmB l nm c (.slice a1 (tdL l (trmW l c)).length ac))).alloc (tmB l nm d (.slice a2 (tdL l (trmW l d)).length ad))):=(below_alloc w0 _).alloc (by simp) _
 have Hal:=hid (fun w=>alike_is (af:=af) (df:=df) (at_:=at_) (dt:=dt) w (b:=true) ⟨fun _=>hlab,fun _=>rfl⟩)
 have k1:(tdK (trmW l f) == 1)=false:=beq_eq_false_iff_ne.2 hk
 have k4:(tdK (trmW l f) == 4)=false:=beq_eq_false_iff_ne.2 hk4
 have Hz:=hid hz
 clear hk hk4 hlab hz
 have hmain:∀bA:Bool,(tdA (trmW l f) == tdA (trmW l t))=bA->Calls Tryz.prog 154 #[.pointer (some ⟨ub,0,none⟩),tmU l nm c (.slice a1 (tdL l (trmW l c)).length ac),tmU l nm d (.slice a2 (tdL l (trmW l d)).length ad)] w0 fun e w'=>e=.returned (.bool true)/\Below w0.heap.size w0 w':=fun bA hA=>by
  cases bA
  all_goals
   go_enter Tryz.func154,Tryz.ntmps154
   go_wp2_with (first
    | (go_at_call 177;refine (hord _).mono ?_;rintro e w1 ⟨rfl,hb3⟩;have hb4:=Below.next hb2 hb3;have HX:=hid (bx2_at w1 (tmB l nm f (.slice af (tdL l (trmW l f)).length df)) (tmB l nm t (.slice at_ (tdL l (trmW l t)).length dt)));have hb5:Below w0.heap.size w0 ((w1.alloc (tmB l nm f (.slice af (tdL l (trmW l f)).length df))).alloc (tmB l nm t (.slice at_ (tdL l (trmW l t)).length dt))):=(hb4.alloc hb4.size _).alloc (by have:=hb4.size;simp;omega) _;clear hb3 hb4)
    | (go_at_call 179;refine (Hal.out _).mono ?_;rintro e w3 ⟨rfl,hb6⟩;have hb7:=Below.next hb5 hb6;have HY:=hid (And.intro ((hb6.block _ (lt_of_block HX.out.1)).trans HX.out.1) ((hb6.block _ (lt_of_block HX.out.2)).trans HX.out.2));obtain⟨⟨x0,x1,x2,x3,x4,x5⟩,_,x6⟩:=tm_cells HY.out.1;obtain⟨⟨y0,y1,y2,y3,y4,y5⟩,_,y6⟩:=tm_cells HY.out.2;clear hb5 hb6 HX;have hb5:=hid hb7;clear hb7))
   go_loopw [9,10,62] (fun _ _ s62 wr=>s62=.int .i64 0/\wr=w3) (fun _ _ _ _=>0)
   case atStart=>exact⟨rfl,rfl⟩
   case round=>
    obtain⟨rfl,rfl⟩:=hrel
    have hz:=Hz.out
    go_wp2
    go_ret
    exact⟨rfl,hb5.out⟩
 exact hmain _ rfl
end
end Go.Proofs.YtpkojcfdkkjmcaaGreatDoor
