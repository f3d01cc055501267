/- Both parsers, part 6. -/
import Derived.Deep.LoopGhost
import Derived.OrdersHeld
import Derived.Deep.RegionHeld
import Derived.Test.YtnhidldofjengaaGreatDoorParV
import Derived.Test.YtnhidldofjengaaGreatDoorLexRD
namespace Go.Proofs.YtnhidldofjengaaGreatDoor
open Go.RowKit
open List renaming getElem_toArray->gA,getElem_cons_zero->gB,getElem_cons_succ->gC,setIfInBounds_toArray->gD,set_cons_zero->gE,set_cons_succ->gF
set_option linter.unusedVariables false
set_option linter.unusedSimpArgs false
set_option maxRecDepth 100000
set_option maxHeartbeats 4000000
theorem ic {E:Env} {w:World} {s:St} (h:RS E w s) (hk:(hd s.l).1.k≠0):RS E (w.setCell ⟨E.b,1,none⟩ (.int .i64 ((E.ts.length - s.l.length:Nat)+1:Int))) s.tl:=by
 have h2:=h.ohi
 exact RS.step h hk s.o (by omega) h2 (h.blk.ny 1 _) (vK (Gr.refl w) 1 _)
theorem uV {E:Env} {w:World} {s:St} (h:RS E w s) (hk:(hd s.l).1.k≠0) (o':Int) (h1:s.o - 1<=o') (h2:o'<=40):RS E ((w.setCell ⟨E.b,2,none⟩ (.int .i64 o')).setCell ⟨E.b,1,none⟩ (.int .i64 ((E.ts.length - s.l.length:Nat)+1:Int))) { s.tl with o:=o' }:=
 RS.step h hk o' h1 h2 ((h.blk.ny 2 _).ny 1 _) (vK (vK (Gr.refl w) 2 _) 1 _)
def agK (E:Env) (s:St) (n:Nat) (w:World) (e:Ending) (w':World):Prop:=e= .returned (.int .i64 (n:Int))/\RS E w' s/\Gr (·=E.b) w w'
theorem aA (E:Env) (w:World) (s:St) (h:RS E w s) (m:List UInt8) (str:ByteArray) (hs:str=bs m) (hm:m≠[]:=by simp):
  Calls Tryz.prog 25 #[.pointer (some ⟨E.b,0,none⟩),.string str] w (agK E (aj m s) (hd s.l).2 w):=by
 subst hs
 obtain ⟨j,hj,hjl,k0,k1,k2,k3,k4,q0,q1,q2,q3,fz⟩:=h.here
 have hlt:=h.lt
 have hgl:=h.iy
 have hll:=h.len
 have hne:=h.ne
 have H:=af h
 have HJ:=af hj
 obtain ⟨B,hB⟩:=aS E.b
 obtain ⟨G,hG⟩:=aS E.g
 obtain ⟨N,hN⟩:=aS E.ts.length
 obtain ⟨C,hC⟩:=aS E.c
 obtain ⟨so,hso⟩:=aS s.o
 obtain ⟨se,hse⟩:=aS s.e
 obtain ⟨sp,hsp⟩:=aS s.p
 obtain ⟨tk,htk⟩:=aS (hd s.l).1.k
 obtain ⟨tt,rP⟩:=aS (hd s.l).1.t
 obtain ⟨tn,htn⟩:=aS (hd s.l).1.n
 obtain ⟨tp,htp⟩:=aS (hd s.l).2
 rw [hB] at k0 k1 k2 k3 k4 fz hlt
 rw [hG,hN,hC] at k0
 rw [hso] at k2
 rw [hse] at k3
 rw [hsp] at k4
 rw [hG,htk] at q0
 rw [hG,rP] at q1
 rw [hG,htn] at q2
 rw [hG,htp] at q3
 rw [hG] at hgl
 rw [hN] at hjl hll
 rw [hG,hB] at hne
 have oG:=af hB
 have Nq:=af hG
 have Nr:=af hN
 have Jo:=af hC
 have yB:=af hso
 have j0:(0:Int)<=(j:Int):=by omega
 have j1:(j:Int) < (N:Int):=by omega
 have j2:(j:Int)<=8193:=by omega
 rw [hB]
 have hol:=h.olo
 have hoh:=h.ohi
 rw [hso,hN] at hol
 rw [hso] at hoh
 have o0:(-8193:Int)<=so:=by omega
 have HM:=af hm
 have hik:=fun hi:bX m s=true=>xz hi hm
 rw [htp]
 clear h hm hj hjl hll hB hG hN hC hso hse hsp htk rP htn htp
 cases hi:bX m s with
 |false=>
  have HI:=af hi
  rw [show aj m s=fE 5 s from by unfold aj;rw [hi];rfl]
  clear hi hik hol hoh fz
  go_enter Tryz.func25,Tryz.ntmps25
  go_wp2
  refine wp_region_held_drew (S:=fun V=>Below w.heap.size w V) (by kernel_rfl) (Below.refl _ w).drew (fun hS0=>?_)
  generalize w.drew=W1 at hS0 |-
  refine aQ 0 hS0 ?_
  refine aQ 1 hS0 ?_
  refine aQ 2 hS0 ?_
  refine jS 3 hS0 ?_ (fun w' hS=>(hS.cell (p:=⟨B,0,none⟩) hlt).trans k0)
  refine aQ 4 hS0 ?_
  refine aQ 5 hS0 ?_
  refine aQ 6 hS0 ?_
  refine jS 7 hS0 ?_ (fun w' hS=>(hS.cell (p:=⟨B,1,none⟩) hlt).trans k1)
  refine aQ 8 hS0 ?_
  refine aQ 9 hS0 ?_
  refine jS 10 hS0 ?_ (fun w' hS=>(hS.cell (p:=⟨G,_,none⟩) hgl).trans q3)
  refine aQ 11 hS0 ?_
  refine eZ ?_
  have HB1:=af hS0
  have HR1:=af (H.out.below hS0)
  clear hS0 k0 k1 k2 k3 k4 q0 q1 q2 q3
  go_wp2_with (first
   |(go_at_call 27;have hc:=au E _ s HR1.out m _ rfl HM.out;rw [oG.out] at hc;refine hc.mono ?_;clear hc;rintro e w2 ⟨rfl,hb2⟩;rw [HI.out];have HR2:=af (HR1.out.below hb2);have HB2:=af hb2;obtain ⟨j',hj',_,e0,e1,e2,e3,e4,_,_,_,_,ef⟩:=(HR1.out.below hb2).here;rw [HJ.out] at hj';subst hj';rw [oG.out] at e0 e1 e2 e3 e4 ef;rw [yB.out] at e2;rw [Nq.out,Nr.out,Jo.out] at e0;have el:=(HR1.out.below hb2).lt;rw [oG.out] at el;clear hb2 ef)
   |(go_at_call 47;have _g:=HR2;have hc:=kV E _ s HR2.out 5;rw [oG.out] at hc;refine hc.mono ?_;clear hc;rintro e w3 ⟨rfl,gZ,hg3⟩;have HR3:=af gZ;have U5:=af hg3;clear gZ hg3))
  go_ret
  exact ⟨rfl,HR3.out,(Gr.of_below HB1.out).trans ((Gr.of_below HB2.out).trans U5.out)⟩
 |true=>
  have HI:=af hi
  obtain ⟨hz,_,hkk⟩:=hik hi
  have HKK:=af hkk
  clear hik hz hkk fz
  by_cases h0:m=[40]
  ·subst h0
   rw [show bs [40]=⟨#[40]⟩ from rfl]
   by_cases Dn:40<=so
   ·have d40:decide ((40:Int)<=so)=true:=decide_eq_true Dn
    rw [show aj [40] s=fE 3 s from by unfold aj;rw [hi,if_pos rfl,if_pos (by decide),if_pos (by rw [yB.out];exact Dn)]]
    clear hi
    go_enter Tryz.func25,Tryz.ntmps25
    go_wp2
    refine wp_region_held_drew (S:=fun V=>Below w.heap.size w V) (by kernel_rfl) (Below.refl _ w).drew (fun hS0=>?_)
    generalize w.drew=W1 at hS0 |-
    refine aQ 0 hS0 ?_
    refine aQ 1 hS0 ?_
    refine aQ 2 hS0 ?_
    refine jS 3 hS0 ?_ (fun w' hS=>(hS.cell (p:=⟨B,0,none⟩) hlt).trans k0)
    refine aQ 4 hS0 ?_
    refine aQ 5 hS0 ?_
    refine aQ 6 hS0 ?_
    refine jS 7 hS0 ?_ (fun w' hS=>(hS.cell (p:=⟨B,1,none⟩) hlt).trans k1)
    refine aQ 8 hS0 ?_
    refine aQ 9 hS0 ?_
    refine jS 10 hS0 ?_ (fun w' hS=>(hS.cell (p:=⟨G,_,none⟩) hgl).trans q3)
    refine aQ 11 hS0 ?_
    refine eZ ?_
    have HB1:=af hS0
    have HR1:=af (H.out.below hS0)
    clear hS0 k0 k1 k2 k3 k4 q0 q1 q2 q3
    go_wp2_with (first
     |(go_at_call 27;have hc:=au E _ s HR1.out [40] _ rfl HM.out;rw [oG.out] at hc;refine hc.mono ?_;clear hc;rintro e w2 ⟨rfl,hb2⟩;rw [HI.out];have HR2:=af (HR1.out.below hb2);have HB2:=af hb2;obtain ⟨j',hj',_,e0,e1,e2,e3,e4,_,_,_,_,ef⟩:=(HR1.out.below hb2).here;rw [HJ.out] at hj';subst hj';rw [oG.out] at e0 e1 e2 e3 e4 ef;rw [yB.out] at e2;rw [Nq.out,Nr.out,Jo.out] at e0;have el:=(HR1.out.below hb2).lt;rw [oG.out] at el;clear hb2 ef)
     |(go_at_call 47;have _g:=HR2;have hc:=kV E _ s HR2.out 3;rw [oG.out] at hc;refine hc.mono ?_;clear hc;rintro e w3 ⟨rfl,gZ,hg3⟩;have HR3:=af gZ;have U5:=af hg3;clear gZ hg3))
    go_ret
    exact ⟨rfl,HR3.out,(Gr.of_below HB1.out).trans ((Gr.of_below HB2.out).trans U5.out)⟩
   ·have d40:decide ((40:Int)<=so)=false:=decide_eq_false Dn
    have o2:so<=39:=by omega
    rw [show aj [40] s={ s.tl with o:=so+1 } from by unfold aj;rw [hi,if_pos rfl,if_pos (by decide),if_neg (by rw [yB.out];exact Dn),yB.out]]
    clear hi Dn
    go_enter Tryz.func25,Tryz.ntmps25
    go_wp2
    refine wp_region_held_drew (S:=fun V=>Below w.heap.size w V) (by kernel_rfl) (Below.refl _ w).drew (fun hS0=>?_)
    generalize w.drew=W1 at hS0 |-
    refine aQ 0 hS0 ?_
    refine aQ 1 hS0 ?_
    refine aQ 2 hS0 ?_
    refine jS 3 hS0 ?_ (fun w' hS=>(hS.cell (p:=⟨B,0,none⟩) hlt).trans k0)
    refine aQ 4 hS0 ?_
    refine aQ 5 hS0 ?_
    refine aQ 6 hS0 ?_
    refine jS 7 hS0 ?_ (fun w' hS=>(hS.cell (p:=⟨B,1,none⟩) hlt).trans k1)
    refine aQ 8 hS0 ?_
    refine aQ 9 hS0 ?_
    refine jS 10 hS0 ?_ (fun w' hS=>(hS.cell (p:=⟨G,_,none⟩) hgl).trans q3)
    refine aQ 11 hS0 ?_
    refine eZ ?_
    have HB1:=af hS0
    have HR1:=af (H.out.below hS0)
    clear hS0 k0 k1 k2 k3 k4 q0 q1 q2 q3
    go_wp2_with (first
     |(go_at_call 27;have hc:=au E _ s HR1.out [40] _ rfl HM.out;rw [oG.out] at hc;refine hc.mono ?_;clear hc;rintro e w2 ⟨rfl,hb2⟩;rw [HI.out];have HR2:=af (HR1.out.below hb2);have HB2:=af hb2;obtain ⟨j',hj',_,e0,e1,e2,e3,e4,_,_,_,_,ef⟩:=(HR1.out.below hb2).here;rw [HJ.out] at hj';subst hj';rw [oG.out] at e0 e1 e2 e3 e4 ef;rw [yB.out] at e2;rw [Nq.out,Nr.out,Jo.out] at e0;have el:=(HR1.out.below hb2).lt;rw [oG.out] at el;have Am:=ef 1;have U6:=ef 2;clear hb2 ef))
    have hres:=uV HR2.out HKK.out (so+1) (by rw [yB.out];omega) (by omega)
    rw [oG.out,HJ.out] at hres
    go_ret
    exact ⟨rfl,hres,by rw [oG.out];exact vK (vK ((Gr.of_below HB1.out).trans (Gr.of_below HB2.out)) 2 _) 1 _⟩
  by_cases h1:m=[91]
  ·subst h1
   rw [show bs [91]=⟨#[91]⟩ from rfl]
   by_cases Dn:40<=so
   ·have d40:decide ((40:Int)<=so)=true:=decide_eq_true Dn
    rw [show aj [91] s=fE 3 s from by unfold aj;rw [hi,if_pos rfl,if_pos (by decide),if_pos (by rw [yB.out];exact Dn)]]
    clear hi
    go_enter Tryz.func25,Tryz.ntmps25
    go_wp2
    refine wp_region_held_drew (S:=fun V=>Below w.heap.size w V) (by kernel_rfl) (Below.refl _ w).drew (fun hS0=>?_)
    generalize w.drew=W1 at hS0 |-
    refine aQ 0 hS0 ?_
    refine aQ 1 hS0 ?_
    refine aQ 2 hS0 ?_
    refine jS 3 hS0 ?_ (fun w' hS=>(hS.cell (p:=⟨B,0,none⟩) hlt).trans k0)
    refine aQ 4 hS0 ?_
    refine aQ 5 hS0 ?_
    refine aQ 6 hS0 ?_
    refine jS 7 hS0 ?_ (fun w' hS=>(hS.cell (p:=⟨B,1,none⟩) hlt).trans k1)
    refine aQ 8 hS0 ?_
    refine aQ 9 hS0 ?_
    refine jS 10 hS0 ?_ (fun w' hS=>(hS.cell (p:=⟨G,_,none⟩) hgl).trans q3)
    refine aQ 11 hS0 ?_
    refine eZ ?_
    have HB1:=af hS0
    have HR1:=af (H.out.below hS0)
    clear hS0 k0 k1 k2 k3 k4 q0 q1 q2 q3
    go_wp2_with (first
     |(go_at_call 27;have hc:=au E _ s HR1.out [91] _ rfl HM.out;rw [oG.out] at hc;refine hc.mono ?_;clear hc;rintro e w2 ⟨rfl,hb2⟩;rw [HI.out];have HR2:=af (HR1.out.below hb2);have HB2:=af hb2;obtain ⟨j',hj',_,e0,e1,e2,e3,e4,_,_,_,_,ef⟩:=(HR1.out.below hb2).here;rw [HJ.out] at hj';subst hj';rw [oG.out] at e0 e1 e2 e3 e4 ef;rw [yB.out] at e2;rw [Nq.out,Nr.out,Jo.out] at e0;have el:=(HR1.out.below hb2).lt;rw [oG.out] at el;clear hb2 ef)
     |(go_at_call 47;have _g:=HR2;have hc:=kV E _ s HR2.out 3;rw [oG.out] at hc;refine hc.mono ?_;clear hc;rintro e w3 ⟨rfl,gZ,hg3⟩;have HR3:=af gZ;have U5:=af hg3;clear gZ hg3))
    go_ret
    exact ⟨rfl,HR3.out,(Gr.of_below HB1.out).trans ((Gr.of_below HB2.out).trans U5.out)⟩
   ·have d40:decide ((40:Int)<=so)=false:=decide_eq_false Dn
    have o2:so<=39:=by omega
    rw [show aj [91] s={ s.tl with o:=so+1 } from by unfold aj;rw [hi,if_pos rfl,if_pos (by decide),if_neg (by rw [yB.out];exact Dn),yB.out]]
    clear hi Dn
    go_enter Tryz.func25,Tryz.ntmps25
    go_wp2
    refine wp_region_held_drew (S:=fun V=>Below w.heap.size w V) (by kernel_rfl) (Below.refl _ w).drew (fun hS0=>?_)
    generalize w.drew=W1 at hS0 |-
    refine aQ 0 hS0 ?_
    refine aQ 1 hS0 ?_
    refine aQ 2 hS0 ?_
    refine jS 3 hS0 ?_ (fun w' hS=>(hS.cell (p:=⟨B,0,none⟩) hlt).trans k0)
    refine aQ 4 hS0 ?_
    refine aQ 5 hS0 ?_
    refine aQ 6 hS0 ?_
    refine jS 7 hS0 ?_ (fun w' hS=>(hS.cell (p:=⟨B,1,none⟩) hlt).trans k1)
    refine aQ 8 hS0 ?_
    refine aQ 9 hS0 ?_
    refine jS 10 hS0 ?_ (fun w' hS=>(hS.cell (p:=⟨G,_,none⟩) hgl).trans q3)
    refine aQ 11 hS0 ?_
    refine eZ ?_
    have HB1:=af hS0
    have HR1:=af (H.out.below hS0)
    clear hS0 k0 k1 k2 k3 k4 q0 q1 q2 q3
    go_wp2_with (first
     |(go_at_call 27;have hc:=au E _ s HR1.out [91] _ rfl HM.out;rw [oG.out] at hc;refine hc.mono ?_;clear hc;rintro e w2 ⟨rfl,hb2⟩;rw [HI.out];have HR2:=af (HR1.out.below hb2);have HB2:=af hb2;obtain ⟨j',hj',_,e0,e1,e2,e3,e4,_,_,_,_,ef⟩:=(HR1.out.below hb2).here;rw [HJ.out] at hj';subst hj';rw [oG.out] at e0 e1 e2 e3 e4 ef;rw [yB.out] at e2;rw [Nq.out,Nr.out,Jo.out] at e0;have el:=(HR1.out.below hb2).lt;rw [oG.out] at el;have Am:=ef 1;have U6:=ef 2;clear hb2 ef))
    have hres:=uV HR2.out HKK.out (so+1) (by rw [yB.out];omega) (by omega)
    rw [oG.out,HJ.out] at hres
    go_ret
    exact ⟨rfl,hres,by rw [oG.out];exact vK (vK ((Gr.of_below HB1.out).trans (Gr.of_below HB2.out)) 2 _) 1 _⟩
  by_cases h2:m=[123]
  ·subst h2
   rw [show bs [123]=⟨#[123]⟩ from rfl]
   by_cases Dn:40<=so
   ·have d40:decide ((40:Int)<=so)=true:=decide_eq_true Dn
    rw [show aj [123] s=fE 3 s from by unfold aj;rw [hi,if_pos rfl,if_pos (by decide),if_pos (by rw [yB.out];exact Dn)]]
    clear hi
    go_enter Tryz.func25,Tryz.ntmps25
    go_wp2
    refine wp_region_held_drew (S:=fun V=>Below w.heap.size w V) (by kernel_rfl) (Below.refl _ w).drew (fun hS0=>?_)
    generalize w.drew=W1 at hS0 |-
    refine aQ 0 hS0 ?_
    refine aQ 1 hS0 ?_
    refine aQ 2 hS0 ?_
    refine jS 3 hS0 ?_ (fun w' hS=>(hS.cell (p:=⟨B,0,none⟩) hlt).trans k0)
    refine aQ 4 hS0 ?_
    refine aQ 5 hS0 ?_
    refine aQ 6 hS0 ?_
    refine jS 7 hS0 ?_ (fun w' hS=>(hS.cell (p:=⟨B,1,none⟩) hlt).trans k1)
    refine aQ 8 hS0 ?_
    refine aQ 9 hS0 ?_
    refine jS 10 hS0 ?_ (fun w' hS=>(hS.cell (p:=⟨G,_,none⟩) hgl).trans q3)
    refine aQ 11 hS0 ?_
    refine eZ ?_
    have HB1:=af hS0
    have HR1:=af (H.out.below hS0)
    clear hS0 k0 k1 k2 k3 k4 q0 q1 q2 q3
    go_wp2_with (first
     |(go_at_call 27;have hc:=au E _ s HR1.out [123] _ rfl HM.out;rw [oG.out] at hc;refine hc.mono ?_;clear hc;rintro e w2 ⟨rfl,hb2⟩;rw [HI.out];have HR2:=af (HR1.out.below hb2);have HB2:=af hb2;obtain ⟨j',hj',_,e0,e1,e2,e3,e4,_,_,_,_,ef⟩:=(HR1.out.below hb2).here;rw [HJ.out] at hj';subst hj';rw [oG.out] at e0 e1 e2 e3 e4 ef;rw [yB.out] at e2;rw [Nq.out,Nr.out,Jo.out] at e0;have el:=(HR1.out.below hb2).lt;rw [oG.out] at el;clear hb2 ef)
     |(go_at_call 47;have _g:=HR2;have hc:=kV E _ s HR2.out 3;rw [oG.out] at hc;refine hc.mono ?_;clear hc;rintro e w3 ⟨rfl,gZ,hg3⟩;have HR3:=af gZ;have U5:=af hg3;clear gZ hg3))
    go_ret
    exact ⟨rfl,HR3.out,(Gr.of_below HB1.out).trans ((Gr.of_below HB2.out).trans U5.out)⟩
   ·have d40:decide ((40:Int)<=so)=false:=decide_eq_false Dn
    have o2:so<=39:=by omega
    rw [show aj [123] s={ s.tl with o:=so+1 } from by unfold aj;rw [hi,if_pos rfl,if_pos (by decide),if_neg (by rw [yB.out];exact Dn),yB.out]]
    clear hi Dn
    go_enter Tryz.func25,Tryz.ntmps25
    go_wp2
    refine wp_region_held_drew (S:=fun V=>Below w.heap.size w V) (by kernel_rfl) (Below.refl _ w).drew (fun hS0=>?_)
    generalize w.drew=W1 at hS0 |-
    refine aQ 0 hS0 ?_
    refine aQ 1 hS0 ?_
    refine aQ 2 hS0 ?_
    refine jS 3 hS0 ?_ (fun w' hS=>(hS.cell (p:=⟨B,0,none⟩) hlt).trans k0)
    refine aQ 4 hS0 ?_
    refine aQ 5 hS0 ?_
    refine aQ 6 hS0 ?_
    refine jS 7 hS0 ?_ (fun w' hS=>(hS.cell (p:=⟨B,1,none⟩) hlt).trans k1)
    refine aQ 8 hS0 ?_
    refine aQ 9 hS0 ?_
    refine jS 10 hS0 ?_ (fun w' hS=>(hS.cell (p:=⟨G,_,none⟩) hgl).trans q3)
    refine aQ 11 hS0 ?_
    refine eZ ?_
    have HB1:=af hS0
    have HR1:=af (H.out.below hS0)
    clear hS0 k0 k1 k2 k3 k4 q0 q1 q2 q3
    go_wp2_with (first
     |(go_at_call 27;have hc:=au E _ s HR1.out [123] _ rfl HM.out;rw [oG.out] at hc;refine hc.mono ?_;clear hc;rintro e w2 ⟨rfl,hb2⟩;rw [HI.out];have HR2:=af (HR1.out.below hb2);have HB2:=af hb2;obtain ⟨j',hj',_,e0,e1,e2,e3,e4,_,_,_,_,ef⟩:=(HR1.out.below hb2).here;rw [HJ.out] at hj';subst hj';rw [oG.out] at e0 e1 e2 e3 e4 ef;rw [yB.out] at e2;rw [Nq.out,Nr.out,Jo.out] at e0;have el:=(HR1.out.below hb2).lt;rw [oG.out] at el;have Am:=ef 1;have U6:=ef 2;clear hb2 ef))
    have hres:=uV HR2.out HKK.out (so+1) (by rw [yB.out];omega) (by omega)
    rw [oG.out,HJ.out] at hres
    go_ret
    exact ⟨rfl,hres,by rw [oG.out];exact vK (vK ((Gr.of_below HB1.out).trans (Gr.of_below HB2.out)) 2 _) 1 _⟩
  by_cases h3:m=[41]
  ·subst h3
   rw [show bs [41]=⟨#[41]⟩ from rfl]
   rw [show aj [41] s={ s.tl with o:=so - 1 } from by unfold aj;rw [hi,if_pos rfl,if_neg (by decide),if_pos (by decide),yB.out]]
   clear hi
   go_enter Tryz.func25,Tryz.ntmps25
   go_wp2
   refine wp_region_held_drew (S:=fun V=>Below w.heap.size w V) (by kernel_rfl) (Below.refl _ w).drew (fun hS0=>?_)
   generalize w.drew=W1 at hS0 |-
   refine aQ 0 hS0 ?_
   refine aQ 1 hS0 ?_
   refine aQ 2 hS0 ?_
   refine jS 3 hS0 ?_ (fun w' hS=>(hS.cell (p:=⟨B,0,none⟩) hlt).trans k0)
   refine aQ 4 hS0 ?_
   refine aQ 5 hS0 ?_
   refine aQ 6 hS0 ?_
   refine jS 7 hS0 ?_ (fun w' hS=>(hS.cell (p:=⟨B,1,none⟩) hlt).trans k1)
   refine aQ 8 hS0 ?_
   refine aQ 9 hS0 ?_
   refine jS 10 hS0 ?_ (fun w' hS=>(hS.cell (p:=⟨G,_,none⟩) hgl).trans q3)
   refine aQ 11 hS0 ?_
   refine eZ ?_
   have HB1:=af hS0
   have HR1:=af (H.out.below hS0)
   clear hS0 k0 k1 k2 k3 k4 q0 q1 q2 q3
   go_wp2_with (first
    |(go_at_call 27;have hc:=au E _ s HR1.out [41] _ rfl HM.out;rw [oG.out] at hc;refine hc.mono ?_;clear hc;rintro e w2 ⟨rfl,hb2⟩;rw [HI.out];have HR2:=af (HR1.out.below hb2);have HB2:=af hb2;obtain ⟨j',hj',_,e0,e1,e2,e3,e4,_,_,_,_,ef⟩:=(HR1.out.below hb2).here;rw [HJ.out] at hj';subst hj';rw [oG.out] at e0 e1 e2 e3 e4 ef;rw [yB.out] at e2;rw [Nq.out,Nr.out,Jo.out] at e0;have el:=(HR1.out.below hb2).lt;rw [oG.out] at el;have Am:=ef 1;have U6:=ef 2;clear hb2 ef))
   have hres:=uV HR2.out HKK.out (so - 1) (by rw [yB.out];omega) (by omega)
   rw [oG.out,HJ.out] at hres
   go_ret
   exact ⟨rfl,hres,by rw [oG.out];exact vK (vK ((Gr.of_below HB1.out).trans (Gr.of_below HB2.out)) 2 _) 1 _⟩
  by_cases h4:m=[93]
  ·subst h4
   rw [show bs [93]=⟨#[93]⟩ from rfl]
   rw [show aj [93] s={ s.tl with o:=so - 1 } from by unfold aj;rw [hi,if_pos rfl,if_neg (by decide),if_pos (by decide),yB.out]]
   clear hi
   go_enter Tryz.func25,Tryz.ntmps25
   go_wp2
   refine wp_region_held_drew (S:=fun V=>Below w.heap.size w V) (by kernel_rfl) (Below.refl _ w).drew (fun hS0=>?_)
   generalize w.drew=W1 at hS0 |-
   refine aQ 0 hS0 ?_
   refine aQ 1 hS0 ?_
   refine aQ 2 hS0 ?_
   refine jS 3 hS0 ?_ (fun w' hS=>(hS.cell (p:=⟨B,0,none⟩) hlt).trans k0)
   refine aQ 4 hS0 ?_
   refine aQ 5 hS0 ?_
   refine aQ 6 hS0 ?_
   refine jS 7 hS0 ?_ (fun w' hS=>(hS.cell (p:=⟨B,1,none⟩) hlt).trans k1)
   refine aQ 8 hS0 ?_
   refine aQ 9 hS0 ?_
   refine jS 10 hS0 ?_ (fun w' hS=>(hS.cell (p:=⟨G,_,none⟩) hgl).trans q3)
   refine aQ 11 hS0 ?_
   refine eZ ?_
   have HB1:=af hS0
   have HR1:=af (H.out.below hS0)
   clear hS0 k0 k1 k2 k3 k4 q0 q1 q2 q3
   go_wp2_with (first
    |(go_at_call 27;have hc:=au E _ s HR1.out [93] _ rfl HM.out;rw [oG.out] at hc;refine hc.mono ?_;clear hc;rintro e w2 ⟨rfl,hb2⟩;rw [HI.out];have HR2:=af (HR1.out.below hb2);have HB2:=af hb2;obtain ⟨j',hj',_,e0,e1,e2,e3,e4,_,_,_,_,ef⟩:=(HR1.out.below hb2).here;rw [HJ.out] at hj';subst hj';rw [oG.out] at e0 e1 e2 e3 e4 ef;rw [yB.out] at e2;rw [Nq.out,Nr.out,Jo.out] at e0;have el:=(HR1.out.below hb2).lt;rw [oG.out] at el;have Am:=ef 1;have U6:=ef 2;clear hb2 ef))
   have hres:=uV HR2.out HKK.out (so - 1) (by rw [yB.out];omega) (by omega)
   rw [oG.out,HJ.out] at hres
   go_ret
   exact ⟨rfl,hres,by rw [oG.out];exact vK (vK ((Gr.of_below HB1.out).trans (Gr.of_below HB2.out)) 2 _) 1 _⟩
  by_cases h5:m=[125]
  ·subst h5
   rw [show bs [125]=⟨#[125]⟩ from rfl]
   rw [show aj [125] s={ s.tl with o:=so - 1 } from by unfold aj;rw [hi,if_pos rfl,if_neg (by decide),if_pos (by decide),yB.out]]
   clear hi
   go_enter Tryz.func25,Tryz.ntmps25
   go_wp2
   refine wp_region_held_drew (S:=fun V=>Below w.heap.size w V) (by kernel_rfl) (Below.refl _ w).drew (fun hS0=>?_)
   generalize w.drew=W1 at hS0 |-
   refine aQ 0 hS0 ?_
   refine aQ 1 hS0 ?_
   refine aQ 2 hS0 ?_
   refine jS 3 hS0 ?_ (fun w' hS=>(hS.cell (p:=⟨B,0,none⟩) hlt).trans k0)
   refine aQ 4 hS0 ?_
   refine aQ 5 hS0 ?_
   refine aQ 6 hS0 ?_
   refine jS 7 hS0 ?_ (fun w' hS=>(hS.cell (p:=⟨B,1,none⟩) hlt).trans k1)
   refine aQ 8 hS0 ?_
   refine aQ 9 hS0 ?_
   refine jS 10 hS0 ?_ (fun w' hS=>(hS.cell (p:=⟨G,_,none⟩) hgl).trans q3)
   refine aQ 11 hS0 ?_
   refine eZ ?_
   have HB1:=af hS0
   have HR1:=af (H.out.below hS0)
   clear hS0 k0 k1 k2 k3 k4 q0 q1 q2 q3
   go_wp2_with (first
    |(go_at_call 27;have hc:=au E _ s HR1.out [125] _ rfl HM.out;rw [oG.out] at hc;refine hc.mono ?_;clear hc;rintro e w2 ⟨rfl,hb2⟩;rw [HI.out];have HR2:=af (HR1.out.below hb2);have HB2:=af hb2;obtain ⟨j',hj',_,e0,e1,e2,e3,e4,_,_,_,_,ef⟩:=(HR1.out.below hb2).here;rw [HJ.out] at hj';subst hj';rw [oG.out] at e0 e1 e2 e3 e4 ef;rw [yB.out] at e2;rw [Nq.out,Nr.out,Jo.out] at e0;have el:=(HR1.out.below hb2).lt;rw [oG.out] at el;have Am:=ef 1;have U6:=ef 2;clear hb2 ef))
   have hres:=uV HR2.out HKK.out (so - 1) (by rw [yB.out];omega) (by omega)
   rw [oG.out,HJ.out] at hres
   go_ret
   exact ⟨rfl,hres,by rw [oG.out];exact vK (vK ((Gr.of_below HB1.out).trans (Gr.of_below HB2.out)) 2 _) 1 _⟩
  have n0':((bs m).toList == [40])=false:=by rw [iC];simpa using h0
  have n1':((bs m).toList == [91])=false:=by rw [iC];simpa using h1
  have n2':((bs m).toList == [123])=false:=by rw [iC];simpa using h2
  have n3':((bs m).toList == [41])=false:=by rw [iC];simpa using h3
  have n4':((bs m).toList == [93])=false:=by rw [iC];simpa using h4
  have n5':((bs m).toList == [125])=false:=by rw [iC];simpa using h5
  rw [show aj m s=s.tl from by unfold aj;rw [hi,if_pos rfl,if_neg (by simp [opens,h0,h1,h2]),if_neg (by simp [closes,h3,h4,h5])]]
  clear hi h0 h1 h2 h3 h4 h5
  go_enter Tryz.func25,Tryz.ntmps25
  go_wp2
  refine wp_region_held_drew (S:=fun V=>Below w.heap.size w V) (by kernel_rfl) (Below.refl _ w).drew (fun hS0=>?_)
  generalize w.drew=W1 at hS0 |-
  refine aQ 0 hS0 ?_
  refine aQ 1 hS0 ?_
  refine aQ 2 hS0 ?_
  refine jS 3 hS0 ?_ (fun w' hS=>(hS.cell (p:=⟨B,0,none⟩) hlt).trans k0)
  refine aQ 4 hS0 ?_
  refine aQ 5 hS0 ?_
  refine aQ 6 hS0 ?_
  refine jS 7 hS0 ?_ (fun w' hS=>(hS.cell (p:=⟨B,1,none⟩) hlt).trans k1)
  refine aQ 8 hS0 ?_
  refine aQ 9 hS0 ?_
  refine jS 10 hS0 ?_ (fun w' hS=>(hS.cell (p:=⟨G,_,none⟩) hgl).trans q3)
  refine aQ 11 hS0 ?_
  refine eZ ?_
  have HB1:=af hS0
  have HR1:=af (H.out.below hS0)
  clear hS0 k0 k1 k2 k3 k4 q0 q1 q2 q3
  go_wp2_with (first
   |(go_at_call 27;have hc:=au E _ s HR1.out m _ rfl HM.out;rw [oG.out] at hc;refine hc.mono ?_;clear hc;rintro e w2 ⟨rfl,hb2⟩;rw [HI.out];have HR2:=af (HR1.out.below hb2);have HB2:=af hb2;obtain ⟨j',hj',_,e0,e1,e2,e3,e4,_,_,_,_,ef⟩:=(HR1.out.below hb2).here;rw [HJ.out] at hj';subst hj';rw [oG.out] at e0 e1 e2 e3 e4 ef;rw [yB.out] at e2;rw [Nq.out,Nr.out,Jo.out] at e0;have el:=(HR1.out.below hb2).lt;rw [oG.out] at el;have Am:=ef 1;clear hb2 ef))
  have hres:=ic HR2.out HKK.out
  rw [oG.out,HJ.out] at hres
  go_ret
  exact ⟨rfl,hres,by rw [oG.out];exact vK ((Gr.of_below HB1.out).trans (Gr.of_below HB2.out)) 1 _⟩
def adi (E:Env) (s:St) (t:List UInt8) (n:Nat) (w:World) (e:Ending) (w':World):Prop:=e= .returned (.tuple #[.string (bs t),.int .i64 (n:Int)])/\RS E w' s/\Gr (·=E.b) w w'
theorem Ea {s:St} (h:nE s=true):(hd s.l).1.k≠0:=by
 unfold nE at h
 simp only [Bool.and_eq_true,decide_eq_true_eq] at h
 cases hl:s.l with
 |nil=>rw [hl] at h;exact absurd h.2 (by decide)
 |cons x r=>
  rw [hl,yx] at h
  intro h0
  have h1:x.1.k=0:=h0
  omega
theorem dR (E:Env) (w:World) (s:St) (h:RS E w s):
  Calls Tryz.prog 26 #[.pointer (some ⟨E.b,0,none⟩)] w (adi E (aG s) (ay s) (hd s.l).2 w):=by
 obtain ⟨j,hj,hjl,k0,k1,k2,k3,k4,q0,q1,q2,q3,fz⟩:=h.here
 have hlt:=h.lt
 have hgl:=h.iy
 have hll:=h.len
 have hne:=h.ne
 have H:=af h
 have HJ:=af hj
 obtain ⟨B,hB⟩:=aS E.b
 obtain ⟨G,hG⟩:=aS E.g
 obtain ⟨N,hN⟩:=aS E.ts.length
 obtain ⟨C,hC⟩:=aS E.c
 obtain ⟨so,hso⟩:=aS s.o
 obtain ⟨se,hse⟩:=aS s.e
 obtain ⟨sp,hsp⟩:=aS s.p
 obtain ⟨tk,htk⟩:=aS (hd s.l).1.k
 obtain ⟨tt,rP⟩:=aS (hd s.l).1.t
 obtain ⟨tn,htn⟩:=aS (hd s.l).1.n
 obtain ⟨tp,htp⟩:=aS (hd s.l).2
 rw [hB] at k0 k1 k2 k3 k4 fz hlt
 rw [hG,hN,hC] at k0
 rw [hso] at k2
 rw [hse] at k3
 rw [hsp] at k4
 rw [hG,htk] at q0
 rw [hG,rP] at q1
 rw [hG,htn] at q2
 rw [hG,htp] at q3
 rw [hG] at hgl
 rw [hN] at hjl hll
 rw [hG,hB] at hne
 have oG:=af hB
 have Nq:=af hG
 have Nr:=af hN
 have Jo:=af hC
 have yB:=af hso
 have Sq:=af rP
 have j0:(0:Int)<=(j:Int):=by omega
 have j1:(j:Int) < (N:Int):=by omega
 have j2:(j:Int)<=8193:=by omega
 rw [hB]
 have hol:=h.olo
 have hoh:=h.ohi
 rw [hso,hN] at hol
 rw [hso] at hoh
 have hik:=fun hi:nE s=true=>Ea hi
 rw [htp]
 have HNB:=af (show w.heap.size≠E.b from by rw [hB];omega)
 clear h hj hjl hll hB hG hN hC hso hse hsp htk rP htn htp
 cases hi:nE s with
 |false=>
  have HI:=af hi
  rw [show aG s=fE 5 s from by unfold aG;rw [hi];rfl,show ay s=[] from by unfold ay;rw [hi];rfl]
  clear hi hik hol hoh fz
  go_enter Tryz.func26,Tryz.ntmps26
  go_wp2
  refine wp_region_held_drew (S:=fun V=>Below w.heap.size w V) (by kernel_rfl) (Below.refl _ w).drew (fun hS0=>?_)
  refine aQ 0 hS0 ?_
  refine aQ 1 hS0 ?_
  refine aQ 2 hS0 ?_
  refine jS 3 hS0 ?_ (fun w' hS=>(hS.cell (p:=⟨B,0,none⟩) hlt).trans k0)
  refine aQ 4 hS0 ?_
  refine aQ 5 hS0 ?_
  refine aQ 6 hS0 ?_
  refine jS 7 hS0 ?_ (fun w' hS=>(hS.cell (p:=⟨B,1,none⟩) hlt).trans k1)
  refine aQ 8 hS0 ?_
  refine oU 9 hS0 ?_ (he:=fun w' hS=>by (have y0:=(hS.cell (p:=⟨G,_,none⟩) hgl).trans q0;have y1:=(hS.cell (p:=⟨G,_,none⟩) hgl).trans q1;have y2:=(hS.cell (p:=⟨G,_,none⟩) hgl).trans q2;have y3:=(hS.cell (p:=⟨G,_,none⟩) hgl).trans q3;unfold execOp;go_simp;first|done|exact rfl))
  refine oI 10 rfl (aY (v:=.pointer (some ⟨w.heap.size,0,none⟩)) (w':=(w.drew.alloc (.cells #[.int .i64 0,.string ⟨#[]⟩,.int .i64 0,.int .i64 0] 53))) (by unfold execOp;go_simp) (And.intro ((Below.refl _ w).drew.alloc (by simp) _) ?_))
  simp only [Act.put,gA,gB,gC,gD,gE,gF]
  obtain ⟨V,qg⟩:=aS (((((w.drew.alloc (.cells #[.int .i64 0,.string ⟨#[]⟩,.int .i64 0,.int .i64 0] 53)).setCell ⟨w.heap.size,0,none⟩ (.int .i64 tk)).setCell ⟨w.heap.size,1,none⟩ (.string (bs tt))).setCell ⟨w.heap.size,2,none⟩ (.int .i64 tn)).setCell ⟨w.heap.size,3,none⟩ (.int .i64 tp))
  have QM:Below w.heap.size w V:=qg▸um w _ _ _ _
  have U4:ag V w.heap.size 53 (T4 tk (bs tt) tn tp):=qg▸uo w _ _ _ _
  refine oI 11 rfl (mU (w':=V) (by rw [<-qg];unfold execOp;go_simp) (And.intro QM ?_))
  simp only [Act.put,gA,gB,gC,gD,gE,gF]
  refine eZ ?_
  have HV:=af QM
  have U7:=af U4
  have YK:=af (H.out.below QM)
  clear qg hS0 U4 QM k0 k1 k2 k3 k4 q0 q1 q2 q3
  go_wp2_with (first|(go_at_call 48;have hc:=gJ E _ s YK.out;rw [oG.out] at hc;refine hc.mono ?_;clear hc;rintro e w2 ⟨rfl,hb2⟩;rw [HI.out];have HR2:=af (YK.out.below hb2);have HB2:=af hb2;have HT2:=af (U7.out.NP hb2);have hkt:=U7.out.NP hb2;have x0:=hkt.cell 0;have x1:=hkt.cell 1;have x2:=hkt.cell 2;have x3:=hkt.cell 3;have xl:=hkt.lt;obtain ⟨j',hj',_,e0,e1,e2,e3,e4,_,_,_,_,ef⟩:=(YK.out.below hb2).here;rw [HJ.out] at hj';subst hj';rw [oG.out] at e0 e1 e2 e3 e4 ef;rw [yB.out] at e2;rw [Nq.out,Nr.out,Jo.out] at e0;have el:=(YK.out.below hb2).lt;rw [oG.out] at el;clear hb2 ef hkt)|(go_at_call 47;have _g:=HR2;have hc:=kV E _ s HR2.out 5;rw [oG.out] at hc;refine hc.mono ?_;clear hc;rintro e w3 ⟨rfl,gZ,hg3⟩;have HR3:=af gZ;have U5:=af hg3;have HT3:=af (hg3.blk HT2.out (by have:=HNB.out;omega));clear gZ hg3 x0 x1 x2 x3 xl))
  refine wp_region_held_drew (S:=fun V=>Below w3.heap.size w3 V) (by kernel_rfl) (Below.refl _ w3).drew (fun hS0=>?_)
  generalize w3.drew=WZ at hS0 |-
  refine aQ 0 hS0 ?_
  refine oU 1 hS0 ?_ (he:=fun w' hS=>by (have hk:=HT3.out.NP hS;have x3:=hk.cell 3;unfold execOp;go_simp;first|done|exact rfl))
  refine aQ 2 hS0 ?_
  refine aQ 3 hS0 ?_
  refine eZ ?_
  have HBS:=af hS0
  clear hS0
  go_wp2
  refine bodyPost_ret (results_tmp2 rfl _ _ _) rfl ⟨rfl,HR3.out.below HBS.out,(Gr.of_below HV.out).trans ((Gr.of_below HB2.out).trans (U5.out.trans (Gr.of_below HBS.out)))⟩
 |true=>
  have HI:=af hi
  have HKK:=af (hik hi)
  rw [show aG s=s.tl from by unfold aG;rw [hi];rfl,show ay s=tt from by unfold ay;rw [hi,if_pos rfl];exact Sq.out]
  clear hi hik hol hoh fz
  go_enter Tryz.func26,Tryz.ntmps26
  go_wp2
  refine wp_region_held_drew (S:=fun V=>Below w.heap.size w V) (by kernel_rfl) (Below.refl _ w).drew (fun hS0=>?_)
  refine aQ 0 hS0 ?_
  refine aQ 1 hS0 ?_
  refine aQ 2 hS0 ?_
  refine jS 3 hS0 ?_ (fun w' hS=>(hS.cell (p:=⟨B,0,none⟩) hlt).trans k0)
  refine aQ 4 hS0 ?_
  refine aQ 5 hS0 ?_
  refine aQ 6 hS0 ?_
  refine jS 7 hS0 ?_ (fun w' hS=>(hS.cell (p:=⟨B,1,none⟩) hlt).trans k1)
  refine aQ 8 hS0 ?_
  refine oU 9 hS0 ?_ (he:=fun w' hS=>by (have y0:=(hS.cell (p:=⟨G,_,none⟩) hgl).trans q0;have y1:=(hS.cell (p:=⟨G,_,none⟩) hgl).trans q1;have y2:=(hS.cell (p:=⟨G,_,none⟩) hgl).trans q2;have y3:=(hS.cell (p:=⟨G,_,none⟩) hgl).trans q3;unfold execOp;go_simp;first|done|exact rfl))
  refine oI 10 rfl (aY (v:=.pointer (some ⟨w.heap.size,0,none⟩)) (w':=(w.drew.alloc (.cells #[.int .i64 0,.string ⟨#[]⟩,.int .i64 0,.int .i64 0] 53))) (by unfold execOp;go_simp) (And.intro ((Below.refl _ w).drew.alloc (by simp) _) ?_))
  simp only [Act.put,gA,gB,gC,gD,gE,gF]
  obtain ⟨V,qg⟩:=aS (((((w.drew.alloc (.cells #[.int .i64 0,.string ⟨#[]⟩,.int .i64 0,.int .i64 0] 53)).setCell ⟨w.heap.size,0,none⟩ (.int .i64 tk)).setCell ⟨w.heap.size,1,none⟩ (.string (bs tt))).setCell ⟨w.heap.size,2,none⟩ (.int .i64 tn)).setCell ⟨w.heap.size,3,none⟩ (.int .i64 tp))
  have QM:Below w.heap.size w V:=qg▸um w _ _ _ _
  have U4:ag V w.heap.size 53 (T4 tk (bs tt) tn tp):=qg▸uo w _ _ _ _
  refine oI 11 rfl (mU (w':=V) (by rw [<-qg];unfold execOp;go_simp) (And.intro QM ?_))
  simp only [Act.put,gA,gB,gC,gD,gE,gF]
  refine eZ ?_
  have HV:=af QM
  have U7:=af U4
  have YK:=af (H.out.below QM)
  clear qg hS0 U4 QM k0 k1 k2 k3 k4 q0 q1 q2 q3
  go_wp2_with (first|(go_at_call 48;have hc:=gJ E _ s YK.out;rw [oG.out] at hc;refine hc.mono ?_;clear hc;rintro e w2 ⟨rfl,hb2⟩;rw [HI.out];have HR2:=af (YK.out.below hb2);have HB2:=af hb2;have HT2:=af (U7.out.NP hb2);have hkt:=U7.out.NP hb2;have x0:=hkt.cell 0;have x1:=hkt.cell 1;have x2:=hkt.cell 2;have x3:=hkt.cell 3;have xl:=hkt.lt;obtain ⟨j',hj',_,e0,e1,e2,e3,e4,_,_,_,_,ef⟩:=(YK.out.below hb2).here;rw [HJ.out] at hj';subst hj';rw [oG.out] at e0 e1 e2 e3 e4 ef;rw [yB.out] at e2;rw [Nq.out,Nr.out,Jo.out] at e0;have el:=(YK.out.below hb2).lt;rw [oG.out] at el;have Am:=ef 1;clear hb2 ef hkt))
  have hres:=ic HR2.out HKK.out
  have hg3:=vK (b:=E.b) (Gr.refl w2) 1 (.int .i64 ((E.ts.length - s.l.length:Nat)+1:Int))
  rw [oG.out,HJ.out] at hres
  rw [oG.out,HJ.out] at hg3
  obtain ⟨W3,hW3⟩:=aS (w2.setCell ⟨B,1,none⟩ (.int .i64 ((j:Int)+1)))
  rw [hW3] at hres hg3 |-
  have HR3:=af hres
  have U5:=af hg3
  have HT3:=af (hg3.blk HT2.out (by have:=HNB.out;rw [oG.out] at this;exact this))
  clear hres hg3 hW3 x0 x1 x2 x3 xl
  refine wp_region_held_drew (S:=fun V=>Below W3.heap.size W3 V) (by kernel_rfl) (Below.refl _ W3).drew (fun hS0=>?_)
  generalize W3.drew=WZ at hS0 |-
  refine aQ 0 hS0 ?_
  refine oU 1 hS0 ?_ (he:=fun w' hS=>by (have hk:=HT3.out.NP hS;have x1:=hk.cell 1;unfold execOp;go_simp;first|done|exact rfl))
  refine aQ 2 hS0 ?_
  refine oU 3 hS0 ?_ (he:=fun w' hS=>by (have hk:=HT3.out.NP hS;have x3:=hk.cell 3;unfold execOp;go_simp;first|done|exact rfl))
  refine aQ 4 hS0 ?_
  refine aQ 5 hS0 ?_
  refine eZ ?_
  have HBS:=af hS0
  clear hS0
  go_wp2
  refine bodyPost_ret (results_tmp2 rfl _ _ _) rfl ⟨rfl,HR3.out.below HBS.out,by rw [oG.out];exact (Gr.of_below HV.out).trans ((Gr.of_below HB2.out).trans (U5.out.trans (Gr.of_below HBS.out)))⟩
def Tr.add:Tr->Tr->Tr
 | .mk k op n p t a ks,x=>.mk k op n p t a (ks ++ [x])
def Tr.AY:Tr->Int->Tr
 | .mk k op _ p t a ks,n=>.mk k op n p t a ks
def Tr.zo:Tr->Int->Tr
 | .mk _ op n p t a ks,k=>.mk k op n p t a ks
def Tr.kd:Tr->Int
 | .mk k _ _ _ _ _ _=>k
abbrev hdp (s:St):Nat:=(hd s.l).2
abbrev hdt (s:St):List UInt8:=(hd s.l).1.t
abbrev hdn (s:St):Int:=(hd s.l).1.n
def ob (r:Option (Tr × St)) (f:Tr->St->Option (Tr × St)):Option (Tr × St):=
 match r with
 |none=>none
 |some (t,s)=>f t s
theorem bF {r:Option (Tr × St)} {f:Tr->St->Option (Tr × St)} {x:Tr × St} (h:ob r f=some x):∃t s,r=some (t,s)/\f t s=some x:=by
 cases r with
 |none=>cases h
 |some y=>exact ⟨y.1,y.2,rfl,h⟩
def gp (s:St):Tr:=if bX [46] (aG s)=true then .mk 13 0 0 (ay s) (ay (aj [46] (aG s))) (hdp s) [] else .mk 13 0 0 [] (ay s) (hdp s) []
def gq (s:St):St:=if bX [46] (aG s)=true then aG (aj [46] (aG s)) else aG s
def iL (s:St):Bool:=nE s || (bX [105,110,116] s || (bX [98,111,111,108] s || (bX [115,116,114,105,110,103] s || (bX [42] s || (bX [91] s || bX [102,117,110,99] s)))))
def rH (m:List UInt8) (s:St):Bool:=decide (s.e=0) && !bX m s
def jN (m:List UInt8) (s:St):St:=if bX m (aj [44] s)=true then fE 5 (aj [44] s) else aj [44] s
def o9 (s:St):St:=if bX [45] (aj [61] (aG (aj [99,111,110,115,116] s)))=true then aj [45] (aj [61] (aG (aj [99,111,110,115,116] s))) else aj [61] (aG (aj [99,111,110,115,116] s))
def qh (s:St):St:=if (decide ((o9 s).e=0) && !decide (kind (o9 s).l=3))=true then fE 5 (o9 s) else o9 s
def lq (s:St):Tr × St:=
 if (qh s).e=0 then (.mk 3 0 (if bX [45] (aj [61] (aG (aj [99,111,110,115,116] s)))=true then - hdn (qh s) else hdn (qh s)) [] (ay (aj [99,111,110,115,116] s)) (hdp (aj [99,111,110,115,116] s)) [],aj [59] (qh s).tl)
 else (.mk 3 0 0 [] (ay (aj [99,111,110,115,116] s)) (hdp (aj [99,111,110,115,116] s)) [],qh s)
def Uz (s:St):Tr:=if bX [97,110,121] (aG s)=true then .mk 11 0 0 [] (ay s) (hdp s) [] else if bX [99,111,109,112,97,114,97,98,108,101] (aG s)=true then .mk 11 0 1 [] (ay s) (hdp s) [] else .mk 11 0 2 [] (ay s) (hdp s) [gp (aG s)]
def KW (s:St):St:=if bX [97,110,121] (aG s)=true then aj [97,110,121] (aG s) else if bX [99,111,109,112,97,114,97,98,108,101] (aG s)=true then aj [99,111,109,112,97,114,97,98,108,101] (aG s) else gq (aG s)
def tC (s:St):St:=aj [41] (aG (aj [42] (aG (aj [40] s))))
def Ey (s:St):Tr:=.mk 12 0 0 [] (ay (aj [40] s)) (hdp (aj [40] s)) [.mk 14 0 0 [] [] (hdp (aG (aj [40] s))) [.mk 13 0 0 [] (ay (aj [42] (aG (aj [40] s)))) (hdp (aj [42] (aG (aj [40] s)))) []]]
def jI (s:St):Bool:=nE s && (match s.l with
 |_ :: y :: _=>decide (y.1.k=5) && decide (y.1.t=[58,61])
 |_=>false)
def Cj (s:St):Bool:=bX [105,110,116] s || (bX [98,111,111,108] s || bX [115,116,114,105,110,103] s)
def mV (s:St):Bool:=bX [108,101,110] s || (bX [97,112,112,101,110,100] s || (bX [112,97,110,105,99] s || (bX [112,117,116] s || (bX [103,101,116] s || bX [109,97,107,101] s))))
inductive F5 where
 |kind|kinds (n:Tr)|Ez (n:Tr)|result (n:Tr)|params (n:Tr)|AZ (n:Tr)
 |dh|typed|mh (n:Tr)|uW (n:Tr)|vL (n:Tr)|function|decl
 |block|zM (n:Tr)|stat|uq|simple|expr (k:Nat)|Ik (k:Nat) (x:Tr)|unary|made|EA (n:Tr)
 |several (n:Tr) (m:List UInt8)|xA (n:Tr) (m:List UInt8)|behind (x:Tr)|bracket (n:Tr)|first|great|built (t:List UInt8) (p:Nat)|round
def m5:Nat->F5->St->Option (Tr × St)
 |0,_,_=>none
 |n+1,f,s=>
  match f with
  | .kind=>
    if Cj s=true then some (.mk 13 0 0 [] (hdt s) (hdp s) [],s.tl)
    else if nE s=true then some (gp s,gq s)
    else if bX [42] s=true then some (.mk 14 0 0 [] [] (hdp s) [gp (aj [42] s)],gq (aj [42] s))
    else if bX [91] s=true then
     if (aj [93] (aj [91] s)).e=0 then ob (m5 n .kind (aj [93] (aj [91] s))) fun t s1=>some (.mk 15 0 0 [] [] (hdp s) [t],s1)
     else some (eU,aj [93] (aj [91] s))
    else if bX [102,117,110,99] s=true then m5 n (.kinds (.mk 16 0 0 [] [] (hdp s) [])) (aj [102,117,110,99] s)
    else some (eU,fE 5 s)
  | .kinds nd=>ob (m5 n (.Ez nd) (aj [40] s)) fun nd s=>m5 n (.result nd) (aj [41] s)
  | .Ez nd=>if rH [41] s=true then ob (m5 n .kind s) fun t s1=>if bX [44] s1=true then m5 n (.Ez (nd.add t)) (jN [41] s1) else some (nd.add t,s1) else some (nd,s)
  | .result nd=>if iL s=true then ob (m5 n .kind s) fun t s1=>some ((nd.AY 1).add t,s1) else some (nd,s)
  | .params nd=>ob (m5 n (.AZ nd) (aj [40] s)) fun nd s=>m5 n (.result nd) (aj [41] s)
  | .AZ nd=>if rH [41] s=true then ob (m5 n .kind (aG s)) fun t s1=>if bX [44] s1=true then m5 n (.AZ (nd.add (.mk 12 0 0 [] (ay s) (hdp s) [t]))) (jN [41] s1) else some (nd.add (.mk 12 0 0 [] (ay s) (hdp s) [t]),s1) else some (nd,s)
  | .dh=>ob (m5 n .kind (aG (aj [118,97,114] s))) fun t s3=>
    if bX [61] s3=true then ob (m5 n (.expr 1) (aj [61] s3)) fun x s4=>some (.mk 4 0 0 [] (ay (aj [118,97,114] s)) (hdp (aj [118,97,114] s)) [t,x],aj [59] s4)
    else some (.mk 4 0 0 [] (ay (aj [118,97,114] s)) (hdp (aj [118,97,114] s)) [t],aj [59] s3)
  | .typed=>
    if bX [105,110,116,101,114,102,97,99,101] (aG (aj [116,121,112,101] s))=true then ob (m5 n (.mh (.mk 7 0 0 [] (ay (aj [116,121,112,101] s)) (hdp (aj [116,121,112,101] s)) [])) (aj [123] (aj [105,110,116,101,114,102,97,99,101] (aG (aj [116,121,112,101] s))))) fun nd s1=>some (nd,aj [125] s1)
    else ob (m5 n (.mh (.mk 5 0 0 [] (ay (aj [116,121,112,101] s)) (hdp (aj [116,121,112,101] s)) [])) (aj [123] (aj [115,116,114,117,99,116] (aG (aj [116,121,112,101] s))))) fun nd s1=>some (nd,aj [125] s1)
  | .mh nd=>if rH [125] s=true then
     if nd.kd=7 then ob (m5 n (.kinds (.mk 8 0 0 [] (ay s) (hdp s) [])) (aG s)) fun k s1=>m5 n (.mh (nd.add k)) (aj [59] s1)
     else ob (m5 n .kind (aG s)) fun t s1=>m5 n (.mh (nd.add (.mk 6 0 0 [] (ay s) (hdp s) [t]))) (aj [59] s1)
    else some (nd,s)
  | .uW nd=>ob (m5 n (.vL nd) (aj [91] s)) fun nd s1=>some (nd,aj [93] s1)
  | .vL nd=>if s.e=0 then (if bX [44] (KW s)=true then m5 n (.vL (nd.add (Uz s))) (aj [44] (KW s)) else some (nd.add (Uz s),KW s)) else some (nd,s)
  | .function=>
    if bX [40] (aj [102,117,110,99] s)=true then
     ob (m5 n (.params (.mk 10 0 0 [] (ay (tC (aj [102,117,110,99] s))) (hdp (tC (aj [102,117,110,99] s))) [Ey (aj [102,117,110,99] s)])) (aG (tC (aj [102,117,110,99] s)))) fun nd s1=>ob (m5 n .block s1) fun b s2=>some (nd.add b,s2)
    else if bX [91] (aG (aj [102,117,110,99] s))=true then
     ob (m5 n (.uW (.mk 9 0 0 [] (ay (aj [102,117,110,99] s)) (hdp (aj [102,117,110,99] s)) [])) (aG (aj [102,117,110,99] s))) fun nd s1=>ob (m5 n (.params nd) s1) fun nd s2=>ob (m5 n .block s2) fun b s3=>some (nd.add b,s3)
    else ob (m5 n (.params (.mk 9 0 0 [] (ay (aj [102,117,110,99] s)) (hdp (aj [102,117,110,99] s)) [])) (aG (aj [102,117,110,99] s))) fun nd s2=>ob (m5 n .block s2) fun b s3=>some (nd.add b,s3)
  | .decl=>
    if bX [99,111,110,115,116] s=true then some (lq s) else if bX [118,97,114] s=true then m5 n .dh s else if bX [116,121,112,101] s=true then m5 n .typed s else if bX [102,117,110,99] s=true then m5 n .function s else some (eU,fE 5 s)
  | .block=>ob (m5 n (.zM (.mk 17 0 0 [] [] (hdp s) [])) (aj [123] s)) fun nd s1=>some (nd,aj [125] s1)
  | .zM nd=>if rH [125] s=true then ob (m5 n .stat s) fun t s1=>m5 n (.zM (nd.add t)) s1 else some (nd,s)
  | .stat=>
    if bX [118,97,114] s=true then m5 n .dh s
    else if bX [123] s=true then m5 n .block s
    else if bX [105,102] s=true then m5 n .uq s
    else if bX [102,111,114] s=true then
     if bX [123] (aj [102,111,114] s)=true then ob (m5 n .block (aj [102,111,114] s)) fun b s1=>some (.mk 22 0 0 [] [] (hdp s) [b],s1)
     else ob (m5 n (.expr 1) (aj [102,111,114] s)) fun x s1=>ob (m5 n .block s1) fun b s2=>some (.mk 22 0 1 [] [] (hdp s) [x,b],s2)
    else if (bX [98,114,101,97,107] s || bX [99,111,110,116,105,110,117,101] s)=true then some (.mk (if hdt s=[99,111,110,116,105,110,117,101] then 24 else 23) 0 0 [] [] (hdp s) [],aj [59] s.tl)
    else if bX [114,101,116,117,114,110] s=true then
     if bX [59] (aj [114,101,116,117,114,110] s)=true then some (.mk 25 0 0 [] [] (hdp s) [],aj [59] (aj [114,101,116,117,114,110] s))
     else ob (m5 n (.expr 1) (aj [114,101,116,117,114,110] s)) fun x s1=>some (.mk 25 0 0 [] [] (hdp s) [x],aj [59] s1)
    else m5 n .simple s
  | .uq=>ob (m5 n (.expr 1) (aj [105,102] s)) fun x s1=>ob (m5 n .block s1) fun b s2=>
    if bX [101,108,115,101] s2=true then
     if bX [105,102] (aj [101,108,115,101] s2)=true then ob (m5 n .uq (aj [101,108,115,101] s2)) fun y s3=>some (.mk 21 0 0 [] [] (hdp s) [x,b,y],s3)
     else ob (m5 n .block (aj [101,108,115,101] s2)) fun y s3=>some (.mk 21 0 0 [] [] (hdp s) [x,b,y],s3)
    else some (.mk 21 0 0 [] [] (hdp s) [x,b],s2)
  | .simple=>
    if jI s=true then ob (m5 n (.expr 1) (aj [58,61] s.tl)) fun x s1=>some (.mk 18 0 0 [] (hdt s) (hdp s) [x],aj [59] s1)
    else ob (m5 n (.expr 1) s) fun x s1=>
     if bX [61] s1=true then ob (m5 n (.expr 1) (aj [61] s1)) fun y s2=>some (.mk 19 0 0 [] [] (hdp s1) [x,y],aj [59] s2)
     else some (.mk 20 0 0 [] [] (hdp s1) [x],aj [59] s1)
  | .expr k=>ob (m5 n .unary s) fun x s1=>m5 n (.Ik k x) s1
  | .Ik k x=>if s.e=0 then (if (nC (mark s.l)).2 < k then some (x,s) else ob (m5 n (.expr ((nC (mark s.l)).2+1)) (aj (mark s.l) s)) fun y s1=>m5 n (.Ik k (.mk 31 (nC (mark s.l)).1 0 [] [] (hdp s) [x,y])) s1) else some (x,s)
  | .unary=>if s.e=0 then
     if bX [45] s=true then ob (m5 n .unary s.tl) fun x s1=>some (.mk 32 1 0 [] [] (hdp s) [x],s1)
     else if bX [33] s=true then ob (m5 n .unary s.tl) fun x s1=>some (.mk 32 3 0 [] [] (hdp s) [x],s1)
     else if bX [38] s=true then m5 n .made s
     else ob (m5 n .first s) fun x s1=>m5 n (.behind x) s1
    else some (eU,s)
  | .made=>ob (m5 n (.EA (.mk 38 0 0 [] [] (hdp s) [gp (aj [38] s)])) (aj [123] (gq (aj [38] s)))) fun nd s1=>some (nd,aj [125] s1)
  | .EA nd=>if rH [125] s=true then ob (m5 n (.expr 1) (aj [58] (aG s))) fun x s1=>
     if bX [44] s1=true then m5 n (.EA (nd.add (.mk 39 0 0 [] (ay s) (hdp s) [x]))) (jN [125] s1) else some (nd.add (.mk 39 0 0 [] (ay s) (hdp s) [x]),s1)
    else some (nd,s)
  | .several nd m=>ob (m5 n (.xA nd m) s) fun nd s1=>some (nd,aj m s1)
  | .xA nd m=>if rH m s=true then ob (m5 n (.expr 1) s) fun x s1=>if bX [44] s1=true then m5 n (.xA (nd.add x) m) (jN m s1) else some (nd.add x,s1) else some (nd,s)
  | .behind x=>if s.e=0 then
     if bX [40] s=true then ob (m5 n (.several (.mk 33 0 0 [] [] (hdp s) [x]) [41]) (aj [40] s)) fun nd s1=>m5 n (.behind nd) s1
     else if bX [91] s=true then ob (m5 n (.bracket (.mk 0 0 0 [] [] (hdp s) [x])) s) fun nd s1=>m5 n (.behind nd) s1
     else if bX [46] s=true then
      if bX [40] (aj [46] s)=true then ob (m5 n .kind (aj [40] (aj [46] s))) fun t s1=>m5 n (.behind (.mk 37 0 0 [] [] (hdp s) [x,t])) (aj [41] s1)
      else m5 n (.behind (.mk 36 0 0 [] (ay (aj [46] s)) (hdp s) [x])) (aG (aj [46] s))
     else some (x,s)
    else some (x,s)
  | .bracket nd=>
    if bX [58] (aj [91] s)=true then
     if bX [93] (aj [58] (aj [91] s))=true then some (nd.zo 35,aj [93] (aj [58] (aj [91] s)))
     else ob (m5 n (.expr 1) (aj [58] (aj [91] s))) fun y s1=>some (((nd.zo 35).AY 2).add y,aj [93] s1)
    else ob (m5 n (.expr 1) (aj [91] s)) fun x s1=>
     if bX [58] s1=true then
      if bX [93] (aj [58] s1)=true then some (((nd.zo 35).AY 1).add x,aj [93] (aj [58] s1))
      else ob (m5 n (.expr 1) (aj [58] s1)) fun y s2=>some ((((nd.zo 35).AY 3).add x).add y,aj [93] s2)
     else some ((nd.zo 34).add x,aj [93] s1)
  | .first=>
    if (decide (s.e=0) && decide (kind s.l=3))=true then some (.mk 26 0 (hdn s) [] [] (hdp s) [],s.tl)
    else if (decide (s.e=0) && decide (kind s.l=4))=true then some (.mk 27 0 0 [] (hdt s) (hdp s) [],s.tl)
    else if bX [116,114,117,101] s=true then some (.mk 28 0 1 [] [] (hdp s) [],s.tl)
    else if bX [102,97,108,115,101] s=true then some (.mk 28 0 0 [] [] (hdp s) [],s.tl)
    else if bX [110,105,108] s=true then some (.mk 29 0 0 [] [] (hdp s) [],s.tl)
    else if nE s=true then some (.mk 30 0 0 [] (hdt s) (hdp s) [],s.tl)
    else m5 n .great s
  | .great=>
    if bX [40] s=true then m5 n .round s
    else if bX [91] s=true then
     if (aj [93] (aj [91] s)).e=0 then ob (m5 n .kind (aj [93] (aj [91] s))) fun t s1=>m5 n (.several (.mk 40 0 0 [] [] (hdp s) [t]) [125]) (aj [123] s1)
     else some (.mk 40 0 0 [] [] (hdp s) [],aj [93] (aj [91] s))
    else if bX [102,117,110,99] s=true then ob (m5 n (.params (.mk 41 0 0 [] [] (hdp s) [])) (aj [102,117,110,99] s)) fun nd s1=>ob (m5 n .block s1) fun b s2=>some (nd.add b,s2)
    else if mV s=true then m5 n (.built (hdt s) (hdp s)) s
    else some (eU,fE 5 s)
  | .built t p=>
    if t=[109,97,107,101] then
     if (aj [40] s.tl).e=0 then ob (m5 n .kind (aj [40] s.tl)) fun k s1=>ob (m5 n (.expr 1) (aj [44] s1)) fun x s2=>some (.mk 33 0 0 [] [] (hdp s.tl) [.mk 30 0 0 [] t p [],k,x],aj [41] s2)
     else ob (m5 n (.expr 1) (aj [44] (aj [40] s.tl))) fun x s2=>some (.mk 33 0 0 [] [] (hdp s.tl) [.mk 30 0 0 [] t p [],x],aj [41] s2)
    else m5 n (.several (.mk 33 0 0 [] [] (hdp s.tl) [.mk 30 0 0 [] t p []]) [41]) (aj [40] s.tl)
  | .round=>
    if bX [42] (aj [40] s)=true then some (.mk 42 0 0 [] (ay (aj [46] (aj [41] (gq (aj [42] (aj [40] s)))))) (hdp s) [gp (aj [42] (aj [40] s))],aG (aj [46] (aj [41] (gq (aj [42] (aj [40] s))))))
    else ob (m5 n (.expr 1) (aj [40] s)) fun x s1=>some (x,aj [41] s1)
def wN:Nat->Tr->St->Option (Tr × St)
 |0,_,_=>none
 |n+1,nd,s=>if bX [105,109,112,111,114,116] s=true then wN n (nd.add (.mk 2 0 0 [] (ay (aj [105,109,112,111,114,116] s)) (hdp (aj [105,109,112,111,114,116] s)) [])) (aj [59] (aG (aj [105,109,112,111,114,116] s))) else some (nd,s)
def qi (m:Nat):Nat->Tr->St->Option (Tr × St)
 |0,_,_=>none
 |n+1,nd,s=>if (decide (s.e=0) && !decide (kind s.l=0))=true then ob (m5 m .decl s) fun t s1=>qi m n (nd.add t) s1 else some (nd,s)
theorem aB {E:Env} {w:World} {s:St} (h:RS E w s:=by repeat (with_reducible (first|assumption|refine RS.alloc ?_ _|refine RS.drew ?_|refine RS.setCell ?_ (by first|assumption|(simp;omega)) (by first|assumption|(simp;omega)) _))):RS E w s:=h
def wH (E:Env) (w:World) (lo:Nat) (tr:Tr) (s':St) (e:Ending) (w':World):Prop:=
 Gr (·=E.b) w w'/\RS E w' s'/\∃(k op n:Int) (p t:List UInt8) (a:Nat) (ks:List Tr) (A:Option Addr) (c:Nat),tr= .mk k op n p t a ks/\
  e= .returned (.agg #[.int .i64 k,.int .i64 op,.int .i64 n,.string (bs p),.string (bs t),.int .i64 a,.slice A ks.length c])/\aI w' lo (.slice A ks.length c) ks
theorem Ba (E:Env) (w:World) (s:St) (h:RS E w s):Calls Tryz.prog 94 #[.pointer (some ⟨E.b,0,none⟩)] w (wH E w w.heap.size (gp s) (gq s)):=by
 have hlt:=h.lt
 have hgt:=h.iy
 cases hi:bX [46] (aG s) with
 |false=>
  have HI:=af hi
  have HE1:=af (show gp s= .mk 13 0 0 [] (ay s) (hdp s) [] from by unfold gp;rw [hi];rfl)
  rw [show gq s=aG s from by unfold gq;rw [hi];rfl]
  clear hi
  go_enter Tryz.func94,Tryz.ntmps94
  go_wp2_with (first
   |(go_at_call 26;(with_reducible refine (dR E _ s aB).mono ?_);rintro e w1 ⟨rfl,fB,hg1⟩;have hG1:Gr (·=E.b) w w1:=Gr.trans aJ (Gr.mono hg1 (fun _ _ e=>e));have az:ag w1 w.heap.size 24 Z7:=bU hg1)
   |(go_at_call 27;(with_reducible refine (au E _ (aG s) aB [46] ⟨#[46]⟩ rfl).mono ?_);rintro e w2 ⟨rfl,hg2⟩;rw [HI.out];have hR2:RS E w2 (aG s):=RS.below aB hg2;have hG2:=aL hG1 hg2;have ax:=bV az hg2;obtain ⟨_,lJ,lK,lM,lN,lQ,lS,lT,lU⟩:=ax.av;have bq:ag w2 w1.heap.size 24 (N7 13 0 0 ⟨#[]⟩ (bs (ay s)) (hdp s) (.slice none 0 0)):=ag.aC bz hg2;obtain ⟨_,YL,abF,abG,abH,U8,YM,sG,_⟩:=bq.av))
  exact aX Tryz.results94 rfl rfl dS ⟨aJ,aB,13,0,0,[],(ay s),(hdp s),[],none,0,HE1.out,rfl,aI.nil _ _ 0⟩
 |true=>
  have HI:=af hi
  have HE1:=af (show gp s= .mk 13 0 0 (ay s) (ay (aj [46] (aG s))) (hdp s) [] from by unfold gp;rw [hi];rfl)
  rw [show gq s=aG (aj [46] (aG s)) from by unfold gq;rw [hi];rfl]
  clear hi
  go_enter Tryz.func94,Tryz.ntmps94
  go_wp2_with (first
   |((fail_if_success (have:=hg1));go_at_call 26;(with_reducible refine (dR E _ s aB).mono ?_);rintro e w1 ⟨rfl,fB,hg1⟩;have hG1:Gr (·=E.b) w w1:=Gr.trans aJ (Gr.mono hg1 (fun _ _ e=>e));have hs1:=hg1.size;(try simp at hs1);have kW:=fB.lt;have oP:=fB.iy;have az:ag w1 w.heap.size 24 Z7:=bU hg1)
   |(go_at_call 27;(with_reducible refine (au E _ (aG s) aB [46] ⟨#[46]⟩ rfl).mono ?_);rintro e w2 ⟨rfl,hg2⟩;rw [HI.out];have hR2:RS E w2 (aG s):=RS.below aB hg2;have hG2:=aL hG1 hg2;have ax:=bV az hg2;have bq:ag w2 w1.heap.size 24 (N7 13 0 0 ⟨#[]⟩ (bs (ay s)) (hdp s) (.slice none 0 0)):=ag.aC bz hg2)
   |(go_at_call 25;(with_reducible refine (aA E _ (aG s) aB [46] ⟨#[46]⟩ rfl).mono ?_);rintro e w3 ⟨rfl,gZ,hg3⟩;have hG3:=bP hG2 hg3;have aF:=ax.call hg3 (by omega);have aM:=bq.call hg3 (by omega);obtain ⟨_,_,_,_,Jp,_,_,_,pg⟩:=aM.av)
   |(go_at_call 26;(with_reducible refine (dR E _ (aj [46] (aG s)) aB).mono ?_);rintro e w4 ⟨rfl,jb,hg4⟩;have hG4:=bP hG3 hg4;have aK:=aD aF hg4;obtain ⟨_,wO,xC,xD,xE,xG,xH,xI,wP⟩:=aK.av;have aW:ag w4 w1.heap.size 24 (N7 13 0 0 (bs (ay s)) (bs (ay s)) (hdp s) (.slice none 0 0)):=bU hg4;obtain ⟨_,Ck,Dp,EB,EC,ED,EE,xJ,Dq⟩:=aW.av))
  exact aX Tryz.results94 rfl rfl dS ⟨aJ,aB,13,0,0,(ay s),(ay (aj [46] (aG s))),(hdp s),[],none,0,HE1.out,rfl,aI.nil _ _ 0⟩
theorem bA {E:Env} {w0 w w':World} {s:St} (h0:RS E w0 s) (hg:Below w.heap.size w w') (h:RS E w s:=by exact aB):RS E w' s:=RS.below h hg
theorem dJ {E:Env} {W V:World} {s:St} (e:W=V) (h:RS E W s):RS E V s:=e▸h
section
variable {P : Program} {ops : Array Oper} {Q : Exit -> Act -> World -> Prop}
theorem Lj {o:Oper} {a:Act} {w:World} {K:Act->World->Prop} {Q Q':Exit->Act->World->Prop} (hp:∀c a w,Q' (.panic c) a w->Q (.panic c) a w) (hl:LetsOut Q'->LetsOut Q) (h:o.wp P a w K Q'):o.wp P a w K Q:=by
 unfold Oper.wp at*
 generalize (execOp a.eval o).run P w=r at*
 cases r with
 |ok n w'=>
  cases n <;> simp only [Oper.upon] at h |-
  case value u=>exact h
  case skip=>exact h
  case defer d=>exact h
  case enter f args=>
   refine Calls.mono h fun e w'' he=>?_
   cases e with
   |returned u=>exact he
   |panicked c=>exact hp _ _ _ he
   |outgrown=>exact hl he
  case row row args=>exact h
 |halt x w'=>
  cases x <;> simp only [Oper.upon] at h |-
  case panic u=>exact hp _ _ _ h
def qj (m:Nat) (L:Array Bool):Array Bool:=(L.toList.take m).toArray
theorem EF {m i:Nat} {L:Array Bool} (h:i < m) (d:Bool):(qj m L).getD i d=L.getD i d:=by
 simp [qj,Array.getD_eq_getD_getElem?,List.getElem?_take_of_lt h]
theorem NQ {m i:Nat} {L:Array Bool} (h:i < m):qj m (L.setIfInBounds i true)=(qj m L).setIfInBounds i true:=by
 simp [qj,List.take_set]
def QN (P:Program) (ops:Array Oper) (m:Nat) (Q:Exit->Act->World->Prop):Exit->Act->World->Prop
 | .normal,a,w=>wpAny P .any ops Q (ops.size - m) (nU m ops.size) a w
 |x,a,w=>Q x a w
theorem Dr {id:Nat} {a0:Act} {w0:World} {S:World->Prop} (m:Nat) (hm:P.follows .mixedOrders=true) (hB:preB ops m=true) (hS:S w0.drew)
  (h:S w0.drew->wpAnyH P .any (ops.toList.take m).toArray (QN P ops m Q) S m (Array.replicate m false) a0 w0.drew):(Code.region id ops true).wp P Q a0 w0:=by
 obtain ⟨b1,b2,_,_⟩:=zL hB
 have hget:∀i,i < m->(ops.toList.take m).toArray[i]? =ops[i]? :=fun i hi=>by simp [List.getElem?_take_of_lt hi]
 refine wp_region_any hm (Ie hB (fun L a w=>(∀i,m<=i->i < ops.size->L.getD i true=false)/\L.size=ops.size/\wpAnyH P .any (ops.toList.take m).toArray (QN P ops m Q) S (Sj (qj m L)) (qj m L) a w) ?_ ?_ _ _ _ _ (by simp) ?_ (by simp [Sj]) ?_)
 ·intro L a w i o _ ho hi hl hall hI
  obtain ⟨i0,i1,i2⟩:=hI
  have Yc:i < ops.size:=(Array.getElem?_eq_some_iff.1 ho).1
  have Np:(qj m L).getD i true=false:=by rw [EF hi];exact hl
  have hrd:i∈Region.ready .any (ops.toList.take m).toArray (qj m L):=by
   refine mem_ready.2 ⟨Np,o,(hget i hi).trans ho,fun e he hb=>?_⟩
   have h1:=hall e he hb
   have h3:=(b2 i o ho hi).2 e he hb
   rw [EF (by omega)]
   exact h1
  have hun:=Jj (qj m L) i Np
  rw [<-hun] at i2
  have h4:=i2.2 i hrd
  unfold wpOp at h4 |-
  have hw1:∀(os:Array Oper),Region.wanted o (yielded os a.tmps)=true:=fun os=>by simp [Region.wanted,(b2 i o ho hi).1]
  rw [hget i hi] at h4
  simp only [ho,hw1,if_true] at h4 |-
  have hl2:LetsOut (QN P ops m Q)->LetsOut Q:=fun h=>h
  rcases h4 with h4|⟨h4,h5⟩
  ·refine .inl (Oper.wp_mono ?_ (Lj (Q':=QN P ops m Q) (fun _ _ _ h=>h) hl2 h4))
   rintro a' w' ⟨_,h6⟩
   refine ⟨fun k hk hk2=>by rw [getD_set_ne true (by omega)];exact i0 k hk hk2,by simpa using i1,?_⟩
   rw [NQ hi]
   exact h6
  ·exact .inr ⟨h4,hl2 h5⟩
 ·intro a w hI
  obtain ⟨_,_,i2⟩:=hI
  have hz:Sj (qj m (nU m ops.size))=0:=by simp [qj,nU,Sj,List.take_append,List.take_replicate]
  rw [hz] at i2
  exact i2.2
 ·intro i _ hi2
  simp [Array.getD,hi2]
 ·refine ⟨fun i _ hi2=>by simp [Array.getD,hi2],by simp,?_⟩
  have e:qj m (Array.replicate ops.size false)=Array.replicate m false:=by
   apply Array.ext'
   simp [qj,List.take_replicate,b1]
  rw [e]
  have e2:Sj (Array.replicate m false)=m:=by simp [Sj]
  rw [e2]
  exact h hS
end
section
variable {P : Program} {ops : Array Oper} {Q : Exit -> Act -> World -> Prop}
theorem jE {S:World->Prop} {n i j:Nat} {L:Array Bool} {a:Act} {w:World} {o u:Oper} (hr:Region.ready .any ops L=[i,j]) (ho:ops[i]? =some o) (hg:o.guard=none) (hu:ops[j]? =some u) (hk:u.guard=none)
  (h:o.wp P a w (fun a' w'=>S w'/\wpAnyH P .any ops Q S n (L.setIfInBounds i true) a' w') Q) (h2:u.wp P a w (fun a' w'=>S w'/\wpAnyH P .any ops Q S n (L.setIfInBounds j true) a' w') Q):wpAnyH P .any ops Q S (n+1) L a w:=by
 refine wpAnyH_all hr (by simp) fun m hm=>?_
 have hm:m=i\/m=j:=by simpa using hm
 rcases hm with rfl|rfl
 ·unfold wpOp
  have hw:Region.wanted o (yielded ops a.tmps)=true:=by simp [Region.wanted,hg]
  simp only [ho,hw,if_true]
  exact .inl h
 ·unfold wpOp
  have hw:Region.wanted u (yielded ops a.tmps)=true:=by simp [Region.wanted,hk]
  simp only [hu,hw,if_true]
  exact .inl h2
end
def Env.L (E:Env):Nat:=max E.b E.g+1
theorem Env.bL (E:Env):E.b < E.L:=by unfold Env.L;omega
theorem Env.gL (E:Env):E.g < E.L:=by unfold Env.L;omega
theorem RS.L {E:Env} {w:World} {s:St} (h:RS E w s):E.L<=w.heap.size:=by
 have:=h.lt;have:=h.iy
 unfold Env.L;omega
theorem ah.put {w:World} {lo g c:Nat} {X:Nat->Prop} {dx us:List Tr} {k op m:Int} {p t:List UInt8} {a c2:Nat} {A:Option Addr} (hx:ah w lo X (.slice (some ⟨g,0,none⟩) (dx.length+1) c) (dx ++ [eU])) (h2:nW w (fun q=>lo<=q/\q≠g/\¬X q) (.mk k op m p t a us) (GG k op m p t a (.slice A us.length c2))):
  ah (fA w g (dx.length*7) (.int .i64 k) (.int .i64 op) (.int .i64 m) (.string (bs p)) (.string (bs t)) (.int .i64 a) (.slice A us.length c2)) lo X (.slice (some ⟨g,0,none⟩) (dx.length+1) c) (dx ++ [.mk k op m p t a us]):=by
 obtain ⟨h0,xs,h1,h3⟩:=hx
 obtain ⟨ya,yq,rfl,h4,h5⟩:=bO.split h3
 have hl:=bO.length h4
 simp only [bO] at h5
 obtain ⟨yb,ye,rfl,h6,rfl⟩:=h5
 have hyb:∃u0 u1 u2 u3 u4 u5 u6,yb=[u0,u1,u2,u3,u4,u5,u6]:=by
  simp only [nW] at h6
  obtain ⟨A,c,xs,rfl,_⟩:=h6
  exact ⟨_,_,_,_,_,_,_,rfl⟩
 obtain ⟨u0,u1,u2,u3,u4,u5,u6,rfl⟩:=hyb
 have hn:(dx ++ [eU]).length=dx.length+1:=by simp
 rw [hn] at h1
 simp only [List.append_nil] at h1
 have hw:=Lg (v0:=.int .i64 k) (v1:=.int .i64 op) (v2:=.int .i64 m) (v3:=.string (bs p)) (v4:=.string (bs t)) (v5:=.int .i64 a) (v6:=.slice A us.length c2) h1 hl
 have hgw:Gr (fun q=>q=g) w (fA w g (dx.length*7) (.int .i64 k) (.int .i64 op) (.int .i64 m) (.string (bs p)) (.string (bs t)) (.int .i64 a) (.slice A us.length c2)):=fQ (Gr.refl w) (.inr rfl)
 refine ⟨h0,ya ++ GG k op m p t a (.slice A us.length c2),by rw [show (dx ++ [Tr.mk k op m p t a us]).length=dx.length+1 by simp];exact hw,?_⟩
 refine bO.append (h4.gr hgw (fun q hq _ he=>hq.2.1 (by rw [show q=g from he];rfl)) (fun q _ hq=>hq)) (bO.single ?_)
 exact h2.gr hgw (fun q hq _ he=>hq.2.1 he) (fun q _ hq=>⟨hq.1,(by have:=hq.2.1;simp only [Value.ownBlock,ne_eq,Option.some.injEq];omega),hq.2.2⟩)
theorem sS {w:World} {lo N h:Nat} {X:Nat->Prop} {v:Value} {dx us:List Tr} {q c2 at_:Nat} {k op m:Int} {p t:List UInt8} {A:Option Addr} (hK:ah w lo X v dx) (dO:X h) (YF:∀q,X q->q < N) (hv:∀q,v.ownBlock=some q->q < N)
  (hz:aI w N (.slice (some ⟨q,0,none⟩) 1 1) [eU]) (hn:aI w N (.slice A us.length c2) us) (hlo:lo<=N) (hNw:N<=w.heap.size) (hlen:dx.length<=3*cK)
  {o:Oper} {a:Act} {K:Act->World->Prop} {Q:Exit->Act->World->Prop} (s x:Operand)
  (ho:o.op= .call { callee:=.builtin .append,args:=#[s,x],argTypes:=#[22,22] }) (hs:a.eval s=v) (hx:a.eval x= .slice (some ⟨q,0,none⟩) 1 1)
  (hk:∀(g c:Nat) (w':World),ah w' lo X (.slice (some ⟨g,0,none⟩) (dx.length+1) c) (dx ++ [eU])->nW w' (fun q=>lo<=q/\q≠g/\¬X q) (.mk k op m p t at_ us) (GG k op m p t at_ (.slice A us.length c2))->Gr (fun k=>v.ownBlock=some k) w w'->
   (v.ownBlock=some g\/w.heap.size<=g)->(∀j,j < (dx.length+1)*7->∃u,w'.cell? ⟨g,j,none⟩=some u)->(∀j,w'.frozen? ⟨g,j,none⟩=false)->g < w'.heap.size->K (a.put o.dst (.slice (some ⟨g,0,none⟩) (dx.length+1) c)) w'):o.wp Tryz.prog a w K Q:=by
 refine AV (hK.x dO) hK YF (fun q hq=>Nat.lt_of_lt_of_le (YF q hq) hNw) hv hz hlo (YF h dO) hlen (Nat.le_trans hlo hNw) (Nat.lt_of_lt_of_le (YF h dO) hNw) s x ho hs hx ?_
 intro A' c w' h1 _ h3 h4
 obtain ⟨g,e,_,g2,g3,g4⟩:=h3.kid.some_ (by simp)
 subst e
 have ho:=h1 g rfl
 refine hk g c w' h3 ?_ h4 ho (fun j hj=>g3 j (by simpa using hj)) g4 g2
 refine nW.keep (fun x hx hlt=>h4.block x hlt fun e=>?_) h4.size (fun x hlt hx=>⟨Nat.le_trans hlo hx,(fun e=>?_),(fun e=>?_)⟩) _ _ (hn.rep k op m p t at_)
 ·have:=hv x e;have:N<=x:=hx;omega
 ·have:N<=x:=hx
  rcases ho with h|h
  ·have:=hv g h;omega
  ·omega
 ·have:=YF x e;have:N<=x:=hx;omega
theorem aI.zero (w:World) {N:Nat} (h:N<=w.heap.size):aI (w.alloc (.cells #[.int .i64 0,.int .i64 0,.int .i64 0,.string ⟨#[]⟩,.string ⟨#[]⟩,.int .i64 0,.slice none 0 0] 24)) N (.slice (some ⟨w.heap.size,0,none⟩) 1 1) [eU]:=
 aI.lit (n:=1) (bO.single (AX w _)) h (by simp [maxLen]) rfl
def Bb (E:Env) (w:World) (h:Nat) (X:Nat->Prop) (v:Value) (N:Nat) (tr:Tr) (s':St) (e:Ending) (w':World):Prop:=
 e= .returned (.tuple #[])/\RS E w' s'/\Gr (fun q=>q=E.b\/q=h\/v.ownBlock=some q) w w'/\∃(k op n:Int) (p t:List UInt8) (a:Nat) (ks:List Tr) (A:Option Addr) (c:Nat),tr= .mk k op n p t a ks/\
  ag w' h 24 (N7 k op n (bs p) (bs t) a (.slice A ks.length c))/\ah w' E.L X (.slice A ks.length c) ks/\(∀q,(Value.slice A ks.length c).ownBlock=some q->v.ownBlock=some q\/w.heap.size<=q)/\ks.length<=N
abbrev CM (n:Nat) (fn:FuncId) (f:F5):Prop:=∀(E:Env) (w:World) (s:St) (t:Tr) (s':St),RS E w s->m5 n f s=some (t,s')->Calls Tryz.prog fn #[.pointer (some ⟨E.b,0,none⟩)] w (wH E w w.heap.size t s')
abbrev PM (n d:Nat) (fn:FuncId) (f:Tr->F5):Prop:=∀(E:Env) (w:World) (s:St) (h:Nat) (X:Nat->Prop) (k op m:Int) (p t:List UInt8) (a:Nat) (ks:List Tr) (A:Option Addr) (c:Nat) (tr:Tr) (s':St),RS E w s->
 ag w h 24 (N7 k op m (bs p) (bs t) a (.slice A ks.length c))->ah w E.L X (.slice A ks.length c) ks->X h->h≠E.b->h≠E.g->(∀q,X q->q < w.heap.size)->ks.length+d<=3*cK->
 m5 n (f (.mk k op m p t a ks)) s=some (tr,s')->Calls Tryz.prog fn #[.pointer (some ⟨E.b,0,none⟩),.pointer (some ⟨h,0,none⟩)] w (Bb E w h X (.slice A ks.length c) (ks.length+d+2) tr s')
structure JB5 (b:Nat) (w0:World) (h lo:Nat) (X:Nat->Prop) (dx:List Tr) (c0 c1 c2 c3 c4 c5 v:Value) (C:World->Prop) (D:Tr->World->Prop) (c z a i s k:Bool) (vc vz va vi:Value) (w:World):Prop where
 d1:a=true->c=true/\z=true
 d2:i=true->a=true
 d3:s=true->i=true
 d4:k=true->a=true
 gr:Gr (fun q=>q=b\/q=h\/v.ownBlock=some q) w0 w
 gb:k=false->Gr (WX b v) w0 w
 g1:a=false->Gr (·=b) w0 w
 q0:c=false->C w/\Gr (fun _=>False) w0 w
 q1:c=true->a=false->∃(k op n:Int) (p t:List UInt8) (at_:Nat) (ks:List Tr) (A:Option Addr) (cc:Nat),vc= .agg #[.int .i64 k,.int .i64 op,.int .i64 n,.string (bs p),.string (bs t),.int .i64 at_,.slice A ks.length cc]/\aI w w0.heap.size (.slice A ks.length cc) ks/\D (.mk k op n p t at_ ks) w
 z1:z=true->a=false->∃q,vz= .slice (some ⟨q,0,none⟩) 1 1/\aI w w0.heap.size (.slice (some ⟨q,0,none⟩) 1 1) [eU]
 a1:a=true->s=false->∃(k op n:Int) (p t:List UInt8) (at_:Nat) (ks:List Tr) (A:Option Addr) (cc g ca:Nat),vc= .agg #[.int .i64 k,.int .i64 op,.int .i64 n,.string (bs p),.string (bs t),.int .i64 at_,.slice A ks.length cc]/\va= .slice (some ⟨g,0,none⟩) (dx.length+1) ca/\ah w lo X (.slice (some ⟨g,0,none⟩) (dx.length+1) ca) (dx ++ [eU])/\
  nW w (fun q=>lo<=q/\q≠g/\¬X q) (.mk k op n p t at_ ks) (GG k op n p t at_ (.slice A ks.length cc))/\D (.mk k op n p t at_ ks) w/\(v.ownBlock=some g\/w0.heap.size<=g)
 a2:s=true->∃t g ca,va= .slice (some ⟨g,0,none⟩) (dx.length+1) ca/\ah w lo X (.slice (some ⟨g,0,none⟩) (dx.length+1) ca) (dx ++ [t])/\D t w/\(v.ownBlock=some g\/w0.heap.size<=g)
 i1:i=true->∀g n ca,va= .slice (some ⟨g,0,none⟩) n ca->vi= .pointer (some ⟨g,dx.length*7,none⟩)
 k1:k=true->ag w h 24 #[c0,c1,c2,c3,c4,c5,va]
theorem eX {id:Nat} {a0:Act} {w0:World} {Q:Exit->Act->World->Prop} {ops:Array Oper} {dc dz da di dl dn df:Nat} {oc oz oa oi os ok:Oper} {lo h n:Nat} {X:Nat->Prop} {c0 c1 c2 c3 c4 c5 v:Value} {dx:List Tr}
  (m ci zi ai ii si ki li ni fi b:Nat)
  (f:FuncId)
  (argv:Array Value)
  (B:List PanicEntry->Prop)
  (C:World->Prop)
  (D:Tr->World->Prop)
  (hK:ah w0 lo X v dx)
  (dO:X h)
  (EG:∀q,X q->q < w0.heap.size)
  (hBh:ag w0 h 24 #[c0,c1,c2,c3,c4,c5,v])
  (hbl:b < lo)
  (Np:h < w0.heap.size)
  (hne:h≠b)
  (hlo:lo<=w0.heap.size)
  (hlen:dx.length<=3*cK)
  (hC:Calm w0.heap.size C)
  (hC0:C w0)
  (hD2:∀t,Calm lo (D t))
  (hDh:∀t w u,D t w->D t (w.setCell ⟨h,6,none⟩ u))
  (hcall:∀w,C w->Calls Tryz.prog f argv w (Ij b w B D))
  (hbad:∀(a:Act) (w':World) (c:List PanicEntry),a.defers=a0.defers->B c->Gr (·=b) w0 w'->Q (.panic c) a w')
  (hnext:∀(vals:Nat->Value) (w':World) (A:Option Addr) (c:Nat) (t:Tr),D t w'->ah w' lo X (.slice A (dx.length+1) c) (dx ++ [t])->Gr (fun q=>q=b\/q=h\/v.ownBlock=some q) w0 w'->ag w' h 24 #[c0,c1,c2,c3,c4,c5,.slice A (dx.length+1) c]->(∀q,(Value.slice A (dx.length+1) c).ownBlock=some q->v.ownBlock=some q\/w0.heap.size<=q)->
   Q .normal (bG vals (ops.toList.take m) 0 a0) w')
  (hms:ops.size=m:=by rfl)
  (hrn:Region.ready .any ops (nU m m)=[]:=by kernel_rfl)
  (hB:preB ops m=true:=by kernel_rfl)
  (hn:a0.tmps.size=n:=by rfl)
  (hin:Ux ops m n=true:=by kernel_rfl)
  (hdist:[ci,zi,ai,ii,si,ki].Nodup:=by decide)
  (agL:ci < m/\zi < m/\ai < m/\ii < m/\si < m/\ki < m:=by decide)
  (hl3:li < m/\ni < m/\fi < m:=by decide)
  (adj:¬li∈[ci,zi,ai,ii,si,ki]/\¬ni∈[ci,zi,ai,ii,si,ki]/\¬fi∈[ci,zi,ai,ii,si,ki]:=by decide)
  (hoc:ops[ci]? =some oc:=by rfl)
  (hoz:ops[zi]? =some oz:=by rfl)
  (hoa:ops[ai]? =some oa:=by rfl)
  (hoi:ops[ii]? =some oi:=by rfl)
  (hos:ops[si]? =some os:=by rfl)
  (hok:ops[ki]? =some ok:=by rfl)
  (hdc:oc.dst=some dc:=by rfl)
  (hdz:oz.dst=some dz:=by rfl)
  (hda:oa.dst=some da:=by rfl)
  (hdi:oi.dst=some di:=by rfl)
  (hds:os.dst=none:=by rfl)
  (hdk:ok.dst=none:=by rfl)
  (hdl:∃o,ops[li]? =some o/\o.dst=some dl:=by exact ⟨_,rfl,rfl⟩)
  (hdn:∃o,ops[ni]? =some o/\o.dst=some dn:=by exact ⟨_,rfl,rfl⟩)
  (hdf:∃o,ops[fi]? =some o/\o.dst=some df:=by exact ⟨_,rfl,rfl⟩)
  (hz:∃y0 p0 Ex,oz={ dst:=some dz,op:=.buildSlice 22 1 #[(0,.const (.agg #[.int .i64 0,.int .i64 0,.int .i64 0,.string ⟨#[]⟩,.string ⟨#[]⟩,.int .i64 0,.slice none 0 0]))],type:=y0,pos:=p0,after:=Ex,guard:=none }:=by exact ⟨_,_,_,rfl⟩)
  (ha:oa.op= .call { callee:=.builtin .append,args:=#[.tmp dl,.tmp dz],argTypes:=#[22,22] }:=by rfl)
  (hi:∃y0 p0 Ex,oi={ dst:=some di,op:=.indexAddr 22 (.tmp da) (.tmp dn),type:=y0,pos:=p0,after:=Ex,guard:=none }:=by exact ⟨_,_,_,rfl⟩)
  (hs:∃y0 p0 Ex,os={ dst:=none,op:=.store 24 (.tmp di) (.tmp dc),type:=y0,pos:=p0,after:=Ex,guard:=none }:=by exact ⟨_,_,_,rfl⟩)
  (hk:∃y0 p0 Ex,ok={ dst:=none,op:=.store 22 (.tmp df) (.tmp da),type:=y0,pos:=p0,after:=Ex,guard:=none }:=by exact ⟨_,_,_,rfl⟩)
  (e1:dep ops ai ci=true:=by kernel_rfl)
  (e2:dep ops ai zi=true:=by kernel_rfl)
  (e3:dep ops ai li=true:=by kernel_rfl)
  (e4:dep ops ii ai=true:=by kernel_rfl)
  (e5:dep ops ii ni=true:=by kernel_rfl)
  (e6:dep ops si ii=true:=by kernel_rfl)
  (e7:dep ops si ci=true:=by kernel_rfl)
  (e8:dep ops ki ai=true:=by kernel_rfl)
  (e9:dep ops ki fi=true:=by kernel_rfl)
  (hlv:(Lh m b h v dx.length) li=v:=by rfl)
  (hln:(Lh m b h v dx.length) ni= .int .i64 dx.length:=by rfl)
  (hlf:(Lh m b h v dx.length) fi= .pointer (some ⟨h,6,none⟩):=by rfl)
  (hrun:∀(a:Act) (w:World),(∀t,(∀o'∈ops,o'.dst≠some t)->a.eval (.tmp t)=a0.eval (.tmp t))->(∀(j:Nat) (o':Oper) (d:Nat),j < m->ops[j]? =some o'->o'.dst=some d->dep ops ci j=true->¬j∈[ci,zi,ai,ii,si,ki]->a.eval (.tmp d)=(Lh m b h v dx.length) j)->(execOp a.eval oc).run Tryz.prog w= .ok (.enter f argv) w:=by (intro a w hun hev;first|(have e2:_=Value.pointer (some ⟨_,0,none⟩):=hev 2 _ _ (by omega) rfl rfl (by kernel_rfl) (by decide);simp [Act.eval] at e2;unfold execOp;go_simp;done)|(have e2:_=Value.pointer (some ⟨_,0,none⟩):=hev 4 _ _ (by omega) rfl rfl (by kernel_rfl) (by decide);simp [Act.eval] at e2;unfold execOp;go_simp)))
  (vH:∀(i:Nat) (o:Oper),ops[i]? =some o->i < m->¬i∈[ci,zi,ai,ii,si,ki]->∀(a:Act) (w:World),(i=li->w.cell? ⟨h,6,none⟩=some v)->(∀t,(∀o'∈ops,o'.dst≠some t)->a.eval (.tmp t)=a0.eval (.tmp t))->
   (∀(j:Nat) (o':Oper) (d:Nat),j < m->ops[j]? =some o'->o'.dst=some d->dep ops i j=true->¬j∈[ci,zi,ai,ii,si,ki]->a.eval (.tmp d)=(Lh m b h v dx.length) j)->(execOp a.eval o).run Tryz.prog w= .ok (.value ((Lh m b h v dx.length) i)) w:=by (intro i o hoi hi hx a w hgr hun hev;rcases (show i=0\/i=1\/i=2\/i=3\/i=4\/i=5\/i=6\/i=7\/i=8\/i=9\/10<=i by omega) with rfl|rfl|rfl|rfl|rfl|rfl|rfl|rfl|rfl|rfl|hi2 <;> first|exact absurd (by decide) hx|(rcases (show i=10\/i=11\/i=12\/i=13 by omega) with rfl|rfl|rfl|rfl <;> first|exact absurd hi (by decide)|exact absurd (by decide) hx|(obtain rfl:=Option.some.inj hoi;first|exact AU _ _ _ _ _ _ _ _ (hev 0 _ _ (by omega) rfl rfl (by kernel_rfl) (by decide))|exact sZ _ _ _ _ _ _ _ _ (hev 11 _ _ (by omega) rfl rfl (by kernel_rfl) (by decide))))|(obtain rfl:=Option.some.inj hoi;first|exact sZ _ _ _ _ _ _ _ _ ((hun _ (fD (by kernel_rfl))).trans rfl)|exact qd _ _ _ _ _ _ _ _ ((hun _ (fD (by kernel_rfl))).trans rfl)|exact AU _ _ _ _ _ _ _ _ (hev 0 _ _ (by omega) rfl rfl (by kernel_rfl) (by decide))|exact sZ _ _ _ _ _ _ _ _ (hev 1 _ _ (by omega) rfl rfl (by kernel_rfl) (by decide))|exact vF _ _ _ _ _ _ _ _ 6 _ (hev 0 _ _ (by omega) rfl rfl (by kernel_rfl) (by decide)) (hgr rfl)|exact vF _ _ _ _ _ _ _ _ 6 _ (hev 2 _ _ (by omega) rfl rfl (by kernel_rfl) (by decide)) (hgr rfl)|exact x_len _ _ _ _ _ _ _ _ _ _ 0 (hev 1 _ _ (by omega) rfl rfl (by kernel_rfl) (by decide))|exact x_len _ _ _ _ _ _ _ _ _ _ 0 (hev 3 _ _ (by omega) rfl rfl (by kernel_rfl) (by decide))))):
  (Code.region id ops true).wp Tryz.prog Q a0 w0:=by
 obtain ⟨_,_,_,_,_,_,_,Yg,_⟩:=hBh.av
 replace vH:=fun (i:Nat) (o:Oper) h1 h2 h3 (a:Act) (w:World) (h4:i=li->Gr (WX b v) w0 w) h5 h6=>vH i o h1 h2 h3 a w (fun e=>((h4 e).cell (p:=⟨h,6,none⟩) Np (fun e=>e.elim hne (fun e=>hK.1 _ e dO))).trans Yg) h5 h6
 clear Yg
 have hS:∀g,lo<=g->¬X g->g < w0.heap.size->¬g=b:=fun g h1 _ _ h2=>by omega
 obtain ⟨hcm,hzm,ham,him,hsm,hkm⟩:=agL
 obtain ⟨hlm,hnm,hfm⟩:=hl3
 obtain ⟨hlx,hnx,hfx⟩:=adj
 simp only [List.nodup_cons,List.mem_cons,List.not_mem_nil,or_false,not_or,List.nodup_nil,not_false_eq_true,and_true] at hdist
 obtain ⟨⟨cz,cax,ci',cs,ck⟩,⟨za,zi',zs,zk⟩,⟨ai',asx,ak⟩,⟨is,ik⟩,sk⟩:=hdist
 have yN:∀(i j:Nat) (o:Oper) (L:Nat->Bool),ops[i]? =some o->dep ops i j=true->(∀e∈o.after,Region.binds .any e=true->L e.on=true)->L j=true:=by
  intro i j o L ho hd hall
  obtain ⟨e,he,hon,hb⟩:=vG hd ho
  have:=hall e he hb
  rwa [hon] at this
 refine rE m (by kernel_rfl) hB (fun L vals w=>((∀i,i < m->¬i∈[ci,zi,ai,ii,si,ki]->L i=true->vals i=(Lh m b h v dx.length) i)/\(L ai=true->L li=true))/\JB5 b w0 h lo X dx c0 c1 c2 c3 c4 c5 v C D (L ci) (L zi) (L ai) (L ii) (L si) (L ki) (vals ci) (vals zi) (vals ai) (vals ii) w) ?_ ?_ n hn hin ?_ ?_
 ·intro L L' vals w hL j
  show _/\JB5 b w0 h lo X dx c0 c1 c2 c3 c4 c5 v C D (L' ci) (L' zi) (L' ai) (L' ii) (L' si) (L' ki) (vals ci) (vals zi) (vals ai) (vals ii) w
  rw [<-hL ci hcm,<-hL zi hzm,<-hL ai ham,<-hL ii him,<-hL si hsm,<-hL ki hkm]
  exact ⟨⟨fun i hi h1 h2=>j.1.1 i hi h1 (by rw [hL i hi];exact h2),fun h=>by rw [<-hL li hlm];exact j.1.2 h⟩,j.2⟩
 ·intro vals
  refine ⟨⟨nofun,nofun⟩,nofun,nofun,nofun,nofun,(Gr.refl _).drew,fun _=>(Gr.refl _).drew,fun _=>(Gr.refl _).drew,fun _=>⟨hC.drew hC0,(Gr.refl _).drew⟩,nofun,nofun,nofun,nofun,nofun,nofun⟩
 ·intro i o ho hi2 a w L vals j vB had hun hev rG K hK2
  obtain ⟨⟨jl,jx⟩,j⟩:=j
  have Ll:∀(k:Nat) (o':Oper) (d:Nat),k < m->ops[k]? =some o'->o'.dst=some d->¬k∈[ci,zi,ai,ii,si,ki]->L k=true->a.eval (.tmp d)=(Lh m b h v dx.length) k:=fun k o' d hk ho' hd hx hl=>(hev k o' d hk ho' hd hl).trans (jl k hk hx hl)
  by_cases hx:i∈[ci,zi,ai,ii,si,ki]
  ·simp only [List.mem_cons,List.not_mem_nil,or_false] at hx
   rcases hx with rfl|rfl|rfl|rfl|rfl|rfl
   ·
    have U9:upd L i true ai=true->L li=true:=fun h=>by rw [upd_ne _ _ _ (Ne.symm cax)] at h;exact jx h
    obtain rfl:oc=o:=Option.some.inj (hoc.symm.trans ho)
    have la:L ai=false:=by
     cases h5:L ai with
     |false=>rfl
     |true=>have:=(j.d1 h5).1;rw [vB] at this;cases this
    obtain ⟨q1,q2⟩:=j.q0 vB
    have g0:Gr (·=b) w0 w:=q2.mono fun _ _ hf=>False.elim hf
    have hs0:=q2.size
    refine fP (hrun a _ hun (fun k o' d hk ho' hd U1 hx=>Ll k o' d hk ho' hd hx (yN i k _ L hoc U1 rG))) ((hcall w q1).mono ?_)
    rintro e w1 ⟨hg,⟨c,hbc,rfl⟩|⟨k,op,nn,p,t,aa,ks,A,c,rfl,hk1,hd1⟩⟩
    ·exact hbad a w1 c had hbc (g0.trans hg)
    ·have lk:L ki=false:=by
      cases h5:L ki with
      |false=>rfl
      |true=>have:=j.d4 h5;rw [la] at this;cases this
     have ls:L si=false:=by
      cases h5:L si with
      |false=>rfl
      |true=>have:=j.d2 (j.d3 h5);rw [la] at this;cases this
     have li':L ii=false:=by
      cases h5:L ii with
      |false=>rfl
      |true=>have:=j.d2 h5;rw [la] at this;cases this
     refine hK2 _ _ ⟨⟨fun q hq h1 h2=>?_,fun h2=>?_⟩,?_⟩
     ·have hqi:q≠i:=fun h=>h1 (by simp [h])
      rw [upd_ne _ _ _ hqi] at h2 |-;exact jl q hq h1 h2
     ·have hqi:li≠i:=fun h=>hlx (by simp [h])
      rw [upd_ne _ _ _ hqi];exact U9 h2
     ·simp only [jc,upd_ne _ i _ (Ne.symm cz),upd_ne _ i _ (Ne.symm cax),upd_ne _ i _ (Ne.symm ci'),upd_ne _ i _ (Ne.symm cs),upd_ne _ i _ (Ne.symm ck),la,lk,ls,li']
      exact ⟨nofun,nofun,nofun,nofun,(g0.trans hg).mono fun q _ hq=>.inl hq,fun _=>(g0.trans hg).mono fun q _ hq=>.inl hq,fun _=>g0.trans hg,nofun,fun _ _=>⟨k,op,nn,p,t,aa,ks,A,c,rfl,hk1.mono hs0,hd1⟩,fun h1 _=>by
       obtain ⟨q,hq1,hq2⟩:=j.z1 h1 la
       exact ⟨q,hq1,hq2.gr hg fun g h1 _ h2=>by have:g=b:=h2;omega⟩,nofun,nofun,nofun,nofun⟩
   ·
    have U9:upd L i true ai=true->L li=true:=fun h=>by rw [upd_ne _ _ _ (Ne.symm za)] at h;exact jx h
    have la:L ai=false:=by
     cases h5:L ai with
     |false=>rfl
     |true=>have:=(j.d1 h5).2;rw [vB] at this;cases this
    have lk:L ki=false:=by
     cases h5:L ki with
     |false=>rfl
     |true=>have:=j.d4 h5;rw [la] at this;cases this
    have ls:L si=false:=by
     cases h5:L si with
     |false=>rfl
     |true=>have:=j.d2 (j.d3 h5);rw [la] at this;cases this
    have li':L ii=false:=by
     cases h5:L ii with
     |false=>rfl
     |true=>have:=j.d2 h5;rw [la] at this;cases this
    obtain ⟨y0,p0,Ex,rfl⟩:=hz
    obtain rfl:=Option.some.inj (hoz.symm.trans ho)
    refine aY (Ih _ _ _ _ _ _ _ _ _ _ _ _ _ none 0 0 rfl) (hK2 _ _ ⟨⟨fun q hq h1 h2=>?_,fun h2=>?_⟩,?_⟩)
    ·have hqi:q≠i:=fun h=>h1 (by simp [h])
     rw [upd_ne _ _ _ hqi] at h2 |-;exact jl q hq h1 h2
    ·have hqi:li≠i:=fun h=>hlx (by simp [h])
     rw [upd_ne _ _ _ hqi];exact U9 h2
    ·have g0:=j.g1 la
     simp only [jc,upd_ne _ i _ cz,upd_ne _ i _ (Ne.symm za),upd_ne _ i _ (Ne.symm zi'),upd_ne _ i _ (Ne.symm zs),upd_ne _ i _ (Ne.symm zk),la,lk,ls,li']
     refine ⟨nofun,nofun,nofun,nofun,j.gr.alloc _,fun _=>(j.gb lk).alloc _,fun _=>g0.alloc _,fun h=>⟨hC.alloc (j.q0 h).1 _,(j.q0 h).2.alloc _⟩,fun hc _=>?_,fun _ _=>⟨_,rfl,aI.lit (n:=1) (bO.single (AX w _)) g0.size (by simp [maxLen]) rfl⟩,nofun,nofun,nofun,nofun⟩
     obtain ⟨k,op,nn,p,t,aa,ks,A,c,h1,h2,h3⟩:=j.q1 hc la
     exact ⟨k,op,nn,p,t,aa,ks,A,c,h1,h2.alloc _,(hD2 _).alloc h3 _⟩
   ·
    obtain rfl:oa=o:=Option.some.inj (hoa.symm.trans ho)
    have lc:L ci=true:=yN i ci _ L hoa e1 rG
    have lz:L zi=true:=yN i zi _ L hoa e2 rG
    have ll:L li=true:=yN i li _ L hoa e3 rG
    have U9:upd L i true i=true->L li=true:=fun _=>ll
    have lk:L ki=false:=by
     cases h5:L ki with
     |false=>rfl
     |true=>have:=j.d4 h5;rw [vB] at this;cases this
    have li':L ii=false:=by
     cases h5:L ii with
     |false=>rfl
     |true=>have:=j.d2 h5;rw [vB] at this;cases this
    have ls:L si=false:=by
     cases h5:L si with
     |false=>rfl
     |true=>have:=j.d3 h5;rw [li'] at this;cases this
    obtain ⟨k,op,nn,p,t,aa,ks,A,c,YG,hk1,hd1⟩:=j.q1 lc vB
    obtain ⟨q,hvz,hkz⟩:=j.z1 lz vB
    have g1:=j.g1 vB
    have hs1:=g1.size
    have hK1:=hK.gr g1 hS
    obtain ⟨ol,hol,hdl⟩:=hdl
    refine sS (N:=w0.heap.size) (h:=h) (k:=k) (op:=op) (m:=nn) (p:=p) (t:=t) (at_:=aa) hK1 dO EG (fun q hq=>(hK.own hq).2.1) hkz hk1 hlo hs1 hlen _ _ ha ((Ll li _ _ hlm hol hdl hlx ll).trans hlv) ((hev zi _ _ hzm hoz hdz lz).trans hvz) ?_
    intro g ca w' hk2 hrp hgo hlg _ _ _
    have hgw:Gr (WX b v) w w':=hgo.mono fun q _ hq=>.inr hq
    have hgw1:Gr (fun q=>lo<=q) w w':=hgo.mono fun q _ hq=>(hK.own hq).1
    refine hK2 _ _ ⟨⟨fun q hq h1 h2=>?_,fun h2=>?_⟩,?_⟩
    ·have hqi:q≠i:=fun h=>h1 (by simp [h])
     rw [upd_ne _ _ _ hqi] at h2 |-;exact jl q hq h1 h2
    ·have hqi:li≠i:=fun h=>hlx (by simp [h])
     rw [upd_ne _ _ _ hqi];exact U9 h2
    ·simp only [jc,upd_ne _ i _ cax,upd_ne _ i _ za,upd_ne _ i _ (Ne.symm ai'),upd_ne _ i _ (Ne.symm asx),upd_ne _ i _ (Ne.symm ak),lc,lz,lk,ls,li']
     refine ⟨fun _=>⟨rfl,rfl⟩,nofun,nofun,nofun,j.gr.trans (hgo.mono fun q _ hq=>.inr (.inr hq)),fun _=>(j.gb lk).trans hgw,nofun,nofun,nofun,nofun,fun _ _=>⟨k,op,nn,p,t,aa,ks,A,c,g,ca,YG,rfl,hk2,hrp,hD2 _ _ _ hd1 hgw1,hlg.imp (fun h=>h) (fun h=>Nat.le_trans hs1 h)⟩,nofun,nofun,nofun⟩
   ·
    have U9:upd L i true ai=true->L li=true:=fun h=>by rw [upd_ne _ _ _ ai'] at h;exact jx h
    have la:L ai=true:=yN i ai _ L ho e4 rG
    have ln:L ni=true:=yN i ni _ L ho e5 rG
    have ls:L si=false:=by
     cases h5:L si with
     |false=>rfl
     |true=>have:=j.d3 h5;rw [vB] at this;cases this
    obtain ⟨y0,p0,Ex,rfl⟩:=hi
    obtain rfl:=Option.some.inj (hoi.symm.trans ho)
    obtain ⟨k,op,nn,p,t,aa,ks,A,c,g,ca,YG,hva,hk1,hrp,hd1,hog⟩:=j.a1 la ls
    obtain ⟨on_,hon,hdn⟩:=hdn
    refine aY (Ii _ _ _ _ _ _ _ g (dx.length+1) ca dx.length _ ((hev ai _ _ ham hoa hda la).trans hva) ((Ll ni _ _ hnm hon hdn hnx ln).trans hln) (by omega)) (hK2 _ _ ⟨⟨fun q hq h1 h2=>?_,fun h2=>?_⟩,?_⟩)
    ·have hqi:q≠i:=fun h=>h1 (by simp [h])
     rw [upd_ne _ _ _ hqi] at h2 |-;exact jl q hq h1 h2
    ·have hqi:li≠i:=fun h=>hlx (by simp [h])
     rw [upd_ne _ _ _ hqi];exact U9 h2
    ·simp only [jc,upd_ne _ i _ ci',upd_ne _ i _ zi',upd_ne _ i _ ai',upd_ne _ i _ (Ne.symm is),upd_ne _ i _ (Ne.symm ik),la,ls]
     refine ⟨fun _=>j.d1 la,fun _=>rfl,nofun,fun _=>rfl,j.gr,j.gb,nofun,j.q0,fun _ h=>(by cases h),fun _ h=>(by cases h),fun _ _=>⟨k,op,nn,p,t,aa,ks,A,c,g,ca,YG,hva,hk1,hrp,hd1,hog⟩,nofun,fun _ g' n' ca' h=>?_,j.k1⟩
     rw [hva] at h
     injection h with h1
     injection h1 with h1
     injection h1 with h1
     rw [h1]
   ·
    have U9:upd L i true ai=true->L li=true:=fun h=>by rw [upd_ne _ _ _ asx] at h;exact jx h
    have lii:L ii=true:=yN i ii _ L ho e6 rG
    have lc:L ci=true:=yN i ci _ L ho e7 rG
    have la:L ai=true:=j.d2 lii
    obtain ⟨y0,p0,Ex,rfl⟩:=hs
    obtain rfl:=Option.some.inj (hos.symm.trans ho)
    obtain ⟨k,op,nn,p,t,aa,ks,A,c,g,ca,YG,hva,hk1,hrp,hd1,hog⟩:=j.a1 la vB
    obtain ⟨g',hg',hg1,hg2,hcs,hfs⟩:=hk1.kid.some_ (by simp)
    have hgh:g'≠h:=fun e=>(hk1.own (by rw [hg'];rfl)).2.2 (e▸dO)
    injection hg' with hg'
    injection hg' with hg'
    subst hg'
    have hvi:=j.i1 lii _ _ _ hva
    have hgw:Gr (fun q=>q=g) w (fA w g (dx.length*7) (.int .i64 k) (.int .i64 op) (.int .i64 nn) (.string (bs p)) (.string (bs t)) (.int .i64 aa) (.slice A ks.length c)):=fQ (Gr.refl w) (.inr rfl)
    refine iD _ _ _ _ _ _ _ g (dx.length*7) k op nn p t aa ks.length c A ((hev ii _ _ him hoi hdi lii).trans hvi) ((hev ci _ _ hcm hoc hdc lc).trans YG) (fun q hq=>hcs _ (by simp;omega)) hfs ?_
    have:=hK2 undef (fA w g (dx.length*7) (.int .i64 k) (.int .i64 op) (.int .i64 nn) (.string (bs p)) (.string (bs t)) (.int .i64 aa) (.slice A ks.length c)) ⟨⟨fun q hq h1 h2=>?_,fun h2=>?_⟩,?_⟩
    ·exact this
    ·have hqi:q≠i:=fun h=>h1 (by simp [h])
     rw [upd_ne _ _ _ hqi] at h2 |-;exact jl q hq h1 h2
    ·have hqi:li≠i:=fun h=>hlx (by simp [h])
     rw [upd_ne _ _ _ hqi];exact U9 h2
    ·simp only [jc,upd_ne _ i _ cs,upd_ne _ i _ zs,upd_ne _ i _ asx,upd_ne _ i _ is,upd_ne _ i _ (Ne.symm sk),la]
     refine ⟨fun _=>j.d1 la,fun _=>rfl,fun _=>lii,fun _=>rfl,j.gr.wide hgw (fun n hn e=>by have e1:n=g:=e;subst e1;exact hog.elim (fun h=>.inr (.inr h)) (fun h=>by omega)),fun h=>(j.gb h).wide hgw (fun n hn e=>by have e1:n=g:=e;subst e1;exact hog.elim (fun h=>.inr h) (fun h=>by omega)),nofun,fun h=>(by rw [lc] at h;cases h),fun _ h=>(by cases h),fun _ h=>(by cases h),fun _ h=>(by cases h),fun _=>⟨_,g,ca,hva,ah.put hk1 hrp,hD2 _ _ _ hd1 (hgw.mono fun q _ e=>by show lo<=q;omega),hog⟩,fun _=>j.i1 lii,fun h=>(j.k1 h).gr hgw (fun e=>hgh e.symm)⟩
   ·
    have U9:upd L i true ai=true->L li=true:=fun h=>by rw [upd_ne _ _ _ ak] at h;exact jx h
    have la:L ai=true:=yN i ai _ L ho e8 rG
    have lf:L fi=true:=yN i fi _ L ho e9 rG
    obtain ⟨y0,p0,Ex,rfl⟩:=hk
    obtain rfl:=Option.some.inj (hok.symm.trans ho)
    have hB2:ag w h 24 #[c0,c1,c2,c3,c4,c5,v]:=hBh.gr (j.gb vB) (by unfold WX;exact fun e=>e.elim hne (fun e=>hK.1 _ e dO))
    obtain ⟨of_,hof,hdf⟩:=hdf
    have hva:∃g ca,vals ai= .slice (some ⟨g,0,none⟩) (dx.length+1) ca:=by
     cases hsb:L si with
     |false=>
      obtain ⟨k,op,nn,p,t,aa,ks,A,c,g,ca,_,hva,_⟩:=j.a1 la hsb
      exact ⟨g,ca,hva⟩
     |true=>
      obtain ⟨t,g,ca,hva,_⟩:=j.a2 hsb
      exact ⟨g,ca,hva⟩
    obtain ⟨g,ca,hva⟩:=hva
    refine tu _ _ _ _ _ _ _ h 6 v _ (dx.length+1) ca ((Ll fi _ _ hfm hof hdf hfx lf).trans hlf) ((hev ai _ _ ham hoa hda la).trans hva) (hB2.cell 6) (hB2.frozen 6) ?_
    have hgh:Gr (fun q=>q=h) w (w.setCell ⟨h,6,none⟩ (.slice (some ⟨g,0,none⟩) (dx.length+1) ca)):=Gr.setCell (S:=fun q=>q=h) (p:=⟨h,6,none⟩) (Gr.refl w) (.inr rfl) _
    have:=hK2 undef (w.setCell ⟨h,6,none⟩ (.slice (some ⟨g,0,none⟩) (dx.length+1) ca)) ⟨⟨fun q hq h1 h2=>?_,fun h2=>?_⟩,?_⟩
    ·exact this
    ·have hqi:q≠i:=fun h=>h1 (by simp [h])
     rw [upd_ne _ _ _ hqi] at h2 |-;exact jl q hq h1 h2
    ·have hqi:li≠i:=fun h=>hlx (by simp [h])
     rw [upd_ne _ _ _ hqi];exact U9 h2
    ·simp only [jc,upd_ne _ i _ ck,upd_ne _ i _ zk,upd_ne _ i _ ak,upd_ne _ i _ ik,upd_ne _ i _ sk,la]
     refine ⟨fun _=>j.d1 la,fun _=>rfl,j.d3,fun _=>rfl,j.gr.trans (hgh.mono fun q _ hq=>.inr (.inl hq)),nofun,nofun,fun h=>(by rw [(j.d1 la).1] at h;cases h),fun _ h=>(by cases h),fun _ h=>(by cases h),fun _ hsb=>?_,fun hsb=>?_,j.i1,fun _=>by rw [hva];exact hB2.jC _⟩
     ·obtain ⟨k,op,nn,p,t,aa,ks,A,c,g,ca,YG,hva,hk1,hrp,hd1,hog⟩:=j.a1 la hsb
      exact ⟨k,op,nn,p,t,aa,ks,A,c,g,ca,YG,hva,hk1.setCell (.inr dO) _,hrp.gr hgh (fun q hq _ he=>hq.2.2 (by have e1:q=h:=he;exact e1▸dO)) (fun q _ hq=>hq),hDh _ _ _ hd1,hog⟩
     ·obtain ⟨t,g,ca,hva,hk1,hd1,hog⟩:=j.a2 hsb
      exact ⟨t,g,ca,hva,hk1.setCell (.inr dO) _,hDh _ _ _ hd1,hog⟩
  ·have hne:∀x,x∈[ci,zi,ai,ii,si,ki]->x≠i:=fun x hxm h=>hx (h▸hxm)
   refine aY (vH i o ho hi2 hx a w (fun h=>?_) hun (fun k o' d hk ho' hd hdk hx2=>Ll k o' d hk ho' hd hx2 (yN i k _ L ho hdk rG))) (hK2 _ _ ⟨⟨fun q hq h1 h2=>?_,fun h2=>?_⟩,?_⟩)
   ·subst h
    refine j.gb ?_
    cases h5:L ki with
    |false=>rfl
    |true=>
     have:=jx (j.d4 h5);rw [vB] at this;cases this
   ·by_cases hqi:q=i
    ·subst hqi;rw [jc]
    ·rw [upd_ne _ _ _ hqi] at h2 |-;exact jl q hq h1 h2
   ·rw [upd_ne _ _ _ (hne ai (by simp))] at h2
    by_cases hqi:li=i
    ·rw [hqi,jc]
    ·rw [upd_ne _ _ _ hqi];exact jx h2
   ·simp only [upd_ne _ i _ (hne ci (by simp)),upd_ne _ i _ (hne zi (by simp)),upd_ne _ i _ (hne ai (by simp)),upd_ne _ i _ (hne ii (by simp)),upd_ne _ i _ (hne si (by simp)),upd_ne _ i _ (hne ki (by simp))]
    exact j
 ·intro vals w a ha _ _ _ _ j
  obtain ⟨_,j⟩:=j
  obtain ⟨t,g,ca,hva,hk1,hd1,hog⟩:=j.a2 rfl
  have hB:=j.k1 rfl
  rw [hva] at hB
  have:=hnext vals w _ _ t hd1 hk1 j.gr hB (fun q hq=>by injection hq with hq;exact hq▸hog)
  rw [<-ha] at this
  rw [<-hms,Nat.sub_self]
  exact sQ (by rw [hms];exact hrn) this
theorem xlt {h n:Nat} (hh:h < n):∀q,(fun q=>q=h) q->q < n:=fun q hq=>by have:q=h:=hq;omega
theorem Lm {w0:World} {b lo h:Nat} {v:Value} {dx:List Tr} {t0:TypeId} {F:Option Addr->Nat->Array Value} {D:Tr->World->Prop} {R:(Nat->Value)->World->Prop} (hK:aN w0 lo h v dx)
  (hx:∀(vals:Nat->Value) (w':World) (A:Option Addr) (c:Nat) (t:Tr),D t w'->aN w' lo h (.slice A (dx.length+1) c) (dx ++ [t])->Gr (fun q=>q=b\/q=h\/lo<=q) w0 w'->ag w' h t0 (F A c)->R vals w'):
  ∀(vals:Nat->Value) (w':World) (A:Option Addr) (c:Nat) (t:Tr),D t w'->ah w' lo (·=h) (.slice A (dx.length+1) c) (dx ++ [t])->Gr (fun q=>q=b\/q=h\/v.ownBlock=some q) w0 w'->ag w' h t0 (F A c)->(∀q,(Value.slice A (dx.length+1) c).ownBlock=some q->v.ownBlock=some q\/w0.heap.size<=q)->R vals w':=
 fun vals w' A c t hd hk hg hb _=>hx vals w' A c t hd ⟨fun e=>hk.1 h e rfl,hk.2⟩ (hg.mono fun q _ hq=>hq.elim .inl fun hq=>hq.elim (fun e=>.inr (.inl e)) fun e=>.inr (.inr (hK.p.own e).1)) hb
section
attribute [local go_sem ↓] eO eP eT eu
theorem LJ (n:Nat) (hn:n<=cK) (H:∀m,m<=n->ku m) (p:Pt):CW (n+1) p:=by
 intro E w l o aa cc s1 s2 g r fv hfv hP hs1 hs2 ha hc hq hr
 subst hfv hs1 hs2
 simp only [go,mg,eD,eH,dG,dM] at hq
 have hlt:=hP.lt
 have HR:=af hr
 have Hn:=H n (Nat.le_refl _)
 have fZ:=af hq
 have HA:=af ha
 have Jo:=af hc
 clear hr hq ha hc
 go_enter Tryz.func91,Tryz.ntmps91
 go_wp2_with (go_at_call 65;refine (kN E _ l o aa _ _ _ hP rfl HA.out fZ.out).mono ?_;rintro e w1 ⟨hg1,⟨a,k,hb,rfl⟩|⟨x1,l1,rfl,hq1,hP1⟩⟩;exact iG (Gr.trans aJ hg1) hb;have hG1:=o8 w hg1;have fG:=af hq1;clear hq1)
 have hs1:=hG1.size
 by_cases hm:mark l1=cc
 ·have eY:=fG.out
  rw [if_pos hm] at eY
  have HM:=af hm
  have fJ:=af eY
  clear eY hm fG
  go_wp2_with (first
   |(go_at_call 37;refine (aH E _ l1 (o+1) hP1).mono ?_;rw [HM.out];rintro e w2 ⟨rfl,hb2⟩;have hP2:=hP1.below hb2;have hG2:Gr (·=E.b) w w2:=hG1.trans (Gr.of_below hb2))
   |(go_at_call 66;refine (gY E _ l1 o cc _ _ _ hP2 rfl Jo.out fJ.out).mono ?_;rintro e w3 ⟨hg3,⟨a,k,hb,rfl⟩|⟨_,l3,rfl,hq3,hP3⟩⟩;exact And.intro rfl ⟨Gr.trans hG2 hg3,.inl ⟨_,_,hb,rfl⟩⟩;have hG3:Gr (·=E.b) w w3:=hG2.trans hg3;have kE:=af hq3;clear hq3))
  go_ret
  exact ⟨hG3,.inr ⟨[],none,0,l3,rfl,kE.out,aI.nil _ _ 0,by simp,hP3⟩⟩
 ·have eY:=fG.out
  rw [if_neg hm] at eY
  have hbf:=Cc hm
  have fJ:=af eY
  clear eY hm fG
  go_wp2_with (first
   |(go_at_call 37;refine (aH E _ l1 (o+1) hP1).mono ?_;rintro e w2 ⟨rfl,hb2⟩;have hP2:=hP1.below hb2;have hG2:Gr (·=E.b) w w2:=hG1.trans (Gr.of_below hb2);have hs2:=hb2.size)
   |(go_at_call 68;refine (Hn.list p E _ l1 (o+1) _ r _ rfl hP2 fJ.out HR.out).mono ?_;rintro e w3 ⟨hg3,⟨a,k,hb,rfl⟩|⟨kC,A3,c3,l3,rfl,hq3,hk3,GJ,hP3⟩⟩;exact And.intro rfl ⟨Gr.trans hG2 hg3,.inl ⟨_,_,hb,rfl⟩⟩;have hG3:Gr (·=E.b) w w3:=hG2.trans hg3;have kE:=af hq3;clear hq3)
   |(go_at_call 66;refine (gY E _ l3 o cc _ _ _ hP3 rfl Jo.out kE.out).mono ?_;rintro e w4 ⟨hg4,⟨a,k,hb,rfl⟩|⟨_,l4,rfl,hq4,qm⟩⟩;exact And.intro rfl ⟨Gr.trans hG3 hg4,.inl ⟨_,_,hb,rfl⟩⟩;have hG4:Gr (·=E.b) w w4:=hG3.trans hg4;have tH:=af hq4;clear hq4;have hk4:=(hk3.mono (lo':=w.heap.size) (by omega)).call hg4 hlt))
  go_ret
  exact ⟨hG4,.inr ⟨kC,A3,c3,l4,rfl,tH.out,hk4,GJ,qm⟩⟩
theorem JL (n:Nat) (hn:n<=cK) (H:∀m,m<=n->ku m):C0 (n+1) 113 .simple:=by
 intro E w l o g r hP hq hr
 simp only [go,eH,fC,eD,dG,dM] at hq
 have hlt:=hP.lt
 have hgt:=hP.toks.lt
 have HR:=af hr
 have Hn:=H n (Nat.le_refl _)
 clear hr
 have fZ:=af hq
 clear hq
 go_enter Tryz.func113,Tryz.ntmps113
 go_wp2_with (first
  |(go_at_call 62;refine (Hn.expr E _ l o _ r aO fZ.out HR.out).mono ?_;rintro e w1 ⟨hg1,⟨a,k,hb,rfl⟩|⟨k1,Ap,m1,p1,t1,a1,aU,A1,c1,l1,rfl,hq1,qK,_,hP1⟩⟩;exact iG (Gr.trans aJ hg1) hb;have hG1:=o8 w hg1;have fG:=af hq1;clear hq1;have kW:=hP1.lt;have oP:=hP1.toks.lt;have hs1:=hg1.size;(try simp at hs1);have az:ag w1 w.heap.size 24 Z7:=bU hg1;have qK:=aI.mono (lo':=w.heap.size+1) qK (by simp);have wW:=aI.lI (lo:=w.heap.size+1) (k:=k1) (op:=Ap) (m:=m1) (p:=p1) (t:=t1) (a:=a1) (aI.mono qK (by omega)) (by omega)))
 by_cases hm:mark l1=[61]
 ·skip
  have eY:=fG.out
  rw [if_pos hm] at eY
  obtain ⟨x2,l2,rfl⟩:=hP1.cons
  rw [bH] at eY
  have HX:=af (iB hP1.good (by rw [hm];simp))
  have HM:=af hm
  clear fG hm
  have fG:=af eY
  clear eY
  go_wp2_with (first
   |(go_at_call 37;refine (aH E _ (x2 :: l2) o aO).mono ?_;rw [HM.out,show bs [61]=⟨#[61]⟩ from rfl];rintro e w2 ⟨rfl,hg2⟩;have hP2:PS E w2 (x2 :: l2) o:=PS.below aO hg2;have hG2:=aL hG1 hg2;have hs2:=hg2.size;(try simp at hs2);have ax:=bV az hg2;have VA:aI w2 (w.heap.size+1) (.slice (some ⟨w1.heap.size,0,none⟩) 1 1) [Tr.mk k1 Ap m1 p1 t1 a1 aU]:=aI.aC nS hg2)
   |(go_at_call 39;refine (iK E _ x2 l2 o aO HX.out).mono ?_;rintro e w3 ⟨rfl,hg3,hP3⟩;have hG3:=bQ hG2 hg3;have hs3:=hg3.size;(try simp at hs3);have aF:=aD ax hg3;have uX:=aF.lt;have ZT:=YI VA hg3)
   |(go_at_call 62;refine (Hn.expr E _ l2 o _ r aO fG.out HR.out).mono ?_;rintro e w4 ⟨hg4,⟨a,k,hb,rfl⟩|⟨k4,Cn,m4,p4,t4,a4,BQ,A4,c4,l4,rfl,hq4,Bo,_,qm⟩⟩;exact iG (Gr.trans aJ hg4) hb;have hG4:=bQ hG3 hg4;have tH:=af hq4;clear hq4;have hs4:=hg4.size;(try simp at hs4);have aK:=aD aF hg4;have Fb:=aK.lt;have adB:=YI ZT hg4;have Bo:=aI.mono (lo':=w3.heap.size+0) Bo (by simp);have Vx:=aI.lI (lo:=w3.heap.size) (k:=k4) (op:=Cn) (m:=m4) (p:=p4) (t:=t4) (a:=a4) (aI.mono Bo (by omega)) (by omega))
   |(at_builtin;refine xM (lo:=w.heap.size+1) (N:=w3.heap.size) (b:=E.b) (v:=.slice (some ⟨w1.heap.size,0,none⟩) 1 1) (dx:=[Tr.mk k1 Ap m1 p1 t1 a1 aU]) (t:=(Tr.mk k4 Cn m4 p4 t4 a4 BQ)) rfl _ _ rfl (adB.alloc _) (fun q e=>by simp only [Value.ownBlock,Option.some.injEq] at e;omega) Vx (by omega) (by omega) (by simp [cK]) (by simp;omega) rfl rfl ?_;intro A6 c6 w6 aiI dA))
  have how:∀q,(Value.slice (some ⟨w1.heap.size,0,none⟩) 1 1).ownBlock=some q->w1.heap.size<=q:=fun q e=>by simp only [Value.ownBlock,Option.some.injEq] at e;omega
  have yC:PS E w6 l4 o:=(qm.alloc _).gr dA (fun e=>by have:=how _ e;omega) (fun e=>by have:=how _ e;omega)
  have iX:Gr (·=E.b) w w6:=(hG4.alloc _).wide dA (fun k hk e=>by have:=how _ e;omega)
  have bn:ag w6 w.heap.size 24 Z7:=(aK.alloc _).gr dA (fun e=>by have:=how _ e;omega)
  go_wp2_with (first
   |(go_at_call 18;(with_reducible refine (bT E _ l4 o [59] ⟨#[59]⟩ _ _ aO rfl (by simp) tH.out).mono ?_);rintro e w7 ⟨dZ,⟨a,k,hb,rfl⟩|⟨x7,l7,rfl,Dt,Ao⟩⟩;exact iG (Gr.trans aJ dZ) hb;have lV:=bQ iX dZ;have Nu:=af Dt;clear Dt;have bW:=aD bn dZ;obtain ⟨_,EO,EP,ER,ES,ET,EU,EW,EX⟩:=bW.av;have aiJ:aI w7 (w.heap.size+1) (.slice A6 ([Tr.mk k1 Ap m1 p1 t1 a1 aU].length+1) c6) ([Tr.mk k1 Ap m1 p1 t1 a1 aU] ++ [Tr.mk k4 Cn m4 p4 t4 a4 BQ]):=aI.call (b:=E.b) nS dZ (by omega)))
  exact aX Tryz.results113 rfl rfl dS ⟨aJ,.inr ⟨19,0,0,[],[],x2.2,([Tr.mk k1 Ap m1 p1 t1 a1 aU] ++ [Tr.mk k4 Cn m4 p4 t4 a4 BQ]),A6,c6,l7,rfl,Nu.out,aI.mono (lo:=w.heap.size+1) (v:=.slice A6 ([Tr.mk k1 Ap m1 p1 t1 a1 aU].length+1) c6) (ks:=([Tr.mk k1 Ap m1 p1 t1 a1 aU] ++ [Tr.mk k4 Cn m4 p4 t4 a4 BQ])) nS (by omega),by simp [cK],aO⟩⟩
 ·skip
  have eY:=fG.out
  rw [if_neg hm] at eY
  have adC:=bC hm
  clear fG hm
  have fG:=af eY
  clear eY
  go_wp2_with (first
   |(go_at_call 37;refine (aH E _ l1 o aO).mono ?_;rintro e w2 ⟨rfl,hg2⟩;have hP2:PS E w2 l1 o:=PS.below aO hg2;have hG2:=aL hG1 hg2;have ax:=bV az hg2;have VA:aI w2 (w.heap.size+1) (.slice (some ⟨w1.heap.size,0,none⟩) 1 1) [Tr.mk k1 Ap m1 p1 t1 a1 aU]:=aI.aC nS hg2)
   |(go_at_call 18;(with_reducible refine (bT E _ l1 o [59] ⟨#[59]⟩ _ _ aO rfl (by simp) fG.out).mono ?_);rintro e w3 ⟨hg3,⟨a,k,hb,rfl⟩|⟨x3,l3,rfl,hq3,hP3⟩⟩;exact iG (Gr.trans aJ hg3) hb;have hG3:=bQ hG2 hg3;have kE:=af hq3;clear hq3;have aF:=aD ax hg3;obtain ⟨_,vM,wQ,wR,wS,wT,wU,wV,vN⟩:=aF.av;have ZT:=YI VA hg3))
  exact aX Tryz.results113 rfl rfl dS ⟨aJ,.inr ⟨20,0,0,[],[],x3.2,[Tr.mk k1 Ap m1 p1 t1 a1 aU],_,1,l3,rfl,kE.out,aI.mono (lo:=w.heap.size+1) (v:=.slice (some ⟨w1.heap.size,0,none⟩) 1 1) (ks:=[Tr.mk k1 Ap m1 p1 t1 a1 aU]) nS (by omega),by simp [cK],aO⟩⟩
theorem VB (n:Nat) (hn:n<=cK) (H:∀m,m<=n->ku m):C0 (n+1) 64 .sig:=by
 intro E w l o g r hP hq hr
 simp only [go,eH,jr,dG,dM] at hq
 have hlt:=hP.lt
 have hgt:=hP.toks.lt
 have HR:=af hr
 have Hn:=H n (Nat.le_refl _)
 clear hr
 have fZ:=af hq
 clear hq
 go_enter Tryz.func64,Tryz.ntmps64
 go_wp2_with (first
  |(go_at_call 19;(with_reducible refine (jd E _ l o _ _ aO fZ.out).mono ?_);rintro e w1 ⟨hg1,⟨a,k,hb,rfl⟩|⟨x1,l1,rfl,hq1,hP1⟩⟩;exact iG (Gr.trans aJ hg1) hb;have hG1:=o8 w hg1;have fG:=af hq1;clear hq1;have kW:=hP1.lt;have oP:=hP1.toks.lt;have hs1:=hg1.size;(try simp at hs1);have az:ag w1 w.heap.size 24 Z7:=bU hg1)
  |(go_at_call 70;refine (Hn.head .typeOf E _ l1 o (w1.heap.size+2) (w1.heap.size+1) _ r 8 0 0 [] x1.1.t x1.2 ([]:List Tr) none 0 _ rfl aO (by omega) (by omega) (by omega) (by omega) (by omega) (by simp;try omega) (by simp) (show ag _ (w1.heap.size+1) 24 (N7 8 0 0 ⟨#[]⟩ (bs x1.1.t) x1.2 (.slice none 0 0)) from bz) (aN.kid (h:=w1.heap.size+1) oZ) (uU fG.out) HR.out).mono ?_;rintro e w2 ⟨hg2,⟨a,k,hb,rfl⟩|⟨m2,bN,A2,c2,l2,rfl,hq2,hP2,hn2,bI,bq⟩⟩;exact And.intro rfl ⟨Gr.wide aJ hg2 (fun q hq hs=>by (rcases hs with hs|hs|hs;exact hs;omega;omega)),.inl ⟨_,_,hb,rfl⟩⟩;have hG2:Gr (·=E.b) w w2:=Gr.wide aJ hg2 (fun q hq hs=>by (rcases hs with hs|hs|hs;exact hs;omega;omega));have hm2:m2=0\/m2=1:=(Decidable.byContradiction fun hc=>HR.out (by rw [<-hq2];exact if_neg hc));simp only [Tr.num,hm2,if_true] at hq2;have VC:(if m2=1 then (1:Int) else 0)=m2:=(by rcases hm2 with h|h <;> simp [h]);rw [VC] at bq;clear VC hm2;have fJ:=af hq2;clear hq2;have bq:ag w2 (w1.heap.size+1) 24 (N7 8 0 m2 ⟨#[]⟩ (bs x1.1.t) x1.2 (.slice A2 (([]:List Tr) ++ bN).length c2)):=bq;have ax:ag w2 w.heap.size 24 Z7:=ag.gr bz hg2 (by (rintro (h|h|h) <;> omega));have kY:aN w2 (w1.heap.size+2) (w1.heap.size+1) (.slice A2 (([]:List Tr) ++ bN).length c2) (([]:List Tr) ++ bN):=aI.x bI (by omega))
  |(go_at_call 18;(with_reducible refine (bT E _ l2 o [59] ⟨#[59]⟩ _ _ aO rfl (by simp) fJ.out).mono ?_);rintro e w3 ⟨hg3,⟨a,k,hb,rfl⟩|⟨x3,l3,rfl,hq3,hP3⟩⟩;exact iG (Gr.trans aJ hg3) hb;have hG3:=bQ hG2 hg3;have kE:=af hq3;clear hq3;have aF:=aD ax hg3;obtain ⟨_,vM,wQ,wR,wS,wT,wU,wV,vN⟩:=aF.av;have aM:=aD bq hg3;obtain ⟨_,yP,Jr,EL,Jp,GL,GM,sH,_⟩:=aM.av;have kX:aN w3 (w1.heap.size+2) (w1.heap.size+1) (.slice A2 (([]:List Tr) ++ bN).length c2) (([]:List Tr) ++ bN):=rO hg3))
 exact aX Tryz.results64 rfl rfl dS ⟨aJ,.inr ⟨8,0,m2,[],x1.1.t,x1.2,(([]:List Tr) ++ bN),A2,c2,l3,rfl,kE.out,aI.mono (lo:=w1.heap.size+2) (v:=.slice A2 (([]:List Tr) ++ bN).length c2) (ks:=(([]:List Tr) ++ bN)) (aN.kid (h:=w1.heap.size+1) oZ) (by omega),(by unfold cK at*;simp;omega),aO⟩⟩
theorem Co (n:Nat) (hn:n<=cK) (H:∀m,m<=n->ku m):C0 (n+1) 144 .iU:=by
 intro E w l o g r hP hq hr
 simp only [go,eH,dG,dM] at hq
 have hlt:=hP.lt
 have hgt:=hP.toks.lt
 have HR:=af hr
 have Hn:=H n (Nat.le_refl _)
 clear hr
 have fZ:=af hq
 clear hq
 go_enter Tryz.func144,Tryz.ntmps144
 go_wp2_with (first
  |(go_at_call 18;(with_reducible refine (bT E _ l o [102,117,110,99] ⟨#[102,117,110,99]⟩ _ _ aO rfl (by simp) fZ.out).mono ?_);rintro e w1 ⟨hg1,⟨a,k,hb,rfl⟩|⟨x1,l1,rfl,hq1,hP1⟩⟩;exact iG (Gr.trans aJ hg1) hb;have hG1:=o8 w hg1;have fG:=af hq1;clear hq1;have kW:=hP1.lt;have oP:=hP1.toks.lt;have hs1:=hg1.size;(try simp at hs1);have az:ag w1 w.heap.size 24 Z7:=bU hg1)
  |(go_at_call 70;refine (Hn.head .param E _ l1 o (w1.heap.size+1) w1.heap.size _ r 41 0 0 [] [] x1.2 ([]:List Tr) none 0 _ rfl aO (by omega) (by omega) (by omega) (by omega) (by omega) (by simp;try omega) (by simp) (show ag _ w1.heap.size 24 (N7 41 0 0 ⟨#[]⟩ ⟨#[]⟩ x1.2 (.slice none 0 0)) from bz) (aN.kid (h:=w1.heap.size) oZ) (uU fG.out) HR.out).mono ?_;rintro e w2 ⟨hg2,⟨a,k,hb,rfl⟩|⟨m2,bN,A2,c2,l2,rfl,hq2,hP2,hn2,bI,bq⟩⟩;exact And.intro rfl ⟨Gr.wide aJ hg2 (fun q hq hs=>by (rcases hs with hs|hs|hs;exact hs;omega;omega)),.inl ⟨_,_,hb,rfl⟩⟩;have hG2:Gr (·=E.b) w w2:=Gr.wide aJ hg2 (fun q hq hs=>by (rcases hs with hs|hs|hs;exact hs;omega;omega));have hm2:m2=0\/m2=1:=(Decidable.byContradiction fun hc=>HR.out (by rw [<-hq2];exact if_neg hc));simp only [Tr.num,hm2,if_true] at hq2;have VC:(if m2=1 then (1:Int) else 0)=m2:=(by rcases hm2 with h|h <;> simp [h]);rw [VC] at bq;clear VC hm2;have fJ:=af hq2;clear hq2;have ou:=hP2.lt;have ql:=hP2.toks.lt;have bq:ag w2 w1.heap.size 24 (N7 41 0 m2 ⟨#[]⟩ ⟨#[]⟩ x1.2 (.slice A2 (([]:List Tr) ++ bN).length c2)):=bq;have hs2:=hg2.size;(try simp at hs2);have ax:ag w2 w.heap.size 24 Z7:=ag.gr bz hg2 (by (rintro (h|h|h) <;> omega));have kY:aN w2 (w1.heap.size+1) w1.heap.size (.slice A2 (([]:List Tr) ++ bN).length c2) (([]:List Tr) ++ bN):=aI.x bI (by omega)))
 have hln:=hn2
 unfold cK at hln
 obtain ⟨_,_,_,_,_,_,_,sG,_⟩:=bq.av
 refine eX 11 3 5 6 7 8 10 1 4 9 E.b 72 #[.pointer (some ⟨E.b,0,none⟩)] (oO r) (fun W=>PS E W l2 o) (wG E o _ r) kY.p rfl (xlt (by omega)) bq (by omega) (by omega) (by omega) (by omega) (by simp [cK];omega) (oV E _ _ o (by omega) (by omega)) hP2 (aZ E _ o _ r (by omega) (by omega)) (fun t w u hd=>by obtain ⟨l9,h1,h2⟩:=hd;exact ⟨l9,h1,h2.setCell (by show w1.heap.size≠_;omega) (by show w1.heap.size≠_;omega) u⟩) (fun W hW=>(Hn.block E W l2 o _ r hW fJ.out HR.out).mono fun e w' h=>tells h) ?_ (Lm kY ?_)
 ·rintro a w' c had ⟨at_,k,hb,rfl⟩ hg
  exact And.intro had ⟨hG2.trans hg,.inl ⟨_,_,hb,rfl⟩⟩
 rintro vals w3 A3 c3 u3 ⟨l3,hq3,hP3⟩ kX hgx aM
 have hG3:Gr (·=E.b) w w3:=Gr.wide hG2 hgx (fun q hq hs=>by
  rcases hs with hs|hs|hs
  ·exact hs
  ·omega
  ·omega)
 have aF:ag w3 w.heap.size 24 Z7:=ag.gr ax hgx (by rintro (h|h|h) <;> omega)
 dsimp only [bG,List.take_succ_cons,List.take_zero,List.take_nil]
 have kE:=af hq3
 clear hq3 hgx
 obtain ⟨_,yP,Jr,EL,Jp,GL,GM,sH,_⟩:=aM.av
 obtain ⟨_,vM,wQ,wR,wS,wT,wU,wV,vN⟩:=aF.av
 go_wp2
 have hl:=(show (([]:List Tr) ++ bN ++ [u3]).length=(([]:List Tr) ++ bN).length+1 by simp)
 exact aX Tryz.results144 rfl rfl dS ⟨aJ,.inr ⟨41,0,m2,[],[],x1.2,((([]:List Tr) ++ bN) ++ [u3]),A3,c3,l3,(by rw [hl];try rfl),kE.out,(by rw [hl];exact aI.mono (lo:=w1.heap.size+1) (v:=.slice A3 ((([]:List Tr) ++ bN).length+1) c3) (ks:=((([]:List Tr) ++ bN) ++ [u3])) (aN.kid (h:=w1.heap.size) oZ) (by omega)),(by simp [cK];omega),aO⟩⟩
theorem LK (n:Nat) (hn:n<=cK) (H:∀m,m<=n->ku m):C0 (n+1) 88 .typeOf:=by
 intro E w l o g r hP hq hr
 simp only [go,mg,eH,fC,eD,dG,dM] at hq
 have hlt:=hP.lt
 have hgt:=hP.toks.lt
 have HR:=af hr
 have Hn:=H n (Nat.le_refl _)
 clear hr
 obtain ⟨x1,l1,rfl⟩:=hP.cons
 by_cases hbt:KV (mark (x1 :: l1))=true
 ·rw [if_pos hbt,bH] at hq
  have hx1:=iB hP.good (by intro e;rw [e] at hbt;exact absurd hbt (by decide))
  have HX:=af hx1
  have fZ:=af hq
  clear hx1 hq
  simp only [KV,Bool.or_eq_true,decide_eq_true_eq] at hbt
  rcases hbt with (hm|hm)|hm
  ·have HM:=af hm
   clear hm
   go_enter Tryz.func88,Tryz.ntmps88
   go_wp2_with (first
    |(go_at_call 37;refine (aH E _ (x1 :: l1) o aO).mono ?_;rw [HM.out,show bs [105,110,116]=⟨#[105,110,116]⟩ from rfl];rintro e w1 ⟨rfl,hg1⟩;have hP1:PS E w1 (x1 :: l1) o:=PS.below aO hg1;have hG1:=gX E.b w hg1;have az:ag w1 w.heap.size 24 Z7:=ag.aC bz hg1)
    |(go_at_call 39;refine (iK E _ x1 l1 o aO HX.out).mono ?_;rintro e w2 ⟨rfl,hg2,hP2⟩;have hG2:=bQ hG1 hg2;have ax:=aD az hg2;have jT:=ax.lt;obtain ⟨_,lJ,lK,lM,lN,lQ,lS,lT,lU⟩:=ax.av))
   exact aX Tryz.results88 rfl rfl dS ⟨aJ,.inr ⟨13,0,0,[],x1.1.t,x1.2,[],none,0,l1,rfl,fZ.out,aI.nil _ _ 0,by simp,aO⟩⟩
  ·have HM:=af hm
   clear hm
   go_enter Tryz.func88,Tryz.ntmps88
   go_wp2_with (first
    |(go_at_call 37;refine (aH E _ (x1 :: l1) o aO).mono ?_;rw [HM.out,show bs [98,111,111,108]=⟨#[98,111,111,108]⟩ from rfl];rintro e w1 ⟨rfl,hg1⟩;have hP1:PS E w1 (x1 :: l1) o:=PS.below aO hg1;have hG1:=gX E.b w hg1;have az:ag w1 w.heap.size 24 Z7:=ag.aC bz hg1)
    |(go_at_call 39;refine (iK E _ x1 l1 o aO HX.out).mono ?_;rintro e w2 ⟨rfl,hg2,hP2⟩;have hG2:=bQ hG1 hg2;have ax:=aD az hg2;have jT:=ax.lt;obtain ⟨_,lJ,lK,lM,lN,lQ,lS,lT,lU⟩:=ax.av))
   exact aX Tryz.results88 rfl rfl dS ⟨aJ,.inr ⟨13,0,0,[],x1.1.t,x1.2,[],none,0,l1,rfl,fZ.out,aI.nil _ _ 0,by simp,aO⟩⟩
  ·have HM:=af hm
   clear hm
   go_enter Tryz.func88,Tryz.ntmps88
   go_wp2_with (first
    |(go_at_call 37;refine (aH E _ (x1 :: l1) o aO).mono ?_;rw [HM.out,show bs [115,116,114,105,110,103]=⟨#[115,116,114,105,110,103]⟩ from rfl];rintro e w1 ⟨rfl,hg1⟩;have hP1:PS E w1 (x1 :: l1) o:=PS.below aO hg1;have hG1:=gX E.b w hg1;have az:ag w1 w.heap.size 24 Z7:=ag.aC bz hg1)
    |(go_at_call 39;refine (iK E _ x1 l1 o aO HX.out).mono ?_;rintro e w2 ⟨rfl,hg2,hP2⟩;have hG2:=bQ hG1 hg2;have ax:=aD az hg2;have jT:=ax.lt;obtain ⟨_,lJ,lK,lM,lN,lQ,lS,lT,lU⟩:=ax.av))
   exact aX Tryz.results88 rfl rfl dS ⟨aJ,.inr ⟨13,0,0,[],x1.1.t,x1.2,[],none,0,l1,rfl,fZ.out,aI.nil _ _ 0,by simp,aO⟩⟩
 rw [if_neg hbt] at hq
 simp only [KV,Bool.or_eq_true,decide_eq_true_eq,not_or] at hbt
 obtain ⟨⟨hb1,hb2⟩,hb3⟩:=hbt
 have hc1:=bC hb1
 have hc2:=bC hb2
 have hc3:=bC hb3
 clear hb1 hb2 hb3
 by_cases hm:mark (x1 :: l1)=[42]
 ·rw [if_pos hm,bH] at hq
  have HX:=af (iB hP.good (by rw [hm];simp))
  have HM:=af hm
  have fZ:=af hq
  clear hq hm
  go_enter Tryz.func88,Tryz.ntmps88
  go_wp2_with (first
   |(go_at_call 37;refine (aH E _ (x1 :: l1) o aO).mono ?_;rw [HM.out,show bs [42]=⟨#[42]⟩ from rfl];rintro e w1 ⟨rfl,hg1⟩;have hP1:PS E w1 (x1 :: l1) o:=PS.below aO hg1;have hG1:=gX E.b w hg1;have az:ag w1 w.heap.size 24 Z7:=ag.aC bz hg1)
   |(go_at_call 39;refine (iK E _ x1 l1 o aO HX.out).mono ?_;rintro e w2 ⟨rfl,hg2,hP2⟩;have hG2:=bQ hG1 hg2;have ax:=aD az hg2;have jT:=ax.lt)
   |(go_at_call 90;refine (Hn.typeName E _ l1 o _ r aO fZ.out HR.out).mono ?_;rintro e w3 ⟨hg3,⟨a,k,hb,rfl⟩|⟨k3,ng,m3,p3,t3,a3,kC,A3,c3,l3,rfl,hq3,iI,_,hP3⟩⟩;exact iG (Gr.trans aJ hg3) hb;have hG3:=bQ hG2 hg3;have kE:=af hq3;clear hq3;have hs3:=hg3.size;(try simp at hs3);have aF:=aD ax hg3;have uX:=aF.lt;obtain ⟨_,vM,wQ,wR,wS,wT,wU,wV,vN⟩:=aF.av;have iI:=aI.mono (lo':=w2.heap.size+0) iI (by simp)))
  exact aX Tryz.results88 rfl rfl dS ⟨aJ,.inr ⟨14,0,0,[],[],x1.2,[Tr.mk k3 ng m3 p3 t3 a3 kC],some ⟨w3.heap.size,0,none⟩,1,l3,rfl,kE.out,aI.mono (lo:=w2.heap.size+0) (aI.oW (k:=k3) (op:=ng) (m:=m3) (p:=p3) (t:=t3) (a:=a3) (A:=A3) (c:=c3) nS (by simp;omega) (by simp)) (by omega),by simp [cK],aO⟩⟩
 rw [if_neg hm] at hq
 have aiK:=bC hm
 clear hm
 by_cases hm:mark (x1 :: l1)=[91]
 ·rw [if_pos hm] at hq
  have HM:=af hm
  have fZ:=af hq
  clear hq hm
  go_enter Tryz.func88,Tryz.ntmps88
  go_wp2_with (first
   |(go_at_call 37;refine (aH E _ (x1 :: l1) o aO).mono ?_;rw [HM.out,show bs [91]=⟨#[91]⟩ from rfl];rintro e w1 ⟨rfl,hg1⟩;have hP1:PS E w1 (x1 :: l1) o:=PS.below aO hg1;have hG1:=gX E.b w hg1;have az:ag w1 w.heap.size 24 Z7:=ag.aC bz hg1)
   |(go_at_call 65;(with_reducible refine (kN E _ (x1 :: l1) o [91] ⟨#[91]⟩ _ _ aO rfl (by simp) fZ.out).mono ?_);rintro e w2 ⟨hg2,⟨a,k,hb,rfl⟩|⟨x2,l2,rfl,hq2,hP2⟩⟩;exact iG (Gr.trans aJ hg2) hb;have hG2:=bQ hG1 hg2;have fJ:=af hq2;clear hq2;have ax:=aD az hg2)
   |(go_at_call 66;(with_reducible refine (gY E _ l2 o [93] ⟨#[93]⟩ _ _ aO rfl (by simp) fJ.out).mono ?_);rintro e w3 ⟨hg3,⟨a,k,hb,rfl⟩|⟨_,l3,rfl,hq3,hP3⟩⟩;exact iG (Gr.trans aJ hg3) hb;have hG3:=bQ hG2 hg3;have kE:=af hq3;clear hq3;have aF:=aD ax hg3;have uX:=aF.lt)
   |(go_at_call 88;refine (Hn.typeOf E _ l3 o _ r aO kE.out HR.out).mono ?_;rintro e w4 ⟨hg4,⟨a,k,hb,rfl⟩|⟨k4,Cn,m4,p4,t4,a4,BQ,A4,c4,l4,rfl,hq4,Bo,_,qm⟩⟩;exact iG (Gr.trans aJ hg4) hb;have hG4:=bQ hG3 hg4;have tH:=af hq4;clear hq4;have hs4:=hg4.size;(try simp at hs4);have aK:=aD aF hg4;have Fb:=aK.lt;obtain ⟨_,wO,xC,xD,xE,xG,xH,xI,wP⟩:=aK.av;have Bo:=aI.mono (lo':=w3.heap.size+0) Bo (by simp)))
  exact aX Tryz.results88 rfl rfl dS ⟨aJ,.inr ⟨15,0,0,[],[],x2.2,[Tr.mk k4 Cn m4 p4 t4 a4 BQ],some ⟨w4.heap.size,0,none⟩,1,l4,rfl,tH.out,aI.mono (lo:=w3.heap.size+0) (aI.oW (k:=k4) (op:=Cn) (m:=m4) (p:=p4) (t:=t4) (a:=a4) (A:=A4) (c:=c4) nS (by simp;omega) (by simp)) (by omega),by simp [cK],aO⟩⟩
 rw [if_neg hm] at hq
 have ads:=bC hm
 clear hm
 by_cases hm:mark (x1 :: l1)=[102,117,110,99]
 ·rw [if_pos hm,bH] at hq
  have HX:=af (iB hP.good (by rw [hm];simp))
  have HM:=af hm
  have fZ:=af hq
  clear hq hm
  go_enter Tryz.func88,Tryz.ntmps88
  go_wp2_with (first
   |(go_at_call 37;refine (aH E _ (x1 :: l1) o aO).mono ?_;rw [HM.out,show bs [102,117,110,99]=⟨#[102,117,110,99]⟩ from rfl];rintro e w1 ⟨rfl,hg1⟩;have hP1:PS E w1 (x1 :: l1) o:=PS.below aO hg1;have hG1:=gX E.b w hg1;have az:ag w1 w.heap.size 24 Z7:=ag.aC bz hg1)
   |(go_at_call 39;refine (iK E _ x1 l1 o aO HX.out).mono ?_;rintro e w2 ⟨rfl,hg2,hP2⟩;have hG2:=bQ hG1 hg2;have ou:=hP2.lt;have ql:=hP2.toks.lt;have ax:=aD az hg2;have jT:=ax.lt)
   |(go_at_call 70;refine (Hn.head .typeOf E _ l1 o (w2.heap.size+1) w2.heap.size _ r 16 0 0 [] [] x1.2 ([]:List Tr) none 0 _ rfl aO (by omega) (by omega) (by omega) (by omega) (by omega) (by simp;try omega) (by simp) (show ag _ w2.heap.size 24 (N7 16 0 0 ⟨#[]⟩ ⟨#[]⟩ x1.2 (.slice none 0 0)) from bz) (aN.kid (h:=w2.heap.size) oZ) (uU fZ.out) HR.out).mono ?_;rintro e w3 ⟨hg3,⟨a,k,hb,rfl⟩|⟨m3,kC,A3,c3,l3,rfl,hq3,hP3,GJ,iI,aM⟩⟩;exact And.intro rfl ⟨Gr.wide aJ hg3 (fun q hq hs=>by (rcases hs with hs|hs|hs;exact hs;omega;omega)),.inl ⟨_,_,hb,rfl⟩⟩;have hG3:Gr (·=E.b) w w3:=Gr.wide aJ hg3 (fun q hq hs=>by (rcases hs with hs|hs|hs;exact hs;omega;omega));have Yj:m3=0\/m3=1:=(Decidable.byContradiction fun hc=>HR.out (by rw [<-hq3];exact if_neg hc));simp only [Tr.num,Yj,if_true] at hq3;have adD:(if m3=1 then (1:Int) else 0)=m3:=(by rcases Yj with h|h <;> simp [h]);rw [adD] at aM;clear adD Yj;have kE:=af hq3;clear hq3;have aM:ag w3 w2.heap.size 24 (N7 16 0 m3 ⟨#[]⟩ ⟨#[]⟩ x1.2 (.slice A3 (([]:List Tr) ++ kC).length c3)):=aM;have aF:ag w3 w.heap.size 24 Z7:=ag.gr bz hg3 (by (rintro (h|h|h) <;> omega));obtain ⟨_,vM,wQ,wR,wS,wT,wU,wV,vN⟩:=aF.av;have kX:aN w3 (w2.heap.size+1) w2.heap.size (.slice A3 (([]:List Tr) ++ kC).length c3) (([]:List Tr) ++ kC):=aI.x iI (by omega);obtain ⟨_,yP,Jr,EL,Jp,GL,GM,sH,_⟩:=aM.av))
  exact aX Tryz.results88 rfl rfl dS ⟨aJ,.inr ⟨16,0,m3,[],[],x1.2,(([]:List Tr) ++ kC),A3,c3,l3,rfl,kE.out,aI.mono (lo:=w2.heap.size+1) (v:=.slice A3 (([]:List Tr) ++ kC).length c3) (ks:=(([]:List Tr) ++ kC)) (aN.kid (h:=w2.heap.size) oZ) (by omega),(by unfold cK at*;simp;omega),aO⟩⟩
 rw [if_neg hm] at hq
 have C8:=bC hm
 clear hm
 have fZ:=af hq
 clear hq
 go_enter Tryz.func88,Tryz.ntmps88
 go_wp2_with (first
  |(go_at_call 37;refine (aH E _ (x1 :: l1) o aO).mono ?_;rintro e w1 ⟨rfl,hg1⟩;have hP1:PS E w1 (x1 :: l1) o:=PS.below aO hg1;have hG1:=gX E.b w hg1;have hs1:=hg1.size;(try simp at hs1);have az:ag w1 w.heap.size 24 Z7:=ag.aC bz hg1;have mo:=az.lt)
  |(go_at_call 90;refine (Hn.typeName E _ (x1 :: l1) o _ r aO fZ.out HR.out).mono ?_;rintro e w2 ⟨hg2,⟨a,k,hb,rfl⟩|⟨k2,kJ,m2,p2,t2,a2,bN,A2,c2,l2,rfl,hq2,bI,hn2,hP2⟩⟩;exact iG (Gr.trans aJ hg2) hb;have hG2:=bQ hG1 hg2;have fJ:=af hq2;clear hq2;have ax:=aD az hg2;obtain ⟨_,lJ,lK,lM,lN,lQ,lS,lT,lU⟩:=ax.av;have bI:=aI.mono (lo':=w1.heap.size+0) bI (by simp)))
 exact aX Tryz.results88 rfl rfl dS ⟨aJ,.inr ⟨k2,kJ,m2,p2,t2,a2,bN,A2,c2,l2,rfl,fJ.out,aI.mono (lo:=w1.heap.size+0) nS (by omega),hn2,aO⟩⟩
theorem SY (n:Nat) (hn:n<=cK) (H:∀m,m<=n->ku m) (p:Pt):CH (n+1) p:=by
 intro E w l o lo h g r k op m pk t a ks A c fv hfv hP hbl hgl Np fT kG hlo hlen hB hK hq hr
 subst hfv
 simp only [go,dG,eD,dM] at hq
 have hne:=hP.ne
 have hhw:=hB.lt
 have HR:=af hr
 have Hn:=H n (Nat.le_refl _)
 have fZ:=af hq
 have HB:=af hB
 obtain ⟨_,_,_,_,_,_,_,agR,S9⟩:=hB.av
 have hkx:=hK.x Np
 clear hr hq
 go_enter Tryz.func70,Tryz.ntmps70
 go_wp2_with fail
 refine Sn 11 9 10 4 E.b lo h (·=h) 36 (fun i=>match i with|0=>.pointer (some ⟨h,0,none⟩)|1=>.pointer (some ⟨h,0,none⟩)|2=>.pointer (some ⟨h,0,none⟩)|3=>.pointer (some ⟨h,6,none⟩)|4=>.slice A ks.length c|5=>.pointer (some ⟨E.b,0,none⟩)|6=>.pointer (some ⟨E.b,0,none⟩)|7=>.pointer (some ⟨E.b,0,none⟩)|8=>.func (Fn.func p.fn) #[.pointer (some ⟨E.b,0,none⟩)] #[]|_=>undef) (.slice A ks.length c) ks 91 #[.pointer (some ⟨E.b,0,none⟩),.string ⟨#[40]⟩,.string ⟨#[41]⟩,.func (Fn.func p.fn) #[.pointer (some ⟨E.b,0,none⟩)] #[]] (oO r) (Cg E o _ r) (by kernel_rfl) rfl (by kernel_rfl) (by decide) (by decide) (by decide) (by decide) (by decide) (by decide) rfl rfl rfl rfl ⟨_,rfl,rfl⟩ rfl (by kernel_rfl) (by kernel_rfl) rfl
  (fun a w hev=>by
   have e7:=hev 7 _ _ (by omega) rfl rfl (by kernel_rfl) (by omega) (by omega)
   have e8:=hev 8 _ _ (by omega) rfl rfl (by kernel_rfl) (by omega) (by omega)
   simp [Act.eval] at e7 e8
   unfold execOp;go_simp)
  (fun i o hoi hi h1 h2 a w hcw hun hev=>by
   rcases (show i=0\/i=1\/i=2\/i=3\/i=4\/i=5\/i=6\/i=7\/i=8\/i=9\/i=10 by omega) with rfl|rfl|rfl|rfl|rfl|rfl|rfl|rfl|rfl|rfl|rfl
   ·obtain rfl:=Option.some.inj hoi;exact qd _ _ _ _ _ _ _ _ ((hun 1 (fD (by kernel_rfl))).trans rfl)
   ·obtain rfl:=Option.some.inj hoi;exact qd _ _ _ _ _ _ _ _ ((hun 1 (fD (by kernel_rfl))).trans rfl)
   ·obtain rfl:=Option.some.inj hoi;exact AU _ _ _ _ _ _ _ _ (hev 1 _ _ (by omega) rfl rfl (by kernel_rfl))
   ·obtain rfl:=Option.some.inj hoi;exact sZ _ _ _ _ _ _ _ _ (hev 2 _ _ (by omega) rfl rfl (by kernel_rfl))
   ·obtain rfl:=Option.some.inj hoi;exact vF _ _ _ _ _ _ _ _ 6 _ (hev 3 _ _ (by omega) rfl rfl (by kernel_rfl)) hcw
   ·obtain rfl:=Option.some.inj hoi;exact qd _ _ _ _ _ _ _ _ ((hun 0 (fD (by kernel_rfl))).trans rfl)
   ·obtain rfl:=Option.some.inj hoi;exact AU _ _ _ _ _ _ _ _ (hev 5 _ _ (by omega) rfl rfl (by kernel_rfl))
   ·obtain rfl:=Option.some.inj hoi;exact xy _ _ _ _ _ _ _ _ (hev 6 _ _ (by omega) rfl rfl (by kernel_rfl))
   ·obtain rfl:=Option.some.inj hoi;exact qd _ _ _ _ _ _ _ _ ((hun 2 (fD (by kernel_rfl))).trans rfl)
   ·exact absurd rfl h1
   ·exact absurd rfl h2)
  (fun i hi h1 h2=>by
   rcases (show i=0\/i=1\/i=2\/i=3\/i=4\/i=5\/i=6\/i=7\/i=8\/i=9\/i=10 by omega) with rfl|rfl|rfl|rfl|rfl|rfl|rfl|rfl|rfl|rfl|rfl <;> first|exact absurd rfl h1|exact absurd rfl h2|exact ⟨by kernel_rfl,by kernel_rfl⟩) ⟨by kernel_rfl,by kernel_rfl⟩
  rfl (by decide) (by decide) ⟨0,_,by decide,by decide,by decide,rfl,rfl,rfl⟩ rfl (by decide) (by decide) rfl rfl (by kernel_rfl) (by kernel_rfl) (by kernel_rfl) (by kernel_rfl) hkx hkx.p (fun q hq=>by omega) agR (S9 6) (by omega) (by omega) (by omega) (by omega) (by unfold cK at*;omega) (uk E _ o _ r (by omega) (by omega))
  ((Hn.within p E _ l o [40] [41] _ _ _ r _ rfl hP.drew rfl rfl (by simp) (by simp) fZ.out HR.out).mono fun e w' h=>Jn h) ?_ ?_
 ·rintro a w' c had ⟨at_,k,hb,rfl⟩ hg
  exact And.intro had ⟨hg.mono fun q _ hq=>.inl hq,.inl ⟨_,_,hb,rfl⟩⟩
 rintro vals w' A1 c1 us ⟨l1,hq1,yO⟩ Uy hKx yz hgx eB
 obtain ⟨w1,hW⟩:=uj (w'.setCell ⟨h,6,none⟩ (.slice A1 (ks ++ us).length c1))
 have hP1:PS E w1 l1 o:=by rw [hW];exact aO
 have hsx:=hgx.size
 have hG1:Gr (fun q=>q=E.b\/q=h\/lo<=q) w w1:=by rw [hW];exact Gr.setCell (S:=fun q=>q=E.b\/q=h\/lo<=q) (p:=⟨h,6,none⟩) (hgx.mono fun q _ hq=>hq.elim .inl fun e=>.inr (.inr e.1)) (.inr (.inr (.inl rfl))) _
 have nY:ag w1 h 24 (N7 k op m (bs pk) (bs t) a (.slice A1 (ks ++ us).length c1)):=by rw [hW];exact ag.jC (ag.wr HB.out hgx (by omega) (.inr rfl)) _
 have ZU:aN w1 lo h (.slice A1 (ks ++ us).length c1) (ks ++ us):=by rw [hW];exact hKx.setCell (.inr rfl) _
 dsimp only [bG,List.take_succ_cons,List.take_zero,List.take_nil]
 rw [<-hW]
 have hs1:w.heap.size<=w1.heap.size:=by rw [hW];simpa using hsx
 clear hW yO hKx yz hgx eB hsx
 have fG:=af hq1
 clear hq1
 obtain ⟨bg,hbg⟩:=aS (begins l1)
 have HBG:=af hbg
 cases bg with
 |false=>
  have eY:=fG.out
  dsimp only at eY
  rw [if_neg (show ¬begins l1=true by rw [hbg];decide)] at eY
  have fJ:=af eY
  clear hbg eY fG
  go_wp2_with (go_at_call 92;refine (xK E _ l1 o hP1).mono ?_;rw [HBG.out];rintro e w2 ⟨rfl,hb2⟩;have hP2:=hP1.below hb2;have hG2:Gr (fun q=>q=E.b\/q=h\/lo<=q) w w2:=hG1.trans (Gr.of_below hb2);have bq:=nY.aC hb2;have kY:=ZU.aC hb2)
  go_end0
  exact ⟨hG2,.inr ⟨0,us,A1,c1,l1,rfl,fJ.out,hP2,by omega,kY.kid,by simpa using bq⟩⟩
 |true=>
  have eY:=fG.out
  dsimp only at eY
  rw [if_pos hbg] at eY
  have fJ:=af eY
  clear hbg eY fG
  go_wp2_with (go_at_call 92;refine (xK E _ l1 o hP1).mono ?_;rw [HBG.out];rintro e w2 ⟨rfl,hb2⟩;have hP2:=hP1.below hb2;have hG2:Gr (fun q=>q=E.b\/q=h\/lo<=q) w w2:=hG1.trans (Gr.of_below hb2);have bq:=nY.aC hb2;have kY:=ZU.aC hb2;have hs2:=hb2.size;have ou:=hP2.lt;have ql:=hP2.toks.lt)
  obtain ⟨_,_,_,_,_,_,_,sG,_⟩:=bq.av
  refine eX 14 5 7 8 9 10 13 3 6 12 E.b 88 #[.pointer (some ⟨E.b,0,none⟩)] (oO r) (fun W=>PS E W l1 o) (wG E o _ r) kY.p rfl (xlt (by omega)) bq (by omega) (by omega) (by omega) (by omega) (by simp;unfold cK at*;omega) (oV E _ _ o (by omega) (by omega)) hP2 (aZ E _ o _ r (by omega) (by omega)) (fun t w u hd=>by obtain ⟨l9,h1,h2⟩:=hd;exact ⟨l9,h1,h2.setCell (by show h≠_;omega) (by show h≠_;omega) u⟩) (fun W hW=>(Hn.typeOf E W l1 o _ r hW fJ.out HR.out).mono fun e w' h=>tells h) ?_ (Lm kY ?_)
  ·rintro a w' c had ⟨at_,k,hb,rfl⟩ hg
   exact And.intro had ⟨hG2.trans (hg.mono fun q _ hq=>.inl hq),.inl ⟨_,_,hb,rfl⟩⟩
  rintro vals w3 A3 c3 u3 ⟨l3,hq3,hP3⟩ kX hgx aM
  have hG3:Gr (fun q=>q=E.b\/q=h\/lo<=q) w w3:=hG2.trans hgx
  dsimp only [bG,List.take_succ_cons,List.take_zero,List.take_nil]
  have kE:=af hq3
  clear hq3 hgx
  obtain ⟨_,_,_,EL,_,_,_,_,pg⟩:=aM.av
  go_wp2
  go_end0
  have hl:(ks ++ (us ++ [u3])).length=(ks ++ us).length+1:=by simp;omega
  refine ⟨Gr.setCell (S:=fun q=>q=E.b\/q=h\/lo<=q) (p:=⟨h,2,none⟩) hG3 (.inr (.inr (.inl rfl))) _,.inr ⟨1,us ++ [u3],A3,c3,l3,rfl,kE.out,hP3.setCell (by show h≠_;omega) (by show h≠_;omega) _,by simp;omega,?_,?_⟩⟩
  ·rw [hl,<-List.append_assoc]
   exact (aN.setCell kX (.inr rfl) _).kid
  ·rw [hl]
   exact ag.set2 aM _
def CF (n:Nat):Prop:=∀(E:Env) (w:World) (l:List T) (o:Nat) (g:Tr->List T->R) (r:R),PS E w l o->bnd (go n .file l o) g=r->r≠.out->
 Calls Tryz.prog 11 #[.pointer (some ⟨E.b,0,none⟩)] w (CZ E w w.heap.size o g r)
theorem Ta (n:Nat) (hn:n<=cK) (H:∀m,m<=n->ku m):CF (n+1):=by
 intro E w l o g r hP hq hr
 simp only [go,eH,jr,dG,dM] at hq
 have hlt:=hP.lt
 have hgt:=hP.toks.lt
 have HR:=af hr
 have HN:=af hn
 have fZ:=af hq
 clear hr hq hn
 go_enter Tryz.func11,Tryz.ntmps11
 go_wp2_with (first
  |((fail_if_success (have:=hg1));go_at_call 18;(with_reducible refine (bT E _ l o [112,97,99,107,97,103,101] ⟨#[112,97,99,107,97,103,101]⟩ _ _ aO rfl (by simp) fZ.out).mono ?_);rintro e w1 ⟨hg1,⟨a,k,hb,rfl⟩|⟨x1,l1,rfl,hq1,hP1⟩⟩;exact iG (Gr.trans aJ hg1) hb;have hG1:=o8 w hg1;have fG:=af hq1;clear hq1;have kW:=hP1.lt;have oP:=hP1.toks.lt;have hs1:=hg1.size;(try simp at hs1);have az:ag w1 w.heap.size 24 Z7:=bU hg1)
  |(go_at_call 19;(with_reducible refine (jd E _ l1 o _ _ aO fG.out).mono ?_);rintro e w2 ⟨hg2,⟨a,k,hb,rfl⟩|⟨x2,l2,rfl,hq2,hP2⟩⟩;exact iG (Gr.trans aJ hg2) hb;have hG2:=bQ hG1 hg2;have fJ:=af hq2;clear hq2;have ax:=aD az hg2;have bq:ag w2 w1.heap.size 24 (N7 1 0 0 ⟨#[]⟩ ⟨#[]⟩ x1.2 (.slice none 0 0)):=bU hg2;obtain ⟨_,_,_,_,_,U8,_,_,uE⟩:=bq.av)
  |(go_at_call 18;(with_reducible refine (bT E _ l2 o [59] ⟨#[59]⟩ _ _ aO rfl (by simp) fJ.out).mono ?_);rintro e w3 ⟨hg3,⟨a,k,hb,rfl⟩|⟨x3,l3,rfl,hq3,hP3⟩⟩;exact iG (Gr.trans aJ hg3) hb;have hG3:=bQ hG2 hg3;have kE:=af hq3;clear hq3;have aF:=aD ax hg3;have aM:ag w3 w1.heap.size 24 (N7 1 0 0 ⟨#[]⟩ (bs x2.1.t) x1.2 (.slice none 0 0)):=bU hg3;have zu:=aM.lt))
 have hw1:w1.heap.size+1<=w3.heap.size:=by omega
 go_loopg [] n (fun gk wr=>∃(acc:List Tr) (A:Option Addr) (c:Nat) (l4:List T),acc.length+gk<=n/\PS E wr l4 o/\bnd (go gk (.imports acc) l4 o) (fun ks q=>bnd (go n (.decls ks.kids) q o) fun ks q=>g (zm 1 x2.1.t x1.2 ks.kids) q)=r/\Gr (·=E.b) w wr/\ag wr w.heap.size 24 Z7/\ag wr w1.heap.size 24 (N7 1 0 0 ⟨#[]⟩ (bs x2.1.t) x1.2 (.slice A acc.length c))/\aI wr (w1.heap.size+1) (.slice A acc.length c) acc/\w1.heap.size+1<=wr.heap.size)
 case atStart=>exact ⟨[],none,0,l3,by simp,aO,kE.out,aJ,aF,aM,aI.nil _ _ 0,hw1⟩
 case round=>
  obtain ⟨acc,A,c,l4,hac,qm,hq4,hG4,Om,hb4,hk4,hs4⟩:=hrel
  cases gk with
  |zero=>exact absurd (by rw [<-hq4];rfl) HR.out
  |succ f=>
   simp only [go,eD,dM,dG,fC,jr,eH] at hq4
   have LM:=qm.lt
   have JK:=qm.toks.lt
   by_cases hm:mark l4=[105,109,112,111,114,116]
   ·rw [if_pos hm] at hq4
    have HM:=af hm
    have tH:=af hq4
    clear hq4 hm
    go_wp2_with (first
     |(go_at_call 20;refine (qc E _ l4 o [105,109,112,111,114,116] _ qm rfl (by simp) HM.out).mono ?_;rintro e w5 ⟨rfl,hg5,xs,l5,adE,wX⟩;have iw:Gr (·=E.b) w w5:=hG4.trans hg5;have rC:=tH.out;rw [adE,bH] at rC;have yQ:=af rC;clear rC adE;have Lt:=Om.call hg5 (by omega);have hb5:=hb4.call hg5 (by omega);have hk5:=hk4.call hg5 (by omega))
     |(go_at_call 19;refine (jd E _ l5 o _ _ wX yQ.out).mono ?_;rintro e w6 ⟨dA,⟨a,k,hb,rfl⟩|⟨x6,l6,rfl,r9,yC⟩⟩;exact And.intro rfl ⟨iw.trans dA,.inl ⟨_,_,hb,rfl⟩⟩;have iX:=iw.trans dA;have Cm:=af r9;clear r9;have Sv:=Lt.call dA (by omega);have hb6:=hb5.call dA (by omega);have UB:=hk5.call dA (by omega);have Tc:=yC.lt)
     |(go_at_call 18;refine (bT E _ l6 o [59] ⟨#[59]⟩ _ _ (PS.alloc yC _) rfl (by simp) Cm.out).mono ?_;rintro e w7 ⟨dZ,⟨a,k,hb,rfl⟩|⟨x7,l7,rfl,Dt,Ao⟩⟩;exact And.intro rfl ⟨(iX.alloc _).trans dZ,.inl ⟨_,_,hb,rfl⟩⟩;have lV:=(iX.alloc _).trans dZ;have Nu:=af Dt;clear Dt;have Nt:=(Sv.alloc _).call dZ (by omega);have wJ:=(hb6.alloc _).call dZ (by omega);have Oo:=(UB.alloc _).call dZ (by omega);have hx7:ag w7 w6.heap.size 53 (T4 x6.1.k (bs x6.1.t) x6.1.n x6.2):=ag.call (b:=E.b) (ag.new _ _ _) dZ (by omega);obtain ⟨_,_,x1',_,x3',_⟩:=hx7.jX;obtain ⟨bl,_,_,_,_,_,_,b6,_⟩:=wJ.av;have adF:aI (w7.alloc (.cells #[.int .i64 2,.int .i64 0,.int .i64 0,.string ⟨#[]⟩,.string (bs x6.1.t),.int .i64 x6.2,.slice none 0 0] 24)) w7.heap.size (.slice (some ⟨w7.heap.size,0,none⟩) 1 1) [Tr.mk 2 0 0 [] x6.1.t x6.2 []]:=aI.lI (lo:=w7.heap.size) (k:=2) (op:=0) (m:=0) (p:=[]) (t:=x6.1.t) (a:=x6.2) (ks:=[]) (A:=none) (c:=0) (aI.nil w7 _ 0) (Nat.le_refl _);have hown:=fun q e=>(Oo.own (g:=q) e))
     |(at_builtin;refine xM (lo:=w1.heap.size+1) (N:=w7.heap.size) (b:=w1.heap.size) (v:=.slice A acc.length c) (dx:=acc) (t:=Tr.mk 2 0 0 [] x6.1.t x6.2 []) rfl _ _ rfl (Oo.alloc _) (fun q e=>(hown q e).2) adF (by omega) (by omega) (by have:=HN.out;unfold cK at*;omega) (by simp;omega) rfl rfl ?_;intro A8 c8 w8 hK8 fK;have hb8:ag w8 w1.heap.size 24 (N7 1 0 0 ⟨#[]⟩ (bs x2.1.t) x1.2 (.slice A acc.length c)):=(wJ.alloc _).gr fK (fun e=>by have:=(hown _ e).1;omega);have agS:=hb8.av;obtain ⟨cl,_,_,_,_,_,_,c6,cf⟩:=agS))
    have QS:PS E w8 l7 o:=(Ao.alloc _).gr fK (fun e=>by have:=(hown _ e).1;omega) (fun e=>by have:=(hown _ e).1;omega)
    have qJ:Gr (·=E.b) w w8:=(lV.alloc _).wide fK (fun k hk e=>by have:=(hown _ e).1;omega)
    have hz8:ag w8 w.heap.size 24 Z7:=(Nt.alloc _).gr fK (fun e=>by have:=(hown _ e).1;omega)
    go_roundg f
    case measure=>omega
    case rel=>exact ⟨acc ++ [Tr.mk 2 0 0 [] x6.1.t x6.2 []],A8,c8,l7,by simp;omega,aO,Nu.out,aJ,bz,by rw [List.length_append];exact hb8.jC _,by rw [List.length_append];exact hK8.setCell (by show w1.heap.size < _;omega) _,by simp;omega⟩
   ·rw [if_neg hm] at hq4
    have HM:=af hm
    have tH:=af hq4
    clear hq4 hm
    go_wp2_with (go_at_call 20;refine (rA E _ l4 o [105,109,112,111,114,116] _ qm rfl HM.out).mono ?_;rintro e w5 ⟨rfl,hb5⟩;have wX:=qm.below hb5;have iw:Gr (·=E.b) w w5:=Gr.trans hG4 (Gr.of_below hb5);have Lt:=Om.aC hb5;have JJ:=hb4.aC hb5;have hk5:=hk4.aC hb5;have hs5:=hb5.size)
    go_loopg [] n (fun gk wr=>∃(GV:List Tr) (A:Option Addr) (c:Nat) (l6:List T),GV.length+gk<=2*n/\PS E wr l6 o/\bnd (go gk (.decls GV) l6 o) (fun ks q=>g (zm 1 x2.1.t x1.2 ks.kids) q)=r/\Gr (·=E.b) w wr/\ag wr w.heap.size 24 Z7/\ag wr w1.heap.size 24 (N7 1 0 0 ⟨#[]⟩ (bs x2.1.t) x1.2 (.slice A GV.length c))/\aI wr (w1.heap.size+1) (.slice A GV.length c) GV/\w1.heap.size+1<=wr.heap.size/\gk<=n)
    case atStart=>exact ⟨acc,A,c,l4,by omega,wX,tH.out,iw,Lt,JJ,hk5,by omega,Nat.le_refl _⟩
    case round=>
     obtain ⟨GV,A2,c2,l6,amh,yC,r9,iX,Sv,hb6,UB,_,hgk⟩:=hrel
     have hal:GV.length<=3*cK:=by have:=HN.out;unfold cK at*;omega
     cases gk with
     |zero=>exact absurd (by rw [<-r9];rfl) HR.out
     |succ f=>
      simp only [go,eD,dM,dG] at r9
      obtain ⟨x6,t6,rfl⟩:=yC.cons
      have adG:=iO E _ x6 t6 o yC
      by_cases hkd:x6.1.k=0
      ·rw [if_pos (show kind (x6 :: t6)=0 from hkd)] at r9
       have Cm:=af r9
       have hkf:(x6.1.k != 0)=false:=by rw [hkd];rfl
       clear r9 hkd
       go_wp2_with (go_at_call 21;refine adG.mono ?_;rintro e w7 ⟨rfl,wJ⟩;have Ao:=yC.below wJ;have lV:Gr (·=E.b) w w7:=Gr.trans iX (Gr.of_below wJ);have Nt:=Sv.aC wJ;have xN:=hb6.aC wJ;have Oo:=UB.aC wJ;obtain ⟨_,z0,z1,z2,z3,z4,z5,z6,zf⟩:=Nt.av;obtain ⟨_,b0,b1,b2,b3,b4,b5,b6,_⟩:=xN.av)
       exact aX Tryz.results11 rfl rfl dS ⟨aJ,.inr ⟨1,0,0,[],x2.1.t,x1.2,GV,A2,c2,(x6 :: t6),rfl,Cm.out,aI.mono (lo:=w1.heap.size+1) nS (by omega),hal,aO⟩⟩
      ·rw [if_neg (show ¬kind (x6 :: t6)=0 from hkd)] at r9
       have Cm:=af r9
       have hkf:(x6.1.k != 0)=true:=by simpa using hkd
       clear r9 hkd
       go_wp2_with (go_at_call 21;refine adG.mono ?_;rintro e w7 ⟨rfl,wJ⟩;have Ao:=yC.below wJ;have lV:Gr (·=E.b) w w7:=Gr.trans iX (Gr.of_below wJ);have Nt:=Sv.aC wJ;have xN:=hb6.aC wJ;have Oo:=UB.aC wJ;have Oq:=Ao.lt;have Ot:=Ao.toks.lt;have hl7:=xN.lt;obtain ⟨bl,_,_,_,_,_,_,b6,bf⟩:=xN.av)
       have Hf:=H f (by omega)
       refine nX E.b (w1.heap.size+1) w1.heap.size 22 #[.pointer (some ⟨E.b,0,none⟩)] (oO r) (wG E o (fun t l=>bnd (go f (.decls (GV ++ [t])) l o) (fun ks q=>g (zm 1 x2.1.t x1.2 ks.kids) q)) r) (Oo.x (by omega)) b6 (bf 6) (by omega) (by omega) (by omega) (by omega) hal (aZ E _ _ _ r (by omega) (by omega)) (aZ E _ _ _ r (by omega) (by omega)) ((Hf.decl E _ (x6 :: t6) o _ r Ao.drew Cm.out HR.out).mono fun e w' h=>tells h) ?_ ?_
       ·rintro a w' c had ⟨at_,k,hb,rfl⟩ hg
        exact And.intro had ⟨lV.trans hg,.inl ⟨_,_,hb,rfl⟩⟩
       ·rintro vals w' A9 c9 t ⟨l9,LC,hP9⟩ hK9 gP _ _
        go_wp2
        go_roundg f
        case measure=>omega
        case rel=>exact ⟨GV ++ [t],A9,c9,l9,by simp;omega,aO,LC,Gr.setCell (o7 lV gP (by omega)) (.inl (by show w.heap.size<=w1.heap.size;omega)) _,ag.far (Nt.wr gP (by omega) (.inl (by omega))) (by show w.heap.size≠w1.heap.size;omega) _,by rw [List.length_append];exact (xN.wr gP (by omega) (.inr rfl)).jC _,by rw [List.length_append];exact hK9.kid.setCell (by show w1.heap.size < _;omega) _,by have:=gP.size;simp;omega,by omega⟩
theorem Bp (n:Nat) (hn:n<=cK) (H:∀m,m<=n->ku m):C0 (n+1) 43 .kT:=by
 intro E w l o g r hP hq hr
 simp only [go,mg,eH,jr,fC,eD,sV,dG,dM] at hq
 have hlt:=hP.lt
 have hgt:=hP.toks.lt
 have HR:=af hr
 clear hr
 have fZ:=af hq
 clear hq
 go_enter Tryz.func43,Tryz.ntmps43
 have HN:=af hn
 go_wp2_with (first
  |(go_at_call 18;(with_reducible refine (bT E _ l o [116,121,112,101] ⟨#[116,121,112,101]⟩ _ _ aO rfl (by simp) fZ.out).mono ?_);rintro e w1 ⟨hg1,⟨a,k,hb,rfl⟩|⟨x1,l1,rfl,hq1,hP1⟩⟩;exact iG (Gr.trans aJ hg1) hb;have hG1:=o8 w hg1;have fG:=af hq1;clear hq1;have az:ag w1 w.heap.size 24 Z7:=bU hg1)
  |(go_at_call 19;(with_reducible refine (jd E _ l1 o _ _ aO fG.out).mono ?_);rintro e w2 ⟨hg2,⟨a,k,hb,rfl⟩|⟨x2,l2,rfl,hq2,hP2⟩⟩;exact iG (Gr.trans aJ hg2) hb;have hG2:=bQ hG1 hg2;have fJ:=af hq2;clear hq2;have ou:=hP2.lt;have ql:=hP2.toks.lt;have ax:=aD az hg2;have jT:=ax.lt))
 obtain ⟨y,l4,rfl⟩:=hP2.cons
 by_cases hm:mark (y :: l4)=[115,116,114,117,99,116]
 ·have eY:=fJ.out
  rw [if_pos hm,bH] at eY
  have HX:=af (iB hP2.good (by rw [hm];simp))
  have HM:=af hm
  clear fJ hm
  have fJ:=af eY
  clear eY
  go_wp2_with (first
   |(go_at_call 37;refine (aH E _ (y :: l4) o aO).mono ?_;rw [HM.out,show bs [115,116,114,117,99,116]=⟨#[115,116,114,117,99,116]⟩ from rfl];rintro e w3 ⟨rfl,hg3⟩;have hP3:PS E w3 (y :: l4) o:=PS.below aO hg3;have hG3:=aL hG2 hg3;have aF:=bV ax hg3;have tJ:ag w3 w2.heap.size 53 (T4 x2.1.k (bs x2.1.t) x2.1.n x2.2):=ag.aC bz hg3;have aM:ag w3 (w2.heap.size+1) 24 (N7 0 0 0 ⟨#[]⟩ (bs x2.1.t) x2.2 (.slice none 0 0)):=ag.aC bz hg3;obtain ⟨_,yP,_,_,_,_,_,_,pg⟩:=aM.av)
   |(go_at_call 39;refine (iK E _ y l4 o aO HX.out).mono ?_;rintro e w4 ⟨rfl,hg4,qm⟩;have hG4:=bQ hG3 hg4;have aK:=aD aF hg4;have sj:=aD tJ hg4;have aW:ag w4 (w2.heap.size+1) 24 (N7 5 0 0 ⟨#[]⟩ (bs x2.1.t) x2.2 (.slice none 0 0)):=bU hg4)
   |(go_at_call 65;(with_reducible refine (kN E _ l4 o [123] ⟨#[123]⟩ _ _ aO rfl (by simp) fJ.out).mono ?_);rintro e w5 ⟨hg5,⟨a,k,hb,rfl⟩|⟨x5,l5,rfl,rC,wX⟩⟩;exact iG (Gr.trans aJ hg5) hb;have iw:=bQ hG4 hg5;have yQ:=af rC;clear rC;have aT:=aD aK hg5;have De:=aD sj hg5;have aR:=aD aW hg5;have wI:=aR.lt))
  have hw2:w2.heap.size+2<=w5.heap.size:=by omega
  go_loopg [] n (fun gk wr=>∃(acc:List Tr) (A:Option Addr) (c:Nat) (l6:List T),acc.length+gk<=n/\PS E wr l6 (o+1)/\bnd (go gk (.parts .field acc) l6 (o+1)) (fun t l=>want [125] l fun _ q=>g (zm 5 x2.1.t x2.2 t.kids) q)=r/\Gr (·=E.b) w wr/\ag wr w.heap.size 24 Z7/\ag wr (w2.heap.size+1) 24 (N7 5 0 0 ⟨#[]⟩ (bs x2.1.t) x2.2 (.slice A acc.length c))/\aI wr (w2.heap.size+2) (.slice A acc.length c) acc/\w2.heap.size+2<=wr.heap.size)
  case atStart=>exact ⟨[],none,0,l5,by simp,aO,yQ.out,aJ,aT,aR,aI.nil _ _ 0,hw2⟩
  case round=>
   obtain ⟨acc,A,c,l6,hac,yC,r9,iX,Sv,hb6,UB,_⟩:=hrel
   have hal:acc.length<=3*cK:=by have:=HN.out;unfold cK at*;omega
   cases gk with
   |zero=>exact absurd (by rw [<-r9];rfl) HR.out
   |succ f=>
    simp only [go,eD,dM,dG] at r9
    have Tc:=yC.lt
    have Ou:=yC.toks.lt
    by_cases hm:mark l6=[125]
    ·rw [if_pos hm] at r9
     have HM6:=af hm
     have Cm:=af r9
     clear r9 hm
     go_wp2_with (first
      |(go_at_call 37;refine (aH E _ _ _ yC).mono ?_;rw [HM6.out,show bs [125]=⟨#[125]⟩ from rfl];rintro e w7 ⟨rfl,wJ⟩;have Ao:=yC.below wJ;have lV:Gr (·=E.b) w w7:=Gr.trans iX (Gr.of_below wJ);have Nt:=Sv.aC wJ;have xN:=hb6.aC wJ;have Oo:=UB.aC wJ)
      |(go_at_call 66;refine (gY E _ _ _ [125] _ _ _ Ao rfl (by simp) Cm.out).mono ?_;rintro e w8 ⟨fK,⟨a,k,hb,rfl⟩|⟨_,l8,rfl,hq8,QS⟩⟩;exact And.intro rfl ⟨Gr.trans lV fK,.inl ⟨_,_,hb,rfl⟩⟩;have qJ:=lV.trans fK;have Vq:=af hq8;clear hq8;have hz8:=Nt.call fK (by omega);have hb8:=xN.call fK (by omega);have hk8:=Oo.call fK (by omega);obtain ⟨_,z0,z1,z2,z3,z4,z5,z6,zf⟩:=hz8.av;obtain ⟨_,b0,b1,b2,b3,b4,b5,b6,_⟩:=hb8.av))
     exact aX Tryz.results43 rfl rfl dS ⟨aJ,.inr ⟨5,0,0,[],x2.1.t,x2.2,acc,A,c,l8,rfl,Vq.out,aI.mono (lo:=w2.heap.size+2) nS (by omega),hal,aO⟩⟩
    ·rw [if_neg hm] at r9
     have hmn:=bC hm
     have Cm:=af r9
     clear r9 hm
     go_wp2_with (go_at_call 37;refine (aH E _ _ _ yC).mono ?_;rintro e w7 ⟨rfl,wJ⟩;have Ao:=yC.below wJ;have lV:Gr (·=E.b) w w7:=Gr.trans iX (Gr.of_below wJ);have Nt:=Sv.aC wJ;have xN:=hb6.aC wJ;have Oo:=UB.aC wJ;have Oq:=Ao.lt;have Ot:=Ao.toks.lt;have hl7:=xN.lt)
     have Hf:=H f (by omega)
     obtain ⟨bl,_,_,_,_,_,_,b6,bf⟩:=xN.av
     refine dD E.b (w2.heap.size+2) (w2.heap.size+1) (.func (Fn.func 63) #[.pointer (some ⟨E.b,0,none⟩)] #[]) 63 #[.pointer (some ⟨E.b,0,none⟩)] (oO r) (wG E (o+1) (fun t l=>bnd (go f (.parts .field (acc ++ [t])) l (o+1)) fun t l=>want [125] l fun _ q=>g (zm 5 x2.1.t x2.2 t.kids) q) r) (Oo.x (by omega)) (show aN _ _ (w2.heap.size+1) _ _ from Oo.x (by omega)).p (xlt (by omega)) b6 (bf 6) (by omega) (by omega) (by omega) (by omega) hal (aZ E _ _ _ r (by omega) (by omega)) (aZ E _ _ _ r (by omega) (by omega)) ((Hf.field E _ l6 (o+1) _ r Ao.drew Cm.out HR.out).mono fun e w' h=>tells h) ?_ ?_
     ·rintro a w' c had ⟨at_,k,hb,rfl⟩ hg
      exact And.intro had ⟨lV.trans hg,.inl ⟨_,_,hb,rfl⟩⟩
     ·rintro vals w' A9 c9 t ⟨l9,LC,hP9⟩ hK9 _ gP _ _
      go_wp2
      go_roundg f
      case measure=>omega
      case rel=>exact ⟨acc ++ [t],A9,c9,l9,by simp;omega,aO,LC,Gr.setCell (o7 lV gP (by omega)) (.inl (by show w.heap.size<=w2.heap.size+1;omega)) _,ag.far (Nt.wr gP (by omega) (.inl (by omega))) (by show w.heap.size≠w2.heap.size+1;omega) _,by rw [List.length_append];exact (xN.wr gP (by omega) (.inr rfl)).jC _,by rw [List.length_append];exact hK9.kid.setCell (by show w2.heap.size+1 < _;omega) _,by have:=gP.size;simp;omega⟩
 have eY:=fJ.out
 rw [if_neg hm] at eY
 have ada:=bC hm
 clear fJ hm
 have fJ:=af eY
 clear eY
 by_cases hm:mark (y :: l4)=[105,110,116,101,114,102,97,99,101]
 ·have eY:=fJ.out
  rw [if_pos hm,bH] at eY
  have HX:=af (iB hP2.good (by rw [hm];simp))
  have HM:=af hm
  clear fJ hm
  have fJ:=af eY
  clear eY
  go_wp2_with (first
   |(go_at_call 37;refine (aH E _ (y :: l4) o aO).mono ?_;rw [HM.out,show bs [105,110,116,101,114,102,97,99,101]=⟨#[105,110,116,101,114,102,97,99,101]⟩ from rfl];rintro e w3 ⟨rfl,hg3⟩;have hP3:PS E w3 (y :: l4) o:=PS.below aO hg3;have hG3:=aL hG2 hg3;have aF:=bV ax hg3;have tJ:ag w3 w2.heap.size 53 (T4 x2.1.k (bs x2.1.t) x2.1.n x2.2):=ag.aC bz hg3;have aM:ag w3 (w2.heap.size+1) 24 (N7 0 0 0 ⟨#[]⟩ (bs x2.1.t) x2.2 (.slice none 0 0)):=ag.aC bz hg3;obtain ⟨_,yP,_,_,_,_,_,_,pg⟩:=aM.av)
   |(go_at_call 39;refine (iK E _ y l4 o aO HX.out).mono ?_;rintro e w4 ⟨rfl,hg4,qm⟩;have hG4:=bQ hG3 hg4;have aK:=aD aF hg4;have sj:=aD tJ hg4;have aW:ag w4 (w2.heap.size+1) 24 (N7 7 0 0 ⟨#[]⟩ (bs x2.1.t) x2.2 (.slice none 0 0)):=bU hg4)
   |(go_at_call 65;(with_reducible refine (kN E _ l4 o [123] ⟨#[123]⟩ _ _ aO rfl (by simp) fJ.out).mono ?_);rintro e w5 ⟨hg5,⟨a,k,hb,rfl⟩|⟨x5,l5,rfl,rC,wX⟩⟩;exact iG (Gr.trans aJ hg5) hb;have iw:=bQ hG4 hg5;have yQ:=af rC;clear rC;have aT:=aD aK hg5;have De:=aD sj hg5;have aR:=aD aW hg5;have wI:=aR.lt))
  have hw2:w2.heap.size+2<=w5.heap.size:=by omega
  go_loopg [] n (fun gk wr=>∃(acc:List Tr) (A:Option Addr) (c:Nat) (l6:List T),acc.length+gk<=n/\PS E wr l6 (o+1)/\bnd (go gk (.parts .sig acc) l6 (o+1)) (fun t l=>want [125] l fun _ q=>g (zm 7 x2.1.t x2.2 t.kids) q)=r/\Gr (·=E.b) w wr/\ag wr w.heap.size 24 Z7/\ag wr (w2.heap.size+1) 24 (N7 7 0 0 ⟨#[]⟩ (bs x2.1.t) x2.2 (.slice A acc.length c))/\aI wr (w2.heap.size+2) (.slice A acc.length c) acc/\w2.heap.size+2<=wr.heap.size)
  case atStart=>exact ⟨[],none,0,l5,by simp,aO,yQ.out,aJ,aT,aR,aI.nil _ _ 0,hw2⟩
  case round=>
   obtain ⟨acc,A,c,l6,hac,yC,r9,iX,Sv,hb6,UB,_⟩:=hrel
   have hal:acc.length<=3*cK:=by have:=HN.out;unfold cK at*;omega
   cases gk with
   |zero=>exact absurd (by rw [<-r9];rfl) HR.out
   |succ f=>
    simp only [go,eD,dM,dG] at r9
    have Tc:=yC.lt
    have Ou:=yC.toks.lt
    by_cases hm:mark l6=[125]
    ·rw [if_pos hm] at r9
     have HM6:=af hm
     have Cm:=af r9
     clear r9 hm
     go_wp2_with (first
      |(go_at_call 37;refine (aH E _ _ _ yC).mono ?_;rw [HM6.out,show bs [125]=⟨#[125]⟩ from rfl];rintro e w7 ⟨rfl,wJ⟩;have Ao:=yC.below wJ;have lV:Gr (·=E.b) w w7:=Gr.trans iX (Gr.of_below wJ);have Nt:=Sv.aC wJ;have xN:=hb6.aC wJ;have Oo:=UB.aC wJ)
      |(go_at_call 66;refine (gY E _ _ _ [125] _ _ _ Ao rfl (by simp) Cm.out).mono ?_;rintro e w8 ⟨fK,⟨a,k,hb,rfl⟩|⟨_,l8,rfl,hq8,QS⟩⟩;exact And.intro rfl ⟨Gr.trans lV fK,.inl ⟨_,_,hb,rfl⟩⟩;have qJ:=lV.trans fK;have Vq:=af hq8;clear hq8;have hz8:=Nt.call fK (by omega);have hb8:=xN.call fK (by omega);have hk8:=Oo.call fK (by omega);obtain ⟨_,z0,z1,z2,z3,z4,z5,z6,zf⟩:=hz8.av;obtain ⟨_,b0,b1,b2,b3,b4,b5,b6,_⟩:=hb8.av))
     exact aX Tryz.results43 rfl rfl dS ⟨aJ,.inr ⟨7,0,0,[],x2.1.t,x2.2,acc,A,c,l8,rfl,Vq.out,aI.mono (lo:=w2.heap.size+2) nS (by omega),hal,aO⟩⟩
    ·rw [if_neg hm] at r9
     have hmn:=bC hm
     have Cm:=af r9
     clear r9 hm
     go_wp2_with (go_at_call 37;refine (aH E _ _ _ yC).mono ?_;rintro e w7 ⟨rfl,wJ⟩;have Ao:=yC.below wJ;have lV:Gr (·=E.b) w w7:=Gr.trans iX (Gr.of_below wJ);have Nt:=Sv.aC wJ;have xN:=hb6.aC wJ;have Oo:=UB.aC wJ;have Oq:=Ao.lt;have Ot:=Ao.toks.lt;have hl7:=xN.lt)
     have Hf:=H f (by omega)
     obtain ⟨bl,_,_,_,_,_,_,b6,bf⟩:=xN.av
     refine dD E.b (w2.heap.size+2) (w2.heap.size+1) (.func (Fn.func 64) #[.pointer (some ⟨E.b,0,none⟩)] #[]) 64 #[.pointer (some ⟨E.b,0,none⟩)] (oO r) (wG E (o+1) (fun t l=>bnd (go f (.parts .sig (acc ++ [t])) l (o+1)) fun t l=>want [125] l fun _ q=>g (zm 7 x2.1.t x2.2 t.kids) q) r) (Oo.x (by omega)) (show aN _ _ (w2.heap.size+1) _ _ from Oo.x (by omega)).p (xlt (by omega)) b6 (bf 6) (by omega) (by omega) (by omega) (by omega) hal (aZ E _ _ _ r (by omega) (by omega)) (aZ E _ _ _ r (by omega) (by omega)) ((Hf.sig E _ l6 (o+1) _ r Ao.drew Cm.out HR.out).mono fun e w' h=>tells h) ?_ ?_
     ·rintro a w' c had ⟨at_,k,hb,rfl⟩ hg
      exact And.intro had ⟨lV.trans hg,.inl ⟨_,_,hb,rfl⟩⟩
     ·rintro vals w' A9 c9 t ⟨l9,LC,hP9⟩ hK9 _ gP _ _
      go_wp2
      go_roundg f
      case measure=>omega
      case rel=>exact ⟨acc ++ [t],A9,c9,l9,by simp;omega,aO,LC,Gr.setCell (o7 lV gP (by omega)) (.inl (by show w.heap.size<=w2.heap.size+1;omega)) _,ag.far (Nt.wr gP (by omega) (.inl (by omega))) (by show w.heap.size≠w2.heap.size+1;omega) _,by rw [List.length_append];exact (xN.wr gP (by omega) (.inr rfl)).jC _,by rw [List.length_append];exact hK9.kid.setCell (by show w2.heap.size+1 < _;omega) _,by have:=gP.size;simp;omega⟩
 have eY:=fJ.out
 rw [if_neg hm] at eY
 have YW:=bC hm
 clear fJ hm
 have fJ:=af eY
 clear eY
 have eY:=fJ.out
 rw [rF] at eY
 have fJ:=af eY
 clear eY
 go_wp2_with (first
  |(go_at_call 37;refine (aH E _ (y :: l4) o aO).mono ?_;rintro e w3 ⟨rfl,hg3⟩;have hP3:PS E w3 (y :: l4) o:=PS.below aO hg3;have hG3:=aL hG2 hg3;have aF:=bV ax hg3;have tJ:ag w3 w2.heap.size 53 (T4 x2.1.k (bs x2.1.t) x2.1.n x2.2):=ag.aC bz hg3;have aM:ag w3 (w2.heap.size+1) 24 (N7 0 0 0 ⟨#[]⟩ (bs x2.1.t) x2.2 (.slice none 0 0)):=ag.aC bz hg3)
  |(go_at_call 38;refine (sW E _ y l4 o aO).mono ?_;rintro e w9 ⟨rfl,gP⟩))
 refine And.intro rfl ?_
 exact ⟨Gr.trans hG3 (Gr.of_below gP),.inl ⟨_,_,fJ.out.symm,rfl⟩⟩
theorem LP (n:Nat) (hn:n<=cK) (H:∀m,m<=n->ku m):C0 (n+1) 112 .define:=by
 intro E w l o g r hP hq hr
 simp only [go,eH,jr,dG,dM] at hq
 have hlt:=hP.lt
 have hgt:=hP.toks.lt
 have HR:=af hr
 have Hn:=H n (Nat.le_refl _)
 clear hr
 have fZ:=af hq
 clear hq
 go_enter Tryz.func112,Tryz.ntmps112
 go_wp2_with (first
  |(go_at_call 19;(with_reducible refine (jd E _ l o _ _ aO fZ.out).mono ?_);rintro e w1 ⟨hg1,⟨a,k,hb,rfl⟩|⟨x1,l1,rfl,hq1,hP1⟩⟩;exact iG (Gr.trans aJ hg1) hb;have hG1:=o8 w hg1;have fG:=af hq1;clear hq1;have kW:=hP1.lt;have az:ag w1 w.heap.size 24 Z7:=bU hg1)
  |(go_at_call 18;(with_reducible refine (bT E _ l1 o [58,61] ⟨#[58,61]⟩ _ _ aO rfl (by simp) fG.out).mono ?_);rintro e w2 ⟨hg2,⟨a,k,hb,rfl⟩|⟨x2,l2,rfl,hq2,hP2⟩⟩;exact iG (Gr.trans aJ hg2) hb;have hG2:=bQ hG1 hg2;have fJ:=af hq2;clear hq2;have ou:=hP2.lt;have ql:=hP2.toks.lt;have ax:=aD az hg2;have jT:=ax.lt;have qI:ag w2 w1.heap.size 53 (T4 x1.1.k (bs x1.1.t) x1.1.n x1.2):=bU hg2))
 refine Vz E.b 26 w1.heap.size 18 x1 62 #[.pointer (some ⟨E.b,0,none⟩)] (oO r) (fun W=>PS E W l2 o) (wG E o _ r) rfl (by kernel_rfl) rfl (by kernel_rfl) (by kernel_rfl) (by kernel_rfl) (by kernel_rfl) (by kernel_rfl) (by kernel_rfl) (by kernel_rfl) (by kernel_rfl) (by kernel_rfl) (by kernel_rfl) (by kernel_rfl) (by kernel_rfl) (by kernel_rfl)
  (fun a w h=>by simp [Act.eval] at h;unfold execOp;go_simp) rfl rfl qI (by omega) (by omega) (oV E _ _ o (by omega) (by omega)) hP2 (aZ E _ o _ r (by omega) (by omega)) (fun W hW=>(Hn.expr E W l2 o _ r hW fJ.out HR.out).mono fun e w' h=>tells h) ?_ ?_
 ·rintro a w' c had ⟨at_,k,hb,rfl⟩ hg
  exact And.intro had ⟨hG2.trans hg,.inl ⟨_,_,hb,rfl⟩⟩
 rintro vals w3 u3 zz gg Ve hzz ⟨l3,hq3,hP3⟩ hg3 aM kX
 have hG3:Gr (·=E.b) w w3:=hG2.trans hg3
 have aF:ag w3 w.heap.size 24 Z7:=ax.gr hg3 (by omega)
 dsimp only [bG,List.take_succ_cons,List.take_zero,List.take_nil]
 rw [Ve]
 clear Ve hg3
 have kE:=af hq3
 clear hq3
 go_wp2_with (first
  |(go_at_call 18;(with_reducible refine (bT E _ l3 o [59] ⟨#[59]⟩ _ _ aO rfl (by simp) kE.out).mono ?_);rintro e w4 ⟨hg4,⟨a,k,hb,rfl⟩|⟨x4,l4,rfl,hq4,qm⟩⟩;exact iG (Gr.trans aJ hg4) hb;have hG4:=bQ hG3 hg4;have tH:=af hq4;clear hq4;have aK:=aD aF hg4;obtain ⟨_,wO,xC,xD,xE,xG,xH,xI,wP⟩:=aK.av;have aW:ag w4 zz 24 (N7 18 0 0 ⟨#[]⟩ (bs x1.1.t) x1.2 (.slice (some ⟨gg,0,none⟩) 1 1)):=bU hg4;obtain ⟨_,Ck,Dp,EB,EC,ED,EE,xJ,_⟩:=aW.av;have qo:aN w4 w2.heap.size zz (.slice (some ⟨gg,0,none⟩) 1 1) [u3]:=rO hg4))
 exact aX Tryz.results112 rfl rfl dS ⟨aJ,.inr ⟨18,0,0,[],x1.1.t,x1.2,[u3],_,1,l4,rfl,tH.out,aI.mono (lo:=w2.heap.size) (v:=.slice (some ⟨gg,0,none⟩) 1 1) (ks:=[u3]) (aN.kid (h:=zz) oZ) (by omega),(by simp [cK]),aO⟩⟩
theorem VD {Q:Exit->Act->World->Prop} {K:Act->World->Prop} {w:World} {a:Act} {ty:TypeId} {pos:String} {after:Array Edge} (x y:Operand) (v:Int) {z i:Nat} {u:Value}
  (hx:a.eval x= .pointer (some ⟨z,i,none⟩)) (hy:a.eval y= .int .i64 v) (hc:w.cell? ⟨z,i,none⟩=some u) (hf:w.frozen? ⟨z,i,none⟩=false) (hk:K (a.put none undef) (w.setCell ⟨z,i,none⟩ (.int .i64 v))):
  ({ dst:=none,op:=.store 3 x y,type:=ty,pos:=pos,after:=after,guard:=none }:Oper).wp Tryz.prog a w K Q:=by
 have:(execOp a.eval { dst:=none,op:=.store 3 x y,type:=ty,pos:=pos,after:=after,guard:=none }).run Tryz.prog w= .ok .skip (w.setCell ⟨z,i,none⟩ (.int .i64 v)):=by
  unfold execOp;simp only [hx,hy];go_simp
 unfold Oper.wp
 rw [this]
 exact hk
theorem Bq (n:Nat) (hn:n<=cK) (H:∀m,m<=n->ku m):C0 (n+1) 44 .kU:=by
 intro E w l o g r hP hq hr
 simp only [go,mg,eH,jr,eD,dG,dM] at hq
 have hlt:=hP.lt
 have hgt:=hP.toks.lt
 have HR:=af hr
 have Hn:=H n (Nat.le_refl _)
 clear hr
 have fZ:=af hq
 clear hq
 go_enter Tryz.func44,Tryz.ntmps44
 go_wp2_with (first
  |(go_at_call 18;(with_reducible refine (bT E _ l o [102,117,110,99] ⟨#[102,117,110,99]⟩ _ _ aO rfl (by simp) fZ.out).mono ?_);rintro e w1 ⟨hg1,⟨a,k,hb,rfl⟩|⟨x1,l1,rfl,hq1,hP1⟩⟩;exact iG (Gr.trans aJ hg1) hb;have hG1:=o8 w hg1;have fG:=af hq1;clear hq1;have kW:=hP1.lt;have oP:=hP1.toks.lt;have hs1:=hg1.size;(try simp at hs1);have az:ag w1 w.heap.size 24 Z7:=bU hg1))
 by_cases hm:mark l1=[40]
 ·skip
  have eY:=fG.out
  rw [if_pos hm] at eY
  have HM:=af hm
  clear fG hm
  have fG:=af eY
  clear eY
  go_wp2_with (first
   |(go_at_call 37;refine (aH E _ l1 o aO).mono ?_;rw [HM.out,show bs [40]=⟨#[40]⟩ from rfl];rintro e w2 ⟨rfl,hg2⟩;have hP2:PS E w2 l1 o:=PS.below aO hg2;have hG2:=aL hG1 hg2;have hs2:=hg2.size;(try simp at hs2);have ax:=bV az hg2;have bq:ag w2 w1.heap.size 24 (N7 9 0 0 ⟨#[]⟩ ⟨#[]⟩ 0 (.slice none 0 0)):=ag.aC bz hg2;have adu:=bq.lt)
   |(go_at_call 67;refine (Hn.receiver E _ l1 o _ r aO fG.out HR.out).mono ?_;rintro e w3 ⟨hg3,⟨a,k,hb,rfl⟩|⟨k3,ng,m3,p3,t3,a3,kC,A3,c3,l3,rfl,hq3,iI,_,hP3⟩⟩;exact iG (Gr.trans aJ hg3) hb;have hG3:=bQ hG2 hg3;have kE:=af hq3;clear hq3;have aF:=aD ax hg3;have aM:=aD bq hg3;have zu:=aM.lt;obtain ⟨_,yP,Jr,EL,Jp,GL,GM,sH,pg⟩:=aM.av;have iI:=aI.mono (lo':=w2.heap.size+0) iI (by simp)))
  obtain ⟨w4,hW⟩:=uj ((((((((w3.setCell ⟨w1.heap.size,0,none⟩ (.int .i64 10)).setCell ⟨w1.heap.size,1,none⟩ (.int .i64 0)).setCell ⟨w1.heap.size,2,none⟩ (.int .i64 0)).setCell ⟨w1.heap.size,3,none⟩ (.string ⟨#[]⟩)).setCell ⟨w1.heap.size,4,none⟩ (.string ⟨#[]⟩)).setCell ⟨w1.heap.size,5,none⟩ (.int .i64 0)).setCell ⟨w1.heap.size,6,none⟩ (.slice (some ⟨w3.heap.size,0,none⟩) 1 1)).alloc (.cells #[.int .i64 k3,.int .i64 ng,.int .i64 m3,.string (bs p3),.string (bs t3),.int .i64 a3,.slice A3 kC.length c3] 24))
  have qm:PS E w4 l3 o:=by rw [hW];exact aO
  have hG4:Gr (·=E.b) w w4:=by rw [hW];exact aJ
  have aK:ag w4 w.heap.size 24 Z7:=by rw [hW];exact bz
  have aW:ag w4 w1.heap.size 24 (N7 10 0 0 ⟨#[]⟩ ⟨#[]⟩ 0 (.slice (some ⟨w3.heap.size,0,none⟩) 1 1)):=by rw [hW];exact dS
  have Yk:aI (((((((w3.setCell ⟨w1.heap.size,0,none⟩ (.int .i64 10)).setCell ⟨w1.heap.size,1,none⟩ (.int .i64 0)).setCell ⟨w1.heap.size,2,none⟩ (.int .i64 0)).setCell ⟨w1.heap.size,3,none⟩ (.string ⟨#[]⟩)).setCell ⟨w1.heap.size,4,none⟩ (.string ⟨#[]⟩)).setCell ⟨w1.heap.size,5,none⟩ (.int .i64 0)).setCell ⟨w1.heap.size,6,none⟩ (.slice (some ⟨w3.heap.size,0,none⟩) 1 1)) (w2.heap.size+0) (.slice A3 kC.length c3) kC:=nS
  have qo:aN w4 (w1.heap.size+1) w1.heap.size (.slice (some ⟨w3.heap.size,0,none⟩) 1 1) [Tr.mk k3 ng m3 p3 t3 a3 kC]:=by rw [hW];exact aI.x (aI.oW (lo:=w1.heap.size+1) (k:=k3) (op:=ng) (m:=m3) (p:=p3) (t:=t3) (a:=a3) (A:=A3) (c:=c3) (aI.mono Yk (by omega)) (by simp;omega) (by simp)) (by omega)
  rw [<-hW]
  clear Yk hW
  go_wp2_with (first
   |(go_at_call 19;(with_reducible refine (jd E _ l3 o _ _ aO kE.out).mono ?_);rintro e w5 ⟨hg5,⟨a,k,hb,rfl⟩|⟨x5,l5,rfl,rC,wX⟩⟩;exact iG (Gr.trans aJ hg5) hb;have iw:=bQ hG4 hg5;have yQ:=af rC;clear rC;have aT:=aD aK hg5;have aR:=aD aW hg5;have wI:=aR.lt;have rZ:aN w5 (w1.heap.size+1) w1.heap.size (.slice (some ⟨w3.heap.size,0,none⟩) 1 1) [Tr.mk k3 ng m3 p3 t3 a3 kC]:=rO hg5))
  obtain ⟨w6,hW⟩:=uj (w5.alloc (.cells #[.int .i64 x5.1.k,.string (bs x5.1.t),.int .i64 x5.1.n,.int .i64 x5.2] 53))
  have yC:PS E w6 l5 o:=by rw [hW];exact aO
  have iX:Gr (·=E.b) w w6:=by rw [hW];exact aJ
  have bn:ag w6 w.heap.size 24 Z7:=by rw [hW];exact bz
  have bE:ag w6 w1.heap.size 24 (N7 10 0 0 ⟨#[]⟩ ⟨#[]⟩ 0 (.slice (some ⟨w3.heap.size,0,none⟩) 1 1)):=by rw [hW];exact bz
  have zx:ag w6 w5.heap.size 53 (T4 x5.1.k (bs x5.1.t) x5.1.n x5.2):=by rw [hW];exact bz
  have Bd:aN w6 (w1.heap.size+1) w1.heap.size (.slice (some ⟨w3.heap.size,0,none⟩) 1 1) [Tr.mk k3 ng m3 p3 t3 a3 kC]:=by rw [hW];exact oZ
  rw [<-hW]
  clear hW
  refine wp_region_held_drew (S:=fun W=>ag W w5.heap.size 53 (T4 x5.1.k (bs x5.1.t) x5.1.n x5.2)) (by kernel_rfl) zx (fun hS0=>?_)
  refine oU 0 hS0 ?_ (he:=fun w' hS=>by ((try skip);unfold execOp;go_simp;first|done|exact rfl))
  refine oU 1 hS0 ?_ (he:=fun w' hS=>by ((try obtain ⟨_,_,s1,_⟩:=hS.jX);unfold execOp;go_simp;first|done|exact rfl))
  refine oU 2 hS0 ?_ (he:=fun w' hS=>by ((try skip);unfold execOp;go_simp;first|done|exact rfl))
  refine oU 3 hS0 ?_ (he:=fun w' hS=>by ((try obtain ⟨_,_,_,_,s3,_⟩:=hS.jX);unfold execOp;go_simp;first|done|exact rfl))
  refine oU 4 hS0 ?_ (he:=fun w' hS=>by ((try skip);unfold execOp;go_simp;first|done|exact rfl))
  refine oI 5 rfl (Jq _ _ (bs x5.1.t) rfl rfl (bE.drew.cell 4) (bE.drew.frozen 4) (And.intro (ag.far zx.drew (by simp;omega) _) ?_))
  simp only [Act.put,gA,gB,gC,gD,gE,gF]
  refine oI 6 rfl (sF (.pointer (some ⟨w1.heap.size,5,none⟩)) (by unfold execOp;go_simp) (And.intro (ag.far zx.drew (by simp;omega) _) ?_))
  simp only [Act.put,gA,gB,gC,gD,gE,gF]
  refine oI 7 rfl (VD _ _ x5.2 rfl rfl ((ag.GH bE.drew _).cell 5) ((ag.GH bE.drew _).frozen 5) (And.intro (ag.far (ag.far zx.drew (by simp;omega) _) (by simp;omega) _) ?_))
  simp only [Act.put,gA,gB,gC,gD,gE,gF]
  refine eZ ?_
  obtain ⟨w7,hW⟩:=uj ((w6.drew.setCell ⟨w1.heap.size,4,none⟩ (.string (bs x5.1.t))).setCell ⟨w1.heap.size,5,none⟩ (.int .i64 x5.2))
  have Ao:PS E w7 l5 o:=by rw [hW];exact aO
  have lV:Gr (·=E.b) w w7:=by rw [hW];exact aJ
  have bW:ag w7 w.heap.size 24 Z7:=by rw [hW];exact bz
  have dm:ag w7 w1.heap.size 24 (N7 10 0 0 ⟨#[]⟩ (bs x5.1.t) x5.2 (.slice (some ⟨w3.heap.size,0,none⟩) 1 1)):=by rw [hW];exact bz
  have QU:=dm.lt
  have Iq:aN w7 (w1.heap.size+1) w1.heap.size (.slice (some ⟨w3.heap.size,0,none⟩) 1 1) [Tr.mk k3 ng m3 p3 t3 a3 kC]:=by rw [hW];exact oZ
  rw [<-hW]
  clear hW
  obtain ⟨_,Lx,_⟩:=dm.av
  go_wp2_with (first
   |(go_at_call 70;refine (Hn.head .param E _ l5 o (w1.heap.size+1) w1.heap.size _ r 10 0 0 [] x5.1.t x5.2 [Tr.mk k3 ng m3 p3 t3 a3 kC] (some ⟨w3.heap.size,0,none⟩) 1 _ rfl aO (by omega) (by omega) (by omega) (by omega) (by omega) (by first|omega|(simp;done)|(simp;omega)) (by simp [cK]) (show ag _ w1.heap.size 24 (N7 10 0 0 ⟨#[]⟩ (bs x5.1.t) x5.2 (.slice (some ⟨w3.heap.size,0,none⟩) 1 1)) from bz) (aN.kid (h:=w1.heap.size) (v:=.slice (some ⟨w3.heap.size,0,none⟩) 1 1) (ks:=[Tr.mk k3 ng m3 p3 t3 a3 kC]) oZ) (uU yQ.out) HR.out).mono ?_;rintro e w8 ⟨fK,⟨a,k,hb,rfl⟩|⟨m8,Ar,A8,c8,l8,rfl,hq8,QS,hn8,QV,dV⟩⟩;exact And.intro rfl ⟨Gr.wide aJ fK (fun q hq hs=>by (rcases hs with hs|hs|hs;exact hs;omega;omega)),.inl ⟨_,_,hb,rfl⟩⟩;have qJ:Gr (·=E.b) w w8:=Gr.wide aJ fK (fun q hq hs=>by (rcases hs with hs|hs|hs;exact hs;omega;omega));have hm8:m8=0\/m8=1:=(Decidable.byContradiction fun hc=>HR.out (by rw [<-hq8];exact if_neg hc));simp only [Tr.num,hm8,if_true] at hq8;have adH:(if m8=1 then (1:Int) else 0)=m8:=(by rcases hm8 with h|h <;> simp [h]);rw [adH] at dV;clear adH hm8;have Vq:=af hq8;clear hq8;have adx:=QS.lt;have ady:=QS.toks.lt;have ZQ:=dV.lt;have dV:ag w8 w1.heap.size 24 (N7 10 0 m8 ⟨#[]⟩ (bs x5.1.t) x5.2 (.slice A8 ([Tr.mk k3 ng m3 p3 t3 a3 kC] ++ Ar).length c8)):=dV;have dK:ag w8 w.heap.size 24 Z7:=ag.gr bz fK (by (rintro (h|h|h) <;> omega));have Ir:aN w8 (w1.heap.size+1) w1.heap.size (.slice A8 ([Tr.mk k3 ng m3 p3 t3 a3 kC] ++ Ar).length c8) ([Tr.mk k3 ng m3 p3 t3 a3 kC] ++ Ar):=aI.x QV (by omega)))
  have hln:=hn8
  unfold cK at hln
  obtain ⟨_,_,_,_,_,_,_,Dv,_⟩:=dV.av
  refine eX 11 3 5 6 7 8 10 1 4 9 E.b 72 #[.pointer (some ⟨E.b,0,none⟩)] (oO r) (fun W=>PS E W l8 o) (wG E o _ r) Ir.p rfl (xlt (by omega)) dV (by omega) (by omega) (by omega) (by omega) (by simp [cK];omega) (oV E _ _ o (by omega) (by omega)) QS (aZ E _ o _ r (by omega) (by omega)) (fun t w u hd=>by obtain ⟨l9,h1,h2⟩:=hd;exact ⟨l9,h1,h2.setCell (by show w1.heap.size≠_;omega) (by show w1.heap.size≠_;omega) u⟩) (fun W hW=>(Hn.block E W l8 o _ r hW Vq.out HR.out).mono fun e w' h=>tells h) ?_ (Lm Ir ?_)
  ·rintro a w' c had ⟨at_,k,hb,rfl⟩ hg
   exact And.intro had ⟨qJ.trans hg,.inl ⟨_,_,hb,rfl⟩⟩
  rintro vals w9 A9 c9 ub ⟨l9,LC,hP9⟩ Vv hgx jv
  have wY:Gr (·=E.b) w w9:=Gr.wide qJ hgx (fun q hq hs=>by
   rcases hs with hs|hs|hs
   ·exact hs
   ·omega
   ·omega)
  have gH:ag w9 w.heap.size 24 Z7:=ag.gr dK hgx (by rintro (h|h|h) <;> omega)
  dsimp only [bG,List.take_succ_cons,List.take_zero,List.take_nil]
  have HQ9:=af LC
  clear LC hgx
  obtain ⟨_,Oh,Vr,SN,Vs,Vt,Vu,Oi,_⟩:=jv.av
  obtain ⟨_,SC,SE,SF,SG,SH,SI,SK,SL⟩:=gH.av
  go_wp2
  have hl:=(show ([Tr.mk k3 ng m3 p3 t3 a3 kC] ++ Ar ++ [ub]).length=([Tr.mk k3 ng m3 p3 t3 a3 kC] ++ Ar).length+1 by first|(simp;done)|(simp;omega))
  exact aX Tryz.results44 rfl rfl dS ⟨aJ,.inr ⟨10,0,m8,[],x5.1.t,x5.2,(([Tr.mk k3 ng m3 p3 t3 a3 kC] ++ Ar) ++ [ub]),A9,c9,l9,(by rw [hl];first|done|rfl|(simp only [List.length_append];rfl)),HQ9.out,(by rw [hl];exact aI.mono (lo:=w1.heap.size+1) (v:=.slice A9 (([Tr.mk k3 ng m3 p3 t3 a3 kC] ++ Ar).length+1) c9) (ks:=(([Tr.mk k3 ng m3 p3 t3 a3 kC] ++ Ar) ++ [ub])) (aN.kid (h:=w1.heap.size) oZ) (by omega)),(by simp [cK];omega),aO⟩⟩
 ·skip
  have eY:=fG.out
  rw [if_neg hm] at eY
  have adC:=bC hm
  clear fG hm
  have fG:=af eY
  clear eY
  go_wp2_with (first
   |(go_at_call 37;refine (aH E _ l1 o aO).mono ?_;rintro e w2 ⟨rfl,hg2⟩;have hP2:PS E w2 l1 o:=PS.below aO hg2;have hG2:=aL hG1 hg2;have ax:=bV az hg2;have bq:ag w2 w1.heap.size 24 (N7 9 0 0 ⟨#[]⟩ ⟨#[]⟩ 0 (.slice none 0 0)):=ag.aC bz hg2;have kY:aN w2 (w1.heap.size+1) w1.heap.size (.slice none 0 0) ([]:List Tr):=aN.aC oZ hg2)
   |(go_at_call 19;(with_reducible refine (jd E _ l1 o _ _ aO fG.out).mono ?_);rintro e w3 ⟨hg3,⟨a,k,hb,rfl⟩|⟨x3,l3,rfl,hq3,hP3⟩⟩;exact iG (Gr.trans aJ hg3) hb;have hG3:=bQ hG2 hg3;have kE:=af hq3;clear hq3;have aF:=aD ax hg3;have aM:=aD bq hg3;have zu:=aM.lt;have kX:aN w3 (w1.heap.size+1) w1.heap.size (.slice none 0 0) ([]:List Tr):=rO hg3))
  obtain ⟨w4,hW⟩:=uj (w3.alloc (.cells #[.int .i64 x3.1.k,.string (bs x3.1.t),.int .i64 x3.1.n,.int .i64 x3.2] 53))
  have qm:PS E w4 l3 o:=by rw [hW];exact aO
  have hG4:Gr (·=E.b) w w4:=by rw [hW];exact aJ
  have aK:ag w4 w.heap.size 24 Z7:=by rw [hW];exact bz
  have aW:ag w4 w1.heap.size 24 (N7 9 0 0 ⟨#[]⟩ ⟨#[]⟩ 0 (.slice none 0 0)):=by rw [hW];exact bz
  have sj:ag w4 w3.heap.size 53 (T4 x3.1.k (bs x3.1.t) x3.1.n x3.2):=by rw [hW];exact bz
  have qo:aN w4 (w1.heap.size+1) w1.heap.size (.slice none 0 0) ([]:List Tr):=by rw [hW];exact oZ
  rw [<-hW]
  clear hW
  refine wp_region_held_drew (S:=fun W=>ag W w3.heap.size 53 (T4 x3.1.k (bs x3.1.t) x3.1.n x3.2)) (by kernel_rfl) sj (fun hS0=>?_)
  refine oU 0 hS0 ?_ (he:=fun w' hS=>by ((try skip);unfold execOp;go_simp;first|done|exact rfl))
  refine oU 1 hS0 ?_ (he:=fun w' hS=>by ((try obtain ⟨_,_,s1,_⟩:=hS.jX);unfold execOp;go_simp;first|done|exact rfl))
  refine oU 2 hS0 ?_ (he:=fun w' hS=>by ((try skip);unfold execOp;go_simp;first|done|exact rfl))
  refine oU 3 hS0 ?_ (he:=fun w' hS=>by ((try obtain ⟨_,_,_,_,s3,_⟩:=hS.jX);unfold execOp;go_simp;first|done|exact rfl))
  refine oU 4 hS0 ?_ (he:=fun w' hS=>by ((try skip);unfold execOp;go_simp;first|done|exact rfl))
  refine oI 5 rfl (Jq _ _ (bs x3.1.t) rfl rfl (aW.drew.cell 4) (aW.drew.frozen 4) (And.intro (ag.far sj.drew (by simp;omega) _) ?_))
  simp only [Act.put,gA,gB,gC,gD,gE,gF]
  refine oI 6 rfl (sF (.pointer (some ⟨w1.heap.size,5,none⟩)) (by unfold execOp;go_simp) (And.intro (ag.far sj.drew (by simp;omega) _) ?_))
  simp only [Act.put,gA,gB,gC,gD,gE,gF]
  refine oI 7 rfl (VD _ _ x3.2 rfl rfl ((ag.GH aW.drew _).cell 5) ((ag.GH aW.drew _).frozen 5) (And.intro (ag.far (ag.far sj.drew (by simp;omega) _) (by simp;omega) _) ?_))
  simp only [Act.put,gA,gB,gC,gD,gE,gF]
  refine eZ ?_
  obtain ⟨w5,hW⟩:=uj ((w4.drew.setCell ⟨w1.heap.size,4,none⟩ (.string (bs x3.1.t))).setCell ⟨w1.heap.size,5,none⟩ (.int .i64 x3.2))
  have wX:PS E w5 l3 o:=by rw [hW];exact aO
  have iw:Gr (·=E.b) w w5:=by rw [hW];exact aJ
  have aT:ag w5 w.heap.size 24 Z7:=by rw [hW];exact bz
  have aR:ag w5 w1.heap.size 24 (N7 9 0 0 ⟨#[]⟩ (bs x3.1.t) x3.2 (.slice none 0 0)):=by rw [hW];exact bz
  have rZ:aN w5 (w1.heap.size+1) w1.heap.size (.slice none 0 0) ([]:List Tr):=by rw [hW];exact oZ
  rw [<-hW]
  clear hW
  obtain ⟨_,LB,_⟩:=aR.av
  by_cases hm:mark l3=[91]
  ·skip
   have eY:=kE.out
   rw [if_pos hm] at eY
   have HM:=af hm
   have Jv:=af eY
   clear hm eY
   go_wp2_with (first
    |(go_at_call 37;refine (aH E _ l3 o aO).mono ?_;rw [HM.out,show bs [91]=⟨#[91]⟩ from rfl];rintro e w6 ⟨rfl,dA⟩;have yC:=NN wX dA;have iX:=aL iw dA;have bn:=bV aT dA;have bE:=bV aR dA;have Bd:aN w6 (w1.heap.size+1) w1.heap.size (.slice none 0 0) ([]:List Tr):=aN.aC oZ dA)
    |(go_at_call 65;(with_reducible refine (kN E _ l3 o [91] ⟨#[91]⟩ _ _ aO rfl (by simp) Jv.out).mono ?_);rintro e w7 ⟨dZ,⟨a,k,hb,rfl⟩|⟨x7,l7,rfl,Dt,Ao⟩⟩;exact iG (Gr.trans aJ dZ) hb;have lV:=bQ iX dZ;have Nu:=af Dt;clear Dt;have bW:=aD bn dZ;have dm:=aD bE dZ;have QU:=dm.lt)
    |(go_at_call 68;refine (Hn.list .lY E _ l7 (o+1) _ r _ rfl aO Nu.out HR.out).mono ?_;rintro e w8 ⟨fK,⟨a,k,hb,rfl⟩|⟨Ar,A8,c8,l8,rfl,hq8,QV,hn8,QS⟩⟩;exact iG (Gr.trans aJ fK) hb;have qJ:=bQ lV fK;have Vq:=af hq8;clear hq8;have dK:=aD bW fK;have dV:=aD dm fK;obtain ⟨_,_,_,_,_,_,_,Dv,Oj⟩:=dV.av;have QV:=aI.mono (lo':=w1.heap.size+1) QV (by omega))
    |(go_at_call 66;(with_reducible refine (gY E _ l8 o [93] ⟨#[93]⟩ _ _ aO rfl (by simp) Vq.out).mono ?_);rintro e w9 ⟨gP,⟨a,k,hb,rfl⟩|⟨_,l9,rfl,LC,hP9⟩⟩;exact iG (Gr.trans aJ gP) hb;have wY:=bQ qJ gP;have HQ9:=af LC;clear LC;have gH:=aD dK gP;have jv:ag w9 w1.heap.size 24 (N7 9 0 0 ⟨#[]⟩ (bs x3.1.t) x3.2 (.slice A8 Ar.length c8)):=bU gP;have adI:=jv.lt;have adJ:aI w9 (w1.heap.size+1) (.slice A8 Ar.length c8) Ar:=aI.call (b:=E.b) nS gP (by omega);have Vv:aN w9 (w1.heap.size+1) w1.heap.size (.slice A8 Ar.length c8) Ar:=aI.x adJ (by omega))
    |(go_at_call 70;refine (Hn.head .param E _ l9 o (w1.heap.size+1) w1.heap.size _ r 9 0 0 [] x3.1.t x3.2 Ar A8 c8 _ rfl aO (by omega) (by omega) (by omega) (by omega) (by omega) (by first|omega|(simp;done)|(simp;omega)) hn8 (show ag _ w1.heap.size 24 (N7 9 0 0 ⟨#[]⟩ (bs x3.1.t) x3.2 (.slice A8 Ar.length c8)) from bz) (aN.kid (h:=w1.heap.size) (v:=.slice A8 Ar.length c8) (ks:=Ar) oZ) (uU HQ9.out) HR.out).mono ?_;rintro e kF ⟨iM,⟨a,k,hb,rfl⟩|⟨m10,uY,Ov,c10,l10,rfl,YX,YR,agT,JM,dP⟩⟩;exact And.intro rfl ⟨Gr.wide aJ iM (fun q hq hs=>by (rcases hs with hs|hs|hs;exact hs;omega;omega)),.inl ⟨_,_,hb,rfl⟩⟩;have jk:Gr (·=E.b) w kF:=Gr.wide aJ iM (fun q hq hs=>by (rcases hs with hs|hs|hs;exact hs;omega;omega));have abN:m10=0\/m10=1:=(Decidable.byContradiction fun hc=>HR.out (by rw [<-YX];exact if_neg hc));simp only [Tr.num,abN,if_true] at YX;have ZV:(if m10=1 then (1:Int) else 0)=m10:=(by rcases abN with h|h <;> simp [h]);rw [ZV] at dP;clear ZV abN;have agU:=af YX;clear YX;have Iu:=YR.lt;have Iw:=YR.toks.lt;have Fe:=dP.lt;have dP:ag kF w1.heap.size 24 (N7 9 0 m10 ⟨#[]⟩ (bs x3.1.t) x3.2 (.slice Ov (Ar ++ uY).length c10)):=dP;have dF:ag kF w.heap.size 24 Z7:=ag.gr bz iM (by (rintro (h|h|h) <;> omega));have Ol:aN kF (w1.heap.size+1) w1.heap.size (.slice Ov (Ar ++ uY).length c10) (Ar ++ uY):=aI.x JM (by omega)))
   have hln:=agT
   unfold cK at hln
   obtain ⟨_,_,_,_,_,_,_,ZW,_⟩:=dP.av
   refine eX 11 3 5 6 7 8 10 1 4 9 E.b 72 #[.pointer (some ⟨E.b,0,none⟩)] (oO r) (fun W=>PS E W l10 o) (wG E o _ r) Ol.p rfl (xlt (by omega)) dP (by omega) (by omega) (by omega) (by omega) (by unfold cK at*;simp;omega) (oV E _ _ o (by omega) (by omega)) YR (aZ E _ o _ r (by omega) (by omega)) (fun t w u hd=>by obtain ⟨l9,h1,h2⟩:=hd;exact ⟨l9,h1,h2.setCell (by show w1.heap.size≠_;omega) (by show w1.heap.size≠_;omega) u⟩) (fun W hW=>(Hn.block E W l10 o _ r hW agU.out HR.out).mono fun e w' h=>tells h) ?_ (Lm Ol ?_)
   ·rintro a w' c had ⟨at_,k,hb,rfl⟩ hg
    exact And.intro had ⟨jk.trans hg,.inl ⟨_,_,hb,rfl⟩⟩
   rintro vals bB Ow c11 ub ⟨l11,hq11,agN⟩ agV hgx bJ
   have gm:Gr (·=E.b) w bB:=Gr.wide jk hgx (fun q hq hs=>by
    rcases hs with hs|hs|hs
    ·exact hs
    ·omega
    ·omega)
   have bR:ag bB w.heap.size 24 Z7:=ag.gr dF hgx (by rintro (h|h|h) <;> omega)
   dsimp only [bG,List.take_succ_cons,List.take_zero,List.take_nil]
   have abL:=af hq11
   clear hq11 hgx
   obtain ⟨_,EY,EZ,E5,E8,E9,Fa,xL,_⟩:=bJ.av
   obtain ⟨_,Be,Bf,Bg,Bh,Bi,Bj,Bl,Bn⟩:=bR.av
   go_wp2
   have hl:=(show (Ar ++ uY ++ [ub]).length=(Ar ++ uY).length+1 by first|(simp;done)|(simp;omega))
   exact aX Tryz.results44 rfl rfl dS ⟨aJ,.inr ⟨9,0,m10,[],x3.1.t,x3.2,((Ar ++ uY) ++ [ub]),Ow,c11,l11,(by rw [hl];first|done|rfl|(simp only [List.length_append];rfl)),abL.out,(by rw [hl];exact aI.mono (lo:=w1.heap.size+1) (v:=.slice Ow ((Ar ++ uY).length+1) c11) (ks:=((Ar ++ uY) ++ [ub])) (aN.kid (h:=w1.heap.size) oZ) (by omega)),(by unfold cK at*;simp;omega),aO⟩⟩
  ·skip
   have eY:=kE.out
   rw [if_neg hm] at eY
   have ami:=bC hm
   have Jv:=af eY
   clear hm eY
   go_wp2_with (first
    |(go_at_call 37;refine (aH E _ l3 o aO).mono ?_;rintro e w6 ⟨rfl,dA⟩;have yC:=NN wX dA;have iX:=aL iw dA;have bn:=bV aT dA;have bE:=bV aR dA;have Df:=bE.lt;have Bd:aN w6 (w1.heap.size+1) w1.heap.size (.slice none 0 0) ([]:List Tr):=aN.aC oZ dA)
    |(go_at_call 70;refine (Hn.head .param E _ l3 o (w1.heap.size+1) w1.heap.size _ r 9 0 0 [] x3.1.t x3.2 ([]:List Tr) none 0 _ rfl aO (by omega) (by omega) (by omega) (by omega) (by omega) (by first|omega|(simp;done)|(simp;omega)) (by simp) (show ag _ w1.heap.size 24 (N7 9 0 0 ⟨#[]⟩ (bs x3.1.t) x3.2 (.slice none 0 0)) from bz) (aN.kid (h:=w1.heap.size) (v:=.slice none 0 0) (ks:=([]:List Tr)) oZ) (uU Jv.out) HR.out).mono ?_;rintro e w7 ⟨dZ,⟨a,k,hb,rfl⟩|⟨m7,yS,A7,c7,l7,rfl,Dt,Ao,hn7,adK,dm⟩⟩;exact And.intro rfl ⟨Gr.wide aJ dZ (fun q hq hs=>by (rcases hs with hs|hs|hs;exact hs;omega;omega)),.inl ⟨_,_,hb,rfl⟩⟩;have lV:Gr (·=E.b) w w7:=Gr.wide aJ dZ (fun q hq hs=>by (rcases hs with hs|hs|hs;exact hs;omega;omega));have hm7:m7=0\/m7=1:=(Decidable.byContradiction fun hc=>HR.out (by rw [<-Dt];exact if_neg hc));simp only [Tr.num,hm7,if_true] at Dt;have adL:(if m7=1 then (1:Int) else 0)=m7:=(by rcases hm7 with h|h <;> simp [h]);rw [adL] at dm;clear adL hm7;have Nu:=af Dt;clear Dt;have Oq:=Ao.lt;have Ot:=Ao.toks.lt;have QU:=dm.lt;have dm:ag w7 w1.heap.size 24 (N7 9 0 m7 ⟨#[]⟩ (bs x3.1.t) x3.2 (.slice A7 (([]:List Tr) ++ yS).length c7)):=dm;have bW:ag w7 w.heap.size 24 Z7:=ag.gr bz dZ (by (rintro (h|h|h) <;> omega));have Iq:aN w7 (w1.heap.size+1) w1.heap.size (.slice A7 (([]:List Tr) ++ yS).length c7) (([]:List Tr) ++ yS):=aI.x adK (by omega)))
   have hln:=hn7
   unfold cK at hln
   obtain ⟨_,_,_,_,_,_,_,GQ,_⟩:=dm.av
   refine eX 11 3 5 6 7 8 10 1 4 9 E.b 72 #[.pointer (some ⟨E.b,0,none⟩)] (oO r) (fun W=>PS E W l7 o) (wG E o _ r) Iq.p rfl (xlt (by omega)) dm (by omega) (by omega) (by omega) (by omega) (by simp [cK];omega) (oV E _ _ o (by omega) (by omega)) Ao (aZ E _ o _ r (by omega) (by omega)) (fun t w u hd=>by obtain ⟨l9,h1,h2⟩:=hd;exact ⟨l9,h1,h2.setCell (by show w1.heap.size≠_;omega) (by show w1.heap.size≠_;omega) u⟩) (fun W hW=>(Hn.block E W l7 o _ r hW Nu.out HR.out).mono fun e w' h=>tells h) ?_ (Lm Iq ?_)
   ·rintro a w' c had ⟨at_,k,hb,rfl⟩ hg
    exact And.intro had ⟨lV.trans hg,.inl ⟨_,_,hb,rfl⟩⟩
   rintro vals w8 A8 c8 ub ⟨l8,hq8,QS⟩ Ir hgx dV
   have qJ:Gr (·=E.b) w w8:=Gr.wide lV hgx (fun q hq hs=>by
    rcases hs with hs|hs|hs
    ·exact hs
    ·omega
    ·omega)
   have dK:ag w8 w.heap.size 24 Z7:=ag.gr bW hgx (by rintro (h|h|h) <;> omega)
   dsimp only [bG,List.take_succ_cons,List.take_zero,List.take_nil]
   have Vq:=af hq8
   clear hq8 hgx
   obtain ⟨_,LA,Sy,Og,Sz,SA,SB,Dv,_⟩:=dV.av
   obtain ⟨_,NZ,N8,N9,Oa,Ob,Oc,Od,Oe⟩:=dK.av
   go_wp2
   have hl:=(show (([]:List Tr) ++ yS ++ [ub]).length=(([]:List Tr) ++ yS).length+1 by first|(simp;done)|(simp;omega))
   exact aX Tryz.results44 rfl rfl dS ⟨aJ,.inr ⟨9,0,m7,[],x3.1.t,x3.2,((([]:List Tr) ++ yS) ++ [ub]),A8,c8,l8,(by rw [hl];first|done|rfl|(simp only [List.length_append];rfl)),Vq.out,(by rw [hl];exact aI.mono (lo:=w1.heap.size+1) (v:=.slice A8 ((([]:List Tr) ++ yS).length+1) c8) (ks:=((([]:List Tr) ++ yS) ++ [ub])) (aN.kid (h:=w1.heap.size) oZ) (by omega)),(by simp [cK];omega),aO⟩⟩
end
abbrev EM (n:Nat):Prop:=∀(E:Env) (w:World) (s:St) (k:Nat) (t:Tr) (s':St),1<=k->k<=6->RS E w s->m5 n (.expr k) s=some (t,s')->Calls Tryz.prog 80 #[.pointer (some ⟨E.b,0,none⟩),.int .i64 k] w (wH E w w.heap.size t s')
abbrev SM5 (n:Nat):Prop:=∀(E:Env) (w:World) (s:St) (h:Nat) (X:Nat->Prop) (k op m:Int) (p t:List UInt8) (a:Nat) (ks:List Tr) (A:Option Addr) (c:Nat) (end_:List UInt8) (es:ByteArray) (tr:Tr) (s':St),RS E w s->
 ag w h 24 (N7 k op m (bs p) (bs t) a (.slice A ks.length c))->ah w E.L X (.slice A ks.length c) ks->X h->h≠E.b->h≠E.g->(∀q,X q->q < w.heap.size)->ks.length+n<=3*cK->es=bs end_->end_≠[]->
 m5 n (.several (.mk k op m p t a ks) end_) s=some (tr,s')->Calls Tryz.prog 132 #[.pointer (some ⟨E.b,0,none⟩),.pointer (some ⟨h,0,none⟩),.string es] w (Bb E w h X (.slice A ks.length c) (ks.length+n+2) tr s')
abbrev TM (n:Nat):Prop:=∀(E:Env) (w:World) (s:St) (x:T) (t:Tr) (s':St),RS E w s->(hd s.l).1.k≠0->m5 n (.built x.1.t x.2) s=some (t,s')->Calls Tryz.prog 140 #[.pointer (some ⟨E.b,0,none⟩),(.agg #[.int .i64 x.1.k,.string (bs x.1.t),.int .i64 x.1.n,.int .i64 x.2])] w (wH E w w.heap.size t s')
def NM5 (E:Env) (w:World) (X:Nat->Prop) (tr:Tr) (s':St) (e:Ending) (w':World):Prop:=
 Gr (·=E.b) w w'/\RS E w' s'/\∃(k op n:Int) (p t:List UInt8) (a:Nat) (ks:List Tr) (A:Option Addr) (c:Nat),tr= .mk k op n p t a ks/\
  e= .returned (.agg #[.int .i64 k,.int .i64 op,.int .i64 n,.string (bs p),.string (bs t),.int .i64 a,.slice A ks.length c])/\ah w' E.L X (.slice A ks.length c) ks
abbrev BM (n:Nat):Prop:=∀(E:Env) (w:World) (s:St) (X:Nat->Prop) (k op m:Int) (p t:List UInt8) (a:Nat) (ks:List Tr) (A:Option Addr) (c:Nat) (tr:Tr) (s':St),RS E w s->(∀q,X q->q < w.heap.size)->ah w E.L X (.slice A ks.length c) ks->
 m5 n (.behind (.mk k op m p t a ks)) s=some (tr,s')->Calls Tryz.prog 115 #[.pointer (some ⟨E.b,0,none⟩),.agg #[.int .i64 k,.int .i64 op,.int .i64 m,.string (bs p),.string (bs t),.int .i64 a,.slice A ks.length c]] w (NM5 E w X tr s')
abbrev BrM (n:Nat):Prop:=∀(E:Env) (w:World) (s:St) (h:Nat) (X:Nat->Prop) (k op:Int) (p t:List UInt8) (a:Nat) (ks:List Tr) (A:Option Addr) (c:Nat) (tr:Tr) (s':St),RS E w s->
 ag w h 24 (N7 k op 0 (bs p) (bs t) a (.slice A ks.length c))->ah w E.L X (.slice A ks.length c) ks->X h->h≠E.b->h≠E.g->(∀q,X q->q < w.heap.size)->ks.length+2<=3*cK->
 m5 n (.bracket (.mk k op 0 p t a ks)) s=some (tr,s')->Calls Tryz.prog 133 #[.pointer (some ⟨E.b,0,none⟩),.pointer (some ⟨h,0,none⟩)] w (Bb E w h X (.slice A ks.length c) (ks.length+2+2) tr s')
structure qQ (n:Nat):Prop where
 kind:CM n 79 .kind
 dh:CM n 50 .dh
 typed:CM n 51 .typed
 function:CM n 52 .function
 decl:CM n 28 .decl
 block:CM n 84 .block
 stat:CM n 99 .stat
 uq:CM n 118 .uq
 simple:CM n 119 .simple
 unary:CM n 95 .unary
 made:CM n 114 .made
 first:CM n 116 .first
 great:CM n 134 .great
 round:CM n 139 .round
 expr:EM n
 kinds:PM n n 81 .kinds
 result:PM n 0 98 .result
 params:PM n n 83 .params
 uW:PM n n 82 .uW
 bracket:BrM n
 several:SM5 n
 built:TM n
 behind:BM n
theorem kr (E:Env) (lo:Nat) (s:St) (hb:E.b < lo) (hg:E.g < lo):Calm lo fun w=>RS E w s:=fun w w' h hgr=>h.gr hgr (by omega) (by omega)
theorem bD (E:Env) (lo:Nat) (tr:Tr) (s:St) (hb:E.b < lo) (hg:E.g < lo) (t:Tr):Calm lo fun w=>t=tr/\RS E w s:=fun w w' h hgr=>⟨h.1,h.2.gr hgr (by omega) (by omega)⟩
theorem fH {E:Env} {w w':World} {tr:Tr} {s:St} {e:Ending} (h:wH E w w.heap.size tr s e w'):Ij E.b w (fun _=>False) (fun t W=>t=tr/\RS E W s) e w':=by
 obtain ⟨h1,h2,k,op,n,p,t,a,ks,A,c,h3,h4,h5⟩:=h
 exact ⟨h1,.inr ⟨k,op,n,p,t,a,ks,A,c,h4,h5,h3.symm,h2⟩⟩
theorem LQ (E:Env) (w:World) (s:St) (h:RS E w s):Calls Tryz.prog 117 #[.pointer (some ⟨E.b,0,none⟩)] w (IsP (iL s) w):=by
 cases hi0:nE s with
 |true=>
  have HI0:=af hi0
  rw [show iL s=true from by unfold iL;simp [hi0]]
  clear hi0
  go_enter Tryz.func117,Tryz.ntmps117
  go_wp2_with (first
   |(go_at_call 48;(with_reducible refine (gJ E _ s aB).mono ?_);rintro e w1 ⟨rfl,hg1⟩;rw [HI0.out];have fB:RS E w1 s:=RS.below aB hg1;have hB1:Below w.heap.size w w1:=hg1))
  go_ret
  exact ⟨rfl,hB1⟩
 |false=>
 cases hi1:bX [105,110,116] s with
 |true=>
  have HI0:=af hi0
  have HI1:=af hi1
  rw [show iL s=true from by unfold iL;simp [hi0,hi1]]
  clear hi0 hi1
  go_enter Tryz.func117,Tryz.ntmps117
  go_wp2_with (first
   |(go_at_call 48;(with_reducible refine (gJ E _ s aB).mono ?_);rintro e w1 ⟨rfl,hg1⟩;rw [HI0.out];have fB:RS E w1 s:=RS.below aB hg1;have hB1:Below w.heap.size w w1:=hg1;have oP:=fB.iy)
   |(go_at_call 27;(with_reducible refine (au E _ s aB [105,110,116] ⟨#[105,110,116]⟩ rfl).mono ?_);rintro e w2 ⟨rfl,hg2⟩;rw [HI1.out];have hR2:=bA fB hg2;have hB2:Below w.heap.size w w2:=hB1.trans (hg2.mono hB1.size)))
  go_ret
  exact ⟨rfl,hB2⟩
 |false=>
 cases hi2:bX [98,111,111,108] s with
 |true=>
  have HI0:=af hi0
  have HI1:=af hi1
  have HI2:=af hi2
  rw [show iL s=true from by unfold iL;simp [hi0,hi1,hi2]]
  clear hi0 hi1 hi2
  go_enter Tryz.func117,Tryz.ntmps117
  go_wp2_with (first
   |(go_at_call 48;(with_reducible refine (gJ E _ s aB).mono ?_);rintro e w1 ⟨rfl,hg1⟩;rw [HI0.out];have fB:RS E w1 s:=RS.below aB hg1;have hB1:Below w.heap.size w w1:=hg1;have hG1:=gX E.b w hg1)
   |(go_at_call 27;(with_reducible refine (au E _ s aB [105,110,116] ⟨#[105,110,116]⟩ rfl).mono ?_);rintro e w2 ⟨rfl,hg2⟩;rw [HI1.out];have hR2:=bA fB hg2;have hB2:Below w.heap.size w w2:=hB1.trans (hg2.mono hB1.size);have ql:=hR2.iy)
   |(go_at_call 27;(with_reducible refine (au E _ s aB [98,111,111,108] ⟨#[98,111,111,108]⟩ rfl).mono ?_);rintro e w3 ⟨rfl,hg3⟩;rw [HI2.out];have gZ:=bA hR2 hg3;have hB3:Below w.heap.size w w3:=hB2.trans (hg3.mono hB2.size)))
  go_ret
  exact ⟨rfl,hB3⟩
 |false=>
 cases hi3:bX [115,116,114,105,110,103] s with
 |true=>
  have HI0:=af hi0
  have HI1:=af hi1
  have HI2:=af hi2
  have HI3:=af hi3
  rw [show iL s=true from by unfold iL;simp [hi0,hi1,hi2,hi3]]
  clear hi0 hi1 hi2 hi3
  go_enter Tryz.func117,Tryz.ntmps117
  go_wp2_with (first
   |(go_at_call 48;(with_reducible refine (gJ E _ s aB).mono ?_);rintro e w1 ⟨rfl,hg1⟩;rw [HI0.out];have fB:RS E w1 s:=RS.below aB hg1;have hB1:Below w.heap.size w w1:=hg1;have hG1:=gX E.b w hg1)
   |(go_at_call 27;(with_reducible refine (au E _ s aB [105,110,116] ⟨#[105,110,116]⟩ rfl).mono ?_);rintro e w2 ⟨rfl,hg2⟩;rw [HI1.out];have hR2:=bA fB hg2;have hB2:Below w.heap.size w w2:=hB1.trans (hg2.mono hB1.size);have hG2:=aL hG1 hg2)
   |(go_at_call 27;(with_reducible refine (au E _ s aB [98,111,111,108] ⟨#[98,111,111,108]⟩ rfl).mono ?_);rintro e w3 ⟨rfl,hg3⟩;rw [HI2.out];have gZ:=bA hR2 hg3;have hB3:Below w.heap.size w w3:=hB2.trans (hg3.mono hB2.size);have Du:=gZ.iy)
   |(go_at_call 27;(with_reducible refine (au E _ s aB [115,116,114,105,110,103] ⟨#[115,116,114,105,110,103]⟩ rfl).mono ?_);rintro e w4 ⟨rfl,hg4⟩;rw [HI3.out];have jb:=bA gZ hg4;have hB4:Below w.heap.size w w4:=hB3.trans (hg4.mono hB3.size)))
  go_ret
  exact ⟨rfl,hB4⟩
 |false=>
 cases hi4:bX [42] s with
 |true=>
  have HI0:=af hi0
  have HI1:=af hi1
  have HI2:=af hi2
  have HI3:=af hi3
  have HI4:=af hi4
  rw [show iL s=true from by unfold iL;simp [hi0,hi1,hi2,hi3,hi4]]
  clear hi0 hi1 hi2 hi3 hi4
  go_enter Tryz.func117,Tryz.ntmps117
  go_wp2_with (first
   |(go_at_call 48;(with_reducible refine (gJ E _ s aB).mono ?_);rintro e w1 ⟨rfl,hg1⟩;rw [HI0.out];have fB:RS E w1 s:=RS.below aB hg1;have hB1:Below w.heap.size w w1:=hg1;have hG1:=gX E.b w hg1)
   |(go_at_call 27;(with_reducible refine (au E _ s aB [105,110,116] ⟨#[105,110,116]⟩ rfl).mono ?_);rintro e w2 ⟨rfl,hg2⟩;rw [HI1.out];have hR2:=bA fB hg2;have hB2:Below w.heap.size w w2:=hB1.trans (hg2.mono hB1.size);have hG2:=aL hG1 hg2)
   |(go_at_call 27;(with_reducible refine (au E _ s aB [98,111,111,108] ⟨#[98,111,111,108]⟩ rfl).mono ?_);rintro e w3 ⟨rfl,hg3⟩;rw [HI2.out];have gZ:=bA hR2 hg3;have hB3:Below w.heap.size w w3:=hB2.trans (hg3.mono hB2.size);have hG3:=aL hG2 hg3)
   |(go_at_call 27;(with_reducible refine (au E _ s aB [115,116,114,105,110,103] ⟨#[115,116,114,105,110,103]⟩ rfl).mono ?_);rintro e w4 ⟨rfl,hg4⟩;rw [HI3.out];have jb:=bA gZ hg4;have hB4:Below w.heap.size w w4:=hB3.trans (hg4.mono hB3.size);have JK:=jb.iy)
   |(go_at_call 27;(with_reducible refine (au E _ s aB [42] ⟨#[42]⟩ rfl).mono ?_);rintro e w5 ⟨rfl,hg5⟩;rw [HI4.out];have jF:=bA jb hg5;have Eb:Below w.heap.size w w5:=hB4.trans (hg5.mono hB4.size)))
  go_ret
  exact ⟨rfl,Eb⟩
 |false=>
 cases hi5:bX [91] s with
 |true=>
  have HI0:=af hi0
  have HI1:=af hi1
  have HI2:=af hi2
  have HI3:=af hi3
  have HI4:=af hi4
  have Yl:=af hi5
  rw [show iL s=true from by unfold iL;simp [hi0,hi1,hi2,hi3,hi4,hi5]]
  clear hi0 hi1 hi2 hi3 hi4 hi5
  go_enter Tryz.func117,Tryz.ntmps117
  go_wp2_with (first
   |(go_at_call 48;(with_reducible refine (gJ E _ s aB).mono ?_);rintro e w1 ⟨rfl,hg1⟩;rw [HI0.out];have fB:RS E w1 s:=RS.below aB hg1;have hB1:Below w.heap.size w w1:=hg1;have hG1:=gX E.b w hg1)
   |(go_at_call 27;(with_reducible refine (au E _ s aB [105,110,116] ⟨#[105,110,116]⟩ rfl).mono ?_);rintro e w2 ⟨rfl,hg2⟩;rw [HI1.out];have hR2:=bA fB hg2;have hB2:Below w.heap.size w w2:=hB1.trans (hg2.mono hB1.size);have hG2:=aL hG1 hg2)
   |(go_at_call 27;(with_reducible refine (au E _ s aB [98,111,111,108] ⟨#[98,111,111,108]⟩ rfl).mono ?_);rintro e w3 ⟨rfl,hg3⟩;rw [HI2.out];have gZ:=bA hR2 hg3;have hB3:Below w.heap.size w w3:=hB2.trans (hg3.mono hB2.size);have hG3:=aL hG2 hg3)
   |(go_at_call 27;(with_reducible refine (au E _ s aB [115,116,114,105,110,103] ⟨#[115,116,114,105,110,103]⟩ rfl).mono ?_);rintro e w4 ⟨rfl,hg4⟩;rw [HI3.out];have jb:=bA gZ hg4;have hB4:Below w.heap.size w w4:=hB3.trans (hg4.mono hB3.size);have hG4:=aL hG3 hg4)
   |(go_at_call 27;(with_reducible refine (au E _ s aB [42] ⟨#[42]⟩ rfl).mono ?_);rintro e w5 ⟨rfl,hg5⟩;rw [HI4.out];have jF:=bA jb hg5;have Eb:Below w.heap.size w w5:=hB4.trans (hg5.mono hB4.size);have Jt:=jF.iy)
   |(go_at_call 27;(with_reducible refine (au E _ s aB [91] ⟨#[91]⟩ rfl).mono ?_);rintro e w6 ⟨rfl,dA⟩;rw [Yl.out];have lu:=bA jF dA;have Yg:Below w.heap.size w w6:=Eb.trans (dA.mono Eb.size)))
  go_ret
  exact ⟨rfl,Yg⟩
 |false=>
 cases Td:bX [102,117,110,99] s with
 |true=>
  have HI0:=af hi0
  have HI1:=af hi1
  have HI2:=af hi2
  have HI3:=af hi3
  have HI4:=af hi4
  have Yl:=af hi5
  have ZX:=af Td
  rw [show iL s=true from by unfold iL;simp [hi0,hi1,hi2,hi3,hi4,hi5,Td]]
  clear hi0 hi1 hi2 hi3 hi4 hi5 Td
  go_enter Tryz.func117,Tryz.ntmps117
  go_wp2_with (first
   |(go_at_call 48;(with_reducible refine (gJ E _ s aB).mono ?_);rintro e w1 ⟨rfl,hg1⟩;rw [HI0.out];have fB:RS E w1 s:=RS.below aB hg1;have hB1:Below w.heap.size w w1:=hg1;have hG1:=gX E.b w hg1)
   |(go_at_call 27;(with_reducible refine (au E _ s aB [105,110,116] ⟨#[105,110,116]⟩ rfl).mono ?_);rintro e w2 ⟨rfl,hg2⟩;rw [HI1.out];have hR2:=bA fB hg2;have hB2:Below w.heap.size w w2:=hB1.trans (hg2.mono hB1.size);have hG2:=aL hG1 hg2)
   |(go_at_call 27;(with_reducible refine (au E _ s aB [98,111,111,108] ⟨#[98,111,111,108]⟩ rfl).mono ?_);rintro e w3 ⟨rfl,hg3⟩;rw [HI2.out];have gZ:=bA hR2 hg3;have hB3:Below w.heap.size w w3:=hB2.trans (hg3.mono hB2.size);have hG3:=aL hG2 hg3)
   |(go_at_call 27;(with_reducible refine (au E _ s aB [115,116,114,105,110,103] ⟨#[115,116,114,105,110,103]⟩ rfl).mono ?_);rintro e w4 ⟨rfl,hg4⟩;rw [HI3.out];have jb:=bA gZ hg4;have hB4:Below w.heap.size w w4:=hB3.trans (hg4.mono hB3.size);have hG4:=aL hG3 hg4)
   |(go_at_call 27;(with_reducible refine (au E _ s aB [42] ⟨#[42]⟩ rfl).mono ?_);rintro e w5 ⟨rfl,hg5⟩;rw [HI4.out];have jF:=bA jb hg5;have Eb:Below w.heap.size w w5:=hB4.trans (hg5.mono hB4.size);have iw:=aL hG4 hg5)
   |(go_at_call 27;(with_reducible refine (au E _ s aB [91] ⟨#[91]⟩ rfl).mono ?_);rintro e w6 ⟨rfl,dA⟩;rw [Yl.out];have lu:=bA jF dA;have Yg:Below w.heap.size w w6:=Eb.trans (dA.mono Eb.size);have Ou:=lu.iy)
   |(go_at_call 27;(with_reducible refine (au E _ s aB [102,117,110,99] ⟨#[102,117,110,99]⟩ rfl).mono ?_);rintro e w7 ⟨rfl,dZ⟩;rw [ZX.out];have o5:=bA lu dZ;have hB7:Below w.heap.size w w7:=Yg.trans (dZ.mono Yg.size)))
  go_ret
  exact ⟨rfl,hB7⟩
 |false=>
 have HI0:=af hi0
 have HI1:=af hi1
 have HI2:=af hi2
 have HI3:=af hi3
 have HI4:=af hi4
 have Yl:=af hi5
 have ZX:=af Td
 rw [show iL s=false from by unfold iL;simp [hi0,hi1,hi2,hi3,hi4,hi5,Td]]
 clear hi0 hi1 hi2 hi3 hi4 hi5 Td
 go_enter Tryz.func117,Tryz.ntmps117
 go_wp2_with (first
  |(go_at_call 48;(with_reducible refine (gJ E _ s aB).mono ?_);rintro e w1 ⟨rfl,hg1⟩;rw [HI0.out];have fB:RS E w1 s:=RS.below aB hg1;have hB1:Below w.heap.size w w1:=hg1;have hG1:=gX E.b w hg1)
  |(go_at_call 27;(with_reducible refine (au E _ s aB [105,110,116] ⟨#[105,110,116]⟩ rfl).mono ?_);rintro e w2 ⟨rfl,hg2⟩;rw [HI1.out];have hR2:=bA fB hg2;have hB2:Below w.heap.size w w2:=hB1.trans (hg2.mono hB1.size);have hG2:=aL hG1 hg2)
  |(go_at_call 27;(with_reducible refine (au E _ s aB [98,111,111,108] ⟨#[98,111,111,108]⟩ rfl).mono ?_);rintro e w3 ⟨rfl,hg3⟩;rw [HI2.out];have gZ:=bA hR2 hg3;have hB3:Below w.heap.size w w3:=hB2.trans (hg3.mono hB2.size);have hG3:=aL hG2 hg3)
  |(go_at_call 27;(with_reducible refine (au E _ s aB [115,116,114,105,110,103] ⟨#[115,116,114,105,110,103]⟩ rfl).mono ?_);rintro e w4 ⟨rfl,hg4⟩;rw [HI3.out];have jb:=bA gZ hg4;have hB4:Below w.heap.size w w4:=hB3.trans (hg4.mono hB3.size);have hG4:=aL hG3 hg4)
  |(go_at_call 27;(with_reducible refine (au E _ s aB [42] ⟨#[42]⟩ rfl).mono ?_);rintro e w5 ⟨rfl,hg5⟩;rw [HI4.out];have jF:=bA jb hg5;have Eb:Below w.heap.size w w5:=hB4.trans (hg5.mono hB4.size);have iw:=aL hG4 hg5)
  |(go_at_call 27;(with_reducible refine (au E _ s aB [91] ⟨#[91]⟩ rfl).mono ?_);rintro e w6 ⟨rfl,dA⟩;rw [Yl.out];have lu:=bA jF dA;have Yg:Below w.heap.size w w6:=Eb.trans (dA.mono Eb.size);have Ou:=lu.iy)
  |(go_at_call 27;(with_reducible refine (au E _ s aB [102,117,110,99] ⟨#[102,117,110,99]⟩ rfl).mono ?_);rintro e w7 ⟨rfl,dZ⟩;rw [ZX.out];have o5:=bA lu dZ;have hB7:Below w.heap.size w w7:=Yg.trans (dZ.mono Yg.size)))
 go_ret
 exact ⟨rfl,hB7⟩
theorem LU (n:Nat) (hn:n+10<=cK) (H:∀m,m<=n->qQ m):PM (n+1) 0 98 .result:=by
 intro E w s h0 X k op m p t a ks A c tr s' h su xO dO fT kG tZ hlen heq
 have Hn:=H n (Nat.le_refl _)
 have hR0:=h
 cases hi:iL s with
 |false=>
  have HI:=af hi
  simp only [m5,hi,Bool.false_eq_true,if_false] at heq
  cases heq
  clear hi
  go_enter Tryz.func98,Tryz.ntmps98
  go_wp2_with (first
   |(go_at_call 117;(with_reducible refine (LQ E _ s aB).mono ?_);rintro e w1 ⟨rfl,hg1⟩;rw [HI.out];have fB:RS E w1 s:=RS.below aB hg1;have nY:ag w1 h0 24 (N7 k op m (bs p) (bs t) a (.slice A ks.length c)):=ag.aC bz hg1;have qp:ah w1 E.L X (.slice A ks.length c) ks:=ah.aC nR hg1))
  exact bodyPost_end (results_none rfl _ _ _) rfl ⟨rfl,fB,Gr.of_below hg1,_,_,_,_,_,_,_,_,_,rfl,nY,qp,fun q h=>.inl h,by omega⟩
 |true=>
  have HI:=af hi
  simp only [m5,hi,if_true] at heq
  obtain ⟨t1,s1,h1,heq⟩:=bF heq
  simp only [Option.some.injEq,Prod.mk.injEq] at heq
  obtain ⟨rfl,rfl⟩:=heq
  have HK:=af (fun W hW=>Hn.kind E W s t1 s1 hW h1)
  clear hi h1 hn
  go_enter Tryz.func98,Tryz.ntmps98
  go_wp2_with (first
   |(go_at_call 117;(with_reducible refine (LQ E _ s aB).mono ?_);rintro e w1 ⟨rfl,hg1⟩;rw [HI.out];have fB:RS E w1 s:=RS.below aB hg1;have nY:ag w1 h0 24 (N7 k op m (bs p) (bs t) a (.slice A ks.length c)):=ag.aC bz hg1;obtain ⟨_,_,_,amj,_,_,_,_,amk⟩:=nY.av;have qp:ah w1 E.L X (.slice A ks.length c) ks:=ah.aC nR hg1))
  obtain ⟨w2,hW⟩:=aS (w1.setCell ⟨h0,2,none⟩ (.int .i64 1))
  have bq:ag w2 h0 24 (N7 k op 1 (bs p) (bs t) a (.slice A ks.length c)):=hW▸ag.set2 nY _
  have jZ:ah w2 E.L X (.slice A ks.length c) ks:=hW▸qp.setCell (p:=⟨h0,2,none⟩) (.inr dO) _
  have hR2:RS E w2 s:=hW▸fB.setCell (p:=⟨h0,2,none⟩) fT kG _
  have hG2:Gr (fun q=>q=E.b\/q=h0\/(Value.slice A ks.length c).ownBlock=some q) w w2:=hW▸(Gr.of_below hg1).setCell (p:=⟨h0,2,none⟩) (.inr (.inr (.inl rfl))) _
  have hs2:w.heap.size<=w2.heap.size:=hG2.size
  have uf:∀q,X q->q < w2.heap.size:=fun q hq=>Nat.lt_of_lt_of_le (tZ q hq) hs2
  rw [hW]
  have ou:=hR2.lt
  have ql:=hR2.iy
  clear hW
  obtain ⟨_,_,_,_,_,_,_,sG,_⟩:=bq.av
  refine eX 14 5 7 8 9 10 13 3 6 12 E.b 79 #[.pointer (some ⟨E.b,0,none⟩)] (fun _=>False) (fun W=>RS E W s) (fun t W=>t=t1/\RS E W s1)
   jZ dO uf bq E.bL (by omega) fT hR2.L (by omega) (kr E _ _ (by omega) (by omega)) hR2 (fun t=>bD E _ _ _ E.bL E.gL t) (fun t w u hd=>⟨hd.1,hd.2.setCell fT kG u⟩) (fun W hW=>(HK.out W hW).mono fun e w' h=>fH h) ?_ ?_
  ·rintro a w' c _ nL _
   exact absurd nL id
  rintro vals w3 A3 c3 u3 ⟨hu3,gZ⟩ je JO aM rQ
  obtain rfl:=hu3.symm
  have hs3:=JO.size
  dsimp only [bG,List.take_succ_cons,List.take_zero,List.take_nil]
  exact bodyPost_end (results_none rfl _ _ _) rfl ⟨rfl,gZ,hG2.trans JO,_,_,_,_,_,_,(ks ++ [t1]),A3,c3,rfl,by rw [List.length_append];exact aM,by rw [List.length_append];exact je,fun q hq=>by rw [List.length_append] at hq;exact (rQ q hq).imp (fun h=>h) (fun h=>by omega),by first|(simp;done)|(simp;omega)⟩
theorem ah.up {w:World} {lo lo':Nat} {X:Nat->Prop} {v:Value} {ks:List Tr} (k:ah w lo X v ks) (hX:∀q,¬X q->lo'<=q):aI w lo' v ks:=by
 obtain ⟨h0,xs,h1,h2⟩:=k
 refine ⟨xs,⟨h1.1,?_⟩,bO.keep (fun _ _ _=>rfl) (Nat.le_refl _) (fun g _ hg=>⟨hX g hg.2.2,hg.2.1⟩) _ _ h2⟩
 rcases h1.2 with h3|⟨g,cap,cur,rfl,_,hh,r⟩
 ·exact .inl h3
 ·exact .inr ⟨g,cap,cur,rfl,hX g (h0 g rfl),hh,r⟩
theorem ah.none_ (w:World) (lo:Nat) (X:Nat->Prop):ah w lo X (.slice none 0 0) []:=⟨(fun q e=>by cases e),[],World.ownsRow_nil _ _ _ 7,by simp only [bO]⟩
theorem uu {w:World} {lo:Nat} {X:Nat->Prop} {v:Value} {ks:List Tr} (h:ah w lo X v ks:=by repeat (with_reducible (first|assumption|refine ah.alloc ?_ _|refine ah.drew ?_|refine ah.setCell ?_ (by first|exact .inr (by assumption)|exact .inr rfl|(left;assumption)|(left;omega)) _))):ah w lo X v ks:=h
theorem OA (n:Nat) (hn:n+10<=cK) (H:∀m,m<=n->qQ m):CM (n+1) 84 .block:=by
 intro E w s tr s' h heq
 have hlt:=h.lt
 have hgt:=h.iy
 have hbL:=E.bL
 have hR0:=h
 simp only [m5] at heq
 obtain ⟨t2,s2,h1,heq⟩:=bF heq
 simp only [Option.some.injEq,Prod.mk.injEq] at heq
 obtain ⟨rfl,rfl⟩:=heq
 have fG:=af h1
 clear h1
 go_enter Tryz.func84,Tryz.ntmps84
 go_wp2_with (first
  |(go_at_call 25;(with_reducible refine (aA E _ s aB [123] ⟨#[123]⟩ rfl).mono ?_);rintro e w1 ⟨rfl,fB,hg1⟩;have hG1:Gr (·=E.b) w w1:=Gr.trans aJ (Gr.mono hg1 (fun _ _ e=>e));have hs1:=hg1.size;(try simp at hs1);have kW:=fB.lt;have oP:=fB.iy;have az:ag w1 w.heap.size 24 Z7:=bU hg1))
 go_loopg [16] n (fun gk _ wr=>∃(aU:List Tr) (A1:Option Addr) (c1:Nat) (sx:St),RS E wr sx/\ag wr w1.heap.size 24 (N7 17 0 0 ⟨#[]⟩ ⟨#[]⟩ (hdp s) (.slice A1 aU.length c1))/\ag wr w.heap.size 24 Z7/\ah wr E.L (fun q=>q<=w1.heap.size) (.slice A1 aU.length c1) aU/\Gr (·=E.b) w wr/\(∀q,(Value.slice A1 aU.length c1).ownBlock=some q->w.heap.size<=q)/\aU.length+gk<=n/\gk<=n/\m5 gk (.zM (.mk 17 0 0 [] [] (hdp s) aU)) sx=some (t2,s2))
 case atStart=>exact ⟨[],none,0,aj [123] s,aB,(show ag _ _ _ #[.int .i64 17,.int .i64 0,.int .i64 0,.string ⟨#[]⟩,.string ⟨#[]⟩,.int .i64 (hd s.l).2,.slice none 0 0] from bz),bz,ah.none_ _ _ _,aJ,(fun q e=>by cases e),Nat.le_of_eq (Nat.zero_add _),Nat.le_refl _,fG.out⟩
 case round=>
  obtain ⟨aU,A1,c1,sx,gu,dP,dF,fI,jk,gy,hlk,hgn,hq⟩:=hrel
  have Fe:=dP.lt
  have jU:∀q,(fun q=>q<=w1.heap.size) q->q < wr.heap.size:=fun q hq=>by have:q<=w1.heap.size:=hq;omega
  have dO:(fun q=>q<=w1.heap.size) w1.heap.size:=Nat.le_refl _
  have cB:(fun q=>q<=w1.heap.size) w.heap.size:=by show w.heap.size<=w1.heap.size;omega
  have fT:w1.heap.size≠E.b:=by omega
  have kG:w1.heap.size≠E.g:=by omega
  cases gk with
  |zero=>exact absurd hq (by simp [m5])
  |succ f=>
   obtain ⟨_,_,_,_,_,_,e3,_⟩:=gu.here
   have Hf:=H f (by omega)
   by_cases he:sx.e=0
   case neg=>
    have ez:(sx.e == 0)=false:=by simpa using he
    simp only [m5,show rH [125] sx=false from by unfold rH;rw [decide_eq_false he];rfl,Bool.false_eq_true,if_false,Option.some.injEq,Prod.mk.injEq] at hq
    obtain ⟨rfl,rfl⟩:=hq
    clear he
    go_wp2_with (first
     |(go_at_call 25;(with_reducible refine (aA E _ sx aB [125] ⟨#[125]⟩ rfl).mono ?_);rintro e bB ⟨rfl,fM,aV⟩;have gm:Gr (·=E.b) w bB:=Gr.trans aJ (Gr.mono aV (fun _ _ e=>e));have bR:ag bB w.heap.size 24 Z7:=bU aV;obtain ⟨_,Be,Bf,Bg,Bh,Bi,Bj,Bl,Bn⟩:=bR.av;have bJ:ag bB w1.heap.size 24 (N7 17 0 0 ⟨#[]⟩ ⟨#[]⟩ (hdp s) (.slice A1 aU.length c1)):=bU aV;obtain ⟨_,EY,EZ,E5,E8,E9,Fa,xL,_⟩:=bJ.av;have bZ:ah bB E.L (fun q=>q<=w1.heap.size) (.slice A1 aU.length c1) aU:=vJ aV))
    exact aX Tryz.results84 rfl rfl dS ⟨aJ,aB,17,0,0,[],[],(hdp s),aU,A1,c1,rfl,rfl,(ah.up (lo:=E.L) (X:=(fun q=>q<=w1.heap.size)) (v:=.slice A1 aU.length c1) (ks:=aU) uu (fun q hq=>by have:¬q<=w1.heap.size:=hq;omega))⟩
   rw [he] at e3
   cases hi1:bX [125] sx with
   |true=>
    have HI1:=af hi1
    simp only [m5,show rH [125] sx=false from by unfold rH;rw [hi1];simp,Bool.false_eq_true,if_false,Option.some.injEq,Prod.mk.injEq] at hq
    obtain ⟨rfl,rfl⟩:=hq
    clear hi1 he
    go_wp2_with (first
     |(go_at_call 27;(with_reducible refine (au E _ sx aB [125] ⟨#[125]⟩ rfl).mono ?_);rintro e bB ⟨rfl,aV⟩;rw [HI1.out];have fM:RS E bB sx:=RS.below aB aV;have gm:=gX E.b w aV;have bR:ag bB w.heap.size 24 Z7:=ag.aC bz aV;have bJ:ag bB w1.heap.size 24 (N7 17 0 0 ⟨#[]⟩ ⟨#[]⟩ (hdp s) (.slice A1 aU.length c1)):=ag.aC bz aV;have bZ:ah bB E.L (fun q=>q<=w1.heap.size) (.slice A1 aU.length c1) aU:=ah.aC nR aV)
     |(go_at_call 25;(with_reducible refine (aA E _ sx aB [125] ⟨#[125]⟩ rfl).mono ?_);rintro e ek ⟨rfl,jY,dH⟩;have kK:=bP gm dH;have gT:=bR.call dH (by omega);obtain ⟨_,Iy,Iz,IA,IB,IC,IE,IG,II⟩:=gT.av;have ig:=bJ.call dH (by omega);obtain ⟨_,QW,QX,QY,QZ,Q0,Q3,IJ,_⟩:=ig.av;have jO:=dU bZ dH))
    exact aX Tryz.results84 rfl rfl dS ⟨aJ,aB,17,0,0,[],[],(hdp s),aU,A1,c1,rfl,rfl,(ah.up (lo:=E.L) (X:=(fun q=>q<=w1.heap.size)) (v:=.slice A1 aU.length c1) (ks:=aU) uu (fun q hq=>by have:¬q<=w1.heap.size:=hq;omega))⟩
   |false=>
    have HI1:=af hi1
    simp only [m5,show rH [125] sx=true from by unfold rH;rw [hi1,decide_eq_true he];rfl,if_true] at hq
    obtain ⟨t1,s1,h1,hq⟩:=bF hq
    have HK:=af (fun W hW=>Hf.stat E W _ t1 s1 hW h1)
    have HQ:=af hq
    clear hi1 he h1 hq
    go_wp2_with (first
     |(go_at_call 27;(with_reducible refine (au E _ sx aB [125] ⟨#[125]⟩ rfl).mono ?_);rintro e bB ⟨rfl,aV⟩;rw [HI1.out];have fM:RS E bB sx:=RS.below aB aV;have gm:=gX E.b w aV;have qR:=aV.size;(try simp at qR);have Br:=fM.lt;have Dg:=fM.iy;have bR:ag bB w.heap.size 24 Z7:=ag.aC bz aV;have bJ:ag bB w1.heap.size 24 (N7 17 0 0 ⟨#[]⟩ ⟨#[]⟩ (hdp s) (.slice A1 aU.length c1)):=ag.aC bz aV;have VI:=bJ.lt;have bZ:ah bB E.L (fun q=>q<=w1.heap.size) (.slice A1 aU.length c1) aU:=ah.aC nR aV))
    have Ff:∀q,(fun q=>q<=w1.heap.size) q->q < bB.heap.size:=fun q hq=>Nat.lt_of_lt_of_le (jU q hq) (by omega)
    have Fj:=gy
    obtain ⟨_,_,_,_,_,_,_,xL,VJ⟩:=bJ.av
    refine dD E.b E.L w1.heap.size (.pointer (some ⟨E.b,0,none⟩)) 99 #[.pointer (some ⟨E.b,0,none⟩)] (fun _=>False) (fun t W=>t=t1/\RS E W s1) (bZ.x dO) bZ Ff xL (VJ 6) E.bL bJ.lt fM.L fT (by omega) (fun t=>bD E _ _ _ (by omega) (by omega) t) (fun t=>bD E _ _ _ E.bL E.gL t) ((HK.out bB.drew fM.drew).mono fun e w' h=>fH h) ?_ ?_
    ·rintro a w' c _ nL _
     exact absurd nL id
    rintro vals w' vC c12 u12 ⟨Ox,qx⟩ _ hpx hgx eB hgo
    obtain rfl:=Ox.symm
    obtain ⟨ek,hW⟩:=aS (w'.setCell ⟨w1.heap.size,6,none⟩ (.slice vC (aU.length+1) c12))
    have hsx:=eB.size
    have jY:RS E ek s1:=hW▸qx.setCell (p:=⟨w1.heap.size,6,none⟩) fT kG _
    have kK:Gr (·=E.b) w ek:=hW▸Gr.setCell (p:=⟨w1.heap.size,6,none⟩) (jD gm eB Fj) (.inl (by show w.heap.size<=w1.heap.size;omega)) _
    have Dh:∀q,(Value.slice vC (aU.length+1) c12).ownBlock=some q->w.heap.size<=q:=fun q hq=>(hgo q hq).elim (Fj q) (fun h=>by have:=gm.size;omega)
    have ig:ag ek w1.heap.size 24 (N7 17 0 0 ⟨#[]⟩ ⟨#[]⟩ (hdp s) (.slice vC (aU.length+1) c12)):=hW▸ag.jC (ag.wx bJ eB fT (fun e=>bZ.1 _ e dO)) _
    have gT:ag ek w.heap.size 24 Z7:=hW▸ag.far (ag.wx bR eB (by omega) (fun e=>bZ.1 _ e cB)) (by show w.heap.size≠w1.heap.size;omega) _
    have jO:ah ek E.L (fun q=>q<=w1.heap.size) (.slice vC (aU.length+1) c12) (aU ++ [t1]):=hW▸hpx.setCell (p:=⟨w1.heap.size,6,none⟩) (.inr dO) _
    have xQ:bB.heap.size<=ek.heap.size:=hW▸(by simpa using hsx)
    rw [hW]
    clear hW qx hpx hgx eB hgo hsx
    obtain ⟨bN,jf⟩:=aS (aU ++ [t1])
    have uZ:bN.length=aU.length+1:=by rw [<-jf,List.length_append];rfl
    rw [jf,<-uZ] at jO
    rw [<-uZ] at ig
    try rw [<-uZ] at Dh
    have hq:=HQ.out
    simp only [Tr.add,jf] at hq
    have Cq:=af hq
    clear hq
    go_wp2
    go_roundg f
    case measure=>omega
    case rel=>exact ⟨bN,vC,c12,_,jY,ig,gT,jO,kK,Dh,by omega,by omega,Cq.out⟩
def lvl:NT->Nat
 | .expr=>5| .binary _=>4| .unary=>3| .behind _=>2| .first=>2| .jW=>1
 | .list _=>6| .call _ _=>1| .param=>1| .field=>1| .typeOf=>1| .head _=>1| .otherwise=>1| .decl=>1
 | .simple=>6| .stat=>7| .stats _=>8| .parts _ _=>6| .decls _=>2
 |_=>0
def uh:NT->Nat
 | .Ca _ _=>0| .behind _=>0| .lists _ _=>0| .stats _=>0| .imports _=>0| .decls _=>0| .parts _ _=>0
 |_=>1
def okN (l:List T):NT->Prop
 | .binary k=>1<=k
 | .Ca k _=>1<=k
 | .leap _=>mark l≠[]
 | .kR=>mark l≠[]
 | .within a c _=>a≠[]/\c≠[]
 |_=>True
def gd (P:Nat) (l:List T):Prop:=good l/\∀x∈l,x.2<=P
def eG (P c m:Nat):R->Prop
 | .ok _ l'=>gd P l'/\l'.length+c<=m
 | .bad a e=>a<=P/\(e=5\/e=3)
 | .out=>False
section
variable {P : Nat}
theorem eG.out {c m:Nat} {r:R} (h:eG P c m r):r≠.out:=by rintro rfl;exact h
theorem eG.mono {c m c' m':Nat} {r:R} (h:eG P c m r) (hm:m+c'<=m'+c):eG P c' m' r:=by
 cases r with
 |ok t l=>exact ⟨h.1,by have:=h.2;omega⟩
 |bad a e=>exact h
 |out=>exact h
theorem Kz {l:List T} (h:gd P l):∃x r,l=x :: r/\x.2<=P:=by
 cases l with
 |nil=>exact absurd h.1 id
 |cons x r=>exact ⟨x,r,rfl,h.2 x (by simp)⟩
theorem TR {x:T} {r:List T} (h:gd P (x :: r)) (hx:x.1.k≠0):gd P r:=by
 have h1:=h.1
 have:good (x :: r)=if x.1.k=0 then r=[]/\x.1.t=[]/\x.1.n=0 else good r:=rfl
 rw [this,if_neg hx] at h1
 exact ⟨h1,fun y hy=>h.2 y (by simp [hy])⟩
theorem TT {x:T} {r:List T} (hm:mark (x :: r)≠[]):x.1.k≠0:=by
 intro h0
 have:mark (x :: r)=if x.1.k=2\/x.1.k=5 then x.1.t else []:=rfl
 rw [this,h0] at hm
 simp at hm
theorem eG.ok {c m:Nat} {t:Tr} {l:List T} (h:gd P l) (hm:l.length+c<=m):eG P c m (.ok t l):=⟨h,hm⟩
theorem eG.refuse {c m:Nat} {l:List T} (h:gd P l):eG P c m (refuse l):=by
 obtain ⟨x,r,rfl,hx⟩:=Kz h
 exact ⟨hx,.inl rfl⟩
theorem eG.bnd {c m c' m':Nat} {r:R} {f:Tr->List T->R} (h:eG P c m r) (hf:∀t l,gd P l->l.length+c<=m->eG P c' m' (f t l)):eG P c' m' (bnd r f):=by
 cases r with
 |ok t l=>exact hf t l h.1 h.2
 |bad a e=>exact h
 |out=>exact h
theorem eG.take {c m:Nat} {l:List T} {f:T->List T->R} (h:gd P l) (hm:mark l≠[]\/kind l≠0) (hf:∀x r,l=x :: r->gd P r->r.length+1=l.length->eG P c m (f x r)):eG P c m (dI l f):=by
 obtain ⟨x,r,rfl,_⟩:=Kz h
 have hk:x.1.k≠0:=by
  rcases hm with hm|hm
  ·exact TT hm
  ·exact hm
 exact hf x r rfl (TR h hk) rfl
theorem eG.aio {c m:Nat} {l:List T} {f:T->List T->R} (h:gd P l) (hf:∀x r,l=x :: r->eG P c m (f x r)):eG P c m (dI l f):=by
 obtain ⟨x,r,rfl,_⟩:=Kz h
 exact hf x r rfl
theorem eG.want {c m:Nat} {l:List T} {s:List UInt8} {f:T->List T->R} (h:gd P l) (hs:s≠[]) (hf:∀x r,l=x :: r->gd P r->r.length+1=l.length->eG P c m (f x r)):eG P c m (want s l f):=by
 unfold Go.Proofs.YtnhidldofjengaaGreatDoor.want
 split
 ·next hm=>exact eG.take h (.inl (by rw [hm];exact hs)) hf
 ·exact eG.refuse h
theorem eG.fu {c m:Nat} {l:List T} {k:Int} {f:T->List T->R} (h:gd P l) (hs:k≠0) (hf:∀x r,l=x :: r->gd P r->r.length+1=l.length->eG P c m (f x r)):eG P c m (fu k l f):=by
 unfold Go.Proofs.YtnhidldofjengaaGreatDoor.fu
 split
 ·next hm=>exact eG.take h (.inr (by rw [hm];exact hs)) hf
 ·exact eG.refuse h
theorem eG.enter {c m o:Nat} {l:List T} {s:List UInt8} {f:T->List T->R} (h:gd P l) (hs:s≠[]) (hf:∀x r,l=x :: r->gd P r->r.length+1=l.length->eG P c m (f x r)):eG P c m (enter s l o f):=by
 unfold Go.Proofs.YtnhidldofjengaaGreatDoor.enter
 refine eG.want h hs fun x r h1 h2 h3=>?_
 split
 ·exact ⟨h.2 x (by rw [h1];simp),.inr rfl⟩
 ·exact hf x r h1 h2 h3
end
theorem Ee {l:List T} {k:Nat} (hk:1<=k) (h:¬(nC (mark l)).2 < k):mark l≠[]:=by
 intro e
 rw [e] at h
 exact h (by show 0 < k;omega)
theorem sJ {l:List T} (h:builtin (mark l)=true):mark l≠[]:=by
 intro e
 rw [e] at h
 exact absurd h (by decide)
theorem BN {l:List T} (h:KV (mark l)=true):mark l≠[]:=by
 intro e
 rw [e] at h
 exact absurd h (by decide)
theorem jy (p:Pt):uh p.nt=1:=by cases p <;> rfl
theorem yh (p:Pt):lvl p.nt<=5:=by cases p <;> decide
theorem Dk (p:Pt) (l:List T):okN l p.nt:=by cases p <;> trivial
theorem eG.RU {P c m:Nat} {l:List T} {s:List UInt8} {f:T->List T->R} (h:gd P l) (hm:mark l=s) (hs:s≠[]) (hf:∀x r,l=x :: r->gd P r->r.length+1=l.length->eG P c m (f x r)):eG P c m (dI l f):=eG.take h (.inl (by rw [hm];exact hs)) hf
theorem eG.RV {P c m:Nat} {l:List T} {k:Int} {f:T->List T->R} (h:gd P l) (hm:kind l=k) (hs:k≠0) (hf:∀x r,l=x :: r->gd P r->r.length+1=l.length->eG P c m (f x r)):eG P c m (dI l f):=eG.take h (.inr (by rw [hm];exact hs)) hf
theorem uA {l:List T} {s:List UInt8} (k:Int) (h:mark l=s) (hs:s≠[]):okN l (.leap k):=by show mark l≠[];rw [h];exact hs
theorem uB {l:List T} {s:List UInt8} (h:mark l=s) (hs:s≠[]):okN l .kR:=by show mark l≠[];rw [h];exact hs
theorem RX {P:Nat}:∀(n:Nat) (nt:NT) (l:List T) (o:Nat),gd P l->okN l nt->10*l.length+lvl nt < n->eG P (uh nt) l.length (go n nt l o)
 |0,_,_,_,_,_,h=>by omega
 |n+1,nt,l,o,hg,hk,hn=>by
  have ih:=RX (P:=P) n
  cases nt
  case list p|lists p acc|head p|parts p acc=>
   simp only [lvl] at hn
   simp only [go]
   repeat (first
    |(with_reducible refine eG.want (by assumption) (by first|(simp;done)|exact hk2.1|exact hk2.2) ?_;intro x r _ _ hl)
    |(with_reducible refine eG.fu (by assumption) (by simp) ?_;intro x r _ _ hl)
    |(with_reducible refine eG.enter (by assumption) (by first|(simp;done)|exact hk2.1) ?_;intro x r _ _ hl)
    |split
    |exact True.intro
    |(refine eG.RU (by assumption) (by assumption) (by simp) ?_;intro x r _ _ hl)
    |(refine eG.RV (by assumption) (by assumption) (by simp) ?_;intro x r _ _ hl)
    |(refine eG.take (by assumption) (by first|exact .inl hk|exact .inl (sJ (by assumption))|exact .inl (BN (by assumption))|exact .inl (Ee hk (by assumption))) ?_;intro x r _ _ hl)
    |(refine eG.bnd (ih _ _ _ (by assumption) (by first|trivial|exact Dk _ _|exact uA _ (by assumption) (by simp)|exact uB (by assumption) (by simp)|exact And.intro (by simp) (by simp)|exact hk|(show 1<=_;omega)) (by first|(simp only [lvl];omega)|(have:=yh p;omega))) ?_;intro t l _ hl;first|rw [jy] at hl|simp only [uh] at hl)
    |exact eG.refuse (by assumption)
    |exact eG.ok (by assumption) (by first|(rw [jy];omega)|(simp only [uh];omega)|(simp only [uh,jy];omega))
    |(refine eG.mono (ih _ _ _ (by assumption) (by first|trivial|exact Dk _ _|exact uA _ (by assumption) (by simp)|exact uB (by assumption) (by simp)|exact And.intro (by simp) (by simp)|exact hk|(show 1<=_;omega)) (by first|(simp only [lvl];omega)|(have:=yh p;omega))) (by first|(rw [jy];omega)|(simp only [uh];omega)|(simp only [uh,jy];omega))))
  case within a c p=>
   have hk2:a≠[]/\c≠[]:=hk
   simp only [lvl] at hn
   simp only [go]
   repeat (first
    |(with_reducible refine eG.want (by assumption) (by first|(simp;done)|exact hk2.1|exact hk2.2) ?_;intro x r _ _ hl)
    |(with_reducible refine eG.fu (by assumption) (by simp) ?_;intro x r _ _ hl)
    |(with_reducible refine eG.enter (by assumption) (by first|(simp;done)|exact hk2.1) ?_;intro x r _ _ hl)
    |split
    |exact True.intro
    |(refine eG.RU (by assumption) (by assumption) (by simp) ?_;intro x r _ _ hl)
    |(refine eG.RV (by assumption) (by assumption) (by simp) ?_;intro x r _ _ hl)
    |(refine eG.take (by assumption) (by first|exact .inl hk|exact .inl (sJ (by assumption))|exact .inl (BN (by assumption))|exact .inl (Ee hk (by assumption))) ?_;intro x r _ _ hl)
    |(refine eG.bnd (ih _ _ _ (by assumption) (by first|trivial|exact Dk _ _|exact uA _ (by assumption) (by simp)|exact uB (by assumption) (by simp)|exact And.intro (by simp) (by simp)|exact hk|(show 1<=_;omega)) (by first|(simp only [lvl];omega)|(have:=yh p;omega))) ?_;intro t l _ hl;first|rw [jy] at hl|simp only [uh] at hl)
    |exact eG.refuse (by assumption)
    |exact eG.ok (by assumption) (by first|(rw [jy];omega)|(simp only [uh];omega)|(simp only [uh,jy];omega))
    |(refine eG.mono (ih _ _ _ (by assumption) (by first|trivial|exact Dk _ _|exact uA _ (by assumption) (by simp)|exact uB (by assumption) (by simp)|exact And.intro (by simp) (by simp)|exact hk|(show 1<=_;omega)) (by first|(simp only [lvl];omega)|(have:=yh p;omega))) (by first|(rw [jy];omega)|(simp only [uh];omega)|(simp only [uh,jy];omega))))
  case call t p=>
   simp only [lvl] at hn
   simp only [go]
   refine eG.aio (by assumption) fun x r _=>?_
   repeat (first
    |(with_reducible refine eG.want (by assumption) (by first|(simp;done)|exact hk2.1|exact hk2.2) ?_;intro x r _ _ hl)
    |(with_reducible refine eG.fu (by assumption) (by simp) ?_;intro x r _ _ hl)
    |(with_reducible refine eG.enter (by assumption) (by first|(simp;done)|exact hk2.1) ?_;intro x r _ _ hl)
    |split
    |exact True.intro
    |(refine eG.RU (by assumption) (by assumption) (by simp) ?_;intro x r _ _ hl)
    |(refine eG.RV (by assumption) (by assumption) (by simp) ?_;intro x r _ _ hl)
    |(refine eG.take (by assumption) (by first|exact .inl hk|exact .inl (sJ (by assumption))|exact .inl (BN (by assumption))|exact .inl (Ee hk (by assumption))) ?_;intro x r _ _ hl)
    |(refine eG.bnd (ih _ _ _ (by assumption) (by first|trivial|exact Dk _ _|exact uA _ (by assumption) (by simp)|exact uB (by assumption) (by simp)|exact And.intro (by simp) (by simp)|exact hk|(show 1<=_;omega)) (by first|(simp only [lvl];omega)|(have:=yh p;omega))) ?_;intro t l _ hl;first|rw [jy] at hl|simp only [uh] at hl)
    |exact eG.refuse (by assumption)
    |exact eG.ok (by assumption) (by first|(rw [jy];omega)|(simp only [uh];omega)|(simp only [uh,jy];omega))
    |(refine eG.mono (ih _ _ _ (by assumption) (by first|trivial|exact Dk _ _|exact uA _ (by assumption) (by simp)|exact uB (by assumption) (by simp)|exact And.intro (by simp) (by simp)|exact hk|(show 1<=_;omega)) (by first|(simp only [lvl];omega)|(have:=yh p;omega))) (by first|(rw [jy];omega)|(simp only [uh];omega)|(simp only [uh,jy];omega))))
  all_goals
   simp only [lvl] at hn
   simp only [go]
   repeat (first
    |(with_reducible refine eG.want (by assumption) (by first|(simp;done)|exact hk2.1|exact hk2.2) ?_;intro x r _ _ hl)
    |(with_reducible refine eG.fu (by assumption) (by simp) ?_;intro x r _ _ hl)
    |(with_reducible refine eG.enter (by assumption) (by first|(simp;done)|exact hk2.1) ?_;intro x r _ _ hl)
    |split
    |exact True.intro
    |(refine eG.RU (by assumption) (by assumption) (by simp) ?_;intro x r _ _ hl)
    |(refine eG.RV (by assumption) (by assumption) (by simp) ?_;intro x r _ _ hl)
    |(refine eG.take (by assumption) (by first|exact .inl hk|exact .inl (sJ (by assumption))|exact .inl (BN (by assumption))|exact .inl (Ee hk (by assumption))) ?_;intro x r _ _ hl)
    |(refine eG.bnd (ih _ _ _ (by assumption) (by first|trivial|exact Dk _ _|exact uA _ (by assumption) (by simp)|exact uB (by assumption) (by simp)|exact And.intro (by simp) (by simp)|exact hk|(show 1<=_;omega)) (by first|(simp only [lvl];omega)|(have:=yh p;omega))) ?_;intro t l _ hl;first|rw [jy] at hl|simp only [uh] at hl)
    |exact eG.refuse (by assumption)
    |exact eG.ok (by assumption) (by first|(rw [jy];omega)|(simp only [uh];omega)|(simp only [uh,jy];omega))
    |(refine eG.mono (ih _ _ _ (by assumption) (by first|trivial|exact Dk _ _|exact uA _ (by assumption) (by simp)|exact uB (by assumption) (by simp)|exact And.intro (by simp) (by simp)|exact hk|(show 1<=_;omega)) (by first|(simp only [lvl];omega)|(have:=yh p;omega))) (by first|(rw [jy];omega)|(simp only [uh];omega)|(simp only [uh,jy];omega))))
def Lq (r r':R):Prop:=r= .out\/r=r'
theorem Lq.refl (r:R):Lq r r:=.inr rfl
theorem Lq.ite {c:Prop} [Decidable c] {a b a' b':R} (h1:Lq a a') (h2:Lq b b'):Lq (if c then a else b) (if c then a' else b'):=by
 split
 ·exact h1
 ·exact h2
theorem Lq.bnd {r r':R} {f f':Tr->List T->R} (h:Lq r r') (hf:∀t l,Lq (f t l) (f' t l)):Lq (bnd r f) (bnd r' f'):=by
 rcases h with rfl|rfl
 ·exact .inl rfl
 ·cases r with
  |ok t l=>exact hf t l
  |bad a e=>exact .inr rfl
  |out=>exact .inl rfl
theorem Lq.take {l:List T} {f f':T->List T->R} (hf:∀x r,Lq (f x r) (f' x r)):Lq (dI l f) (dI l f'):=by
 cases l with
 |nil=>exact .inl rfl
 |cons x r=>exact hf x r
theorem Lq.want {m:List UInt8} {l:List T} {f f':T->List T->R} (hf:∀x r,Lq (f x r) (f' x r)):Lq (want m l f) (want m l f'):=by
 unfold Go.Proofs.YtnhidldofjengaaGreatDoor.want
 exact Lq.ite (Lq.take hf) (Lq.refl _)
theorem Lq.fu {m:Int} {l:List T} {f f':T->List T->R} (hf:∀x r,Lq (f x r) (f' x r)):Lq (fu m l f) (fu m l f'):=by
 unfold Go.Proofs.YtnhidldofjengaaGreatDoor.fu
 exact Lq.ite (Lq.take hf) (Lq.refl _)
theorem Lq.enter {m:List UInt8} {l:List T} {o:Nat} {f f':T->List T->R} (hf:∀x r,Lq (f x r) (f' x r)):Lq (enter m l o f) (enter m l o f'):=by
 unfold Go.Proofs.YtnhidldofjengaaGreatDoor.enter
 exact Lq.want fun x r=>Lq.ite (Lq.refl _) (hf x r)
mutual
def Tr.nodes:Tr->Nat
 | .mk _ _ _ _ _ _ ks=>cZ ks+1
def cZ:List Tr->Nat
 |[]=>0
 |t :: r=>t.nodes+cZ r
end
mutual
def Tr.deep:Tr->Nat
 | .mk _ _ _ _ _ _ ks=>nI ks+1
def nI:List Tr->Nat
 |[]=>0
 |t :: r=>max t.deep (nI r)
end
inductive PR where
 |tree (t:Tr)
 |fault (a:Nat) (e:Int)
def qD (ts:List T):PR:=
 match go (10*ts.length+1) .file ts 0 with
 | .ok t _=>if 3000 < t.nodes then .fault 0 2 else if 100 < t.deep then .fault 0 3 else .tree t
 | .bad a e=>.fault a e
 | .out=>.fault 0 0
def nQ (l:List UInt8):PR:=if (oH l).2.2=0 then qD (oH l).1 else .fault (oH l).2.1 (oH l).2.2
theorem IW {P:Nat} {ts:List T} (h:gd P ts):eG P 1 ts.length (go (10*ts.length+1) .file ts 0):=RX _ .file ts 0 h trivial (by show 10*ts.length+0 < _;omega)
section
variable {s : St}
theorem df (h:s.e≠0) (c:Int):fE c s=s:=by unfold fE;rw [if_neg h]
theorem di (h:s.e≠0) (m:List UInt8):bX m s=false:=by unfold bX;rw [decide_eq_false h];rfl
theorem dn (h:s.e≠0):nE s=false:=by unfold nE;rw [decide_eq_false h];rfl
theorem de (h:s.e≠0) (m:List UInt8):aj m s=s:=by unfold aj;rw [di h,if_neg (by decide)];exact df h 5
theorem dw (h:s.e≠0):aG s=s:=by unfold aG;rw [dn h,if_neg (by decide)];exact df h 5
theorem dns (h:s.e≠0):gq s=s:=by unfold gq;rw [dw h,di h,if_neg (by decide)]
theorem dc (h:s.e≠0) (m:List UInt8):jN m s=s:=by unfold jN;rw [de h,di h,if_neg (by decide)]
theorem TU (h:s.e≠0) (m:List UInt8):rH m s=false:=by unfold rH;rw [decide_eq_false h];rfl
theorem Yp (h:s.e≠0):iL s=false:=by unfold iL;simp [dn h,di h]
theorem d3 (h:s.e≠0):Cj s=false:=by unfold Cj;simp [di h]
theorem ddf (h:s.e≠0):jI s=false:=by unfold jI;rw [dn h];rfl
theorem dbu (h:s.e≠0):mV s=false:=by unfold mV;simp [di h]
theorem Yq (h:s.e≠0):KW s=s:=by unfold KW;rw [dw h,di h,if_neg (by decide),di h,if_neg (by decide),dns h]
theorem Yr (h:s.e≠0):tC s=s:=by unfold tC;simp [de h,dw h]
end
def kI (x:Option (Tr × St)) (s:St):Prop:=∃t s',x=some (t,s')/\s'.e=s.e/\s'.p=s.p
theorem jA (t:Tr) (s:St):kI (some (t,s)) s:=⟨t,s,rfl,rfl,rfl⟩
theorem sK {x:Option (Tr × St)} {k:Tr->St->Option (Tr × St)} {s:St} (h:kI x s) (hs:s.e≠0) (hk:∀t s',s'.e≠0->kI (k t s') s'):kI (ob x k) s:=by
 obtain ⟨t,s',rfl,h1,h2⟩:=h
 obtain ⟨t2,s2,h3,h4,h5⟩:=hk t s' (by rw [h1];exact hs)
 exact ⟨t2,s2,h3,h4.trans h1,h5.trans h2⟩
theorem Zx (n:Nat) (f:F5) (s:St) (h:s.e≠0):kI (m5 (n+4) f s) s:=by
 have hd0:(decide (s.e=0))=false:=decide_eq_false h
 cases f with
 |decl=>
  simp only [m5,di h,Bool.false_eq_true,if_false,df h]
  exact jA _ _
 |built t p=>
  have ht:s.tl.e≠0:=h
  by_cases hm:t=[109,97,107,101]
  ·simp only [m5,ob,de ht,hm,di ht,TU ht,if_true,if_false,if_neg ht,Bool.false_eq_true]
   exact ⟨_,_,rfl,rfl,rfl⟩
  ·simp only [m5,ob,de ht,hm,di ht,TU ht,if_true,if_false,if_neg ht,Bool.false_eq_true]
   exact ⟨_,_,rfl,rfl,rfl⟩
 |mh nd=>
  simp only [m5,TU h,Bool.false_eq_true,if_false]
  exact jA _ _
 |_=>simp [m5,ob,df h,di h,dn h,de h,dw h,dns h,dc h,TU h,Yp h,d3 h,ddf h,dbu h,Yq h,Yr h,h,hd0] <;> exact jA _ _
abbrev M (l:List T) (o:Nat):St:=⟨l,(o:Int),0,0⟩
theorem iE (m:List UInt8) (l:List T) (o:Nat):bX m (M l o)=decide (mark l=m):=by simp [bX]
theorem wC (l:List T) (o:Nat):nE (M l o)=decide (kind l=1):=by simp [nE]
theorem M3 (m:List UInt8) (l:List T) (o:Nat):rH m (M l o)=!decide (mark l=m):=by simp [rH,bX]
def cu (g:Tr->Tr) (r:R) (o:Nat) (x:Option (Tr × St)):Prop:=
 match r with
 | .ok t l=>x=some (g t,M l o)
 | .bad a e=>e≠0/\∃t s,x=some (t,s)/\s.e=e/\s.p=a
 | .out=>True
section
variable {g h : Tr -> Tr} {o o' : Nat} {x : Option (Tr × St)} {l : List T}
theorem bM {t u:Tr} {l:List T} (hg:u=g t):cu g (.ok t l) o (some (u,M l o)):=by rw [hg];rfl
theorem BO {a:Nat} {e:Int} {s:St} (hx:kI x s) (h1:s.e=e) (h2:s.p=a) (h3:e≠0):cu g (.bad a e) o x:=by
 obtain ⟨t,s',hx,h4,h5⟩:=hx
 exact ⟨h3,t,s',hx,h4.trans h1,h5.trans h2⟩
theorem bu {r:R} {f:Tr->List T->R} {k:Tr->St->Option (Tr × St)} (h1:cu h r o x) (h2:∀t l,r= .ok t l->cu g (f t l) o' (k (h t) (M l o))) (h3:∀t s,s.e≠0->kI (k t s) s):cu g (bnd r f) o' (ob x k):=by
 cases r with
 |ok t l=>
  have hx:x=some (h t,M l o):=h1
  rw [hx]
  exact h2 t l rfl
 |bad a e=>
  obtain ⟨he,t,s,rfl,h4,h5⟩:=h1
  exact BO (h3 t s (by rw [h4];exact he)) h4 h5 he
 |out=>exact trivial
theorem oQ {F:St->Option (Tr × St)} (hd:∀s,s.e≠0->kI (F s) s):cu g (refuse l) o' (F (fE 5 (M l o))):=by
 cases l with
 |nil=>exact trivial
 |cons y r=>exact BO (hd (fE 5 (M (y :: r) o)) (by simp [fE])) (by simp [fE]) (by simp [fE,Go.Proofs.YtnhidldofjengaaGreatDoor.hd]) (by decide)
theorem dX {m:List UInt8} {f:T->List T->R} {F:St->Option (Tr × St)} (hm1:opens m=false) (hm2:closes m=false) (h1:∀y r,l=y :: r->mark l=m->cu g (f y r) o' (F (M r o))) (hd:∀s,s.e≠0->kI (F s) s):cu g (want m l f) o' (F (aj m (M l o))):=by
 unfold want aj
 rw [iE]
 by_cases hm:mark l=m
 ·rw [if_pos hm,decide_eq_true hm,if_pos rfl,if_neg (by rw [hm1];decide),if_neg (by rw [hm2];decide)]
  cases l with
  |nil=>exact trivial
  |cons y r=>exact h1 y r rfl hm
 ·rw [if_neg hm,decide_eq_false hm,if_neg (by decide)]
  exact oQ hd
theorem kP {m:List UInt8} {f:T->List T->R} {F:St->Option (Tr × St)} (hm1:opens m=true) (ho:o<=40) (h1:o < 40->∀y r,l=y :: r->mark l=m->cu g (f y r) o' (F (M r (o+1)))) (hd:∀s,s.e≠0->kI (F s) s):cu g (enter m l o f) o' (F (aj m (M l o))):=by
 unfold enter want aj
 rw [iE]
 by_cases hm:mark l=m
 ·rw [if_pos hm,decide_eq_true hm,if_pos rfl,if_pos hm1]
  cases l with
  |nil=>exact trivial
  |cons y r=>
   simp only [dI]
   by_cases Dn:o=40
   ·rw [if_pos Dn,if_pos (by show (40:Int)<=(o:Int);omega)]
    exact BO (hd (fE 3 (M (y :: r) o)) (by simp [fE])) (by simp [fE]) (by simp [fE,Go.Proofs.YtnhidldofjengaaGreatDoor.hd]) (by decide)
   ·rw [if_neg Dn,if_neg (by show ¬(40:Int)<=(o:Int);omega)]
    have e:M r (o+1)=⟨r,(o:Int)+1,0,0⟩:=by simp [M]
    have:=h1 (by omega) y r rfl hm
    rw [e] at this
    exact this
 ·rw [if_neg hm,decide_eq_false hm,if_neg (by decide)]
  exact oQ hd
theorem ja {m:List UInt8} {f:T->List T->R} {F:St->Option (Tr × St)} (hm1:opens m=false) (hm2:closes m=true) (h1:∀y r,l=y :: r->mark l=m->cu g (f y r) o' (F (M r o))) (hd:∀s,s.e≠0->kI (F s) s):cu g (want m l f) o' (F (aj m (M l (o+1)))):=by
 unfold want aj
 rw [iE]
 by_cases hm:mark l=m
 ·rw [if_pos hm,decide_eq_true hm,if_pos rfl,if_neg (by rw [hm1];decide),if_pos hm2]
  cases l with
  |nil=>exact trivial
  |cons y r=>
   have:=h1 y r rfl hm
   have e:((o+1:Nat):Int) - 1=(o:Int):=by omega
   simpa [St.tl,dI,e] using this
 ·rw [if_neg hm,decide_eq_false hm,if_neg (by decide)]
  exact oQ hd
theorem jK {f:T->List T->R} {F:List UInt8->Nat->St->Option (Tr × St)} (h1:∀y r,l=y :: r->kind l=1->cu g (f y r) o' (F y.1.t y.2 (M r o))) (hd:∀t p s,s.e≠0->kI (F t p s) s):cu g (fu 1 l f) o' (F (ay (M l o)) (hdp (M l o)) (aG (M l o))):=by
 unfold fu aG ay
 rw [wC]
 by_cases hm:kind l=1
 ·rw [if_pos hm,decide_eq_true hm,if_pos rfl,if_pos rfl]
  cases l with
  |nil=>exact trivial
  |cons y r=>exact h1 y r rfl hm
 ·rw [if_neg hm,decide_eq_false hm,if_neg (by decide),if_neg (by decide)]
  exact oQ fun s hs=>hd _ _ s hs
end
def Tr.dY:Tr->List Tr->Tr
 | .mk k op n p t a ks,us=>.mk k op n p t a (ks ++ us)
theorem R3 (t x:Tr):t.add x=t.dY [x]:=by cases t;rfl
theorem P7 (t:Tr):t.dY []=t:=by cases t;simp [Tr.dY]
theorem pM (t:Tr) (us:List Tr) (x:Tr):(t.dY us).add x=t.dY (us ++ [x]):=by cases t;simp [Tr.dY,Tr.add]
def exP:List UInt8:=[112,97,99,107,97,103,101,32,97,59,32,102,117,110,99,32,102,40,120,32,105,110,116,41,32,105,110,116,32,123,32,114,101,116,117,114,110,32,120,32,43,32,49,59,32,125]
def abq:PR->Bool
 | .tree t=>t.nodes == 10 && (match t.kids with|(.mk _ _ n _ tx _ _) :: _=>n == 1 && tx == [102]|_=>false)
 |_=>false
theorem agA:abq (nQ exP)=true:=by decide+kernel
theorem ZH:∃t,nQ exP= .tree t/\t.nodes=10/\∃(k op:Int) (p:List UInt8) (a:Nat) (ks r:List Tr),t.kids= .mk k op 1 p [102] a ks :: r:=by
 have h:=agA
 generalize nQ exP=p at h
 cases p with
 |fault a e=>cases h
 |tree t=>
  obtain ⟨k,op,n,pk,tx,a,ks⟩:=t
  unfold abq at h
  simp only [Bool.and_eq_true,beq_iff_eq] at h
  obtain ⟨h1,h2⟩:=h
  refine ⟨_,rfl,h1,?_⟩
  cases ks with
  |nil=>simp [Tr.kids] at h2
  |cons x r=>
   obtain ⟨k2,kJ,n2,pk2,tx2,a2,bN⟩:=x
   simp only [Tr.kids,Bool.and_eq_true,beq_iff_eq] at h2
   obtain ⟨rfl,rfl⟩:=h2
   exact ⟨_,_,_,_,_,_,rfl⟩
def Tr.op:Tr->Int| .mk _ op _ _ _ _ _=>op
def Tr.text:Tr->List UInt8| .mk _ _ _ _ t _ _=>t
def signs:List (Int × List UInt8 × Int):=[(18,[124,124],1),(17,[38,38],2),(11,[61,61],3),(12,[33,61],3),(13,[60],3),(14,[60,61],3),(15,[62],3),(16,[62,61],3),(1,[43],4),(2,[45],4),(3,[42],5),(4,[47],5),(5,[37],5)]
end Go.Proofs.YtnhidldofjengaaGreatDoor
