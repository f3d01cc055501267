/- Both parsers, part 9. -/
import Derived.Deep.LoopGhost
import Derived.Test.YtnhidldofjengaaGreatDoorRqS
import Derived.Test.YtnhidldofjengaaGreatDoorRrJ
namespace Go.Proofs.YtnhidldofjengaaGreatDoor
open Go.RowKit
open List renaming getElem_toArray->gA,getElem_cons_zero->gB,getElem_cons_succ->gC,setIfInBounds_toArray->gD,set_cons_zero->gE,set_cons_succ->gF
set_option linter.unusedVariables false
set_option linter.unusedSimpArgs false
set_option maxRecDepth 100000
set_option maxHeartbeats 4000000
theorem Tu (n:Nat) (hn:n+10<=cK) (H:∀m,m<=n->qQ m):CM (n+1) 99 .stat:=by
 intro E w s tr s' h heq
 have hlt:=h.lt
 have hgt:=h.iy
 have hbL:=E.bL
 have Hn:=H n (Nat.le_refl _)
 have hR0:=h
 simp only [m5] at heq
 go_enter Tryz.func99,Tryz.ntmps99
 go_wp2
 refine nG (P:=fun W=>RS E W s/\Gr (·=E.b) w W/\ag W w.heap.size 24 Z7/\w.heap.size+1<=W.heap.size) ⟨aB,aJ,bz,(by first|(simp;done)|(simp;omega))⟩ ?_
 rintro w1 ⟨fB,hG1,az,hs1⟩
 have kW:=fB.lt
 obtain ⟨j,hj,hjl,k0,k1,k2,k3,k4,q0,q1,q2,q3,fz⟩:=fB.here
 have hlt:=fB.lt
 have hgl:=fB.iy
 have hll:=fB.len
 have hne:=fB.ne
 clear fz hj
 obtain ⟨B,hB⟩:=aS E.b
 obtain ⟨G,hG⟩:=aS E.g
 obtain ⟨N,hN⟩:=aS E.ts.length
 obtain ⟨C,hC⟩:=aS E.c
 obtain ⟨so,hso⟩:=aS s.o
 obtain ⟨se,hse⟩:=aS s.e
 obtain ⟨sp,hsp⟩:=aS s.p
 obtain ⟨tk,htk⟩:=aS (hd s.l).1.k
 obtain ⟨tt,rP⟩:=aS (hd s.l).1.t
 obtain ⟨tn,htn⟩:=aS (hd s.l).1.n
 obtain ⟨tp,htp⟩:=aS (hd s.l).2
 rw [hB] at k0 k1 k2 k3 k4 hlt
 rw [hG,hN,hC] at k0
 rw [hso] at k2
 rw [hse] at k3
 rw [hsp] at k4
 rw [hG,htk] at q0
 rw [hG,rP] at q1
 rw [hG,htn] at q2
 rw [hG,htp] at q3
 rw [hG] at hgl
 rw [hN] at hjl hll
 rw [hG,hB] at hne
 have j0:(0:Int)<=(j:Int):=by omega
 have j1:(j:Int) < (N:Int):=by omega
 have j2:(j:Int)<=8193:=by omega
 have Li:=af htk
 have Sq:=af rP
 have U3:=af htn
 have GI:=af htp
 have LW:=af hB
 rw [hB]
 clear hB hG hN hC hso hse hsp htk rP htn htp
 refine wp_region_held_drew (S:=fun V=>Below w1.heap.size w1 V) (by kernel_rfl) (Below.refl _ w1).drew (fun hS0=>?_)
 refine aQ 0 hS0 ?_
 refine aQ 1 hS0 ?_
 refine aQ 2 hS0 ?_
 refine jS 3 hS0 ?_ (fun w' hS=>(hS.cell (p:=⟨B,0,none⟩) hlt).trans k0)
 refine aQ 4 hS0 ?_
 refine aQ 5 hS0 ?_
 refine aQ 6 hS0 ?_
 refine jS 7 hS0 ?_ (fun w' hS=>(hS.cell (p:=⟨B,1,none⟩) hlt).trans k1)
 refine aQ 8 hS0 ?_
 refine oU 9 hS0 ?_ (he:=fun w' hS=>by (have y0:=(hS.cell (p:=⟨G,_,none⟩) hgl).trans q0;have y1:=(hS.cell (p:=⟨G,_,none⟩) hgl).trans q1;have y2:=(hS.cell (p:=⟨G,_,none⟩) hgl).trans q2;have y3:=(hS.cell (p:=⟨G,_,none⟩) hgl).trans q3;unfold execOp;go_simp;first|done|exact rfl))
 refine oI 10 rfl (aY (v:=.pointer (some ⟨w1.heap.size,0,none⟩)) (w':=(w1.drew.alloc (.cells #[.int .i64 0,.string ⟨#[]⟩,.int .i64 0,.int .i64 0] 53))) (by unfold execOp;go_simp) (And.intro ((Below.refl _ w1).drew.alloc (by simp) _) ?_))
 simp only [Act.put,List.getElem_toArray,List.getElem_cons_zero,List.getElem_cons_succ,List.setIfInBounds_toArray,List.set_cons_zero,List.set_cons_succ]
 obtain ⟨w2,qg⟩:=aS (((((w1.drew.alloc (.cells #[.int .i64 0,.string ⟨#[]⟩,.int .i64 0,.int .i64 0] 53)).setCell ⟨w1.heap.size,0,none⟩ (.int .i64 tk)).setCell ⟨w1.heap.size,1,none⟩ (.string (bs tt))).setCell ⟨w1.heap.size,2,none⟩ (.int .i64 tn)).setCell ⟨w1.heap.size,3,none⟩ (.int .i64 tp))
 have hbw2:Below w1.heap.size w1 w2:=qg▸um w1 _ _ _ _
 have vQ:ag w2 w1.heap.size 53 (T4 tk (bs tt) tn tp):=qg▸uo w1 _ _ _ _
 refine oI 11 rfl (mU (w':=w2) (by rw [<-qg];unfold execOp;go_simp) (And.intro hbw2 ?_))
 simp only [Act.put,List.getElem_toArray,List.getElem_cons_zero,List.getElem_cons_succ,List.setIfInBounds_toArray,List.set_cons_zero,List.set_cons_succ]
 refine eZ ?_
 clear qg hS0 k0 k1 k2 k3 k4 q0 q1 q2 q3 j0 j1 j2 hjl hll hne hlt hgl
 rw [<-Li.out,<-Sq.out,<-U3.out,<-GI.out] at vQ
 rw [<-LW.out]
 have hR2:RS E w2 s:=fB.below hbw2
 have hG2:Gr (·=E.b) w w2:=Gr.trans hG1 (Gr.of_below hbw2)
 have hs2:w1.heap.size<=w2.heap.size:=hbw2.size
 have ou:=hR2.lt
 have ql:=hR2.iy
 have nT:ag w2 w1.heap.size 53 (T4 ((hd s.l).1.k) (bs (hd s.l).1.t) ((hd s.l).1.n) ((hd s.l).2)):=vQ
 have adT:=nT.lt
 have ax:ag w2 w.heap.size 24 Z7:=ag.aC az hbw2
 have jT:=ax.lt
 clear vQ hbw2
 obtain ⟨_,_,_,_,ag4,_⟩:=nT.jX
 cases hi0:bX [118,97,114] s with
 |true=>
  have HI0:=af hi0
  simp only [hi0,if_true] at heq
  have nK:=af (fun W hW=>Hn.dh E W _ tr s' hW heq)
  clear hi0 heq
  go_wp2_with (first
   |((fail_if_success (have:=hg3));go_at_call 27;(with_reducible refine (au E _ s aB [118,97,114] ⟨#[118,97,114]⟩ rfl).mono ?_);rintro e w3 ⟨rfl,hg3⟩;rw [HI0.out];have gZ:=bA hR2 hg3;have hG3:=aL hG2 hg3;have aF:=bV ax hg3;have uX:=aF.lt;have jh:=bV nT hg3;have aM:ag w3 w2.heap.size 24 (N7 0 0 0 ⟨#[]⟩ ⟨#[]⟩ (hdp s) (.slice none 0 0)):=ag.aC bz hg3)
   |((fail_if_success (have:=hg4));go_at_call 50;(with_reducible refine (nK.out _ aB).mono ?_);rintro e w4 ⟨hg4,jb,k4,Cn,m4,p4,t4,a4,BQ,A4,c4,rfl,rfl,OI⟩;have hG4:=bP hG3 hg4;have aK:=aF.call hg4 (by omega);obtain ⟨_,wO,xC,xD,xE,xG,xH,xI,wP⟩:=aK.av;have iq:=jh.call hg4 (by omega);have aW:=aM.call hg4 (by omega);have VL:=OI.mono (lo':=w3.heap.size) (by simp)))
  exact aX Tryz.results99 rfl rfl dS ⟨aJ,aB,k4,Cn,m4,p4,t4,a4,BQ,A4,c4,rfl,rfl,aI.mono (lo:=w3.heap.size) (v:=.slice A4 BQ.length c4) (ks:=BQ) nS (by omega)⟩
 |false=>
 have HI0:=af hi0
 simp only [hi0,Bool.false_eq_true,if_false,Bool.false_or] at heq
 clear hi0
 go_wp2_with (first
  |((fail_if_success (have:=hg3));go_at_call 27;(with_reducible refine (au E _ s aB [118,97,114] ⟨#[118,97,114]⟩ rfl).mono ?_);rintro e w3 ⟨rfl,hg3⟩;rw [HI0.out];have gZ:=bA hR2 hg3;have hG3:=aL hG2 hg3;have aF:=bV ax hg3;have jh:=bV nT hg3;have aM:ag w3 w2.heap.size 24 (N7 0 0 0 ⟨#[]⟩ ⟨#[]⟩ (hdp s) (.slice none 0 0)):=ag.aC bz hg3))
 cases hi1:bX [123] s with
 |true=>
  have HI1:=af hi1
  simp only [hi1,if_true] at heq
  have nK:=af (fun W hW=>Hn.block E W _ tr s' hW heq)
  clear hi1 heq
  go_wp2_with (first
   |((fail_if_success (have:=hg4));go_at_call 27;(with_reducible refine (au E _ s aB [123] ⟨#[123]⟩ rfl).mono ?_);rintro e w4 ⟨rfl,hg4⟩;rw [HI1.out];have jb:=bA gZ hg4;have hG4:=aL hG3 hg4;have aK:=aF.aC hg4;have Fb:=aK.lt;have iq:=jh.aC hg4;have aW:=aM.aC hg4)
   |((fail_if_success (have:=hg5));go_at_call 84;(with_reducible refine (nK.out _ aB).mono ?_);rintro e w5 ⟨hg5,jF,k5,Dx,m5,p5,t5,a5,tX,A5,c5,rfl,rfl,abX⟩;have iw:=bP hG4 hg5;have aT:=aK.call hg5 (by omega);obtain ⟨_,DD,DF,DI,DJ,DK,DL,DN,DR⟩:=aT.av;have gU:=iq.call hg5 (by omega);have aR:=aW.call hg5 (by omega);have adV:=abX.mono (lo':=w4.heap.size) (by simp)))
  exact aX Tryz.results99 rfl rfl dS ⟨aJ,aB,k5,Dx,m5,p5,t5,a5,tX,A5,c5,rfl,rfl,aI.mono (lo:=w4.heap.size) (v:=.slice A5 tX.length c5) (ks:=tX) nS (by omega)⟩
 |false=>
 have HI1:=af hi1
 simp only [hi1,Bool.false_eq_true,if_false,Bool.false_or] at heq
 clear hi1
 go_wp2_with (first
  |((fail_if_success (have:=hg4));go_at_call 27;(with_reducible refine (au E _ s aB [123] ⟨#[123]⟩ rfl).mono ?_);rintro e w4 ⟨rfl,hg4⟩;rw [HI1.out];have jb:=bA gZ hg4;have hG4:=aL hG3 hg4;have aK:=aF.aC hg4;have iq:=jh.aC hg4;have aW:=aM.aC hg4))
 cases hi2:bX [105,102] s with
 |true=>
  have HI2:=af hi2
  simp only [hi2,if_true] at heq
  have nK:=af (fun W hW=>Hn.uq E W _ tr s' hW heq)
  clear hi2 heq
  go_wp2_with (first
   |((fail_if_success (have:=hg5));go_at_call 27;(with_reducible refine (au E _ s aB [105,102] ⟨#[105,102]⟩ rfl).mono ?_);rintro e w5 ⟨rfl,hg5⟩;rw [HI2.out];have jF:=bA jb hg5;have iw:=aL hG4 hg5;have aT:=aK.aC hg5;have EN:=aT.lt;have gU:=iq.aC hg5;have aR:=aW.aC hg5)
   |((fail_if_success (have:=dA));go_at_call 118;(with_reducible refine (nK.out _ aB).mono ?_);rintro e w6 ⟨dA,lu,k6,op6,m6,p6,t6,a6,Nv,A6,c6,rfl,rfl,VU⟩;have iX:=bP iw dA;have bn:=aT.call dA (by omega);obtain ⟨_,Jw,Jy,Jz,JC,JF,JG,JH,JI⟩:=bn.av;have gI:=gU.call dA (by omega);have bE:=aR.call dA (by omega);have adW:=VU.mono (lo':=w5.heap.size) (by simp)))
  exact aX Tryz.results99 rfl rfl dS ⟨aJ,aB,k6,op6,m6,p6,t6,a6,Nv,A6,c6,rfl,rfl,aI.mono (lo:=w5.heap.size) (v:=.slice A6 Nv.length c6) (ks:=Nv) nS (by omega)⟩
 |false=>
 have HI2:=af hi2
 simp only [hi2,Bool.false_eq_true,if_false,Bool.false_or] at heq
 clear hi2
 go_wp2_with (first
  |((fail_if_success (have:=hg5));go_at_call 27;(with_reducible refine (au E _ s aB [105,102] ⟨#[105,102]⟩ rfl).mono ?_);rintro e w5 ⟨rfl,hg5⟩;rw [HI2.out];have jF:=bA jb hg5;have iw:=aL hG4 hg5;have aT:=aK.aC hg5;have gU:=iq.aC hg5;have aR:=aW.aC hg5))
 cases hi3:bX [102,111,114] s with
 |true=>
  have HI3:=af hi3
  simp only [hi3,if_true] at heq
  clear hi3
  cases hb:bX [123] (aj [102,111,114] s) with
  |true=>
  have HB:=af hb
  simp only [hb,if_true] at heq
  obtain ⟨x1,s1,h1,heq⟩:=bF heq
  simp only [Option.some.injEq,Prod.mk.injEq] at heq
  obtain ⟨rfl,rfl⟩:=heq
  have nK:=af (fun W hW=>Hn.block E W _ x1 s1 hW h1)
  clear hb h1
  go_wp2_with (first
   |((fail_if_success (have:=dA));go_at_call 27;(with_reducible refine (au E _ s aB [102,111,114] ⟨#[102,111,114]⟩ rfl).mono ?_);rintro e w6 ⟨rfl,dA⟩;rw [HI3.out];have lu:=bA jF dA;have iX:=aL iw dA;have bn:=aT.aC dA;have gI:=gU.aC dA;have bE:=aR.aC dA;obtain ⟨_,NV,_,_,_,_,_,_,Vp⟩:=bE.av;have JZ:ag (w6.setCell ⟨w2.heap.size,0,none⟩ (.int .i64 22)) w2.heap.size 24 (N7 22 0 0 ⟨#[]⟩ ⟨#[]⟩ (hdp s) (.slice none 0 0)):=ag.set0 bE _)
   |((fail_if_success (have:=dZ));go_at_call 25;(with_reducible refine (aA E _ s aB [102,111,114] ⟨#[102,111,114]⟩ rfl).mono ?_);rintro e w7 ⟨rfl,o5,dZ⟩;have lV:=bP iX dZ;have bW:=aD bn dZ;have jJ:=aD gI dZ;have dm:=aD JZ dZ)
   |((fail_if_success (have:=fK));go_at_call 27;(with_reducible refine (au E _ (aj [102,111,114] s) aB [123] ⟨#[123]⟩ rfl).mono ?_);rintro e w8 ⟨rfl,fK⟩;rw [HB.out];have tY:RS E w8 (aj [102,111,114] s):=RS.below aB fK;have qJ:=aL lV fK;have adx:=tY.lt;have ady:=tY.iy;have dK:=bW.aC fK;have ji:=jJ.aC fK;have dV:=dm.aC fK;have ZQ:=dV.lt))
  have ag5:∀q,(fun q=>q<=w2.heap.size) q->q < w8.heap.size:=fun q hq=>by have:q<=w2.heap.size:=hq;omega
  have Fv:∀q,(Value.slice none 0 0).ownBlock=some q->w.heap.size<=q:=fun q e=>by cases e
  have dO:(fun q=>q<=w2.heap.size) w2.heap.size:=Nat.le_refl _
  have cB:(fun q=>q<=w2.heap.size) w.heap.size:=by show w.heap.size<=w2.heap.size;omega
  have ve:(fun q=>q<=w2.heap.size) w1.heap.size:=by show w1.heap.size<=w2.heap.size;omega
  have fT:w2.heap.size≠E.b:=by omega
  have kG:w2.heap.size≠E.g:=by omega
  have qy:ah w8 E.L (fun q=>q<=w2.heap.size) (.slice none 0 0) ([]:List Tr):=ah.none_ _ _ _
  obtain ⟨_,_,_,_,_,_,_,Dv,Oj⟩:=dV.av
  refine dD E.b E.L w2.heap.size (.pointer (some ⟨E.b,0,none⟩)) 84 #[.pointer (some ⟨E.b,0,none⟩)] (fun _=>False) (fun t W=>t=x1/\RS E W s1) (qy.x dO) qy ag5 Dv (Oj 6) E.bL dV.lt tY.L fT (by simp [cK]) (fun t=>bD E _ _ _ (by omega) (by omega) t) (fun t=>bD E _ _ _ E.bL E.gL t) ((nK.out w8.drew tY.drew).mono fun e w' h=>fH h) ?_ ?_
  ·rintro a w' c _ nL _
   exact absurd nL id
  rintro vals w' A9 c9 u9 ⟨hu9,qx⟩ _ hpx hgx eB hgo
  obtain rfl:=hu9.symm
  obtain ⟨w9,hW⟩:=aS (w'.setCell ⟨w2.heap.size,6,none⟩ (.slice A9 (([]:List Tr).length+1) c9))
  have hsx:=eB.size
  have yT:RS E w9 s1:=hW▸qx.setCell (p:=⟨w2.heap.size,6,none⟩) fT kG _
  have wY:Gr (·=E.b) w w9:=hW▸Gr.setCell (p:=⟨w2.heap.size,6,none⟩) (jD qJ eB Fv) (.inl (by show w.heap.size<=w2.heap.size;omega)) _
  have Y4:∀q,(Value.slice A9 (([]:List Tr).length+1) c9).ownBlock=some q->w.heap.size<=q:=fun q hq=>(hgo q hq).elim (Fv q) (fun h=>by have:=qJ.size;omega)
  have jv:ag w9 w2.heap.size 24 (N7 22 0 0 ⟨#[]⟩ ⟨#[]⟩ (hdp s) (.slice A9 (([]:List Tr).length+1) c9)):=hW▸ag.jC (ag.wx dV eB fT (fun e=>qy.1 _ e dO)) _
  have gH:ag w9 w.heap.size 24 Z7:=hW▸ag.far (ag.wx dK eB (by omega) (fun e=>qy.1 _ e cB)) (by show w.heap.size≠w2.heap.size;omega) _
  have mK:ag w9 w1.heap.size 53 (T4 ((hd s.l).1.k) (bs (hd s.l).1.t) ((hd s.l).1.n) ((hd s.l).2)):=hW▸ag.far (ag.wx ji eB (by omega) (fun e=>qy.1 _ e ve)) (by show w1.heap.size≠w2.heap.size;omega) _
  have zy:ah w9 E.L (fun q=>q<=w2.heap.size) (.slice A9 (([]:List Tr).length+1) c9) (([]:List Tr) ++ [x1]):=hW▸hpx.setCell (p:=⟨w2.heap.size,6,none⟩) (.inr dO) _
  have hs9:w8.heap.size<=w9.heap.size:=hW▸(by simpa using hsx)
  rw [hW]
  clear hW qx hpx hgx eB hgo hsx
  obtain ⟨kb,hkb⟩:=aS (([]:List Tr) ++ [x1])
  have eF:kb.length=([]:List Tr).length+1:=by rw [<-hkb,List.length_append];rfl
  rw [hkb,<-eF] at zy
  rw [<-eF] at jv
  try rw [<-eF] at Y4
  have nZ:=af hkb
  clear eF hkb
  obtain ⟨_,Oh,Vr,SN,Vs,Vt,Vu,Oi,_⟩:=jv.av
  obtain ⟨_,SC,SE,SF,SG,SH,SI,SK,SL⟩:=gH.av
  go_wp2
  exact aX Tryz.results99 rfl rfl dS ⟨aJ,aB,22,0,0,[],[],(hdp s),kb,A9,c9,(by rw [<-nZ.out];rfl),rfl,(ah.up (lo:=E.L) (X:=(fun q=>q<=w2.heap.size)) (v:=.slice A9 kb.length c9) (ks:=kb) uu (fun q hq=>by have:¬q<=w2.heap.size:=hq;omega))⟩
  |false=>
  have HB:=af hb
  simp only [hb,Bool.false_eq_true,if_false] at heq
  obtain ⟨x1,s1,h1,heq⟩:=bF heq
  obtain ⟨x2,s2,h2,heq⟩:=bF heq
  simp only [Option.some.injEq,Prod.mk.injEq] at heq
  obtain ⟨rfl,rfl⟩:=heq
  have nK:=af (fun W hW=>Hn.expr E W _ 1 x1 s1 (by omega) (by omega) hW h1)
  have LV:=af (fun W hW=>Hn.block E W _ x2 s2 hW h2)
  clear hb h1 h2
  go_wp2_with (first
   |((fail_if_success (have:=dA));go_at_call 27;(with_reducible refine (au E _ s aB [102,111,114] ⟨#[102,111,114]⟩ rfl).mono ?_);rintro e w6 ⟨rfl,dA⟩;rw [HI3.out];have lu:=bA jF dA;have iX:=aL iw dA;have bn:=aT.aC dA;have gI:=gU.aC dA;have bE:=aR.aC dA;obtain ⟨_,NV,_,_,_,_,_,_,Vp⟩:=bE.av;have JZ:ag (w6.setCell ⟨w2.heap.size,0,none⟩ (.int .i64 22)) w2.heap.size 24 (N7 22 0 0 ⟨#[]⟩ ⟨#[]⟩ (hdp s) (.slice none 0 0)):=ag.set0 bE _)
   |((fail_if_success (have:=dZ));go_at_call 25;(with_reducible refine (aA E _ s aB [102,111,114] ⟨#[102,111,114]⟩ rfl).mono ?_);rintro e w7 ⟨rfl,o5,dZ⟩;have lV:=bP iX dZ;have bW:=aD bn dZ;have jJ:=aD gI dZ;have dm:=aD JZ dZ)
   |((fail_if_success (have:=fK));go_at_call 27;(with_reducible refine (au E _ (aj [102,111,114] s) aB [123] ⟨#[123]⟩ rfl).mono ?_);rintro e w8 ⟨rfl,fK⟩;rw [HB.out];have tY:RS E w8 (aj [102,111,114] s):=RS.below aB fK;have qJ:=aL lV fK;have dK:=bW.aC fK;have ji:=jJ.aC fK;have dV:=dm.aC fK;obtain ⟨_,_,_,Og,_,_,_,_,Oj⟩:=dV.av))
  have J2:ag (w8.setCell ⟨w2.heap.size,2,none⟩ (.int .i64 1)) w2.heap.size 24 (N7 22 0 1 ⟨#[]⟩ ⟨#[]⟩ (hdp s) (.slice none 0 0)):=ag.set2 dV _
  refine nG (P:=fun W=>RS E W (aj [102,111,114] s)/\Gr (·=E.b) w W/\ag W w.heap.size 24 Z7/\ag W w1.heap.size 53 (T4 ((hd s.l).1.k) (bs (hd s.l).1.t) ((hd s.l).1.n) ((hd s.l).2))/\ag W w2.heap.size 24 (N7 22 0 1 ⟨#[]⟩ ⟨#[]⟩ (hdp s) (.slice none 0 0))/\w8.heap.size+0<=W.heap.size) ⟨aB,aJ,bz,bz,bz,(by first|(simp;done)|(simp;omega))⟩ ?_
  rintro w9 ⟨yT,wY,gH,mK,jv,_⟩
  have amM:=yT.lt
  have amN:=yT.iy
  have adI:=jv.lt
  have adX:∀q,(fun q=>q<=w2.heap.size) q->q < w9.heap.size:=fun q hq=>by have:q<=w2.heap.size:=hq;omega
  have Y4:∀q,(Value.slice none 0 0).ownBlock=some q->w.heap.size<=q:=fun q e=>by cases e
  have dO:(fun q=>q<=w2.heap.size) w2.heap.size:=Nat.le_refl _
  have cB:(fun q=>q<=w2.heap.size) w.heap.size:=by show w.heap.size<=w2.heap.size;omega
  have ve:(fun q=>q<=w2.heap.size) w1.heap.size:=by show w1.heap.size<=w2.heap.size;omega
  have fT:w2.heap.size≠E.b:=by omega
  have kG:w2.heap.size≠E.g:=by omega
  have zy:ah w9 E.L (fun q=>q<=w2.heap.size) (.slice none 0 0) ([]:List Tr):=ah.none_ _ _ _
  obtain ⟨_,_,_,_,_,_,_,Oi,YQ⟩:=jv.av
  refine dD E.b E.L w2.heap.size (.pointer (some ⟨E.b,0,none⟩)) 80 #[.pointer (some ⟨E.b,0,none⟩),.int .i64 1] (fun _=>False) (fun t W=>t=x1/\RS E W s1) (zy.x dO) zy adX Oi (YQ 6) E.bL jv.lt yT.L fT (by simp [cK]) (fun t=>bD E _ _ _ (by omega) (by omega) t) (fun t=>bD E _ _ _ E.bL E.gL t) ((nK.out w9.drew yT.drew).mono fun e w' h=>fH h) ?_ ?_
  ·rintro a w' c _ nL _
   exact absurd nL id
  rintro vals w' Ov c10 u10 ⟨ag6,qx⟩ _ hpx hgx eB hgo
  obtain rfl:=ag6.symm
  obtain ⟨kF,hW⟩:=aS (w'.setCell ⟨w2.heap.size,6,none⟩ (.slice Ov (([]:List Tr).length+1) c10))
  have hsx:=eB.size
  have gu:RS E kF s1:=hW▸qx.setCell (p:=⟨w2.heap.size,6,none⟩) fT kG _
  have jk:Gr (·=E.b) w kF:=hW▸Gr.setCell (p:=⟨w2.heap.size,6,none⟩) (jD wY eB Y4) (.inl (by show w.heap.size<=w2.heap.size;omega)) _
  have gy:∀q,(Value.slice Ov (([]:List Tr).length+1) c10).ownBlock=some q->w.heap.size<=q:=fun q hq=>(hgo q hq).elim (Y4 q) (fun h=>by have:=wY.size;omega)
  have dP:ag kF w2.heap.size 24 (N7 22 0 1 ⟨#[]⟩ ⟨#[]⟩ (hdp s) (.slice Ov (([]:List Tr).length+1) c10)):=hW▸ag.jC (ag.wx jv eB fT (fun e=>zy.1 _ e dO)) _
  have dF:ag kF w.heap.size 24 Z7:=hW▸ag.far (ag.wx gH eB (by omega) (fun e=>zy.1 _ e cB)) (by show w.heap.size≠w2.heap.size;omega) _
  have mE:ag kF w1.heap.size 53 (T4 ((hd s.l).1.k) (bs (hd s.l).1.t) ((hd s.l).1.n) ((hd s.l).2)):=hW▸ag.far (ag.wx mK eB (by omega) (fun e=>zy.1 _ e ve)) (by show w1.heap.size≠w2.heap.size;omega) _
  have Fe:=dP.lt
  have fI:ah kF E.L (fun q=>q<=w2.heap.size) (.slice Ov (([]:List Tr).length+1) c10) (([]:List Tr) ++ [x1]):=hW▸hpx.setCell (p:=⟨w2.heap.size,6,none⟩) (.inr dO) _
  have Dy:w9.heap.size<=kF.heap.size:=hW▸(by simpa using hsx)
  have jU:∀q,(fun q=>q<=w2.heap.size) q->q < kF.heap.size:=fun q hq=>Nat.lt_of_lt_of_le (adX q hq) Dy
  rw [hW]
  have Iu:=gu.lt
  have Iw:=gu.iy
  clear hW qx hpx hgx eB hgo hsx
  obtain ⟨ka,hka⟩:=aS (([]:List Tr) ++ [x1])
  have nM:ka.length=([]:List Tr).length+1:=by rw [<-hka,List.length_append];rfl
  rw [hka,<-nM] at fI
  rw [<-nM] at dP
  try rw [<-nM] at gy
  have Cr:=af nM
  have Fs:=af hka
  clear nM hka
  go_wp2
  obtain ⟨_,_,_,_,_,_,_,ZW,adY⟩:=dP.av
  refine dD E.b E.L w2.heap.size (.pointer (some ⟨E.b,0,none⟩)) 84 #[.pointer (some ⟨E.b,0,none⟩)] (fun _=>False) (fun t W=>t=x2/\RS E W s2) (fI.x dO) fI jU ZW (adY 6) E.bL dP.lt gu.L fT (by rw [Cr.out];simp [cK]) (fun t=>bD E _ _ _ (by omega) (by omega) t) (fun t=>bD E _ _ _ E.bL E.gL t) ((LV.out kF.drew gu.drew).mono fun e w' h=>fH h) ?_ ?_
  ·rintro a w' c _ nL _
   exact absurd nL id
  rintro vals w' Ow c11 u11 ⟨ag7,qx⟩ _ hpx hgx eB hgo
  obtain rfl:=ag7.symm
  obtain ⟨bB,hW⟩:=aS (w'.setCell ⟨w2.heap.size,6,none⟩ (.slice Ow (ka.length+1) c11))
  have hsx:=eB.size
  have fM:RS E bB s2:=hW▸qx.setCell (p:=⟨w2.heap.size,6,none⟩) fT kG _
  have gm:Gr (·=E.b) w bB:=hW▸Gr.setCell (p:=⟨w2.heap.size,6,none⟩) (jD jk eB gy) (.inl (by show w.heap.size<=w2.heap.size;omega)) _
  have Fj:∀q,(Value.slice Ow (ka.length+1) c11).ownBlock=some q->w.heap.size<=q:=fun q hq=>(hgo q hq).elim (gy q) (fun h=>by have:=jk.size;omega)
  have bJ:ag bB w2.heap.size 24 (N7 22 0 1 ⟨#[]⟩ ⟨#[]⟩ (hdp s) (.slice Ow (ka.length+1) c11)):=hW▸ag.jC (ag.wx dP eB fT (fun e=>fI.1 _ e dO)) _
  have bR:ag bB w.heap.size 24 Z7:=hW▸ag.far (ag.wx dF eB (by omega) (fun e=>fI.1 _ e cB)) (by show w.heap.size≠w2.heap.size;omega) _
  have uG:ag bB w1.heap.size 53 (T4 ((hd s.l).1.k) (bs (hd s.l).1.t) ((hd s.l).1.n) ((hd s.l).2)):=hW▸ag.far (ag.wx mE eB (by omega) (fun e=>fI.1 _ e ve)) (by show w1.heap.size≠w2.heap.size;omega) _
  have bZ:ah bB E.L (fun q=>q<=w2.heap.size) (.slice Ow (ka.length+1) c11) (ka ++ [x2]):=hW▸hpx.setCell (p:=⟨w2.heap.size,6,none⟩) (.inr dO) _
  have qR:kF.heap.size<=bB.heap.size:=hW▸(by simpa using hsx)
  rw [hW]
  clear hW qx hpx hgx eB hgo hsx
  obtain ⟨kb,hkb⟩:=aS (ka ++ [x2])
  have eF:kb.length=ka.length+1:=by rw [<-hkb,List.length_append];rfl
  rw [hkb,<-eF] at bZ
  rw [<-eF] at bJ
  try rw [<-eF] at Fj
  have nZ:=af hkb
  clear eF hkb
  obtain ⟨_,EY,EZ,E5,E8,E9,Fa,xL,_⟩:=bJ.av
  obtain ⟨_,Be,Bf,Bg,Bh,Bi,Bj,Bl,Bn⟩:=bR.av
  go_wp2
  exact aX Tryz.results99 rfl rfl dS ⟨aJ,aB,22,0,1,[],[],(hdp s),kb,Ow,c11,(by rw [<-nZ.out,<-Fs.out];rfl),rfl,(ah.up (lo:=E.L) (X:=(fun q=>q<=w2.heap.size)) (v:=.slice Ow kb.length c11) (ks:=kb) uu (fun q hq=>by have:¬q<=w2.heap.size:=hq;omega))⟩
 |false=>
 have HI3:=af hi3
 simp only [hi3,Bool.false_eq_true,if_false,Bool.false_or] at heq
 clear hi3
 go_wp2_with (first
  |((fail_if_success (have:=dA));go_at_call 27;(with_reducible refine (au E _ s aB [102,111,114] ⟨#[102,111,114]⟩ rfl).mono ?_);rintro e w6 ⟨rfl,dA⟩;rw [HI3.out];have lu:=bA jF dA;have iX:=aL iw dA;have bn:=aT.aC dA;have gI:=gU.aC dA;have bE:=aR.aC dA))
 cases hi4:bX [98,114,101,97,107] s with
 |true=>
  have HI4:=af hi4
  have HKK:=af (xz hi4 (by simp)).2.2
  simp only [hi4,Bool.true_or,Bool.or_true,if_true,Option.some.injEq,Prod.mk.injEq] at heq
  clear hi4
  by_cases ht:hdt s=[99,111,110,116,105,110,117,101]
  ·rw [if_pos ht] at heq
   obtain ⟨rfl,rfl⟩:=heq
   have cq:((bs (hd s.l).1.t).toList == [99,111,110,116,105,110,117,101])=true:=by rw [iC];simpa using ht
   clear ht
   go_wp2_with (first
    |((fail_if_success (have:=dZ));go_at_call 27;(with_reducible refine (au E _ s aB [98,114,101,97,107] ⟨#[98,114,101,97,107]⟩ rfl).mono ?_);rintro e w7 ⟨rfl,dZ⟩;rw [HI4.out];have o5:=bA lu dZ;have lV:=aL iX dZ;have bW:=bn.aC dZ;have jJ:=gI.aC dZ;obtain ⟨_,_,adP,_⟩:=jJ.jX;have dm:=bE.aC dZ;obtain ⟨_,Lx,_,_,_,_,_,_,Tp⟩:=dm.av;obtain ⟨jq,hjq,hjl,_,e1,_,_,_,_,_,_,_,ef⟩:=o5.here;have Am:=ef 1;have hll:=o5.len;have j0:(0:Int)<=(jq:Int):=(by omega);have j2:(jq:Int)<=8193:=(by omega);clear ef hjl hll;have wZ:RS E ((w7.setCell ⟨w2.heap.size,0,none⟩ (.int .i64 23)).setCell ⟨w2.heap.size,0,none⟩ (.int .i64 24)) s:=aB;have iY:=ic wZ HKK.out;have dN:Gr (·=E.b) w (((w7.setCell ⟨w2.heap.size,0,none⟩ (.int .i64 23)).setCell ⟨w2.heap.size,0,none⟩ (.int .i64 24)).setCell ⟨E.b,1,none⟩ (.int .i64 ((E.ts.length - s.l.length:Nat)+1:Int))):=vK aJ 1 _;rw [hjq] at iY dN;clear hjq wZ;have OU:ag ((w7.setCell ⟨w2.heap.size,0,none⟩ (.int .i64 23)).setCell ⟨w2.heap.size,0,none⟩ (.int .i64 24)) w2.heap.size 24 #[.int .i64 24,.int .i64 0,.int .i64 0,.string ⟨#[]⟩,.string ⟨#[]⟩,.int .i64 (hdp s),.slice none 0 0]:=ag.set0 (ag.set0 dm _) _)
    |((fail_if_success (have:=fK));go_at_call 25;(with_reducible refine (aA E _ s.tl aB [59] ⟨#[59]⟩ rfl).mono ?_);rintro e w8 ⟨rfl,tY,fK⟩;have qJ:=bP dN fK;have dK:=aD bW fK;obtain ⟨_,NZ,N8,N9,Oa,Ob,Oc,Od,Oe⟩:=dK.av;have ji:=aD jJ fK;have dV:=aD OU fK;obtain ⟨_,LA,Sy,Og,Sz,SA,SB,Dv,_⟩:=dV.av))
   exact aX Tryz.results99 rfl rfl dS ⟨aJ,aB,24,0,0,[],[],(hdp s),[],none,0,rfl,rfl,aI.nil _ _ 0⟩
  ·rw [if_neg ht] at heq
   obtain ⟨rfl,rfl⟩:=heq
   have cq:((bs (hd s.l).1.t).toList == [99,111,110,116,105,110,117,101])=false:=by rw [iC];simpa using ht
   clear ht
   go_wp2_with (first
    |((fail_if_success (have:=dZ));go_at_call 27;(with_reducible refine (au E _ s aB [98,114,101,97,107] ⟨#[98,114,101,97,107]⟩ rfl).mono ?_);rintro e w7 ⟨rfl,dZ⟩;rw [HI4.out];have o5:=bA lu dZ;have lV:=aL iX dZ;have bW:=bn.aC dZ;have jJ:=gI.aC dZ;obtain ⟨_,_,adP,_⟩:=jJ.jX;have dm:=bE.aC dZ;obtain ⟨_,Lx,_,_,_,_,_,_,Tp⟩:=dm.av;obtain ⟨jq,hjq,hjl,_,e1,_,_,_,_,_,_,_,ef⟩:=o5.here;have Am:=ef 1;have hll:=o5.len;have j0:(0:Int)<=(jq:Int):=(by omega);have j2:(jq:Int)<=8193:=(by omega);clear ef hjl hll;have wZ:RS E (w7.setCell ⟨w2.heap.size,0,none⟩ (.int .i64 23)) s:=aB;have iY:=ic wZ HKK.out;have dN:Gr (·=E.b) w ((w7.setCell ⟨w2.heap.size,0,none⟩ (.int .i64 23)).setCell ⟨E.b,1,none⟩ (.int .i64 ((E.ts.length - s.l.length:Nat)+1:Int))):=vK aJ 1 _;rw [hjq] at iY dN;clear hjq wZ;have OU:ag (w7.setCell ⟨w2.heap.size,0,none⟩ (.int .i64 23)) w2.heap.size 24 (N7 23 0 0 ⟨#[]⟩ ⟨#[]⟩ (hdp s) (.slice none 0 0)):=ag.set0 dm _)
    |((fail_if_success (have:=fK));go_at_call 25;(with_reducible refine (aA E _ s.tl aB [59] ⟨#[59]⟩ rfl).mono ?_);rintro e w8 ⟨rfl,tY,fK⟩;have qJ:=bP dN fK;have dK:=aD bW fK;obtain ⟨_,NZ,N8,N9,Oa,Ob,Oc,Od,Oe⟩:=dK.av;have ji:=aD jJ fK;have dV:=aD OU fK;obtain ⟨_,LA,Sy,Og,Sz,SA,SB,Dv,_⟩:=dV.av))
   exact aX Tryz.results99 rfl rfl dS ⟨aJ,aB,23,0,0,[],[],(hdp s),[],none,0,rfl,rfl,aI.nil _ _ 0⟩
 |false=>
 have HI4:=af hi4
 simp only [hi4,Bool.false_eq_true,if_false,Bool.false_or] at heq
 clear hi4
 go_wp2_with (first
  |((fail_if_success (have:=dZ));go_at_call 27;(with_reducible refine (au E _ s aB [98,114,101,97,107] ⟨#[98,114,101,97,107]⟩ rfl).mono ?_);rintro e w7 ⟨rfl,dZ⟩;rw [HI4.out];have o5:=bA lu dZ;have lV:=aL iX dZ;have bW:=bn.aC dZ;have jJ:=gI.aC dZ;have dm:=bE.aC dZ))
 cases hi5:bX [99,111,110,116,105,110,117,101] s with
 |true=>
  have Yl:=af hi5
  have HKK:=af (xz hi5 (by simp)).2.2
  simp only [hi5,Bool.true_or,Bool.or_true,if_true,Option.some.injEq,Prod.mk.injEq] at heq
  clear hi5
  by_cases ht:hdt s=[99,111,110,116,105,110,117,101]
  ·rw [if_pos ht] at heq
   obtain ⟨rfl,rfl⟩:=heq
   have cq:((bs (hd s.l).1.t).toList == [99,111,110,116,105,110,117,101])=true:=by rw [iC];simpa using ht
   clear ht
   go_wp2_with (first
    |((fail_if_success (have:=fK));go_at_call 27;(with_reducible refine (au E _ s aB [99,111,110,116,105,110,117,101] ⟨#[99,111,110,116,105,110,117,101]⟩ rfl).mono ?_);rintro e w8 ⟨rfl,fK⟩;rw [Yl.out];have tY:=bA o5 fK;have qJ:=aL lV fK;have dK:=bW.aC fK;have ji:=jJ.aC fK;obtain ⟨_,_,adQ,_⟩:=ji.jX;have dV:=dm.aC fK;obtain ⟨_,LA,_,_,_,_,_,_,Oj⟩:=dV.av;obtain ⟨jq,hjq,hjl,_,e1,_,_,_,_,_,_,_,ef⟩:=tY.here;have Am:=ef 1;have hll:=tY.len;have j0:(0:Int)<=(jq:Int):=(by omega);have j2:(jq:Int)<=8193:=(by omega);clear ef hjl hll;have wZ:RS E ((w8.setCell ⟨w2.heap.size,0,none⟩ (.int .i64 23)).setCell ⟨w2.heap.size,0,none⟩ (.int .i64 24)) s:=aB;have iY:=ic wZ HKK.out;have dN:Gr (·=E.b) w (((w8.setCell ⟨w2.heap.size,0,none⟩ (.int .i64 23)).setCell ⟨w2.heap.size,0,none⟩ (.int .i64 24)).setCell ⟨E.b,1,none⟩ (.int .i64 ((E.ts.length - s.l.length:Nat)+1:Int))):=vK aJ 1 _;rw [hjq] at iY dN;clear hjq wZ;have J2:ag ((w8.setCell ⟨w2.heap.size,0,none⟩ (.int .i64 23)).setCell ⟨w2.heap.size,0,none⟩ (.int .i64 24)) w2.heap.size 24 #[.int .i64 24,.int .i64 0,.int .i64 0,.string ⟨#[]⟩,.string ⟨#[]⟩,.int .i64 (hdp s),.slice none 0 0]:=ag.set0 (ag.set0 dV _) _)
    |((fail_if_success (have:=gP));go_at_call 25;(with_reducible refine (aA E _ s.tl aB [59] ⟨#[59]⟩ rfl).mono ?_);rintro e w9 ⟨rfl,yT,gP⟩;have wY:=bP dN gP;have gH:=aD dK gP;obtain ⟨_,SC,SE,SF,SG,SH,SI,SK,SL⟩:=gH.av;have mK:=aD ji gP;have jv:=aD J2 gP;obtain ⟨_,Oh,Vr,SN,Vs,Vt,Vu,Oi,_⟩:=jv.av))
   exact aX Tryz.results99 rfl rfl dS ⟨aJ,aB,24,0,0,[],[],(hdp s),[],none,0,rfl,rfl,aI.nil _ _ 0⟩
  ·rw [if_neg ht] at heq
   obtain ⟨rfl,rfl⟩:=heq
   have cq:((bs (hd s.l).1.t).toList == [99,111,110,116,105,110,117,101])=false:=by rw [iC];simpa using ht
   clear ht
   go_wp2_with (first
    |((fail_if_success (have:=fK));go_at_call 27;(with_reducible refine (au E _ s aB [99,111,110,116,105,110,117,101] ⟨#[99,111,110,116,105,110,117,101]⟩ rfl).mono ?_);rintro e w8 ⟨rfl,fK⟩;rw [Yl.out];have tY:=bA o5 fK;have qJ:=aL lV fK;have dK:=bW.aC fK;have ji:=jJ.aC fK;obtain ⟨_,_,adQ,_⟩:=ji.jX;have dV:=dm.aC fK;obtain ⟨_,LA,_,_,_,_,_,_,Oj⟩:=dV.av;obtain ⟨jq,hjq,hjl,_,e1,_,_,_,_,_,_,_,ef⟩:=tY.here;have Am:=ef 1;have hll:=tY.len;have j0:(0:Int)<=(jq:Int):=(by omega);have j2:(jq:Int)<=8193:=(by omega);clear ef hjl hll;have wZ:RS E (w8.setCell ⟨w2.heap.size,0,none⟩ (.int .i64 23)) s:=aB;have iY:=ic wZ HKK.out;have dN:Gr (·=E.b) w ((w8.setCell ⟨w2.heap.size,0,none⟩ (.int .i64 23)).setCell ⟨E.b,1,none⟩ (.int .i64 ((E.ts.length - s.l.length:Nat)+1:Int))):=vK aJ 1 _;rw [hjq] at iY dN;clear hjq wZ;have J2:ag (w8.setCell ⟨w2.heap.size,0,none⟩ (.int .i64 23)) w2.heap.size 24 (N7 23 0 0 ⟨#[]⟩ ⟨#[]⟩ (hdp s) (.slice none 0 0)):=ag.set0 dV _)
    |((fail_if_success (have:=gP));go_at_call 25;(with_reducible refine (aA E _ s.tl aB [59] ⟨#[59]⟩ rfl).mono ?_);rintro e w9 ⟨rfl,yT,gP⟩;have wY:=bP dN gP;have gH:=aD dK gP;obtain ⟨_,SC,SE,SF,SG,SH,SI,SK,SL⟩:=gH.av;have mK:=aD ji gP;have jv:=aD J2 gP;obtain ⟨_,Oh,Vr,SN,Vs,Vt,Vu,Oi,_⟩:=jv.av))
   exact aX Tryz.results99 rfl rfl dS ⟨aJ,aB,23,0,0,[],[],(hdp s),[],none,0,rfl,rfl,aI.nil _ _ 0⟩
 |false=>
 have Yl:=af hi5
 simp only [hi5,Bool.false_eq_true,if_false,Bool.false_or] at heq
 clear hi5
 go_wp2_with (first
  |((fail_if_success (have:=fK));go_at_call 27;(with_reducible refine (au E _ s aB [99,111,110,116,105,110,117,101] ⟨#[99,111,110,116,105,110,117,101]⟩ rfl).mono ?_);rintro e w8 ⟨rfl,fK⟩;rw [Yl.out];have tY:=bA o5 fK;have qJ:=aL lV fK;have dK:=bW.aC fK;have ji:=jJ.aC fK;have dV:=dm.aC fK))
 cases Td:bX [114,101,116,117,114,110] s with
 |true=>
  have ZX:=af Td
  simp only [Td,if_true] at heq
  clear Td
  cases hb:bX [59] (aj [114,101,116,117,114,110] s) with
  |true=>
  have HB:=af hb
  simp only [hb,if_true,Option.some.injEq,Prod.mk.injEq] at heq
  obtain ⟨rfl,rfl⟩:=heq
  clear hb
  go_wp2_with (first
   |((fail_if_success (have:=gP));go_at_call 27;(with_reducible refine (au E _ s aB [114,101,116,117,114,110] ⟨#[114,101,116,117,114,110]⟩ rfl).mono ?_);rintro e w9 ⟨rfl,gP⟩;rw [ZX.out];have yT:=bA tY gP;have wY:=aL qJ gP;have gH:=dK.aC gP;have mK:=ji.aC gP;have jv:=dV.aC gP;obtain ⟨_,Oh,_,_,_,_,_,_,YQ⟩:=jv.av;have OV:ag (w9.setCell ⟨w2.heap.size,0,none⟩ (.int .i64 25)) w2.heap.size 24 (N7 25 0 0 ⟨#[]⟩ ⟨#[]⟩ (hdp s) (.slice none 0 0)):=ag.set0 jv _)
   |((fail_if_success (have:=iM));go_at_call 25;(with_reducible refine (aA E _ s aB [114,101,116,117,114,110] ⟨#[114,101,116,117,114,110]⟩ rfl).mono ?_);rintro e kF ⟨rfl,gu,iM⟩;have jk:=bP wY iM;have dF:=aD gH iM;have mE:=aD mK iM;have dP:=aD OV iM)
   |((fail_if_success (have:=aV));go_at_call 27;(with_reducible refine (au E _ (aj [114,101,116,117,114,110] s) aB [59] ⟨#[59]⟩ rfl).mono ?_);rintro e bB ⟨rfl,aV⟩;rw [HB.out];have fM:RS E bB (aj [114,101,116,117,114,110] s):=RS.below aB aV;have gm:=aL jk aV;have bR:=dF.aC aV;have uG:=mE.aC aV;have bJ:=dP.aC aV)
   |((fail_if_success (have:=dH));go_at_call 25;(with_reducible refine (aA E _ (aj [114,101,116,117,114,110] s) aB [59] ⟨#[59]⟩ rfl).mono ?_);rintro e ek ⟨rfl,jY,dH⟩;have kK:=bP gm dH;have gT:=bR.call dH (by omega);obtain ⟨_,Iy,Iz,IA,IB,IC,IE,IG,II⟩:=gT.av;have J3:=uG.call dH (by omega);have ig:=bJ.call dH (by omega);obtain ⟨_,QW,QX,QY,QZ,Q0,Q3,IJ,_⟩:=ig.av))
  exact aX Tryz.results99 rfl rfl dS ⟨aJ,aB,25,0,0,[],[],(hdp s),[],none,0,rfl,rfl,aI.nil _ _ 0⟩
  |false=>
  have HB:=af hb
  simp only [hb,Bool.false_eq_true,if_false] at heq
  obtain ⟨x1,s1,h1,heq⟩:=bF heq
  simp only [Option.some.injEq,Prod.mk.injEq] at heq
  obtain ⟨rfl,rfl⟩:=heq
  have nK:=af (fun W hW=>Hn.expr E W _ 1 x1 s1 (by omega) (by omega) hW h1)
  clear hb h1
  go_wp2_with (first
   |((fail_if_success (have:=gP));go_at_call 27;(with_reducible refine (au E _ s aB [114,101,116,117,114,110] ⟨#[114,101,116,117,114,110]⟩ rfl).mono ?_);rintro e w9 ⟨rfl,gP⟩;rw [ZX.out];have yT:=bA tY gP;have wY:=aL qJ gP;have gH:=dK.aC gP;have mK:=ji.aC gP;have jv:=dV.aC gP;obtain ⟨_,Oh,_,_,_,_,_,_,YQ⟩:=jv.av;have OV:ag (w9.setCell ⟨w2.heap.size,0,none⟩ (.int .i64 25)) w2.heap.size 24 (N7 25 0 0 ⟨#[]⟩ ⟨#[]⟩ (hdp s) (.slice none 0 0)):=ag.set0 jv _)
   |((fail_if_success (have:=iM));go_at_call 25;(with_reducible refine (aA E _ s aB [114,101,116,117,114,110] ⟨#[114,101,116,117,114,110]⟩ rfl).mono ?_);rintro e kF ⟨rfl,gu,iM⟩;have jk:=bP wY iM;have dF:=aD gH iM;have mE:=aD mK iM;have dP:=aD OV iM)
   |((fail_if_success (have:=aV));go_at_call 27;(with_reducible refine (au E _ (aj [114,101,116,117,114,110] s) aB [59] ⟨#[59]⟩ rfl).mono ?_);rintro e bB ⟨rfl,aV⟩;rw [HB.out];have fM:RS E bB (aj [114,101,116,117,114,110] s):=RS.below aB aV;have gm:=aL jk aV;have Br:=fM.lt;have Dg:=fM.iy;have bR:=dF.aC aV;have uG:=mE.aC aV;have bJ:=dP.aC aV;have VI:=bJ.lt))
  have Ff:∀q,(fun q=>q<=w2.heap.size) q->q < bB.heap.size:=fun q hq=>by have:q<=w2.heap.size:=hq;omega
  have Fj:∀q,(Value.slice none 0 0).ownBlock=some q->w.heap.size<=q:=fun q e=>by cases e
  have dO:(fun q=>q<=w2.heap.size) w2.heap.size:=Nat.le_refl _
  have cB:(fun q=>q<=w2.heap.size) w.heap.size:=by show w.heap.size<=w2.heap.size;omega
  have ve:(fun q=>q<=w2.heap.size) w1.heap.size:=by show w1.heap.size<=w2.heap.size;omega
  have fT:w2.heap.size≠E.b:=by omega
  have kG:w2.heap.size≠E.g:=by omega
  have bZ:ah bB E.L (fun q=>q<=w2.heap.size) (.slice none 0 0) ([]:List Tr):=ah.none_ _ _ _
  obtain ⟨_,_,_,_,_,_,_,xL,VJ⟩:=bJ.av
  refine dD E.b E.L w2.heap.size (.pointer (some ⟨E.b,0,none⟩)) 80 #[.pointer (some ⟨E.b,0,none⟩),.int .i64 1] (fun _=>False) (fun t W=>t=x1/\RS E W s1) (bZ.x dO) bZ Ff xL (VJ 6) E.bL bJ.lt fM.L fT (by simp [cK]) (fun t=>bD E _ _ _ (by omega) (by omega) t) (fun t=>bD E _ _ _ E.bL E.gL t) ((nK.out bB.drew fM.drew).mono fun e w' h=>fH h) ?_ ?_
  ·rintro a w' c _ nL _
   exact absurd nL id
  rintro vals w' vC c12 u12 ⟨Ox,qx⟩ _ hpx hgx eB hgo
  obtain rfl:=Ox.symm
  obtain ⟨ek,hW⟩:=aS (w'.setCell ⟨w2.heap.size,6,none⟩ (.slice vC (([]:List Tr).length+1) c12))
  have hsx:=eB.size
  have jY:RS E ek s1:=hW▸qx.setCell (p:=⟨w2.heap.size,6,none⟩) fT kG _
  have kK:Gr (·=E.b) w ek:=hW▸Gr.setCell (p:=⟨w2.heap.size,6,none⟩) (jD gm eB Fj) (.inl (by show w.heap.size<=w2.heap.size;omega)) _
  have Dh:∀q,(Value.slice vC (([]:List Tr).length+1) c12).ownBlock=some q->w.heap.size<=q:=fun q hq=>(hgo q hq).elim (Fj q) (fun h=>by have:=gm.size;omega)
  have ig:ag ek w2.heap.size 24 (N7 25 0 0 ⟨#[]⟩ ⟨#[]⟩ (hdp s) (.slice vC (([]:List Tr).length+1) c12)):=hW▸ag.jC (ag.wx bJ eB fT (fun e=>bZ.1 _ e dO)) _
  have gT:ag ek w.heap.size 24 Z7:=hW▸ag.far (ag.wx bR eB (by omega) (fun e=>bZ.1 _ e cB)) (by show w.heap.size≠w2.heap.size;omega) _
  have J3:ag ek w1.heap.size 53 (T4 ((hd s.l).1.k) (bs (hd s.l).1.t) ((hd s.l).1.n) ((hd s.l).2)):=hW▸ag.far (ag.wx uG eB (by omega) (fun e=>bZ.1 _ e ve)) (by show w1.heap.size≠w2.heap.size;omega) _
  have jO:ah ek E.L (fun q=>q<=w2.heap.size) (.slice vC (([]:List Tr).length+1) c12) (([]:List Tr) ++ [x1]):=hW▸hpx.setCell (p:=⟨w2.heap.size,6,none⟩) (.inr dO) _
  have xQ:bB.heap.size<=ek.heap.size:=hW▸(by simpa using hsx)
  rw [hW]
  clear hW qx hpx hgx eB hgo hsx
  obtain ⟨kb,hkb⟩:=aS (([]:List Tr) ++ [x1])
  have eF:kb.length=([]:List Tr).length+1:=by rw [<-hkb,List.length_append];rfl
  rw [hkb,<-eF] at jO
  rw [<-eF] at ig
  try rw [<-eF] at Dh
  have nZ:=af hkb
  clear eF hkb
  go_wp2_with (first
   |((fail_if_success (have:=gz));go_at_call 25;(with_reducible refine (aA E _ s1 aB [59] ⟨#[59]⟩ rfl).mono ?_);rintro e iP ⟨rfl,mW,gz⟩;have pz:=bP kK gz;have oK:=aD gT gz;obtain ⟨_,aiX,aiY,aiZ,ai0,ai1,ai2,ai3,ai4⟩:=oK.av;have abY:=aD J3 gz;have fO:ag iP w2.heap.size 24 (N7 25 0 0 ⟨#[]⟩ ⟨#[]⟩ (hdp s) (.slice vC kb.length c12)):=bU gz;obtain ⟨_,ai5,ai6,ai7,ai8,ai9,aja,Md,_⟩:=fO.av;have iH:ah iP E.L (fun q=>q<=w2.heap.size) (.slice vC kb.length c12) kb:=vJ gz))
  exact aX Tryz.results99 rfl rfl dS ⟨aJ,aB,25,0,0,[],[],(hdp s),kb,vC,c12,(by rw [<-nZ.out];rfl),rfl,(ah.up (lo:=E.L) (X:=(fun q=>q<=w2.heap.size)) (v:=.slice vC kb.length c12) (ks:=kb) uu (fun q hq=>by have:¬q<=w2.heap.size:=hq;omega))⟩
 |false=>
 have ZX:=af Td
 simp only [Td,Bool.false_eq_true,if_false,Bool.false_or] at heq
 clear Td
 go_wp2_with (first
  |((fail_if_success (have:=gP));go_at_call 27;(with_reducible refine (au E _ s aB [114,101,116,117,114,110] ⟨#[114,101,116,117,114,110]⟩ rfl).mono ?_);rintro e w9 ⟨rfl,gP⟩;rw [ZX.out];have yT:=bA tY gP;have wY:=aL qJ gP;have gH:=dK.aC gP;have adS:=gH.lt;have mK:=ji.aC gP;have jv:=dV.aC gP))
 have nK:=af (fun W hW=>Hn.simple E W _ tr s' hW heq)
 clear heq
 go_wp2_with (first
  |((fail_if_success (have:=iM));go_at_call 119;(with_reducible refine (nK.out _ aB).mono ?_);rintro e kF ⟨iM,gu,k10,OM,m10,p10,t10,a10,uY,Ov,c10,rfl,rfl,VR⟩;have jk:=bP wY iM;have dF:=gH.call iM (by omega);obtain ⟨_,LX,LY,LZ,L6,L8,L9,Ma,Mc⟩:=dF.av;have mE:=mK.call iM (by omega);have dP:=jv.call iM (by omega);have abU:=VR.mono (lo':=w9.heap.size) (by simp)))
 exact aX Tryz.results99 rfl rfl dS ⟨aJ,aB,k10,OM,m10,p10,t10,a10,uY,Ov,c10,rfl,rfl,aI.mono (lo:=w9.heap.size) (v:=.slice Ov uY.length c10) (ks:=uY) nS (by omega)⟩
abbrev VV:Prop:=∀(E:Env) (w:World) (s:St),RS E w s->Calls Tryz.prog 49 #[.pointer (some ⟨E.b,0,none⟩)] w (wH E w w.heap.size (lq s).1 (lq s).2)
theorem Tv (n:Nat) (hn:n+10<=cK) (H:∀m,m<=n->qQ m) (hc:VV):CM (n+1) 28 .decl:=by
 intro E w s tr s' h heq
 have hlt:=h.lt
 have hgt:=h.iy
 have Hn:=H n (Nat.le_refl _)
 have hR0:=h
 have HC:=af hc
 clear hc
 simp only [m5] at heq
 cases hi0:bX [99,111,110,115,116] s with
 |true=>
  have HI0:=af hi0
  simp only [hi0,if_true] at heq
  simp only [Option.some.injEq] at heq
  obtain ⟨rfl,rfl⟩:(lq s).1=tr/\(lq s).2=s':=by rw [heq];exact ⟨rfl,rfl⟩
  clear hi0 heq
  go_enter Tryz.func28,Tryz.ntmps28
  go_wp2_with (first
   |(go_at_call 27;(with_reducible refine (au E _ s aB [99,111,110,115,116] ⟨#[99,111,110,115,116]⟩ rfl).mono ?_);rintro e w1 ⟨rfl,hg1⟩;rw [HI0.out];have fB:RS E w1 s:=RS.below aB hg1;have hG1:=gX E.b w hg1;have hs1:=hg1.size;(try simp at hs1);have az:ag w1 w.heap.size 24 Z7:=ag.aC bz hg1)
   |(go_at_call 49;(with_reducible refine (HC.out E _ s aB).mono ?_);rintro e w2 ⟨hg2,hR2,k2,kJ,m2,p2,t2,a2,bN,A2,c2,ht2,rfl,hk_2⟩;have HT2:=af ht2;clear ht2;have hG2:=bP hG1 hg2;have ax:=az.call hg2 (by omega);obtain ⟨_,lJ,lK,lM,lN,lQ,lS,lT,lU⟩:=ax.av;have ajb:=hk_2.mono (lo':=w1.heap.size) (by simp)))
  exact aX Tryz.results28 rfl rfl dS ⟨aJ,aB,k2,kJ,m2,p2,t2,a2,bN,A2,c2,HT2.out,rfl,aI.mono (lo:=w1.heap.size) (v:=.slice A2 bN.length c2) (ks:=bN) nS (by omega)⟩
 |false=>
 have HI0:=af hi0
 simp only [hi0,Bool.false_eq_true,if_false] at heq
 clear hi0
 cases hi1:bX [118,97,114] s with
 |true=>
  have HI1:=af hi1
  simp only [hi1,if_true] at heq
  have nK:=af (fun W hW=>Hn.dh E W _ tr s' hW heq)
  clear hi1 heq
  go_enter Tryz.func28,Tryz.ntmps28
  go_wp2_with (first
   |(go_at_call 27;(with_reducible refine (au E _ s aB [99,111,110,115,116] ⟨#[99,111,110,115,116]⟩ rfl).mono ?_);rintro e w1 ⟨rfl,hg1⟩;rw [HI0.out];have fB:RS E w1 s:=RS.below aB hg1;have hG1:=gX E.b w hg1;have az:ag w1 w.heap.size 24 Z7:=ag.aC bz hg1)
   |(go_at_call 27;(with_reducible refine (au E _ s aB [118,97,114] ⟨#[118,97,114]⟩ rfl).mono ?_);rintro e w2 ⟨rfl,hg2⟩;rw [HI1.out];have hR2:=bA fB hg2;have hG2:=aL hG1 hg2;have ax:=az.aC hg2;have jT:=ax.lt)
   |(go_at_call 50;(with_reducible refine (nK.out _ aB).mono ?_);rintro e w3 ⟨hg3,gZ,k3,ng,m3,p3,t3,a3,kC,A3,c3,rfl,rfl,OD⟩;have hG3:=bP hG2 hg3;have aF:=ax.call hg3 (by omega);obtain ⟨_,vM,wQ,wR,wS,wT,wU,wV,vN⟩:=aF.av;have adM:=OD.mono (lo':=w2.heap.size) (by simp)))
  exact aX Tryz.results28 rfl rfl dS ⟨aJ,aB,k3,ng,m3,p3,t3,a3,kC,A3,c3,rfl,rfl,aI.mono (lo:=w2.heap.size) (v:=.slice A3 kC.length c3) (ks:=kC) nS (by omega)⟩
 |false=>
 have HI1:=af hi1
 simp only [hi1,Bool.false_eq_true,if_false] at heq
 clear hi1
 cases hi2:bX [116,121,112,101] s with
 |true=>
  have HI2:=af hi2
  simp only [hi2,if_true] at heq
  have nK:=af (fun W hW=>Hn.typed E W _ tr s' hW heq)
  clear hi2 heq
  go_enter Tryz.func28,Tryz.ntmps28
  go_wp2_with (first
   |(go_at_call 27;(with_reducible refine (au E _ s aB [99,111,110,115,116] ⟨#[99,111,110,115,116]⟩ rfl).mono ?_);rintro e w1 ⟨rfl,hg1⟩;rw [HI0.out];have fB:RS E w1 s:=RS.below aB hg1;have hG1:=gX E.b w hg1;have az:ag w1 w.heap.size 24 Z7:=ag.aC bz hg1)
   |(go_at_call 27;(with_reducible refine (au E _ s aB [118,97,114] ⟨#[118,97,114]⟩ rfl).mono ?_);rintro e w2 ⟨rfl,hg2⟩;rw [HI1.out];have hR2:=bA fB hg2;have hG2:=aL hG1 hg2;have ax:=az.aC hg2)
   |(go_at_call 27;(with_reducible refine (au E _ s aB [116,121,112,101] ⟨#[116,121,112,101]⟩ rfl).mono ?_);rintro e w3 ⟨rfl,hg3⟩;rw [HI2.out];have gZ:=bA hR2 hg3;have hG3:=aL hG2 hg3;have aF:=ax.aC hg3;have uX:=aF.lt)
   |(go_at_call 51;(with_reducible refine (nK.out _ aB).mono ?_);rintro e w4 ⟨hg4,jb,k4,Cn,m4,p4,t4,a4,BQ,A4,c4,rfl,rfl,OI⟩;have hG4:=bP hG3 hg4;have aK:=aF.call hg4 (by omega);obtain ⟨_,wO,xC,xD,xE,xG,xH,xI,wP⟩:=aK.av;have VL:=OI.mono (lo':=w3.heap.size) (by simp)))
  exact aX Tryz.results28 rfl rfl dS ⟨aJ,aB,k4,Cn,m4,p4,t4,a4,BQ,A4,c4,rfl,rfl,aI.mono (lo:=w3.heap.size) (v:=.slice A4 BQ.length c4) (ks:=BQ) nS (by omega)⟩
 |false=>
 have HI2:=af hi2
 simp only [hi2,Bool.false_eq_true,if_false] at heq
 clear hi2
 cases hi3:bX [102,117,110,99] s with
 |true=>
  have HI3:=af hi3
  simp only [hi3,if_true] at heq
  have nK:=af (fun W hW=>Hn.function E W _ tr s' hW heq)
  clear hi3 heq
  go_enter Tryz.func28,Tryz.ntmps28
  go_wp2_with (first
   |(go_at_call 27;(with_reducible refine (au E _ s aB [99,111,110,115,116] ⟨#[99,111,110,115,116]⟩ rfl).mono ?_);rintro e w1 ⟨rfl,hg1⟩;rw [HI0.out];have fB:RS E w1 s:=RS.below aB hg1;have hG1:=gX E.b w hg1;have az:ag w1 w.heap.size 24 Z7:=ag.aC bz hg1)
   |(go_at_call 27;(with_reducible refine (au E _ s aB [118,97,114] ⟨#[118,97,114]⟩ rfl).mono ?_);rintro e w2 ⟨rfl,hg2⟩;rw [HI1.out];have hR2:=bA fB hg2;have hG2:=aL hG1 hg2;have ax:=az.aC hg2)
   |(go_at_call 27;(with_reducible refine (au E _ s aB [116,121,112,101] ⟨#[116,121,112,101]⟩ rfl).mono ?_);rintro e w3 ⟨rfl,hg3⟩;rw [HI2.out];have gZ:=bA hR2 hg3;have hG3:=aL hG2 hg3;have aF:=ax.aC hg3)
   |(go_at_call 27;(with_reducible refine (au E _ s aB [102,117,110,99] ⟨#[102,117,110,99]⟩ rfl).mono ?_);rintro e w4 ⟨rfl,hg4⟩;rw [HI3.out];have jb:=bA gZ hg4;have hG4:=aL hG3 hg4;have aK:=aF.aC hg4;have Fb:=aK.lt)
   |(go_at_call 52;(with_reducible refine (nK.out _ aB).mono ?_);rintro e w5 ⟨hg5,jF,k5,Dx,m5,p5,t5,a5,tX,A5,c5,rfl,rfl,abX⟩;have iw:=bP hG4 hg5;have aT:=aK.call hg5 (by omega);obtain ⟨_,DD,DF,DI,DJ,DK,DL,DN,DR⟩:=aT.av;have adV:=abX.mono (lo':=w4.heap.size) (by simp)))
  exact aX Tryz.results28 rfl rfl dS ⟨aJ,aB,k5,Dx,m5,p5,t5,a5,tX,A5,c5,rfl,rfl,aI.mono (lo:=w4.heap.size) (v:=.slice A5 tX.length c5) (ks:=tX) nS (by omega)⟩
 |false=>
 have HI3:=af hi3
 simp only [hi3,Bool.false_eq_true,if_false] at heq
 clear hi3
 simp only [Option.some.injEq,Prod.mk.injEq] at heq
 obtain ⟨rfl,rfl⟩:=heq
 go_enter Tryz.func28,Tryz.ntmps28
 go_wp2_with (first
  |(go_at_call 27;(with_reducible refine (au E _ s aB [99,111,110,115,116] ⟨#[99,111,110,115,116]⟩ rfl).mono ?_);rintro e w1 ⟨rfl,hg1⟩;rw [HI0.out];have fB:RS E w1 s:=RS.below aB hg1;have hG1:=gX E.b w hg1;have az:ag w1 w.heap.size 24 Z7:=ag.aC bz hg1)
  |(go_at_call 27;(with_reducible refine (au E _ s aB [118,97,114] ⟨#[118,97,114]⟩ rfl).mono ?_);rintro e w2 ⟨rfl,hg2⟩;rw [HI1.out];have hR2:=bA fB hg2;have hG2:=aL hG1 hg2;have ax:=az.aC hg2)
  |(go_at_call 27;(with_reducible refine (au E _ s aB [116,121,112,101] ⟨#[116,121,112,101]⟩ rfl).mono ?_);rintro e w3 ⟨rfl,hg3⟩;rw [HI2.out];have gZ:=bA hR2 hg3;have hG3:=aL hG2 hg3;have aF:=ax.aC hg3)
  |(go_at_call 27;(with_reducible refine (au E _ s aB [102,117,110,99] ⟨#[102,117,110,99]⟩ rfl).mono ?_);rintro e w4 ⟨rfl,hg4⟩;rw [HI3.out];have jb:=bA gZ hg4;have hG4:=aL hG3 hg4;have aK:=aF.aC hg4)
  |(go_at_call 47;(with_reducible refine (kV E _ s aB 5).mono ?_);rintro e w5 ⟨rfl,jF,hg5⟩;have iw:=bP hG4 hg5;have aT:=aK.call hg5 (by omega);obtain ⟨_,DD,DF,DI,DJ,DK,DL,DN,DR⟩:=aT.av))
 exact aX Tryz.results28 rfl rfl dS ⟨aJ,aB,0,0,0,[],[],0,[],none,0,rfl,rfl,aI.nil _ _ 0⟩
theorem Bu (w:World) (v0 v1 v2 v3 v4 v5 v6:Value):Below w.heap.size w ((((((((w.drew.alloc (.cells #[.int .i64 0,.int .i64 0,.int .i64 0,.string ⟨#[]⟩,.string ⟨#[]⟩,.int .i64 0,.slice none 0 0] 24)).setCell ⟨w.heap.size,0,none⟩ v0).setCell ⟨w.heap.size,1,none⟩ v1).setCell ⟨w.heap.size,2,none⟩ v2).setCell ⟨w.heap.size,3,none⟩ v3).setCell ⟨w.heap.size,4,none⟩ v4).setCell ⟨w.heap.size,5,none⟩ v5).setCell ⟨w.heap.size,6,none⟩ v6):=
 ((((((((Below.refl _ w).drew.alloc (Nat.le_refl _) _).setCell (p:=⟨w.heap.size,0,none⟩) (Nat.le_refl _) v0).setCell (p:=⟨w.heap.size,1,none⟩) (Nat.le_refl _) v1).setCell (p:=⟨w.heap.size,2,none⟩) (Nat.le_refl _) v2).setCell (p:=⟨w.heap.size,3,none⟩) (Nat.le_refl _) v3).setCell (p:=⟨w.heap.size,4,none⟩) (Nat.le_refl _) v4).setCell (p:=⟨w.heap.size,5,none⟩) (Nat.le_refl _) v5).setCell (p:=⟨w.heap.size,6,none⟩) (Nat.le_refl _) v6
theorem Bv (w:World) (v0 v1 v2 v3 v4 v5 v6:Value):ag ((((((((w.drew.alloc (.cells #[.int .i64 0,.int .i64 0,.int .i64 0,.string ⟨#[]⟩,.string ⟨#[]⟩,.int .i64 0,.slice none 0 0] 24)).setCell ⟨w.heap.size,0,none⟩ v0).setCell ⟨w.heap.size,1,none⟩ v1).setCell ⟨w.heap.size,2,none⟩ v2).setCell ⟨w.heap.size,3,none⟩ v3).setCell ⟨w.heap.size,4,none⟩ v4).setCell ⟨w.heap.size,5,none⟩ v5).setCell ⟨w.heap.size,6,none⟩ v6) w.heap.size 24 #[v0,v1,v2,v3,v4,v5,v6]:=
 ag.seven (ag.new w.drew _ _) v0 v1 v2 v3 v4 v5 v6
theorem ag.set1 {w:World} {g:Nat} {t:TypeId} {u0 u1 u2 u3 u4 u5 u6:Value} (h:ag w g t #[u0,u1,u2,u3,u4,u5,u6]) (v:Value):ag (w.setCell ⟨g,1,none⟩ v) g t #[u0,v,u2,u3,u4,u5,u6]:=by
 have:=h.ny 1 v
 simpa using this
theorem OW (n:Nat) (hn:n+10<=cK) (H:∀m,m<=n->qQ m):CM (n+1) 95 .unary:=by
 intro E w s tr s' h heq
 have hlt:=h.lt
 have hgt:=h.iy
 have hEL:=h.L
 have Hn:=H n (Nat.le_refl _)
 have hR0:=h
 simp only [m5] at heq
 by_cases he:s.e=0
 case neg=>
  have e1:(s.e != 0)=true:=by simpa using he
  simp only [he,if_false,Option.some.injEq,Prod.mk.injEq] at heq
  obtain ⟨rfl,rfl⟩:=heq
  obtain ⟨_,_,_,_,_,_,e3,_,_,_,_,_,_⟩:=h.here
  clear he
  go_enter Tryz.func95,Tryz.ntmps95
  go_wp2
  exact aX Tryz.results95 rfl rfl (ag.new _ _ _) ⟨aJ,aB,0,0,0,[],[],0,[],none,0,rfl,rfl,aI.nil _ _ 0⟩
 have HE:=af he
 simp only [he,if_true] at heq
 clear he
 cases hi0:bX [45] s with
 |true=>
  have HI0:=af hi0
  have HKK:=af (xz hi0 (by simp)).2.2
  simp only [hi0,if_true] at heq
  obtain ⟨x1,s1,h1,heq⟩:=bF heq
  simp only [Option.some.injEq,Prod.mk.injEq] at heq
  obtain ⟨rfl,rfl⟩:=heq
  have nK:=af (fun W hW=>Hn.unary E W _ x1 s1 hW h1)
  clear hi0 h1
  go_enter Tryz.func95,Tryz.ntmps95
  obtain ⟨_,_,_,_,_,_,e3,_,_,_,_,_,_⟩:=h.here
  rw [HE.out] at e3
  go_wp2
  refine nG (P:=fun W=>RS E W s/\Gr (·=E.b) w W/\ag W w.heap.size 24 Z7/\w.heap.size+1<=W.heap.size) ⟨aB,aJ,bz,(by first|(simp;done)|(simp;omega))⟩ ?_
  rintro w1 ⟨fB,hG1,az,hs1⟩
  have kW:=fB.lt
  have oP:=fB.iy
  clear e3
  obtain ⟨j,hj,hjl,k0,k1,k2,k3,k4,q0,q1,q2,q3,fz⟩:=fB.here
  have hlt:=fB.lt
  have hgl:=fB.iy
  have hll:=fB.len
  have hne:=fB.ne
  clear fz hj
  obtain ⟨B,hB⟩:=aS E.b
  obtain ⟨G,hG⟩:=aS E.g
  obtain ⟨N,hN⟩:=aS E.ts.length
  obtain ⟨C,hC⟩:=aS E.c
  obtain ⟨so,hso⟩:=aS s.o
  obtain ⟨se,hse⟩:=aS s.e
  obtain ⟨sp,hsp⟩:=aS s.p
  obtain ⟨tk,htk⟩:=aS (hd s.l).1.k
  obtain ⟨tt,rP⟩:=aS (hd s.l).1.t
  obtain ⟨tn,htn⟩:=aS (hd s.l).1.n
  obtain ⟨tp,htp⟩:=aS (hd s.l).2
  rw [hB] at k0 k1 k2 k3 k4 hlt
  rw [hG,hN,hC] at k0
  rw [hso] at k2
  rw [hse] at k3
  rw [hsp] at k4
  rw [hG,htk] at q0
  rw [hG,rP] at q1
  rw [hG,htn] at q2
  rw [hG,htp] at q3
  rw [hG] at hgl
  rw [hN] at hjl hll
  rw [hG,hB] at hne
  have j0:(0:Int)<=(j:Int):=by omega
  have j1:(j:Int) < (N:Int):=by omega
  have j2:(j:Int)<=8193:=by omega
  have GI:=af htp
  have LW:=af hB
  rw [hB]
  clear hB hG hN hC hso hse hsp htk rP htn htp
  refine wp_region_held_drew (S:=fun V=>Below w1.heap.size w1 V) (by kernel_rfl) (Below.refl _ w1).drew (fun hS0=>?_)
  refine aQ 0 hS0 ?_
  refine aQ 1 hS0 ?_
  refine aQ 2 hS0 ?_
  refine jS 3 hS0 ?_ (fun w' hS=>(hS.cell (p:=⟨B,0,none⟩) hlt).trans k0)
  refine aQ 4 hS0 ?_
  refine aQ 5 hS0 ?_
  refine aQ 6 hS0 ?_
  refine jS 7 hS0 ?_ (fun w' hS=>(hS.cell (p:=⟨B,1,none⟩) hlt).trans k1)
  refine aQ 8 hS0 ?_
  refine aQ 9 hS0 ?_
  refine jS 10 hS0 ?_ (fun w' hS=>(hS.cell (p:=⟨G,_,none⟩) hgl).trans q3)
  refine aQ 11 hS0 ?_
  refine oI 12 rfl (aY (v:=.pointer (some ⟨w1.heap.size,0,none⟩)) (w':=(w1.drew.alloc (.cells #[.int .i64 0,.int .i64 0,.int .i64 0,.string ⟨#[]⟩,.string ⟨#[]⟩,.int .i64 0,.slice none 0 0] 24))) (by unfold execOp;go_simp) (And.intro ((Below.refl _ w1).drew.alloc (by simp) _) ?_))
  simp only [Act.put,gA,gB,gC,gD,gE,gF]
  obtain ⟨w2,qg⟩:=aS ((((((((w1.drew.alloc (.cells #[.int .i64 0,.int .i64 0,.int .i64 0,.string ⟨#[]⟩,.string ⟨#[]⟩,.int .i64 0,.slice none 0 0] 24)).setCell ⟨w1.heap.size,0,none⟩ (.int .i64 32)).setCell ⟨w1.heap.size,1,none⟩ (.int .i64 0)).setCell ⟨w1.heap.size,2,none⟩ (.int .i64 0)).setCell ⟨w1.heap.size,3,none⟩ (.string ⟨#[]⟩)).setCell ⟨w1.heap.size,4,none⟩ (.string ⟨#[]⟩)).setCell ⟨w1.heap.size,5,none⟩ (.int .i64 tp)).setCell ⟨w1.heap.size,6,none⟩ (.slice none 0 0))
  have hbw2:Below w1.heap.size w1 w2:=qg▸Bu w1 (.int .i64 32) (.int .i64 0) (.int .i64 0) (.string ⟨#[]⟩) (.string ⟨#[]⟩) (.int .i64 tp) (.slice none 0 0)
  have zS:ag w2 w1.heap.size 24 (N7 32 0 0 ⟨#[]⟩ ⟨#[]⟩ tp (.slice none 0 0)):=qg▸Bv w1 (.int .i64 32) (.int .i64 0) (.int .i64 0) (.string ⟨#[]⟩) (.string ⟨#[]⟩) (.int .i64 tp) (.slice none 0 0)
  refine oI 13 rfl (mU (w':=w2) (by rw [<-qg];unfold execOp;go_simp) (And.intro hbw2 ?_))
  simp only [Act.put,gA,gB,gC,gD,gE,gF]
  refine eZ ?_
  clear qg hS0 k0 k1 k2 k3 k4 q0 q1 q2 q3 j0 j1 j2 hjl hll hne hlt hgl
  rw [<-GI.out] at zS
  rw [<-LW.out]
  have hR2:RS E w2 s:=fB.below hbw2
  have hG2:Gr (·=E.b) w w2:=Gr.trans hG1 (Gr.of_below hbw2)
  have bq:ag w2 w1.heap.size 24 (N7 32 0 0 ⟨#[]⟩ ⟨#[]⟩ ((hd s.l).2) (.slice none 0 0)):=zS
  have ax:ag w2 w.heap.size 24 Z7:=ag.aC az hbw2
  clear zS hbw2
  go_wp2_with (first
   |(go_at_call 27;(with_reducible refine (au E _ s aB [45] ⟨#[45]⟩ rfl).mono ?_);rintro e w3 ⟨rfl,hg3⟩;rw [HI0.out];have gZ:=bA hR2 hg3;have hG3:=aL hG2 hg3;have aF:=bV ax hg3;have aM:=bV bq hg3;obtain ⟨_,_,Jr,_,_,_,_,_,pg⟩:=aM.av;obtain ⟨jq,hjq,hjl,_,e1,_,_,_,_,_,_,_,ef⟩:=gZ.here;have Am:=ef 1;have hll:=gZ.len;have j0:(0:Int)<=(jq:Int):=(by omega);have j2:(jq:Int)<=8193:=(by omega);clear ef hjl hll;have wZ:RS E (w3.setCell ⟨w1.heap.size,1,none⟩ (.int .i64 1)) s:=aB;have iY:=ic wZ HKK.out;have dN:Gr (·=E.b) w ((w3.setCell ⟨w1.heap.size,1,none⟩ (.int .i64 1)).setCell ⟨E.b,1,none⟩ (.int .i64 ((E.ts.length - s.l.length:Nat)+1:Int))):=vK aJ 1 _;rw [hjq] at iY dN;clear hjq wZ;have uF:ag (w3.setCell ⟨w1.heap.size,1,none⟩ (.int .i64 1)) w1.heap.size 24 (N7 32 1 0 ⟨#[]⟩ ⟨#[]⟩ (hdp s) (.slice none 0 0)):=ag.set1 aM _))
  refine nG (P:=fun W=>RS E W s.tl/\Gr (·=E.b) w W/\ag W w.heap.size 24 Z7/\ag W w1.heap.size 24 (N7 32 1 0 ⟨#[]⟩ ⟨#[]⟩ (hdp s) (.slice none 0 0))/\w3.heap.size+0<=W.heap.size) ⟨aB,aJ,bz,bz,(by first|(simp;done)|(simp;omega))⟩ ?_
  rintro w4 ⟨jb,hG4,aK,aW,_⟩
  have LM:=jb.lt
  have JK:=jb.iy
  have Q4:=aW.lt
  have Fu:∀q,(fun q=>q<=w1.heap.size) q->q < w4.heap.size:=fun q hq=>by have:q<=w1.heap.size:=hq;omega
  have GX:∀q,(Value.slice none 0 0).ownBlock=some q->w.heap.size<=q:=fun q e=>by cases e
  have dO:(fun q=>q<=w1.heap.size) w1.heap.size:=Nat.le_refl _
  have cB:(fun q=>q<=w1.heap.size) w.heap.size:=by show w.heap.size<=w1.heap.size;omega
  have fT:w1.heap.size≠E.b:=by omega
  have kG:w1.heap.size≠E.g:=by omega
  have lG:ah w4 E.L (fun q=>q<=w1.heap.size) (.slice none 0 0) ([]:List Tr):=ah.none_ _ _ _
  obtain ⟨_,_,_,_,_,_,_,xJ,Dq⟩:=aW.av
  refine dD E.b E.L w1.heap.size (.pointer (some ⟨E.b,0,none⟩)) 95 #[.pointer (some ⟨E.b,0,none⟩)] (fun _=>False) (fun t W=>t=x1/\RS E W s1) (lG.x dO) lG Fu xJ (Dq 6) E.bL aW.lt jb.L fT (by simp [cK]) (fun t=>bD E _ _ _ (by omega) (by omega) t) (fun t=>bD E _ _ _ E.bL E.gL t) ((nK.out w4.drew jb.drew).mono fun e w' h=>fH h) ?_ ?_
  ·rintro a w' c _ nL _
   exact absurd nL id
  rintro vals w' A5 c5 u5 ⟨hu5,qx⟩ _ hpx hgx eB hgo
  obtain rfl:=hu5.symm
  obtain ⟨w5,hW⟩:=aS (w'.setCell ⟨w1.heap.size,6,none⟩ (.slice A5 (([]:List Tr).length+1) c5))
  have hsx:=eB.size
  have jF:RS E w5 s1:=hW▸qx.setCell (p:=⟨w1.heap.size,6,none⟩) fT kG _
  have iw:Gr (·=E.b) w w5:=hW▸Gr.setCell (p:=⟨w1.heap.size,6,none⟩) (jD hG4 eB GX) (.inl (by show w.heap.size<=w1.heap.size;omega)) _
  have DU:∀q,(Value.slice A5 (([]:List Tr).length+1) c5).ownBlock=some q->w.heap.size<=q:=fun q hq=>(hgo q hq).elim (GX q) (fun h=>by have:=hG4.size;omega)
  have aR:ag w5 w1.heap.size 24 (N7 32 1 0 ⟨#[]⟩ ⟨#[]⟩ (hdp s) (.slice A5 (([]:List Tr).length+1) c5)):=hW▸ag.jC (ag.wx aW eB fT (fun e=>lG.1 _ e dO)) _
  have aT:ag w5 w.heap.size 24 Z7:=hW▸ag.far (ag.wx aK eB (by omega) (fun e=>lG.1 _ e cB)) (by show w.heap.size≠w1.heap.size;omega) _
  have jg:ah w5 E.L (fun q=>q<=w1.heap.size) (.slice A5 (([]:List Tr).length+1) c5) (([]:List Tr) ++ [x1]):=hW▸hpx.setCell (p:=⟨w1.heap.size,6,none⟩) (.inr dO) _
  rw [hW]
  clear hW qx hpx hgx eB hgo hsx
  obtain ⟨kb,hkb⟩:=aS (([]:List Tr) ++ [x1])
  have eF:kb.length=([]:List Tr).length+1:=by rw [<-hkb,List.length_append];rfl
  rw [hkb,<-eF] at jg
  rw [<-eF] at aR
  try rw [<-eF] at DU
  have nZ:=af hkb
  clear eF hkb
  obtain ⟨_,LB,Ti,GU,Tj,Tm,Tn,yR,_⟩:=aR.av
  obtain ⟨_,DD,DF,DI,DJ,DK,DL,DN,DR⟩:=aT.av
  go_wp2
  exact aX Tryz.results95 rfl rfl dS ⟨aJ,aB,32,1,0,[],[],(hdp s),kb,A5,c5,(by rw [<-nZ.out];rfl),rfl,(ah.up (lo:=E.L) (X:=(fun q=>q<=w1.heap.size)) (v:=.slice A5 kb.length c5) (ks:=kb) uu (fun q hq=>by have:¬q<=w1.heap.size:=hq;omega))⟩
 |false=>
 have HI0:=af hi0
 simp only [hi0,Bool.false_eq_true,if_false] at heq
 clear hi0
 cases hi1:bX [33] s with
 |true=>
  have HI1:=af hi1
  have HKK:=af (xz hi1 (by simp)).2.2
  simp only [hi1,if_true] at heq
  obtain ⟨x1,s1,h1,heq⟩:=bF heq
  simp only [Option.some.injEq,Prod.mk.injEq] at heq
  obtain ⟨rfl,rfl⟩:=heq
  have nK:=af (fun W hW=>Hn.unary E W _ x1 s1 hW h1)
  clear hi1 h1
  go_enter Tryz.func95,Tryz.ntmps95
  obtain ⟨_,_,_,_,_,_,e3,_,_,_,_,_,_⟩:=h.here
  rw [HE.out] at e3
  go_wp2
  refine nG (P:=fun W=>RS E W s/\Gr (·=E.b) w W/\ag W w.heap.size 24 Z7/\w.heap.size+1<=W.heap.size) ⟨aB,aJ,bz,(by first|(simp;done)|(simp;omega))⟩ ?_
  rintro w1 ⟨fB,hG1,az,hs1⟩
  have kW:=fB.lt
  have oP:=fB.iy
  clear e3
  obtain ⟨j,hj,hjl,k0,k1,k2,k3,k4,q0,q1,q2,q3,fz⟩:=fB.here
  have hlt:=fB.lt
  have hgl:=fB.iy
  have hll:=fB.len
  have hne:=fB.ne
  clear fz hj
  obtain ⟨B,hB⟩:=aS E.b
  obtain ⟨G,hG⟩:=aS E.g
  obtain ⟨N,hN⟩:=aS E.ts.length
  obtain ⟨C,hC⟩:=aS E.c
  obtain ⟨so,hso⟩:=aS s.o
  obtain ⟨se,hse⟩:=aS s.e
  obtain ⟨sp,hsp⟩:=aS s.p
  obtain ⟨tk,htk⟩:=aS (hd s.l).1.k
  obtain ⟨tt,rP⟩:=aS (hd s.l).1.t
  obtain ⟨tn,htn⟩:=aS (hd s.l).1.n
  obtain ⟨tp,htp⟩:=aS (hd s.l).2
  rw [hB] at k0 k1 k2 k3 k4 hlt
  rw [hG,hN,hC] at k0
  rw [hso] at k2
  rw [hse] at k3
  rw [hsp] at k4
  rw [hG,htk] at q0
  rw [hG,rP] at q1
  rw [hG,htn] at q2
  rw [hG,htp] at q3
  rw [hG] at hgl
  rw [hN] at hjl hll
  rw [hG,hB] at hne
  have j0:(0:Int)<=(j:Int):=by omega
  have j1:(j:Int) < (N:Int):=by omega
  have j2:(j:Int)<=8193:=by omega
  have GI:=af htp
  have LW:=af hB
  rw [hB]
  clear hB hG hN hC hso hse hsp htk rP htn htp
  refine wp_region_held_drew (S:=fun V=>Below w1.heap.size w1 V) (by kernel_rfl) (Below.refl _ w1).drew (fun hS0=>?_)
  refine aQ 0 hS0 ?_
  refine aQ 1 hS0 ?_
  refine aQ 2 hS0 ?_
  refine jS 3 hS0 ?_ (fun w' hS=>(hS.cell (p:=⟨B,0,none⟩) hlt).trans k0)
  refine aQ 4 hS0 ?_
  refine aQ 5 hS0 ?_
  refine aQ 6 hS0 ?_
  refine jS 7 hS0 ?_ (fun w' hS=>(hS.cell (p:=⟨B,1,none⟩) hlt).trans k1)
  refine aQ 8 hS0 ?_
  refine aQ 9 hS0 ?_
  refine jS 10 hS0 ?_ (fun w' hS=>(hS.cell (p:=⟨G,_,none⟩) hgl).trans q3)
  refine aQ 11 hS0 ?_
  refine oI 12 rfl (aY (v:=.pointer (some ⟨w1.heap.size,0,none⟩)) (w':=(w1.drew.alloc (.cells #[.int .i64 0,.int .i64 0,.int .i64 0,.string ⟨#[]⟩,.string ⟨#[]⟩,.int .i64 0,.slice none 0 0] 24))) (by unfold execOp;go_simp) (And.intro ((Below.refl _ w1).drew.alloc (by simp) _) ?_))
  simp only [Act.put,gA,gB,gC,gD,gE,gF]
  obtain ⟨w2,qg⟩:=aS ((((((((w1.drew.alloc (.cells #[.int .i64 0,.int .i64 0,.int .i64 0,.string ⟨#[]⟩,.string ⟨#[]⟩,.int .i64 0,.slice none 0 0] 24)).setCell ⟨w1.heap.size,0,none⟩ (.int .i64 32)).setCell ⟨w1.heap.size,1,none⟩ (.int .i64 0)).setCell ⟨w1.heap.size,2,none⟩ (.int .i64 0)).setCell ⟨w1.heap.size,3,none⟩ (.string ⟨#[]⟩)).setCell ⟨w1.heap.size,4,none⟩ (.string ⟨#[]⟩)).setCell ⟨w1.heap.size,5,none⟩ (.int .i64 tp)).setCell ⟨w1.heap.size,6,none⟩ (.slice none 0 0))
  have hbw2:Below w1.heap.size w1 w2:=qg▸Bu w1 (.int .i64 32) (.int .i64 0) (.int .i64 0) (.string ⟨#[]⟩) (.string ⟨#[]⟩) (.int .i64 tp) (.slice none 0 0)
  have zS:ag w2 w1.heap.size 24 (N7 32 0 0 ⟨#[]⟩ ⟨#[]⟩ tp (.slice none 0 0)):=qg▸Bv w1 (.int .i64 32) (.int .i64 0) (.int .i64 0) (.string ⟨#[]⟩) (.string ⟨#[]⟩) (.int .i64 tp) (.slice none 0 0)
  refine oI 13 rfl (mU (w':=w2) (by rw [<-qg];unfold execOp;go_simp) (And.intro hbw2 ?_))
  simp only [Act.put,gA,gB,gC,gD,gE,gF]
  refine eZ ?_
  clear qg hS0 k0 k1 k2 k3 k4 q0 q1 q2 q3 j0 j1 j2 hjl hll hne hlt hgl
  rw [<-GI.out] at zS
  rw [<-LW.out]
  have hR2:RS E w2 s:=fB.below hbw2
  have hG2:Gr (·=E.b) w w2:=Gr.trans hG1 (Gr.of_below hbw2)
  have bq:ag w2 w1.heap.size 24 (N7 32 0 0 ⟨#[]⟩ ⟨#[]⟩ ((hd s.l).2) (.slice none 0 0)):=zS
  have ax:ag w2 w.heap.size 24 Z7:=ag.aC az hbw2
  clear zS hbw2
  go_wp2_with (first
   |(go_at_call 27;(with_reducible refine (au E _ s aB [45] ⟨#[45]⟩ rfl).mono ?_);rintro e w3 ⟨rfl,hg3⟩;rw [HI0.out];have gZ:=bA hR2 hg3;have hG3:=aL hG2 hg3;have aF:=bV ax hg3;have aM:=bV bq hg3)
   |(go_at_call 27;(with_reducible refine (au E _ s aB [33] ⟨#[33]⟩ rfl).mono ?_);rintro e w4 ⟨rfl,hg4⟩;rw [HI1.out];have jb:=bA gZ hg4;have hG4:=aL hG3 hg4;have aK:=aF.aC hg4;have aW:=aM.aC hg4;obtain ⟨_,_,Dp,_,_,_,_,_,Dq⟩:=aW.av;obtain ⟨jq,hjq,hjl,_,e1,_,_,_,_,_,_,_,ef⟩:=jb.here;have Am:=ef 1;have hll:=jb.len;have j0:(0:Int)<=(jq:Int):=(by omega);have j2:(jq:Int)<=8193:=(by omega);clear ef hjl hll;have wZ:RS E (w4.setCell ⟨w1.heap.size,1,none⟩ (.int .i64 3)) s:=aB;have iY:=ic wZ HKK.out;have dN:Gr (·=E.b) w ((w4.setCell ⟨w1.heap.size,1,none⟩ (.int .i64 3)).setCell ⟨E.b,1,none⟩ (.int .i64 ((E.ts.length - s.l.length:Nat)+1:Int))):=vK aJ 1 _;rw [hjq] at iY dN;clear hjq wZ;have JY:ag (w4.setCell ⟨w1.heap.size,1,none⟩ (.int .i64 3)) w1.heap.size 24 (N7 32 3 0 ⟨#[]⟩ ⟨#[]⟩ (hdp s) (.slice none 0 0)):=ag.set1 aW _))
  refine nG (P:=fun W=>RS E W s.tl/\Gr (·=E.b) w W/\ag W w.heap.size 24 Z7/\ag W w1.heap.size 24 (N7 32 3 0 ⟨#[]⟩ ⟨#[]⟩ (hdp s) (.slice none 0 0))/\w4.heap.size+0<=W.heap.size) ⟨aB,aJ,bz,bz,(by first|(simp;done)|(simp;omega))⟩ ?_
  rintro w5 ⟨jF,iw,aT,aR,_⟩
  have Js:=jF.lt
  have Jt:=jF.iy
  have wI:=aR.lt
  have OE:∀q,(fun q=>q<=w1.heap.size) q->q < w5.heap.size:=fun q hq=>by have:q<=w1.heap.size:=hq;omega
  have DU:∀q,(Value.slice none 0 0).ownBlock=some q->w.heap.size<=q:=fun q e=>by cases e
  have dO:(fun q=>q<=w1.heap.size) w1.heap.size:=Nat.le_refl _
  have cB:(fun q=>q<=w1.heap.size) w.heap.size:=by show w.heap.size<=w1.heap.size;omega
  have fT:w1.heap.size≠E.b:=by omega
  have kG:w1.heap.size≠E.g:=by omega
  have jg:ah w5 E.L (fun q=>q<=w1.heap.size) (.slice none 0 0) ([]:List Tr):=ah.none_ _ _ _
  obtain ⟨_,_,_,_,_,_,_,yR,zO⟩:=aR.av
  refine dD E.b E.L w1.heap.size (.pointer (some ⟨E.b,0,none⟩)) 95 #[.pointer (some ⟨E.b,0,none⟩)] (fun _=>False) (fun t W=>t=x1/\RS E W s1) (jg.x dO) jg OE yR (zO 6) E.bL aR.lt jF.L fT (by simp [cK]) (fun t=>bD E _ _ _ (by omega) (by omega) t) (fun t=>bD E _ _ _ E.bL E.gL t) ((nK.out w5.drew jF.drew).mono fun e w' h=>fH h) ?_ ?_
  ·rintro a w' c _ nL _
   exact absurd nL id
  rintro vals w' A6 c6 u6 ⟨hu6,qx⟩ _ hpx hgx eB hgo
  obtain rfl:=hu6.symm
  obtain ⟨w6,hW⟩:=aS (w'.setCell ⟨w1.heap.size,6,none⟩ (.slice A6 (([]:List Tr).length+1) c6))
  have hsx:=eB.size
  have lu:RS E w6 s1:=hW▸qx.setCell (p:=⟨w1.heap.size,6,none⟩) fT kG _
  have iX:Gr (·=E.b) w w6:=hW▸Gr.setCell (p:=⟨w1.heap.size,6,none⟩) (jD iw eB DU) (.inl (by show w.heap.size<=w1.heap.size;omega)) _
  have OG:∀q,(Value.slice A6 (([]:List Tr).length+1) c6).ownBlock=some q->w.heap.size<=q:=fun q hq=>(hgo q hq).elim (DU q) (fun h=>by have:=iw.size;omega)
  have bE:ag w6 w1.heap.size 24 (N7 32 3 0 ⟨#[]⟩ ⟨#[]⟩ (hdp s) (.slice A6 (([]:List Tr).length+1) c6)):=hW▸ag.jC (ag.wx aR eB fT (fun e=>jg.1 _ e dO)) _
  have bn:ag w6 w.heap.size 24 Z7:=hW▸ag.far (ag.wx aT eB (by omega) (fun e=>jg.1 _ e cB)) (by show w.heap.size≠w1.heap.size;omega) _
  have lH:ah w6 E.L (fun q=>q<=w1.heap.size) (.slice A6 (([]:List Tr).length+1) c6) (([]:List Tr) ++ [x1]):=hW▸hpx.setCell (p:=⟨w1.heap.size,6,none⟩) (.inr dO) _
  rw [hW]
  clear hW qx hpx hgx eB hgo hsx
  obtain ⟨kb,hkb⟩:=aS (([]:List Tr) ++ [x1])
  have eF:kb.length=([]:List Tr).length+1:=by rw [<-hkb,List.length_append];rfl
  rw [hkb,<-eF] at lH
  rw [<-eF] at bE
  try rw [<-eF] at OG
  have nZ:=af hkb
  clear eF hkb
  obtain ⟨_,NV,Vl,NW,Vm,Vn,Vo,NY,_⟩:=bE.av
  obtain ⟨_,Jw,Jy,Jz,JC,JF,JG,JH,JI⟩:=bn.av
  go_wp2
  exact aX Tryz.results95 rfl rfl dS ⟨aJ,aB,32,3,0,[],[],(hdp s),kb,A6,c6,(by rw [<-nZ.out];rfl),rfl,(ah.up (lo:=E.L) (X:=(fun q=>q<=w1.heap.size)) (v:=.slice A6 kb.length c6) (ks:=kb) uu (fun q hq=>by have:¬q<=w1.heap.size:=hq;omega))⟩
 |false=>
 have HI1:=af hi1
 simp only [hi1,Bool.false_eq_true,if_false] at heq
 clear hi1
 cases hi2:bX [38] s with
 |true=>
  have HI2:=af hi2
  simp only [hi2,if_true] at heq
  have nK:=af (fun W hW=>Hn.made E W _ tr s' hW heq)
  clear hi2 heq
  go_enter Tryz.func95,Tryz.ntmps95
  obtain ⟨_,_,_,_,_,_,e3,_,_,_,_,_,_⟩:=h.here
  rw [HE.out] at e3
  go_wp2
  refine nG (P:=fun W=>RS E W s/\Gr (·=E.b) w W/\ag W w.heap.size 24 Z7/\w.heap.size+1<=W.heap.size) ⟨aB,aJ,bz,(by first|(simp;done)|(simp;omega))⟩ ?_
  rintro w1 ⟨fB,hG1,az,_⟩
  have kW:=fB.lt
  clear e3
  obtain ⟨j,hj,hjl,k0,k1,k2,k3,k4,q0,q1,q2,q3,fz⟩:=fB.here
  have hlt:=fB.lt
  have hgl:=fB.iy
  have hll:=fB.len
  have hne:=fB.ne
  clear fz hj
  obtain ⟨B,hB⟩:=aS E.b
  obtain ⟨G,hG⟩:=aS E.g
  obtain ⟨N,hN⟩:=aS E.ts.length
  obtain ⟨C,hC⟩:=aS E.c
  obtain ⟨so,hso⟩:=aS s.o
  obtain ⟨se,hse⟩:=aS s.e
  obtain ⟨sp,hsp⟩:=aS s.p
  obtain ⟨tk,htk⟩:=aS (hd s.l).1.k
  obtain ⟨tt,rP⟩:=aS (hd s.l).1.t
  obtain ⟨tn,htn⟩:=aS (hd s.l).1.n
  obtain ⟨tp,htp⟩:=aS (hd s.l).2
  rw [hB] at k0 k1 k2 k3 k4 hlt
  rw [hG,hN,hC] at k0
  rw [hso] at k2
  rw [hse] at k3
  rw [hsp] at k4
  rw [hG,htk] at q0
  rw [hG,rP] at q1
  rw [hG,htn] at q2
  rw [hG,htp] at q3
  rw [hG] at hgl
  rw [hN] at hjl hll
  rw [hG,hB] at hne
  have j0:(0:Int)<=(j:Int):=by omega
  have j1:(j:Int) < (N:Int):=by omega
  have j2:(j:Int)<=8193:=by omega
  have GI:=af htp
  have LW:=af hB
  rw [hB]
  clear hB hG hN hC hso hse hsp htk rP htn htp
  refine wp_region_held_drew (S:=fun V=>Below w1.heap.size w1 V) (by kernel_rfl) (Below.refl _ w1).drew (fun hS0=>?_)
  refine aQ 0 hS0 ?_
  refine aQ 1 hS0 ?_
  refine aQ 2 hS0 ?_
  refine jS 3 hS0 ?_ (fun w' hS=>(hS.cell (p:=⟨B,0,none⟩) hlt).trans k0)
  refine aQ 4 hS0 ?_
  refine aQ 5 hS0 ?_
  refine aQ 6 hS0 ?_
  refine jS 7 hS0 ?_ (fun w' hS=>(hS.cell (p:=⟨B,1,none⟩) hlt).trans k1)
  refine aQ 8 hS0 ?_
  refine aQ 9 hS0 ?_
  refine jS 10 hS0 ?_ (fun w' hS=>(hS.cell (p:=⟨G,_,none⟩) hgl).trans q3)
  refine aQ 11 hS0 ?_
  refine oI 12 rfl (aY (v:=.pointer (some ⟨w1.heap.size,0,none⟩)) (w':=(w1.drew.alloc (.cells #[.int .i64 0,.int .i64 0,.int .i64 0,.string ⟨#[]⟩,.string ⟨#[]⟩,.int .i64 0,.slice none 0 0] 24))) (by unfold execOp;go_simp) (And.intro ((Below.refl _ w1).drew.alloc (by simp) _) ?_))
  simp only [Act.put,gA,gB,gC,gD,gE,gF]
  obtain ⟨w2,qg⟩:=aS ((((((((w1.drew.alloc (.cells #[.int .i64 0,.int .i64 0,.int .i64 0,.string ⟨#[]⟩,.string ⟨#[]⟩,.int .i64 0,.slice none 0 0] 24)).setCell ⟨w1.heap.size,0,none⟩ (.int .i64 32)).setCell ⟨w1.heap.size,1,none⟩ (.int .i64 0)).setCell ⟨w1.heap.size,2,none⟩ (.int .i64 0)).setCell ⟨w1.heap.size,3,none⟩ (.string ⟨#[]⟩)).setCell ⟨w1.heap.size,4,none⟩ (.string ⟨#[]⟩)).setCell ⟨w1.heap.size,5,none⟩ (.int .i64 tp)).setCell ⟨w1.heap.size,6,none⟩ (.slice none 0 0))
  have hbw2:Below w1.heap.size w1 w2:=qg▸Bu w1 (.int .i64 32) (.int .i64 0) (.int .i64 0) (.string ⟨#[]⟩) (.string ⟨#[]⟩) (.int .i64 tp) (.slice none 0 0)
  have zS:ag w2 w1.heap.size 24 (N7 32 0 0 ⟨#[]⟩ ⟨#[]⟩ tp (.slice none 0 0)):=qg▸Bv w1 (.int .i64 32) (.int .i64 0) (.int .i64 0) (.string ⟨#[]⟩) (.string ⟨#[]⟩) (.int .i64 tp) (.slice none 0 0)
  refine oI 13 rfl (mU (w':=w2) (by rw [<-qg];unfold execOp;go_simp) (And.intro hbw2 ?_))
  simp only [Act.put,gA,gB,gC,gD,gE,gF]
  refine eZ ?_
  clear qg hS0 k0 k1 k2 k3 k4 q0 q1 q2 q3 j0 j1 j2 hjl hll hne hlt hgl
  rw [<-GI.out] at zS
  rw [<-LW.out]
  have hR2:RS E w2 s:=fB.below hbw2
  have hG2:Gr (·=E.b) w w2:=Gr.trans hG1 (Gr.of_below hbw2)
  have bq:ag w2 w1.heap.size 24 (N7 32 0 0 ⟨#[]⟩ ⟨#[]⟩ ((hd s.l).2) (.slice none 0 0)):=zS
  have ax:ag w2 w.heap.size 24 Z7:=ag.aC az hbw2
  clear zS hbw2
  go_wp2_with (first
   |(go_at_call 27;(with_reducible refine (au E _ s aB [45] ⟨#[45]⟩ rfl).mono ?_);rintro e w3 ⟨rfl,hg3⟩;rw [HI0.out];have gZ:=bA hR2 hg3;have hG3:=aL hG2 hg3;have aF:=bV ax hg3;have aM:=bV bq hg3)
   |(go_at_call 27;(with_reducible refine (au E _ s aB [33] ⟨#[33]⟩ rfl).mono ?_);rintro e w4 ⟨rfl,hg4⟩;rw [HI1.out];have jb:=bA gZ hg4;have hG4:=aL hG3 hg4;have aK:=aF.aC hg4;have aW:=aM.aC hg4)
   |(go_at_call 27;(with_reducible refine (au E _ s aB [38] ⟨#[38]⟩ rfl).mono ?_);rintro e w5 ⟨rfl,hg5⟩;rw [HI2.out];have jF:=bA jb hg5;have iw:=aL hG4 hg5;have aT:=aK.aC hg5;have EN:=aT.lt;have aR:=aW.aC hg5)
   |(go_at_call 114;(with_reducible refine (nK.out _ aB).mono ?_);rintro e w6 ⟨dA,lu,k6,op6,m6,p6,t6,a6,Nv,A6,c6,rfl,rfl,VU⟩;have iX:=bP iw dA;have bn:=aT.call dA (by omega);obtain ⟨_,Jw,Jy,Jz,JC,JF,JG,JH,JI⟩:=bn.av;have adW:=VU.mono (lo':=w5.heap.size) (by simp)))
  exact aX Tryz.results95 rfl rfl dS ⟨aJ,aB,k6,op6,m6,p6,t6,a6,Nv,A6,c6,rfl,rfl,aI.mono (lo:=w5.heap.size) (v:=.slice A6 Nv.length c6) (ks:=Nv) nS (by omega)⟩
 |false=>
 have HI2:=af hi2
 simp only [hi2,Bool.false_eq_true,if_false] at heq
 clear hi2
 obtain ⟨x1,s1,h1,h2⟩:=bF heq
 have nK:=af (fun W hW=>Hn.first E W _ x1 s1 hW h1)
 have fJ:=af h2
 clear heq h1 h2
 go_enter Tryz.func95,Tryz.ntmps95
 obtain ⟨_,_,_,_,_,_,e3,_,_,_,_,_,_⟩:=h.here
 rw [HE.out] at e3
 go_wp2
 refine nG (P:=fun W=>RS E W s/\Gr (·=E.b) w W/\ag W w.heap.size 24 Z7/\w.heap.size+1<=W.heap.size) ⟨aB,aJ,bz,(by first|(simp;done)|(simp;omega))⟩ ?_
 rintro w1 ⟨fB,hG1,az,hs1⟩
 have kW:=fB.lt
 clear e3
 obtain ⟨j,hj,hjl,k0,k1,k2,k3,k4,q0,q1,q2,q3,fz⟩:=fB.here
 have hlt:=fB.lt
 have hgl:=fB.iy
 have hll:=fB.len
 have hne:=fB.ne
 clear fz hj
 obtain ⟨B,hB⟩:=aS E.b
 obtain ⟨G,hG⟩:=aS E.g
 obtain ⟨N,hN⟩:=aS E.ts.length
 obtain ⟨C,hC⟩:=aS E.c
 obtain ⟨so,hso⟩:=aS s.o
 obtain ⟨se,hse⟩:=aS s.e
 obtain ⟨sp,hsp⟩:=aS s.p
 obtain ⟨tk,htk⟩:=aS (hd s.l).1.k
 obtain ⟨tt,rP⟩:=aS (hd s.l).1.t
 obtain ⟨tn,htn⟩:=aS (hd s.l).1.n
 obtain ⟨tp,htp⟩:=aS (hd s.l).2
 rw [hB] at k0 k1 k2 k3 k4 hlt
 rw [hG,hN,hC] at k0
 rw [hso] at k2
 rw [hse] at k3
 rw [hsp] at k4
 rw [hG,htk] at q0
 rw [hG,rP] at q1
 rw [hG,htn] at q2
 rw [hG,htp] at q3
 rw [hG] at hgl
 rw [hN] at hjl hll
 rw [hG,hB] at hne
 have j0:(0:Int)<=(j:Int):=by omega
 have j1:(j:Int) < (N:Int):=by omega
 have j2:(j:Int)<=8193:=by omega
 have GI:=af htp
 have LW:=af hB
 rw [hB]
 clear hB hG hN hC hso hse hsp htk rP htn htp
 refine wp_region_held_drew (S:=fun V=>Below w1.heap.size w1 V) (by kernel_rfl) (Below.refl _ w1).drew (fun hS0=>?_)
 refine aQ 0 hS0 ?_
 refine aQ 1 hS0 ?_
 refine aQ 2 hS0 ?_
 refine jS 3 hS0 ?_ (fun w' hS=>(hS.cell (p:=⟨B,0,none⟩) hlt).trans k0)
 refine aQ 4 hS0 ?_
 refine aQ 5 hS0 ?_
 refine aQ 6 hS0 ?_
 refine jS 7 hS0 ?_ (fun w' hS=>(hS.cell (p:=⟨B,1,none⟩) hlt).trans k1)
 refine aQ 8 hS0 ?_
 refine aQ 9 hS0 ?_
 refine jS 10 hS0 ?_ (fun w' hS=>(hS.cell (p:=⟨G,_,none⟩) hgl).trans q3)
 refine aQ 11 hS0 ?_
 refine oI 12 rfl (aY (v:=.pointer (some ⟨w1.heap.size,0,none⟩)) (w':=(w1.drew.alloc (.cells #[.int .i64 0,.int .i64 0,.int .i64 0,.string ⟨#[]⟩,.string ⟨#[]⟩,.int .i64 0,.slice none 0 0] 24))) (by unfold execOp;go_simp) (And.intro ((Below.refl _ w1).drew.alloc (by simp) _) ?_))
 simp only [Act.put,gA,gB,gC,gD,gE,gF]
 obtain ⟨w2,qg⟩:=aS ((((((((w1.drew.alloc (.cells #[.int .i64 0,.int .i64 0,.int .i64 0,.string ⟨#[]⟩,.string ⟨#[]⟩,.int .i64 0,.slice none 0 0] 24)).setCell ⟨w1.heap.size,0,none⟩ (.int .i64 32)).setCell ⟨w1.heap.size,1,none⟩ (.int .i64 0)).setCell ⟨w1.heap.size,2,none⟩ (.int .i64 0)).setCell ⟨w1.heap.size,3,none⟩ (.string ⟨#[]⟩)).setCell ⟨w1.heap.size,4,none⟩ (.string ⟨#[]⟩)).setCell ⟨w1.heap.size,5,none⟩ (.int .i64 tp)).setCell ⟨w1.heap.size,6,none⟩ (.slice none 0 0))
 have hbw2:Below w1.heap.size w1 w2:=qg▸Bu w1 (.int .i64 32) (.int .i64 0) (.int .i64 0) (.string ⟨#[]⟩) (.string ⟨#[]⟩) (.int .i64 tp) (.slice none 0 0)
 have zS:ag w2 w1.heap.size 24 (N7 32 0 0 ⟨#[]⟩ ⟨#[]⟩ tp (.slice none 0 0)):=qg▸Bv w1 (.int .i64 32) (.int .i64 0) (.int .i64 0) (.string ⟨#[]⟩) (.string ⟨#[]⟩) (.int .i64 tp) (.slice none 0 0)
 refine oI 13 rfl (mU (w':=w2) (by rw [<-qg];unfold execOp;go_simp) (And.intro hbw2 ?_))
 simp only [Act.put,gA,gB,gC,gD,gE,gF]
 refine eZ ?_
 clear qg hS0 k0 k1 k2 k3 k4 q0 q1 q2 q3 j0 j1 j2 hjl hll hne hlt hgl
 rw [<-GI.out] at zS
 rw [<-LW.out]
 have hR2:RS E w2 s:=fB.below hbw2
 have hG2:Gr (·=E.b) w w2:=Gr.trans hG1 (Gr.of_below hbw2)
 have bq:ag w2 w1.heap.size 24 (N7 32 0 0 ⟨#[]⟩ ⟨#[]⟩ ((hd s.l).2) (.slice none 0 0)):=zS
 have ax:ag w2 w.heap.size 24 Z7:=ag.aC az hbw2
 clear zS hbw2
 go_wp2_with (first
  |(go_at_call 27;(with_reducible refine (au E _ s aB [45] ⟨#[45]⟩ rfl).mono ?_);rintro e w3 ⟨rfl,hg3⟩;rw [HI0.out];have gZ:=bA hR2 hg3;have hG3:=aL hG2 hg3;have aF:=bV ax hg3;have aM:=bV bq hg3)
  |(go_at_call 27;(with_reducible refine (au E _ s aB [33] ⟨#[33]⟩ rfl).mono ?_);rintro e w4 ⟨rfl,hg4⟩;rw [HI1.out];have jb:=bA gZ hg4;have hG4:=aL hG3 hg4;have aK:=aF.aC hg4;have aW:=aM.aC hg4)
  |(go_at_call 27;(with_reducible refine (au E _ s aB [38] ⟨#[38]⟩ rfl).mono ?_);rintro e w5 ⟨rfl,hg5⟩;rw [HI2.out];have jF:=bA jb hg5;have iw:=aL hG4 hg5;have aT:=aK.aC hg5;have EN:=aT.lt;have aR:=aW.aC hg5;have wI:=aR.lt)
  |(go_at_call 116;(with_reducible refine (nK.out _ aB).mono ?_);rintro e w6 ⟨dA,lu,k6,op6,m6,p6,t6,a6,Nv,A6,c6,rfl,rfl,VU⟩;have iX:=bP iw dA;have hs6:=dA.size;(try simp at hs6);have bn:=aT.call dA (by omega);have bE:=aR.call dA (by omega);have adZ:ah w6 E.L (fun q=>q < w5.heap.size) (.slice A6 Nv.length c6) Nv:=ah.mono (aI.p (lo:=w5.heap.size) (VU.mono (by simp)) (fun q hq=>.inl hq)) (by omega);have DT:∀q,(fun q=>q < w5.heap.size) q->q < w6.heap.size:=(fun q hq=>Nat.lt_of_lt_of_le hq (by omega));have HB1:=Hn.behind E w6 s1 (fun q=>q < w5.heap.size) k6 op6 m6 p6 t6 a6 Nv A6 c6 tr s' lu DT adZ fJ.out)
  |(go_at_call 115;(with_reducible refine HB1.mono ?_);rintro e w7 ⟨dZ,o5,k7,VO,m7,p7,t7,a7,yS,A7,c7,rfl,rfl,ajc⟩;have lV:=bP iX dZ;have bW:=bn.call dZ (by omega);obtain ⟨_,EO,EP,ER,ES,ET,EU,EW,EX⟩:=bW.av))
 have cB:(fun q=>q < w5.heap.size) w.heap.size:=by show w.heap.size < w5.heap.size;omega
 exact aX Tryz.results95 rfl rfl dS ⟨aJ,aB,k7,VO,m7,p7,t7,a7,yS,A7,c7,rfl,rfl,(ah.up (lo:=E.L) (X:=(fun q=>q < w5.heap.size)) (v:=.slice A7 yS.length c7) (ks:=yS) uu (fun q hq=>by have:¬q < w5.heap.size:=hq;omega))⟩
theorem Tx (n:Nat) (hn:n+10<=cK) (H:∀m,m<=n->qQ m):CM (n+1) 114 .made:=by
 intro E w s tr s' h heq
 have hlt:=h.lt
 have hgt:=h.iy
 have hbL:=E.bL
 have hgL:=E.gL
 have hR0:=h
 simp only [m5] at heq
 obtain ⟨t2,s2,h1,heq⟩:=bF heq
 simp only [Option.some.injEq,Prod.mk.injEq] at heq
 obtain ⟨rfl,rfl⟩:=heq
 have fG:=af h1
 clear h1
 go_enter Tryz.func114,Tryz.ntmps114
 go_wp2_with (first
  |(go_at_call 25;(with_reducible refine (aA E _ s aB [38] ⟨#[38]⟩ rfl).mono ?_);rintro e w1 ⟨rfl,fB,hg1⟩;have hG1:Gr (·=E.b) w w1:=Gr.trans aJ (Gr.mono hg1 (fun _ _ e=>e));have hs1:=hg1.size;(try simp at hs1);have kW:=fB.lt;have oP:=fB.iy;have az:ag w1 w.heap.size 24 Z7:=bU hg1))
 refine nG (P:=fun W=>RS E W (aj [38] s)/\Gr (·=E.b) w W/\ag W w.heap.size 24 Z7/\ag W w1.heap.size 24 (N7 38 0 0 ⟨#[]⟩ ⟨#[]⟩ (hdp s) (.slice none 0 0))/\ah W E.L (fun q=>q<=w1.heap.size) (.slice none 0 0) ([]:List Tr)/\w1.heap.size+1<=W.heap.size) ⟨aB,aJ,bz,bz,ah.none_ _ _ _,(by first|(simp;done)|(simp;omega))⟩ ?_
 rintro w2 ⟨hR2,hG2,ax,bq,jZ,hs2⟩
 have ou:=hR2.lt
 have ql:=hR2.iy
 have uf:∀q,(fun q=>q<=w1.heap.size) q->q < w2.heap.size:=fun q hq=>by have:q<=w1.heap.size:=hq;omega
 have dO:(fun q=>q<=w1.heap.size) w1.heap.size:=Nat.le_refl _
 have cB:(fun q=>q<=w1.heap.size) w.heap.size:=by show w.heap.size<=w1.heap.size;omega
 have fT:w1.heap.size≠E.b:=by omega
 have kG:w1.heap.size≠E.g:=by omega
 have Fq:∀q,(Value.slice none 0 0).ownBlock=some q->w.heap.size<=q:=fun q e=>by cases e
 obtain ⟨_,_,_,_,_,_,_,sG,uE⟩:=bq.av
 refine dD E.b E.L w1.heap.size (.pointer (some ⟨E.b,0,none⟩)) 94 #[.pointer (some ⟨E.b,0,none⟩)] (fun _=>False) (fun t W=>t=(gp (aj [38] s))/\RS E W (gq (aj [38] s))) (jZ.x dO) jZ uf sG (uE 6) E.bL bq.lt hR2.L fT (by simp [cK]) (fun t=>bD E _ _ _ (by omega) (by omega) t) (fun t=>bD E _ _ _ E.bL E.gL t) ((Ba E w2.drew (aj [38] s) hR2.drew).mono fun e w' h=>fH h) ?_ ?_
 ·rintro a w' c _ nL _
  exact absurd nL id
 rintro vals w' A3 c3 u3 ⟨hu3,qx⟩ _ hpx hgx eB hgo
 obtain rfl:=hu3.symm
 obtain ⟨w3,hW⟩:=aS (w'.setCell ⟨w1.heap.size,6,none⟩ (.slice A3 (([]:List Tr).length+1) c3))
 have hsx:=eB.size
 have gZ:RS E w3 (gq (aj [38] s)):=hW▸qx.setCell (p:=⟨w1.heap.size,6,none⟩) fT kG _
 have hG3:Gr (·=E.b) w w3:=hW▸Gr.setCell (p:=⟨w1.heap.size,6,none⟩) (jD hG2 eB Fq) (.inl (by show w.heap.size<=w1.heap.size;omega)) _
 have rQ:∀q,(Value.slice A3 (([]:List Tr).length+1) c3).ownBlock=some q->w.heap.size<=q:=fun q hq=>(hgo q hq).elim (Fq q) (fun h=>by have:=hG2.size;omega)
 have aM:ag w3 w1.heap.size 24 (N7 38 0 0 ⟨#[]⟩ ⟨#[]⟩ (hdp s) (.slice A3 (([]:List Tr).length+1) c3)):=hW▸ag.jC (ag.wx bq eB fT (fun e=>jZ.1 _ e dO)) _
 have aF:ag w3 w.heap.size 24 Z7:=hW▸ag.far (ag.wx ax eB (by omega) (fun e=>jZ.1 _ e cB)) (by show w.heap.size≠w1.heap.size;omega) _
 have je:ah w3 E.L (fun q=>q<=w1.heap.size) (.slice A3 (([]:List Tr).length+1) c3) (([]:List Tr) ++ [gp (aj [38] s)]):=hW▸hpx.setCell (p:=⟨w1.heap.size,6,none⟩) (.inr dO) _
 have hs3:w2.heap.size<=w3.heap.size:=hW▸(by simpa using hsx)
 rw [hW]
 clear hW qx hpx hgx eB hgo hsx
 obtain ⟨ka,hka⟩:=aS (([]:List Tr) ++ [gp (aj [38] s)])
 have nM:ka.length=([]:List Tr).length+1:=by rw [<-hka,List.length_append];rfl
 rw [hka,<-nM] at je
 rw [<-nM] at aM
 try rw [<-nM] at rQ
 have Cr:=af nM
 have Fs:=af hka
 clear nM hka
 go_wp2_with (first
  |(go_at_call 25;(with_reducible refine (aA E _ (gq (aj [38] s)) aB [123] ⟨#[123]⟩ rfl).mono ?_);rintro e w4 ⟨rfl,jb,hg4⟩;have hG4:=bP hG3 hg4;have hs4:=hg4.size;(try simp at hs4);have aK:=aD aF hg4;have aW:ag w4 w1.heap.size 24 (N7 38 0 0 ⟨#[]⟩ ⟨#[]⟩ (hdp s) (.slice A3 ka.length c3)):=bU hg4;have lG:ah w4 E.L (fun q=>q<=w1.heap.size) (.slice A3 ka.length c3) ka:=vJ hg4))
 go_loopg [4] n (fun gk _ wr=>∃(aU:List Tr) (A1:Option Addr) (c1:Nat) (sx:St),RS E wr sx/\ag wr w1.heap.size 24 (N7 38 0 0 ⟨#[]⟩ ⟨#[]⟩ (hdp s) (.slice A1 aU.length c1))/\ag wr w.heap.size 24 Z7/\ah wr E.L (fun q=>q<=w1.heap.size) (.slice A1 aU.length c1) aU/\Gr (·=E.b) w wr/\(∀q,(Value.slice A1 aU.length c1).ownBlock=some q->w.heap.size<=q)/\aU.length+gk<=n+1/\gk<=n/\w2.heap.size<=wr.heap.size/\m5 gk (.EA (.mk 38 0 0 [] [] (hdp s) aU)) sx=some (t2,s2))
 case atStart=>exact ⟨ka,_,_,_,jb,aW,aK,lG,hG4,rQ,by rw [Cr.out];simp;omega,Nat.le_refl _,by omega,by rw [<-Fs.out];exact fG.out⟩
 case round=>
  obtain ⟨aU,A1,c1,sx,gu,dP,dF,fI,jk,gy,hlk,hgn,hw2,hq⟩:=hrel
  have Fe:=dP.lt
  have jU:∀q,(fun q=>q<=w1.heap.size) q->q < wr.heap.size:=fun q hq=>by have:q<=w1.heap.size:=hq;omega
  cases gk with
  |zero=>exact absurd hq (by simp [m5])
  |succ f=>
   obtain ⟨_,_,_,_,_,_,e3,_⟩:=gu.here
   have Hf:=H f (by omega)
   by_cases he:sx.e=0
   case neg=>
    have ez:(sx.e == 0)=false:=by simpa using he
    simp only [m5,show rH [125] sx=false from by unfold rH;rw [decide_eq_false he];rfl,Bool.false_eq_true,if_false,Option.some.injEq,Prod.mk.injEq] at hq
    obtain ⟨rfl,rfl⟩:=hq
    clear he
    go_wp2_with (first
     |(go_at_call 25;(with_reducible refine (aA E _ sx aB [125] ⟨#[125]⟩ rfl).mono ?_);rintro e bB ⟨rfl,fM,aV⟩;have gm:=bP hG3 aV;have bR:=aD aF aV;obtain ⟨_,Be,Bf,Bg,Bh,Bi,Bj,Bl,Bn⟩:=bR.av;have bJ:ag bB w1.heap.size 24 (N7 38 0 0 ⟨#[]⟩ ⟨#[]⟩ (hdp s) (.slice A1 aU.length c1)):=bU aV;obtain ⟨_,EY,EZ,E5,E8,E9,Fa,xL,_⟩:=bJ.av;have bZ:ah bB E.L (fun q=>q<=w1.heap.size) (.slice A1 aU.length c1) aU:=vJ aV))
    exact aX Tryz.results114 rfl rfl dS ⟨aJ,aB,38,0,0,[],[],(hdp s),aU,A1,c1,rfl,rfl,(ah.up (lo:=E.L) (X:=(fun q=>q<=w1.heap.size)) (v:=.slice A1 aU.length c1) (ks:=aU) uu (fun q hq=>by have:¬q<=w1.heap.size:=hq;omega))⟩
   rw [he] at e3
   cases hi1:bX [125] sx with
   |true=>
    have HI1:=af hi1
    simp only [m5,show rH [125] sx=false from by unfold rH;rw [hi1];simp,Bool.false_eq_true,if_false,Option.some.injEq,Prod.mk.injEq] at hq
    obtain ⟨rfl,rfl⟩:=hq
    clear hi1 he
    go_wp2_with (first
     |(go_at_call 27;(with_reducible refine (au E _ sx aB [125] ⟨#[125]⟩ rfl).mono ?_);rintro e bB ⟨rfl,aV⟩;rw [HI1.out];have fM:RS E bB sx:=RS.below aB aV;have gm:=aL hG3 aV;have bR:=bV aF aV;have bJ:ag bB w1.heap.size 24 (N7 38 0 0 ⟨#[]⟩ ⟨#[]⟩ (hdp s) (.slice A1 aU.length c1)):=ag.aC bz aV;have bZ:ah bB E.L (fun q=>q<=w1.heap.size) (.slice A1 aU.length c1) aU:=ah.aC nR aV)
     |(go_at_call 25;(with_reducible refine (aA E _ sx aB [125] ⟨#[125]⟩ rfl).mono ?_);rintro e ek ⟨rfl,jY,dH⟩;have kK:=bP gm dH;have gT:=bR.call dH (by omega);obtain ⟨_,Iy,Iz,IA,IB,IC,IE,IG,II⟩:=gT.av;have ig:=bJ.call dH (by omega);obtain ⟨_,QW,QX,QY,QZ,Q0,Q3,IJ,_⟩:=ig.av;have jO:=dU bZ dH))
    exact aX Tryz.results114 rfl rfl dS ⟨aJ,aB,38,0,0,[],[],(hdp s),aU,A1,c1,rfl,rfl,(ah.up (lo:=E.L) (X:=(fun q=>q<=w1.heap.size)) (v:=.slice A1 aU.length c1) (ks:=aU) uu (fun q hq=>by have:¬q<=w1.heap.size:=hq;omega))⟩
   |false=>
    have HI1:=af hi1
    simp only [m5,show rH [125] sx=true from by unfold rH;rw [hi1,decide_eq_true he];rfl,if_true] at hq
    obtain ⟨t1,s1,h1,hq⟩:=bF hq
    have HK:=af (fun W hW=>Hf.expr E W _ 1 t1 s1 (by decide) (by decide) hW h1)
    have HQ:=af hq
    clear hi1 he h1 hq
    go_wp2_with (first
     |(go_at_call 27;(with_reducible refine (au E _ sx aB [125] ⟨#[125]⟩ rfl).mono ?_);rintro e bB ⟨rfl,aV⟩;rw [HI1.out];have fM:RS E bB sx:=RS.below aB aV;have gm:=aL hG3 aV;have qR:=aV.size;(try simp at qR);have bR:=bV aF aV;have bJ:ag bB w1.heap.size 24 (N7 38 0 0 ⟨#[]⟩ ⟨#[]⟩ (hdp s) (.slice A1 aU.length c1)):=ag.aC bz aV;have bZ:ah bB E.L (fun q=>q<=w1.heap.size) (.slice A1 aU.length c1) aU:=ah.aC nR aV)
     |(go_at_call 26;(with_reducible refine (dR E _ sx aB).mono ?_);rintro e ek ⟨rfl,jY,dH⟩;have kK:=bP gm dH;have xQ:=dH.size;(try simp at xQ);have gT:=bR.call dH (by omega);have ig:=bJ.call dH (by omega);have jO:=dU bZ dH)
     |(go_at_call 25;(with_reducible refine (aA E _ (aG sx) aB [58] ⟨#[58]⟩ rfl).mono ?_);rintro e iP ⟨rfl,mW,gz⟩;have pz:=bP kK gz;have Mf:=gz.size;(try simp at Mf);have oK:=gT.call gz (by omega);have fO:=ig.call gz (by omega);have ab5:=fO.lt;have iH:=dU jO gz))
    have IL:∀q,(fun q=>q<=w1.heap.size) q->q < iP.heap.size:=fun q hq=>Nat.lt_of_lt_of_le (jU q hq) (by omega)
    have aag:=gy
    obtain ⟨_,_,_,_,_,_,_,Md,_⟩:=fO.av
    refine qW (S:=fun V=>Gr (fun q=>q=E.b\/(Value.slice A1 aU.length c1).ownBlock=some q) iP V) 10 (fun vals W=>∃(A:Option Addr) (c:Nat),vals 9= .slice A ((aU:List Tr).length+1) c/\RS E W s1/\Gr (fun q=>q=E.b\/(Value.slice A1 aU.length c1).ownBlock=some q) iP W/\ah W E.L (fun q=>q<=w1.heap.size) (.slice A ((aU:List Tr).length+1) c) (aU ++ [Tr.mk 39 0 0 [] (ay sx) (hdp sx) [t1]])/\(∀q,(Value.slice A ((aU:List Tr).length+1) c).ownBlock=some q->(Value.slice A1 aU.length c1).ownBlock=some q\/iP.heap.size<=q)) (by kernel_rfl) (by kernel_rfl) (Gr.refl _).drew (fun hS0=>?qY) ?hk
    case qY=>
     simp only [List.take_succ_cons,List.take_zero,List.take_nil]
     obtain ⟨kD,oh⟩:=aS iP.drew
     rw [oh] at hS0 |-
     have qX:Gr (fun q=>q=E.b\/(Value.slice A1 aU.length c1).ownBlock=some q) iP kD:=hS0
     clear hS0
     have pE:=dJ oh (RS.drew mW)
     have qU:=bK oh (Gr.drew pz)
     have Y6:iP.heap.size+0<=kD.heap.size:=by rw [<-oh];exact Nat.le_refl _
     have vR:=aP oh (ag.drew oK)
     have jG:=aP oh (ag.drew fO)
     have qw:=ko oh (ah.drew iH)
     refine aQ 0 qX ?_
     refine jS 1 qX ?_ (fun w' hS=>(hS.cell (p:=⟨w1.heap.size,6,none⟩) (by show w1.heap.size < _;omega) (by show ¬(w1.heap.size=E.b\/(Value.slice A1 aU.length c1).ownBlock=some w1.heap.size);exact fun e=>e.elim (fun e=>by omega) (fun e=>iH.1 _ e dO))).trans Md)
     refine aQ 2 qX ?_
     refine aQ 3 qX ?_
     refine aQ 4 qX ?_
     refine qO 5 ?_
     refine fP (args:=#[.pointer (some ⟨E.b,0,none⟩),.int .i64 1]) (f:=80) (by unfold execOp;go_simp) ((HK.out kD pE).mono ?_)
     rintro e jL ⟨j6,qV,k15,Mh,m15,Z5,t15,Z6,Mi,GZ,c15,VZ,rfl,J6⟩
     have ab4:=af VZ
     clear VZ
     have Bt:Gr (·=E.b) w jL:=Gr.trans qU (Gr.mono j6 (fun _ _ e=>e))
     have zT:Gr (fun q=>q=E.b\/(Value.slice A1 aU.length c1).ownBlock=some q) iP jL:=Gr.trans qX (Gr.mono j6 (fun _ _ e=>by first|exact e|exact .inl e))
     have VY:=j6.size;(try simp at VY)
     have OZ:=aD vR j6
     have jP:=aD jG j6
     have oJ:=dU qw j6
     refine And.intro zT ?_
     simp only [Act.put,gA,gB,gC,gD,gE,gF]
     refine qO 6 ?_
     obtain ⟨w16,mJ⟩:=aS (jL.alloc (.cells #[.int .i64 k15,.int .i64 Mh,.int .i64 m15,.string (bs Z5),.string (bs t15),.int .i64 Z6,.slice GZ Mi.length c15] 24))
     have zQ:=dJ mJ (RS.alloc qV _)
     have ad8:jL.heap.size+1<=w16.heap.size:=by rw [<-mJ];simp
     have ahc:=aP mJ (ag.alloc OZ _)
     have zR:=aP mJ (ag.alloc jP _)
     have Fg:=ko mJ (ah.alloc oJ _)
     have pV:=bK mJ (Gr.alloc zT _)
     have zU:aI w16 iP.heap.size (.slice (some ⟨jL.heap.size,0,none⟩) 1 1) [Tr.mk k15 Mh m15 Z5 t15 Z6 Mi]:=by rw [<-mJ];exact aI.lI (aI.mono J6 (by omega)) (by omega)
     refine aY (v:=(.slice (some ⟨jL.heap.size,0,none⟩) 1 1)) (w':=w16) (by rw [<-mJ];unfold execOp;go_simp) (And.intro pV ?_)
     simp only [Act.put,gA,gB,gC,gD,gE,gF]
     refine aQ 7 pV ?_
     refine qO 8 ?_
     obtain ⟨Ty,vS⟩:=aS (w16.alloc (.cells #[.int .i64 39,.int .i64 0,.int .i64 0,.string ⟨#[]⟩,.string (bs (ay sx)),.int .i64 (hdp sx),.slice (some ⟨jL.heap.size,0,none⟩) 1 1] 24))
     have V7:=dJ vS (RS.alloc zQ _)
     have amS:w16.heap.size+1<=Ty.heap.size:=by rw [<-vS];simp
     have ab6:=aP vS (ag.alloc zR _)
     have ahd:=ab6.lt
     have J9:=ko vS (ah.alloc Fg _)
     have Mo:=bK vS (Gr.alloc pV _)
     have ab7:aI Ty iP.heap.size (.slice (some ⟨w16.heap.size,0,none⟩) 1 1) [Tr.mk 39 0 0 [] (ay sx) (hdp sx) [Tr.mk k15 Mh m15 Z5 t15 Z6 Mi]]:=by rw [<-vS];exact aI.lI zU (by omega)
     refine aY (v:=(.slice (some ⟨w16.heap.size,0,none⟩) 1 1)) (w':=Ty) (by rw [<-vS];unfold execOp;go_simp) (And.intro Mo ?_)
     simp only [Act.put,gA,gB,gC,gD,gE,gF]
     refine qO 9 ?_
     refine AV (N:=iP.heap.size) (h:=w1.heap.size) (J9.x dO) J9 IL (fun q hq=>Nat.lt_of_lt_of_le (IL q hq) (by omega)) (fun q hq=>(iH.own hq).2.1) ab7 (by have:=mW.L;omega) (IL _ dO) (by omega) (by have:=mW.L;omega) (by have:=IL _ dO;omega) _ _ rfl rfl rfl ?_
     intro A18 c18 w18 ahe _ ad9 aea
     have aeb:Gr (fun q=>q=E.b\/(Value.slice A1 aU.length c1).ownBlock=some q) iP w18:=Mo.trans (aea.mono (fun q _ e=>.inr e))
     rw [<-ab4.out] at ad9
     have ahf:RS E w18 s1:=V7.gr aea (fun e=>(by have:=(J9.own e).1;have:=E.bL;omega)) (fun e=>(by have:=(J9.own e).1;have:=E.gL;omega))
     refine And.intro aeb ?_
     simp only [Act.put,gA,gB,gC,gD,gE,gF]
     refine eZ ?_
     refine PQ.mk (fun i=>match i with|0=>.pointer (some ⟨w1.heap.size,6,none⟩)|1=>.slice A1 aU.length c1|2=>.string (bs (ay sx))|3=>.int .i64 (hdp sx)|4=>.pointer (some ⟨E.b,0,none⟩)|5=>.agg #[.int .i64 k15,.int .i64 Mh,.int .i64 m15,.string (bs Z5),.string (bs t15),.int .i64 Z6,.slice GZ Mi.length c15]|6=>.slice (some ⟨jL.heap.size,0,none⟩) 1 1|7=>.agg #[.int .i64 39,.int .i64 0,.int .i64 0,.string ⟨#[]⟩,.string (bs (ay sx)),.int .i64 (hdp sx),.slice (some ⟨jL.heap.size,0,none⟩) 1 1]|8=>.slice (some ⟨w16.heap.size,0,none⟩) 1 1|9=>.slice A18 ((aU:List Tr).length+1) c18|_=>undef) (by kernel_rfl) ?_
     exact ⟨_,_,rfl,ahf,aeb,ad9,fun q e=>(ahe q e).imp id (fun h=>by omega)⟩
    case hk=>
    rintro vals BS ⟨Ra,c64,Z8,zV,Mm,rR,Q9⟩
    show wpAnyH _ _ _ _ _ 2 _ _ _
    dsimp only [bG,List.take_succ_cons,List.take_zero,List.take_nil]
    simp only [Act.put,gA,gB,gC,gD,gE,gF]
    rw [Z8]
    refine Jl 10 (.pointer (some ⟨w1.heap.size,6,none⟩)) trivial ?_
    simp only [Act.put,gA,gB,gC,gD,gE,gF]
    have Rb:ag BS w1.heap.size 24 (N7 38 0 0 ⟨#[]⟩ ⟨#[]⟩ (hdp s) (.slice A1 aU.length c1)):=fO.gr Mm (fun e=>e.elim (fun e=>by omega) (fun e=>iH.1 _ e dO))
    refine oI 11 rfl (tu _ _ _ _ _ _ _ w1.heap.size 6 (.slice A1 aU.length c1) _ ((aU:List Tr).length+1) c64 rfl rfl (Rb.cell 6) (Rb.frozen 6) (And.intro trivial ?_))
    simp only [Act.put,gA,gB,gC,gD,gE,gF]
    refine eZ ?_
    obtain ⟨BR,hW⟩:=aS (BS.setCell ⟨w1.heap.size,6,none⟩ (.slice Ra ((aU:List Tr).length+1) c64))
    have hgw:Gr (fun q=>q=w1.heap.size) BS BR:=hW▸Gr.setCell (S:=fun q=>q=w1.heap.size) (p:=⟨w1.heap.size,6,none⟩) (Gr.refl BS) (.inr rfl) _
    have Mq:Gr (fun q=>q=E.b\/q=w1.heap.size\/(Value.slice A1 aU.length c1).ownBlock=some q) iP BR:=(Mm.mono (fun q _ e=>e.imp id .inr)).trans (hgw.mono (fun q _ e=>.inr (.inl e)))
    have Fz:RS E BR s1:=zV.gr hgw (by show ¬E.b=w1.heap.size;omega) (by show ¬E.g=w1.heap.size;omega)
    have yU:Gr (·=E.b) w BR:=lC (v:=.slice A1 aU.length c1) pz Mq (by omega) aag
    have Mr:∀q,(Value.slice Ra ((aU:List Tr).length+1) c64).ownBlock=some q->w.heap.size<=q:=fun q hq=>(Q9 q hq).elim (aag q) (fun h=>by have:=pz.size;omega)
    have pF:ag BR w1.heap.size 24 (N7 38 0 0 ⟨#[]⟩ ⟨#[]⟩ (hdp s) (.slice Ra ((aU:List Tr).length+1) c64)):=hW▸ag.jC Rb _
    have qZ:ah BR E.L (fun q=>q<=w1.heap.size) (.slice Ra ((aU:List Tr).length+1) c64) (aU ++ [Tr.mk 39 0 0 [] (ay sx) (hdp sx) [t1]]):=hW▸rR.setCell (p:=⟨w1.heap.size,6,none⟩) (.inr dO) _
    have zW:ag BR w.heap.size 24 Z7:=Mq.blk oK (fun e=>e.elim (fun e=>by omega) (fun e=>e.elim (fun e=>by omega) (fun e=>iH.1 _ e cB)))
    have aec:=Mq.size
    rw [hW]
    clear hW hgw Mm zV rR Q9 Rb Z8
    obtain ⟨bN,jf⟩:=aS (aU ++ [Tr.mk 39 0 0 [] (ay sx) (hdp sx) [t1]])
    have uZ:bN.length=(aU:List Tr).length+1:=by rw [<-jf,List.length_append];rfl
    rw [jf,<-uZ] at qZ
    rw [<-uZ] at pF
    try rw [<-uZ] at Mr
    have aah:=af uZ
    have aai:=af jf
    clear uZ jf
    cases hi2:bX [44] s1 with
    |false=>
     have HI2:=af hi2
     have hq:=HQ.out
     simp only [hi2,Bool.false_eq_true,if_false,Option.some.injEq,Prod.mk.injEq,Tr.add,aai.out] at hq
     obtain ⟨rfl,rfl⟩:=hq
     clear hi2
     go_wp2_with (first
      |(go_at_call 27;(with_reducible refine (au E _ s1 aB [44] ⟨#[44]⟩ rfl).mono ?_);rintro e zB ⟨rfl,iR⟩;rw [HI2.out];have Cu:=bA Fz iR;have uI:=aL yU iR;have vU:=bV zW iR;have mX:ag zB w1.heap.size 24 (N7 38 0 0 ⟨#[]⟩ ⟨#[]⟩ (hdp s) (.slice Ra bN.length c64)):=ag.aC bz iR;have nN:ah zB E.L (fun q=>q<=w1.heap.size) (.slice Ra bN.length c64) bN:=ah.aC nR iR)
      |(go_at_call 25;(with_reducible refine (aA E _ s1 aB [125] ⟨#[125]⟩ rfl).mono ?_);rintro e DV ⟨rfl,sI,jH⟩;have ug:=bP uI jH;have vV:=vU.call jH (by omega);obtain ⟨_,ajd,aje,ajf,ajg,ajh,aji,ajj,ajk⟩:=vV.av;have jQ:=mX.call jH (by omega);obtain ⟨_,aed,aee,aef,aeg,aeh,aei,aaj,_⟩:=jQ.av;have kL:=dU nN jH))
     exact aX Tryz.results114 rfl rfl dS ⟨aJ,aB,38,0,0,[],[],(hdp s),bN,Ra,c64,rfl,rfl,(ah.up (lo:=E.L) (X:=(fun q=>q<=w1.heap.size)) (v:=.slice Ra bN.length c64) (ks:=bN) uu (fun q hq=>by have:¬q<=w1.heap.size:=hq;omega))⟩
    |true=>
     have HI2:=af hi2
     have hq:=HQ.out
     simp only [hi2,if_true,Tr.add,aai.out] at hq
     have Cq:=af hq
     clear hi2 hq
     cases hi3:bX [125] (aj [44] s1) with
     |true=>
      have HI3:=af hi3
      have hcs:=show jN [125] s1=fE 5 (aj [44] s1) from by unfold jN;rw [hi3];rfl
      have Oy:=af hcs
      clear hi3 hcs
      go_wp2_with (first
       |(go_at_call 27;(with_reducible refine (au E _ s1 aB [44] ⟨#[44]⟩ rfl).mono ?_);rintro e zB ⟨rfl,iR⟩;rw [HI2.out];have Cu:=bA Fz iR;have uI:=aL yU iR;have V8:=iR.size;(try simp at V8);have vU:=bV zW iR;have mX:ag zB w1.heap.size 24 (N7 38 0 0 ⟨#[]⟩ ⟨#[]⟩ (hdp s) (.slice Ra bN.length c64)):=ag.aC bz iR;have nN:ah zB E.L (fun q=>q<=w1.heap.size) (.slice Ra bN.length c64) bN:=ah.aC nR iR)
       |(go_at_call 25;(with_reducible refine (aA E _ s1 aB [44] ⟨#[44]⟩ rfl).mono ?_);rintro e DV ⟨rfl,sI,jH⟩;have ug:=bP uI jH;have V9:=jH.size;(try simp at V9);have vV:=vU.call jH (by omega);have jQ:=mX.call jH (by omega);have kL:=dU nN jH)
       |(go_at_call 27;(with_reducible refine (au E _ (aj [44] s1) aB [125] ⟨#[125]⟩ rfl).mono ?_);rintro e yD ⟨rfl,nO⟩;rw [HI3.out];have FB:RS E yD (aj [44] s1):=RS.below aB nO;have xU:=aL ug nO;have Wd:=nO.size;(try simp at Wd);have zX:=vV.aC nO;have nP:=jQ.aC nO;have mF:=mR kL nO)
       |(go_at_call 47;(with_reducible refine (kV E _ (aj [44] s1) aB 5).mono ?_);rintro e w68 ⟨rfl,FC,qG⟩;have FD:=bP xU qG;have ahg:=qG.size;(try simp at ahg);have O0:=zX.call qG (by omega);have rU:=nP.call qG (by omega);have tL:=dU mF qG))
      go_roundg f
      case measure=>omega
      case rel=>exact ⟨bN,Ra,c64,_,FC,rU,O0,tL,FD,Mr,by have:=aah.out;omega,by omega,by omega,by rw [<-Oy.out];exact Cq.out⟩
     |false=>
      have HI3:=af hi3
      have hcs:=show jN [125] s1=aj [44] s1 from by unfold jN;rw [hi3];rfl
      have Oy:=af hcs
      clear hi3 hcs
      go_wp2_with (first
       |(go_at_call 27;(with_reducible refine (au E _ s1 aB [44] ⟨#[44]⟩ rfl).mono ?_);rintro e zB ⟨rfl,iR⟩;rw [HI2.out];have Cu:=bA Fz iR;have uI:=aL yU iR;have V8:=iR.size;(try simp at V8);have vU:=bV zW iR;have mX:ag zB w1.heap.size 24 (N7 38 0 0 ⟨#[]⟩ ⟨#[]⟩ (hdp s) (.slice Ra bN.length c64)):=ag.aC bz iR;have nN:ah zB E.L (fun q=>q<=w1.heap.size) (.slice Ra bN.length c64) bN:=ah.aC nR iR)
       |(go_at_call 25;(with_reducible refine (aA E _ s1 aB [44] ⟨#[44]⟩ rfl).mono ?_);rintro e DV ⟨rfl,sI,jH⟩;have ug:=bP uI jH;have V9:=jH.size;(try simp at V9);have vV:=vU.call jH (by omega);have jQ:=mX.call jH (by omega);have kL:=dU nN jH)
       |(go_at_call 27;(with_reducible refine (au E _ (aj [44] s1) aB [125] ⟨#[125]⟩ rfl).mono ?_);rintro e yD ⟨rfl,nO⟩;rw [HI3.out];have FB:RS E yD (aj [44] s1):=RS.below aB nO;have xU:=aL ug nO;have Wd:=nO.size;(try simp at Wd);have zX:=vV.aC nO;have nP:=jQ.aC nO;have mF:=mR kL nO))
      go_roundg f
      case measure=>omega
      case rel=>exact ⟨bN,Ra,c64,_,FB,nP,zX,mF,xU,Mr,by have:=aah.out;omega,by omega,by omega,by rw [<-Oy.out];exact Cq.out⟩
abbrev dQ (s:St):St:=aj [99,111,110,115,116] s
abbrev PO (s:St):St:=aG (dQ s)
abbrev uP (s:St):St:=aj [61] (PO s)
theorem vo (l:List T):kind l=(hd l).1.k:=by cases l <;> rfl
theorem Kr:VV:=by
 intro E w s h
 have hlt:=h.lt
 have hgt:=h.iy
 have hR0:=h
 obtain ⟨tr,s',hcm⟩:∃t s',lq s=(t,s'):=⟨_,_,rfl⟩
 have HCM:=af hcm
 rw [hcm]
 clear hcm
 cases hm:bX [45] (uP s) with
 |true=>
  have HM:=af hm
  have hms:o9 s=aj [45] (uP s):=by unfold o9;rw [hm];rfl
  clear hm
  go_enter Tryz.func49,Tryz.ntmps49
  go_wp2_with (first
   |(go_at_call 25;(with_reducible refine (aA E _ s aB [99,111,110,115,116] ⟨#[99,111,110,115,116]⟩ rfl).mono ?_);rintro e w1 ⟨rfl,fB,hg1⟩;have hG1:Gr (·=E.b) w w1:=Gr.trans aJ (Gr.mono hg1 (fun _ _ e=>e));have az:ag w1 w.heap.size 24 Z7:=bU hg1)
   |(go_at_call 26;(with_reducible refine (dR E _ (dQ s) aB).mono ?_);rintro e w2 ⟨rfl,hR2,hg2⟩;have hG2:=bP hG1 hg2;have ou:=hR2.lt;have ql:=hR2.iy;have ax:=az.call hg2 (by omega);have jT:=ax.lt)
   |(go_at_call 25;(with_reducible refine (aA E _ (PO s) aB [61] ⟨#[61]⟩ rfl).mono ?_);rintro e w3 ⟨rfl,gZ,hg3⟩;have hG3:=bP hG2 hg3;have aF:=aD ax hg3;have aM:ag w3 w2.heap.size 24 (N7 3 0 0 ⟨#[]⟩ (bs (ay (dQ s))) (hdp (dQ s)) (.slice none 0 0)):=bU hg3)
   |(go_at_call 27;(with_reducible refine (au E _ (uP s) aB [45] ⟨#[45]⟩ rfl).mono ?_);rintro e w4 ⟨rfl,hg4⟩;rw [HM.out];have jb:RS E w4 (uP s):=RS.below aB hg4;have hG4:=aL hG3 hg4;have aK:=aF.aC hg4;have aW:=aM.aC hg4)
   |(go_at_call 25;(with_reducible refine (aA E _ (uP s) aB [45] ⟨#[45]⟩ rfl).mono ?_);rintro e w5 ⟨rfl,jF,hg5⟩;have iw:=bP hG4 hg5;have Js:=jF.lt;have Jt:=jF.iy;have aT:=aK.call hg5 (by omega);have aR:=aW.call hg5 (by omega)))
  have fT:w2.heap.size≠E.b:=by omega
  have kG:w2.heap.size≠E.g:=by omega
  obtain ⟨s4,hs4⟩:=aS (aj [45] (uP s))
  rw [hs4] at jF hms
  have HMS:=af hms
  clear hs4 hms
  obtain ⟨j,hj,hjl,acL,acM,_,Zu,_,acN,_,aif,_⟩:=jF.here
  have hll:=jF.len
  have j0:(0:Int)<=(j:Int):=by omega
  have j1:(j:Int) < (E.ts.length:Int):=by omega
  have j2:(j:Int)<=8193:=by omega
  clear hj hll
  have HC:=af (show ∀b:Bool,(decide (s4.e=0) && !decide (kind s4.l=3))=b->Value.bool b=Value.bool (decide (s4.e=0) && !decide (kind s4.l=3)) from fun b h=>by rw [h])
  refine mM (S:=fun V=>Gr (fun _=>False) w5 V) (fun vals W=>vals 18= .bool (decide (s4.e=0) && !decide (kind s4.l=3))/\RS E W s4/\Gr (·=E.b) w W/\ag W w2.heap.size 24 (N7 3 0 0 ⟨#[]⟩ (bs (ay (dQ s))) (hdp (dQ s)) (.slice none 0 0))/\ag W w.heap.size 24 Z7/\w5.heap.size<=W.heap.size) (by kernel_rfl) (Gr.refl _).drew (fun hS0=>?qY) ?hk
  case qY=>
   obtain ⟨w6,Au⟩:=aS w5.drew
   rw [Au] at hS0 |-
   have ow:Gr (fun q=>False) w5 w6:=hS0
   clear hS0
   have lu:=dJ Au (RS.drew jF)
   have iX:=bK Au (Gr.drew iw)
   have hs6:w5.heap.size+0<=w6.heap.size:=by rw [<-Au];exact Nat.le_refl _
   have bn:=aP Au (ag.drew aT)
   have bE:=aP Au (ag.drew aR)
   by_cases he:s4.e=0
   case neg=>
    have pR:(decide (s4.e=0) && !decide (kind s4.l=3))=false:=by rw [decide_eq_false he];rfl
    have ce:(s4.e == 0)=false:=by simpa using he
    clear he
    refine aQ 0 ow ?_
    refine aQ 1 ow ?_
    refine aQ 2 ow ?_
    refine jS 3 ow ?_ (fun w' hS=>(hS.cell (p:=⟨E.b,3,none⟩) (by show E.b < _;omega) id).trans Zu)
    refine aQ 4 ow ?_
    refine aQ 5 ow ?_
    refine lg 6 ow ?_
    refine lg 7 ow ?_
    refine lg 8 ow ?_
    refine lg 9 ow ?_
    refine lg 10 ow ?_
    refine lg 11 ow ?_
    refine lg 12 ow ?_
    refine lg 13 ow ?_
    refine lg 14 ow ?_
    refine lg 15 ow ?_
    refine lg 16 ow ?_
    refine lg 17 ow ?_
    refine aQ 18 ow ?_
    refine eZ ?_
    refine PQ.mk (fun i=>match i with|0=>.pointer (some ⟨E.b,0,none⟩)|1=>.pointer (some ⟨E.b,0,none⟩)|2=>.pointer (some ⟨E.b,3,none⟩)|3=>.int .i64 s4.e|4=>.bool false|5=>.bool false|6=>undef|7=>undef|8=>undef|9=>undef|10=>undef|11=>undef|12=>undef|13=>undef|14=>undef|15=>undef|16=>undef|17=>undef|18=>.bool false|_=>undef) (by kernel_rfl) ?_
    exact ⟨HC.out _ pR,lu,iX,bE,bn,by omega⟩
   have ce:(s4.e == 0)=true:=by simpa using he
   by_cases hk:kind s4.l=3
   ·have pR:(decide (s4.e=0) && !decide (kind s4.l=3))=false:=by rw [decide_eq_true hk];simp
    have ck:((hd s4.l).1.k != 3)=false:=by rw [<-vo];simpa using hk
    clear he hk
    refine aQ 0 ow ?_
    refine aQ 1 ow ?_
    refine aQ 2 ow ?_
    refine jS 3 ow ?_ (fun w' hS=>(hS.cell (p:=⟨E.b,3,none⟩) (by show E.b < _;omega) id).trans Zu)
    refine aQ 4 ow ?_
    refine aQ 5 ow ?_
    refine iV 6 ow ?_
    refine iV 7 ow ?_
    refine iV 8 ow ?_
    refine mQ 9 ow ?_ (fun w' hS=>(hS.cell (p:=⟨E.b,0,none⟩) (by show E.b < _;omega) id).trans acL)
    refine iV 10 ow ?_
    refine iV 11 ow ?_
    refine iV 12 ow ?_
    refine mQ 13 ow ?_ (fun w' hS=>(hS.cell (p:=⟨E.b,1,none⟩) (by show E.b < _;omega) id).trans acM)
    refine iV 14 ow ?_
    refine iV 15 ow ?_
    refine mQ 16 ow ?_ (fun w' hS=>(hS.cell (p:=⟨E.g,j*4,none⟩) (by show E.g < _;omega) id).trans acN)
    refine iV 17 ow ?_
    refine aQ 18 ow ?_
    refine eZ ?_
    refine PQ.mk (fun i=>match i with|0=>.pointer (some ⟨E.b,0,none⟩)|1=>.pointer (some ⟨E.b,0,none⟩)|2=>.pointer (some ⟨E.b,3,none⟩)|3=>.int .i64 s4.e|4=>.bool true|5=>.bool true|6=>.pointer (some ⟨E.b,0,none⟩)|7=>.pointer (some ⟨E.b,0,none⟩)|8=>.pointer (some ⟨E.b,0,none⟩)|9=>.slice (some ⟨E.g,0,none⟩) E.ts.length E.c|10=>.pointer (some ⟨E.b,0,none⟩)|11=>.pointer (some ⟨E.b,0,none⟩)|12=>.pointer (some ⟨E.b,1,none⟩)|13=>.int .i64 j|14=>.pointer (some ⟨E.g,j*4,none⟩)|15=>.pointer (some ⟨E.g,j*4,none⟩)|16=>.int .i64 (hd s4.l).1.k|17=>.bool false|18=>.bool false|_=>undef) (by kernel_rfl) ?_
    exact ⟨HC.out _ pR,lu,iX,bE,bn,by omega⟩
   ·have pR:(decide (s4.e=0) && !decide (kind s4.l=3))=true:=by rw [decide_eq_true he,decide_eq_false hk];rfl
    have ck:((hd s4.l).1.k != 3)=true:=by rw [<-vo];simpa using hk
    clear he hk
    refine aQ 0 ow ?_
    refine aQ 1 ow ?_
    refine aQ 2 ow ?_
    refine jS 3 ow ?_ (fun w' hS=>(hS.cell (p:=⟨E.b,3,none⟩) (by show E.b < _;omega) id).trans Zu)
    refine aQ 4 ow ?_
    refine aQ 5 ow ?_
    refine iV 6 ow ?_
    refine iV 7 ow ?_
    refine iV 8 ow ?_
    refine mQ 9 ow ?_ (fun w' hS=>(hS.cell (p:=⟨E.b,0,none⟩) (by show E.b < _;omega) id).trans acL)
    refine iV 10 ow ?_
    refine iV 11 ow ?_
    refine iV 12 ow ?_
    refine mQ 13 ow ?_ (fun w' hS=>(hS.cell (p:=⟨E.b,1,none⟩) (by show E.b < _;omega) id).trans acM)
    refine iV 14 ow ?_
    refine iV 15 ow ?_
    refine mQ 16 ow ?_ (fun w' hS=>(hS.cell (p:=⟨E.g,j*4,none⟩) (by show E.g < _;omega) id).trans acN)
    refine iV 17 ow ?_
    refine aQ 18 ow ?_
    refine eZ ?_
    refine PQ.mk (fun i=>match i with|0=>.pointer (some ⟨E.b,0,none⟩)|1=>.pointer (some ⟨E.b,0,none⟩)|2=>.pointer (some ⟨E.b,3,none⟩)|3=>.int .i64 s4.e|4=>.bool true|5=>.bool true|6=>.pointer (some ⟨E.b,0,none⟩)|7=>.pointer (some ⟨E.b,0,none⟩)|8=>.pointer (some ⟨E.b,0,none⟩)|9=>.slice (some ⟨E.g,0,none⟩) E.ts.length E.c|10=>.pointer (some ⟨E.b,0,none⟩)|11=>.pointer (some ⟨E.b,0,none⟩)|12=>.pointer (some ⟨E.b,1,none⟩)|13=>.int .i64 j|14=>.pointer (some ⟨E.g,j*4,none⟩)|15=>.pointer (some ⟨E.g,j*4,none⟩)|16=>.int .i64 (hd s4.l).1.k|17=>.bool true|18=>.bool true|_=>undef) (by kernel_rfl) ?_
    exact ⟨HC.out _ pR,lu,iX,bE,bn,by omega⟩
  case hk=>
  rintro vals Kt ⟨Ym,vv,Hg,rX,wB,_⟩
  dsimp only [bG]
  simp only [Act.put,gA,gB,gC,gD,gE,gF]
  rw [Ym]
  clear Ym j0 j1 j2 acL acM Zu acN aif hjl
  have aaN:=vv.lt
  have aaO:=vv.iy
  obtain ⟨_,aaP,aaQ,aaR,aaS,aaT,aaU,aaV,aaW⟩:=wB.av
  obtain ⟨_,aaX,aaY,aaZ,aa0,aa1,aa2,RD,_⟩:=rX.av
  cases pR:(decide (s4.e=0) && !decide (kind s4.l=3)) with
  |true=>
   have hcs:qh s=fE 5 s4:=by unfold qh;rw [HMS.out,pR];rfl
   have PT:(fE 5 s4).e≠0:=by
    simp only [Bool.and_eq_true,decide_eq_true_eq] at pR
    unfold fE;rw [if_pos pR.1];exact (by decide:(5:Int)≠0)
   have MK:=af (show lq s=(.mk 3 0 0 [] (ay (dQ s)) (hdp (dQ s)) [],fE 5 s4) from by unfold lq;rw [hcs,if_neg PT])
   have ce1:((fE 5 s4).e != 0)=true:=by simpa using PT
   clear pR hcs PT
   have Xf:=af (congrArg Prod.fst (HCM.out.symm.trans MK.out))
   have Xg:=af (congrArg Prod.snd (HCM.out.symm.trans MK.out))
   go_wp2_with (first
    |(go_at_call 47;(with_reducible refine (kV E _ s4 aB 5).mono ?_);rintro e vD ⟨rfl,Hl,xg⟩;have DY:Gr (·=E.b) w vD:=Gr.trans aJ (Gr.mono xg (fun _ _ e=>e));have mZ:ag vD w.heap.size 24 Z7:=bU xg;obtain ⟨_,RF,RG,RH,RI,RJ,RL,RN,RO⟩:=mZ.av;have oM:ag vD w2.heap.size 24 (N7 3 0 0 ⟨#[]⟩ (bs (ay (dQ s))) (hdp (dQ s)) (.slice none 0 0)):=bU xg;obtain ⟨_,aa3,aa4,aa5,aa6,aa7,aa8,aa9,_⟩:=oM.av;obtain ⟨_,_,_,_,_,_,afw,_⟩:=Hl.here))
   exact aX Tryz.results49 rfl rfl dS ⟨aJ,(by rw [Xg.out];exact aB),3,0,0,[],(ay (dQ s)),(hdp (dQ s)),[],none,0,Xf.out,rfl,aI.nil _ _ 0⟩
  |false=>
  have hcs:qh s=s4:=by unfold qh;rw [HMS.out,pR];rfl
  obtain ⟨jq,hjq,hjl,e0,e1,_,e3,_,y0,_,y2,_,ef⟩:=vv.here
  by_cases he:s4.e=0
  case neg=>
   have MK:=af (show lq s=(.mk 3 0 0 [] (ay (dQ s)) (hdp (dQ s)) [],s4) from by unfold lq;rw [hcs,if_neg he])
   have ce1:(s4.e != 0)=true:=by simpa using he
   clear pR hcs he
   have Xf:=af (congrArg Prod.fst (HCM.out.symm.trans MK.out))
   have Xg:=af (congrArg Prod.snd (HCM.out.symm.trans MK.out))
   go_wp2
   exact aX Tryz.results49 rfl rfl dS ⟨aJ,(by rw [Xg.out];exact aB),3,0,0,[],(ay (dQ s)),(hdp (dQ s)),[],none,0,Xf.out,rfl,aI.nil _ _ 0⟩
  have hk3:kind s4.l=3:=by rw [decide_eq_true he] at pR;simpa using pR
  have HKK:=af (show (hd s4.l).1.k≠0 from by rw [<-vo,hk3];decide)
  have ce1:(s4.e != 0)=false:=by simpa using he
  have Ku:=vv.ZK
  have Xh:=Ku.1
  have Xi:=Ku.2
  obtain ⟨N,hN⟩:=aS (hd s4.l).1.n
  rw [hN] at y2 Xh Xi
  have MK:=af (show lq s=(.mk 3 0 (- N) [] (ay (dQ s)) (hdp (dQ s)) [],aj [59] s4.tl) from by unfold lq;rw [hcs,if_pos he,HM.out];simp only [if_true,hdn,hN])
  have hll:=vv.len
  have j0:(0:Int)<=(jq:Int):=by omega
  have j1:(jq:Int) < (E.ts.length:Int):=by omega
  have j2:(jq:Int)<=8193:=by omega
  have Xf:=af (congrArg Prod.fst (HCM.out.symm.trans MK.out))
  have Xg:=af (congrArg Prod.snd (HCM.out.symm.trans MK.out))
  have ML:=e0
  have MM:=e1
  have MN:=y2
  clear pR hcs he hk3 Ku hN hll hjl hjq
  go_wp2
  refine wp_region_held_drew (S:=fun V=>Gr (fun q=>q=w2.heap.size) Kt V) (by kernel_rfl) (Gr.refl _).drew (fun hS0=>?_)
  obtain ⟨vD,yc⟩:=aS Kt.drew
  rw [yc] at hS0 |-
  have nH:Gr (fun q=>q=w2.heap.size) Kt vD:=hS0
  clear hS0
  have Hl:=dJ yc (RS.drew vv)
  have DY:=bK yc (Gr.drew Hg)
  have mZ:=aP yc (ag.drew wB)
  have oM:=aP yc (ag.drew rX)
  refine aQ 0 nH ?_
  refine aQ 1 nH ?_
  refine aQ 2 nH ?_
  refine jS 3 nH ?_ (fun w' hS=>(hS.cell (p:=⟨E.b,0,none⟩) (by show E.b < _;omega) (by show ¬(E.b=w2.heap.size);omega)).trans ML)
  refine aQ 4 nH ?_
  refine aQ 5 nH ?_
  refine aQ 6 nH ?_
  refine jS 7 nH ?_ (fun w' hS=>(hS.cell (p:=⟨E.b,1,none⟩) (by show E.b < _;omega) (by show ¬(E.b=w2.heap.size);omega)).trans MM)
  refine aQ 8 nH ?_
  refine aQ 9 nH ?_
  refine jS 10 nH ?_ (fun w' hS=>(hS.cell (p:=⟨E.g,jq*4+2,none⟩) (by show E.g < _;omega) (by show ¬(E.g=w2.heap.size);omega)).trans MN)
  refine aQ 11 nH ?_
  refine qO 12 ?_
  obtain ⟨Dj,F6⟩:=aS (vD.setCell ⟨w2.heap.size,2,none⟩ (.int .i64 N))
  have wK:Gr (fun q=>q=w2.heap.size) vD Dj:=F6▸Gr.setCell (S:=fun q=>q=w2.heap.size) (p:=⟨w2.heap.size,2,none⟩) (Gr.refl vD) (.inr rfl) _
  have Kv:ag Dj w2.heap.size 24 (N7 3 0 N ⟨#[]⟩ (bs (ay (dQ s))) (hdp (dQ s)) (.slice none 0 0)):=F6▸ag.set2 oM _
  have F7:ag Dj w.heap.size 24 Z7:=mZ.gr wK (by show ¬w.heap.size=w2.heap.size;omega)
  have Xj:RS E Dj s4:=Hl.gr wK (by show ¬E.b=w2.heap.size;omega) (by show ¬E.g=w2.heap.size;omega)
  have acO:Gr (·=E.b) w Dj:=Gr.wide DY wK (fun q hq e=>by omega)
  obtain ⟨_,_,_,aih,_,_,_,_,aii⟩:=oM.av
  have PU:Gr (fun q=>q=w2.heap.size) Kt Dj:=nH.trans wK
  refine mU (w':=Dj) (by rw [<-F6];unfold execOp;go_simp) (And.intro PU ?_)
  simp only [Act.put,gA,gB,gC,gD,gE,gF]
  refine eZ ?_
  obtain ⟨_,_,_,alV,_,_,_,_,alW⟩:=Kv.av
  obtain ⟨jq2,Xk,acP,_,e1b,_,_,_,_,_,_,_,U6⟩:=Xj.here
  have Am:=U6 1
  have hll:=Xj.len
  have i0:(0:Int)<=(jq2:Int):=by omega
  have i2:(jq2:Int)<=8193:=by omega
  have aaq:ag (Dj.setCell ⟨w2.heap.size,2,none⟩ (.int .i64 (- N))) w2.heap.size 24 #[.int .i64 3,.int .i64 0,.int .i64 (- N),.string ⟨#[]⟩,.string (bs (ay (dQ s))),.int .i64 (hdp (dQ s)),.slice none 0 0]:=ag.set2 Kv _
  have hwn:IntKind.i64.wrap (- N)= - N:=by rw [IntKind.wrap_i64];omega
  have wZ:RS E (Dj.setCell ⟨w2.heap.size,2,none⟩ (.int .i64 (- N))) s4:=aB
  have iY:=ic wZ HKK.out
  have dN:Gr (·=E.b) w ((Dj.setCell ⟨w2.heap.size,2,none⟩ (.int .i64 (- N))).setCell ⟨E.b,1,none⟩ (.int .i64 ((E.ts.length - s4.l.length:Nat)+1:Int))):=vK aJ 1 _
  rw [Xk] at iY dN
  clear Xk wZ U6 acP hll e0 e1 e3 y0 y2 ef ML MM MN
  go_wp2_with (first
   |(go_at_call 25;(with_reducible refine (aA E _ s4.tl aB [59] ⟨#[59]⟩ rfl).mono ?_);rintro e w43 ⟨rfl,aij,PV⟩;have aik:=bP dN PV;have PW:=aD F7 PV;obtain ⟨_,afx,afy,afz,afA,afB,afC,afD,afE⟩:=PW.av;have PX:=aD aaq PV;obtain ⟨_,afF,afG,afH,afI,afJ,afK,afL,_⟩:=PX.av))
  exact aX Tryz.results49 rfl rfl dS ⟨aJ,(by rw [Xg.out];exact aB),3,0,(- N),[],(ay (dQ s)),(hdp (dQ s)),[],none,0,Xf.out,rfl,aI.nil _ _ 0⟩
 |false=>
  have HM:=af hm
  have hms:o9 s=(uP s):=by unfold o9;rw [hm];rfl
  clear hm
  go_enter Tryz.func49,Tryz.ntmps49
  go_wp2_with (first
   |(go_at_call 25;(with_reducible refine (aA E _ s aB [99,111,110,115,116] ⟨#[99,111,110,115,116]⟩ rfl).mono ?_);rintro e w1 ⟨rfl,fB,hg1⟩;have hG1:Gr (·=E.b) w w1:=Gr.trans aJ (Gr.mono hg1 (fun _ _ e=>e));have az:ag w1 w.heap.size 24 Z7:=bU hg1)
   |(go_at_call 26;(with_reducible refine (dR E _ (dQ s) aB).mono ?_);rintro e w2 ⟨rfl,hR2,hg2⟩;have hG2:=bP hG1 hg2;have ou:=hR2.lt;have ql:=hR2.iy;have ax:=az.call hg2 (by omega);have jT:=ax.lt)
   |(go_at_call 25;(with_reducible refine (aA E _ (PO s) aB [61] ⟨#[61]⟩ rfl).mono ?_);rintro e w3 ⟨rfl,gZ,hg3⟩;have hG3:=bP hG2 hg3;have aF:=aD ax hg3;have aM:ag w3 w2.heap.size 24 (N7 3 0 0 ⟨#[]⟩ (bs (ay (dQ s))) (hdp (dQ s)) (.slice none 0 0)):=bU hg3)
   |(go_at_call 27;(with_reducible refine (au E _ (uP s) aB [45] ⟨#[45]⟩ rfl).mono ?_);rintro e w4 ⟨rfl,hg4⟩;rw [HM.out];have jb:RS E w4 (uP s):=RS.below aB hg4;have hG4:=aL hG3 hg4;have LM:=jb.lt;have JK:=jb.iy;have aK:=aF.aC hg4;have aW:=aM.aC hg4))
  have fT:w2.heap.size≠E.b:=by omega
  obtain ⟨s4,hs4⟩:=aS (uP s)
  rw [hs4] at jb hms
  have HMS:=af hms
  clear hs4 hms
  obtain ⟨j,hj,hjl,acQ,acR,_,Zv,_,acS,_,ail,_⟩:=jb.here
  have hll:=jb.len
  have j0:(0:Int)<=(j:Int):=by omega
  have j1:(j:Int) < (E.ts.length:Int):=by omega
  have j2:(j:Int)<=8193:=by omega
  clear hj hll
  have HC:=af (show ∀b:Bool,(decide (s4.e=0) && !decide (kind s4.l=3))=b->Value.bool b=Value.bool (decide (s4.e=0) && !decide (kind s4.l=3)) from fun b h=>by rw [h])
  refine mM (S:=fun V=>Gr (fun _=>False) w4 V) (fun vals W=>vals 18= .bool (decide (s4.e=0) && !decide (kind s4.l=3))/\RS E W s4/\Gr (·=E.b) w W/\ag W w2.heap.size 24 (N7 3 0 0 ⟨#[]⟩ (bs (ay (dQ s))) (hdp (dQ s)) (.slice none 0 0))/\ag W w.heap.size 24 Z7/\w4.heap.size<=W.heap.size) (by kernel_rfl) (Gr.refl _).drew (fun hS0=>?qY) ?hk
  case qY=>
   obtain ⟨w5,uw⟩:=aS w4.drew
   rw [uw] at hS0 |-
   have hS5:Gr (fun q=>False) w4 w5:=hS0
   clear hS0
   have jF:=dJ uw (RS.drew jb)
   have iw:=bK uw (Gr.drew hG4)
   have hs5:w4.heap.size+0<=w5.heap.size:=by rw [<-uw];exact Nat.le_refl _
   have aT:=aP uw (ag.drew aK)
   have aR:=aP uw (ag.drew aW)
   by_cases he:s4.e=0
   case neg=>
    have pR:(decide (s4.e=0) && !decide (kind s4.l=3))=false:=by rw [decide_eq_false he];rfl
    have ce:(s4.e == 0)=false:=by simpa using he
    clear he
    refine aQ 0 hS5 ?_
    refine aQ 1 hS5 ?_
    refine aQ 2 hS5 ?_
    refine jS 3 hS5 ?_ (fun w' hS=>(hS.cell (p:=⟨E.b,3,none⟩) (by show E.b < _;omega) id).trans Zv)
    refine aQ 4 hS5 ?_
    refine aQ 5 hS5 ?_
    refine lg 6 hS5 ?_
    refine lg 7 hS5 ?_
    refine lg 8 hS5 ?_
    refine lg 9 hS5 ?_
    refine lg 10 hS5 ?_
    refine lg 11 hS5 ?_
    refine lg 12 hS5 ?_
    refine lg 13 hS5 ?_
    refine lg 14 hS5 ?_
    refine lg 15 hS5 ?_
    refine lg 16 hS5 ?_
    refine lg 17 hS5 ?_
    refine aQ 18 hS5 ?_
    refine eZ ?_
    refine PQ.mk (fun i=>match i with|0=>.pointer (some ⟨E.b,0,none⟩)|1=>.pointer (some ⟨E.b,0,none⟩)|2=>.pointer (some ⟨E.b,3,none⟩)|3=>.int .i64 s4.e|4=>.bool false|5=>.bool false|6=>undef|7=>undef|8=>undef|9=>undef|10=>undef|11=>undef|12=>undef|13=>undef|14=>undef|15=>undef|16=>undef|17=>undef|18=>.bool false|_=>undef) (by kernel_rfl) ?_
    exact ⟨HC.out _ pR,jF,iw,aR,aT,by omega⟩
   have ce:(s4.e == 0)=true:=by simpa using he
   by_cases hk:kind s4.l=3
   ·have pR:(decide (s4.e=0) && !decide (kind s4.l=3))=false:=by rw [decide_eq_true hk];simp
    have ck:((hd s4.l).1.k != 3)=false:=by rw [<-vo];simpa using hk
    clear he hk
    refine aQ 0 hS5 ?_
    refine aQ 1 hS5 ?_
    refine aQ 2 hS5 ?_
    refine jS 3 hS5 ?_ (fun w' hS=>(hS.cell (p:=⟨E.b,3,none⟩) (by show E.b < _;omega) id).trans Zv)
    refine aQ 4 hS5 ?_
    refine aQ 5 hS5 ?_
    refine iV 6 hS5 ?_
    refine iV 7 hS5 ?_
    refine iV 8 hS5 ?_
    refine mQ 9 hS5 ?_ (fun w' hS=>(hS.cell (p:=⟨E.b,0,none⟩) (by show E.b < _;omega) id).trans acQ)
    refine iV 10 hS5 ?_
    refine iV 11 hS5 ?_
    refine iV 12 hS5 ?_
    refine mQ 13 hS5 ?_ (fun w' hS=>(hS.cell (p:=⟨E.b,1,none⟩) (by show E.b < _;omega) id).trans acR)
    refine iV 14 hS5 ?_
    refine iV 15 hS5 ?_
    refine mQ 16 hS5 ?_ (fun w' hS=>(hS.cell (p:=⟨E.g,j*4,none⟩) (by show E.g < _;omega) id).trans acS)
    refine iV 17 hS5 ?_
    refine aQ 18 hS5 ?_
    refine eZ ?_
    refine PQ.mk (fun i=>match i with|0=>.pointer (some ⟨E.b,0,none⟩)|1=>.pointer (some ⟨E.b,0,none⟩)|2=>.pointer (some ⟨E.b,3,none⟩)|3=>.int .i64 s4.e|4=>.bool true|5=>.bool true|6=>.pointer (some ⟨E.b,0,none⟩)|7=>.pointer (some ⟨E.b,0,none⟩)|8=>.pointer (some ⟨E.b,0,none⟩)|9=>.slice (some ⟨E.g,0,none⟩) E.ts.length E.c|10=>.pointer (some ⟨E.b,0,none⟩)|11=>.pointer (some ⟨E.b,0,none⟩)|12=>.pointer (some ⟨E.b,1,none⟩)|13=>.int .i64 j|14=>.pointer (some ⟨E.g,j*4,none⟩)|15=>.pointer (some ⟨E.g,j*4,none⟩)|16=>.int .i64 (hd s4.l).1.k|17=>.bool false|18=>.bool false|_=>undef) (by kernel_rfl) ?_
    exact ⟨HC.out _ pR,jF,iw,aR,aT,by omega⟩
   ·have pR:(decide (s4.e=0) && !decide (kind s4.l=3))=true:=by rw [decide_eq_true he,decide_eq_false hk];rfl
    have ck:((hd s4.l).1.k != 3)=true:=by rw [<-vo];simpa using hk
    clear he hk
    refine aQ 0 hS5 ?_
    refine aQ 1 hS5 ?_
    refine aQ 2 hS5 ?_
    refine jS 3 hS5 ?_ (fun w' hS=>(hS.cell (p:=⟨E.b,3,none⟩) (by show E.b < _;omega) id).trans Zv)
    refine aQ 4 hS5 ?_
    refine aQ 5 hS5 ?_
    refine iV 6 hS5 ?_
    refine iV 7 hS5 ?_
    refine iV 8 hS5 ?_
    refine mQ 9 hS5 ?_ (fun w' hS=>(hS.cell (p:=⟨E.b,0,none⟩) (by show E.b < _;omega) id).trans acQ)
    refine iV 10 hS5 ?_
    refine iV 11 hS5 ?_
    refine iV 12 hS5 ?_
    refine mQ 13 hS5 ?_ (fun w' hS=>(hS.cell (p:=⟨E.b,1,none⟩) (by show E.b < _;omega) id).trans acR)
    refine iV 14 hS5 ?_
    refine iV 15 hS5 ?_
    refine mQ 16 hS5 ?_ (fun w' hS=>(hS.cell (p:=⟨E.g,j*4,none⟩) (by show E.g < _;omega) id).trans acS)
    refine iV 17 hS5 ?_
    refine aQ 18 hS5 ?_
    refine eZ ?_
    refine PQ.mk (fun i=>match i with|0=>.pointer (some ⟨E.b,0,none⟩)|1=>.pointer (some ⟨E.b,0,none⟩)|2=>.pointer (some ⟨E.b,3,none⟩)|3=>.int .i64 s4.e|4=>.bool true|5=>.bool true|6=>.pointer (some ⟨E.b,0,none⟩)|7=>.pointer (some ⟨E.b,0,none⟩)|8=>.pointer (some ⟨E.b,0,none⟩)|9=>.slice (some ⟨E.g,0,none⟩) E.ts.length E.c|10=>.pointer (some ⟨E.b,0,none⟩)|11=>.pointer (some ⟨E.b,0,none⟩)|12=>.pointer (some ⟨E.b,1,none⟩)|13=>.int .i64 j|14=>.pointer (some ⟨E.g,j*4,none⟩)|15=>.pointer (some ⟨E.g,j*4,none⟩)|16=>.int .i64 (hd s4.l).1.k|17=>.bool true|18=>.bool true|_=>undef) (by kernel_rfl) ?_
    exact ⟨HC.out _ pR,jF,iw,aR,aT,by omega⟩
  case hk=>
  rintro vals Kt ⟨Ym,vv,Hg,rX,wB,_⟩
  dsimp only [bG]
  simp only [Act.put,gA,gB,gC,gD,gE,gF]
  rw [Ym]
  clear Ym j0 j1 j2 acQ acR Zv acS ail hjl
  have aaN:=vv.lt
  have aaO:=vv.iy
  obtain ⟨_,aaP,aaQ,aaR,aaS,aaT,aaU,aaV,aaW⟩:=wB.av
  obtain ⟨_,aaX,aaY,aaZ,aa0,aa1,aa2,RD,_⟩:=rX.av
  cases pR:(decide (s4.e=0) && !decide (kind s4.l=3)) with
  |true=>
   have hcs:qh s=fE 5 s4:=by unfold qh;rw [HMS.out,pR];rfl
   have PT:(fE 5 s4).e≠0:=by
    simp only [Bool.and_eq_true,decide_eq_true_eq] at pR
    unfold fE;rw [if_pos pR.1];exact (by decide:(5:Int)≠0)
   have MK:=af (show lq s=(.mk 3 0 0 [] (ay (dQ s)) (hdp (dQ s)) [],fE 5 s4) from by unfold lq;rw [hcs,if_neg PT])
   have ce1:((fE 5 s4).e != 0)=true:=by simpa using PT
   clear pR hcs PT
   have Xf:=af (congrArg Prod.fst (HCM.out.symm.trans MK.out))
   have Xg:=af (congrArg Prod.snd (HCM.out.symm.trans MK.out))
   go_wp2_with (first
    |(go_at_call 47;(with_reducible refine (kV E _ s4 aB 5).mono ?_);rintro e vD ⟨rfl,Hl,xg⟩;have DY:Gr (·=E.b) w vD:=Gr.trans aJ (Gr.mono xg (fun _ _ e=>e));have mZ:ag vD w.heap.size 24 Z7:=bU xg;obtain ⟨_,RF,RG,RH,RI,RJ,RL,RN,RO⟩:=mZ.av;have oM:ag vD w2.heap.size 24 (N7 3 0 0 ⟨#[]⟩ (bs (ay (dQ s))) (hdp (dQ s)) (.slice none 0 0)):=bU xg;obtain ⟨_,aa3,aa4,aa5,aa6,aa7,aa8,aa9,_⟩:=oM.av;obtain ⟨_,_,_,_,_,_,afw,_⟩:=Hl.here))
   exact aX Tryz.results49 rfl rfl dS ⟨aJ,(by rw [Xg.out];exact aB),3,0,0,[],(ay (dQ s)),(hdp (dQ s)),[],none,0,Xf.out,rfl,aI.nil _ _ 0⟩
  |false=>
  have hcs:qh s=s4:=by unfold qh;rw [HMS.out,pR];rfl
  obtain ⟨jq,hjq,hjl,e0,e1,_,e3,_,y0,_,y2,_,ef⟩:=vv.here
  by_cases he:s4.e=0
  case neg=>
   have MK:=af (show lq s=(.mk 3 0 0 [] (ay (dQ s)) (hdp (dQ s)) [],s4) from by unfold lq;rw [hcs,if_neg he])
   have ce1:(s4.e != 0)=true:=by simpa using he
   clear pR hcs he
   have Xf:=af (congrArg Prod.fst (HCM.out.symm.trans MK.out))
   have Xg:=af (congrArg Prod.snd (HCM.out.symm.trans MK.out))
   go_wp2
   exact aX Tryz.results49 rfl rfl dS ⟨aJ,(by rw [Xg.out];exact aB),3,0,0,[],(ay (dQ s)),(hdp (dQ s)),[],none,0,Xf.out,rfl,aI.nil _ _ 0⟩
  have hk3:kind s4.l=3:=by rw [decide_eq_true he] at pR;simpa using pR
  have HKK:=af (show (hd s4.l).1.k≠0 from by rw [<-vo,hk3];decide)
  have ce1:(s4.e != 0)=false:=by simpa using he
  have Ku:=vv.ZK
  have Xh:=Ku.1
  have Xi:=Ku.2
  obtain ⟨N,hN⟩:=aS (hd s4.l).1.n
  rw [hN] at y2 Xh Xi
  have MK:=af (show lq s=(.mk 3 0 N [] (ay (dQ s)) (hdp (dQ s)) [],aj [59] s4.tl) from by unfold lq;rw [hcs,if_pos he,HM.out];simp only [Bool.false_eq_true,if_false,hdn,hN])
  have hll:=vv.len
  have j0:(0:Int)<=(jq:Int):=by omega
  have j1:(jq:Int) < (E.ts.length:Int):=by omega
  have j2:(jq:Int)<=8193:=by omega
  have Xf:=af (congrArg Prod.fst (HCM.out.symm.trans MK.out))
  have Xg:=af (congrArg Prod.snd (HCM.out.symm.trans MK.out))
  have ML:=e0
  have MM:=e1
  have MN:=y2
  clear pR hcs he hk3 Ku hN hll hjl hjq
  go_wp2
  refine wp_region_held_drew (S:=fun V=>Gr (fun q=>q=w2.heap.size) Kt V) (by kernel_rfl) (Gr.refl _).drew (fun hS0=>?_)
  obtain ⟨vD,yc⟩:=aS Kt.drew
  rw [yc] at hS0 |-
  have nH:Gr (fun q=>q=w2.heap.size) Kt vD:=hS0
  clear hS0
  have Hl:=dJ yc (RS.drew vv)
  have DY:=bK yc (Gr.drew Hg)
  have mZ:=aP yc (ag.drew wB)
  have oM:=aP yc (ag.drew rX)
  refine aQ 0 nH ?_
  refine aQ 1 nH ?_
  refine aQ 2 nH ?_
  refine jS 3 nH ?_ (fun w' hS=>(hS.cell (p:=⟨E.b,0,none⟩) (by show E.b < _;omega) (by show ¬(E.b=w2.heap.size);omega)).trans ML)
  refine aQ 4 nH ?_
  refine aQ 5 nH ?_
  refine aQ 6 nH ?_
  refine jS 7 nH ?_ (fun w' hS=>(hS.cell (p:=⟨E.b,1,none⟩) (by show E.b < _;omega) (by show ¬(E.b=w2.heap.size);omega)).trans MM)
  refine aQ 8 nH ?_
  refine aQ 9 nH ?_
  refine jS 10 nH ?_ (fun w' hS=>(hS.cell (p:=⟨E.g,jq*4+2,none⟩) (by show E.g < _;omega) (by show ¬(E.g=w2.heap.size);omega)).trans MN)
  refine aQ 11 nH ?_
  refine qO 12 ?_
  obtain ⟨Dj,F6⟩:=aS (vD.setCell ⟨w2.heap.size,2,none⟩ (.int .i64 N))
  have wK:Gr (fun q=>q=w2.heap.size) vD Dj:=F6▸Gr.setCell (S:=fun q=>q=w2.heap.size) (p:=⟨w2.heap.size,2,none⟩) (Gr.refl vD) (.inr rfl) _
  have Kv:ag Dj w2.heap.size 24 (N7 3 0 N ⟨#[]⟩ (bs (ay (dQ s))) (hdp (dQ s)) (.slice none 0 0)):=F6▸ag.set2 oM _
  have F7:ag Dj w.heap.size 24 Z7:=mZ.gr wK (by show ¬w.heap.size=w2.heap.size;omega)
  have Xj:RS E Dj s4:=Hl.gr wK (by show ¬E.b=w2.heap.size;omega) (by show ¬E.g=w2.heap.size;omega)
  have acO:Gr (·=E.b) w Dj:=Gr.wide DY wK (fun q hq e=>by omega)
  obtain ⟨_,_,_,aih,_,_,_,_,aii⟩:=oM.av
  have PU:Gr (fun q=>q=w2.heap.size) Kt Dj:=nH.trans wK
  refine mU (w':=Dj) (by rw [<-F6];unfold execOp;go_simp) (And.intro PU ?_)
  simp only [Act.put,gA,gB,gC,gD,gE,gF]
  refine eZ ?_
  obtain ⟨jq2,Xk,acP,_,e1b,_,_,_,_,_,_,_,U6⟩:=Xj.here
  have Am:=U6 1
  have hll:=Xj.len
  have i0:(0:Int)<=(jq2:Int):=by omega
  have i2:(jq2:Int)<=8193:=by omega
  have wZ:RS E Dj s4:=aB
  have iY:=ic wZ HKK.out
  have dN:Gr (·=E.b) w (Dj.setCell ⟨E.b,1,none⟩ (.int .i64 ((E.ts.length - s4.l.length:Nat)+1:Int))):=vK aJ 1 _
  rw [Xk] at iY dN
  clear Xk wZ U6 acP hll e0 e1 e3 y0 y2 ef ML MM MN
  go_wp2_with (first
   |(go_at_call 25;(with_reducible refine (aA E _ s4.tl aB [59] ⟨#[59]⟩ rfl).mono ?_);rintro e w43 ⟨rfl,aij,PV⟩;have aik:=bP dN PV;have PW:=aD F7 PV;obtain ⟨_,afx,afy,afz,afA,afB,afC,afD,afE⟩:=PW.av;have PX:=aD Kv PV;obtain ⟨_,afF,afG,afH,afI,afJ,afK,afL,_⟩:=PX.av))
  exact aX Tryz.results49 rfl rfl dS ⟨aJ,(by rw [Xg.out];exact aB),3,0,N,[],(ay (dQ s)),(hdp (dQ s)),[],none,0,Xf.out,rfl,aI.nil _ _ 0⟩
end Go.Proofs.YtnhidldofjengaaGreatDoor
