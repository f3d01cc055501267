/- Both parsers, part 8. -/
import Derived.Deep.LoopGhost
import Derived.Test.YtnhidldofjengaaGreatDoorRqS
namespace Go.Proofs.YtnhidldofjengaaGreatDoor
open Go.RowKit
open List renaming getElem_toArray->gA,getElem_cons_zero->gB,getElem_cons_succ->gC,setIfInBounds_toArray->gD,set_cons_zero->gE,set_cons_succ->gF
set_option linter.unusedVariables false
set_option linter.unusedSimpArgs false
set_option maxRecDepth 100000
set_option maxHeartbeats 4000000
section
variable {P : Program} {ops : Array Oper} {Q Q' : Exit -> Act -> World -> Prop}
theorem qz {S:World->Prop} (hp:∀e a w,Q' e a w->Q e a w):∀(n:Nat) (L:Array Bool) (a:Act) (w:World),wpAnyH P .any ops Q' S n L a w->wpAnyH P .any ops Q S n L a w
 |0,_,_,_,h=>⟨h.1,hp _ _ _ h.2⟩
 |n+1,L,a,w,h=>⟨fun h0=>hp _ _ _ (h.1 h0),fun i hi=>by
  have hl:LetsOut Q'->LetsOut Q:=fun ⟨a,w,h⟩=>⟨a,w,hp _ _ _ h⟩
  have h2:=h.2 i hi
  unfold wpOp at h2 |-
  split
  ·rename_i ho
   simp only [ho] at h2
   exact ⟨h2.1,qz hp n _ _ _ h2.2⟩
  ·rename_i o ho
   simp only [ho] at h2
   split
   ·rename_i hw
    simp only [hw,if_true] at h2
    rcases h2 with h2|⟨h2,h3⟩
    ·exact .inl (Oper.wp_mono (fun a' w' h4=>⟨h4.1,qz hp n _ _ _ h4.2⟩) (Lj (fun _ _ _ h=>hp _ _ _ h) hl h2))
    ·exact .inr ⟨h2,hl h3⟩
   ·rename_i hw
    simp only [hw] at h2
    exact ⟨h2.1,qz hp n _ _ _ h2.2⟩⟩
def PQ (l:List Oper) (a0:Act) (post:(Nat->Value)->World->Prop):Exit->Act->World->Prop
 | .normal,a,w=>∃vals,a=bG vals l 0 a0/\post vals w
 |_,_,_=>False
theorem PQ.mk {l:List Oper} {a0 a:Act} {w:World} {post:(Nat->Value)->World->Prop} (vals:Nat->Value) (h:a=bG vals l 0 a0) (hp:post vals w):PQ l a0 post .normal a w:=⟨vals,h,hp⟩
theorem mM {id:Nat} {a0:Act} {w0:World} {S:World->Prop} (post:(Nat->Value)->World->Prop) (hm:P.follows .mixedOrders=true) (hS:S w0.drew)
  (h:S w0.drew->wpAnyH P .any ops (PQ ops.toList a0 post) S ops.size (Array.replicate ops.size false) a0 w0.drew)
  (hk:∀vals w,post vals w->Q .normal (bG vals ops.toList 0 a0) w):(Code.region id ops true).wp P Q a0 w0:=by
 refine wp_region_held_drew hm hS fun hS0=>qz (Q':=PQ ops.toList a0 post) ?_ _ _ _ _ (h hS0)
 intro e a w hp
 cases e with
 |normal=>obtain ⟨vals,rfl,hp⟩:=hp;exact hk vals w hp
 |_=>exact False.elim hp
theorem qW {id:Nat} {a0:Act} {w0:World} {S:World->Prop} (m:Nat) (post:(Nat->Value)->World->Prop) (hm:P.follows .mixedOrders=true) (hB:preB ops m=true) (hS:S w0.drew)
  (h:S w0.drew->wpAnyH P .any (ops.toList.take m).toArray (PQ (ops.toList.take m) a0 post) S m (Array.replicate m false) a0 w0.drew)
  (hk:∀vals w,post vals w->wpAnyH P .any ops Q (fun _=>True) (ops.size - m) (nU m ops.size) (bG vals (ops.toList.take m) 0 a0) w):(Code.region id ops true).wp P Q a0 w0:=by
 refine Dr m hm hB hS fun hS0=>qz (Q':=PQ (ops.toList.take m) a0 post) ?_ _ _ _ _ (h hS0)
 intro e a w hp
 cases e with
 |normal=>obtain ⟨vals,rfl,hp⟩:=hp;exact wpAny_of_held _ _ _ _ (hk vals w hp)
 |_=>exact False.elim hp
theorem J4 {S:World->Prop} {n i j k:Nat} {L:Array Bool} {a:Act} {w:World} {o u v:Oper} (hr:Region.ready .any ops L=[i,j,k]) (ho:ops[i]? =some o) (hg:o.guard=none) (hu:ops[j]? =some u) (hgu:u.guard=none) (hv:ops[k]? =some v) (hgv:v.guard=none)
  (h:o.wp P a w (fun a' w'=>S w'/\wpAnyH P .any ops Q S n (L.setIfInBounds i true) a' w') Q) (h2:u.wp P a w (fun a' w'=>S w'/\wpAnyH P .any ops Q S n (L.setIfInBounds j true) a' w') Q) (h3:v.wp P a w (fun a' w'=>S w'/\wpAnyH P .any ops Q S n (L.setIfInBounds k true) a' w') Q):wpAnyH P .any ops Q S (n+1) L a w:=by
 have one:∀(x:Nat) (o:Oper),ops[x]? =some o->o.guard=none->o.wp P a w (fun a' w'=>S w'/\wpAnyH P .any ops Q S n (L.setIfInBounds x true) a' w') Q->wpOp P ops Q x (fun a' w'=>S w'/\wpAnyH P .any ops Q S n (L.setIfInBounds x true) a' w') a w:=by
  intro x o ho hg h
  unfold wpOp
  have hw:Region.wanted o (yielded ops a.tmps)=true:=by simp [Region.wanted,hg]
  simp only [ho,hw,if_true]
  exact .inl h
 refine wpAnyH_all hr (by simp) fun m hm=>?_
 have hm:m=i\/m=j\/m=k:=by simpa using hm
 rcases hm with rfl|rfl|rfl
 ·exact one _ _ ho hg h
 ·exact one _ _ hu hgu h2
 ·exact one _ _ hv hgv h3
end
theorem ag.sw {w:World} {g:Nat} {v0 v1 v2 v3 v4 v5 v6:Value} (hb:ag w g 24 #[v0,v1,v2,v3,v4,v5,v6]) (q:Nat) (hq:q < 7):∃u,w.cell? ⟨g,0+q,none⟩=some u:=by
 rw [Nat.zero_add]
 obtain ⟨_,h0,h1,h2,h3,h4,h5,h6,_⟩:=hb.av
 rcases (show q=0\/q=1\/q=2\/q=3\/q=4\/q=5\/q=6 by omega) with rfl|rfl|rfl|rfl|rfl|rfl|rfl
 ·exact ⟨_,h0⟩
 ·exact ⟨_,h1⟩
 ·exact ⟨_,h2⟩
 ·exact ⟨_,h3⟩
 ·exact ⟨_,h4⟩
 ·exact ⟨_,h5⟩
 ·exact ⟨_,h6⟩
theorem ag.fA {w:World} {g:Nat} {v0 v1 v2 v3 v4 v5 v6:Value} (hb:ag w g 24 #[v0,v1,v2,v3,v4,v5,v6]) (u0 u1 u2 u3 u4 u5 u6:Value):ag (Go.Proofs.YtnhidldofjengaaGreatDoor.fA w g 0 u0 u1 u2 u3 u4 u5 u6) g 24 #[u0,u1,u2,u3,u4,u5,u6]:=ag.seven hb u0 u1 u2 u3 u4 u5 u6
theorem rJ {ops:Array Oper} {Q:Exit->Act->World->Prop} {L:Array Bool} {a:Act} {w:World} (si ki b h lo g c cc nk at_:Nat) {X:Nat->Prop} {c0 c1 c2 c3 c4 c5 v:Value} {dx us:List Tr} {k op nn:Int} {p t:List UInt8} {A:Option Addr} {x y z:Operand}
  (hr:Region.ready .any ops L=[si,ki]) (hr1:Region.ready .any ops (L.setIfInBounds si true)=[ki]) (hr2:Region.ready .any ops (L.setIfInBounds ki true)=[si]) (hr3:Region.ready .any ops ((L.setIfInBounds si true).setIfInBounds ki true)=[]) (hr4:Region.ready .any ops ((L.setIfInBounds ki true).setIfInBounds si true)=[])
  (hs:∃y0 p0 Ex,ops[si]? =some { dst:=none,op:=.store 24 x y,type:=y0,pos:=p0,after:=Ex,guard:=none })
  (hk:∃y0 p0 Ex,ops[ki]? =some { dst:=none,op:=.store 22 z (.tmp nk),type:=y0,pos:=p0,after:=Ex,guard:=none })
  (hx:a.eval x= .pointer (some ⟨g,dx.length*7,none⟩)) (hy:a.eval y= .agg #[.int .i64 k,.int .i64 op,.int .i64 nn,.string (bs p),.string (bs t),.int .i64 at_,.slice A us.length cc]) (hz:a.eval z= .pointer (some ⟨h,6,none⟩)) (hn:a.eval (.tmp nk)= .slice (some ⟨g,0,none⟩) (dx.length+1) c)
  (hK:ah w lo X (.slice (some ⟨g,0,none⟩) (dx.length+1) c) (dx ++ [eU])) (hR:nW w (fun q=>lo<=q/\q≠g/\¬X q) (.mk k op nn p t at_ us) (GG k op nn p t at_ (.slice A us.length cc))) (dO:X h)
  (hcs:∀j,j < (dx.length+1)*7->∃u,w.cell? ⟨g,j,none⟩=some u) (hfs:∀j,w.frozen? ⟨g,j,none⟩=false) (hB:ag w h 24 #[c0,c1,c2,c3,c4,c5,v])
  (hq:∀w',ah w' lo X (.slice (some ⟨g,0,none⟩) (dx.length+1) c) (dx ++ [.mk k op nn p t at_ us])->Gr (fun q=>q=g\/q=h) w w'->ag w' h 24 #[c0,c1,c2,c3,c4,c5,.slice (some ⟨g,0,none⟩) (dx.length+1) c]->Q .normal (a.put none undef) w'):
  wpAnyH Tryz.prog .any ops Q (fun _=>True) 2 L a w:=by
 obtain ⟨_,_,_,hs⟩:=hs
 obtain ⟨_,_,_,hk⟩:=hk
 have hgh:g≠h:=fun e=>(hK.own rfl).2.2 (e▸dO)
 have gS:∀(w:World),Gr (fun q=>q=g) w (fA w g (dx.length*7) (.int .i64 k) (.int .i64 op) (.int .i64 nn) (.string (bs p)) (.string (bs t)) (.int .i64 at_) (.slice A us.length cc)):=fun w=>fQ (Gr.refl w) (.inr rfl)
 have gK:∀(w:World),Gr (fun q=>q=h) w (w.setCell ⟨h,6,none⟩ (.slice (some ⟨g,0,none⟩) (dx.length+1) c)):=fun w=>Gr.setCell (S:=fun q=>q=h) (p:=⟨h,6,none⟩) (Gr.refl w) (.inr rfl) _
 refine jE hr hs rfl hk rfl ?_ ?_
 ·refine iD _ _ _ _ _ _ _ g (dx.length*7) k op nn p t at_ us.length cc A hx hy (fun q hq=>hcs _ (by omega)) hfs (And.intro trivial ?_)
  have hB2:=(gS w).blk hB (fun e=>hgh e.symm)
  refine vI hr1 hk rfl (tu _ _ _ _ _ _ _ h 6 v _ (dx.length+1) c hz hn (hB2.cell 6) (hB2.frozen 6) (And.intro trivial ?_))
  exact wpAnyH_done hr3 (hq _ ((ah.put hK hR).setCell (.inr dO) _) (((gS w).mono fun q _ e=>.inl e).trans ((gK _).mono fun q _ e=>.inr e)) (hB2.jC _)) _
 ·refine tu _ _ _ _ _ _ _ h 6 v _ (dx.length+1) c hz hn (hB.cell 6) (hB.frozen 6) (And.intro trivial ?_)
  have hK2:ah (w.setCell ⟨h,6,none⟩ (.slice (some ⟨g,0,none⟩) (dx.length+1) c)) lo X (.slice (some ⟨g,0,none⟩) (dx.length+1) c) (dx ++ [eU]):=hK.setCell (.inr dO) _
  have hR2:=hR.gr (gK w) (F':=fun q=>lo<=q/\q≠g/\¬X q) (fun q hq _ he=>hq.2.2 (by have e1:q=h:=he;exact e1▸dO)) (fun q _ hq=>hq)
  obtain ⟨g',hg',_,_,hcs2,ag8⟩:=hK2.kid.some_ (by simp)
  injection hg' with hg'
  injection hg' with hg'
  subst hg'
  refine vI hr2 hs rfl (iD _ _ _ _ _ _ _ g (dx.length*7) k op nn p t at_ us.length cc A hx hy (fun q hq=>hcs2 _ (by simp;omega)) ag8 (And.intro trivial ?_))
  exact wpAnyH_done hr4 (hq _ (ah.put hK2 hR2) (((gK w).mono fun q _ e=>.inr e).trans ((gS _).mono fun q _ e=>.inl e)) ((gS _).blk (hB.jC _) (fun e=>hgh e.symm))) _
theorem Tw (n:Nat) (hn:n+10<=cK) (H:∀m,m<=n->qQ m):CM (n+1) 79 .kind:=by
 intro E w s tr s' h heq
 have hlt:=h.lt
 have hgt:=h.iy
 have Hn:=H n (Nat.le_refl _)
 have hR0:=h
 simp only [m5] at heq
 go_enter Tryz.func79,Tryz.ntmps79
 go_wp2
 refine nG (P:=fun W=>RS E W s/\Gr (·=E.b) w W/\ag W w.heap.size 24 Z7/\w.heap.size+1<=W.heap.size) ⟨aB,aJ,bz,(by first|(simp;done)|(simp;omega))⟩ ?_
 rintro w1 ⟨fB,hG1,az,hs1⟩
 have kW:=fB.lt
 obtain ⟨j,hj,hjl,k0,k1,k2,k3,k4,q0,q1,q2,q3,fz⟩:=fB.here
 have hlt:=fB.lt
 have hgl:=fB.iy
 have hll:=fB.len
 have hne:=fB.ne
 clear fz hj
 obtain ⟨B,hB⟩:=aS E.b
 obtain ⟨G,hG⟩:=aS E.g
 obtain ⟨N,hN⟩:=aS E.ts.length
 obtain ⟨C,hC⟩:=aS E.c
 obtain ⟨so,hso⟩:=aS s.o
 obtain ⟨se,hse⟩:=aS s.e
 obtain ⟨sp,hsp⟩:=aS s.p
 obtain ⟨tk,htk⟩:=aS (hd s.l).1.k
 obtain ⟨tt,rP⟩:=aS (hd s.l).1.t
 obtain ⟨tn,htn⟩:=aS (hd s.l).1.n
 obtain ⟨tp,htp⟩:=aS (hd s.l).2
 rw [hB] at k0 k1 k2 k3 k4 hlt
 rw [hG,hN,hC] at k0
 rw [hso] at k2
 rw [hse] at k3
 rw [hsp] at k4
 rw [hG,htk] at q0
 rw [hG,rP] at q1
 rw [hG,htn] at q2
 rw [hG,htp] at q3
 rw [hG] at hgl
 rw [hN] at hjl hll
 rw [hG,hB] at hne
 have j0:(0:Int)<=(j:Int):=by omega
 have j1:(j:Int) < (N:Int):=by omega
 have j2:(j:Int)<=8193:=by omega
 have Li:=af htk
 have Sq:=af rP
 have U3:=af htn
 have GI:=af htp
 have LW:=af hB
 rw [hB]
 clear hB hG hN hC hso hse hsp htk rP htn htp
 refine wp_region_held_drew (S:=fun V=>Below w1.heap.size w1 V) (by kernel_rfl) (Below.refl _ w1).drew (fun hS0=>?_)
 refine aQ 0 hS0 ?_
 refine aQ 1 hS0 ?_
 refine aQ 2 hS0 ?_
 refine jS 3 hS0 ?_ (fun w' hS=>(hS.cell (p:=⟨B,0,none⟩) hlt).trans k0)
 refine aQ 4 hS0 ?_
 refine aQ 5 hS0 ?_
 refine aQ 6 hS0 ?_
 refine jS 7 hS0 ?_ (fun w' hS=>(hS.cell (p:=⟨B,1,none⟩) hlt).trans k1)
 refine aQ 8 hS0 ?_
 refine oU 9 hS0 ?_ (he:=fun w' hS=>by (have y0:=(hS.cell (p:=⟨G,_,none⟩) hgl).trans q0;have y1:=(hS.cell (p:=⟨G,_,none⟩) hgl).trans q1;have y2:=(hS.cell (p:=⟨G,_,none⟩) hgl).trans q2;have y3:=(hS.cell (p:=⟨G,_,none⟩) hgl).trans q3;unfold execOp;go_simp;first|done|exact rfl))
 refine oI 10 rfl (aY (v:=.pointer (some ⟨w1.heap.size,0,none⟩)) (w':=(w1.drew.alloc (.cells #[.int .i64 0,.string ⟨#[]⟩,.int .i64 0,.int .i64 0] 53))) (by unfold execOp;go_simp) (And.intro ((Below.refl _ w1).drew.alloc (by simp) _) ?_))
 simp only [Act.put,gA,gB,gC,gD,gE,gF]
 obtain ⟨w2,qg⟩:=aS (((((w1.drew.alloc (.cells #[.int .i64 0,.string ⟨#[]⟩,.int .i64 0,.int .i64 0] 53)).setCell ⟨w1.heap.size,0,none⟩ (.int .i64 tk)).setCell ⟨w1.heap.size,1,none⟩ (.string (bs tt))).setCell ⟨w1.heap.size,2,none⟩ (.int .i64 tn)).setCell ⟨w1.heap.size,3,none⟩ (.int .i64 tp))
 have hbw2:Below w1.heap.size w1 w2:=qg▸um w1 _ _ _ _
 have vQ:ag w2 w1.heap.size 53 (T4 tk (bs tt) tn tp):=qg▸uo w1 _ _ _ _
 refine oI 11 rfl (mU (w':=w2) (by rw [<-qg];unfold execOp;go_simp) (And.intro hbw2 ?_))
 simp only [Act.put,gA,gB,gC,gD,gE,gF]
 refine eZ ?_
 clear qg hS0 k0 k1 k2 k3 k4 q0 q1 q2 q3 j0 j1 j2 hjl hll hne hlt hgl
 rw [<-Li.out,<-Sq.out,<-U3.out,<-GI.out] at vQ
 rw [<-LW.out]
 have hR2:RS E w2 s:=fB.below hbw2
 have hG2:Gr (·=E.b) w w2:=Gr.trans hG1 (Gr.of_below hbw2)
 have nT:ag w2 w1.heap.size 53 (T4 ((hd s.l).1.k) (bs (hd s.l).1.t) ((hd s.l).1.n) ((hd s.l).2)):=vQ
 have ax:ag w2 w.heap.size 24 Z7:=ag.aC az hbw2
 clear vQ hbw2
 cases hi0:bX [105,110,116] s with
 |true=>
  have HI1:=af hi0
  have HKK:=af (xz hi0 (by simp)).2.2
  have ht3:Cj s=true:=by unfold Cj;simp [hi0]
  simp only [ht3,if_true,Option.some.injEq,Prod.mk.injEq] at heq
  obtain ⟨rfl,rfl⟩:=heq
  clear ht3 hi0
  go_wp2_with (first
   |(go_at_call 27;(with_reducible refine (au E _ s aB [105,110,116] ⟨#[105,110,116]⟩ rfl).mono ?_);rintro e w3 ⟨rfl,hg3⟩;rw [HI1.out];have gZ:=bA hR2 hg3;have hG3:=aL hG2 hg3;have aF:=bV ax hg3;obtain ⟨_,vM,wQ,wR,wS,wT,wU,wV,vN⟩:=aF.av;have jh:=bV nT hg3;obtain ⟨_,_,amO,_,amP,_⟩:=jh.jX;obtain ⟨jq,hjq,hjl,_,e1,_,_,_,_,_,_,_,ef⟩:=gZ.here;have Am:=ef 1;have hll:=gZ.len;have j0:(0:Int)<=(jq:Int):=(by omega);have j2:(jq:Int)<=8193:=(by omega);clear ef hjl hll;have iY:=ic gZ HKK.out;have dN:Gr (·=E.b) w ((w3).setCell ⟨E.b,1,none⟩ (.int .i64 ((E.ts.length - s.l.length:Nat)+1:Int))):=vK aJ 1 _;rw [hjq] at iY dN;clear hjq))
  exact aX Tryz.results79 rfl rfl dS ⟨aJ,aB,13,0,0,[],(hdt s),(hdp s),[],none,0,rfl,rfl,aI.nil _ _ 0⟩
 |false=>
 cases hi1:bX [98,111,111,108] s with
 |true=>
  have HI2:=af hi1
  have HKK:=af (xz hi1 (by simp)).2.2
  have ht3:Cj s=true:=by unfold Cj;simp [hi0,hi1]
  simp only [ht3,if_true,Option.some.injEq,Prod.mk.injEq] at heq
  obtain ⟨rfl,rfl⟩:=heq
  have HI1:=af hi0
  clear ht3 hi0 hi1
  go_wp2_with (first
   |(go_at_call 27;(with_reducible refine (au E _ s aB [105,110,116] ⟨#[105,110,116]⟩ rfl).mono ?_);rintro e w3 ⟨rfl,hg3⟩;rw [HI1.out];have gZ:=bA hR2 hg3;have hG3:=aL hG2 hg3;have aF:=bV ax hg3;have jh:=bV nT hg3)
   |(go_at_call 27;(with_reducible refine (au E _ s aB [98,111,111,108] ⟨#[98,111,111,108]⟩ rfl).mono ?_);rintro e w4 ⟨rfl,hg4⟩;rw [HI2.out];have jb:=bA gZ hg4;have hG4:=aL hG3 hg4;have aK:=aF.aC hg4;obtain ⟨_,wO,xC,xD,xE,xG,xH,xI,wP⟩:=aK.av;have iq:=jh.aC hg4;obtain ⟨_,_,amQ,_,amR,_⟩:=iq.jX;obtain ⟨jq,hjq,hjl,_,e1,_,_,_,_,_,_,_,ef⟩:=jb.here;have Am:=ef 1;have hll:=jb.len;have j0:(0:Int)<=(jq:Int):=(by omega);have j2:(jq:Int)<=8193:=(by omega);clear ef hjl hll;have iY:=ic jb HKK.out;have dN:Gr (·=E.b) w ((w4).setCell ⟨E.b,1,none⟩ (.int .i64 ((E.ts.length - s.l.length:Nat)+1:Int))):=vK aJ 1 _;rw [hjq] at iY dN;clear hjq))
  exact aX Tryz.results79 rfl rfl dS ⟨aJ,aB,13,0,0,[],(hdt s),(hdp s),[],none,0,rfl,rfl,aI.nil _ _ 0⟩
 |false=>
 cases hi2:bX [115,116,114,105,110,103] s with
 |true=>
  have HI3:=af hi2
  have HKK:=af (xz hi2 (by simp)).2.2
  have ht3:Cj s=true:=by unfold Cj;simp [hi0,hi1,hi2]
  simp only [ht3,if_true,Option.some.injEq,Prod.mk.injEq] at heq
  obtain ⟨rfl,rfl⟩:=heq
  have HI1:=af hi0
  have HI2:=af hi1
  clear ht3 hi0 hi1 hi2
  go_wp2_with (first
   |(go_at_call 27;(with_reducible refine (au E _ s aB [105,110,116] ⟨#[105,110,116]⟩ rfl).mono ?_);rintro e w3 ⟨rfl,hg3⟩;rw [HI1.out];have gZ:=bA hR2 hg3;have hG3:=aL hG2 hg3;have aF:=bV ax hg3;have jh:=bV nT hg3)
   |(go_at_call 27;(with_reducible refine (au E _ s aB [98,111,111,108] ⟨#[98,111,111,108]⟩ rfl).mono ?_);rintro e w4 ⟨rfl,hg4⟩;rw [HI2.out];have jb:=bA gZ hg4;have hG4:=aL hG3 hg4;have aK:=aF.aC hg4;have iq:=jh.aC hg4)
   |(go_at_call 27;(with_reducible refine (au E _ s aB [115,116,114,105,110,103] ⟨#[115,116,114,105,110,103]⟩ rfl).mono ?_);rintro e w5 ⟨rfl,hg5⟩;rw [HI3.out];have jF:=bA jb hg5;have iw:=aL hG4 hg5;have aT:=aK.aC hg5;obtain ⟨_,DD,DF,DI,DJ,DK,DL,DN,DR⟩:=aT.av;have gU:=iq.aC hg5;obtain ⟨_,_,agX,_,agY,_⟩:=gU.jX;obtain ⟨jq,hjq,hjl,_,e1,_,_,_,_,_,_,_,ef⟩:=jF.here;have Am:=ef 1;have hll:=jF.len;have j0:(0:Int)<=(jq:Int):=(by omega);have j2:(jq:Int)<=8193:=(by omega);clear ef hjl hll;have iY:=ic jF HKK.out;have dN:Gr (·=E.b) w ((w5).setCell ⟨E.b,1,none⟩ (.int .i64 ((E.ts.length - s.l.length:Nat)+1:Int))):=vK aJ 1 _;rw [hjq] at iY dN;clear hjq))
  exact aX Tryz.results79 rfl rfl dS ⟨aJ,aB,13,0,0,[],(hdt s),(hdp s),[],none,0,rfl,rfl,aI.nil _ _ 0⟩
 |false=>
 have ht3:Cj s=false:=by unfold Cj;simp [hi0,hi1,hi2]
 simp only [ht3,Bool.false_eq_true,if_false] at heq
 have HI1:=af hi0
 have HI2:=af hi1
 have HI3:=af hi2
 clear ht3 hi0 hi1 hi2
 go_wp2_with (first
  |(go_at_call 27;(with_reducible refine (au E _ s aB [105,110,116] ⟨#[105,110,116]⟩ rfl).mono ?_);rintro e w3 ⟨rfl,hg3⟩;rw [HI1.out];have gZ:=bA hR2 hg3;have hG3:=aL hG2 hg3;have aF:=bV ax hg3;have jh:=bV nT hg3)
  |(go_at_call 27;(with_reducible refine (au E _ s aB [98,111,111,108] ⟨#[98,111,111,108]⟩ rfl).mono ?_);rintro e w4 ⟨rfl,hg4⟩;rw [HI2.out];have jb:=bA gZ hg4;have hG4:=aL hG3 hg4;have aK:=aF.aC hg4;have iq:=jh.aC hg4)
  |(go_at_call 27;(with_reducible refine (au E _ s aB [115,116,114,105,110,103] ⟨#[115,116,114,105,110,103]⟩ rfl).mono ?_);rintro e w5 ⟨rfl,hg5⟩;rw [HI3.out];have jF:=bA jb hg5;have iw:=aL hG4 hg5;have aT:=aK.aC hg5;have gU:=iq.aC hg5))
 cases hn1:nE s with
 |true=>
  have HN:=af hn1
  simp only [hn1,if_true,Option.some.injEq,Prod.mk.injEq] at heq
  obtain ⟨rfl,rfl⟩:=heq
  clear hn1
  go_wp2_with (first
   |(go_at_call 48;(with_reducible refine (gJ E _ s aB).mono ?_);rintro e w6 ⟨rfl,dA⟩;rw [HN.out];have lu:=bA jF dA;have iX:=aL iw dA;have bn:=aT.aC dA;have IK:=bn.lt;have gI:=gU.aC dA)
   |(go_at_call 94;(with_reducible refine (Ba E _ s aB).mono ?_);rintro e w7 ⟨dZ,o5,k7,VO,m7,p7,t7,a7,yS,A7,c7,ht7,rfl,OL⟩;have HT7:=af ht7;clear ht7;have lV:=bP iX dZ;have bW:=bn.call dZ (by omega);obtain ⟨_,EO,EP,ER,ES,ET,EU,EW,EX⟩:=bW.av;have VP:=OL.mono (lo':=w6.heap.size) (by simp)))
  exact aX Tryz.results79 rfl rfl dS ⟨aJ,aB,k7,VO,m7,p7,t7,a7,yS,A7,c7,HT7.out,rfl,aI.mono (lo:=w6.heap.size) (v:=.slice A7 yS.length c7) (ks:=yS) nS (by omega)⟩
 |false=>
 have HN:=af hn1
 simp only [hn1,Bool.false_eq_true,if_false] at heq
 clear hn1
 go_wp2_with (first
  |(go_at_call 48;(with_reducible refine (gJ E _ s aB).mono ?_);rintro e w6 ⟨rfl,dA⟩;rw [HN.out];have lu:=bA jF dA;have iX:=aL iw dA;have bn:=aT.aC dA;have gI:=gU.aC dA))
 cases hp1:bX [42] s with
 |true=>
  have HP:=af hp1
  simp only [hp1,if_true,Option.some.injEq,Prod.mk.injEq] at heq
  obtain ⟨rfl,rfl⟩:=heq
  clear hp1
  go_wp2_with (first
   |(go_at_call 27;(with_reducible refine (au E _ s aB [42] ⟨#[42]⟩ rfl).mono ?_);rintro e w7 ⟨rfl,dZ⟩;rw [HP.out];have o5:=bA lu dZ;have lV:=aL iX dZ;have bW:=bn.aC dZ;have jJ:=gI.aC dZ)
   |(go_at_call 25;(with_reducible refine (aA E _ s aB [42] ⟨#[42]⟩ rfl).mono ?_);rintro e w8 ⟨rfl,tY,fK⟩;have qJ:=bP lV fK;have dK:=bW.call fK (by omega);have ZP:=dK.lt;have ji:=jJ.call fK (by omega)))
  obtain ⟨_,_,_,_,adR,_⟩:=ji.jX
  refine wp_region_held_drew (S:=fun V=>Gr (fun q=>q=E.b\/q=w.heap.size) w8 V) (by kernel_rfl) (Gr.refl _).drew (fun hS0=>?_)
  obtain ⟨w9,zA⟩:=aS w8.drew
  rw [zA] at hS0 |-
  have OX:Gr (fun q=>q=E.b\/q=w.heap.size) w8 w9:=hS0
  clear hS0
  have yT:=dJ zA (RS.drew tY)
  have wY:=bK zA (Gr.drew qJ)
  have hs9:w8.heap.size+0<=w9.heap.size:=by rw [<-zA];exact Nat.le_refl _
  have gH:=aP zA (ag.drew dK)
  have mK:=aP zA (ag.drew ji)
  refine aQ 0 OX ?_
  refine jS 1 OX ?_ (fun w' hS=>(hS.cell (p:=⟨w1.heap.size,3,none⟩) (by show w1.heap.size < _;omega) (by show ¬(w1.heap.size=E.b\/w1.heap.size=w.heap.size);first|omega|(simp;omega))).trans adR)
  refine aQ 2 OX ?_
  refine qO 3 ?_
  refine fP (args:=#[.pointer (some ⟨E.b,0,none⟩)]) (f:=94) (by unfold execOp;go_simp) ((Ba E w9 _ yT).mono ?_)
  rintro e kF ⟨iM,gu,k10,OM,m10,p10,t10,a10,uY,Ov,c10,ad1,rfl,JM⟩
  have ag9:=af ad1
  clear ad1
  have jk:Gr (·=E.b) w kF:=Gr.trans wY (Gr.mono iM (fun _ _ e=>e))
  have Cs:Gr (fun q=>q=E.b\/q=w.heap.size) w8 kF:=Gr.trans OX (Gr.mono iM (fun _ _ e=>by first|exact e|exact .inl e))
  have Dy:=iM.size;(try simp at Dy)
  have dF:=aD gH iM
  have mE:=aD mK iM
  refine And.intro Cs ?_
  simp only [Act.put,gA,gB,gC,gD,gE,gF]
  refine qO 4 ?_
  obtain ⟨bB,pU⟩:=aS (kF.alloc (.cells #[.int .i64 k10,.int .i64 OM,.int .i64 m10,.string (bs p10),.string (bs t10),.int .i64 a10,.slice Ov uY.length c10] 24))
  have fM:=dJ pU (RS.alloc gu _)
  have gm:=bK pU (Gr.alloc jk _)
  have bR:=aP pU (ag.alloc dF _)
  have uG:=aP pU (ag.alloc mE _)
  have fo:=bK pU (Gr.alloc Cs _)
  have abZ:aI bB w8.heap.size (.slice (some ⟨kF.heap.size,0,none⟩) 1 1) [Tr.mk k10 OM m10 p10 t10 a10 uY]:=by rw [<-pU];exact aI.lI (aI.mono JM (by omega)) (by omega)
  refine aY (v:=(.slice (some ⟨kF.heap.size,0,none⟩) 1 1)) (w':=bB) (by rw [<-pU];unfold execOp;go_simp) (And.intro fo ?_)
  simp only [Act.put,gA,gB,gC,gD,gE,gF]
  refine aQ 5 fo ?_
  refine qO 6 ?_
  obtain ⟨ek,tK⟩:=aS (fA bB w.heap.size 0 (.int .i64 14) (.int .i64 0) (.int .i64 0) (.string ⟨#[]⟩) (.string ⟨#[]⟩) (.int .i64 (hd s.l).2) (.slice (some ⟨kF.heap.size,0,none⟩) 1 1))
  have Q5:Gr (fun q=>q=w.heap.size) bB ek:=by rw [<-tK];exact fQ (Gr.refl _) (.inr rfl)
  have gT:ag ek w.heap.size 24 (N7 14 0 0 ⟨#[]⟩ ⟨#[]⟩ ((hd s.l).2) (.slice (some ⟨kF.heap.size,0,none⟩) 1 1)):=by rw [<-tK];exact ag.fA bR (.int .i64 14) (.int .i64 0) (.int .i64 0) (.string ⟨#[]⟩) (.string ⟨#[]⟩) (.int .i64 (hd s.l).2) (.slice (some ⟨kF.heap.size,0,none⟩) 1 1)
  have jY:RS E ek (gq (aj [42] s)):=RS.gr fM Q5 (by show ¬E.b=w.heap.size;omega) (by show ¬E.g=w.heap.size;omega)
  have kK:Gr (·=E.b) w ek:=Gr.wide gm Q5 (fun q hq e=>by first|omega|(exfalso;omega))
  have ab0:aI ek w8.heap.size (.slice (some ⟨kF.heap.size,0,none⟩) 1 1) [Tr.mk k10 OM m10 p10 t10 a10 uY]:=aI.gr abZ Q5 (fun q h1 _ h2=>by omega)
  have Fy:Gr (fun q=>q=E.b\/q=w.heap.size) w8 ek:=Gr.wide fo Q5 (fun q hq e=>by have e2:q=w.heap.size:=e;first|(right;exact e2)|(exfalso;omega)|omega)
  refine iD _ _ _ _ _ _ _ w.heap.size 0 (14) (0) (0) ([]) ([]) ((hd s.l).2) (1) (1) ((some ⟨kF.heap.size,0,none⟩)) rfl rfl (ag.sw bR) (fun q=>bR.frozen q) ?_
  show Gr (fun q=>q=E.b\/q=w.heap.size) w8 (fA bB w.heap.size 0 (.int .i64 14) (.int .i64 0) (.int .i64 0) (.string ⟨#[]⟩) (.string ⟨#[]⟩) (.int .i64 (hd s.l).2) (.slice (some ⟨kF.heap.size,0,none⟩) 1 1))/\wpAnyH _ _ _ _ _ _ _ _ (fA bB w.heap.size 0 (.int .i64 14) (.int .i64 0) (.int .i64 0) (.string ⟨#[]⟩) (.string ⟨#[]⟩) (.int .i64 (hd s.l).2) (.slice (some ⟨kF.heap.size,0,none⟩) 1 1))
  rw [tK]
  refine And.intro Fy ?_
  simp only [Act.put,gA,gB,gC,gD,gE,gF]
  refine eZ ?_
  go_wp2
  exact aX Tryz.results79 rfl rfl gT ⟨kK,jY,14,0,0,[],[],(hdp s),_,_,_,(by rw [ag9.out]),rfl,aI.mono (lo:=w8.heap.size) ab0 (by omega)⟩
 |false=>
 have HP:=af hp1
 simp only [hp1,Bool.false_eq_true,if_false] at heq
 clear hp1
 go_wp2_with (first
  |(go_at_call 27;(with_reducible refine (au E _ s aB [42] ⟨#[42]⟩ rfl).mono ?_);rintro e w7 ⟨rfl,dZ⟩;rw [HP.out];have o5:=bA lu dZ;have lV:=aL iX dZ;have bW:=bn.aC dZ;have jJ:=gI.aC dZ))
 cases hb1:bX [91] s with
 |true=>
  have HB:=af hb1
  simp only [hb1,if_true] at heq
  clear hb1
  by_cases he:(aj [93] (aj [91] s)).e=0
  case neg=>
   rw [if_neg he] at heq
   simp only [Option.some.injEq,Prod.mk.injEq] at heq
   obtain ⟨rfl,rfl⟩:=heq
   have e1:((aj [93] (aj [91] s)).e != 0)=true:=by simpa using he
   clear he
   go_wp2_with (first
    |(go_at_call 27;(with_reducible refine (au E _ s aB [91] ⟨#[91]⟩ rfl).mono ?_);rintro e w8 ⟨rfl,fK⟩;rw [HB.out];have tY:=bA o5 fK;have qJ:=aL lV fK;have dK:=bW.aC fK;have ji:=jJ.aC fK)
    |(go_at_call 25;(with_reducible refine (aA E _ s aB [91] ⟨#[91]⟩ rfl).mono ?_);rintro e w9 ⟨rfl,yT,gP⟩;have wY:=bP qJ gP;have gH:=dK.call gP (by omega);have mK:=ji.call gP (by omega))
    |(go_at_call 25;(with_reducible refine (aA E _ (aj [91] s) aB [93] ⟨#[93]⟩ rfl).mono ?_);rintro e kF ⟨rfl,gu,iM⟩;have jk:=bP wY iM;have dF:=gH.call iM (by omega);obtain ⟨_,LX,LY,LZ,L6,L8,L9,Ma,Mc⟩:=dF.av;obtain ⟨_,_,_,_,_,_,Z4,_⟩:=gu.here))
   exact aX Tryz.results79 rfl rfl dS ⟨aJ,aB,0,0,0,[],[],0,[],none,0,rfl,rfl,aI.nil _ _ 0⟩
  rw [if_pos he] at heq
  obtain ⟨t1,s1,h1,heq⟩:=bF heq
  simp only [Option.some.injEq,Prod.mk.injEq] at heq
  obtain ⟨rfl,rfl⟩:=heq
  have HE:=af he
  have nK:=af (fun W hW=>Hn.kind E W _ t1 s1 hW h1)
  clear he h1
  go_wp2_with (first
   |(go_at_call 27;(with_reducible refine (au E _ s aB [91] ⟨#[91]⟩ rfl).mono ?_);rintro e w8 ⟨rfl,fK⟩;rw [HB.out];have tY:=bA o5 fK;have qJ:=aL lV fK;have dK:=bW.aC fK;have ji:=jJ.aC fK)
   |(go_at_call 25;(with_reducible refine (aA E _ s aB [91] ⟨#[91]⟩ rfl).mono ?_);rintro e w9 ⟨rfl,yT,gP⟩;have wY:=bP qJ gP;have gH:=dK.call gP (by omega);have mK:=ji.call gP (by omega))
   |(go_at_call 25;(with_reducible refine (aA E _ (aj [91] s) aB [93] ⟨#[93]⟩ rfl).mono ?_);rintro e kF ⟨rfl,gu,iM⟩;have jk:=bP wY iM;have dF:=gH.call iM (by omega);have Fw:=dF.lt;have mE:=mK.call iM (by omega);obtain ⟨_,_,_,_,_,_,Z4,_⟩:=gu.here;rw [HE.out] at Z4))
  obtain ⟨_,_,_,_,VS,_⟩:=mE.jX
  refine wp_region_held_drew (S:=fun V=>Gr (fun q=>q=E.b\/q=w.heap.size) kF V) (by kernel_rfl) (Gr.refl _).drew (fun hS0=>?_)
  obtain ⟨bB,pU⟩:=aS kF.drew
  rw [pU] at hS0 |-
  have fo:Gr (fun q=>q=E.b\/q=w.heap.size) kF bB:=hS0
  clear hS0
  have fM:=dJ pU (RS.drew gu)
  have gm:=bK pU (Gr.drew jk)
  have qR:kF.heap.size+0<=bB.heap.size:=by rw [<-pU];exact Nat.le_refl _
  have bR:=aP pU (ag.drew dF)
  have uG:=aP pU (ag.drew mE)
  refine aQ 0 fo ?_
  refine jS 1 fo ?_ (fun w' hS=>(hS.cell (p:=⟨w1.heap.size,3,none⟩) (by show w1.heap.size < _;omega) (by show ¬(w1.heap.size=E.b\/w1.heap.size=w.heap.size);first|omega|(simp;omega))).trans VS)
  refine aQ 2 fo ?_
  refine qO 3 ?_
  refine fP (args:=#[.pointer (some ⟨E.b,0,none⟩)]) (f:=79) (by unfold execOp;go_simp) ((nK.out bB fM).mono ?_)
  rintro e ek ⟨dH,jY,k12,VT,m12,p12,t12,a12,OQ,vC,c12,ad2,rfl,Y5⟩
  have aha:=af ad2
  clear ad2
  have kK:Gr (·=E.b) w ek:=Gr.trans gm (Gr.mono dH (fun _ _ e=>e))
  have Fy:Gr (fun q=>q=E.b\/q=w.heap.size) kF ek:=Gr.trans fo (Gr.mono dH (fun _ _ e=>by first|exact e|exact .inl e))
  have xQ:=dH.size;(try simp at xQ)
  have gT:=aD bR dH
  have J3:=aD uG dH
  refine And.intro Fy ?_
  simp only [Act.put,gA,gB,gC,gD,gE,gF]
  refine qO 4 ?_
  obtain ⟨iP,og⟩:=aS (ek.alloc (.cells #[.int .i64 k12,.int .i64 VT,.int .i64 m12,.string (bs p12),.string (bs t12),.int .i64 a12,.slice vC OQ.length c12] 24))
  have mW:=dJ og (RS.alloc jY _)
  have pz:=bK og (Gr.alloc kK _)
  have oK:=aP og (ag.alloc gT _)
  have abY:=aP og (ag.alloc J3 _)
  have uH:=bK og (Gr.alloc Fy _)
  have ab1:aI iP kF.heap.size (.slice (some ⟨ek.heap.size,0,none⟩) 1 1) [Tr.mk k12 VT m12 p12 t12 a12 OQ]:=by rw [<-og];exact aI.lI (aI.mono Y5 (by omega)) (by omega)
  refine aY (v:=(.slice (some ⟨ek.heap.size,0,none⟩) 1 1)) (w':=iP) (by rw [<-og];unfold execOp;go_simp) (And.intro uH ?_)
  simp only [Act.put,gA,gB,gC,gD,gE,gF]
  refine aQ 5 uH ?_
  refine qO 6 ?_
  obtain ⟨kD,oh⟩:=aS (fA iP w.heap.size 0 (.int .i64 15) (.int .i64 0) (.int .i64 0) (.string ⟨#[]⟩) (.string ⟨#[]⟩) (.int .i64 (hd s.l).2) (.slice (some ⟨ek.heap.size,0,none⟩) 1 1))
  have pQ:Gr (fun q=>q=w.heap.size) iP kD:=by rw [<-oh];exact fQ (Gr.refl _) (.inr rfl)
  have vR:ag kD w.heap.size 24 (N7 15 0 0 ⟨#[]⟩ ⟨#[]⟩ ((hd s.l).2) (.slice (some ⟨ek.heap.size,0,none⟩) 1 1)):=by rw [<-oh];exact ag.fA oK (.int .i64 15) (.int .i64 0) (.int .i64 0) (.string ⟨#[]⟩) (.string ⟨#[]⟩) (.int .i64 (hd s.l).2) (.slice (some ⟨ek.heap.size,0,none⟩) 1 1)
  have pE:RS E kD s1:=RS.gr mW pQ (by show ¬E.b=w.heap.size;omega) (by show ¬E.g=w.heap.size;omega)
  have qU:Gr (·=E.b) w kD:=Gr.wide pz pQ (fun q hq e=>by first|omega|(exfalso;omega))
  have ab2:aI kD kF.heap.size (.slice (some ⟨ek.heap.size,0,none⟩) 1 1) [Tr.mk k12 VT m12 p12 t12 a12 OQ]:=aI.gr ab1 pQ (fun q h1 _ h2=>by omega)
  have qX:Gr (fun q=>q=E.b\/q=w.heap.size) kF kD:=Gr.wide uH pQ (fun q hq e=>by have e2:q=w.heap.size:=e;first|(right;exact e2)|(exfalso;omega)|omega)
  refine iD _ _ _ _ _ _ _ w.heap.size 0 (15) (0) (0) ([]) ([]) ((hd s.l).2) (1) (1) ((some ⟨ek.heap.size,0,none⟩)) rfl rfl (ag.sw oK) (fun q=>oK.frozen q) ?_
  show Gr (fun q=>q=E.b\/q=w.heap.size) kF (fA iP w.heap.size 0 (.int .i64 15) (.int .i64 0) (.int .i64 0) (.string ⟨#[]⟩) (.string ⟨#[]⟩) (.int .i64 (hd s.l).2) (.slice (some ⟨ek.heap.size,0,none⟩) 1 1))/\wpAnyH _ _ _ _ _ _ _ _ (fA iP w.heap.size 0 (.int .i64 15) (.int .i64 0) (.int .i64 0) (.string ⟨#[]⟩) (.string ⟨#[]⟩) (.int .i64 (hd s.l).2) (.slice (some ⟨ek.heap.size,0,none⟩) 1 1))
  rw [oh]
  refine And.intro qX ?_
  simp only [Act.put,gA,gB,gC,gD,gE,gF]
  refine eZ ?_
  go_wp2
  exact aX Tryz.results79 rfl rfl vR ⟨qU,pE,15,0,0,[],[],(hdp s),_,_,_,(by rw [aha.out]),rfl,aI.mono (lo:=kF.heap.size) ab2 (by omega)⟩
 |false=>
 have HB:=af hb1
 simp only [hb1,Bool.false_eq_true,if_false] at heq
 clear hb1
 go_wp2_with (first
  |(go_at_call 27;(with_reducible refine (au E _ s aB [91] ⟨#[91]⟩ rfl).mono ?_);rintro e w8 ⟨rfl,fK⟩;rw [HB.out];have tY:=bA o5 fK;have qJ:=aL lV fK;have dK:=bW.aC fK;have ji:=jJ.aC fK))
 cases hf1:bX [102,117,110,99] s with
 |true=>
  have HF:=af hf1
  simp only [hf1,if_true] at heq
  have HQ:=af heq
  clear hf1 heq
  go_wp2_with (first
   |(go_at_call 27;(with_reducible refine (au E _ s aB [102,117,110,99] ⟨#[102,117,110,99]⟩ rfl).mono ?_);rintro e w9 ⟨rfl,gP⟩;rw [HF.out];have yT:=bA tY gP;have wY:=aL qJ gP;have gH:=dK.aC gP;have mK:=ji.aC gP)
   |(go_at_call 25;(with_reducible refine (aA E _ s aB [102,117,110,99] ⟨#[102,117,110,99]⟩ rfl).mono ?_);rintro e kF ⟨rfl,gu,iM⟩;have jk:=bP wY iM;have Iu:=gu.lt;have Iw:=gu.iy;have dF:=gH.call iM (by omega);have Fw:=dF.lt;have mE:=mK.call iM (by omega);have ahb:=mE.lt;obtain ⟨_,_,_,_,VS,_⟩:=mE.jX;have jU:∀q,(fun q=>q<=kF.heap.size) q->q < kF.heap.size+1:=(fun q hq=>by have:q<=kF.heap.size:=hq;omega);have dO:(fun q=>q<=kF.heap.size) kF.heap.size:=Nat.le_refl _;have cB:(fun q=>q<=kF.heap.size) w.heap.size:=(by show w.heap.size<=kF.heap.size;omega);have fT:kF.heap.size≠E.b:=(by omega);have kG:kF.heap.size≠E.g:=(by omega);have Tq:=af (fun (W:World) (hW:RS E W (aj [102,117,110,99] s)) (hb:ag W kF.heap.size 24 (N7 16 0 0 ⟨#[]⟩ ⟨#[]⟩ (hdp s) (.slice none 0 0))) (hp:ah W E.L (fun q=>q<=kF.heap.size) (.slice none 0 0) ([]:List Tr)) (EG:∀q,(fun q=>q<=kF.heap.size) q->q < W.heap.size)=>show Calls Tryz.prog 81 #[.pointer (some ⟨E.b,0,none⟩),.pointer (some ⟨kF.heap.size,0,none⟩)] W (Bb E W kF.heap.size (fun q=>q<=kF.heap.size) (.slice none 0 0) (0+n+2) tr s') from Hn.kinds E W _ kF.heap.size (fun q=>q<=kF.heap.size) 16 0 0 [] [] (hdp s) [] none 0 _ _ hW hb hp dO fT kG EG (by simp only [List.length_nil];omega) HQ.out))
   |(go_at_call 81;(with_reducible refine (Tq.out _ aB bz (ah.none_ _ _ _) (fun q hq=>Nat.lt_of_lt_of_le (jU q hq) (by first|(simp;done)|(simp;omega)|omega))).mono ?_);rintro e bB ⟨rfl,fM,aV,k11,abV,m11,p11,t11,a11,OO,Ow,c11,rfl,bJ,bZ,_,_⟩;have gm:Gr (·=E.b) w bB:=lC aJ aV (by omega) (fun q e=>by cases e);have bR:ag bB w.heap.size 24 Z7:=aV.blk bz (fun e=>e.elim (fun e=>by omega) (fun e=>e.elim (fun e=>by omega) (fun e=>(by cases e))));obtain ⟨_,EY,EZ,E5,E8,E9,Fa,xL,_⟩:=bJ.av;obtain ⟨_,Be,Bf,Bg,Bh,Bi,Bj,Bl,Bn⟩:=bR.av))
  exact aX Tryz.results79 rfl rfl dS ⟨aJ,aB,k11,abV,m11,p11,t11,a11,OO,Ow,c11,rfl,rfl,(ah.up (lo:=E.L) (X:=(fun q=>q<=kF.heap.size)) (v:=.slice Ow OO.length c11) (ks:=OO) uu (fun q hq=>by have:¬q<=kF.heap.size:=hq;omega))⟩
 |false=>
 have HF:=af hf1
 simp only [hf1,Bool.false_eq_true,if_false,Option.some.injEq,Prod.mk.injEq] at heq
 obtain ⟨rfl,rfl⟩:=heq
 clear hf1
 go_wp2_with (first
  |(go_at_call 27;(with_reducible refine (au E _ s aB [102,117,110,99] ⟨#[102,117,110,99]⟩ rfl).mono ?_);rintro e w9 ⟨rfl,gP⟩;rw [HF.out];have yT:=bA tY gP;have wY:=aL qJ gP;have gH:=dK.aC gP;have mK:=ji.aC gP))
 go_wp2_with (first
  |(go_at_call 47;(with_reducible refine (kV E _ s aB 5).mono ?_);rintro e kF ⟨rfl,gu,iM⟩;have jk:=bP wY iM;have dF:=gH.call iM (by omega);obtain ⟨_,LX,LY,LZ,L6,L8,L9,Ma,Mc⟩:=dF.av))
 exact aX Tryz.results79 rfl rfl dS ⟨aJ,aB,0,0,0,[],[],0,[],none,0,rfl,rfl,aI.nil _ _ 0⟩
theorem RS.next {E:Env} {w:World} {s:St} (h:RS E w s) {x y:T} {r:List T} (hl:s.l=x :: y :: r):∃j J:Nat,E.ts.length - s.l.length=j/\(j:Int)+1=(J:Int)/\J < E.ts.length/\
  w.cell? ⟨E.b,0,none⟩=some (.slice (some ⟨E.g,0,none⟩) E.ts.length E.c)/\w.cell? ⟨E.b,1,none⟩=some (.int .i64 (j:Int))/\
  w.cell? ⟨E.g,J*4,none⟩=some (.int .i64 y.1.k)/\w.cell? ⟨E.g,J*4+1,none⟩=some (.string (bs y.1.t)):=by
 have h1:=h.Nn
 have h2:=h.blk
 rw [hl] at h1 h2 |-
 obtain ⟨q,hq⟩:=h1
 have h3:E.ts.length=q.length+(r.length+2):=by rw [<-hq];simp
 have h4:E.ts[E.ts.length - (x :: y :: r).length+1]? =some y:=by
  rw [<-hq]
  simp
 obtain ⟨c0,c1,_,_⟩:=h.toks.cell _ y h4
 exact ⟨_,E.ts.length - (x :: y :: r).length+1,rfl,by push_cast;rfl,by simp only [List.length_cons];omega,h2.cell 0,h2.cell 1,c0,c1⟩
theorem RS.two {E:Env} {w:World} {s:St} (h:RS E w s) (hn:nE s=true):∃x y r,s.l=x :: y :: r:=by
 have hk:=Ea hn
 obtain ⟨x,r,hx⟩:=h.cons
 have hg:=h.good
 rw [hx] at hg hk
 have h1:=QL hg hk
 cases r with
 |nil=>exact absurd h1 id
 |cons y r=>exact ⟨x,y,r,hx⟩
theorem yE {w:World} {lo:Nat} {X:Nat->Prop} {v:Value} {dx:List Tr} {g:Nat} {t:Tr} (hK:ah w lo X v dx) (hzw:∀q,X q->q < w.heap.size) (hN:ah w lo (fun q=>X q\/v.ownBlock=some q) (.slice (some ⟨g,0,none⟩) 1 1) [t]) (hlen:dx.length<=3*cK) (hsz:lo<=w.heap.size)
  {o:Oper} {a:Act} {K:Act->World->Prop} {Q:Exit->Act->World->Prop} (s x:Operand)
  (ho:o.op= .call { callee:=.builtin .append,args:=#[s,x],argTypes:=#[22,22] }) (hs:a.eval s=v) (hx:a.eval x= .slice (some ⟨g,0,none⟩) 1 1)
  (hk:∀A c w',(∀q,(Value.slice A (dx.length+1) c).ownBlock=some q->v.ownBlock=some q\/w.heap.size<=q)->ah w' lo X (.slice A (dx.length+1) c) (dx ++ [t])->Gr (fun k=>v.ownBlock=some k) w w'->K (a.put o.dst (.slice A (dx.length+1) c)) w'):o.wp Tryz.prog a w K Q:=by
 obtain ⟨i0,hi0,hz0,hz1,hz2⟩:=info_parts Cf
 obtain ⟨h0z,xs,h1z,h2z⟩:=hK
 obtain ⟨_,ys,k1,k2⟩:=hN
 have hrd:=Reads.Ny k1
 unfold cK at hlen
 refine ry w s x _ ho lo 24 i0 _ 7 88 Tryz.underlying22 hi0 hz0 hz1 hz2 rfl (by omega) v dx.length xs hs h1z _ _ 1 1 ys hx hrd k2.one (by simp only [maxLen];omega) (by omega) hsz ?_
 intro v' w' g1 g2 g3
 obtain ⟨A,c,rfl⟩:=kM g1
 have h3z:bO w (fun q=>lo<=q/\v.ownBlock≠some q/\¬X q) [t] ys:=bO.keep (fun _ _ _=>rfl) (Nat.le_refl _) (fun q _ hq=>⟨hq.1,fun e=>hq.2.2 (.inr e),fun e=>hq.2.2 (.inl e)⟩) _ _ k2
 refine hk A c w' (fun q hq=>?_) (ah.app (us:=[t]) h0z h1z h2z h3z g1 g2 g3 hzw) (Gr.Ev g2 fun q hq _=>hq)
 rcases g3 with g3|g3
 ·exact .inl (g3▸hq)
 ·rw [g3] at hq
  injection hq with hq
  exact .inr (by omega)
theorem ah.oW {w:World} {lo g:Nat} {X:Nat->Prop} {k op m:Int} {p t:List UInt8} {a c:Nat} {A:Option Addr} {ks:List Tr} (h:ah w lo X (.slice A ks.length c) ks) (hl:lo<=w.heap.size) (hz:∀q,X q->q < w.heap.size) (hg:g=w.heap.size):
  ah (w.alloc (.cells #[.int .i64 k,.int .i64 op,.int .i64 m,.string (bs p),.string (bs t),.int .i64 a,.slice A ks.length c] 24)) lo X (.slice (some ⟨g,0,none⟩) 1 1) [.mk k op m p t a ks]:=by
 subst hg
 exact ah.lI h hl hz
theorem Mt (n:Nat) (hn:n+10<=cK) (H:∀m,m<=n->qQ m):CM (n+1) 119 .simple:=by
 intro E w s tr s' h heq
 have hlt:=h.lt
 have hgt:=h.iy
 have hbL:=E.bL
 have Hn:=H n (Nat.le_refl _)
 have hR0:=h
 go_enter Tryz.func119,Tryz.ntmps119
 go_wp2
 refine nG (P:=fun W=>RS E W s/\Gr (·=E.b) w W/\ag W w.heap.size 24 Z7/\w.heap.size+1<=W.heap.size) ⟨aB,aJ,bz,(by first|(simp;done)|(simp;omega))⟩ ?_
 rintro w1 ⟨fB,hG1,az,hs1⟩
 have kW:=fB.lt
 obtain ⟨j,hj,hjl,k0,k1,k2,k3,k4,q0,q1,q2,q3,fz⟩:=fB.here
 have hlt:=fB.lt
 have hgl:=fB.iy
 have hll:=fB.len
 have hne:=fB.ne
 clear fz hj
 obtain ⟨B,hB⟩:=aS E.b
 obtain ⟨G,hG⟩:=aS E.g
 obtain ⟨N,hN⟩:=aS E.ts.length
 obtain ⟨C,hC⟩:=aS E.c
 obtain ⟨so,hso⟩:=aS s.o
 obtain ⟨se,hse⟩:=aS s.e
 obtain ⟨sp,hsp⟩:=aS s.p
 obtain ⟨tk,htk⟩:=aS (hd s.l).1.k
 obtain ⟨tt,rP⟩:=aS (hd s.l).1.t
 obtain ⟨tn,htn⟩:=aS (hd s.l).1.n
 obtain ⟨tp,htp⟩:=aS (hd s.l).2
 rw [hB] at k0 k1 k2 k3 k4 hlt
 rw [hG,hN,hC] at k0
 rw [hso] at k2
 rw [hse] at k3
 rw [hsp] at k4
 rw [hG,htk] at q0
 rw [hG,rP] at q1
 rw [hG,htn] at q2
 rw [hG,htp] at q3
 rw [hG] at hgl
 rw [hN] at hjl hll
 rw [hG,hB] at hne
 have j0:(0:Int)<=(j:Int):=by omega
 have j1:(j:Int) < (N:Int):=by omega
 have j2:(j:Int)<=8193:=by omega
 have Li:=af htk
 have Sq:=af rP
 have U3:=af htn
 have GI:=af htp
 have LW:=af hB
 rw [hB]
 clear hB hG hN hC hso hse hsp htk rP htn htp
 refine wp_region_held_drew (S:=fun V=>Below w1.heap.size w1 V) (by kernel_rfl) (Below.refl _ w1).drew (fun hS0=>?_)
 refine aQ 0 hS0 ?_
 refine aQ 1 hS0 ?_
 refine aQ 2 hS0 ?_
 refine jS 3 hS0 ?_ (fun w' hS=>(hS.cell (p:=⟨B,0,none⟩) hlt).trans k0)
 refine aQ 4 hS0 ?_
 refine aQ 5 hS0 ?_
 refine aQ 6 hS0 ?_
 refine jS 7 hS0 ?_ (fun w' hS=>(hS.cell (p:=⟨B,1,none⟩) hlt).trans k1)
 refine aQ 8 hS0 ?_
 refine oU 9 hS0 ?_ (he:=fun w' hS=>by (have y0:=(hS.cell (p:=⟨G,_,none⟩) hgl).trans q0;have y1:=(hS.cell (p:=⟨G,_,none⟩) hgl).trans q1;have y2:=(hS.cell (p:=⟨G,_,none⟩) hgl).trans q2;have y3:=(hS.cell (p:=⟨G,_,none⟩) hgl).trans q3;unfold execOp;go_simp;first|done|exact rfl))
 refine oI 10 rfl (aY (v:=.pointer (some ⟨w1.heap.size,0,none⟩)) (w':=(w1.drew.alloc (.cells #[.int .i64 0,.string ⟨#[]⟩,.int .i64 0,.int .i64 0] 53))) (by unfold execOp;go_simp) (And.intro ((Below.refl _ w1).drew.alloc (by simp) _) ?_))
 simp only [Act.put,gA,gB,gC,gD,gE,gF]
 obtain ⟨w2,qg⟩:=aS (((((w1.drew.alloc (.cells #[.int .i64 0,.string ⟨#[]⟩,.int .i64 0,.int .i64 0] 53)).setCell ⟨w1.heap.size,0,none⟩ (.int .i64 tk)).setCell ⟨w1.heap.size,1,none⟩ (.string (bs tt))).setCell ⟨w1.heap.size,2,none⟩ (.int .i64 tn)).setCell ⟨w1.heap.size,3,none⟩ (.int .i64 tp))
 have hbw2:Below w1.heap.size w1 w2:=qg▸um w1 _ _ _ _
 have vQ:ag w2 w1.heap.size 53 (T4 tk (bs tt) tn tp):=qg▸uo w1 _ _ _ _
 refine oI 11 rfl (mU (w':=w2) (by rw [<-qg];unfold execOp;go_simp) (And.intro hbw2 ?_))
 simp only [Act.put,gA,gB,gC,gD,gE,gF]
 refine eZ ?_
 clear qg hS0 k0 k1 k2 k3 k4 q0 q1 q2 q3 j0 j1 j2 hjl hll hne hlt hgl
 rw [<-Li.out,<-Sq.out,<-U3.out,<-GI.out] at vQ
 rw [<-LW.out]
 have hR2:RS E w2 s:=fB.below hbw2
 have hG2:Gr (·=E.b) w w2:=Gr.trans hG1 (Gr.of_below hbw2)
 have ou:=hR2.lt
 have nT:ag w2 w1.heap.size 53 (T4 ((hd s.l).1.k) (bs (hd s.l).1.t) ((hd s.l).1.n) ((hd s.l).2)):=vQ
 have ax:ag w2 w.heap.size 24 Z7:=ag.aC az hbw2
 clear vQ hbw2
 go_wp2
 refine mM (S:=fun V=>Gr (fun _=>False) w2 V) (fun vals W=>vals 31= .bool (jI s)/\RS E W s/\Gr (·=E.b) w W/\ag W w1.heap.size 53 (T4 ((hd s.l).1.k) (bs (hd s.l).1.t) ((hd s.l).1.n) ((hd s.l).2))/\ag W w.heap.size 24 Z7/\w2.heap.size<=W.heap.size) (by kernel_rfl) (Gr.refl _).drew (fun hS0=>?qY) ?hk
 case qY=>
  obtain ⟨w3,Ec⟩:=aS w2.drew
  rw [Ec] at hS0 |-
  have IM:Gr (fun _=>False) w2 w3:=hS0
  clear hS0
  have gZ:=dJ Ec (RS.drew hR2)
  have hG3:=bK Ec (Gr.drew hG2)
  have hs3:w2.heap.size+0<=w3.heap.size:=by rw [<-Ec];exact Nat.le_refl _
  have aF:=aP Ec (ag.drew ax)
  have jh:=aP Ec (ag.drew nT)
  cases hn:nE s with
  |false=>
   have HN:=af hn
   have HDF:=af (show Value.bool false=Value.bool (jI s) from by simp [jI,hn])
   clear hn
   refine aQ 0 IM ?_
   refine qO 1 ?_
   refine fP (args:=#[.pointer (some ⟨E.b,0,none⟩)]) (f:=48) (by unfold execOp;go_simp) ((gJ E _ s gZ).mono ?_)
   rintro e w4 ⟨rfl,hg4⟩
   rw [HN.out]
   have jb:RS E w4 s:=gZ.below hg4
   have hG4:Gr (·=E.b) w w4:=Gr.trans hG3 (Gr.of_below hg4)
   have fU:Gr (fun _=>False) w2 w4:=Gr.trans IM (Gr.of_below hg4)
   have hs4:=hg4.size;(try simp at hs4)
   have aK:=bV aF hg4
   have iq:=bV jh hg4
   refine And.intro fU ?_
   simp only [Act.put,gA,gB,gC,gD,gE,gF]
   refine aQ 2 fU ?_
   refine lg 3 fU ?_
   refine lg 4 fU ?_
   refine lg 5 fU ?_
   refine lg 6 fU ?_
   refine lg 7 fU ?_
   refine lg 8 fU ?_
   refine lg 9 fU ?_
   refine lg 10 fU ?_
   refine lg 11 fU ?_
   refine lg 12 fU ?_
   refine lg 13 fU ?_
   refine lg 14 fU ?_
   refine lg 15 fU ?_
   refine aQ 16 fU ?_
   refine aQ 17 fU ?_
   refine lg 18 fU ?_
   refine lg 19 fU ?_
   refine lg 20 fU ?_
   refine lg 21 fU ?_
   refine lg 22 fU ?_
   refine lg 23 fU ?_
   refine lg 24 fU ?_
   refine lg 25 fU ?_
   refine lg 26 fU ?_
   refine lg 27 fU ?_
   refine lg 28 fU ?_
   refine lg 29 fU ?_
   refine lg 30 fU ?_
   refine aQ 31 fU ?_
   refine eZ ?_
   refine PQ.mk (fun i=>match i with|0=>.pointer (some ⟨E.b,0,none⟩)|1=>.bool false|2=>.bool false|3=>undef|4=>undef|5=>undef|6=>undef|7=>undef|8=>undef|9=>undef|10=>undef|11=>undef|12=>undef|13=>undef|14=>undef|15=>undef|16=>.bool false|17=>.bool false|18=>undef|19=>undef|20=>undef|21=>undef|22=>undef|23=>undef|24=>undef|25=>undef|26=>undef|27=>undef|28=>undef|29=>undef|30=>undef|31=>.bool false|_=>undef) (by kernel_rfl) ?_
   exact ⟨HDF.out,jb,hG4,iq,aK,by omega⟩
  |true=>
   have HN:=af hn
   obtain ⟨x,y,r,hxy⟩:=h.two hn
   obtain ⟨j,J,hj,hJ,hjl,Wq,Ws,acg,aeo⟩:=hR2.next hxy
   have hll:=hR2.len
   have hgl:=hR2.iy
   have HJ:=af hJ
   have j0:(0:Int)<=(j:Int):=by omega
   have j2:(j:Int)<=8193:=by omega
   have j3:(0:Int)<=(J:Int):=by omega
   have j4:(J:Int) < (E.ts.length:Int):=by omega
   have j5:(J:Int)<=8193:=by omega
   clear hj hJ hjl hll
   by_cases h5:y.1.k=5
   ·by_cases ht:y.1.t=[58,61]
    ·have HDF:=af (show Value.bool true=Value.bool (jI s) from by simp [jI,hn,hxy,h5,ht])
     have c5:(y.1.k == 5)=true:=by simpa using h5
     have ct:((bs y.1.t).toList == [58,61])=true:=by rw [iC];simpa using ht
     clear hn hxy h5 ht
     refine aQ 0 IM ?_
     refine qO 1 ?_
     refine fP (args:=#[.pointer (some ⟨E.b,0,none⟩)]) (f:=48) (by unfold execOp;go_simp) ((gJ E _ s gZ).mono ?_)
     rintro e w4 ⟨rfl,hg4⟩
     rw [HN.out]
     have jb:RS E w4 s:=gZ.below hg4
     have hG4:Gr (·=E.b) w w4:=Gr.trans hG3 (Gr.of_below hg4)
     have fU:Gr (fun _=>False) w2 w4:=Gr.trans IM (Gr.of_below hg4)
     have hs4:=hg4.size;(try simp at hs4)
     have aK:=bV aF hg4
     have iq:=bV jh hg4
     refine And.intro fU ?_
     simp only [Act.put,gA,gB,gC,gD,gE,gF]
     refine aQ 2 fU ?_
     refine iV 3 fU ?_
     refine iV 4 fU ?_
     refine iV 5 fU ?_
     refine mQ 6 fU ?_ (fun w' hS=>(hS.cell (p:=⟨E.b,0,none⟩) (by show E.b < _;omega) id).trans Wq)
     refine iV 7 fU ?_
     refine iV 8 fU ?_
     refine iV 9 fU ?_
     refine mQ 10 fU ?_ (fun w' hS=>(hS.cell (p:=⟨E.b,1,none⟩) (by show E.b < _;omega) id).trans Ws)
     refine Sl 11 fU ?_ (he:=fun w' hS=>by (have hJ:=HJ.out;have hJW:IntKind.i64.wrap (J:Int)=(J:Int):=(by rw [IntKind.wrap_i64];omega);unfold execOp;go_simp;first|done|exact rfl))
     refine iV 12 fU ?_
     refine iV 13 fU ?_
     refine mQ 14 fU ?_ (fun w' hS=>(hS.cell (p:=⟨E.g,J*4,none⟩) (by show E.g < _;omega) id).trans acg)
     refine iV 15 fU ?_
     refine aQ 16 fU ?_
     refine aQ 17 fU ?_
     refine iV 18 fU ?_
     refine iV 19 fU ?_
     refine iV 20 fU ?_
     refine mQ 21 fU ?_ (fun w' hS=>(hS.cell (p:=⟨E.b,0,none⟩) (by show E.b < _;omega) id).trans Wq)
     refine iV 22 fU ?_
     refine iV 23 fU ?_
     refine iV 24 fU ?_
     refine mQ 25 fU ?_ (fun w' hS=>(hS.cell (p:=⟨E.b,1,none⟩) (by show E.b < _;omega) id).trans Ws)
     refine Sl 26 fU ?_ (he:=fun w' hS=>by (have hJ:=HJ.out;have hJW:IntKind.i64.wrap (J:Int)=(J:Int):=(by rw [IntKind.wrap_i64];omega);unfold execOp;go_simp;first|done|exact rfl))
     refine iV 27 fU ?_
     refine iV 28 fU ?_
     refine mQ 29 fU ?_ (fun w' hS=>(hS.cell (p:=⟨E.g,J*4+1,none⟩) (by show E.g < _;omega) id).trans aeo)
     refine iV 30 fU ?_
     refine aQ 31 fU ?_
     refine eZ ?_
     refine PQ.mk (fun i=>match i with|0=>.pointer (some ⟨E.b,0,none⟩)|1=>.bool true|2=>.bool true|3=>.pointer (some ⟨E.b,0,none⟩)|4=>.pointer (some ⟨E.b,0,none⟩)|5=>.pointer (some ⟨E.b,0,none⟩)|6=>.slice (some ⟨E.g,0,none⟩) E.ts.length E.c|7=>.pointer (some ⟨E.b,0,none⟩)|8=>.pointer (some ⟨E.b,0,none⟩)|9=>.pointer (some ⟨E.b,1,none⟩)|10=>.int .i64 j|11=>.int .i64 J|12=>.pointer (some ⟨E.g,J*4,none⟩)|13=>.pointer (some ⟨E.g,J*4,none⟩)|14=>.int .i64 y.1.k|15=>.bool true|16=>.bool true|17=>.bool true|18=>.pointer (some ⟨E.b,0,none⟩)|19=>.pointer (some ⟨E.b,0,none⟩)|20=>.pointer (some ⟨E.b,0,none⟩)|21=>.slice (some ⟨E.g,0,none⟩) E.ts.length E.c|22=>.pointer (some ⟨E.b,0,none⟩)|23=>.pointer (some ⟨E.b,0,none⟩)|24=>.pointer (some ⟨E.b,1,none⟩)|25=>.int .i64 j|26=>.int .i64 J|27=>.pointer (some ⟨E.g,J*4,none⟩)|28=>.pointer (some ⟨E.g,J*4+1,none⟩)|29=>.string (bs y.1.t)|30=>.bool true|31=>.bool true|_=>undef) (by kernel_rfl) ?_
     exact ⟨HDF.out,jb,hG4,iq,aK,by omega⟩
    ·have HDF:=af (show Value.bool false=Value.bool (jI s) from by simp [jI,hn,hxy,h5,ht])
     have c5:(y.1.k == 5)=true:=by simpa using h5
     have ct:((bs y.1.t).toList == [58,61])=false:=by rw [iC];simpa using ht
     clear hn hxy h5 ht
     refine aQ 0 IM ?_
     refine qO 1 ?_
     refine fP (args:=#[.pointer (some ⟨E.b,0,none⟩)]) (f:=48) (by unfold execOp;go_simp) ((gJ E _ s gZ).mono ?_)
     rintro e w4 ⟨rfl,hg4⟩
     rw [HN.out]
     have jb:RS E w4 s:=gZ.below hg4
     have hG4:Gr (·=E.b) w w4:=Gr.trans hG3 (Gr.of_below hg4)
     have fU:Gr (fun _=>False) w2 w4:=Gr.trans IM (Gr.of_below hg4)
     have hs4:=hg4.size;(try simp at hs4)
     have aK:=bV aF hg4
     have iq:=bV jh hg4
     refine And.intro fU ?_
     simp only [Act.put,gA,gB,gC,gD,gE,gF]
     refine aQ 2 fU ?_
     refine iV 3 fU ?_
     refine iV 4 fU ?_
     refine iV 5 fU ?_
     refine mQ 6 fU ?_ (fun w' hS=>(hS.cell (p:=⟨E.b,0,none⟩) (by show E.b < _;omega) id).trans Wq)
     refine iV 7 fU ?_
     refine iV 8 fU ?_
     refine iV 9 fU ?_
     refine mQ 10 fU ?_ (fun w' hS=>(hS.cell (p:=⟨E.b,1,none⟩) (by show E.b < _;omega) id).trans Ws)
     refine Sl 11 fU ?_ (he:=fun w' hS=>by (have hJ:=HJ.out;have hJW:IntKind.i64.wrap (J:Int)=(J:Int):=(by rw [IntKind.wrap_i64];omega);unfold execOp;go_simp;first|done|exact rfl))
     refine iV 12 fU ?_
     refine iV 13 fU ?_
     refine mQ 14 fU ?_ (fun w' hS=>(hS.cell (p:=⟨E.g,J*4,none⟩) (by show E.g < _;omega) id).trans acg)
     refine iV 15 fU ?_
     refine aQ 16 fU ?_
     refine aQ 17 fU ?_
     refine iV 18 fU ?_
     refine iV 19 fU ?_
     refine iV 20 fU ?_
     refine mQ 21 fU ?_ (fun w' hS=>(hS.cell (p:=⟨E.b,0,none⟩) (by show E.b < _;omega) id).trans Wq)
     refine iV 22 fU ?_
     refine iV 23 fU ?_
     refine iV 24 fU ?_
     refine mQ 25 fU ?_ (fun w' hS=>(hS.cell (p:=⟨E.b,1,none⟩) (by show E.b < _;omega) id).trans Ws)
     refine Sl 26 fU ?_ (he:=fun w' hS=>by (have hJ:=HJ.out;have hJW:IntKind.i64.wrap (J:Int)=(J:Int):=(by rw [IntKind.wrap_i64];omega);unfold execOp;go_simp;first|done|exact rfl))
     refine iV 27 fU ?_
     refine iV 28 fU ?_
     refine mQ 29 fU ?_ (fun w' hS=>(hS.cell (p:=⟨E.g,J*4+1,none⟩) (by show E.g < _;omega) id).trans aeo)
     refine iV 30 fU ?_
     refine aQ 31 fU ?_
     refine eZ ?_
     refine PQ.mk (fun i=>match i with|0=>.pointer (some ⟨E.b,0,none⟩)|1=>.bool true|2=>.bool true|3=>.pointer (some ⟨E.b,0,none⟩)|4=>.pointer (some ⟨E.b,0,none⟩)|5=>.pointer (some ⟨E.b,0,none⟩)|6=>.slice (some ⟨E.g,0,none⟩) E.ts.length E.c|7=>.pointer (some ⟨E.b,0,none⟩)|8=>.pointer (some ⟨E.b,0,none⟩)|9=>.pointer (some ⟨E.b,1,none⟩)|10=>.int .i64 j|11=>.int .i64 J|12=>.pointer (some ⟨E.g,J*4,none⟩)|13=>.pointer (some ⟨E.g,J*4,none⟩)|14=>.int .i64 y.1.k|15=>.bool true|16=>.bool true|17=>.bool true|18=>.pointer (some ⟨E.b,0,none⟩)|19=>.pointer (some ⟨E.b,0,none⟩)|20=>.pointer (some ⟨E.b,0,none⟩)|21=>.slice (some ⟨E.g,0,none⟩) E.ts.length E.c|22=>.pointer (some ⟨E.b,0,none⟩)|23=>.pointer (some ⟨E.b,0,none⟩)|24=>.pointer (some ⟨E.b,1,none⟩)|25=>.int .i64 j|26=>.int .i64 J|27=>.pointer (some ⟨E.g,J*4,none⟩)|28=>.pointer (some ⟨E.g,J*4+1,none⟩)|29=>.string (bs y.1.t)|30=>.bool false|31=>.bool false|_=>undef) (by kernel_rfl) ?_
     exact ⟨HDF.out,jb,hG4,iq,aK,by omega⟩
   ·have HDF:=af (show Value.bool false=Value.bool (jI s) from by simp [jI,hn,hxy,h5])
    have c5:(y.1.k == 5)=false:=by simpa using h5
    clear hn hxy h5
    refine aQ 0 IM ?_
    refine qO 1 ?_
    refine fP (args:=#[.pointer (some ⟨E.b,0,none⟩)]) (f:=48) (by unfold execOp;go_simp) ((gJ E _ s gZ).mono ?_)
    rintro e w4 ⟨rfl,hg4⟩
    rw [HN.out]
    have jb:RS E w4 s:=gZ.below hg4
    have hG4:Gr (·=E.b) w w4:=Gr.trans hG3 (Gr.of_below hg4)
    have fU:Gr (fun q=>False) w2 w4:=Gr.trans IM (Gr.of_below hg4)
    have hs4:=hg4.size;(try simp at hs4)
    have aK:=bV aF hg4
    have iq:=bV jh hg4
    refine And.intro fU ?_
    simp only [Act.put,gA,gB,gC,gD,gE,gF]
    refine aQ 2 fU ?_
    refine iV 3 fU ?_
    refine iV 4 fU ?_
    refine iV 5 fU ?_
    refine mQ 6 fU ?_ (fun w' hS=>(hS.cell (p:=⟨E.b,0,none⟩) (by show E.b < _;omega) id).trans Wq)
    refine iV 7 fU ?_
    refine iV 8 fU ?_
    refine iV 9 fU ?_
    refine mQ 10 fU ?_ (fun w' hS=>(hS.cell (p:=⟨E.b,1,none⟩) (by show E.b < _;omega) id).trans Ws)
    refine Sl 11 fU ?_ (he:=fun w' hS=>by (have hJ:=HJ.out;have hJW:IntKind.i64.wrap (J:Int)=(J:Int):=(by rw [IntKind.wrap_i64];omega);unfold execOp;go_simp;first|done|exact rfl))
    refine iV 12 fU ?_
    refine iV 13 fU ?_
    refine mQ 14 fU ?_ (fun w' hS=>(hS.cell (p:=⟨E.g,J*4,none⟩) (by show E.g < _;omega) id).trans acg)
    refine iV 15 fU ?_
    refine aQ 16 fU ?_
    refine aQ 17 fU ?_
    refine lg 18 fU ?_
    refine lg 19 fU ?_
    refine lg 20 fU ?_
    refine lg 21 fU ?_
    refine lg 22 fU ?_
    refine lg 23 fU ?_
    refine lg 24 fU ?_
    refine lg 25 fU ?_
    refine lg 26 fU ?_
    refine lg 27 fU ?_
    refine lg 28 fU ?_
    refine lg 29 fU ?_
    refine lg 30 fU ?_
    refine aQ 31 fU ?_
    refine eZ ?_
    refine PQ.mk (fun i=>match i with|0=>.pointer (some ⟨E.b,0,none⟩)|1=>.bool true|2=>.bool true|3=>.pointer (some ⟨E.b,0,none⟩)|4=>.pointer (some ⟨E.b,0,none⟩)|5=>.pointer (some ⟨E.b,0,none⟩)|6=>.slice (some ⟨E.g,0,none⟩) E.ts.length E.c|7=>.pointer (some ⟨E.b,0,none⟩)|8=>.pointer (some ⟨E.b,0,none⟩)|9=>.pointer (some ⟨E.b,1,none⟩)|10=>.int .i64 j|11=>.int .i64 J|12=>.pointer (some ⟨E.g,J*4,none⟩)|13=>.pointer (some ⟨E.g,J*4,none⟩)|14=>.int .i64 y.1.k|15=>.bool false|16=>.bool false|17=>.bool false|18=>undef|19=>undef|20=>undef|21=>undef|22=>undef|23=>undef|24=>undef|25=>undef|26=>undef|27=>undef|28=>undef|29=>undef|30=>undef|31=>.bool false|_=>undef) (by kernel_rfl) ?_
    exact ⟨HDF.out,jb,hG4,iq,aK,by omega⟩
 case hk=>
 rintro vals BA ⟨Ym,Wt,ahu,ach,aci,_⟩
 dsimp only [bG]
 simp only [Act.put,gA,gB,gC,gD,gE,gF]
 rw [Ym]
 have ahv:=ach.lt
 have ahw:=aci.lt
 simp only [m5] at heq
 cases pR:jI s with
 |true=>
  simp only [pR,if_true] at heq
  obtain ⟨x1,s1,h1,heq⟩:=bF heq
  simp only [Option.some.injEq,Prod.mk.injEq] at heq
  obtain ⟨rfl,rfl⟩:=heq
  have nK:=af (fun (W:World) (hW:RS E W (aj [58,61] s.tl))=>show Calls Tryz.prog 80 #[.pointer (some ⟨E.b,0,none⟩),.int .i64 1] W (wH E W W.heap.size x1 s1) from Hn.expr E W _ 1 x1 s1 (by omega) (by omega) hW h1)
  have hnn:nE s=true:=by unfold jI at pR;simp only [Bool.and_eq_true] at pR;exact pR.1
  have HKK:=af (Ea hnn)
  clear h1 pR hnn
  obtain ⟨jq,hjq,hjl,_,e1,_,_,_,_,_,_,_,ef⟩:=Wt.here
  have Am:=ef 1
  have hll:=Wt.len
  have j0:(0:Int)<=(jq:Int):=by omega
  have j2:(jq:Int)<=8193:=by omega
  clear ef hjl hll
  have iY:=ic Wt HKK.out
  have dN:Gr (·=E.b) w (BA.setCell ⟨E.b,1,none⟩ (.int .i64 ((E.ts.length - s.l.length:Nat)+1:Int))):=vK ahu 1 _
  rw [hjq] at iY dN
  clear hjq
  go_wp2_with (first
   |(go_at_call 25;(with_reducible refine (aA E _ s.tl aB [58,61] ⟨#[58,61]⟩ rfl).mono ?_);rintro e jM ⟨rfl,TC,FL⟩;have Wu:=bP dN FL;have aan:=TC.lt;have zZ:=aD ax FL;have acj:=zZ.lt;have O7:=aD nT FL;have ahx:=O7.lt))
  have O8:∀q,(fun q=>q < jM.heap.size) q->q < jM.heap.size:=fun q hq=>hq
  obtain ⟨_,_,aep,_,aeq,_⟩:=O7.jX
  refine mM (S:=fun V=>Gr (fun q=>q=E.b) jM V) (fun vals W=>∃z r:Nat,vals 8= .pointer (some ⟨z,0,none⟩)/\RS E W s1/\Gr (·=E.b) w W/\ag W w.heap.size 24 Z7/\ag W z 24 (N7 18 0 0 ⟨#[]⟩ (bs (hd s.l).1.t) ((hd s.l).2) (.slice (some ⟨r,0,none⟩) 1 1))/\ah W E.L (fun q=>q < jM.heap.size\/q=z) (.slice (some ⟨r,0,none⟩) 1 1) [x1]/\jM.heap.size<=z) (by kernel_rfl) (Gr.refl _).drew (fun hS0=>?qY) ?hk
  case qY=>
   obtain ⟨uy,TD⟩:=aS jM.drew
   rw [TD] at hS0 |-
   have O9:Gr (fun q=>q=E.b) jM uy:=hS0
   clear hS0
   have Mv:=dJ TD (RS.drew TC)
   have TE:=bK TD (Gr.drew Wu)
   have aer:jM.heap.size+0<=uy.heap.size:=by rw [<-TD];exact Nat.le_refl _
   have akc:=Mv.lt
   have akd:=Mv.iy
   have z8:=aP TD (ag.drew zZ)
   have ahy:=z8.lt
   have Pb:=aP TD (ag.drew O7)
   have ahz:=Pb.lt
   refine aQ 0 O9 ?_
   refine jS 1 O9 ?_ (fun w' hS=>(hS.cell (p:=⟨w1.heap.size,1,none⟩) (by show w1.heap.size < _;omega) (by show ¬(w1.heap.size=E.b);first|omega|(simp;omega))).trans aep)
   refine aQ 2 O9 ?_
   refine jS 3 O9 ?_ (fun w' hS=>(hS.cell (p:=⟨w1.heap.size,3,none⟩) (by show w1.heap.size < _;omega) (by show ¬(w1.heap.size=E.b);first|omega|(simp;omega))).trans aeq)
   refine aQ 4 O9 ?_
   refine jE (i:=5) (j:=8) (by kernel_rfl) rfl rfl rfl rfl ?_ ?_
   ·refine fP (args:=#[.pointer (some ⟨E.b,0,none⟩),.int .i64 1]) (f:=80) (by unfold execOp;go_simp) ((nK.out uy Mv).mono ?_)
    rintro e jo ⟨G6,xY,k23,Kb,m23,Za,t23,a23,Aa,A23,c23,aes,rfl,Zb⟩
    have aet:=af aes
    clear aes
    have Mw:Gr (·=E.b) w jo:=Gr.trans TE (Gr.mono G6 (fun _ _ e=>e))
    have FM:Gr (fun q=>q=E.b) jM jo:=Gr.trans O9 (Gr.mono G6 (fun _ _ e=>by first|exact e|exact .inl e))
    have ack:=G6.size;(try simp at ack)
    have aeu:=xY.lt
    have aev:=xY.iy
    have tN:=aD z8 G6
    have acm:=tN.lt
    have FN:=aD Pb G6
    have ahA:=FN.lt
    have Kc:ah jo E.L (fun q=>q < jM.heap.size) (.slice A23 Aa.length c23) Aa:=ah.mono (aI.p (lo:=uy.heap.size) Zb (fun q hq=>.inl (Nat.lt_of_lt_of_le (O8 q hq) (by omega)))) (by have:=Mv.L;omega)
    refine And.intro FM ?_
    simp only [Act.put,gA,gB,gC,gD,gE,gF]
    refine jE (i:=6) (j:=8) (by kernel_rfl) rfl rfl rfl rfl ?_ ?_
    ·obtain ⟨lW,qH⟩:=aS (jo.alloc (.cells #[.int .i64 k23,.int .i64 Kb,.int .i64 m23,.string (bs Za),.string (bs t23),.int .i64 a23,.slice A23 Aa.length c23] 24))
     have Ab:=dJ qH (RS.alloc xY _)
     have G7:=bK qH (Gr.alloc Mw _)
     have Pf:jo.heap.size+1<=lW.heap.size:=by rw [<-qH];simp
     have ake:=Ab.lt
     have akf:=Ab.iy
     have tO:=aP qH (ag.alloc tN _)
     have ahB:=tO.lt
     have Cx:=aP qH (ag.alloc FN _)
     have ahC:=Cx.lt
     have Ed:=ko qH (ah.alloc Kc _)
     have Ac:=bK qH (Gr.alloc FM _)
     have Pg:ah lW E.L (fun q=>q < jM.heap.size) (.slice (some ⟨jo.heap.size,0,none⟩) 1 1) [Tr.mk k23 Kb m23 Za t23 a23 Aa]:=by rw [<-qH];exact ah.lI Kc (by have:=xY.L;omega) (fun q hq=>Nat.lt_of_lt_of_le (O8 q hq) (by omega))
     refine aY (v:=(.slice (some ⟨jo.heap.size,0,none⟩) 1 1)) (w':=lW) (by rw [<-qH];unfold execOp;go_simp) (And.intro Ac ?_)
     simp only [Act.put,gA,gB,gC,gD,gE,gF]
     refine aQ 7 Ac ?_
     refine qO 8 ?_
     obtain ⟨vk,mY⟩:=aS (lW.alloc (.cells #[.int .i64 0,.int .i64 0,.int .i64 0,.string ⟨#[]⟩,.string ⟨#[]⟩,.int .i64 0,.slice none 0 0] 24))
     have BB:=dJ mY (RS.alloc Ab _)
     have DW:=bK mY (Gr.alloc G7 _)
     have ahD:lW.heap.size+1<=vk.heap.size:=by rw [<-mY];simp
     have pG:=aP mY (ag.alloc tO _)
     have FO:=aP mY (ag.alloc Cx _)
     have xe:=bK mY (Gr.alloc Ac _)
     have oL:ag vk lW.heap.size 24 Z7:=by rw [<-mY];exact ag.new _ _ _
     have Zc:ah vk E.L (fun q=>(fun q=>q < jM.heap.size) q\/q=lW.heap.size) (.slice A23 Aa.length c23) Aa:=by rw [<-mY];exact (ah.or Ed (Nat.le_refl _)).alloc _
     have vX:ah vk E.L (fun q=>(fun q=>q < jM.heap.size) q\/q=lW.heap.size) (.slice (some ⟨jo.heap.size,0,none⟩) 1 1) [Tr.mk k23 Kb m23 Za t23 a23 Aa]:=by rw [<-mY];exact (ah.or Pg (Nat.le_refl _)).alloc _
     refine aY (v:=(.pointer (some ⟨lW.heap.size,0,none⟩))) (w':=vk) (by rw [<-mY];unfold execOp;go_simp) (And.intro xe ?_)
     simp only [Act.put,gA,gB,gC,gD,gE,gF]
     refine qO 9 ?_
     have FH:(fun q=>(fun q=>q < jM.heap.size) q\/q=lW.heap.size) lW.heap.size:=.inr rfl
     obtain ⟨rV,vY⟩:=aS (fA vk lW.heap.size 0 (.int .i64 18) (.int .i64 0) (.int .i64 0) (.string ⟨#[]⟩) (.string (bs (hd s.l).1.t)) (.int .i64 (hd s.l).2) (.slice (some ⟨jo.heap.size,0,none⟩) 1 1))
     have jV:Gr (fun q=>q=lW.heap.size) vk rV:=by rw [<-vY];exact fQ (Gr.refl _) (.inr rfl)
     have uK:ag rV lW.heap.size 24 (N7 18 0 0 ⟨#[]⟩ (bs (hd s.l).1.t) ((hd s.l).2) (.slice (some ⟨jo.heap.size,0,none⟩) 1 1)):=by rw [<-vY];exact ag.fA oL (.int .i64 18) (.int .i64 0) (.int .i64 0) (.string ⟨#[]⟩) (.string (bs (hd s.l).1.t)) (.int .i64 (hd s.l).2) (.slice (some ⟨jo.heap.size,0,none⟩) 1 1)
     have G8:RS E rV s1:=RS.gr BB jV (by show ¬E.b=lW.heap.size;omega) (by show ¬E.g=lW.heap.size;omega)
     have FP:Gr (·=E.b) w rV:=Gr.wide DW jV (fun q hq e=>by first|omega|(exfalso;omega))
     have tQ:ag rV w.heap.size 24 Z7:=ag.gr pG jV (by show ¬w.heap.size=lW.heap.size;omega)
     have Wv:ag rV w1.heap.size 53 (T4 ((hd s.l).1.k) (bs (hd s.l).1.t) ((hd s.l).1.n) ((hd s.l).2)):=ag.gr FO jV (by show ¬w1.heap.size=lW.heap.size;omega)
     have vZ:ah rV E.L (fun q=>(fun q=>q < jM.heap.size) q\/q=lW.heap.size) (.slice (some ⟨jo.heap.size,0,none⟩) 1 1) [Tr.mk k23 Kb m23 Za t23 a23 Aa]:=ah.gr vX jV (fun q _ h3 _ h2=>by have e2:q=lW.heap.size:=h2;first|omega|exact h3 (e2▸FH))
     have Ke:Gr (fun q=>q=E.b) jM rV:=Gr.wide xe jV (fun q hq e=>by have e2:q=lW.heap.size:=e;first|(right;exact e2)|(exfalso;omega)|omega)
     refine iD _ _ _ _ _ _ _ lW.heap.size 0 (18) (0) (0) ([]) ((hd s.l).1.t) ((hd s.l).2) (1) (1) ((some ⟨jo.heap.size,0,none⟩)) rfl rfl (ag.sw oL) (fun q=>oL.frozen q) ?_
     show Gr (fun q=>q=E.b) jM (fA vk lW.heap.size 0 (.int .i64 18) (.int .i64 0) (.int .i64 0) (.string ⟨#[]⟩) (.string (bs (hd s.l).1.t)) (.int .i64 (hd s.l).2) (.slice (some ⟨jo.heap.size,0,none⟩) 1 1))/\wpAnyH _ _ _ _ _ _ _ _ (fA vk lW.heap.size 0 (.int .i64 18) (.int .i64 0) (.int .i64 0) (.string ⟨#[]⟩) (.string (bs (hd s.l).1.t)) (.int .i64 (hd s.l).2) (.slice (some ⟨jo.heap.size,0,none⟩) 1 1))
     rw [vY]
     refine And.intro Ke ?_
     simp only [Act.put,gA,gB,gC,gD,gE,gF]
     refine eZ ?_
     refine PQ.mk (fun i=>match i with|0=>.pointer (some ⟨w1.heap.size,1,none⟩)|1=>.string (bs (hd s.l).1.t)|2=>.pointer (some ⟨w1.heap.size,3,none⟩)|3=>.int .i64 (hd s.l).2|4=>.pointer (some ⟨E.b,0,none⟩)|5=>.agg #[.int .i64 k23,.int .i64 Kb,.int .i64 m23,.string (bs Za),.string (bs t23),.int .i64 a23,.slice A23 Aa.length c23]|6=>.slice (some ⟨jo.heap.size,0,none⟩) 1 1|7=>.agg #[.int .i64 18,.int .i64 0,.int .i64 0,.string ⟨#[]⟩,.string (bs (hd s.l).1.t),.int .i64 (hd s.l).2,.slice (some ⟨jo.heap.size,0,none⟩) 1 1]|8=>.pointer (some ⟨lW.heap.size,0,none⟩)|9=>undef|_=>undef) (by kernel_rfl) ?_
     exact ⟨_,_,rfl,G8,FP,tQ,uK,by rw [aet.out];exact vZ,by omega⟩
    ·obtain ⟨lW,qH⟩:=aS (jo.alloc (.cells #[.int .i64 0,.int .i64 0,.int .i64 0,.string ⟨#[]⟩,.string ⟨#[]⟩,.int .i64 0,.slice none 0 0] 24))
     have Ab:=dJ qH (RS.alloc xY _)
     have G7:=bK qH (Gr.alloc Mw _)
     have Pf:jo.heap.size+1<=lW.heap.size:=by rw [<-qH];simp
     have tO:=aP qH (ag.alloc tN _)
     have Cx:=aP qH (ag.alloc FN _)
     have Ac:=bK qH (Gr.alloc FM _)
     have Cy:ag lW jo.heap.size 24 Z7:=by rw [<-qH];exact ag.new _ _ _
     have aew:∀q,(fun q=>(fun q=>q < jM.heap.size) q\/q=jo.heap.size) q->q < lW.heap.size:=fun q hq=>hq.elim (fun e=>Nat.lt_of_lt_of_le (O8 q e) (by omega)) (fun e=>by omega)
     have Ed:ah lW E.L (fun q=>(fun q=>q < jM.heap.size) q\/q=jo.heap.size) (.slice A23 Aa.length c23) Aa:=by rw [<-qH];exact (ah.or Kc (Nat.le_refl _)).alloc _
     refine aY (v:=(.pointer (some ⟨jo.heap.size,0,none⟩))) (w':=lW) (by rw [<-qH];unfold execOp;go_simp) (And.intro Ac ?_)
     simp only [Act.put,gA,gB,gC,gD,gE,gF]
     refine qO 6 ?_
     obtain ⟨vk,mY⟩:=aS (lW.alloc (.cells #[.int .i64 k23,.int .i64 Kb,.int .i64 m23,.string (bs Za),.string (bs t23),.int .i64 a23,.slice A23 Aa.length c23] 24))
     have BB:=dJ mY (RS.alloc Ab _)
     have DW:=bK mY (Gr.alloc G7 _)
     have pG:=aP mY (ag.alloc tO _)
     have FO:=aP mY (ag.alloc Cx _)
     have oL:=aP mY (ag.alloc Cy _)
     have Zc:=ko mY (ah.alloc Ed _)
     have xe:=bK mY (Gr.alloc Ac _)
     have vX:ah vk E.L (fun q=>(fun q=>q < jM.heap.size) q\/q=jo.heap.size) (.slice (some ⟨lW.heap.size,0,none⟩) 1 1) [Tr.mk k23 Kb m23 Za t23 a23 Aa]:=by rw [<-mY];exact ah.lI Ed (by have:=Ab.L;omega) (fun q hq=>Nat.lt_of_lt_of_le (aew q hq) (by omega))
     refine aY (v:=(.slice (some ⟨lW.heap.size,0,none⟩) 1 1)) (w':=vk) (by rw [<-mY];unfold execOp;go_simp) (And.intro xe ?_)
     simp only [Act.put,gA,gB,gC,gD,gE,gF]
     refine aQ 7 xe ?_
     refine qO 9 ?_
     have FH:(fun q=>(fun q=>q < jM.heap.size) q\/q=jo.heap.size) jo.heap.size:=.inr rfl
     obtain ⟨rV,vY⟩:=aS (fA vk jo.heap.size 0 (.int .i64 18) (.int .i64 0) (.int .i64 0) (.string ⟨#[]⟩) (.string (bs (hd s.l).1.t)) (.int .i64 (hd s.l).2) (.slice (some ⟨lW.heap.size,0,none⟩) 1 1))
     have jV:Gr (fun q=>q=jo.heap.size) vk rV:=by rw [<-vY];exact fQ (Gr.refl _) (.inr rfl)
     have uK:ag rV jo.heap.size 24 (N7 18 0 0 ⟨#[]⟩ (bs (hd s.l).1.t) ((hd s.l).2) (.slice (some ⟨lW.heap.size,0,none⟩) 1 1)):=by rw [<-vY];exact ag.fA oL (.int .i64 18) (.int .i64 0) (.int .i64 0) (.string ⟨#[]⟩) (.string (bs (hd s.l).1.t)) (.int .i64 (hd s.l).2) (.slice (some ⟨lW.heap.size,0,none⟩) 1 1)
     have G8:RS E rV s1:=RS.gr BB jV (by show ¬E.b=jo.heap.size;omega) (by show ¬E.g=jo.heap.size;omega)
     have FP:Gr (·=E.b) w rV:=Gr.wide DW jV (fun q hq e=>by first|omega|(exfalso;omega))
     have tQ:ag rV w.heap.size 24 Z7:=ag.gr pG jV (by show ¬w.heap.size=jo.heap.size;omega)
     have Wv:ag rV w1.heap.size 53 (T4 ((hd s.l).1.k) (bs (hd s.l).1.t) ((hd s.l).1.n) ((hd s.l).2)):=ag.gr FO jV (by show ¬w1.heap.size=jo.heap.size;omega)
     have vZ:ah rV E.L (fun q=>(fun q=>q < jM.heap.size) q\/q=jo.heap.size) (.slice (some ⟨lW.heap.size,0,none⟩) 1 1) [Tr.mk k23 Kb m23 Za t23 a23 Aa]:=ah.gr vX jV (fun q _ h3 _ h2=>by have e2:q=jo.heap.size:=h2;first|omega|exact h3 (e2▸FH))
     have Ke:Gr (fun q=>q=E.b) jM rV:=Gr.wide xe jV (fun q hq e=>by have e2:q=jo.heap.size:=e;first|(right;exact e2)|(exfalso;omega)|omega)
     refine iD _ _ _ _ _ _ _ jo.heap.size 0 (18) (0) (0) ([]) ((hd s.l).1.t) ((hd s.l).2) (1) (1) ((some ⟨lW.heap.size,0,none⟩)) rfl rfl (ag.sw oL) (fun q=>oL.frozen q) ?_
     show Gr (fun q=>q=E.b) jM (fA vk jo.heap.size 0 (.int .i64 18) (.int .i64 0) (.int .i64 0) (.string ⟨#[]⟩) (.string (bs (hd s.l).1.t)) (.int .i64 (hd s.l).2) (.slice (some ⟨lW.heap.size,0,none⟩) 1 1))/\wpAnyH _ _ _ _ _ _ _ _ (fA vk jo.heap.size 0 (.int .i64 18) (.int .i64 0) (.int .i64 0) (.string ⟨#[]⟩) (.string (bs (hd s.l).1.t)) (.int .i64 (hd s.l).2) (.slice (some ⟨lW.heap.size,0,none⟩) 1 1))
     rw [vY]
     refine And.intro Ke ?_
     simp only [Act.put,gA,gB,gC,gD,gE,gF]
     refine eZ ?_
     refine PQ.mk (fun i=>match i with|0=>.pointer (some ⟨w1.heap.size,1,none⟩)|1=>.string (bs (hd s.l).1.t)|2=>.pointer (some ⟨w1.heap.size,3,none⟩)|3=>.int .i64 (hd s.l).2|4=>.pointer (some ⟨E.b,0,none⟩)|5=>.agg #[.int .i64 k23,.int .i64 Kb,.int .i64 m23,.string (bs Za),.string (bs t23),.int .i64 a23,.slice A23 Aa.length c23]|6=>.slice (some ⟨lW.heap.size,0,none⟩) 1 1|7=>.agg #[.int .i64 18,.int .i64 0,.int .i64 0,.string ⟨#[]⟩,.string (bs (hd s.l).1.t),.int .i64 (hd s.l).2,.slice (some ⟨lW.heap.size,0,none⟩) 1 1]|8=>.pointer (some ⟨jo.heap.size,0,none⟩)|9=>undef|_=>undef) (by kernel_rfl) ?_
     exact ⟨_,_,rfl,G8,FP,tQ,uK,by rw [aet.out];exact vZ,by omega⟩
   ·obtain ⟨jo,yV⟩:=aS (uy.alloc (.cells #[.int .i64 0,.int .i64 0,.int .i64 0,.string ⟨#[]⟩,.string ⟨#[]⟩,.int .i64 0,.slice none 0 0] 24))
    have xY:=dJ yV (RS.alloc Mv _)
    have Mw:=bK yV (Gr.alloc TE _)
    have ack:uy.heap.size+1<=jo.heap.size:=by rw [<-yV];simp
    have tN:=aP yV (ag.alloc z8 _)
    have FN:=aP yV (ag.alloc Pb _)
    have FM:=bK yV (Gr.alloc O9 _)
    have acn:ag jo uy.heap.size 24 Z7:=by rw [<-yV];exact ag.new _ _ _
    have aao:∀q,(fun q=>(fun q=>q < jM.heap.size) q\/q=uy.heap.size) q->q < jo.heap.size:=fun q hq=>hq.elim (fun e=>Nat.lt_of_lt_of_le (O8 q e) (by omega)) (fun e=>by omega)
    refine aY (v:=(.pointer (some ⟨uy.heap.size,0,none⟩))) (w':=jo) (by rw [<-yV];unfold execOp;go_simp) (And.intro FM ?_)
    simp only [Act.put,gA,gB,gC,gD,gE,gF]
    refine qO 5 ?_
    refine fP (args:=#[.pointer (some ⟨E.b,0,none⟩),.int .i64 1]) (f:=80) (by unfold execOp;go_simp) ((nK.out jo xY).mono ?_)
    rintro e lW ⟨wh,Ab,k24,Zd,m24,p24,t24,a24,TF,Ww,c24,aex,rfl,Ze⟩
    have ahE:=af aex
    clear aex
    have G7:Gr (·=E.b) w lW:=Gr.trans Mw (Gr.mono wh (fun _ _ e=>e))
    have Ac:Gr (fun q=>q=E.b) jM lW:=Gr.trans FM (Gr.mono wh (fun _ _ e=>by first|exact e|exact .inl e))
    have Pf:=wh.size;(try simp at Pf)
    have tO:=aD tN wh
    have Cx:=aD FN wh
    have Cy:=aD acn wh
    have Rq:ah lW E.L (fun q=>(fun q=>q < jM.heap.size) q\/q=uy.heap.size) (.slice Ww TF.length c24) TF:=ah.mono (aI.p (lo:=jo.heap.size) Ze (fun q hq=>.inl (Nat.lt_of_lt_of_le (aao q hq) (by omega)))) (by have:=xY.L;omega)
    refine And.intro Ac ?_
    simp only [Act.put,gA,gB,gC,gD,gE,gF]
    refine qO 6 ?_
    obtain ⟨vk,mY⟩:=aS (lW.alloc (.cells #[.int .i64 k24,.int .i64 Zd,.int .i64 m24,.string (bs p24),.string (bs t24),.int .i64 a24,.slice Ww TF.length c24] 24))
    have BB:=dJ mY (RS.alloc Ab _)
    have DW:=bK mY (Gr.alloc G7 _)
    have pG:=aP mY (ag.alloc tO _)
    have FO:=aP mY (ag.alloc Cx _)
    have oL:=aP mY (ag.alloc Cy _)
    have agC:=ko mY (ah.alloc Rq _)
    have xe:=bK mY (Gr.alloc Ac _)
    have vX:ah vk E.L (fun q=>(fun q=>q < jM.heap.size) q\/q=uy.heap.size) (.slice (some ⟨lW.heap.size,0,none⟩) 1 1) [Tr.mk k24 Zd m24 p24 t24 a24 TF]:=by rw [<-mY];exact ah.lI Rq (by have:=Ab.L;omega) (fun q hq=>Nat.lt_of_lt_of_le (aao q hq) (by omega))
    refine aY (v:=(.slice (some ⟨lW.heap.size,0,none⟩) 1 1)) (w':=vk) (by rw [<-mY];unfold execOp;go_simp) (And.intro xe ?_)
    simp only [Act.put,gA,gB,gC,gD,gE,gF]
    refine aQ 7 xe ?_
    refine qO 9 ?_
    have FH:(fun q=>(fun q=>q < jM.heap.size) q\/q=uy.heap.size) uy.heap.size:=.inr rfl
    obtain ⟨rV,vY⟩:=aS (fA vk uy.heap.size 0 (.int .i64 18) (.int .i64 0) (.int .i64 0) (.string ⟨#[]⟩) (.string (bs (hd s.l).1.t)) (.int .i64 (hd s.l).2) (.slice (some ⟨lW.heap.size,0,none⟩) 1 1))
    have jV:Gr (fun q=>q=uy.heap.size) vk rV:=by rw [<-vY];exact fQ (Gr.refl _) (.inr rfl)
    have uK:ag rV uy.heap.size 24 (N7 18 0 0 ⟨#[]⟩ (bs (hd s.l).1.t) ((hd s.l).2) (.slice (some ⟨lW.heap.size,0,none⟩) 1 1)):=by rw [<-vY];exact ag.fA oL (.int .i64 18) (.int .i64 0) (.int .i64 0) (.string ⟨#[]⟩) (.string (bs (hd s.l).1.t)) (.int .i64 (hd s.l).2) (.slice (some ⟨lW.heap.size,0,none⟩) 1 1)
    have G8:RS E rV s1:=RS.gr BB jV (by show ¬E.b=uy.heap.size;omega) (by show ¬E.g=uy.heap.size;omega)
    have FP:Gr (·=E.b) w rV:=Gr.wide DW jV (fun q hq e=>by first|omega|(exfalso;omega))
    have tQ:ag rV w.heap.size 24 Z7:=ag.gr pG jV (by show ¬w.heap.size=uy.heap.size;omega)
    have Wv:ag rV w1.heap.size 53 (T4 ((hd s.l).1.k) (bs (hd s.l).1.t) ((hd s.l).1.n) ((hd s.l).2)):=ag.gr FO jV (by show ¬w1.heap.size=uy.heap.size;omega)
    have vZ:ah rV E.L (fun q=>(fun q=>q < jM.heap.size) q\/q=uy.heap.size) (.slice (some ⟨lW.heap.size,0,none⟩) 1 1) [Tr.mk k24 Zd m24 p24 t24 a24 TF]:=ah.gr vX jV (fun q _ h3 _ h2=>by have e2:q=uy.heap.size:=h2;first|omega|exact h3 (e2▸FH))
    have Ke:Gr (fun q=>q=E.b) jM rV:=Gr.wide xe jV (fun q hq e=>by have e2:q=uy.heap.size:=e;first|(right;exact e2)|(exfalso;omega)|omega)
    refine iD _ _ _ _ _ _ _ uy.heap.size 0 (18) (0) (0) ([]) ((hd s.l).1.t) ((hd s.l).2) (1) (1) ((some ⟨lW.heap.size,0,none⟩)) rfl rfl (ag.sw oL) (fun q=>oL.frozen q) ?_
    show Gr (fun q=>q=E.b) jM (fA vk uy.heap.size 0 (.int .i64 18) (.int .i64 0) (.int .i64 0) (.string ⟨#[]⟩) (.string (bs (hd s.l).1.t)) (.int .i64 (hd s.l).2) (.slice (some ⟨lW.heap.size,0,none⟩) 1 1))/\wpAnyH _ _ _ _ _ _ _ _ (fA vk uy.heap.size 0 (.int .i64 18) (.int .i64 0) (.int .i64 0) (.string ⟨#[]⟩) (.string (bs (hd s.l).1.t)) (.int .i64 (hd s.l).2) (.slice (some ⟨lW.heap.size,0,none⟩) 1 1))
    rw [vY]
    refine And.intro Ke ?_
    simp only [Act.put,gA,gB,gC,gD,gE,gF]
    refine eZ ?_
    refine PQ.mk (fun i=>match i with|0=>.pointer (some ⟨w1.heap.size,1,none⟩)|1=>.string (bs (hd s.l).1.t)|2=>.pointer (some ⟨w1.heap.size,3,none⟩)|3=>.int .i64 (hd s.l).2|4=>.pointer (some ⟨E.b,0,none⟩)|5=>.agg #[.int .i64 k24,.int .i64 Zd,.int .i64 m24,.string (bs p24),.string (bs t24),.int .i64 a24,.slice Ww TF.length c24]|6=>.slice (some ⟨lW.heap.size,0,none⟩) 1 1|7=>.agg #[.int .i64 18,.int .i64 0,.int .i64 0,.string ⟨#[]⟩,.string (bs (hd s.l).1.t),.int .i64 (hd s.l).2,.slice (some ⟨lW.heap.size,0,none⟩) 1 1]|8=>.pointer (some ⟨uy.heap.size,0,none⟩)|9=>undef|_=>undef) (by kernel_rfl) ?_
    exact ⟨_,_,rfl,G8,FP,tQ,uK,by rw [ahE.out];exact vZ,by omega⟩
  case hk=>
  rintro vals w60 ⟨z,r,ev8,Mx,Wx,FQ,FR,Cz,hzq⟩
  dsimp only [bG]
  simp only [Act.put,gA,gB,gC,gD,gE,gF]
  rw [ev8]
  clear ev8
  have hzb:z≠E.b:=by omega
  go_wp2_with (first
   |(go_at_call 25;(with_reducible refine (aA E _ s1 aB [59] ⟨#[59]⟩ rfl).mono ?_);rintro e xm ⟨rfl,G9,kg⟩;have FT:=bP dN kg;have q9:=aD ax kg;obtain ⟨_,aey,aez,aeA,aeB,aeC,aeD,aeE,aeF⟩:=q9.av;have pI:ag xm z 24 (N7 18 0 0 ⟨#[]⟩ (bs (hd s.l).1.t) ((hd s.l).2) (.slice (some ⟨r,0,none⟩) 1 1)):=bU kg;obtain ⟨_,aap,aeG,aeH,aeI,aeJ,aeK,aeL,_⟩:=pI.av;have uL:ah xm E.L (fun q=>q < jM.heap.size\/q=z) (.slice (some ⟨r,0,none⟩) 1 1) [x1]:=vJ kg))
  have cB:(fun q=>q < jM.heap.size\/q=z) w.heap.size:=.inl (by omega)
  exact aX Tryz.results119 rfl rfl dS ⟨aJ,aB,18,0,0,[],(hdt s),(hdp s),[x1],(some ⟨r,0,none⟩),1,rfl,rfl,(ah.up (lo:=E.L) (X:=(fun q=>q < jM.heap.size\/q=z)) (v:=.slice (some ⟨r,0,none⟩) 1 1) (ks:=[x1]) uu (fun q hq=>by have:¬(q < jM.heap.size\/q=z):=hq;omega))⟩
 |false=>
  simp only [pR,Bool.false_eq_true,if_false] at heq
  obtain ⟨x1,s1,h1,heq⟩:=bF heq
  have nK:=af (fun (W:World) (hW:RS E W s)=>show Calls Tryz.prog 80 #[.pointer (some ⟨E.b,0,none⟩),.int .i64 1] W (wH E W W.heap.size x1 s1) from Hn.expr E W _ 1 x1 s1 (by omega) (by omega) hW h1)
  clear h1 pR
  cases hq1:bX [61] s1 with
  |false=>
   have fG:=af hq1
   simp only [hq1,Bool.false_eq_true,if_false,Option.some.injEq,Prod.mk.injEq] at heq
   obtain ⟨rfl,rfl⟩:=heq
   clear hq1
   go_wp2_with (first
    |(go_at_call 80;(with_reducible refine (nK.out _ aB).mono ?_);rintro e jM ⟨FL,TC,k21,qB,m21,BC,t21,a21,oC,MB,c21,rfl,rfl,Wy⟩;have Wu:=bP hG2 FL;have aco:=FL.size;(try simp at aco);have aan:=TC.lt;have zZ:=aD ax FL;have acj:=zZ.lt;have Ph:ah jM E.L (fun q=>q < BA.heap.size\/q=jM.heap.size) (.slice MB oC.length c21) oC:=ah.mono (aI.p (lo:=BA.heap.size) (Wy.mono (by simp)) (fun q hq=>hq.elim .inl (fun e=>.inr (by omega)))) (by have:=Wt.L;omega))
    |(go_at_call 27;(with_reducible refine (au E _ s1 aB [61] ⟨#[61]⟩ rfl).mono ?_);rintro e uy ⟨rfl,DX⟩;rw [fG.out];have Mv:RS E uy s1:=RS.below aB DX;have TE:=aL Wu DX;have aer:=DX.size;(try simp at aer);have z8:=bV zZ DX;have Kg:ag uy jM.heap.size 24 (N7 k21 qB m21 (bs BC) (bs t21) a21 (.slice MB oC.length c21)):=ag.aC bz DX;have Pj:=mR Ph DX))
   have O8:∀q,(fun q=>q < BA.heap.size\/q=jM.heap.size) q->q < uy.heap.size:=fun q hq=>hq.elim (fun e=>by omega) (fun e=>by omega)
   have cB:(fun q=>q < BA.heap.size\/q=jM.heap.size) w.heap.size:=.inl (by omega)
   obtain ⟨_,aeM,aeN,aeO,aeP,aeQ,aeR,aeS,_⟩:=Kg.av
   refine mM (S:=fun V=>Gr (fun q=>q=E.b\/q=w.heap.size) uy V) (fun _ W=>∃r:Nat,RS E W (aj [59] s1)/\Gr (·=E.b) w W/\ag W w.heap.size 24 (N7 20 0 0 ⟨#[]⟩ ⟨#[]⟩ (hdp s1) (.slice (some ⟨r,0,none⟩) 1 1))/\ah W E.L (fun q=>q < BA.heap.size\/q=jM.heap.size) (.slice (some ⟨r,0,none⟩) 1 1) [Tr.mk k21 qB m21 BC t21 a21 oC]) (by kernel_rfl) (Gr.refl _).drew (fun hS0=>?qY) ?hk
   case qY=>
    obtain ⟨jo,yV⟩:=aS uy.drew
    rw [yV] at hS0 |-
    have FM:Gr (fun q=>q=E.b\/q=w.heap.size) uy jo:=hS0
    clear hS0
    have xY:=dJ yV (RS.drew Mv)
    have Mw:=bK yV (Gr.drew TE)
    have ack:uy.heap.size+0<=jo.heap.size:=by rw [<-yV];exact Nat.le_refl _
    have tN:=aP yV (ag.drew z8)
    have FU:=aP yV (ag.drew Kg)
    have FV:=ko yV (ah.drew Pj)
    refine oU 0 FM ?_ (he:=fun w' hS=>by (have ahF:=(hS.cell (p:=⟨jM.heap.size,0,none⟩) (by show jM.heap.size < _;omega) (by show ¬(jM.heap.size=E.b\/jM.heap.size=w.heap.size);first|omega|(simp;omega))).trans aeM;have ahG:=(hS.cell (p:=⟨jM.heap.size,1,none⟩) (by show jM.heap.size < _;omega) (by show ¬(jM.heap.size=E.b\/jM.heap.size=w.heap.size);first|omega|(simp;omega))).trans aeN;have ahH:=(hS.cell (p:=⟨jM.heap.size,2,none⟩) (by show jM.heap.size < _;omega) (by show ¬(jM.heap.size=E.b\/jM.heap.size=w.heap.size);first|omega|(simp;omega))).trans aeO;have ahI:=(hS.cell (p:=⟨jM.heap.size,3,none⟩) (by show jM.heap.size < _;omega) (by show ¬(jM.heap.size=E.b\/jM.heap.size=w.heap.size);first|omega|(simp;omega))).trans aeP;have ahJ:=(hS.cell (p:=⟨jM.heap.size,4,none⟩) (by show jM.heap.size < _;omega) (by show ¬(jM.heap.size=E.b\/jM.heap.size=w.heap.size);first|omega|(simp;omega))).trans aeQ;have ahK:=(hS.cell (p:=⟨jM.heap.size,5,none⟩) (by show jM.heap.size < _;omega) (by show ¬(jM.heap.size=E.b\/jM.heap.size=w.heap.size);first|omega|(simp;omega))).trans aeR;have ahL:=(hS.cell (p:=⟨jM.heap.size,6,none⟩) (by show jM.heap.size < _;omega) (by show ¬(jM.heap.size=E.b\/jM.heap.size=w.heap.size);first|omega|(simp;omega))).trans aeS;unfold execOp;go_simp;first|done|exact rfl))
    refine aQ 2 FM ?_
    refine jE (i:=1) (j:=3) (by kernel_rfl) rfl rfl rfl rfl ?_ ?_
    ·obtain ⟨lW,qH⟩:=aS (jo.alloc (.cells #[.int .i64 k21,.int .i64 qB,.int .i64 m21,.string (bs BC),.string (bs t21),.int .i64 a21,.slice MB oC.length c21] 24))
     have Ab:=dJ qH (RS.alloc xY _)
     have G7:=bK qH (Gr.alloc Mw _)
     have tO:=aP qH (ag.alloc tN _)
     have Pk:=aP qH (ag.alloc FU _)
     have Kh:=ko qH (ah.alloc FV _)
     have Ac:=bK qH (Gr.alloc FM _)
     have Pg:ah lW E.L (fun q=>q < BA.heap.size\/q=jM.heap.size) (.slice (some ⟨jo.heap.size,0,none⟩) 1 1) [Tr.mk k21 qB m21 BC t21 a21 oC]:=by rw [<-qH];exact ah.lI FV (by have:=xY.L;omega) (fun q hq=>Nat.lt_of_lt_of_le (O8 q hq) (by omega))
     refine aY (v:=(.slice (some ⟨jo.heap.size,0,none⟩) 1 1)) (w':=lW) (by rw [<-qH];unfold execOp;go_simp) (And.intro Ac ?_)
     simp only [Act.put,gA,gB,gC,gD,gE,gF]
     refine qO 3 ?_
     refine fP (args:=#[.pointer (some ⟨E.b,0,none⟩),.string ⟨#[59]⟩]) (f:=25) (by unfold execOp;go_simp) ((aA E _ s1 Ab [59] ⟨#[59]⟩ rfl).mono ?_)
     rintro e vk ⟨rfl,BB,TG⟩
     have DW:Gr (·=E.b) w vk:=Gr.trans G7 (Gr.mono TG (fun _ _ e=>e))
     have xe:Gr (fun q=>q=E.b\/q=w.heap.size) uy vk:=Gr.trans Ac (Gr.mono TG (fun _ _ e=>by first|exact e|exact .inl e))
     have pG:=aD tO TG
     have Pm:=aD Pk TG
     have acp:=dU Kh TG
     have vX:=dU Pg TG
     refine And.intro xe ?_
     simp only [Act.put,gA,gB,gC,gD,gE,gF]
     refine aQ 4 xe ?_
     refine qO 5 ?_
     obtain ⟨rV,vY⟩:=aS (fA vk w.heap.size 0 (.int .i64 20) (.int .i64 0) (.int .i64 0) (.string ⟨#[]⟩) (.string ⟨#[]⟩) (.int .i64 (hdp s1)) (.slice (some ⟨jo.heap.size,0,none⟩) 1 1))
     have jV:Gr (fun q=>q=w.heap.size) vk rV:=by rw [<-vY];exact fQ (Gr.refl _) (.inr rfl)
     have tQ:ag rV w.heap.size 24 (N7 20 0 0 ⟨#[]⟩ ⟨#[]⟩ (hdp s1) (.slice (some ⟨jo.heap.size,0,none⟩) 1 1)):=by rw [<-vY];exact ag.fA pG (.int .i64 20) (.int .i64 0) (.int .i64 0) (.string ⟨#[]⟩) (.string ⟨#[]⟩) (.int .i64 (hdp s1)) (.slice (some ⟨jo.heap.size,0,none⟩) 1 1)
     have G8:RS E rV (aj [59] s1):=RS.gr BB jV (by show ¬E.b=w.heap.size;omega) (by show ¬E.g=w.heap.size;omega)
     have FP:Gr (·=E.b) w rV:=Gr.wide DW jV (fun q hq e=>by first|omega|(exfalso;omega))
     have acr:ag rV jM.heap.size 24 (N7 k21 qB m21 (bs BC) (bs t21) a21 (.slice MB oC.length c21)):=ag.gr Pm jV (by show ¬jM.heap.size=w.heap.size;omega)
     have vZ:ah rV E.L (fun q=>q < BA.heap.size\/q=jM.heap.size) (.slice (some ⟨jo.heap.size,0,none⟩) 1 1) [Tr.mk k21 qB m21 BC t21 a21 oC]:=ah.gr vX jV (fun q _ h3 _ h2=>by have e2:q=w.heap.size:=h2;first|omega|exact h3 (e2▸cB))
     have Ke:Gr (fun q=>q=E.b\/q=w.heap.size) uy rV:=Gr.wide xe jV (fun q hq e=>by have e2:q=w.heap.size:=e;first|(right;exact e2)|(exfalso;omega)|omega)
     refine iD _ _ _ _ _ _ _ w.heap.size 0 (20) (0) (0) ([]) ([]) ((hdp s1)) (1) (1) ((some ⟨jo.heap.size,0,none⟩)) rfl rfl (ag.sw pG) (fun q=>pG.frozen q) ?_
     show Gr (fun q=>q=E.b\/q=w.heap.size) uy (fA vk w.heap.size 0 (.int .i64 20) (.int .i64 0) (.int .i64 0) (.string ⟨#[]⟩) (.string ⟨#[]⟩) (.int .i64 (hdp s1)) (.slice (some ⟨jo.heap.size,0,none⟩) 1 1))/\wpAnyH _ _ _ _ _ _ _ _ (fA vk w.heap.size 0 (.int .i64 20) (.int .i64 0) (.int .i64 0) (.string ⟨#[]⟩) (.string ⟨#[]⟩) (.int .i64 (hdp s1)) (.slice (some ⟨jo.heap.size,0,none⟩) 1 1))
     rw [vY]
     refine And.intro Ke ?_
     simp only [Act.put,gA,gB,gC,gD,gE,gF]
     refine eZ ?_
     refine PQ.mk (fun i=>match i with|0=>.agg #[.int .i64 k21,.int .i64 qB,.int .i64 m21,.string (bs BC),.string (bs t21),.int .i64 a21,.slice MB oC.length c21]|1=>.slice (some ⟨jo.heap.size,0,none⟩) 1 1|2=>.pointer (some ⟨E.b,0,none⟩)|3=>.int .i64 (hdp s1)|4=>.agg #[.int .i64 20,.int .i64 0,.int .i64 0,.string ⟨#[]⟩,.string ⟨#[]⟩,.int .i64 (hdp s1),.slice (some ⟨jo.heap.size,0,none⟩) 1 1]|5=>undef|_=>undef) (by kernel_rfl) ?_
     exact ⟨_,G8,FP,tQ,vZ⟩
    ·refine fP (args:=#[.pointer (some ⟨E.b,0,none⟩),.string ⟨#[59]⟩]) (f:=25) (by unfold execOp;go_simp) ((aA E _ s1 xY [59] ⟨#[59]⟩ rfl).mono ?_)
     rintro e lW ⟨rfl,Ab,wh⟩
     have G7:Gr (·=E.b) w lW:=Gr.trans Mw (Gr.mono wh (fun _ _ e=>e))
     have Ac:Gr (fun q=>q=E.b\/q=w.heap.size) uy lW:=Gr.trans FM (Gr.mono wh (fun _ _ e=>by first|exact e|exact .inl e))
     have Pf:=wh.size;(try simp at Pf)
     have tO:=aD tN wh
     have Pk:=aD FU wh
     have Kh:=dU FV wh
     refine And.intro Ac ?_
     simp only [Act.put,gA,gB,gC,gD,gE,gF]
     refine qO 1 ?_
     obtain ⟨vk,mY⟩:=aS (lW.alloc (.cells #[.int .i64 k21,.int .i64 qB,.int .i64 m21,.string (bs BC),.string (bs t21),.int .i64 a21,.slice MB oC.length c21] 24))
     have BB:=dJ mY (RS.alloc Ab _)
     have DW:=bK mY (Gr.alloc G7 _)
     have pG:=aP mY (ag.alloc tO _)
     have Pm:=aP mY (ag.alloc Pk _)
     have acp:=ko mY (ah.alloc Kh _)
     have xe:=bK mY (Gr.alloc Ac _)
     have vX:ah vk E.L (fun q=>q < BA.heap.size\/q=jM.heap.size) (.slice (some ⟨lW.heap.size,0,none⟩) 1 1) [Tr.mk k21 qB m21 BC t21 a21 oC]:=by rw [<-mY];exact ah.lI Kh (by have:=Ab.L;omega) (fun q hq=>Nat.lt_of_lt_of_le (O8 q hq) (by omega))
     refine aY (v:=(.slice (some ⟨lW.heap.size,0,none⟩) 1 1)) (w':=vk) (by rw [<-mY];unfold execOp;go_simp) (And.intro xe ?_)
     simp only [Act.put,gA,gB,gC,gD,gE,gF]
     refine aQ 4 xe ?_
     refine qO 5 ?_
     obtain ⟨rV,vY⟩:=aS (fA vk w.heap.size 0 (.int .i64 20) (.int .i64 0) (.int .i64 0) (.string ⟨#[]⟩) (.string ⟨#[]⟩) (.int .i64 (hdp s1)) (.slice (some ⟨lW.heap.size,0,none⟩) 1 1))
     have jV:Gr (fun q=>q=w.heap.size) vk rV:=by rw [<-vY];exact fQ (Gr.refl _) (.inr rfl)
     have tQ:ag rV w.heap.size 24 (N7 20 0 0 ⟨#[]⟩ ⟨#[]⟩ (hdp s1) (.slice (some ⟨lW.heap.size,0,none⟩) 1 1)):=by rw [<-vY];exact ag.fA pG (.int .i64 20) (.int .i64 0) (.int .i64 0) (.string ⟨#[]⟩) (.string ⟨#[]⟩) (.int .i64 (hdp s1)) (.slice (some ⟨lW.heap.size,0,none⟩) 1 1)
     have G8:RS E rV (aj [59] s1):=RS.gr BB jV (by show ¬E.b=w.heap.size;omega) (by show ¬E.g=w.heap.size;omega)
     have FP:Gr (·=E.b) w rV:=Gr.wide DW jV (fun q hq e=>by first|omega|(exfalso;omega))
     have acr:ag rV jM.heap.size 24 (N7 k21 qB m21 (bs BC) (bs t21) a21 (.slice MB oC.length c21)):=ag.gr Pm jV (by show ¬jM.heap.size=w.heap.size;omega)
     have vZ:ah rV E.L (fun q=>q < BA.heap.size\/q=jM.heap.size) (.slice (some ⟨lW.heap.size,0,none⟩) 1 1) [Tr.mk k21 qB m21 BC t21 a21 oC]:=ah.gr vX jV (fun q _ h3 _ h2=>by have e2:q=w.heap.size:=h2;first|omega|exact h3 (e2▸cB))
     have Ke:Gr (fun q=>q=E.b\/q=w.heap.size) uy rV:=Gr.wide xe jV (fun q hq e=>by have e2:q=w.heap.size:=e;first|(right;exact e2)|(exfalso;omega)|omega)
     refine iD _ _ _ _ _ _ _ w.heap.size 0 (20) (0) (0) ([]) ([]) ((hdp s1)) (1) (1) ((some ⟨lW.heap.size,0,none⟩)) rfl rfl (ag.sw pG) (fun q=>pG.frozen q) ?_
     show Gr (fun q=>q=E.b\/q=w.heap.size) uy (fA vk w.heap.size 0 (.int .i64 20) (.int .i64 0) (.int .i64 0) (.string ⟨#[]⟩) (.string ⟨#[]⟩) (.int .i64 (hdp s1)) (.slice (some ⟨lW.heap.size,0,none⟩) 1 1))/\wpAnyH _ _ _ _ _ _ _ _ (fA vk w.heap.size 0 (.int .i64 20) (.int .i64 0) (.int .i64 0) (.string ⟨#[]⟩) (.string ⟨#[]⟩) (.int .i64 (hdp s1)) (.slice (some ⟨lW.heap.size,0,none⟩) 1 1))
     rw [vY]
     refine And.intro Ke ?_
     simp only [Act.put,gA,gB,gC,gD,gE,gF]
     refine eZ ?_
     refine PQ.mk (fun i=>match i with|0=>.agg #[.int .i64 k21,.int .i64 qB,.int .i64 m21,.string (bs BC),.string (bs t21),.int .i64 a21,.slice MB oC.length c21]|1=>.slice (some ⟨lW.heap.size,0,none⟩) 1 1|2=>.pointer (some ⟨E.b,0,none⟩)|3=>.int .i64 (hdp s1)|4=>.agg #[.int .i64 20,.int .i64 0,.int .i64 0,.string ⟨#[]⟩,.string ⟨#[]⟩,.int .i64 (hdp s1),.slice (some ⟨lW.heap.size,0,none⟩) 1 1]|5=>undef|_=>undef) (by kernel_rfl) ?_
     exact ⟨_,G8,FP,tQ,vZ⟩
   case hk=>
   rintro vals w60 ⟨r,Mx,Wx,FQ,Cz⟩
   dsimp only [bG]
   go_wp2
   exact aX Tryz.results119 rfl rfl FQ ⟨Wx,Mx,20,0,0,[],[],(hdp s1),[Tr.mk k21 qB m21 BC t21 a21 oC],(some ⟨r,0,none⟩),1,rfl,rfl,(ah.up (lo:=E.L) (X:=(fun q=>q < BA.heap.size\/q=jM.heap.size)) Cz (fun q hq=>by have:¬(q < BA.heap.size\/q=jM.heap.size):=hq;omega))⟩
  |true=>
   have fG:=af hq1
   simp only [hq1,if_true] at heq
   obtain ⟨x2,s2,h2,heq⟩:=bF heq
   simp only [Option.some.injEq,Prod.mk.injEq] at heq
   obtain ⟨rfl,rfl⟩:=heq
   have LV:=af (fun W hW=>Hn.expr E W _ 1 x2 s2 (by omega) (by omega) hW h2)
   clear hq1 h2
   go_wp2_with (first
    |(go_at_call 80;(with_reducible refine (nK.out _ aB).mono ?_);rintro e jM ⟨FL,TC,k21,qB,m21,BC,t21,a21,oC,MB,c21,rfl,rfl,Wy⟩;have Wu:=bP hG2 FL;have aco:=FL.size;(try simp at aco);have aan:=TC.lt;have zZ:=aD ax FL;have Ph:ah jM E.L (fun q=>q < BA.heap.size\/q=jM.heap.size) (.slice MB oC.length c21) oC:=ah.mono (aI.p (lo:=BA.heap.size) (Wy.mono (by simp)) (fun q hq=>hq.elim .inl (fun e=>.inr (by omega)))) (by have:=Wt.L;omega))
    |(go_at_call 27;(with_reducible refine (au E _ s1 aB [61] ⟨#[61]⟩ rfl).mono ?_);rintro e uy ⟨rfl,DX⟩;rw [fG.out];have Mv:RS E uy s1:=RS.below aB DX;have TE:=aL Wu DX;have z8:=bV zZ DX;have Kg:ag uy jM.heap.size 24 (N7 k21 qB m21 (bs BC) (bs t21) a21 (.slice MB oC.length c21)):=ag.aC bz DX;have Pj:=mR Ph DX)
    |(go_at_call 25;(with_reducible refine (aA E _ s1 aB [61] ⟨#[61]⟩ rfl).mono ?_);rintro e jo ⟨rfl,xY,G6⟩;have Mw:=bP TE G6;have aeu:=xY.lt;have aev:=xY.iy;have tN:=z8.call G6 (by omega);have acm:=tN.lt;have FU:=Kg.call G6 (by omega);have ahM:=FU.lt;obtain ⟨_,akg,akh,aki,akj,akk,akl,akm,_⟩:=FU.av;have FV:=dU Pj G6)
    |(at_builtin;refine wpList_plain rfl (fun KK hKK=>?_);have hpa:ah (jo.alloc (.cells #[.int .i64 19,.int .i64 0,.int .i64 0,.string ⟨#[]⟩,.string ⟨#[]⟩,.int .i64 (hdp s1),.slice none 0 0] 24)) E.L (fun q=>(fun q=>(fun q=>q < BA.heap.size\/q=jM.heap.size) q\/q=jo.heap.size) q\/(Value.slice none 0 0).ownBlock=some q) (.slice MB oC.length c21) oC:=(ah.sub (ah.or FV (Nat.le_refl _)) (fun q hq _=>hq.elim id (fun e=>by cases e))).alloc _;have uf:∀q,(fun q=>(fun q=>q < BA.heap.size\/q=jM.heap.size) q\/q=jo.heap.size) q->q < (jo.alloc (.cells #[.int .i64 19,.int .i64 0,.int .i64 0,.string ⟨#[]⟩,.string ⟨#[]⟩,.int .i64 (hdp s1),.slice none 0 0] 24)).heap.size:=(fun q hq=>by have h1:(q < BA.heap.size\/q=jM.heap.size)\/q=jo.heap.size:=hq;simp;omega);have hrow:=ah.oW (k:=k21) (op:=qB) (m:=m21) (p:=BC) (t:=t21) (a:=a21) hpa (by have:=xY.L;simp;omega) (fun q hq=>hq.elim (uf q) (fun e=>by cases e)) (show jo.heap.size+1=_ by simp);refine yE (lo:=E.L) (X:=(fun q=>(fun q=>q < BA.heap.size\/q=jM.heap.size) q\/q=jo.heap.size)) (v:=.slice none 0 0) (dx:=[]) (w:=((jo.alloc (.cells #[.int .i64 19,.int .i64 0,.int .i64 0,.string ⟨#[]⟩,.string ⟨#[]⟩,.int .i64 (hdp s1),.slice none 0 0] 24)).alloc (.cells #[.int .i64 k21,.int .i64 qB,.int .i64 m21,.string (bs BC),.string (bs t21),.int .i64 a21,.slice MB oC.length c21] 24))) (ah.none_ _ _ _) (fun q hq=>Nat.lt_of_lt_of_le (uf q hq) (by simp)) hrow (by simp [cK]) (by have:=xY.L;simp;omega) _ _ rfl rfl rfl ?_;intro Ww c24 lW _ acs wh;have Ab:RS E lW (aj [61] s1):=RS.gr (w:=((jo.alloc (.cells #[.int .i64 19,.int .i64 0,.int .i64 0,.string ⟨#[]⟩,.string ⟨#[]⟩,.int .i64 (hdp s1),.slice none 0 0] 24)).alloc (.cells #[.int .i64 k21,.int .i64 qB,.int .i64 m21,.string (bs BC),.string (bs t21),.int .i64 a21,.slice MB oC.length c21] 24))) aB wh (fun e=>by cases e) (fun e=>by cases e);have G7:Gr (·=E.b) w lW:=Gr.trans (w':=((jo.alloc (.cells #[.int .i64 19,.int .i64 0,.int .i64 0,.string ⟨#[]⟩,.string ⟨#[]⟩,.int .i64 (hdp s1),.slice none 0 0] 24)).alloc (.cells #[.int .i64 k21,.int .i64 qB,.int .i64 m21,.string (bs BC),.string (bs t21),.int .i64 a21,.slice MB oC.length c21] 24))) aJ (wh.mono (fun q _ e=>by cases e));have Pf:=wh.size;(try simp at Pf);have Cy:ag lW jo.heap.size 24 (N7 19 0 0 ⟨#[]⟩ ⟨#[]⟩ (hdp s1) (.slice none 0 0)):=wh.blk (w:=((jo.alloc (.cells #[.int .i64 19,.int .i64 0,.int .i64 0,.string ⟨#[]⟩,.string ⟨#[]⟩,.int .i64 (hdp s1),.slice none 0 0] 24)).alloc (.cells #[.int .i64 k21,.int .i64 qB,.int .i64 m21,.string (bs BC),.string (bs t21),.int .i64 a21,.slice MB oC.length c21] 24))) ((ag.new _ _ _).alloc _) (fun e=>by cases e);have tO:ag lW w.heap.size 24 Z7:=wh.blk (w:=((jo.alloc (.cells #[.int .i64 19,.int .i64 0,.int .i64 0,.string ⟨#[]⟩,.string ⟨#[]⟩,.int .i64 (hdp s1),.slice none 0 0] 24)).alloc (.cells #[.int .i64 k21,.int .i64 qB,.int .i64 m21,.string (bs BC),.string (bs t21),.int .i64 a21,.slice MB oC.length c21] 24))) ((tN.alloc _).alloc _) (fun e=>by cases e);obtain ⟨_,_,_,_,_,_,_,akn,ako⟩:=Cy.av;have fT:jo.heap.size≠E.b:=(by omega);have kG:jo.heap.size≠E.g:=(by omega);have dO:(fun q=>(fun q=>q < BA.heap.size\/q=jM.heap.size) q\/q=jo.heap.size) jo.heap.size:=(.inr rfl);have aaq:ag (lW.setCell ⟨jo.heap.size,6,none⟩ (.slice Ww 1 c24)) jo.heap.size 24 (N7 19 0 0 ⟨#[]⟩ ⟨#[]⟩ (hdp s1) (.slice Ww 1 c24)):=(ag.jC Cy _);have hpS:ah (lW.setCell ⟨jo.heap.size,6,none⟩ (.slice Ww 1 c24)) E.L (fun q=>(fun q=>q < BA.heap.size\/q=jM.heap.size) q\/q=jo.heap.size) (.slice Ww 1 c24) [Tr.mk k21 qB m21 BC t21 a21 oC]:=(ah.setCell (p:=⟨jo.heap.size,6,none⟩) acs (.inr dO) _);refine hKK _ _ ?_))
   refine nG (P:=fun W=>RS E W (aj [61] s1)/\Gr (·=E.b) w W/\ag W w.heap.size 24 Z7/\ag W jo.heap.size 24 (N7 19 0 0 ⟨#[]⟩ ⟨#[]⟩ (hdp s1) (.slice Ww 1 c24))/\ah W E.L (fun q=>(fun q=>q < BA.heap.size\/q=jM.heap.size) q\/q=jo.heap.size) (.slice Ww 1 c24) [Tr.mk k21 qB m21 BC t21 a21 oC]/\lW.heap.size+0<=W.heap.size) ⟨aB,aJ,bz,bz,uu,(by first|(simp;done)|(simp;omega))⟩ ?_
   rintro vk ⟨BB,DW,pG,oL,FW,ahD⟩
   have akp:=BB.lt
   have akq:=BB.iy
   have ahN:=oL.lt
   have aeT:∀q,(fun q=>(fun q=>q < BA.heap.size\/q=jM.heap.size) q\/q=jo.heap.size) q->q < vk.heap.size:=fun q hq=>by have h1:(q < BA.heap.size\/q=jM.heap.size)\/q=jo.heap.size:=hq;omega
   have aar:∀q,(Value.slice Ww 1 c24).ownBlock=some q->w.heap.size<=q:=fun q e=>by
    have h1:=(FW.own e).2.2
    omega
   have cB:(fun q=>(fun q=>q < BA.heap.size\/q=jM.heap.size) q\/q=jo.heap.size) w.heap.size:=.inl (.inl (by omega))
   have dO:(fun q=>(fun q=>q < BA.heap.size\/q=jM.heap.size) q\/q=jo.heap.size) jo.heap.size:=.inr rfl
   obtain ⟨_,_,_,_,_,_,_,aeU,aeV⟩:=oL.av
   refine dD E.b E.L jo.heap.size (.pointer (some ⟨E.b,0,none⟩)) 80 #[.pointer (some ⟨E.b,0,none⟩),.int .i64 1] (fun _=>False) (fun t W=>t=x2/\RS E W s2) (FW.x dO) FW aeT aeU (aeV 6) E.bL oL.lt BB.L fT (by simp [cK]) (fun t=>bD E _ _ _ (by omega) (by omega) t) (fun t=>bD E _ _ _ E.bL E.gL t) ((LV.out vk.drew BB.drew).mono fun e w' h=>fH h) ?_ ?_
   ·rintro a w' c _ nL _
    exact absurd nL id
   rintro vals w' A26 c26 u26 ⟨ahO,qx⟩ _ hpx hgx eB hgo
   obtain rfl:=ahO.symm
   obtain ⟨rV,hW⟩:=aS (w'.setCell ⟨jo.heap.size,6,none⟩ (.slice A26 ([Tr.mk k21 qB m21 BC t21 a21 oC].length+1) c26))
   have hsx:=eB.size
   have G8:RS E rV s2:=hW▸qx.setCell (p:=⟨jo.heap.size,6,none⟩) fT kG _
   have FP:Gr (·=E.b) w rV:=hW▸Gr.setCell (p:=⟨jo.heap.size,6,none⟩) (jD DW eB aar) (.inl (by show w.heap.size<=jo.heap.size;omega)) _
   have aeW:∀q,(Value.slice A26 ([Tr.mk k21 qB m21 BC t21 a21 oC].length+1) c26).ownBlock=some q->w.heap.size<=q:=fun q hq=>(hgo q hq).elim (aar q) (fun h=>by have:=DW.size;omega)
   have uK:ag rV jo.heap.size 24 (N7 19 0 0 ⟨#[]⟩ ⟨#[]⟩ (hdp s1) (.slice A26 ([Tr.mk k21 qB m21 BC t21 a21 oC].length+1) c26)):=hW▸ag.jC (ag.wx oL eB fT (fun e=>FW.1 _ e dO)) _
   have tQ:ag rV w.heap.size 24 Z7:=hW▸ag.far (ag.wx pG eB (by omega) (fun e=>FW.1 _ e cB)) (by show w.heap.size≠jo.heap.size;omega) _
   have Ki:ah rV E.L (fun q=>(fun q=>q < BA.heap.size\/q=jM.heap.size) q\/q=jo.heap.size) (.slice A26 ([Tr.mk k21 qB m21 BC t21 a21 oC].length+1) c26) ([Tr.mk k21 qB m21 BC t21 a21 oC] ++ [x2]):=hW▸hpx.setCell (p:=⟨jo.heap.size,6,none⟩) (.inr dO) _
   have am0:vk.heap.size<=rV.heap.size:=hW▸(by simpa using hsx)
   rw [hW]
   clear hW qx hpx hgx eB hgo hsx
   obtain ⟨kb,hkb⟩:=aS ([Tr.mk k21 qB m21 BC t21 a21 oC] ++ [x2])
   have eF:kb.length=2:=by rw [<-hkb];rfl
   have Rs:ah rV E.L (fun q=>(fun q=>q < BA.heap.size\/q=jM.heap.size) q\/q=jo.heap.size) (.slice A26 kb.length c26) kb:=by rw [eF,<-hkb];exact Ki
   have Rt:ag rV jo.heap.size 24 (N7 19 0 0 ⟨#[]⟩ ⟨#[]⟩ (hdp s1) (.slice A26 kb.length c26)):=by rw [eF];exact uK
   clear Ki uK aeW
   have Ki:=Rs
   have uK:=Rt
   clear Rs Rt
   have nZ:=af hkb
   clear eF hkb
   go_wp2_with (first
    |(go_at_call 25;(with_reducible refine (aA E _ s2 aB [59] ⟨#[59]⟩ rfl).mono ?_);rintro e w27 ⟨rfl,am1,Zf⟩;have am2:=bP FP Zf;have acu:=aD tQ Zf;obtain ⟨_,akr,aks,akt,aku,akv,akw,akx,aky⟩:=acu.av;have acv:=aD uK Zf;obtain ⟨_,akz,akA,akB,akC,akD,akE,akF,_⟩:=acv.av;have ahP:=dU Ki Zf))
   exact aX Tryz.results119 rfl rfl dS ⟨aJ,aB,19,0,0,[],[],(hdp s1),kb,A26,c26,(by rw [<-nZ.out];rfl),rfl,(ah.up (lo:=E.L) (X:=(fun q=>(fun q=>q < BA.heap.size\/q=jM.heap.size) q\/q=jo.heap.size)) (v:=.slice A26 kb.length c26) (ks:=kb) uu (fun q hq=>by have:¬((q < BA.heap.size\/q=jM.heap.size)\/q=jo.heap.size):=hq;omega))⟩
theorem MC (n:Nat) (hn:n+10<=cK) (H:∀m,m<=n->qQ m):BM (n+1):=by
 intro E w s X k op m p t a ks A c tr s' h tZ hK0 heq
 have hlt:=h.lt
 have hgt:=h.iy
 have hbL:=E.bL
 have hR0:=h
 have fG:=af heq
 clear heq
 have am3:ah w E.L (fun q=>X q\/(q=w.heap.size\/q=w.heap.size+1)) (.slice A ks.length c) ks:=by
  obtain ⟨h0,xs,h1,h2⟩:=ah.or (ah.or hK0 (Nat.le_refl _)) (z:=w.heap.size+1) (by omega)
  refine ah.sub (X:=fun q=>(X q\/q=w.heap.size)\/q=w.heap.size+1) ⟨h0,xs,h1,h2⟩ (fun q hq _=>?_)
  rcases hq with hq|hq|hq
  ·exact .inl (.inl hq)
  ·exact .inl (.inr hq)
  ·exact .inr hq
 go_enter Tryz.func115,Tryz.ntmps115
 go_wp2
 refine nG (P:=fun W=>RS E W s/\Gr (·=E.b) w W/\ag W w.heap.size 24 (N7 k op m (bs p) (bs t) a (.slice A ks.length c))/\ag W (w.heap.size+1) 24 Z7/\ah W E.L (fun q=>X q\/(q=w.heap.size\/q=w.heap.size+1)) (.slice A ks.length c) ks/\w.heap.size+2<=W.heap.size) ⟨aB,aJ,bz,bz,uu,(by first|(simp;done)|(simp;omega))⟩ ?_
 rintro w1 ⟨fB,hG1,aeX,az,aas,_⟩
 go_loopg [8] (n+1) (fun gk v8 wr=>∃(kq opq mq:Int) (pq tq:List UInt8) (aq:Nat) (nu:List Tr) (Aq:Option Addr) (cq:Nat) (sx:St),RS E wr sx/\ag wr w.heap.size 24 (N7 kq opq mq (bs pq) (bs tq) aq (.slice Aq nu.length cq))/\ag wr (w.heap.size+1) 24 Z7/\ah wr E.L (fun q=>X q\/(q=w.heap.size\/q=w.heap.size+1)) (.slice Aq nu.length cq) nu/\Gr (·=E.b) w wr/\gk<=n+1/\w1.heap.size<=wr.heap.size/\m5 gk (.behind (.mk kq opq mq pq tq aq nu)) sx=some (tr,s'))
 case atStart=>exact ⟨k,op,m,p,t,a,ks,A,c,s,fB,aeX,az,aas,hG1,Nat.le_refl _,Nat.le_refl _,fG.out⟩
 case round=>
  obtain ⟨kq,opq,mq,pq,tq,aq,nu,Aq,cq,sx,gu,CB,dF,Wz,jk,hgn,hw2,hq⟩:=hrel
  have Dy:w.heap.size<=wr.heap.size:=jk.size
  have Fw:=dF.lt
  have jU:∀q,(fun q=>X q\/(q=w.heap.size\/q=w.heap.size+1)) q->q < wr.heap.size:=fun q hq=>hq.elim (fun e=>Nat.lt_of_lt_of_le (tZ q e) Dy) (fun e=>e.elim (fun e=>by omega) (fun e=>by omega))
  have cB:(fun q=>X q\/(q=w.heap.size\/q=w.heap.size+1)) (w.heap.size+1):=.inr (.inr rfl)
  have aat:(fun q=>X q\/(q=w.heap.size\/q=w.heap.size+1)) w.heap.size:=.inr (.inl rfl)
  have Iu:=gu.lt
  have Iw:=gu.iy
  cases gk with
  |zero=>exact absurd hq (by simp [m5])
  |succ f=>
   obtain ⟨_,_,_,_,_,_,e3,_⟩:=gu.here
   have Hf:=H f (by omega)
   simp only [m5] at hq
   by_cases he:sx.e=0
   case neg=>
    have ez:(sx.e == 0)=false:=by simpa using he
    simp only [if_neg he,Option.some.injEq,Prod.mk.injEq] at hq
    obtain ⟨rfl,rfl⟩:=hq
    clear he
    obtain ⟨_,LX,LY,LZ,L6,L8,L9,Ma,Mc⟩:=dF.av
    obtain ⟨_,WA,WB,WC,WE,WG,WH,WI,_⟩:=CB.av
    go_wp2
    have cB:(fun q=>X q\/(q=w.heap.size\/q=w.heap.size+1)) (w.heap.size+1):=.inr (.inr rfl)
    exact aX Tryz.results115 rfl rfl dS ⟨aJ,aB,kq,opq,mq,pq,tq,aq,nu,Aq,cq,rfl,rfl,ah.sub (X:=(fun q=>X q\/(q=w.heap.size\/q=w.heap.size+1))) uu (fun q hq _=>.inl hq)⟩
   simp only [if_pos he] at hq
   rw [he] at e3
   clear he
   obtain ⟨j,hj,hjl,IQ,IU,_,_,_,_,_,_,aau,_⟩:=gu.here
   have hll:=gu.len
   have j0:(0:Int)<=(j:Int):=by omega
   have j1:(j:Int) < (E.ts.length:Int):=by omega
   have j2:(j:Int)<=8193:=by omega
   clear hj hll
   go_wp2
   obtain ⟨_,WA,WB,WC,WE,WG,WH,WI,_⟩:=CB.av
   refine mM (S:=fun V=>Gr (fun q=>False) wr V) (fun vals W=>∃z r:Nat,vals 14= .pointer (some ⟨z,0,none⟩)/\RS E W sx/\Gr (·=E.b) w W/\ag W w.heap.size 24 (N7 kq opq mq (bs pq) (bs tq) aq (.slice Aq nu.length cq))/\ag W (w.heap.size+1) 24 Z7/\ag W z 24 (N7 0 0 0 ⟨#[]⟩ ⟨#[]⟩ ((hd sx.l).2) (.slice (some ⟨r,0,none⟩) 1 1))/\ah W E.L (fun q=>(fun q=>X q\/(q=w.heap.size\/q=w.heap.size+1)) q\/q=z) (.slice (some ⟨r,0,none⟩) 1 1) [Tr.mk kq opq mq pq tq aq nu]/\wr.heap.size<=z/\wr.heap.size<=r/\ah W E.L (fun q=>X q\/(q=w.heap.size\/q=w.heap.size+1)) (.slice Aq nu.length cq) nu) (by kernel_rfl) (Gr.refl _).drew (fun hS0=>?qY) ?hk
   case qY=>
    obtain ⟨bB,pU⟩:=aS wr.drew
    rw [pU] at hS0 |-
    have fo:Gr (fun q=>False) wr bB:=hS0
    clear hS0
    have fM:=dJ pU (RS.drew gu)
    have gm:=bK pU (Gr.drew jk)
    have qR:wr.heap.size+0<=bB.heap.size:=by rw [<-pU];exact Nat.le_refl _
    have Br:=fM.lt
    have Dg:=fM.iy
    have bR:=aP pU (ag.drew dF)
    have abW:=bR.lt
    have CE:=aP pU (ag.drew CB)
    have CG:=ko pU (ah.drew Wz)
    refine aQ 0 fo ?_
    refine aQ 1 fo ?_
    refine aQ 2 fo ?_
    refine jS 3 fo ?_ (fun w' hS=>(hS.cell (p:=⟨E.b,0,none⟩) (by show E.b < _;omega) id).trans IQ)
    refine aQ 4 fo ?_
    refine aQ 5 fo ?_
    refine aQ 6 fo ?_
    refine jS 7 fo ?_ (fun w' hS=>(hS.cell (p:=⟨E.b,1,none⟩) (by show E.b < _;omega) id).trans IU)
    refine aQ 8 fo ?_
    refine aQ 9 fo ?_
    refine jS 10 fo ?_ (fun w' hS=>(hS.cell (p:=⟨E.g,j*4+3,none⟩) (by show E.g < _;omega) id).trans aau)
    refine oU 11 fo ?_ (he:=fun w' hS=>by (have ahF:=(hS.cell (p:=⟨w.heap.size,0,none⟩) (by show w.heap.size < _;omega) id).trans WA;have ahG:=(hS.cell (p:=⟨w.heap.size,1,none⟩) (by show w.heap.size < _;omega) id).trans WB;have ahH:=(hS.cell (p:=⟨w.heap.size,2,none⟩) (by show w.heap.size < _;omega) id).trans WC;have ahI:=(hS.cell (p:=⟨w.heap.size,3,none⟩) (by show w.heap.size < _;omega) id).trans WE;have ahJ:=(hS.cell (p:=⟨w.heap.size,4,none⟩) (by show w.heap.size < _;omega) id).trans WG;have ahK:=(hS.cell (p:=⟨w.heap.size,5,none⟩) (by show w.heap.size < _;omega) id).trans WH;have ahL:=(hS.cell (p:=⟨w.heap.size,6,none⟩) (by show w.heap.size < _;omega) id).trans WI;unfold execOp;go_simp;first|done|exact rfl))
    refine jE (i:=12) (j:=14) (by kernel_rfl) rfl rfl rfl rfl ?_ ?_
    ·obtain ⟨ek,tK⟩:=aS (bB.alloc (.cells #[.int .i64 kq,.int .i64 opq,.int .i64 mq,.string (bs pq),.string (bs tq),.int .i64 aq,.slice Aq nu.length cq] 24))
     have jY:=dJ tK (RS.alloc fM _)
     have kK:=bK tK (Gr.alloc gm _)
     have xQ:bB.heap.size+1<=ek.heap.size:=by rw [<-tK];simp
     have VW:=jY.lt
     have aav:=jY.iy
     have gT:=aP tK (ag.alloc bR _)
     have acw:=gT.lt
     have CJ:=aP tK (ag.alloc CE _)
     have CK:=ko tK (ah.alloc CG _)
     have Fy:=bK tK (Gr.alloc fo _)
     have acy:ah ek E.L (fun q=>X q\/(q=w.heap.size\/q=w.heap.size+1)) (.slice (some ⟨bB.heap.size,0,none⟩) 1 1) [Tr.mk kq opq mq pq tq aq nu]:=by rw [<-tK];exact ah.lI CG (by have:=fM.L;omega) (fun q hq=>Nat.lt_of_lt_of_le (jU q hq) (by omega))
     refine aY (v:=(.slice (some ⟨bB.heap.size,0,none⟩) 1 1)) (w':=ek) (by rw [<-tK];unfold execOp;go_simp) (And.intro Fy ?_)
     simp only [Act.put,gA,gB,gC,gD,gE,gF]
     refine aQ 13 Fy ?_
     refine qO 14 ?_
     obtain ⟨iP,og⟩:=aS (ek.alloc (.cells #[.int .i64 0,.int .i64 0,.int .i64 0,.string ⟨#[]⟩,.string ⟨#[]⟩,.int .i64 0,.slice none 0 0] 24))
     have mW:=dJ og (RS.alloc jY _)
     have pz:=bK og (Gr.alloc kK _)
     have Mf:ek.heap.size+1<=iP.heap.size:=by rw [<-og];simp
     have oK:=aP og (ag.alloc gT _)
     have Ad:=aP og (ag.alloc CJ _)
     have uH:=bK og (Gr.alloc Fy _)
     have fO:ag iP ek.heap.size 24 Z7:=by rw [<-og];exact ag.new _ _ _
     have FX:ah iP E.L (fun q=>(fun q=>X q\/(q=w.heap.size\/q=w.heap.size+1)) q\/q=ek.heap.size) (.slice Aq nu.length cq) nu:=by rw [<-og];exact (ah.or CK (Nat.le_refl _)).alloc _
     have Pn:ah iP E.L (fun q=>(fun q=>X q\/(q=w.heap.size\/q=w.heap.size+1)) q\/q=ek.heap.size) (.slice (some ⟨bB.heap.size,0,none⟩) 1 1) [Tr.mk kq opq mq pq tq aq nu]:=by rw [<-og];exact (ah.or acy (Nat.le_refl _)).alloc _
     refine aY (v:=(.pointer (some ⟨ek.heap.size,0,none⟩))) (w':=iP) (by rw [<-og];unfold execOp;go_simp) (And.intro uH ?_)
     simp only [Act.put,gA,gB,gC,gD,gE,gF]
     refine qO 15 ?_
     have FH:(fun q=>(fun q=>X q\/(q=w.heap.size\/q=w.heap.size+1)) q\/q=ek.heap.size) ek.heap.size:=.inr rfl
     obtain ⟨kD,oh⟩:=aS (fA iP ek.heap.size 0 (.int .i64 0) (.int .i64 0) (.int .i64 0) (.string ⟨#[]⟩) (.string ⟨#[]⟩) (.int .i64 (hd sx.l).2) (.slice (some ⟨bB.heap.size,0,none⟩) 1 1))
     have pQ:Gr (fun q=>q=ek.heap.size) iP kD:=by rw [<-oh];exact fQ (Gr.refl _) (.inr rfl)
     have jG:ag kD ek.heap.size 24 (N7 0 0 0 ⟨#[]⟩ ⟨#[]⟩ ((hd sx.l).2) (.slice (some ⟨bB.heap.size,0,none⟩) 1 1)):=by rw [<-oh];exact ag.fA fO (.int .i64 0) (.int .i64 0) (.int .i64 0) (.string ⟨#[]⟩) (.string ⟨#[]⟩) (.int .i64 (hd sx.l).2) (.slice (some ⟨bB.heap.size,0,none⟩) 1 1)
     have pE:RS E kD sx:=RS.gr mW pQ (by show ¬E.b=ek.heap.size;omega) (by show ¬E.g=ek.heap.size;omega)
     have qU:Gr (·=E.b) w kD:=Gr.wide pz pQ (fun q hq e=>by first|omega|(exfalso;omega))
     have vR:ag kD (w.heap.size+1) 24 Z7:=ag.gr oK pQ (by show ¬w.heap.size+1=ek.heap.size;omega)
     have Po:ag kD w.heap.size 24 (N7 kq opq mq (bs pq) (bs tq) aq (.slice Aq nu.length cq)):=ag.gr Ad pQ (by show ¬w.heap.size=ek.heap.size;omega)
     have Pp:ah kD E.L (fun q=>(fun q=>X q\/(q=w.heap.size\/q=w.heap.size+1)) q\/q=ek.heap.size) (.slice Aq nu.length cq) nu:=ah.gr FX pQ (fun q _ h3 _ h2=>by have e2:q=ek.heap.size:=h2;first|omega|exact h3 (e2▸FH))
     have Pq:ah kD E.L (fun q=>(fun q=>X q\/(q=w.heap.size\/q=w.heap.size+1)) q\/q=ek.heap.size) (.slice (some ⟨bB.heap.size,0,none⟩) 1 1) [Tr.mk kq opq mq pq tq aq nu]:=ah.gr Pn pQ (fun q _ h3 _ h2=>by have e2:q=ek.heap.size:=h2;first|omega|exact h3 (e2▸FH))
     have qX:Gr (fun q=>False) wr kD:=Gr.wide uH pQ (fun q hq e=>by have e2:q=ek.heap.size:=e;first|(right;exact e2)|(exfalso;omega)|omega)
     refine iD _ _ _ _ _ _ _ ek.heap.size 0 (0) (0) (0) ([]) ([]) ((hd sx.l).2) (1) (1) ((some ⟨bB.heap.size,0,none⟩)) rfl rfl (ag.sw fO) (fun q=>fO.frozen q) ?_
     show Gr (fun q=>False) wr (fA iP ek.heap.size 0 (.int .i64 0) (.int .i64 0) (.int .i64 0) (.string ⟨#[]⟩) (.string ⟨#[]⟩) (.int .i64 (hd sx.l).2) (.slice (some ⟨bB.heap.size,0,none⟩) 1 1))/\wpAnyH _ _ _ _ _ _ _ _ (fA iP ek.heap.size 0 (.int .i64 0) (.int .i64 0) (.int .i64 0) (.string ⟨#[]⟩) (.string ⟨#[]⟩) (.int .i64 (hd sx.l).2) (.slice (some ⟨bB.heap.size,0,none⟩) 1 1))
     rw [oh]
     refine And.intro qX ?_
     simp only [Act.put,gA,gB,gC,gD,gE,gF]
     refine eZ ?_
     refine PQ.mk (fun i=>match i with|0=>.pointer (some ⟨E.b,0,none⟩)|1=>.pointer (some ⟨E.b,0,none⟩)|2=>.pointer (some ⟨E.b,0,none⟩)|3=>.slice (some ⟨E.g,0,none⟩) E.ts.length E.c|4=>.pointer (some ⟨E.b,0,none⟩)|5=>.pointer (some ⟨E.b,0,none⟩)|6=>.pointer (some ⟨E.b,1,none⟩)|7=>.int .i64 j|8=>.pointer (some ⟨E.g,j*4,none⟩)|9=>.pointer (some ⟨E.g,j*4+3,none⟩)|10=>.int .i64 (hd sx.l).2|11=>.agg #[.int .i64 kq,.int .i64 opq,.int .i64 mq,.string (bs pq),.string (bs tq),.int .i64 aq,.slice Aq nu.length cq]|12=>.slice (some ⟨bB.heap.size,0,none⟩) 1 1|13=>.agg #[.int .i64 0,.int .i64 0,.int .i64 0,.string ⟨#[]⟩,.string ⟨#[]⟩,.int .i64 (hd sx.l).2,.slice (some ⟨bB.heap.size,0,none⟩) 1 1]|14=>.pointer (some ⟨ek.heap.size,0,none⟩)|15=>undef|_=>undef) (by kernel_rfl) ?_
     exact ⟨_,_,rfl,pE,qU,Po,vR,jG,Pq,by omega,by omega,ah.sub Pp (fun q hq _=>by first|exact hq|exact .inl hq)⟩
    ·obtain ⟨ek,tK⟩:=aS (bB.alloc (.cells #[.int .i64 0,.int .i64 0,.int .i64 0,.string ⟨#[]⟩,.string ⟨#[]⟩,.int .i64 0,.slice none 0 0] 24))
     have jY:=dJ tK (RS.alloc fM _)
     have kK:=bK tK (Gr.alloc gm _)
     have xQ:bB.heap.size+1<=ek.heap.size:=by rw [<-tK];simp
     have gT:=aP tK (ag.alloc bR _)
     have CJ:=aP tK (ag.alloc CE _)
     have Fy:=bK tK (Gr.alloc fo _)
     have ig:ag ek bB.heap.size 24 Z7:=by rw [<-tK];exact ag.new _ _ _
     have VX:∀q,(fun q=>(fun q=>X q\/(q=w.heap.size\/q=w.heap.size+1)) q\/q=bB.heap.size) q->q < ek.heap.size:=fun q hq=>hq.elim (fun e=>Nat.lt_of_lt_of_le (jU q e) (by omega)) (fun e=>by omega)
     have CK:ah ek E.L (fun q=>(fun q=>X q\/(q=w.heap.size\/q=w.heap.size+1)) q\/q=bB.heap.size) (.slice Aq nu.length cq) nu:=by rw [<-tK];exact (ah.or CG (Nat.le_refl _)).alloc _
     refine aY (v:=(.pointer (some ⟨bB.heap.size,0,none⟩))) (w':=ek) (by rw [<-tK];unfold execOp;go_simp) (And.intro Fy ?_)
     simp only [Act.put,gA,gB,gC,gD,gE,gF]
     refine qO 12 ?_
     obtain ⟨iP,og⟩:=aS (ek.alloc (.cells #[.int .i64 kq,.int .i64 opq,.int .i64 mq,.string (bs pq),.string (bs tq),.int .i64 aq,.slice Aq nu.length cq] 24))
     have mW:=dJ og (RS.alloc jY _)
     have pz:=bK og (Gr.alloc kK _)
     have oK:=aP og (ag.alloc gT _)
     have Ad:=aP og (ag.alloc CJ _)
     have fO:=aP og (ag.alloc ig _)
     have FX:=ko og (ah.alloc CK _)
     have uH:=bK og (Gr.alloc Fy _)
     have Pn:ah iP E.L (fun q=>(fun q=>X q\/(q=w.heap.size\/q=w.heap.size+1)) q\/q=bB.heap.size) (.slice (some ⟨ek.heap.size,0,none⟩) 1 1) [Tr.mk kq opq mq pq tq aq nu]:=by rw [<-og];exact ah.lI CK (by have:=jY.L;omega) (fun q hq=>Nat.lt_of_lt_of_le (VX q hq) (by omega))
     refine aY (v:=(.slice (some ⟨ek.heap.size,0,none⟩) 1 1)) (w':=iP) (by rw [<-og];unfold execOp;go_simp) (And.intro uH ?_)
     simp only [Act.put,gA,gB,gC,gD,gE,gF]
     refine aQ 13 uH ?_
     refine qO 15 ?_
     have FH:(fun q=>(fun q=>X q\/(q=w.heap.size\/q=w.heap.size+1)) q\/q=bB.heap.size) bB.heap.size:=.inr rfl
     obtain ⟨kD,oh⟩:=aS (fA iP bB.heap.size 0 (.int .i64 0) (.int .i64 0) (.int .i64 0) (.string ⟨#[]⟩) (.string ⟨#[]⟩) (.int .i64 (hd sx.l).2) (.slice (some ⟨ek.heap.size,0,none⟩) 1 1))
     have pQ:Gr (fun q=>q=bB.heap.size) iP kD:=by rw [<-oh];exact fQ (Gr.refl _) (.inr rfl)
     have jG:ag kD bB.heap.size 24 (N7 0 0 0 ⟨#[]⟩ ⟨#[]⟩ ((hd sx.l).2) (.slice (some ⟨ek.heap.size,0,none⟩) 1 1)):=by rw [<-oh];exact ag.fA fO (.int .i64 0) (.int .i64 0) (.int .i64 0) (.string ⟨#[]⟩) (.string ⟨#[]⟩) (.int .i64 (hd sx.l).2) (.slice (some ⟨ek.heap.size,0,none⟩) 1 1)
     have pE:RS E kD sx:=RS.gr mW pQ (by show ¬E.b=bB.heap.size;omega) (by show ¬E.g=bB.heap.size;omega)
     have qU:Gr (·=E.b) w kD:=Gr.wide pz pQ (fun q hq e=>by first|omega|(exfalso;omega))
     have vR:ag kD (w.heap.size+1) 24 Z7:=ag.gr oK pQ (by show ¬w.heap.size+1=bB.heap.size;omega)
     have Po:ag kD w.heap.size 24 (N7 kq opq mq (bs pq) (bs tq) aq (.slice Aq nu.length cq)):=ag.gr Ad pQ (by show ¬w.heap.size=bB.heap.size;omega)
     have Pp:ah kD E.L (fun q=>(fun q=>X q\/(q=w.heap.size\/q=w.heap.size+1)) q\/q=bB.heap.size) (.slice Aq nu.length cq) nu:=ah.gr FX pQ (fun q _ h3 _ h2=>by have e2:q=bB.heap.size:=h2;first|omega|exact h3 (e2▸FH))
     have Pq:ah kD E.L (fun q=>(fun q=>X q\/(q=w.heap.size\/q=w.heap.size+1)) q\/q=bB.heap.size) (.slice (some ⟨ek.heap.size,0,none⟩) 1 1) [Tr.mk kq opq mq pq tq aq nu]:=ah.gr Pn pQ (fun q _ h3 _ h2=>by have e2:q=bB.heap.size:=h2;first|omega|exact h3 (e2▸FH))
     have qX:Gr (fun q=>False) wr kD:=Gr.wide uH pQ (fun q hq e=>by have e2:q=bB.heap.size:=e;first|(right;exact e2)|(exfalso;omega)|omega)
     refine iD _ _ _ _ _ _ _ bB.heap.size 0 (0) (0) (0) ([]) ([]) ((hd sx.l).2) (1) (1) ((some ⟨ek.heap.size,0,none⟩)) rfl rfl (ag.sw fO) (fun q=>fO.frozen q) ?_
     show Gr (fun q=>False) wr (fA iP bB.heap.size 0 (.int .i64 0) (.int .i64 0) (.int .i64 0) (.string ⟨#[]⟩) (.string ⟨#[]⟩) (.int .i64 (hd sx.l).2) (.slice (some ⟨ek.heap.size,0,none⟩) 1 1))/\wpAnyH _ _ _ _ _ _ _ _ (fA iP bB.heap.size 0 (.int .i64 0) (.int .i64 0) (.int .i64 0) (.string ⟨#[]⟩) (.string ⟨#[]⟩) (.int .i64 (hd sx.l).2) (.slice (some ⟨ek.heap.size,0,none⟩) 1 1))
     rw [oh]
     refine And.intro qX ?_
     simp only [Act.put,gA,gB,gC,gD,gE,gF]
     refine eZ ?_
     refine PQ.mk (fun i=>match i with|0=>.pointer (some ⟨E.b,0,none⟩)|1=>.pointer (some ⟨E.b,0,none⟩)|2=>.pointer (some ⟨E.b,0,none⟩)|3=>.slice (some ⟨E.g,0,none⟩) E.ts.length E.c|4=>.pointer (some ⟨E.b,0,none⟩)|5=>.pointer (some ⟨E.b,0,none⟩)|6=>.pointer (some ⟨E.b,1,none⟩)|7=>.int .i64 j|8=>.pointer (some ⟨E.g,j*4,none⟩)|9=>.pointer (some ⟨E.g,j*4+3,none⟩)|10=>.int .i64 (hd sx.l).2|11=>.agg #[.int .i64 kq,.int .i64 opq,.int .i64 mq,.string (bs pq),.string (bs tq),.int .i64 aq,.slice Aq nu.length cq]|12=>.slice (some ⟨ek.heap.size,0,none⟩) 1 1|13=>.agg #[.int .i64 0,.int .i64 0,.int .i64 0,.string ⟨#[]⟩,.string ⟨#[]⟩,.int .i64 (hd sx.l).2,.slice (some ⟨ek.heap.size,0,none⟩) 1 1]|14=>.pointer (some ⟨bB.heap.size,0,none⟩)|15=>undef|_=>undef) (by kernel_rfl) ?_
     exact ⟨_,_,rfl,pE,qU,Po,vR,jG,Pq,by omega,by omega,ah.sub Pp (fun q hq _=>by first|exact hq|exact .inl hq)⟩
   case hk=>
   rintro vals w60 ⟨z,r,aeY,Mx,Wx,ahQ,FQ,FR,Cz,hzq,hrq,aaw⟩
   dsimp only [bG]
   simp only [Act.put,gA,gB,gC,gD,gE,gF]
   rw [aeY]
   clear aeY j0 j1 j2 IQ IU aau hjl
   have acz:=FR.lt
   have fT:z≠E.b:=by omega
   have kG:z≠E.g:=by omega
   have HXz:=af (show ∀q,(fun q=>(fun q=>X q\/(q=w.heap.size\/q=w.heap.size+1)) q\/q=z) q->q < w60.heap.size from fun q hq=>hq.elim (fun e=>Nat.lt_of_lt_of_le (jU q e) (by omega)) (fun e=>by omega))
   have HXh:=af (show (fun q=>(fun q=>X q\/(q=w.heap.size\/q=w.heap.size+1)) q\/q=z) z from .inr rfl)
   have aeZ:∀q,(fun q=>X q\/(q=w.heap.size\/q=w.heap.size+1)) q->q < z:=fun q hq=>Nat.lt_of_lt_of_le (jU q hq) hzq
   have HON:=af (show ∀q,(Value.slice (some ⟨r,0,none⟩) 1 1).ownBlock=some q->q≠w.heap.size/\q≠w.heap.size+1/\w.heap.size<=q from fun q e=>by
    have e2:r=q:=Option.some.inj e
    exact ⟨by omega,by omega,by omega⟩)
   clear aeZ
   have HPX:=af aaw
   clear aaw
   cases hb1:bX [40] sx with
   |true=>
    have HB1:=af hb1
    simp only [hb1,if_true] at hq
    obtain ⟨nd,s1,h1,hq⟩:=bF hq
    have HS1:=af h1
    have HQ:=af hq
    clear hb1 h1 hq
    have Tq:=af (fun (W:World) (hW:RS E W (aj [40] sx)) (hb:ag W z 24 (N7 33 0 0 ⟨#[]⟩ ⟨#[]⟩ ((hd sx.l).2) (.slice (some ⟨r,0,none⟩) 1 1))) (hp:ah W E.L (fun q=>(fun q=>X q\/(q=w.heap.size\/q=w.heap.size+1)) q\/q=z) (.slice (some ⟨r,0,none⟩) 1 1) [Tr.mk kq opq mq pq tq aq nu]) (EG:∀q,(fun q=>(fun q=>X q\/(q=w.heap.size\/q=w.heap.size+1)) q\/q=z) q->q < W.heap.size)=>show Calls Tryz.prog 132 #[.pointer (some ⟨E.b,0,none⟩),.pointer (some ⟨z,0,none⟩),.string ⟨#[41]⟩] W (Bb E W z (fun q=>(fun q=>X q\/(q=w.heap.size\/q=w.heap.size+1)) q\/q=z) (.slice (some ⟨r,0,none⟩) 1 1) (1+f+2) nd s1) from Hf.several E W _ z (fun q=>(fun q=>X q\/(q=w.heap.size\/q=w.heap.size+1)) q\/q=z) 33 0 0 [] [] (hd sx.l).2 [Tr.mk kq opq mq pq tq aq nu] (some ⟨r,0,none⟩) 1 [41] _ _ _ hW hb hp HXh.out fT kG EG (by simp only [List.length_singleton];omega) rfl (by simp) HS1.out)
    go_wp2_with (first
     |((fail_if_success (have:=kg));go_at_call 27;(with_reducible refine (au E _ sx aB [40] ⟨#[40]⟩ rfl).mono ?_);rintro e xm ⟨rfl,kg⟩;rw [HB1.out];have G9:RS E xm sx:=RS.below aB kg;have FT:=gX E.b w kg;have WJ:=kg.size;(try simp at WJ);have wm:ag xm w.heap.size 24 (N7 kq opq mq (bs pq) (bs tq) aq (.slice Aq nu.length cq)):=ag.aC bz kg;have q9:ag xm (w.heap.size+1) 24 Z7:=ag.aC bz kg;have pI:ag xm z 24 (N7 0 0 0 ⟨#[]⟩ ⟨#[]⟩ ((hd sx.l).2) (.slice (some ⟨r,0,none⟩) 1 1)):=ag.aC bz kg;obtain ⟨_,aap,_,_,_,_,_,_,akG⟩:=pI.av;have uL:ah xm E.L (fun q=>(fun q=>X q\/(q=w.heap.size\/q=w.heap.size+1)) q\/q=z) (.slice (some ⟨r,0,none⟩) 1 1) [Tr.mk kq opq mq pq tq aq nu]:=ah.aC nR kg;have Zg:ag (xm.setCell ⟨z,0,none⟩ (.int .i64 33)) z 24 (N7 33 0 0 ⟨#[]⟩ ⟨#[]⟩ ((hd sx.l).2) (.slice (some ⟨r,0,none⟩) 1 1)):=ag.set0 pI _;have Zh:ah (xm.setCell ⟨z,0,none⟩ (.int .i64 33)) E.L (fun q=>(fun q=>X q\/(q=w.heap.size\/q=w.heap.size+1)) q\/q=z) (.slice (some ⟨r,0,none⟩) 1 1) [Tr.mk kq opq mq pq tq aq nu]:=ah.setCell (p:=⟨z,0,none⟩) uL (.inr (.inr rfl)) _)
     |((fail_if_success (have:=mH));go_at_call 25;(with_reducible refine (aA E _ sx aB [40] ⟨#[40]⟩ rfl).mono ?_);rintro e w62 ⟨rfl,J7,mH⟩;have Pv:=bP FT mH;have WK:=mH.size;(try simp at WK);have Ae:=aD wm mH;have Af:=aD q9 mH;have Ag:=aD Zg mH;have FY:=dU Zh mH)
     |((fail_if_success (have:=oD));go_at_call 132;(with_reducible refine (Tq.out _ aB bz uu (fun q hq=>Nat.lt_of_lt_of_le (HXz.out q hq) (by first|(simp;done)|(simp;omega)|omega))).mono ?_);rintro e BS ⟨rfl,zV,oD,WL,FZ,WM,p63,t63,a63,Ah,TH,Ct,rfl,rT,rR,_,_⟩;have acA:=rT.lt;have tT:ag BS w.heap.size 24 (N7 kq opq mq (bs pq) (bs tq) aq (.slice Aq nu.length cq)):=oD.blk bz (fun e=>e.elim (fun e=>by omega) (fun e=>e.elim (fun e=>by omega) (fun e=>(HON.out _ e).1 rfl)));have wu:ag BS (w.heap.size+1) 24 Z7:=oD.blk bz (fun e=>e.elim (fun e=>by omega) (fun e=>e.elim (fun e=>by omega) (fun e=>(HON.out _ e).2.1 rfl)));have hG63:Gr (·=E.b) w BS:=Gr.wide aJ oD (fun q hq e=>e.elim id (fun e=>e.elim (fun e=>by omega) (fun e=>by have:=(HON.out q e).2.2;omega)));obtain ⟨_,ae0,ae1,ae2,ae3,ae4,ae5,ae6,_⟩:=rT.av;obtain ⟨_,aax,aay,aaz,aaA,aaB,aaC,aaD,ae7⟩:=tT.av))
    obtain ⟨V,hV⟩:=aS (((((((BS.setCell ⟨w.heap.size,0,none⟩ (.int .i64 WL)).setCell ⟨w.heap.size,1,none⟩ (.int .i64 FZ)).setCell ⟨w.heap.size,2,none⟩ (.int .i64 WM)).setCell ⟨w.heap.size,3,none⟩ (.string (bs p63))).setCell ⟨w.heap.size,4,none⟩ (.string (bs t63))).setCell ⟨w.heap.size,5,none⟩ (.int .i64 a63)).setCell ⟨w.heap.size,6,none⟩ (.slice TH Ah.length Ct))
    have gV:Gr (fun q=>q=w.heap.size) BS V:=hV▸fQ (i:=0) (v0:=.int .i64 WL) (v1:=.int .i64 FZ) (v2:=.int .i64 WM) (v3:=.string (bs p63)) (v4:=.string (bs t63)) (v5:=.int .i64 a63) (v6:=.slice TH Ah.length Ct) (Gr.refl BS) (.inr rfl)
    have zC:ag V w.heap.size 24 (N7 WL FZ WM (bs p63) (bs t63) a63 (.slice TH Ah.length Ct)):=hV▸ag.seven tT (.int .i64 WL) (.int .i64 FZ) (.int .i64 WM) (.string (bs p63)) (.string (bs t63)) (.int .i64 a63) (.slice TH Ah.length Ct)
    rw [hV]
    have YU:=gV.size
    have Yn:RS E V s1:=zV.gr gV (by show ¬E.b=w.heap.size;omega) (by show ¬E.g=w.heap.size;omega)
    have KX:Gr (·=E.b) w V:=Gr.wide hG63 gV (fun q hq e=>by omega)
    have BD:ag V (w.heap.size+1) 24 Z7:=wu.gr gV (by show ¬w.heap.size+1=w.heap.size;omega)
    have BF:ah V E.L (fun q=>X q\/(q=w.heap.size\/q=w.heap.size+1)) (.slice TH Ah.length Ct) Ah:=ah.gr (ah.sub (Y:=(fun q=>X q\/(q=w.heap.size\/q=w.heap.size+1))) rR (fun q hq _=>.inl hq)) gV (fun q _ h3 _ h2=>h3 (.inr (.inl h2)))
    clear hV
    go_roundg f
    case measure=>omega
    case rel=>exact ⟨WL,FZ,WM,p63,t63,a63,Ah,TH,Ct,s1,Yn,zC,BD,BF,KX,by omega,by omega,HQ.out⟩
   |false=>
   have HB1:=af hb1
   simp only [hb1,Bool.false_eq_true,if_false] at hq
   clear hb1
   cases hb2:bX [91] sx with
   |true=>
    have HB2:=af hb2
    simp only [hb2,if_true] at hq
    obtain ⟨nd,s1,h1,hq⟩:=bF hq
    have HS1:=af h1
    have HQ:=af hq
    clear hb2 h1 hq
    have Tq:=af (fun (W:World) (hW:RS E W sx) (hb:ag W z 24 (N7 0 0 0 ⟨#[]⟩ ⟨#[]⟩ ((hd sx.l).2) (.slice (some ⟨r,0,none⟩) 1 1))) (hp:ah W E.L (fun q=>(fun q=>X q\/(q=w.heap.size\/q=w.heap.size+1)) q\/q=z) (.slice (some ⟨r,0,none⟩) 1 1) [Tr.mk kq opq mq pq tq aq nu]) (EG:∀q,(fun q=>(fun q=>X q\/(q=w.heap.size\/q=w.heap.size+1)) q\/q=z) q->q < W.heap.size)=>show Calls Tryz.prog 133 #[.pointer (some ⟨E.b,0,none⟩),.pointer (some ⟨z,0,none⟩)] W (Bb E W z (fun q=>(fun q=>X q\/(q=w.heap.size\/q=w.heap.size+1)) q\/q=z) (.slice (some ⟨r,0,none⟩) 1 1) (1+2+2) nd s1) from Hf.bracket E W _ z (fun q=>(fun q=>X q\/(q=w.heap.size\/q=w.heap.size+1)) q\/q=z) 0 0 [] [] (hd sx.l).2 [Tr.mk kq opq mq pq tq aq nu] (some ⟨r,0,none⟩) 1 _ _ hW hb hp HXh.out fT kG EG (by simp [cK]) HS1.out)
    go_wp2_with (first
     |((fail_if_success (have:=kg));go_at_call 27;(with_reducible refine (au E _ sx aB [40] ⟨#[40]⟩ rfl).mono ?_);rintro e xm ⟨rfl,kg⟩;rw [HB1.out];have G9:RS E xm sx:=RS.below aB kg;have FT:=gX E.b w kg;have WJ:=kg.size;(try simp at WJ);have wm:ag xm w.heap.size 24 (N7 kq opq mq (bs pq) (bs tq) aq (.slice Aq nu.length cq)):=ag.aC bz kg;have q9:ag xm (w.heap.size+1) 24 Z7:=ag.aC bz kg;have pI:ag xm z 24 (N7 0 0 0 ⟨#[]⟩ ⟨#[]⟩ ((hd sx.l).2) (.slice (some ⟨r,0,none⟩) 1 1)):=ag.aC bz kg;have uL:ah xm E.L (fun q=>(fun q=>X q\/(q=w.heap.size\/q=w.heap.size+1)) q\/q=z) (.slice (some ⟨r,0,none⟩) 1 1) [Tr.mk kq opq mq pq tq aq nu]:=ah.aC nR kg)
     |((fail_if_success (have:=mH));go_at_call 27;(with_reducible refine (au E _ sx aB [91] ⟨#[91]⟩ rfl).mono ?_);rintro e w62 ⟨rfl,mH⟩;rw [HB2.out];have J7:=bA G9 mH;have Pv:=aL FT mH;have WK:=mH.size;(try simp at WK);have Ae:=wm.aC mH;have Af:=q9.aC mH;have Ag:=pI.aC mH;have FY:=mR uL mH)
     |((fail_if_success (have:=oD));go_at_call 133;(with_reducible refine (Tq.out _ aB bz uu (fun q hq=>Nat.lt_of_lt_of_le (HXz.out q hq) (by first|(simp;done)|(simp;omega)|omega))).mono ?_);rintro e BS ⟨rfl,zV,oD,WL,FZ,WM,p63,t63,a63,Ah,TH,Ct,rfl,rT,rR,_,_⟩;have acA:=rT.lt;have tT:ag BS w.heap.size 24 (N7 kq opq mq (bs pq) (bs tq) aq (.slice Aq nu.length cq)):=oD.blk bz (fun e=>e.elim (fun e=>by omega) (fun e=>e.elim (fun e=>by omega) (fun e=>(HON.out _ e).1 rfl)));have wu:ag BS (w.heap.size+1) 24 Z7:=oD.blk bz (fun e=>e.elim (fun e=>by omega) (fun e=>e.elim (fun e=>by omega) (fun e=>(HON.out _ e).2.1 rfl)));have hG63:Gr (·=E.b) w BS:=Gr.wide aJ oD (fun q hq e=>e.elim id (fun e=>e.elim (fun e=>by omega) (fun e=>by have:=(HON.out q e).2.2;omega)));obtain ⟨_,ae0,ae1,ae2,ae3,ae4,ae5,ae6,_⟩:=rT.av;obtain ⟨_,aax,aay,aaz,aaA,aaB,aaC,aaD,ae7⟩:=tT.av))
    obtain ⟨V,hV⟩:=aS (((((((BS.setCell ⟨w.heap.size,0,none⟩ (.int .i64 WL)).setCell ⟨w.heap.size,1,none⟩ (.int .i64 FZ)).setCell ⟨w.heap.size,2,none⟩ (.int .i64 WM)).setCell ⟨w.heap.size,3,none⟩ (.string (bs p63))).setCell ⟨w.heap.size,4,none⟩ (.string (bs t63))).setCell ⟨w.heap.size,5,none⟩ (.int .i64 a63)).setCell ⟨w.heap.size,6,none⟩ (.slice TH Ah.length Ct))
    have gV:Gr (fun q=>q=w.heap.size) BS V:=hV▸fQ (i:=0) (v0:=.int .i64 WL) (v1:=.int .i64 FZ) (v2:=.int .i64 WM) (v3:=.string (bs p63)) (v4:=.string (bs t63)) (v5:=.int .i64 a63) (v6:=.slice TH Ah.length Ct) (Gr.refl BS) (.inr rfl)
    have zC:ag V w.heap.size 24 (N7 WL FZ WM (bs p63) (bs t63) a63 (.slice TH Ah.length Ct)):=hV▸ag.seven tT (.int .i64 WL) (.int .i64 FZ) (.int .i64 WM) (.string (bs p63)) (.string (bs t63)) (.int .i64 a63) (.slice TH Ah.length Ct)
    rw [hV]
    have YU:=gV.size
    have Yn:RS E V s1:=zV.gr gV (by show ¬E.b=w.heap.size;omega) (by show ¬E.g=w.heap.size;omega)
    have KX:Gr (·=E.b) w V:=Gr.wide hG63 gV (fun q hq e=>by omega)
    have BD:ag V (w.heap.size+1) 24 Z7:=wu.gr gV (by show ¬w.heap.size+1=w.heap.size;omega)
    have BF:ah V E.L (fun q=>X q\/(q=w.heap.size\/q=w.heap.size+1)) (.slice TH Ah.length Ct) Ah:=ah.gr (ah.sub (Y:=(fun q=>X q\/(q=w.heap.size\/q=w.heap.size+1))) rR (fun q hq _=>.inl hq)) gV (fun q _ h3 _ h2=>h3 (.inr (.inl h2)))
    clear hV
    go_roundg f
    case measure=>omega
    case rel=>exact ⟨WL,FZ,WM,p63,t63,a63,Ah,TH,Ct,s1,Yn,zC,BD,BF,KX,by omega,by omega,HQ.out⟩
   |false=>
   have HB2:=af hb2
   simp only [hb2,Bool.false_eq_true,if_false] at hq
   clear hb2
   cases hb3:bX [46] sx with
   |false=>
    have HB3:=af hb3
    simp only [hb3,Bool.false_eq_true,if_false,Option.some.injEq,Prod.mk.injEq] at hq
    obtain ⟨rfl,rfl⟩:=hq
    clear hb3
    have acB:ah w60 E.L (fun q=>X q\/(q=w.heap.size\/q=w.heap.size+1)) (.slice Aq nu.length cq) nu:=HPX.out
    go_wp2_with (first
     |((fail_if_success (have:=kg));go_at_call 27;(with_reducible refine (au E _ sx aB [40] ⟨#[40]⟩ rfl).mono ?_);rintro e xm ⟨rfl,kg⟩;rw [HB1.out];have G9:RS E xm sx:=RS.below aB kg;have FT:=gX E.b w kg;have wm:ag xm w.heap.size 24 (N7 kq opq mq (bs pq) (bs tq) aq (.slice Aq nu.length cq)):=ag.aC bz kg;have q9:ag xm (w.heap.size+1) 24 Z7:=ag.aC bz kg;have pI:ag xm z 24 (N7 0 0 0 ⟨#[]⟩ ⟨#[]⟩ ((hd sx.l).2) (.slice (some ⟨r,0,none⟩) 1 1)):=ag.aC bz kg;have acC:=mR acB kg)
     |((fail_if_success (have:=mH));go_at_call 27;(with_reducible refine (au E _ sx aB [91] ⟨#[91]⟩ rfl).mono ?_);rintro e w62 ⟨rfl,mH⟩;rw [HB2.out];have J7:=bA G9 mH;have Pv:=aL FT mH;have Ae:=wm.aC mH;have Af:=q9.aC mH;have Ag:=pI.aC mH;have acD:=mR acC mH)
     |((fail_if_success (have:=oD));go_at_call 27;(with_reducible refine (au E _ sx aB [46] ⟨#[46]⟩ rfl).mono ?_);rintro e BS ⟨rfl,oD⟩;rw [HB3.out];have zV:=bA J7 oD;have hG63:=aL Pv oD;have tT:=Ae.aC oD;obtain ⟨_,aax,aay,aaz,aaA,aaB,aaC,aaD,_⟩:=tT.av;have wu:=Af.aC oD;obtain ⟨_,akH,akI,akJ,akK,akL,akM,akN,akO⟩:=wu.av;have rT:=Ag.aC oD;have ahR:=mR acD oD))
    have cB:(fun q=>X q\/(q=w.heap.size\/q=w.heap.size+1)) (w.heap.size+1):=.inr (.inr rfl)
    exact aX Tryz.results115 rfl rfl dS ⟨aJ,aB,kq,opq,mq,pq,tq,aq,nu,Aq,cq,rfl,rfl,ah.sub (X:=(fun q=>X q\/(q=w.heap.size\/q=w.heap.size+1))) uu (fun q hq _=>.inl hq)⟩
   |true=>
   have HB3:=af hb3
   simp only [hb3,if_true] at hq
   clear hb3
   cases hb4:bX [40] (aj [46] sx) with
   |false=>
    have HB4:=af hb4
    simp only [hb4,Bool.false_eq_true,if_false] at hq
    have HQ:=af hq
    clear hb4 hq
    go_wp2_with (first
     |((fail_if_success (have:=kg));go_at_call 27;(with_reducible refine (au E _ sx aB [40] ⟨#[40]⟩ rfl).mono ?_);rintro e xm ⟨rfl,kg⟩;rw [HB1.out];have G9:RS E xm sx:=RS.below aB kg;have FT:=gX E.b w kg;have wm:ag xm w.heap.size 24 (N7 kq opq mq (bs pq) (bs tq) aq (.slice Aq nu.length cq)):=ag.aC bz kg;have q9:ag xm (w.heap.size+1) 24 Z7:=ag.aC bz kg;have pI:ag xm z 24 (N7 0 0 0 ⟨#[]⟩ ⟨#[]⟩ ((hd sx.l).2) (.slice (some ⟨r,0,none⟩) 1 1)):=ag.aC bz kg;have uL:ah xm E.L (fun q=>(fun q=>X q\/(q=w.heap.size\/q=w.heap.size+1)) q\/q=z) (.slice (some ⟨r,0,none⟩) 1 1) [Tr.mk kq opq mq pq tq aq nu]:=ah.aC nR kg)
     |((fail_if_success (have:=mH));go_at_call 27;(with_reducible refine (au E _ sx aB [91] ⟨#[91]⟩ rfl).mono ?_);rintro e w62 ⟨rfl,mH⟩;rw [HB2.out];have J7:=bA G9 mH;have Pv:=aL FT mH;have Ae:=wm.aC mH;have Af:=q9.aC mH;have Ag:=pI.aC mH;have FY:=mR uL mH)
     |((fail_if_success (have:=oD));go_at_call 27;(with_reducible refine (au E _ sx aB [46] ⟨#[46]⟩ rfl).mono ?_);rintro e BS ⟨rfl,oD⟩;rw [HB3.out];have zV:=bA J7 oD;have hG63:=aL Pv oD;have tT:=Ae.aC oD;have wu:=Af.aC oD;have rT:=Ag.aC oD;have rR:=mR FY oD)
     |((fail_if_success (have:=qA));go_at_call 25;(with_reducible refine (aA E _ sx aB [46] ⟨#[46]⟩ rfl).mono ?_);rintro e BR ⟨rfl,Fz,qA⟩;have yU:=bP hG63 qA;have Pw:=tT.call qA (by omega);have zW:=wu.call qA (by omega);have pF:=rT.call qA (by omega);obtain ⟨_,ae8,_,_,_,_,_,_,ae9⟩:=pF.av;have qZ:=dU rR qA;have Kj:ag (BR.setCell ⟨z,0,none⟩ (.int .i64 36)) z 24 (N7 36 0 0 ⟨#[]⟩ ⟨#[]⟩ ((hd sx.l).2) (.slice (some ⟨r,0,none⟩) 1 1)):=ag.set0 pF _;have Kk:ah (BR.setCell ⟨z,0,none⟩ (.int .i64 36)) E.L (fun q=>(fun q=>X q\/(q=w.heap.size\/q=w.heap.size+1)) q\/q=z) (.slice (some ⟨r,0,none⟩) 1 1) [Tr.mk kq opq mq pq tq aq nu]:=ah.setCell (p:=⟨z,0,none⟩) qZ (.inr (.inr rfl)) _)
     |((fail_if_success (have:=iR));go_at_call 27;(with_reducible refine (au E _ (aj [46] sx) aB [40] ⟨#[40]⟩ rfl).mono ?_);rintro e zB ⟨rfl,iR⟩;rw [HB4.out];have Cu:RS E zB (aj [46] sx):=RS.below aB iR;have uI:=aL yU iR;have Px:=bV Pw iR;have vU:=bV zW iR;have mX:=bV Kj iR;have nN:=mR Kk iR)
     |((fail_if_success (have:=jH));go_at_call 26;(with_reducible refine (dR E _ (aj [46] sx) aB).mono ?_);rintro e DV ⟨rfl,sI,jH⟩;have ug:=bP uI jH;have Kl:=Px.call jH (by omega);obtain ⟨_,akP,akQ,akR,akS,akT,akU,akV,akW⟩:=Kl.av;have vV:=vU.call jH (by omega);have jQ:=mX.call jH (by omega);have ahS:=jQ.lt;obtain ⟨_,aed,aee,aef,aeg,aeh,aei,aaj,akX⟩:=jQ.av;have kL:=dU nN jH;have agD:ag (DV.setCell ⟨z,4,none⟩ (.string (bs (ay (aj [46] sx))))) z 24 #[.int .i64 36,.int .i64 0,.int .i64 0,.string ⟨#[]⟩,.string (bs (ay (aj [46] sx))),.int .i64 (hd sx.l).2,.slice (some ⟨r,0,none⟩) 1 1]:=ag.GH jQ _;have Zi:ah (DV.setCell ⟨z,4,none⟩ (.string (bs (ay (aj [46] sx))))) E.L (fun q=>(fun q=>X q\/(q=w.heap.size\/q=w.heap.size+1)) q\/q=z) (.slice (some ⟨r,0,none⟩) 1 1) [Tr.mk kq opq mq pq tq aq nu]:=ah.setCell (p:=⟨z,4,none⟩) kL (.inr (.inr rfl)) _))
    obtain ⟨yD,hW⟩:=aS (DV.setCell ⟨z,4,none⟩ (.string (bs (ay (aj [46] sx)))))
    have gW:Gr (fun q=>q=z) DV yD:=hW▸Gr.setCell (S:=fun q=>q=z) (p:=⟨z,4,none⟩) (Gr.refl DV) (.inr rfl) _
    have mF:ah yD E.L (fun q=>(fun q=>X q\/(q=w.heap.size\/q=w.heap.size+1)) q\/q=z) (.slice (some ⟨r,0,none⟩) 1 1) [Tr.mk kq opq mq pq tq aq nu]:=hW▸Zi
    rw [hW]
    have FB:RS E yD (aG (aj [46] sx)):=sI.gr gW (by show ¬E.b=z;omega) (by show ¬E.g=z;omega)
    have xU:Gr (·=E.b) w yD:=Gr.wide ug gW (fun q hq e=>by omega)
    have Wd:=gW.size
    have Py:=Kl.gr gW (by show ¬w.heap.size=z;omega)
    have zX:=vV.gr gW (by show ¬w.heap.size+1=z;omega)
    clear hW
    obtain ⟨V,hV⟩:=aS (((((((yD.setCell ⟨w.heap.size,0,none⟩ (.int .i64 36)).setCell ⟨w.heap.size,1,none⟩ (.int .i64 0)).setCell ⟨w.heap.size,2,none⟩ (.int .i64 0)).setCell ⟨w.heap.size,3,none⟩ (.string ⟨#[]⟩)).setCell ⟨w.heap.size,4,none⟩ (.string (bs (ay (aj [46] sx))))).setCell ⟨w.heap.size,5,none⟩ (.int .i64 (hd sx.l).2)).setCell ⟨w.heap.size,6,none⟩ (.slice (some ⟨r,0,none⟩) 1 1))
    have gV:Gr (fun q=>q=w.heap.size) yD V:=hV▸fQ (i:=0) (v0:=.int .i64 36) (v1:=.int .i64 0) (v2:=.int .i64 0) (v3:=.string ⟨#[]⟩) (v4:=.string (bs (ay (aj [46] sx)))) (v5:=.int .i64 (hd sx.l).2) (v6:=.slice (some ⟨r,0,none⟩) 1 1) (Gr.refl yD) (.inr rfl)
    have zC:ag V w.heap.size 24 (N7 36 0 0 ⟨#[]⟩ (bs (ay (aj [46] sx))) ((hd sx.l).2) (.slice (some ⟨r,0,none⟩) 1 1)):=hV▸ag.seven Py (.int .i64 36) (.int .i64 0) (.int .i64 0) (.string ⟨#[]⟩) (.string (bs (ay (aj [46] sx)))) (.int .i64 (hd sx.l).2) (.slice (some ⟨r,0,none⟩) 1 1)
    rw [hV]
    have YU:=gV.size
    have Yn:RS E V (aG (aj [46] sx)):=FB.gr gV (by show ¬E.b=w.heap.size;omega) (by show ¬E.g=w.heap.size;omega)
    have KX:Gr (·=E.b) w V:=Gr.wide xU gV (fun q hq e=>by omega)
    have BD:ag V (w.heap.size+1) 24 Z7:=zX.gr gV (by show ¬w.heap.size+1=w.heap.size;omega)
    have BF:ah V E.L (fun q=>X q\/(q=w.heap.size\/q=w.heap.size+1)) (.slice (some ⟨r,0,none⟩) 1 1) [Tr.mk kq opq mq pq tq aq nu]:=ah.gr (ah.sub (Y:=(fun q=>X q\/(q=w.heap.size\/q=w.heap.size+1))) mF (fun q hq _=>.inl hq)) gV (fun q _ h3 _ h2=>h3 (.inr (.inl h2)))
    clear hV
    go_roundg f
    case measure=>omega
    case rel=>exact ⟨36,0,0,[],(ay (aj [46] sx)),(hd sx.l).2,[Tr.mk kq opq mq pq tq aq nu],(some ⟨r,0,none⟩),1,(aG (aj [46] sx)),Yn,zC,BD,BF,KX,by omega,by omega,HQ.out⟩
   |true=>
   have HB4:=af hb4
   simp only [hb4,if_true] at hq
   obtain ⟨t1,s1,h1,hq⟩:=bF hq
   have nK:=af (fun W hW=>Hf.kind E W _ t1 s1 hW h1)
   have HQ:=af hq
   clear hb4 h1 hq
   go_wp2_with (first
    |((fail_if_success (have:=kg));go_at_call 27;(with_reducible refine (au E _ sx aB [40] ⟨#[40]⟩ rfl).mono ?_);rintro e xm ⟨rfl,kg⟩;rw [HB1.out];have G9:RS E xm sx:=RS.below aB kg;have FT:=gX E.b w kg;have WJ:=kg.size;(try simp at WJ);have wm:ag xm w.heap.size 24 (N7 kq opq mq (bs pq) (bs tq) aq (.slice Aq nu.length cq)):=ag.aC bz kg;have q9:ag xm (w.heap.size+1) 24 Z7:=ag.aC bz kg;have pI:ag xm z 24 (N7 0 0 0 ⟨#[]⟩ ⟨#[]⟩ ((hd sx.l).2) (.slice (some ⟨r,0,none⟩) 1 1)):=ag.aC bz kg;have uL:ah xm E.L (fun q=>(fun q=>X q\/(q=w.heap.size\/q=w.heap.size+1)) q\/q=z) (.slice (some ⟨r,0,none⟩) 1 1) [Tr.mk kq opq mq pq tq aq nu]:=ah.aC nR kg)
    |((fail_if_success (have:=mH));go_at_call 27;(with_reducible refine (au E _ sx aB [91] ⟨#[91]⟩ rfl).mono ?_);rintro e w62 ⟨rfl,mH⟩;rw [HB2.out];have J7:=bA G9 mH;have Pv:=aL FT mH;have WK:=mH.size;(try simp at WK);have Ae:=wm.aC mH;have Af:=q9.aC mH;have Ag:=pI.aC mH;have FY:=mR uL mH)
    |((fail_if_success (have:=oD));go_at_call 27;(with_reducible refine (au E _ sx aB [46] ⟨#[46]⟩ rfl).mono ?_);rintro e BS ⟨rfl,oD⟩;rw [HB3.out];have zV:=bA J7 oD;have hG63:=aL Pv oD;have ahT:=oD.size;(try simp at ahT);have tT:=Ae.aC oD;have wu:=Af.aC oD;have rT:=Ag.aC oD;have rR:=mR FY oD)
    |((fail_if_success (have:=qA));go_at_call 25;(with_reducible refine (aA E _ sx aB [46] ⟨#[46]⟩ rfl).mono ?_);rintro e BR ⟨rfl,Fz,qA⟩;have yU:=bP hG63 qA;have aec:=qA.size;(try simp at aec);have Pw:=tT.call qA (by omega);have zW:=wu.call qA (by omega);have pF:=rT.call qA (by omega);obtain ⟨_,ae8,_,_,_,_,_,_,ae9⟩:=pF.av;have qZ:=dU rR qA;have Kj:ag (BR.setCell ⟨z,0,none⟩ (.int .i64 36)) z 24 (N7 36 0 0 ⟨#[]⟩ ⟨#[]⟩ ((hd sx.l).2) (.slice (some ⟨r,0,none⟩) 1 1)):=ag.set0 pF _;have Kk:ah (BR.setCell ⟨z,0,none⟩ (.int .i64 36)) E.L (fun q=>(fun q=>X q\/(q=w.heap.size\/q=w.heap.size+1)) q\/q=z) (.slice (some ⟨r,0,none⟩) 1 1) [Tr.mk kq opq mq pq tq aq nu]:=ah.setCell (p:=⟨z,0,none⟩) qZ (.inr (.inr rfl)) _)
    |((fail_if_success (have:=iR));go_at_call 27;(with_reducible refine (au E _ (aj [46] sx) aB [40] ⟨#[40]⟩ rfl).mono ?_);rintro e zB ⟨rfl,iR⟩;rw [HB4.out];have Cu:RS E zB (aj [46] sx):=RS.below aB iR;have uI:=aL yU iR;have V8:=iR.size;(try simp at V8);have Px:=bV Pw iR;have vU:=bV zW iR;have mX:=bV Kj iR;obtain ⟨_,akY,_,_,_,_,_,_,akZ⟩:=mX.av;have nN:=mR Kk iR;have Zj:ag (zB.setCell ⟨z,0,none⟩ (.int .i64 37)) z 24 (N7 37 0 0 ⟨#[]⟩ ⟨#[]⟩ ((hd sx.l).2) (.slice (some ⟨r,0,none⟩) 1 1)):=ag.set0 mX _;have Zk:ah (zB.setCell ⟨z,0,none⟩ (.int .i64 37)) E.L (fun q=>(fun q=>X q\/(q=w.heap.size\/q=w.heap.size+1)) q\/q=z) (.slice (some ⟨r,0,none⟩) 1 1) [Tr.mk kq opq mq pq tq aq nu]:=ah.setCell (p:=⟨z,0,none⟩) nN (.inr (.inr rfl)) _)
    |((fail_if_success (have:=jH));go_at_call 25;(with_reducible refine (aA E _ (aj [46] sx) aB [40] ⟨#[40]⟩ rfl).mono ?_);rintro e DV ⟨rfl,sI,jH⟩;have ug:=bP uI jH;have V9:=jH.size;(try simp at V9);have ak0:=sI.lt;have ak1:=sI.iy;have Kl:=aD Px jH;have vV:=aD vU jH;have jQ:=aD Zj jH;have kL:=dU Zk jH))
   have afa:∀q,(fun q=>(fun q=>X q\/(q=w.heap.size\/q=w.heap.size+1)) q\/q=z) q->q < DV.heap.size:=fun q hq=>Nat.lt_of_lt_of_le (HXz.out q hq) (by omega)
   have dO:(fun q=>(fun q=>X q\/(q=w.heap.size\/q=w.heap.size+1)) q\/q=z) z:=.inr rfl
   have aat:(fun q=>(fun q=>X q\/(q=w.heap.size\/q=w.heap.size+1)) q\/q=z) w.heap.size:=.inl (.inr (.inl rfl))
   have cB:(fun q=>(fun q=>X q\/(q=w.heap.size\/q=w.heap.size+1)) q\/q=z) (w.heap.size+1):=.inl (.inr (.inr rfl))
   have ME:∀q,(Value.slice (some ⟨r,0,none⟩) 1 1).ownBlock=some q->w.heap.size<=q:=fun q e=>(HON.out q e).2.2
   obtain ⟨_,_,_,_,_,_,_,aaj,_⟩:=jQ.av
   refine eX 11 3 5 6 7 8 10 1 4 9 E.b 79 #[.pointer (some ⟨E.b,0,none⟩)] (fun _=>False) (fun W=>RS E W (aj [40] (aj [46] sx))) (fun t W=>t=t1/\RS E W s1)
    kL dO afa jQ E.bL (by omega) fT sI.L (by simp [cK]) (kr E _ _ (by omega) (by omega)) sI (fun t=>bD E _ _ _ E.bL E.gL t) (fun t w u hd=>⟨hd.1,hd.2.setCell fT kG u⟩) (fun W hW=>(nK.out W hW).mono fun e w' h=>fH h) ?_ ?_
   ·rintro a w' c _ nL _
    exact absurd nL id
   rintro vals yD A67 c67 u67 ⟨ahU,FB⟩ mF Ru nP afb
   obtain rfl:=ahU.symm
   have Wd:=Ru.size
   dsimp only [bG,List.take_succ_cons,List.take_zero,List.take_nil]
   have Py:ag yD w.heap.size 24 (N7 kq opq mq (bs pq) (bs tq) aq (.slice Aq nu.length cq)):=Ru.blk Kl (fun e=>e.elim (fun e=>by omega) (fun e=>e.elim (fun e=>by omega) (fun e=>kL.1 _ e aat)))
   have zX:ag yD (w.heap.size+1) 24 Z7:=Ru.blk vV (fun e=>e.elim (fun e=>by omega) (fun e=>e.elim (fun e=>by omega) (fun e=>kL.1 _ e cB)))
   have xU:Gr (·=E.b) w yD:=lC (v:=.slice (some ⟨r,0,none⟩) 1 1) ug Ru (by omega) ME
   obtain ⟨kb,hkb⟩:=aS ([Tr.mk kq opq mq pq tq aq nu] ++ [t1])
   have eF:kb.length=2:=by rw [<-hkb];rfl
   have Rv:ah yD E.L (fun q=>(fun q=>X q\/(q=w.heap.size\/q=w.heap.size+1)) q\/q=z) (.slice A67 kb.length c67) kb:=by rw [eF,<-hkb];exact mF
   have Rw:ag yD z 24 (N7 37 0 0 ⟨#[]⟩ ⟨#[]⟩ ((hd sx.l).2) (.slice A67 kb.length c67)):=by rw [eF];exact nP
   clear mF nP afb
   have mF:=Rv
   have nP:=Rw
   clear Rv Rw
   have nZ:=af hkb
   clear eF hkb
   go_wp2_with (first
    |((fail_if_success (have:=qG));go_at_call 25;(with_reducible refine (aA E _ s1 aB [41] ⟨#[41]⟩ rfl).mono ?_);rintro e w68 ⟨rfl,FC,qG⟩;have FD:=bP xU qG;have WN:=aD Py qG;obtain ⟨_,ak2,ak3,ak4,ak5,ak6,ak7,ak8,ak9⟩:=WN.av;have O0:=aD zX qG;have rU:=aD nP qG;have ahV:=rU.lt;obtain ⟨_,ala,alb,alc,ald,ale,alf,alg,_⟩:=rU.av;have tL:=dU mF qG))
   obtain ⟨V,hV⟩:=aS (((((((w68.setCell ⟨w.heap.size,0,none⟩ (.int .i64 37)).setCell ⟨w.heap.size,1,none⟩ (.int .i64 0)).setCell ⟨w.heap.size,2,none⟩ (.int .i64 0)).setCell ⟨w.heap.size,3,none⟩ (.string ⟨#[]⟩)).setCell ⟨w.heap.size,4,none⟩ (.string ⟨#[]⟩)).setCell ⟨w.heap.size,5,none⟩ (.int .i64 (hd sx.l).2)).setCell ⟨w.heap.size,6,none⟩ (.slice A67 kb.length c67))
   have gV:Gr (fun q=>q=w.heap.size) w68 V:=hV▸fQ (i:=0) (v0:=.int .i64 37) (v1:=.int .i64 0) (v2:=.int .i64 0) (v3:=.string ⟨#[]⟩) (v4:=.string ⟨#[]⟩) (v5:=.int .i64 (hd sx.l).2) (v6:=.slice A67 kb.length c67) (Gr.refl w68) (.inr rfl)
   have zC:ag V w.heap.size 24 (N7 37 0 0 ⟨#[]⟩ ⟨#[]⟩ ((hd sx.l).2) (.slice A67 kb.length c67)):=hV▸ag.seven WN (.int .i64 37) (.int .i64 0) (.int .i64 0) (.string ⟨#[]⟩) (.string ⟨#[]⟩) (.int .i64 (hd sx.l).2) (.slice A67 kb.length c67)
   rw [hV]
   have YU:=gV.size
   have Yn:RS E V (aj [41] s1):=FC.gr gV (by show ¬E.b=w.heap.size;omega) (by show ¬E.g=w.heap.size;omega)
   have KX:Gr (·=E.b) w V:=Gr.wide FD gV (fun q hq e=>by omega)
   have BD:ag V (w.heap.size+1) 24 Z7:=O0.gr gV (by show ¬w.heap.size+1=w.heap.size;omega)
   have BF:ah V E.L (fun q=>X q\/(q=w.heap.size\/q=w.heap.size+1)) (.slice A67 kb.length c67) kb:=ah.gr (ah.sub (Y:=(fun q=>X q\/(q=w.heap.size\/q=w.heap.size+1))) tL (fun q hq _=>.inl hq)) gV (fun q _ h3 _ h2=>h3 (.inr (.inl h2)))
   clear hV
   go_roundg f
   case measure=>omega
   case rel=>exact ⟨37,0,0,[],[],(hd sx.l).2,kb,A67,c67,(aj [41] s1),Yn,zC,BD,BF,KX,by omega,by omega,by rw [<-nZ.out];exact HQ.out⟩
def qC (k:Int):List UInt8 × Nat:=
 if k=18 then ([124,124],1) else if k=17 then ([38,38],2) else if k=11 then ([61,61],3) else if k=12 then ([33,61],3) else if k=13 then ([60],3) else if k=14 then ([60,61],3) else if k=15 then ([62],3) else if k=16 then ([62,61],3) else if k=1 then ([43],4) else if k=2 then ([45],4) else if k=3 then ([42],5) else if k=4 then ([47],5) else if k=5 then ([37],5) else ([],0)
theorem yF (k:Int) (w:World):Calls Tryz.prog 97 #[.int .i64 k] w fun e w'=>e= .returned (.tuple #[.string (bs (qC k).1),.int .i64 (qC k).2])/\w=w':=by
 by_cases h18:k=18
 ·subst h18
  go_enter Tryz.func97,Tryz.ntmps97
  go_wp2
  go_ret2
  exact ⟨rfl,rfl⟩
 have e18:(k == 18)=false:=by simpa using h18
 by_cases Em:k=17
 ·subst Em
  go_enter Tryz.func97,Tryz.ntmps97
  go_wp2
  go_ret2
  exact ⟨rfl,rfl⟩
 have e17:(k == 17)=false:=by simpa using Em
 by_cases h11:k=11
 ·subst h11
  go_enter Tryz.func97,Tryz.ntmps97
  go_wp2
  go_ret2
  exact ⟨rfl,rfl⟩
 have e11:(k == 11)=false:=by simpa using h11
 by_cases h12:k=12
 ·subst h12
  go_enter Tryz.func97,Tryz.ntmps97
  go_wp2
  go_ret2
  exact ⟨rfl,rfl⟩
 have e12:(k == 12)=false:=by simpa using h12
 by_cases Ei:k=13
 ·subst Ei
  go_enter Tryz.func97,Tryz.ntmps97
  go_wp2
  go_ret2
  exact ⟨rfl,rfl⟩
 have e13:(k == 13)=false:=by simpa using Ei
 by_cases Ej:k=14
 ·subst Ej
  go_enter Tryz.func97,Tryz.ntmps97
  go_wp2
  go_ret2
  exact ⟨rfl,rfl⟩
 have e14:(k == 14)=false:=by simpa using Ej
 by_cases El:k=15
 ·subst El
  go_enter Tryz.func97,Tryz.ntmps97
  go_wp2
  go_ret2
  exact ⟨rfl,rfl⟩
 have e15:(k == 15)=false:=by simpa using El
 by_cases h16:k=16
 ·subst h16
  go_enter Tryz.func97,Tryz.ntmps97
  go_wp2
  go_ret2
  exact ⟨rfl,rfl⟩
 have e16:(k == 16)=false:=by simpa using h16
 by_cases h1:k=1
 ·subst h1
  go_enter Tryz.func97,Tryz.ntmps97
  go_wp2
  go_ret2
  exact ⟨rfl,rfl⟩
 have e1:(k == 1)=false:=by simpa using h1
 by_cases h2:k=2
 ·subst h2
  go_enter Tryz.func97,Tryz.ntmps97
  go_wp2
  go_ret2
  exact ⟨rfl,rfl⟩
 have e2:(k == 2)=false:=by simpa using h2
 by_cases h3:k=3
 ·subst h3
  go_enter Tryz.func97,Tryz.ntmps97
  go_wp2
  go_ret2
  exact ⟨rfl,rfl⟩
 have e3:(k == 3)=false:=by simpa using h3
 by_cases h4:k=4
 ·subst h4
  go_enter Tryz.func97,Tryz.ntmps97
  go_wp2
  go_ret2
  exact ⟨rfl,rfl⟩
 have e4:(k == 4)=false:=by simpa using h4
 by_cases h5:k=5
 ·subst h5
  go_enter Tryz.func97,Tryz.ntmps97
  go_wp2
  go_ret2
  exact ⟨rfl,rfl⟩
 have e5:(k == 5)=false:=by simpa using h5
 have hz:qC k=([],0):=by simp only [qC,if_neg h18,if_neg Em,if_neg h11,if_neg h12,if_neg Ei,if_neg Ej,if_neg El,if_neg h16,if_neg h1,if_neg h2,if_neg h3,if_neg h4,if_neg h5]
 rw [hz]
 clear h18 Em h11 h12 Ei Ej El h16 h1 h2 h3 h4 h5 hz
 go_enter Tryz.func97,Tryz.ntmps97
 go_wp2
 go_ret2
 exact ⟨rfl,rfl⟩
theorem Zl (i:Nat) (h1:1<=i) (h2:i<=18) (hs:(qC i).2≠0):nC (qC i).1=((i:Int),(qC i).2):=by
 rcases (show i=1\/i=2\/i=3\/i=4\/i=5\/i=6\/i=7\/i=8\/i=9\/i=10\/i=11\/i=12\/i=13\/i=14\/i=15\/i=16\/i=17\/i=18 by omega) with rfl|rfl|rfl|rfl|rfl|rfl|rfl|rfl|rfl|rfl|rfl|rfl|rfl|rfl|rfl|rfl|rfl|rfl <;> first|rfl|exact absurd rfl hs
theorem TI (i:Nat) (h1:1<=i) (h2:i<=18) (hs:(qC i).2≠0):(qC i).1≠[]:=by
 rcases (show i=1\/i=2\/i=3\/i=4\/i=5\/i=6\/i=7\/i=8\/i=9\/i=10\/i=11\/i=12\/i=13\/i=14\/i=15\/i=16\/i=17\/i=18 by omega) with rfl|rfl|rfl|rfl|rfl|rfl|rfl|rfl|rfl|rfl|rfl|rfl|rfl|rfl|rfl|rfl|rfl|rfl <;> first|exact absurd rfl hs|exact nofun
theorem TJ (M:List UInt8) (k:Nat) (hk:1<=k) (h:∀j:Nat,1<=j->j<=18->¬((qC j).1=M/\k<=(qC j).2)):(nC M).2 < k:=by
 unfold nC
 have q:∀j:Nat,1<=j->j<=18->(qC j).1=M->(qC j).2 < k:=fun j h1 h2 h3=>Nat.lt_of_not_le fun h4=>h j h1 h2 ⟨h3,h4⟩
 by_cases h18:M=[124,124]
 ·rw [if_pos h18];exact q 18 (by omega) (by omega) h18.symm
 rw [if_neg h18]
 by_cases Em:M=[38,38]
 ·rw [if_pos Em];exact q 17 (by omega) (by omega) Em.symm
 rw [if_neg Em]
 by_cases h11:M=[61,61]
 ·rw [if_pos h11];exact q 11 (by omega) (by omega) h11.symm
 rw [if_neg h11]
 by_cases h12:M=[33,61]
 ·rw [if_pos h12];exact q 12 (by omega) (by omega) h12.symm
 rw [if_neg h12]
 by_cases Ei:M=[60]
 ·rw [if_pos Ei];exact q 13 (by omega) (by omega) Ei.symm
 rw [if_neg Ei]
 by_cases Ej:M=[60,61]
 ·rw [if_pos Ej];exact q 14 (by omega) (by omega) Ej.symm
 rw [if_neg Ej]
 by_cases El:M=[62]
 ·rw [if_pos El];exact q 15 (by omega) (by omega) El.symm
 rw [if_neg El]
 by_cases h16:M=[62,61]
 ·rw [if_pos h16];exact q 16 (by omega) (by omega) h16.symm
 rw [if_neg h16]
 by_cases h1:M=[43]
 ·rw [if_pos h1];exact q 1 (by omega) (by omega) h1.symm
 rw [if_neg h1]
 by_cases h2:M=[45]
 ·rw [if_pos h2];exact q 2 (by omega) (by omega) h2.symm
 rw [if_neg h2]
 by_cases h3:M=[42]
 ·rw [if_pos h3];exact q 3 (by omega) (by omega) h3.symm
 rw [if_neg h3]
 by_cases h4:M=[47]
 ·rw [if_pos h4];exact q 4 (by omega) (by omega) h4.symm
 rw [if_neg h4]
 by_cases h5:M=[37]
 ·rw [if_pos h5];exact q 5 (by omega) (by omega) h5.symm
 rw [if_neg h5]
 exact hk
theorem IV (E:Env) (w:World) (s:St) (h:RS E w s) (he:s.e=0) (k:Nat) (hk:1<=k):Calls Tryz.prog 96 #[.pointer (some ⟨E.b,0,none⟩),.int .i64 k] w fun e w'=>e= .returned (.int .i64 (if (nC (mark s.l)).2 < k then 0 else (nC (mark s.l)).1))/\Below w.heap.size w w':=by
 obtain ⟨R,hR⟩:∃R,(if (nC (mark s.l)).2 < k then (0:Int) else (nC (mark s.l)).1)=R:=⟨_,rfl⟩
 have HRR:=af hR
 have HE:=af he
 rw [hR]
 clear hR he
 go_enter Tryz.func96,Tryz.ntmps96
 go_wp2
 go_loopg [5] 18 (fun gk v5 wr=>∃i:Nat,i+gk=19/\1<=i/\v5= .int .i64 (i:Int)/\RS E wr s/\Below w.heap.size w wr/\∀j:Nat,1<=j->j < i->¬((qC j).1=mark s.l/\k<=(qC j).2))
 case atStart=>exact ⟨1,by omega,by omega,rfl,h,Below.refl _ _,fun j h1 h2=>by omega⟩
 case round=>
  obtain ⟨i,hig,hi1,rfl,hRr,hBr,hn⟩:=hrel
  have HN:=af hn
  have HBR:=af hBr
  clear hn hBr
  cases gk with
  |zero=>
   obtain rfl:i=19:=by omega
   go_wp2
   go_ret
   refine ⟨?_,HBR.out⟩
   rw [<-HRR.out,if_pos (TJ _ k hk fun j h1 h2=>HN.out j h1 (by omega))]
   rfl
  |succ f=>
   have am4:(i:Int)<=18:=by omega
   obtain ⟨tx,htx⟩:=aS (qC i).1
   obtain ⟨st,hst⟩:=aS (qC i).2
   have HTX:=af htx
   have HST:=af hst
   by_cases hge:k<=st
   ·have ahW:(k:Int)<=(st:Int):=by omega
    have hs0:(qC i).2≠0:=by omega
    have hm:tx≠[]:=by rw [<-htx];exact TI i hi1 (by omega) hs0
    have HA:=af (Zl i hi1 (by omega) hs0)
    clear htx hst hs0
    cases hi:bX tx s with
    |true=>
     have HI:=af hi
     clear hi
     go_wp2_with (first
      |(go_at_call 97;refine (yF i _).mono ?_;rw [HTX.out,HST.out];rintro e w1 ⟨rfl,rfl⟩)
      |(go_at_call 27;(with_reducible refine (au E _ s aB tx (bs tx) rfl hm).mono ?_);rintro e w2 ⟨rfl,hg2⟩;rw [HI.out]))
     go_ret
     refine ⟨?_,HBR.out.trans (hg2.mono HBR.out.size)⟩
     have h1:=HI.out
     unfold bX at h1
     simp only [Bool.and_eq_true,decide_eq_true_eq] at h1
     have h2:=HA.out
     rw [HTX.out,HST.out,<-h1.2] at h2
     rw [<-HRR.out,h2,if_neg (by show ¬st < k;omega)]
     rfl
    |false=>
     have HI:=af hi
     clear hi
     go_wp2_with (first
      |(go_at_call 97;refine (yF i _).mono ?_;rw [HTX.out,HST.out];rintro e w1 ⟨rfl,rfl⟩)
      |(go_at_call 27;(with_reducible refine (au E _ s aB tx (bs tx) rfl hm).mono ?_);rintro e w2 ⟨rfl,hg2⟩;rw [HI.out];have hR2:RS E w2 s:=RS.below aB hg2))
     go_roundg f
     case measure=>omega
     case rel=>exact ⟨i+1,by omega,by omega,by go_num,hR2,HBR.out.trans (hg2.mono HBR.out.size),fun j h1 h2=>by
      rcases Nat.lt_or_ge j i with h3|h3
      ·exact HN.out j h1 h3
      ·obtain rfl:j=i:=by omega
       rintro ⟨h4,_⟩
       have h6:=HI.out
       unfold bX at h6
       rw [HE.out,<-h4,HTX.out] at h6
       simp at h6⟩
   ·have ahW:¬(k:Int)<=(st:Int):=by omega
    clear htx hst
    go_wp2_with (go_at_call 97;refine (yF i _).mono ?_;rw [HTX.out,HST.out];rintro e w1 ⟨rfl,rfl⟩)
    go_roundg f
    case measure=>omega
    case rel=>exact ⟨i+1,by omega,by omega,by go_num,hRr,HBR.out,fun j h1 h2=>by
     rcases Nat.lt_or_ge j i with h3|h3
     ·exact HN.out j h1 h3
     ·obtain rfl:j=i:=by omega
      rintro ⟨_,h5⟩
      rw [HST.out] at h5
      exact hge h5⟩
theorem Zm (m:List UInt8) (h:(nC m).2≠0):m≠[]/\(nC m).2<=5/\(nC m).1≠0/\qC (nC m).1=(m,(nC m).2):=by
 unfold nC at h |-
 by_cases h18:m=[124,124]
 ·subst h18;exact ⟨nofun,by decide,by decide,rfl⟩
 rw [if_neg h18] at h |-
 by_cases Em:m=[38,38]
 ·subst Em;exact ⟨nofun,by decide,by decide,rfl⟩
 rw [if_neg Em] at h |-
 by_cases h11:m=[61,61]
 ·subst h11;exact ⟨nofun,by decide,by decide,rfl⟩
 rw [if_neg h11] at h |-
 by_cases h12:m=[33,61]
 ·subst h12;exact ⟨nofun,by decide,by decide,rfl⟩
 rw [if_neg h12] at h |-
 by_cases Ei:m=[60]
 ·subst Ei;exact ⟨nofun,by decide,by decide,rfl⟩
 rw [if_neg Ei] at h |-
 by_cases Ej:m=[60,61]
 ·subst Ej;exact ⟨nofun,by decide,by decide,rfl⟩
 rw [if_neg Ej] at h |-
 by_cases El:m=[62]
 ·subst El;exact ⟨nofun,by decide,by decide,rfl⟩
 rw [if_neg El] at h |-
 by_cases h16:m=[62,61]
 ·subst h16;exact ⟨nofun,by decide,by decide,rfl⟩
 rw [if_neg h16] at h |-
 by_cases h1:m=[43]
 ·subst h1;exact ⟨nofun,by decide,by decide,rfl⟩
 rw [if_neg h1] at h |-
 by_cases h2:m=[45]
 ·subst h2;exact ⟨nofun,by decide,by decide,rfl⟩
 rw [if_neg h2] at h |-
 by_cases h3:m=[42]
 ·subst h3;exact ⟨nofun,by decide,by decide,rfl⟩
 rw [if_neg h3] at h |-
 by_cases h4:m=[47]
 ·subst h4;exact ⟨nofun,by decide,by decide,rfl⟩
 rw [if_neg h4] at h |-
 by_cases h5:m=[37]
 ·subst h5;exact ⟨nofun,by decide,by decide,rfl⟩
 rw [if_neg h5] at h
 exact absurd rfl h
theorem TK (n:Nat) (hn:n+10<=cK) (H:∀m,m<=n->qQ m):EM (n+1):=by
 intro E w s k tr s' hk1 UB h heq
 have hlt:=h.lt
 have hgt:=h.iy
 have hbL:=E.bL
 have hEL:=h.L
 have Hn:=H n (Nat.le_refl _)
 have hR0:=h
 simp only [m5] at heq
 obtain ⟨x0,s0,h1,heq⟩:=bF heq
 have nK:=af (fun W hW=>Hn.unary E W _ x0 s0 hW h1)
 have fG:=af heq
 clear h1 heq
 go_enter Tryz.func80,Tryz.ntmps80
 go_wp2_with (first
  |(go_at_call 95;(with_reducible refine (nK.out _ aB).mono ?_);rintro e w1 ⟨hg1,fB,k1,Ap,m1,p1,t1,a1,aU,A1,c1,rfl,rfl,ahX⟩;have hG1:Gr (·=E.b) w w1:=Gr.trans aJ (Gr.mono hg1 (fun _ _ e=>e));have hs1:=hg1.size;(try simp at hs1);have kW:=fB.lt;have oP:=fB.iy;have az:ag w1 w.heap.size 24 Z7:=bU hg1;have aas:ah w1 E.L (fun q=>q<=w.heap.size\/q=w1.heap.size) (.slice A1 aU.length c1) aU:=ah.mono (ah.sub (ah.or (aI.p (lo:=w.heap.size+1) (X:=fun q=>q<=w.heap.size) (ahX.mono (by simp)) (fun q hq=>.inl (by have:q<=w.heap.size:=hq;omega))) (Nat.le_refl _)) (fun q hq _=>hq)) (by omega)))
 refine nG (P:=fun W=>RS E W s0/\Gr (·=E.b) w W/\ag W w.heap.size 24 Z7/\ag W w1.heap.size 24 (N7 k1 Ap m1 (bs p1) (bs t1) a1 (.slice A1 aU.length c1))/\ah W E.L (fun q=>q<=w.heap.size\/q=w1.heap.size) (.slice A1 aU.length c1) aU/\w1.heap.size+1<=W.heap.size) ⟨aB,aJ,bz,bz,uu,(by first|(simp;done)|(simp;omega))⟩ ?_
 rintro w2 ⟨hR2,hG2,ax,qI,afc,_⟩
 go_loopg [6] n (fun gk v6 wr=>∃(kq opq mq:Int) (pq tq:List UInt8) (aq:Nat) (nu:List Tr) (Aq:Option Addr) (cq:Nat) (sx:St),RS E wr sx/\ag wr w1.heap.size 24 (N7 kq opq mq (bs pq) (bs tq) aq (.slice Aq nu.length cq))/\ag wr w.heap.size 24 Z7/\ah wr E.L (fun q=>q<=w.heap.size\/q=w1.heap.size) (.slice Aq nu.length cq) nu/\Gr (·=E.b) w wr/\gk<=n/\w2.heap.size<=wr.heap.size/\m5 gk (.Ik k (.mk kq opq mq pq tq aq nu)) sx=some (tr,s'))
 case atStart=>exact ⟨k1,Ap,m1,p1,t1,a1,aU,A1,c1,s0,hR2,qI,ax,afc,hG2,Nat.le_refl _,Nat.le_refl _,fG.out⟩
 case round=>
  obtain ⟨kq,opq,mq,pq,tq,aq,nu,Aq,cq,sx,gu,CB,dF,Wz,jk,hgn,hw2,hq⟩:=hrel
  have ahY:=CB.lt
  have dO:(fun q=>q<=w.heap.size\/q=w1.heap.size) w1.heap.size:=.inr rfl
  have cB:(fun q=>q<=w.heap.size\/q=w1.heap.size) w.heap.size:=.inl (Nat.le_refl _)
  have fT:w1.heap.size≠E.b:=by omega
  have jU:∀q,(fun q=>q<=w.heap.size\/q=w1.heap.size) q->q < wr.heap.size:=fun q hq=>hq.elim (fun e=>by omega) (fun e=>by omega)
  cases gk with
  |zero=>exact absurd hq (by simp [m5])
  |succ f=>
   obtain ⟨_,_,_,_,_,_,e3,_⟩:=gu.here
   have Hf:=H f (by omega)
   simp only [m5] at hq
   by_cases he:sx.e=0
   case neg=>
    have ez:(sx.e == 0)=false:=by simpa using he
    simp only [if_neg he,Option.some.injEq,Prod.mk.injEq] at hq
    obtain ⟨rfl,rfl⟩:=hq
    clear he
    obtain ⟨_,LX,LY,LZ,L6,L8,L9,Ma,Mc⟩:=dF.av
    obtain ⟨_,WA,WB,WC,WE,WG,WH,WI,_⟩:=CB.av
    go_wp2
    exact aX Tryz.results80 rfl rfl dS ⟨aJ,aB,kq,opq,mq,pq,tq,aq,nu,Aq,cq,rfl,rfl,(ah.up (lo:=E.L) (X:=(fun q=>q<=w.heap.size\/q=w1.heap.size)) (v:=.slice Aq nu.length cq) (ks:=nu) uu (fun q hq=>by have:¬(q<=w.heap.size\/q=w1.heap.size):=hq;omega))⟩
   simp only [if_pos he] at hq
   rw [he] at e3
   have HE:=af he
   clear he
   by_cases hs:(nC (mark sx.l)).2 < k
   ·simp only [if_pos hs,Option.some.injEq,Prod.mk.injEq] at hq
    obtain ⟨rfl,rfl⟩:=hq
    have HS:=af hs
    clear hs
    go_wp2_with (first
     |(go_at_call 96;refine (IV E _ sx aB HE.out k hk1).mono ?_;rw [if_pos HS.out];rintro e bB ⟨rfl,aV⟩;have fM:RS E bB sx:=RS.below aB aV;have gm:=gX E.b w aV;have bR:ag bB w.heap.size 24 Z7:=ag.aC bz aV;obtain ⟨_,Be,Bf,Bg,Bh,Bi,Bj,Bl,Bn⟩:=bR.av;have CE:ag bB w1.heap.size 24 (N7 kq opq mq (bs pq) (bs tq) aq (.slice Aq nu.length cq)):=ag.aC bz aV;obtain ⟨_,alh,ali,alj,alk,alm,aln,alo,_⟩:=CE.av;have CG:ah bB E.L (fun q=>q<=w.heap.size\/q=w1.heap.size) (.slice Aq nu.length cq) nu:=ah.aC nR aV))
    exact aX Tryz.results80 rfl rfl dS ⟨aJ,aB,kq,opq,mq,pq,tq,aq,nu,Aq,cq,rfl,rfl,(ah.up (lo:=E.L) (X:=(fun q=>q<=w.heap.size\/q=w1.heap.size)) (v:=.slice Aq nu.length cq) (ks:=nu) uu (fun q hq=>by have:¬(q<=w.heap.size\/q=w1.heap.size):=hq;omega))⟩
   simp only [if_neg hs] at hq
   have HS:=af hs
   obtain ⟨hm,hs5,ho0,hsz⟩:=Zm (mark sx.l) (by omega)
   obtain ⟨M,hM⟩:=aS (mark sx.l)
   rw [hM] at hm hs5 ho0 hsz hq hs
   have HM:=af hM
   obtain ⟨OP,hOP⟩:=aS (nC M).1
   obtain ⟨ST,hST⟩:=aS (nC M).2
   rw [hOP] at ho0 hsz hq
   rw [hST] at hs5 hsz hq hs
   have hop:(OP == 0)=false:=by simpa using ho0
   have am5:(ST:Int)<=5:=by omega
   obtain ⟨y1,s1,h1,hq⟩:=bF hq
   have HKE:=af (fun (W:World) (hW:RS E W (aj M sx))=>show Calls Tryz.prog 80 #[.pointer (some ⟨E.b,0,none⟩),.int .i64 ((ST:Int)+1)] W (wH E W W.heap.size y1 s1) from by have:=Hf.expr E W _ (ST+1) y1 s1 (by omega) (by omega) hW h1;simpa using this)
   have HQ:=af hq
   have HSZ:=af hsz
   have HOP:=af hOP
   clear hs hM hOP hST hsz ho0 hs5 h1 hq
   go_wp2_with (first
    |(go_at_call 96;refine (IV E _ sx aB HE.out k hk1).mono ?_;rw [if_neg HS.out,HM.out,HOP.out];rintro e bB ⟨rfl,aV⟩;have fM:RS E bB sx:=RS.below aB aV;have gm:=gX E.b w aV;have qR:=aV.size;(try simp at qR);have bR:ag bB w.heap.size 24 Z7:=ag.aC bz aV;have CE:ag bB w1.heap.size 24 (N7 kq opq mq (bs pq) (bs tq) aq (.slice Aq nu.length cq)):=ag.aC bz aV;have CG:ah bB E.L (fun q=>q<=w.heap.size\/q=w1.heap.size) (.slice Aq nu.length cq) nu:=ah.aC nR aV)
    |(go_at_call 97;refine (yF OP _).mono ?_;rw [HSZ.out];rintro e w99 ⟨rfl,rfl⟩)
    |(go_at_call 25;(with_reducible refine (aA E _ sx aB M (bs M) rfl hm).mono ?_);rintro e ek ⟨rfl,jY,dH⟩;have kK:=bP gm dH;have xQ:=dH.size;(try simp at xQ);have gT:=bR.call dH (by omega);have acw:=gT.lt;have CJ:=CE.call dH (by omega);have ahZ:=CJ.lt;have CK:=dU CG dH)
    |(go_at_call 80;(with_reducible refine (HKE.out _ aB).mono ?_);rintro e iP ⟨gz,mW,k13,F3,m13,WO,t13,WQ,xZ,WR,c13,rfl,rfl,afd⟩;have pz:=bP kK gz;have Mf:=gz.size;(try simp at Mf);have oK:=gT.call gz (by omega);have Ad:=CJ.call gz (by omega);have ah0:=Ad.lt;obtain ⟨_,alp,alq,alr,als,alu,alv,alx,aly⟩:=Ad.av;have FX:=dU CK gz;have acE:ah iP E.L (fun q=>q<=w.heap.size\/q=w1.heap.size) (.slice WR xZ.length c13) xZ:=ah.mono (aI.p (lo:=ek.heap.size) (afd.mono (by simp)) (fun q hq=>.inl (hq.elim (fun e=>by omega) (fun e=>by omega)))) (by have:=mW.L;omega)))
   have IL:∀q,(fun q=>q<=w.heap.size\/q=w1.heap.size) q->q < iP.heap.size:=fun q hq=>Nat.lt_of_lt_of_le (jU q hq) (by omega)
   obtain ⟨V,hV⟩:=aS (((((((iP.setCell ⟨w1.heap.size,0,none⟩ (.int .i64 31)).setCell ⟨w1.heap.size,1,none⟩ (.int .i64 OP)).setCell ⟨w1.heap.size,2,none⟩ (.int .i64 0)).setCell ⟨w1.heap.size,3,none⟩ (.string ⟨#[]⟩)).setCell ⟨w1.heap.size,4,none⟩ (.string ⟨#[]⟩)).setCell ⟨w1.heap.size,5,none⟩ (.int .i64 (hd sx.l).2)).setCell ⟨w1.heap.size,6,none⟩ (.slice (some ⟨iP.heap.size+1,0,none⟩) 2 2))
   have gV:Gr (fun q=>q=w1.heap.size) iP V:=hV▸(fQ (i:=0) (v0:=.int .i64 31) (v1:=.int .i64 OP) (v2:=.int .i64 0) (v3:=.string ⟨#[]⟩) (v4:=.string ⟨#[]⟩) (v5:=.int .i64 (hd sx.l).2) (v6:=.slice (some ⟨iP.heap.size+1,0,none⟩) 2 2) (Gr.refl iP) (.inr rfl))
   have zC:ag V w1.heap.size 24 (N7 31 OP 0 ⟨#[]⟩ ⟨#[]⟩ ((hd sx.l).2) (.slice (some ⟨iP.heap.size+1,0,none⟩) 2 2)):=hV▸ag.seven Ad (.int .i64 31) (.int .i64 OP) (.int .i64 0) (.string ⟨#[]⟩) (.string ⟨#[]⟩) (.int .i64 (hd sx.l).2) (.slice (some ⟨iP.heap.size+1,0,none⟩) 2 2)
   rw [hV]
   have YU:=gV.size
   have Yn:RS E V s1:=mW.gr gV (by show ¬E.b=w1.heap.size;omega) (by show ¬E.g=w1.heap.size;omega)
   have KX:Gr (·=E.b) w V:=Gr.wide pz gV (fun q hq e=>by omega)
   have BD:ag V w.heap.size 24 Z7:=oK.gr gV (by show ¬w.heap.size=w1.heap.size;omega)
   have BF:ah V E.L (fun q=>q<=w.heap.size\/q=w1.heap.size) (.slice Aq nu.length cq) nu:=FX.gr gV (fun q _ h3 _ h2=>h3 (.inr h2))
   have afe:ah V E.L (fun q=>q<=w.heap.size\/q=w1.heap.size) (.slice WR xZ.length c13) xZ:=acE.gr gV (fun q _ h3 _ h2=>h3 (.inr h2))
   have hse:iP.heap.size=V.heap.size:=by rw [<-hV];simp
   rw [hse] at zC
   have wW:=ah.QK (k:=kq) (op:=opq) (m:=mq) (p:=pq) (t:=tq) (a:=aq) (k':=k13) (op':=F3) (m':=m13) (p':=WO) (t':=t13) (a':=WQ) (BF.alloc (.cells #[.int .i64 k13,.int .i64 F3,.int .i64 m13,.string (bs WO),.string (bs t13),.int .i64 WQ,.slice WR xZ.length c13] 24)) (afe.alloc (.cells #[.int .i64 k13,.int .i64 F3,.int .i64 m13,.string (bs WO),.string (bs t13),.int .i64 WQ,.slice WR xZ.length c13] 24)) (by have:=Yn.L;simp;omega) (fun q hq=>by have:=IL q hq;simp;omega) (show V.heap.size+1=_ by simp)
   clear hV
   go_roundg f
   case measure=>omega
   case rel=>exact ⟨31,OP,0,[],[],hdp sx,[.mk kq opq mq pq tq aq nu,(Tr.mk k13 F3 m13 WO t13 WQ xZ)],_,2,s1,(Yn.alloc _).alloc _,(zC.alloc _).alloc _,(BD.alloc _).alloc _,wW,(KX.alloc _).alloc _,by omega,by simp;omega,HQ.out⟩
abbrev bS (s:St):St:=aj [116,121,112,101] s
theorem Pz (n:Nat) (hn:n+10<=cK) (H:∀m,m<=n->qQ m):CM (n+1) 51 .typed:=by
 intro E w s tr s' h heq
 have hlt:=h.lt
 have hgt:=h.iy
 have hbL:=E.bL
 have hgL:=E.gL
 have hR0:=h
 simp only [m5] at heq
 cases hif:bX [105,110,116,101,114,102,97,99,101] (aG (bS s)) with
 |true=>
  have HIF:=af hif
  simp only [hif,if_true] at heq
  obtain ⟨t2,s2,h1,heq⟩:=bF heq
  simp only [Option.some.injEq,Prod.mk.injEq] at heq
  obtain ⟨rfl,rfl⟩:=heq
  have fG:=af h1
  clear h1 hif
  go_enter Tryz.func51,Tryz.ntmps51
  go_wp2_with (first
   |(go_at_call 25;(with_reducible refine (aA E _ s aB [116,121,112,101] ⟨#[116,121,112,101]⟩ rfl).mono ?_);rintro e w1 ⟨rfl,fB,hg1⟩;have hG1:Gr (·=E.b) w w1:=Gr.trans aJ (Gr.mono hg1 (fun _ _ e=>e));have az:ag w1 w.heap.size 24 Z7:=bU hg1)
   |(go_at_call 26;(with_reducible refine (dR E _ (bS s) aB).mono ?_);rintro e w2 ⟨rfl,hR2,hg2⟩;have hG2:=bP hG1 hg2;have ou:=hR2.lt;have ql:=hR2.iy;have ax:=az.call hg2 (by omega);have jT:=ax.lt)
   |(go_at_call 27;(with_reducible refine (au E _ (aG (bS s)) aB [105,110,116,101,114,102,97,99,101] ⟨#[105,110,116,101,114,102,97,99,101]⟩ rfl).mono ?_);rintro e w3 ⟨rfl,hg3⟩;rw [HIF.out];have gZ:RS E w3 (aG (bS s)):=RS.below aB hg3;have hG3:=aL hG2 hg3;have aF:=bV ax hg3;have aM:ag w3 w2.heap.size 24 (N7 5 0 0 ⟨#[]⟩ (bs (ay (bS s))) (hdp (bS s)) (.slice none 0 0)):=ag.aC bz hg3;obtain ⟨_,yP,_,_,_,_,_,_,pg⟩:=aM.av;have uF:ag (w3.setCell ⟨w2.heap.size,0,none⟩ (.int .i64 7)) w2.heap.size 24 (N7 7 0 0 ⟨#[]⟩ (bs (ay (bS s))) (hdp (bS s)) (.slice none 0 0)):=ag.set0 aM _)
   |(go_at_call 25;(with_reducible refine (aA E _ (aG (bS s)) aB [105,110,116,101,114,102,97,99,101] ⟨#[105,110,116,101,114,102,97,99,101]⟩ rfl).mono ?_);rintro e w4 ⟨rfl,jb,hg4⟩;have hG4:=bP hG3 hg4;have aK:=aD aF hg4;have aW:=aD uF hg4)
   |(go_at_call 25;(with_reducible refine (aA E _ (aj [105,110,116,101,114,102,97,99,101] (aG (bS s))) aB [123] ⟨#[123]⟩ rfl).mono ?_);rintro e w5 ⟨rfl,jF,hg5⟩;have iw:=bP hG4 hg5;have aT:=aK.call hg5 (by omega);have aR:=aW.call hg5 (by omega);have wI:=aR.lt))
  go_loopg [28] n (fun gk _ wr=>∃(aU:List Tr) (A1:Option Addr) (c1:Nat) (sx:St),RS E wr sx/\ag wr w2.heap.size 24 (N7 7 0 0 ⟨#[]⟩ (bs (ay (bS s))) (hdp (bS s)) (.slice A1 aU.length c1))/\ag wr w.heap.size 24 Z7/\ah wr E.L (fun q=>q<=w2.heap.size) (.slice A1 aU.length c1) aU/\Gr (·=E.b) w wr/\(∀q,(Value.slice A1 aU.length c1).ownBlock=some q->w.heap.size<=q)/\aU.length+gk<=n/\gk<=n/\w2.heap.size+1<=wr.heap.size/\m5 gk (.mh (.mk 7 0 0 [] (ay (bS s)) (hdp (bS s)) aU)) sx=some (t2,s2))
  case atStart=>exact ⟨[],none,0,_,jF,aR,aT,ah.none_ _ _ _,iw,(fun q e=>by cases e),by simp,Nat.le_refl _,by omega,fG.out⟩
  case round=>
   obtain ⟨aU,A1,c1,sx,gu,dP,dF,fI,jk,gy,hlk,hgn,hw2,hq⟩:=hrel
   have jU:∀q,(fun q=>q<=w2.heap.size) q->q < wr.heap.size:=fun q hq=>by have:q<=w2.heap.size:=hq;omega
   have dO:(fun q=>q<=w2.heap.size) w2.heap.size:=Nat.le_refl _
   have cB:(fun q=>q<=w2.heap.size) w.heap.size:=by show w.heap.size<=w2.heap.size;omega
   have fT:w2.heap.size≠E.b:=by omega
   have kG:w2.heap.size≠E.g:=by omega
   have WS:=gu.L
   cases gk with
   |zero=>exact absurd hq (by simp [m5])
   |succ f=>
    obtain ⟨_,_,_,_,_,_,e3,_⟩:=gu.here
    have Hf:=H f (by omega)
    by_cases he:sx.e=0
    case neg=>
     have ez:(sx.e == 0)=false:=by simpa using he
     simp only [m5,show rH [125] sx=false from by unfold rH;rw [decide_eq_false he];rfl,Bool.false_eq_true,if_false,Option.some.injEq,Prod.mk.injEq] at hq
     obtain ⟨rfl,rfl⟩:=hq
     clear he
     go_wp2_with (first
      |(go_at_call 25;(with_reducible refine (aA E _ sx aB [125] ⟨#[125]⟩ rfl).mono ?_);rintro e bB ⟨rfl,fM,aV⟩;have gm:Gr (·=E.b) w bB:=Gr.trans aJ (Gr.mono aV (fun _ _ e=>e));have bR:ag bB w.heap.size 24 Z7:=bU aV;obtain ⟨_,Be,Bf,Bg,Bh,Bi,Bj,Bl,Bn⟩:=bR.av;have bJ:ag bB w2.heap.size 24 (N7 7 0 0 ⟨#[]⟩ (bs (ay (bS s))) (hdp (bS s)) (.slice A1 aU.length c1)):=bU aV;obtain ⟨_,EY,EZ,E5,E8,E9,Fa,xL,_⟩:=bJ.av;have bZ:ah bB E.L (fun q=>q<=w2.heap.size) (.slice A1 aU.length c1) aU:=vJ aV))
     exact aX Tryz.results51 rfl rfl dS ⟨aJ,aB,7,0,0,[],(ay (bS s)),(hdp (bS s)),aU,A1,c1,rfl,rfl,(ah.up (lo:=E.L) (X:=(fun q=>q<=w2.heap.size)) (v:=.slice A1 aU.length c1) (ks:=aU) uu (fun q hq=>by have:¬q<=w2.heap.size:=hq;omega))⟩
    rw [he] at e3
    cases hi1:bX [125] sx with
    |true=>
     have HI1:=af hi1
     simp only [m5,show rH [125] sx=false from by unfold rH;rw [hi1];simp,Bool.false_eq_true,if_false,Option.some.injEq,Prod.mk.injEq] at hq
     obtain ⟨rfl,rfl⟩:=hq
     clear hi1 he
     go_wp2_with (first
      |(go_at_call 27;(with_reducible refine (au E _ sx aB [125] ⟨#[125]⟩ rfl).mono ?_);rintro e bB ⟨rfl,aV⟩;rw [HI1.out];have fM:RS E bB sx:=RS.below aB aV;have gm:=gX E.b w aV;have bR:ag bB w.heap.size 24 Z7:=ag.aC bz aV;have bJ:ag bB w2.heap.size 24 (N7 7 0 0 ⟨#[]⟩ (bs (ay (bS s))) (hdp (bS s)) (.slice A1 aU.length c1)):=ag.aC bz aV;have bZ:ah bB E.L (fun q=>q<=w2.heap.size) (.slice A1 aU.length c1) aU:=ah.aC nR aV)
      |(go_at_call 25;(with_reducible refine (aA E _ sx aB [125] ⟨#[125]⟩ rfl).mono ?_);rintro e ek ⟨rfl,jY,dH⟩;have kK:=bP gm dH;have gT:=bR.call dH (by omega);obtain ⟨_,Iy,Iz,IA,IB,IC,IE,IG,II⟩:=gT.av;have ig:=bJ.call dH (by omega);obtain ⟨_,QW,QX,QY,QZ,Q0,Q3,IJ,_⟩:=ig.av;have jO:=dU bZ dH))
     exact aX Tryz.results51 rfl rfl dS ⟨aJ,aB,7,0,0,[],(ay (bS s)),(hdp (bS s)),aU,A1,c1,rfl,rfl,(ah.up (lo:=E.L) (X:=(fun q=>q<=w2.heap.size)) (v:=.slice A1 aU.length c1) (ks:=aU) uu (fun q hq=>by have:¬q<=w2.heap.size:=hq;omega))⟩
    |false=>
    have HI1:=af hi1
    simp only [m5,show rH [125] sx=true from by unfold rH;rw [hi1,decide_eq_true he];rfl,if_true,Tr.kd] at hq
    obtain ⟨t1,s1,h1,hq⟩:=bF hq
    have HS1:=af h1
    have HQ:=af hq
    clear hi1 he h1 hq
    go_wp2_with (first
     |(go_at_call 27;(with_reducible refine (au E _ sx aB [125] ⟨#[125]⟩ rfl).mono ?_);rintro e bB ⟨rfl,aV⟩;rw [HI1.out];have fM:RS E bB sx:=RS.below aB aV;have BG:=gX E.b wr aV;have qR:=aV.size;(try simp at qR))
     |(go_at_call 26;(with_reducible refine (dR E _ sx aB).mono ?_);rintro e ek ⟨rfl,jY,dH⟩;have BH:=bP BG dH;have xQ:=dH.size;(try simp at xQ);have VW:=jY.lt;have aav:=jY.iy;have PD:ag ek w2.heap.size 24 (N7 7 0 0 ⟨#[]⟩ (bs (ay (bS s))) (hdp (bS s)) (.slice A1 aU.length c1)):=ag.call (b:=E.b) dP BH (by omega);obtain ⟨_,aff,_⟩:=PD.av;have afg:∀q,(fun q=>q<=ek.heap.size) q->q < ek.heap.size+1:=(fun q hq=>by have:q<=ek.heap.size:=hq;omega);have PE:(fun q=>q<=ek.heap.size) ek.heap.size:=Nat.le_refl _;have hkb:ek.heap.size≠E.b:=(by omega);have hkg:ek.heap.size≠E.g:=(by omega);have Tq:=af (fun (W:World) (hW:RS E W (aG sx)) (hb:ag W ek.heap.size 24 (N7 8 0 0 ⟨#[]⟩ (bs (ay sx)) (hdp sx) (.slice none 0 0))) (hp:ah W E.L (fun q=>q<=ek.heap.size) (.slice none 0 0) ([]:List Tr)) (EG:∀q,(fun q=>q<=ek.heap.size) q->q < W.heap.size)=>show Calls Tryz.prog 81 #[.pointer (some ⟨E.b,0,none⟩),.pointer (some ⟨ek.heap.size,0,none⟩)] W (Bb E W ek.heap.size (fun q=>q<=ek.heap.size) (.slice none 0 0) (0+f+2) t1 s1) from Hf.kinds E W _ ek.heap.size (fun q=>q<=ek.heap.size) 8 0 0 [] (ay sx) (hdp sx) [] none 0 _ _ hW hb hp PE hkb hkg EG (by simp only [List.length_nil];omega) HS1.out))
     |(go_at_call 81;(with_reducible refine (Tq.out _ aB bz (ah.none_ _ _ _) (fun q hq=>Nat.lt_of_lt_of_le (afg q hq) (by first|(simp;done)|(simp;omega)|omega))).mono ?_);rintro e iP ⟨rfl,mW,gz,k13,F3,m13,WO,t13,WQ,xZ,WR,c13,rfl,uM,WT,am6,_⟩;have x8:Gr (·=E.b) wr iP:=lC aJ gz (by omega) (fun q e=>by cases e))
     |(go_at_call 25;(with_reducible refine (aA E _ s1 aB [59] ⟨#[59]⟩ rfl).mono ?_);rintro e kD ⟨rfl,pE,mD⟩;have BI:=bP x8 mD;have pJ:ag kD ek.heap.size 24 (N7 k13 F3 m13 (bs WO) (bs t13) WQ (.slice WR xZ.length c13)):=bU mD;have acF:=pJ.lt;obtain ⟨_,alz,alA,alB,alC,alD,alE,WU,_⟩:=pJ.av;have uN:ah kD E.L (fun q=>q<=ek.heap.size) (.slice WR xZ.length c13) xZ:=vJ mD;have WV:ag kD w2.heap.size 24 (N7 7 0 0 ⟨#[]⟩ (bs (ay (bS s))) (hdp (bS s)) (.slice A1 aU.length c1)):=ag.call (b:=E.b) dP BI (by omega);obtain ⟨_,_,_,_,_,_,_,alF,_⟩:=WV.av)
     |(at_builtin;refine wpList_plain rfl (fun KK hKK=>?_);have hpo:ah kD E.L (fun q=>q<=w2.heap.size) (.slice A1 aU.length c1) aU:=ah.call (b:=E.b) fI BI (by omega);have hkk:ah kD E.L (fun q=>(fun q=>q<=w2.heap.size) q\/(Value.slice A1 aU.length c1).ownBlock=some q) (.slice WR xZ.length c13) xZ:=ah.mono (aI.p (lo:=wr.heap.size) (ah.up (lo:=E.L) (X:=(fun q=>q<=ek.heap.size)) uN (fun q hq=>by have:¬q<=ek.heap.size:=hq;omega)) (fun q hq=>.inl (hq.elim (jU q) (fun e=>(fI.own e).2.1)))) (by omega);have hrow:=ah.oW (g:=kD.heap.size) (k:=k13) (op:=F3) (m:=m13) (p:=WO) (t:=t13) (a:=WQ) hkk (by omega) (fun q hq=>hq.elim (fun h=>Nat.lt_of_lt_of_le (jU q h) (by omega)) (fun e=>Nat.lt_of_lt_of_le (fI.own e).2.1 (by omega))) rfl;refine yE (lo:=E.L) (X:=(fun q=>q<=w2.heap.size)) (v:=.slice A1 aU.length c1) (dx:=aU) (w:=(kD.alloc (.cells #[.int .i64 k13,.int .i64 F3,.int .i64 m13,.string (bs WO),.string (bs t13),.int .i64 WQ,.slice WR xZ.length c13] 24))) (hpo.alloc _) (fun q hq=>Nat.lt_of_lt_of_le (jU q hq) (by simp;omega)) hrow (by omega) (by simp;omega) _ _ rfl rfl rfl ?_;intro GZ c15 jL ah1 ah2 j6;have hRq:RS E jL (aj [59] s1):=RS.gr (w:=(kD.alloc (.cells #[.int .i64 k13,.int .i64 F3,.int .i64 m13,.string (bs WO),.string (bs t13),.int .i64 WQ,.slice WR xZ.length c13] 24))) (pE.alloc _) j6 (fun e=>by have:=(fI.own e).1;omega) (fun e=>by have:=(fI.own e).1;omega);have hGw:Gr (·=E.b) w jL:=Gr.wide (w':=(kD.alloc (.cells #[.int .i64 k13,.int .i64 F3,.int .i64 m13,.string (bs WO),.string (bs t13),.int .i64 WQ,.slice WR xZ.length c13] 24))) ((jk.trans BI).alloc _) j6 (fun q hq e=>by have:=gy q e;omega);have hbn:ag jL w2.heap.size 24 (N7 7 0 0 ⟨#[]⟩ (bs (ay (bS s))) (hdp (bS s)) (.slice A1 aU.length c1)):=j6.blk (WV.alloc _) (fun e=>(fI.own e).2.2 dO);have hbz:ag jL w.heap.size 24 Z7:=j6.blk ((ag.call (b:=E.b) dF BI (by omega)).alloc _) (fun e=>(fI.own e).2.2 cB);obtain ⟨_,_,_,_,_,_,_,b_6,b_f⟩:=hbn.av;refine hKK _ _ ?_))
    obtain ⟨bN,jf⟩:=aS (aU ++ [Tr.mk k13 F3 m13 WO t13 WQ xZ])
    have hl2:bN.length=aU.length+1:=by rw [<-jf,List.length_append];rfl
    have hq:=HQ.out
    simp only [Tr.add,jf] at hq
    have Cq:=af hq
    clear hq
    go_roundg f
    case measure=>omega
    case rel=>exact ⟨bN,GZ,c15,_,RS.setCell hRq (p:=⟨w2.heap.size,6,none⟩) fT kG _,(show ag (jL.setCell ⟨w2.heap.size,6,none⟩ (.slice GZ (aU.length+1) c15)) w2.heap.size 24 #[.int .i64 7,.int .i64 0,.int .i64 0,.string ⟨#[]⟩,.string (bs (ay (bS s))),.int .i64 (hdp (bS s)),.slice GZ bN.length c15] from by rw [hl2];exact ag.jC hbn _),ag.far hbz (by show w.heap.size≠w2.heap.size;omega) _,(show ah (jL.setCell ⟨w2.heap.size,6,none⟩ (.slice GZ (aU.length+1) c15)) E.L (fun q=>q<=w2.heap.size) (.slice GZ bN.length c15) bN from by rw [hl2,<-jf];exact ah.setCell (p:=⟨w2.heap.size,6,none⟩) ah2 (.inr dO) _),Gr.setCell (p:=⟨w2.heap.size,6,none⟩) hGw (.inl (by show w.heap.size<=w2.heap.size;omega)) _,(fun q_ e=>by rw [hl2] at e;exact (ah1 q_ e).elim (gy q_) (fun h=>by simp at h;omega)),by omega,by omega,by simp;omega,Cq.out⟩
 |false=>
  have HIF:=af hif
  simp only [hif,Bool.false_eq_true,if_false] at heq
  obtain ⟨t2,s2,h1,heq⟩:=bF heq
  simp only [Option.some.injEq,Prod.mk.injEq] at heq
  obtain ⟨rfl,rfl⟩:=heq
  have fG:=af h1
  clear h1 hif
  go_enter Tryz.func51,Tryz.ntmps51
  go_wp2_with (first
   |(go_at_call 25;(with_reducible refine (aA E _ s aB [116,121,112,101] ⟨#[116,121,112,101]⟩ rfl).mono ?_);rintro e w1 ⟨rfl,fB,hg1⟩;have hG1:Gr (·=E.b) w w1:=Gr.trans aJ (Gr.mono hg1 (fun _ _ e=>e));have az:ag w1 w.heap.size 24 Z7:=bU hg1)
   |(go_at_call 26;(with_reducible refine (dR E _ (bS s) aB).mono ?_);rintro e w2 ⟨rfl,hR2,hg2⟩;have hG2:=bP hG1 hg2;have ou:=hR2.lt;have ql:=hR2.iy;have ax:=az.call hg2 (by omega);have jT:=ax.lt)
   |(go_at_call 27;(with_reducible refine (au E _ (aG (bS s)) aB [105,110,116,101,114,102,97,99,101] ⟨#[105,110,116,101,114,102,97,99,101]⟩ rfl).mono ?_);rintro e w3 ⟨rfl,hg3⟩;rw [HIF.out];have gZ:RS E w3 (aG (bS s)):=RS.below aB hg3;have hG3:=aL hG2 hg3;have aF:=bV ax hg3;have aM:ag w3 w2.heap.size 24 (N7 5 0 0 ⟨#[]⟩ (bs (ay (bS s))) (hdp (bS s)) (.slice none 0 0)):=ag.aC bz hg3)
   |(go_at_call 25;(with_reducible refine (aA E _ (aG (bS s)) aB [115,116,114,117,99,116] ⟨#[115,116,114,117,99,116]⟩ rfl).mono ?_);rintro e w4 ⟨rfl,jb,hg4⟩;have hG4:=bP hG3 hg4;have aK:=aF.call hg4 (by omega);have aW:=aM.call hg4 (by omega))
   |(go_at_call 25;(with_reducible refine (aA E _ (aj [115,116,114,117,99,116] (aG (bS s))) aB [123] ⟨#[123]⟩ rfl).mono ?_);rintro e w5 ⟨rfl,jF,hg5⟩;have iw:=bP hG4 hg5;have aT:=aK.call hg5 (by omega);have aR:=aW.call hg5 (by omega);have wI:=aR.lt))
  go_loopg [28] n (fun gk _ wr=>∃(aU:List Tr) (A1:Option Addr) (c1:Nat) (sx:St),RS E wr sx/\ag wr w2.heap.size 24 (N7 5 0 0 ⟨#[]⟩ (bs (ay (bS s))) (hdp (bS s)) (.slice A1 aU.length c1))/\ag wr w.heap.size 24 Z7/\ah wr E.L (fun q=>q<=w2.heap.size) (.slice A1 aU.length c1) aU/\Gr (·=E.b) w wr/\(∀q,(Value.slice A1 aU.length c1).ownBlock=some q->w.heap.size<=q)/\aU.length+gk<=n/\gk<=n/\w2.heap.size+1<=wr.heap.size/\m5 gk (.mh (.mk 5 0 0 [] (ay (bS s)) (hdp (bS s)) aU)) sx=some (t2,s2))
  case atStart=>exact ⟨[],none,0,_,jF,aR,aT,ah.none_ _ _ _,iw,(fun q e=>by cases e),by simp,Nat.le_refl _,by omega,fG.out⟩
  case round=>
   obtain ⟨aU,A1,c1,sx,gu,dP,dF,fI,jk,gy,hlk,hgn,hw2,hq⟩:=hrel
   have jU:∀q,(fun q=>q<=w2.heap.size) q->q < wr.heap.size:=fun q hq=>by have:q<=w2.heap.size:=hq;omega
   have dO:(fun q=>q<=w2.heap.size) w2.heap.size:=Nat.le_refl _
   have cB:(fun q=>q<=w2.heap.size) w.heap.size:=by show w.heap.size<=w2.heap.size;omega
   have fT:w2.heap.size≠E.b:=by omega
   have kG:w2.heap.size≠E.g:=by omega
   have WS:=gu.L
   cases gk with
   |zero=>exact absurd hq (by simp [m5])
   |succ f=>
    obtain ⟨_,_,_,_,_,_,e3,_⟩:=gu.here
    have Hf:=H f (by omega)
    by_cases he:sx.e=0
    case neg=>
     have ez:(sx.e == 0)=false:=by simpa using he
     simp only [m5,show rH [125] sx=false from by unfold rH;rw [decide_eq_false he];rfl,Bool.false_eq_true,if_false,Option.some.injEq,Prod.mk.injEq] at hq
     obtain ⟨rfl,rfl⟩:=hq
     clear he
     go_wp2_with (first
      |(go_at_call 25;(with_reducible refine (aA E _ sx aB [125] ⟨#[125]⟩ rfl).mono ?_);rintro e bB ⟨rfl,fM,aV⟩;have gm:Gr (·=E.b) w bB:=Gr.trans aJ (Gr.mono aV (fun _ _ e=>e));have bR:ag bB w.heap.size 24 Z7:=bU aV;obtain ⟨_,Be,Bf,Bg,Bh,Bi,Bj,Bl,Bn⟩:=bR.av;have bJ:ag bB w2.heap.size 24 (N7 5 0 0 ⟨#[]⟩ (bs (ay (bS s))) (hdp (bS s)) (.slice A1 aU.length c1)):=bU aV;obtain ⟨_,EY,EZ,E5,E8,E9,Fa,xL,_⟩:=bJ.av;have bZ:ah bB E.L (fun q=>q<=w2.heap.size) (.slice A1 aU.length c1) aU:=vJ aV))
     exact aX Tryz.results51 rfl rfl dS ⟨aJ,aB,5,0,0,[],(ay (bS s)),(hdp (bS s)),aU,A1,c1,rfl,rfl,(ah.up (lo:=E.L) (X:=(fun q=>q<=w2.heap.size)) (v:=.slice A1 aU.length c1) (ks:=aU) uu (fun q hq=>by have:¬q<=w2.heap.size:=hq;omega))⟩
    rw [he] at e3
    cases hi1:bX [125] sx with
    |true=>
     have HI1:=af hi1
     simp only [m5,show rH [125] sx=false from by unfold rH;rw [hi1];simp,Bool.false_eq_true,if_false,Option.some.injEq,Prod.mk.injEq] at hq
     obtain ⟨rfl,rfl⟩:=hq
     clear hi1 he
     go_wp2_with (first
      |(go_at_call 27;(with_reducible refine (au E _ sx aB [125] ⟨#[125]⟩ rfl).mono ?_);rintro e bB ⟨rfl,aV⟩;rw [HI1.out];have fM:RS E bB sx:=RS.below aB aV;have gm:=gX E.b w aV;have bR:ag bB w.heap.size 24 Z7:=ag.aC bz aV;have bJ:ag bB w2.heap.size 24 (N7 5 0 0 ⟨#[]⟩ (bs (ay (bS s))) (hdp (bS s)) (.slice A1 aU.length c1)):=ag.aC bz aV;have bZ:ah bB E.L (fun q=>q<=w2.heap.size) (.slice A1 aU.length c1) aU:=ah.aC nR aV)
      |(go_at_call 25;(with_reducible refine (aA E _ sx aB [125] ⟨#[125]⟩ rfl).mono ?_);rintro e ek ⟨rfl,jY,dH⟩;have kK:=bP gm dH;have gT:=bR.call dH (by omega);obtain ⟨_,Iy,Iz,IA,IB,IC,IE,IG,II⟩:=gT.av;have ig:=bJ.call dH (by omega);obtain ⟨_,QW,QX,QY,QZ,Q0,Q3,IJ,_⟩:=ig.av;have jO:=dU bZ dH))
     exact aX Tryz.results51 rfl rfl dS ⟨aJ,aB,5,0,0,[],(ay (bS s)),(hdp (bS s)),aU,A1,c1,rfl,rfl,(ah.up (lo:=E.L) (X:=(fun q=>q<=w2.heap.size)) (v:=.slice A1 aU.length c1) (ks:=aU) uu (fun q hq=>by have:¬q<=w2.heap.size:=hq;omega))⟩
    |false=>
    have HI1:=af hi1
    simp only [m5,show rH [125] sx=true from by unfold rH;rw [hi1,decide_eq_true he];rfl,if_true] at hq
    rw [if_neg (show ¬(Tr.mk 5 0 0 [] (ay (bS s)) (hdp (bS s)) aU).kd=7 from by simp [Tr.kd])] at hq
    obtain ⟨t1,s1,h1,hq⟩:=bF hq
    have HK:=af (fun W hW=>Hf.kind E W _ t1 s1 hW h1)
    have HQ:=af hq
    clear hi1 he h1 hq
    go_wp2_with (first
     |(go_at_call 27;(with_reducible refine (au E _ sx aB [125] ⟨#[125]⟩ rfl).mono ?_);rintro e bB ⟨rfl,aV⟩;rw [HI1.out];have fM:RS E bB sx:=RS.below aB aV;have BG:=gX E.b wr aV;have qR:=aV.size;(try simp at qR))
     |(go_at_call 26;(with_reducible refine (dR E _ sx aB).mono ?_);rintro e ek ⟨rfl,jY,dH⟩;have BH:=bP BG dH;have xQ:=dH.size;(try simp at xQ);have VW:=jY.lt;have aav:=jY.iy;have PD:ag ek w2.heap.size 24 (N7 5 0 0 ⟨#[]⟩ (bs (ay (bS s))) (hdp (bS s)) (.slice A1 aU.length c1)):=ag.call (b:=E.b) dP BH (by omega);obtain ⟨_,aff,_⟩:=PD.av))
    refine nG (P:=fun W=>RS E W (aG sx)/\Gr (·=E.b) wr W/\ag W ek.heap.size 24 (N7 6 0 0 ⟨#[]⟩ (bs (ay sx)) (hdp sx) (.slice none 0 0))/\ek.heap.size+1<=W.heap.size) ⟨aB,aJ,bz,(by first|(simp;done)|(simp;omega))⟩ ?_
    rintro iP ⟨mW,x8,uM,Mf⟩
    have alG:=mW.lt
    have alH:=mW.iy
    have WT:ah iP E.L (fun q=>q<=ek.heap.size) (.slice none 0 0) ([]:List Tr):=ah.none_ _ _ _
    have afh:∀q,(fun q=>q<=ek.heap.size) q->q < iP.heap.size:=fun q hq=>by have:q<=ek.heap.size:=hq;omega
    have PE:(fun q=>q<=ek.heap.size) ek.heap.size:=Nat.le_refl _
    have hkb:ek.heap.size≠E.b:=by omega
    have hkg:ek.heap.size≠E.g:=by omega
    refine eX 11 3 5 6 7 8 10 1 4 9 E.b 79 #[.pointer (some ⟨E.b,0,none⟩)] (fun _=>False) (fun W=>RS E W (aG sx)) (fun t W=>t=t1/\RS E W s1)
     WT PE afh uM E.bL (by omega) hkb mW.L (by simp [cK]) (kr E _ _ (by omega) (by omega)) mW (fun t=>bD E _ _ _ E.bL E.gL t) (fun t w u hd=>⟨hd.1,hd.2.setCell hkb hkg u⟩) (fun W hW=>(HK.out W hW).mono fun e w' h=>fH h) ?_ ?_
    ·rintro a w' c _ nL _
     exact absurd nL id
    rintro vals kD KY c14 u14 ⟨ah3,pE⟩ uN afi pJ _
    obtain rfl:=ah3.symm
    dsimp only [bG,List.take_succ_cons,List.take_zero,List.take_nil]
    have BI:Gr (·=E.b) wr kD:=lC (v:=.slice none 0 0) x8 afi (by omega) (fun q e=>by cases e)
    have Zn:ag kD ek.heap.size 24 (N7 6 0 0 ⟨#[]⟩ (bs (ay sx)) (hdp sx) (.slice KY 1 c14)):=pJ
    have Zo:ah kD E.L (fun q=>q<=ek.heap.size) (.slice KY 1 c14) [t1]:=uN
    clear pJ uN
    have pJ:=Zn
    have uN:=Zo
    go_wp2_with (first
     |(go_at_call 25;(with_reducible refine (aA E _ s1 aB [59] ⟨#[59]⟩ rfl).mono ?_);rintro e jL ⟨rfl,qV,j6⟩;have uz:=bP BI j6;have uO:=aD pJ j6;have WW:=uO.lt;obtain ⟨_,alI,alJ,alK,alL,alM,alN,Rx,_⟩:=uO.av;have PG:=dU uN j6;have WY:ag jL w2.heap.size 24 (N7 5 0 0 ⟨#[]⟩ (bs (ay (bS s))) (hdp (bS s)) (.slice A1 aU.length c1)):=ag.call (b:=E.b) dP uz (by omega);obtain ⟨_,_,_,_,_,_,_,alO,_⟩:=WY.av)
     |(at_builtin;refine wpList_plain rfl (fun KK hKK=>?_);have hpo:ah jL E.L (fun q=>q<=w2.heap.size) (.slice A1 aU.length c1) aU:=ah.call (b:=E.b) fI uz (by omega);have hkk:ah jL E.L (fun q=>(fun q=>q<=w2.heap.size) q\/(Value.slice A1 aU.length c1).ownBlock=some q) (.slice KY [t1].length c14) [t1]:=ah.mono (aI.p (lo:=wr.heap.size) (ah.up (lo:=E.L) (X:=(fun q=>q<=ek.heap.size)) PG (fun q hq=>by have:¬q<=ek.heap.size:=hq;omega)) (fun q hq=>.inl (hq.elim (jU q) (fun e=>(fI.own e).2.1)))) (by omega);have hrow:=ah.oW (g:=jL.heap.size) (k:=6) (op:=0) (m:=0) (p:=[]) (t:=(ay sx)) (a:=(hdp sx)) hkk (by omega) (fun q hq=>hq.elim (fun h=>Nat.lt_of_lt_of_le (jU q h) (by omega)) (fun e=>Nat.lt_of_lt_of_le (fI.own e).2.1 (by omega))) rfl;refine yE (lo:=E.L) (X:=(fun q=>q<=w2.heap.size)) (v:=.slice A1 aU.length c1) (dx:=aU) (w:=(jL.alloc (.cells #[.int .i64 6,.int .i64 0,.int .i64 0,.string ⟨#[]⟩,.string (bs (ay sx)),.int .i64 (hdp sx),.slice KY 1 c14] 24))) (hpo.alloc _) (fun q hq=>Nat.lt_of_lt_of_le (jU q hq) (by simp;omega)) hrow (by omega) (by simp;omega) _ _ rfl rfl rfl ?_;intro A16 c16 w16 ah4 ah5 Dz;have hRq:RS E w16 (aj [59] s1):=RS.gr (w:=(jL.alloc (.cells #[.int .i64 6,.int .i64 0,.int .i64 0,.string ⟨#[]⟩,.string (bs (ay sx)),.int .i64 (hdp sx),.slice KY 1 c14] 24))) (qV.alloc _) Dz (fun e=>by have:=(fI.own e).1;omega) (fun e=>by have:=(fI.own e).1;omega);have hGw:Gr (·=E.b) w w16:=Gr.wide (w':=(jL.alloc (.cells #[.int .i64 6,.int .i64 0,.int .i64 0,.string ⟨#[]⟩,.string (bs (ay sx)),.int .i64 (hdp sx),.slice KY 1 c14] 24))) ((jk.trans uz).alloc _) Dz (fun q hq e=>by have:=gy q e;omega);have hbn:ag w16 w2.heap.size 24 (N7 5 0 0 ⟨#[]⟩ (bs (ay (bS s))) (hdp (bS s)) (.slice A1 aU.length c1)):=Dz.blk (WY.alloc _) (fun e=>(fI.own e).2.2 dO);have hbz:ag w16 w.heap.size 24 Z7:=Dz.blk ((ag.call (b:=E.b) dF uz (by omega)).alloc _) (fun e=>(fI.own e).2.2 cB);obtain ⟨_,_,_,_,_,_,_,b_6,b_f⟩:=hbn.av;refine hKK _ _ ?_))
    obtain ⟨bN,jf⟩:=aS (aU ++ [Tr.mk 6 0 0 [] (ay sx) (hdp sx) [t1]])
    have hl2:bN.length=aU.length+1:=by rw [<-jf,List.length_append];rfl
    have hq:=HQ.out
    simp only [Tr.add,jf] at hq
    have Cq:=af hq
    clear hq
    go_roundg f
    case measure=>omega
    case rel=>exact ⟨bN,A16,c16,_,RS.setCell hRq (p:=⟨w2.heap.size,6,none⟩) fT kG _,(show ag (w16.setCell ⟨w2.heap.size,6,none⟩ (.slice A16 (aU.length+1) c16)) w2.heap.size 24 #[.int .i64 5,.int .i64 0,.int .i64 0,.string ⟨#[]⟩,.string (bs (ay (bS s))),.int .i64 (hdp (bS s)),.slice A16 bN.length c16] from by rw [hl2];exact ag.jC hbn _),ag.far hbz (by show w.heap.size≠w2.heap.size;omega) _,(show ah (w16.setCell ⟨w2.heap.size,6,none⟩ (.slice A16 (aU.length+1) c16)) E.L (fun q=>q<=w2.heap.size) (.slice A16 bN.length c16) bN from by rw [hl2,<-jf];exact ah.setCell (p:=⟨w2.heap.size,6,none⟩) ah5 (.inr dO) _),Gr.setCell (p:=⟨w2.heap.size,6,none⟩) hGw (.inl (by show w.heap.size<=w2.heap.size;omega)) _,(fun q_ e=>by rw [hl2] at e;exact (ah4 q_ e).elim (gy q_) (fun h=>by simp at h;omega)),by omega,by omega,by simp;omega,Cq.out⟩
abbrev gM (s:St):St:=aj [102,117,110,99] s
abbrev iZ (s:St):St:=aj [40] (gM s)
abbrev lD (s:St):St:=aG (iZ s)
abbrev dW (s:St):St:=aj [42] (lD s)
abbrev Km (s:St):St:=aG (dW s)
abbrev rW (s:St):St:=aj [41] (Km s)
theorem He (n:Nat) (hn:n+10<=cK) (H:∀m,m<=n->qQ m):CM (n+1) 52 .function:=by
 intro E w s tr s' h heq
 have hlt:=h.lt
 have hgt:=h.iy
 have hbL:=E.bL
 have hgL:=E.gL
 have Hn:=H n (Nat.le_refl _)
 have hR0:=h
 simp only [m5] at heq
 cases hb:bX [40] (gM s) with
 |true=>
  have HB:=af hb
  simp only [hb,if_true] at heq
  obtain ⟨nd2,s2,h1,heq⟩:=bF heq
  obtain ⟨xb,sb,h2,heq⟩:=bF heq
  simp only [Option.some.injEq,Prod.mk.injEq] at heq
  obtain ⟨rfl,rfl⟩:=heq
  simp only [tC,Ey] at h1
  have HQP:=af h1
  have HKB:=af (fun W hW=>Hn.block E W _ xb sb hW h2)
  clear hb h1 h2
  go_enter Tryz.func52,Tryz.ntmps52
  go_wp2_with (first
   |(go_at_call 25;(with_reducible refine (aA E _ s aB [102,117,110,99] ⟨#[102,117,110,99]⟩ rfl).mono ?_);rintro e w1 ⟨rfl,fB,hg1⟩;have hG1:Gr (·=E.b) w w1:=Gr.trans aJ (Gr.mono hg1 (fun _ _ e=>e));have hs1:=hg1.size;(try simp at hs1);have kW:=fB.lt;have oP:=fB.iy;have az:ag w1 w.heap.size 24 Z7:=bU hg1)
   |(go_at_call 27;(with_reducible refine (au E _ (gM s) aB [40] ⟨#[40]⟩ rfl).mono ?_);rintro e w2 ⟨rfl,hg2⟩;rw [HB.out];have hR2:RS E w2 (gM s):=RS.below aB hg2;have hG2:=aL hG1 hg2;have ax:=bV az hg2;have bq:ag w2 w1.heap.size 24 (N7 9 0 0 ⟨#[]⟩ ⟨#[]⟩ 0 (.slice none 0 0)):=ag.aC bz hg2;obtain ⟨_,YL,_,_,_,_,_,_,uE⟩:=bq.av;have PI:ag (w2.setCell ⟨w1.heap.size,0,none⟩ (.int .i64 10)) w1.heap.size 24 (N7 10 0 0 ⟨#[]⟩ ⟨#[]⟩ 0 (.slice none 0 0)):=ag.set0 bq _)
   |(go_at_call 25;(with_reducible refine (aA E _ (gM s) aB [40] ⟨#[40]⟩ rfl).mono ?_);rintro e w3 ⟨rfl,gZ,hg3⟩;have hG3:=bP hG2 hg3;have aF:=aD ax hg3;have aM:=aD PI hg3)
   |(go_at_call 26;(with_reducible refine (dR E _ (iZ s) aB).mono ?_);rintro e w4 ⟨rfl,jb,hg4⟩;have hG4:=bP hG3 hg4;have aK:=aF.call hg4 (by omega);have aW:=aM.call hg4 (by omega))
   |(go_at_call 25;(with_reducible refine (aA E _ (lD s) aB [42] ⟨#[42]⟩ rfl).mono ?_);rintro e w5 ⟨rfl,jF,hg5⟩;have iw:=bP hG4 hg5;have aT:=aK.call hg5 (by omega);have aR:=aW.call hg5 (by omega))
   |(go_at_call 26;(with_reducible refine (dR E _ (dW s) aB).mono ?_);rintro e w6 ⟨rfl,lu,dA⟩;have iX:=bP iw dA;have bn:=aT.call dA (by omega);have bE:=aR.call dA (by omega);have Df:=bE.lt))
  have dO:(fun q=>q<=w1.heap.size) w1.heap.size:=Nat.le_refl _
  have cB:(fun q=>q<=w1.heap.size) w.heap.size:=(by show w.heap.size<=w1.heap.size;omega)
  have fT:w1.heap.size≠E.b:=(by omega)
  have kG:w1.heap.size≠E.g:=(by omega)
  have DT:∀q,(fun q=>q<=w1.heap.size) q->q < w6.heap.size:=fun q hq=>by have:q<=w1.heap.size:=hq;omega
  have lH:ah w6 E.L (fun q=>q<=w1.heap.size) (.slice none 0 0) ([]:List Tr):=ah.none_ _ _ _
  obtain ⟨_,_,_,_,_,_,_,NY,_⟩:=bE.av
  refine qW (S:=fun V=>Gr (fun q=>q=E.b) w6 V) 14 (fun vals W=>vals 1=(.slice none 0 0)/\vals 12= .int .i64 (([]:List Tr):List Tr).length/\RS E W (Km s)/\Gr (·=E.b) w6 W/\∃r q:Nat,vals 11= .agg #[.int .i64 12,.int .i64 0,.int .i64 0,.string ⟨#[]⟩,.string (bs (ay (iZ s))),.int .i64 (hdp (iZ s)),.slice (some ⟨r,0,none⟩) 1 1]/\vals 13= .slice (some ⟨q,0,none⟩) 1 1/\aI W w6.heap.size (.slice (some ⟨r,0,none⟩) 1 1) [Tr.mk 14 0 0 [] [] (hdp (lD s)) [Tr.mk 13 0 0 [] (ay (dW s)) (hdp (dW s)) []]]/\aI W w6.heap.size (.slice (some ⟨q,0,none⟩) 1 1) [eU]) (by kernel_rfl) (by kernel_rfl) (Gr.refl _).drew (fun hS0=>?qY) ?hk
  case qY=>
   simp only [List.take_succ_cons,List.take_zero,List.take_nil]
   obtain ⟨w7,hV7⟩:=aS w6.drew
   rw [hV7] at hS0 |-
   have W9:Gr (fun q=>q=E.b) w6 w7:=hS0
   clear hS0
   have o5:=dJ hV7 (RS.drew lu)
   have lV:=bK hV7 (Gr.drew iX)
   have hs7:w6.heap.size+0<=w7.heap.size:=by rw [<-hV7];exact Nat.le_refl _
   have bW:=aP hV7 (ag.drew bn)
   have dm:=aP hV7 (ag.drew bE)
   have kH:=ko hV7 (ah.drew lH)
   refine aQ 0 W9 ?_
   refine jS 1 W9 ?_ (fun w' hS=>(hS.cell (p:=⟨w1.heap.size,6,none⟩) (by show w1.heap.size < _;omega) (by show ¬(w1.heap.size=E.b);first|omega|(simp;omega))).trans NY)
   refine aQ 2 W9 ?_
   refine aQ 3 W9 ?_
   refine aQ 4 W9 ?_
   refine aQ 5 W9 ?_
   refine aQ 6 W9 ?_
   refine aQ 7 W9 ?_
   refine aQ 12 W9 ?_
   refine jE (i:=8) (j:=13) (by kernel_rfl) rfl rfl rfl rfl ?_ ?_
   ·obtain ⟨w8,Kn⟩:=aS (w7.alloc (.cells #[.int .i64 13,.int .i64 0,.int .i64 0,.string ⟨#[]⟩,.string (bs (ay (dW s))),.int .i64 (hdp (dW s)),.slice none 0 0] 24))
    have tY:=dJ Kn (RS.alloc o5 _)
    have qJ:=bK Kn (Gr.alloc lV _)
    have hs8:w7.heap.size+1<=w8.heap.size:=by rw [<-Kn];simp
    have dK:=aP Kn (ag.alloc bW _)
    have dV:=aP Kn (ag.alloc dm _)
    have qy:=ko Kn (ah.alloc kH _)
    have hS8:=bK Kn (Gr.alloc W9 _)
    have Xa:aI w8 w6.heap.size (.slice (some ⟨w7.heap.size,0,none⟩) 1 1) [Tr.mk 13 0 0 [] (ay (dW s)) (hdp (dW s)) []]:=by rw [<-Kn];exact aI.lI (aI.nil _ _ 0) (by omega)
    refine aY (v:=(.slice (some ⟨w7.heap.size,0,none⟩) 1 1)) (w':=w8) (by rw [<-Kn];unfold execOp;go_simp) (And.intro hS8 ?_)
    simp only [Act.put,gA,gB,gC,gD,gE,gF]
    refine aQ 9 hS8 ?_
    refine jE (i:=10) (j:=13) (by kernel_rfl) rfl rfl rfl rfl ?_ ?_
    ·obtain ⟨w9,zA⟩:=aS (w8.alloc (.cells #[.int .i64 14,.int .i64 0,.int .i64 0,.string ⟨#[]⟩,.string ⟨#[]⟩,.int .i64 (hdp (lD s)),.slice (some ⟨w7.heap.size,0,none⟩) 1 1] 24))
     have yT:=dJ zA (RS.alloc tY _)
     have hs9:w8.heap.size+1<=w9.heap.size:=by rw [<-zA];simp
     have gH:=aP zA (ag.alloc dK _)
     have jv:=aP zA (ag.alloc dV _)
     have OX:=bK zA (Gr.alloc hS8 _)
     have afj:aI w9 w6.heap.size (.slice (some ⟨w8.heap.size,0,none⟩) 1 1) [Tr.mk 14 0 0 [] [] (hdp (lD s)) [Tr.mk 13 0 0 [] (ay (dW s)) (hdp (dW s)) []]]:=by rw [<-zA];exact aI.lI Xa (by omega)
     refine aY (v:=(.slice (some ⟨w8.heap.size,0,none⟩) 1 1)) (w':=w9) (by rw [<-zA];unfold execOp;go_simp) (And.intro OX ?_)
     simp only [Act.put,gA,gB,gC,gD,gE,gF]
     refine aQ 11 OX ?_
     refine qO 13 ?_
     obtain ⟨kF,x9⟩:=aS (w9.alloc (.cells #[.int .i64 0,.int .i64 0,.int .i64 0,.string ⟨#[]⟩,.string ⟨#[]⟩,.int .i64 0,.slice none 0 0] 24))
     have gu:=dJ x9 (RS.alloc yT _)
     have F4:aI kF w6.heap.size (.slice (some ⟨w8.heap.size,0,none⟩) 1 1) [Tr.mk 14 0 0 [] [] (hdp (lD s)) [Tr.mk 13 0 0 [] (ay (dW s)) (hdp (dW s)) []]]:=by rw [<-x9];exact aI.alloc afj _
     have Cs:=bK x9 (Gr.alloc OX _)
     have BJ:aI kF w6.heap.size (.slice (some ⟨w9.heap.size,0,none⟩) 1 1) [eU]:=by rw [<-x9];exact aI.zero _ (by omega)
     refine aY (v:=(.slice (some ⟨w9.heap.size,0,none⟩) 1 1)) (w':=kF) (by rw [<-x9];unfold execOp;go_simp) (And.intro Cs ?_)
     simp only [Act.put,gA,gB,gC,gD,gE,gF]
     refine eZ ?_
     have MF:Gr (·=E.b) w6 kF:=Cs.mono (fun q _ e=>by first|exact e|(rcases e with e|e <;> first|exact e|(exfalso;omega)))
     refine PQ.mk (fun i=>match i with|0=>.pointer (some ⟨w1.heap.size,6,none⟩)|1=>.slice none 0 0|2=>.string (bs (ay (iZ s)))|3=>.int .i64 (hdp (iZ s))|4=>.int .i64 (hdp (lD s))|5=>.string (bs (ay (dW s)))|6=>.int .i64 (hdp (dW s))|7=>.agg #[.int .i64 13,.int .i64 0,.int .i64 0,.string ⟨#[]⟩,.string (bs (ay (dW s))),.int .i64 (hdp (dW s)),.slice none 0 0]|8=>.slice (some ⟨w7.heap.size,0,none⟩) 1 1|9=>.agg #[.int .i64 14,.int .i64 0,.int .i64 0,.string ⟨#[]⟩,.string ⟨#[]⟩,.int .i64 (hdp (lD s)),.slice (some ⟨w7.heap.size,0,none⟩) 1 1]|10=>.slice (some ⟨w8.heap.size,0,none⟩) 1 1|11=>.agg #[.int .i64 12,.int .i64 0,.int .i64 0,.string ⟨#[]⟩,.string (bs (ay (iZ s))),.int .i64 (hdp (iZ s)),.slice (some ⟨w8.heap.size,0,none⟩) 1 1]|12=>.int .i64 (([]:List Tr):List Tr).length|13=>.slice (some ⟨w9.heap.size,0,none⟩) 1 1|_=>undef) (by kernel_rfl) ?_
     exact ⟨rfl,rfl,gu,MF,_,_,rfl,rfl,F4,BJ⟩
    ·obtain ⟨w9,zA⟩:=aS (w8.alloc (.cells #[.int .i64 0,.int .i64 0,.int .i64 0,.string ⟨#[]⟩,.string ⟨#[]⟩,.int .i64 0,.slice none 0 0] 24))
     have yT:=dJ zA (RS.alloc tY _)
     have hs9:w8.heap.size+1<=w9.heap.size:=by rw [<-zA];simp
     have gH:=aP zA (ag.alloc dK _)
     have jv:=aP zA (ag.alloc dV _)
     have PK:aI w9 w6.heap.size (.slice (some ⟨w7.heap.size,0,none⟩) 1 1) [Tr.mk 13 0 0 [] (ay (dW s)) (hdp (dW s)) []]:=by rw [<-zA];exact aI.alloc Xa _
     have OX:=bK zA (Gr.alloc hS8 _)
     have PL:aI w9 w6.heap.size (.slice (some ⟨w8.heap.size,0,none⟩) 1 1) [eU]:=by rw [<-zA];exact aI.zero _ (by omega)
     refine aY (v:=(.slice (some ⟨w8.heap.size,0,none⟩) 1 1)) (w':=w9) (by rw [<-zA];unfold execOp;go_simp) (And.intro OX ?_)
     simp only [Act.put,gA,gB,gC,gD,gE,gF]
     refine qO 10 ?_
     obtain ⟨kF,x9⟩:=aS (w9.alloc (.cells #[.int .i64 14,.int .i64 0,.int .i64 0,.string ⟨#[]⟩,.string ⟨#[]⟩,.int .i64 (hdp (lD s)),.slice (some ⟨w7.heap.size,0,none⟩) 1 1] 24))
     have gu:=dJ x9 (RS.alloc yT _)
     have BJ:aI kF w6.heap.size (.slice (some ⟨w8.heap.size,0,none⟩) 1 1) [eU]:=by rw [<-x9];exact aI.alloc PL _
     have Cs:=bK x9 (Gr.alloc OX _)
     have F4:aI kF w6.heap.size (.slice (some ⟨w9.heap.size,0,none⟩) 1 1) [Tr.mk 14 0 0 [] [] (hdp (lD s)) [Tr.mk 13 0 0 [] (ay (dW s)) (hdp (dW s)) []]]:=by rw [<-x9];exact aI.lI PK (by omega)
     refine aY (v:=(.slice (some ⟨w9.heap.size,0,none⟩) 1 1)) (w':=kF) (by rw [<-x9];unfold execOp;go_simp) (And.intro Cs ?_)
     simp only [Act.put,gA,gB,gC,gD,gE,gF]
     refine aQ 11 Cs ?_
     refine eZ ?_
     have MF:Gr (·=E.b) w6 kF:=Cs.mono (fun q _ e=>by first|exact e|(rcases e with e|e <;> first|exact e|(exfalso;omega)))
     refine PQ.mk (fun i=>match i with|0=>.pointer (some ⟨w1.heap.size,6,none⟩)|1=>.slice none 0 0|2=>.string (bs (ay (iZ s)))|3=>.int .i64 (hdp (iZ s))|4=>.int .i64 (hdp (lD s))|5=>.string (bs (ay (dW s)))|6=>.int .i64 (hdp (dW s))|7=>.agg #[.int .i64 13,.int .i64 0,.int .i64 0,.string ⟨#[]⟩,.string (bs (ay (dW s))),.int .i64 (hdp (dW s)),.slice none 0 0]|8=>.slice (some ⟨w7.heap.size,0,none⟩) 1 1|9=>.agg #[.int .i64 14,.int .i64 0,.int .i64 0,.string ⟨#[]⟩,.string ⟨#[]⟩,.int .i64 (hdp (lD s)),.slice (some ⟨w7.heap.size,0,none⟩) 1 1]|10=>.slice (some ⟨w9.heap.size,0,none⟩) 1 1|11=>.agg #[.int .i64 12,.int .i64 0,.int .i64 0,.string ⟨#[]⟩,.string (bs (ay (iZ s))),.int .i64 (hdp (iZ s)),.slice (some ⟨w9.heap.size,0,none⟩) 1 1]|12=>.int .i64 (([]:List Tr):List Tr).length|13=>.slice (some ⟨w8.heap.size,0,none⟩) 1 1|_=>undef) (by kernel_rfl) ?_
     exact ⟨rfl,rfl,gu,MF,_,_,rfl,rfl,F4,BJ⟩
   ·obtain ⟨w8,Kn⟩:=aS (w7.alloc (.cells #[.int .i64 0,.int .i64 0,.int .i64 0,.string ⟨#[]⟩,.string ⟨#[]⟩,.int .i64 0,.slice none 0 0] 24))
    have tY:=dJ Kn (RS.alloc o5 _)
    have qJ:=bK Kn (Gr.alloc lV _)
    have hs8:w7.heap.size+1<=w8.heap.size:=by rw [<-Kn];simp
    have dK:=aP Kn (ag.alloc bW _)
    have dV:=aP Kn (ag.alloc dm _)
    have qy:=ko Kn (ah.alloc kH _)
    have hS8:=bK Kn (Gr.alloc W9 _)
    have acG:aI w8 w6.heap.size (.slice (some ⟨w7.heap.size,0,none⟩) 1 1) [eU]:=by rw [<-Kn];exact aI.zero _ (by omega)
    refine aY (v:=(.slice (some ⟨w7.heap.size,0,none⟩) 1 1)) (w':=w8) (by rw [<-Kn];unfold execOp;go_simp) (And.intro hS8 ?_)
    simp only [Act.put,gA,gB,gC,gD,gE,gF]
    refine qO 8 ?_
    obtain ⟨w9,zA⟩:=aS (w8.alloc (.cells #[.int .i64 13,.int .i64 0,.int .i64 0,.string ⟨#[]⟩,.string (bs (ay (dW s))),.int .i64 (hdp (dW s)),.slice none 0 0] 24))
    have yT:=dJ zA (RS.alloc tY _)
    have hs9:w8.heap.size+1<=w9.heap.size:=by rw [<-zA];simp
    have gH:=aP zA (ag.alloc dK _)
    have jv:=aP zA (ag.alloc dV _)
    have PL:aI w9 w6.heap.size (.slice (some ⟨w7.heap.size,0,none⟩) 1 1) [eU]:=by rw [<-zA];exact aI.alloc acG _
    have OX:=bK zA (Gr.alloc hS8 _)
    have PK:aI w9 w6.heap.size (.slice (some ⟨w8.heap.size,0,none⟩) 1 1) [Tr.mk 13 0 0 [] (ay (dW s)) (hdp (dW s)) []]:=by rw [<-zA];exact aI.lI (aI.nil _ _ 0) (by omega)
    refine aY (v:=(.slice (some ⟨w8.heap.size,0,none⟩) 1 1)) (w':=w9) (by rw [<-zA];unfold execOp;go_simp) (And.intro OX ?_)
    simp only [Act.put,gA,gB,gC,gD,gE,gF]
    refine aQ 9 OX ?_
    refine qO 10 ?_
    obtain ⟨kF,x9⟩:=aS (w9.alloc (.cells #[.int .i64 14,.int .i64 0,.int .i64 0,.string ⟨#[]⟩,.string ⟨#[]⟩,.int .i64 (hdp (lD s)),.slice (some ⟨w8.heap.size,0,none⟩) 1 1] 24))
    have gu:=dJ x9 (RS.alloc yT _)
    have BJ:aI kF w6.heap.size (.slice (some ⟨w7.heap.size,0,none⟩) 1 1) [eU]:=by rw [<-x9];exact aI.alloc PL _
    have Cs:=bK x9 (Gr.alloc OX _)
    have F4:aI kF w6.heap.size (.slice (some ⟨w9.heap.size,0,none⟩) 1 1) [Tr.mk 14 0 0 [] [] (hdp (lD s)) [Tr.mk 13 0 0 [] (ay (dW s)) (hdp (dW s)) []]]:=by rw [<-x9];exact aI.lI PK (by omega)
    refine aY (v:=(.slice (some ⟨w9.heap.size,0,none⟩) 1 1)) (w':=kF) (by rw [<-x9];unfold execOp;go_simp) (And.intro Cs ?_)
    simp only [Act.put,gA,gB,gC,gD,gE,gF]
    refine aQ 11 Cs ?_
    refine eZ ?_
    have MF:Gr (·=E.b) w6 kF:=Cs.mono (fun q _ e=>by first|exact e|(rcases e with e|e <;> first|exact e|(exfalso;omega)))
    refine PQ.mk (fun i=>match i with|0=>.pointer (some ⟨w1.heap.size,6,none⟩)|1=>.slice none 0 0|2=>.string (bs (ay (iZ s)))|3=>.int .i64 (hdp (iZ s))|4=>.int .i64 (hdp (lD s))|5=>.string (bs (ay (dW s)))|6=>.int .i64 (hdp (dW s))|7=>.agg #[.int .i64 13,.int .i64 0,.int .i64 0,.string ⟨#[]⟩,.string (bs (ay (dW s))),.int .i64 (hdp (dW s)),.slice none 0 0]|8=>.slice (some ⟨w8.heap.size,0,none⟩) 1 1|9=>.agg #[.int .i64 14,.int .i64 0,.int .i64 0,.string ⟨#[]⟩,.string ⟨#[]⟩,.int .i64 (hdp (lD s)),.slice (some ⟨w8.heap.size,0,none⟩) 1 1]|10=>.slice (some ⟨w9.heap.size,0,none⟩) 1 1|11=>.agg #[.int .i64 12,.int .i64 0,.int .i64 0,.string ⟨#[]⟩,.string (bs (ay (iZ s))),.int .i64 (hdp (iZ s)),.slice (some ⟨w9.heap.size,0,none⟩) 1 1]|12=>.int .i64 (([]:List Tr):List Tr).length|13=>.slice (some ⟨w7.heap.size,0,none⟩) 1 1|_=>undef) (by kernel_rfl) ?_
    exact ⟨rfl,rfl,gu,MF,_,_,rfl,rfl,F4,BJ⟩
  case hk=>
  rintro vals w56 ⟨ev1,afk,ah6,MG,r56,q56,V4,afl,aaE,aaF⟩
  show wpAnyH _ _ _ _ _ 5 _ _ _
  dsimp only [bG,List.take_succ_cons,List.take_zero,List.take_nil]
  simp only [Act.put,gA,gB,gC,gD,gE,gF]
  rw [ev1,afk,V4,afl]
  have afm:=MG.size
  have MH:ah w56 E.L (fun q=>q<=w1.heap.size) (.slice none 0 0) ([]:List Tr):=lH.gr MG (fun q _ _ _ h2=>by have:=E.bL;omega)
  have aaG:ag w56 w1.heap.size 24 (N7 10 0 0 ⟨#[]⟩ ⟨#[]⟩ 0 (.slice none 0 0)):=MG.blk bE (by show ¬w1.heap.size=E.b;omega)
  refine oI 14 rfl (sS (N:=w6.heap.size) (h:=w1.heap.size) (k:=12) (op:=0) (m:=0) (p:=[]) (t:=(ay (iZ s))) (at_:=(hdp (iZ s))) (us:=[Tr.mk 14 0 0 [] [] (hdp (lD s)) [Tr.mk 13 0 0 [] (ay (dW s)) (hdp (dW s)) []]]) MH dO DT (fun q hq=>(lH.own hq).2.1) aaF aaE (by have:=lu.L;omega) afm (by simp [cK]) _ _ rfl rfl rfl ?_)
  intro MI TL w58 Ry aaH Rz Xb aaI aaJ afn
  refine And.intro trivial ?_
  simp only [Act.put,gA,gB,gC,gD,gE,gF]
  refine Jl 15 (.pointer (some ⟨MI,(([]:List Tr):List Tr).length*7,none⟩)) trivial ?_ (he:=fun w' _=>Ii _ _ _ _ _ _ _ MI ((([]:List Tr):List Tr).length+1) TL (([]:List Tr):List Tr).length _ rfl rfl (by omega))
  simp only [Act.put,gA,gB,gC,gD,gE,gF]
  refine Jl 17 (.pointer (some ⟨w1.heap.size,6,none⟩)) trivial ?_
  simp only [Act.put,gA,gB,gC,gD,gE,gF]
  have aaK:ag w58 w1.heap.size 24 (N7 10 0 0 ⟨#[]⟩ ⟨#[]⟩ 0 (.slice none 0 0)):=Rz.blk aaG (fun e=>MH.1 _ e dO)
  refine rJ 16 18 E.b w1.heap.size E.L MI TL 1 45 ((hdp (iZ s))) (by kernel_rfl) (by kernel_rfl) (by kernel_rfl) (by kernel_rfl) (by kernel_rfl) ⟨_,_,_,rfl⟩ ⟨_,_,_,rfl⟩ rfl rfl rfl rfl Ry aaH dO aaI aaJ aaK ?_
  intro w57 Ko Xc Kq
  simp only [Act.put,gA,gB,gC,gD,gE,gF]
  have aaL:Gr (fun q=>q=E.b\/q=w1.heap.size\/(Value.slice none 0 0).ownBlock=some q) w6 w57:=((MG.mono (fun q _ e=>.inl e)).trans (Rz.mono (fun q _ e=>.inr (.inr e)))).wide Xc (fun q hq e=>e.elim (fun e=>by subst e;exact Xb.elim (fun h=>.inr (.inr h)) (fun h=>by have:=MG.size;omega)) (fun e=>.inr (.inl e)))
  have MJ:∀q,(Value.slice (some ⟨MI,0,none⟩) ((([]:List Tr):List Tr).length+1) TL).ownBlock=some q->(Value.slice none 0 0).ownBlock=some q\/w6.heap.size<=q:=fun q hq=>by
   have e:MI=q:=Option.some.inj hq
   subst e
   exact Xb.imp id (fun h=>by omega)
  have am7:RS E w57 (Km s):=(ah6.gr Rz (fun e=>(by have:=(MH.own e).1;have:=E.bL;omega)) (fun e=>(by have:=(MH.own e).1;have:=E.gL;omega))).gr Xc (fun e=>e.elim (fun e=>by have h9:=(Ry.own (g:=MI) rfl).1;have:=E.bL;omega) (fun e=>fT e.symm)) (fun e=>e.elim (fun e=>by have h9:=(Ry.own (g:=MI) rfl).1;have:=E.gL;omega) (fun e=>kG e.symm))
  clear Ry aaH Rz Xb aaI aaJ afn aaK aaG MH aaF aaE ev1 afk V4 afl Xc
  have acH:ag w57 w.heap.size 24 Z7:=aaL.blk bn (fun e=>e.elim (fun e=>by omega) (fun e=>e.elim (fun e=>by omega) (fun e=>by cases e)))
  have ah7:Gr (·=E.b) w w57:=lC (v:=.slice none 0 0) iX aaL (by omega) (fun q e=>by cases e)
  have RA:ag w57 w1.heap.size 24 (N7 10 0 0 ⟨#[]⟩ ⟨#[]⟩ 0 (.slice (some ⟨MI,0,none⟩) 1 TL)):=Kq
  have RB:ah w57 E.L (fun q=>q<=w1.heap.size) (.slice (some ⟨MI,0,none⟩) 1 TL) [Tr.mk 12 0 0 [] (ay (iZ s)) (hdp (iZ s)) [Tr.mk 14 0 0 [] [] (hdp (lD s)) [Tr.mk 13 0 0 [] (ay (dW s)) (hdp (dW s)) []]]]:=Ko
  have Xd:∀q,(Value.slice (some ⟨MI,0,none⟩) 1 TL).ownBlock=some q->w.heap.size<=q:=fun q e=>(MJ q e).elim (fun e=>by cases e) (fun h=>by omega)
  clear Kq Ko MJ
  have Kq:=RA
  have Ko:=RB
  have MJ:=Xd
  clear RA RB Xd
  go_wp2_with (first
   |(go_at_call 25;(with_reducible refine (aA E _ (Km s) aB [41] ⟨#[41]⟩ rfl).mono ?_);rintro e w58 ⟨rfl,am8,Zp⟩;have ah8:=bP ah7 Zp;have acI:=aD acH Zp;have acJ:=aD Kq Zp;have acK:=dU Ko Zp)
   |(go_at_call 26;(with_reducible refine (dR E _ (rW s) aB).mono ?_);rintro e w59 ⟨rfl,am9,Zq⟩;have ana:=bP ah8 Zq;have ah9:=acI.call Zq (by omega);have PN:=acJ.call Zq (by omega);have aia:=PN.lt;obtain ⟨_,alP,_,_,_,alQ,alR,_,alS⟩:=PN.av;have Xe:=dU acK Zq;have agE:ag ((w59.setCell ⟨w1.heap.size,4,none⟩ (.string (bs (ay (rW s))))).setCell ⟨w1.heap.size,5,none⟩ (.int .i64 (hdp (rW s)))) w1.heap.size 24 #[.int .i64 10,.int .i64 0,.int .i64 0,.string ⟨#[]⟩,.string (bs (ay (rW s))),.int .i64 (hdp (rW s)),.slice (some ⟨MI,0,none⟩) 1 TL]:=ag.YH (ag.GH PN _) _;have afo:∀q,(fun q=>q<=w1.heap.size) q->q < w59.heap.size:=(fun q hq=>by have:q<=w1.heap.size:=hq;omega);have Zr:ah ((w59.setCell ⟨w1.heap.size,4,none⟩ (.string (bs (ay (rW s))))).setCell ⟨w1.heap.size,5,none⟩ (.int .i64 (hdp (rW s)))) E.L (fun q=>q<=w1.heap.size) (.slice (some ⟨MI,0,none⟩) 1 TL) [Tr.mk 12 0 0 [] (ay (iZ s)) (hdp (iZ s)) [Tr.mk 14 0 0 [] [] (hdp (lD s)) [Tr.mk 13 0 0 [] (ay (dW s)) (hdp (dW s)) []]]]:=ah.setCell (p:=⟨w1.heap.size,5,none⟩) (ah.setCell (p:=⟨w1.heap.size,4,none⟩) Xe (.inr dO) _) (.inr dO) _;have HKP:=af (fun (W:World) (hW:RS E W (aG (rW s))) (hb:ag W w1.heap.size 24 (N7 10 0 0 ⟨#[]⟩ (bs (ay (rW s))) (hdp (rW s)) (.slice (some ⟨MI,0,none⟩) 1 TL))) (hp:ah W E.L (fun q=>q<=w1.heap.size) (.slice (some ⟨MI,0,none⟩) 1 TL) [Tr.mk 12 0 0 [] (ay (iZ s)) (hdp (iZ s)) [Tr.mk 14 0 0 [] [] (hdp (lD s)) [Tr.mk 13 0 0 [] (ay (dW s)) (hdp (dW s)) []]]]) (EG:∀q,(fun q=>q<=w1.heap.size) q->q < W.heap.size)=>show Calls Tryz.prog 83 #[.pointer (some ⟨E.b,0,none⟩),.pointer (some ⟨w1.heap.size,0,none⟩)] W (Bb E W w1.heap.size (fun q=>q<=w1.heap.size) (.slice (some ⟨MI,0,none⟩) 1 TL) (1+n+2) nd2 s2) from Hn.params E W _ w1.heap.size (fun q=>q<=w1.heap.size) 10 0 0 [] (ay (rW s)) (hdp (rW s)) [Tr.mk 12 0 0 [] (ay (iZ s)) (hdp (iZ s)) [Tr.mk 14 0 0 [] [] (hdp (lD s)) [Tr.mk 13 0 0 [] (ay (dW s)) (hdp (dW s)) []]]] (some ⟨MI,0,none⟩) TL _ _ hW hb hp dO fT kG EG (by simp only [List.length_singleton];omega) HQP.out);have afp:∀q,(Value.slice (some ⟨MI,0,none⟩) 1 TL).ownBlock=some q->¬(fun q=>q<=w1.heap.size) q:=(fun q e=>(Xe.own e).2.2))
   |(go_at_call 83;(with_reducible refine (HKP.out _ aB bz Zr (fun q hq=>Nat.lt_of_lt_of_le (afo q hq) (by first|(simp;done)|(simp;omega)|omega))).mono ?_);rintro e w60 ⟨rfl,Mx,afq,k60,aib,m60,p60,t60,a60,Zt,A60,c60,rfl,FR,Cz,aic,aid⟩;have Wx:Gr (·=E.b) w w60:=lC aJ afq (by omega) MJ;have alT:=Mx.lt;have alU:=Mx.iy;have acz:=FR.lt;have afr:∀q,(Value.slice A60 Zt.length c60).ownBlock=some q->w.heap.size<=q:=(fun q hq=>(aic q hq).elim (MJ q) (fun h=>by first|omega|(simp at h;omega)));have FQ:ag w60 w.heap.size 24 Z7:=afq.blk bz (fun e=>e.elim (fun e=>by omega) (fun e=>e.elim (fun e=>by omega) (fun e=>afp _ e cB)))))
  have afs:∀q,(fun q=>q<=w1.heap.size) q->q < w60.heap.size:=fun q hq=>by have:q<=w1.heap.size:=hq;omega
  refine eX 11 3 5 6 7 8 10 1 4 9 E.b 84 #[.pointer (some ⟨E.b,0,none⟩)] (fun _=>False) (fun W=>RS E W s2) (fun t W=>t=xb/\RS E W sb)
   Cz dO afs FR E.bL (by omega) fT Mx.L (by have:=aid;omega) (kr E _ _ (by omega) (by omega)) Mx (fun t=>bD E _ _ _ E.bL E.gL t) (fun t w u hd=>⟨hd.1,hd.2.setCell fT kG u⟩) (fun W hW=>(HKB.out W hW).mono fun e w' h=>fH h) ?_ ?_
  ·rintro a w' c _ nL _
   exact absurd nL id
  rintro vals xm A61 c61 u61 ⟨aie,G9⟩ uL aaM pI afu
  obtain rfl:=aie.symm
  dsimp only [bG,List.take_succ_cons,List.take_zero,List.take_nil]
  have q9:ag xm w.heap.size 24 Z7:=aaM.blk FQ (fun e=>e.elim (fun e=>by omega) (fun e=>e.elim (fun e=>by omega) (fun e=>Cz.1 _ e cB)))
  have FT:Gr (·=E.b) w xm:=lC (v:=.slice A60 Zt.length c60) Wx aaM (by omega) afr
  obtain ⟨kb,hkb⟩:=aS (Zt ++ [xb])
  have eF:kb.length=Zt.length+1:=by rw [<-hkb,List.length_append];rfl
  rw [hkb,<-eF] at uL
  rw [<-eF] at pI
  have nZ:=af hkb
  clear eF hkb afu
  obtain ⟨_,aap,aeG,aeH,aeI,aeJ,aeK,aeL,_⟩:=pI.av
  obtain ⟨_,aey,aez,aeA,aeB,aeC,aeD,aeE,aeF⟩:=q9.av
  go_wp2
  exact aX Tryz.results52 rfl rfl dS ⟨aJ,aB,k60,aib,m60,p60,t60,a60,kb,A61,c61,(by rw [<-nZ.out];rfl),rfl,(ah.up (lo:=E.L) (X:=(fun q=>q<=w1.heap.size)) (v:=.slice A61 kb.length c61) (ks:=kb) uu (fun q hq=>by have:¬q<=w1.heap.size:=hq;omega))⟩
 |false=>
 have HB:=af hb
 simp only [hb,Bool.false_eq_true,if_false] at heq
 clear hb
 cases ht:bX [91] (aG (gM s)) with
 |true=>
  have HT:=af ht
  simp only [ht,if_true] at heq
  obtain ⟨nd1,s1,h0,heq⟩:=bF heq
  obtain ⟨nd2,s2,h1,heq⟩:=bF heq
  obtain ⟨xb,sb,h2,heq⟩:=bF heq
  simp only [Option.some.injEq,Prod.mk.injEq] at heq
  obtain ⟨rfl,rfl⟩:=heq
  have HQT:=af h0
  have HQP:=af h1
  have HKB:=af (fun W hW=>Hn.block E W _ xb sb hW h2)
  clear ht h0 h1 h2
  go_enter Tryz.func52,Tryz.ntmps52
  go_wp2_with (first
   |(go_at_call 25;(with_reducible refine (aA E _ s aB [102,117,110,99] ⟨#[102,117,110,99]⟩ rfl).mono ?_);rintro e w1 ⟨rfl,fB,hg1⟩;have hG1:Gr (·=E.b) w w1:=Gr.trans aJ (Gr.mono hg1 (fun _ _ e=>e));have hs1:=hg1.size;(try simp at hs1);have kW:=fB.lt;have oP:=fB.iy;have az:ag w1 w.heap.size 24 Z7:=bU hg1)
   |(go_at_call 27;(with_reducible refine (au E _ (gM s) aB [40] ⟨#[40]⟩ rfl).mono ?_);rintro e w2 ⟨rfl,hg2⟩;rw [HB.out];have hR2:RS E w2 (gM s):=RS.below aB hg2;have hG2:=aL hG1 hg2;have ax:=bV az hg2;have bq:ag w2 w1.heap.size 24 (N7 9 0 0 ⟨#[]⟩ ⟨#[]⟩ 0 (.slice none 0 0)):=ag.aC bz hg2)
   |(go_at_call 26;(with_reducible refine (dR E _ (gM s) aB).mono ?_);rintro e w3 ⟨rfl,gZ,hg3⟩;have hG3:=bP hG2 hg3;have aF:=ax.call hg3 (by omega);have aM:=bq.call hg3 (by omega);obtain ⟨_,yP,_,_,_,GL,GM,_,pg⟩:=aM.av;have uF:ag ((w3.setCell ⟨w1.heap.size,4,none⟩ (.string (bs (ay (gM s))))).setCell ⟨w1.heap.size,5,none⟩ (.int .i64 (hdp (gM s)))) w1.heap.size 24 #[.int .i64 9,.int .i64 0,.int .i64 0,.string ⟨#[]⟩,.string (bs (ay (gM s))),.int .i64 (hdp (gM s)),.slice none 0 0]:=ag.YH (ag.GH aM _) _)
   |(go_at_call 27;(with_reducible refine (au E _ (aG (gM s)) aB [91] ⟨#[91]⟩ rfl).mono ?_);rintro e w4 ⟨rfl,hg4⟩;rw [HT.out];have jb:RS E w4 (aG (gM s)):=RS.below aB hg4;have hG4:=aL hG3 hg4;have aK:=bV aF hg4;have aW:=bV uF hg4;have Q4:=aW.lt;have dO:(fun q=>q<=w1.heap.size) w1.heap.size:=Nat.le_refl _;have cB:(fun q=>q<=w1.heap.size) w.heap.size:=(by show w.heap.size<=w1.heap.size;omega);have fT:w1.heap.size≠E.b:=(by omega);have kG:w1.heap.size≠E.g:=(by omega);have Fu:∀q,(fun q=>q<=w1.heap.size) q->q < w4.heap.size:=(fun q hq=>by have:q<=w1.heap.size:=hq;omega);have HKT:=af (fun (W:World) (hW:RS E W (aG (gM s))) (hb:ag W w1.heap.size 24 (N7 9 0 0 ⟨#[]⟩ (bs (ay (gM s))) (hdp (gM s)) (.slice none 0 0))) (hp:ah W E.L (fun q=>q<=w1.heap.size) (.slice none 0 0) ([]:List Tr)) (EG:∀q,(fun q=>q<=w1.heap.size) q->q < W.heap.size)=>show Calls Tryz.prog 82 #[.pointer (some ⟨E.b,0,none⟩),.pointer (some ⟨w1.heap.size,0,none⟩)] W (Bb E W w1.heap.size (fun q=>q<=w1.heap.size) (.slice none 0 0) (0+n+2) nd1 s1) from Hn.uW E W _ w1.heap.size (fun q=>q<=w1.heap.size) 9 0 0 [] (ay (gM s)) (hdp (gM s)) ([]:List Tr) none 0 _ _ hW hb hp dO fT kG EG (by simp only [List.length_nil];omega) HQT.out))
   |(go_at_call 82;(with_reducible refine (HKT.out _ aB bz (ah.none_ _ _ _) (fun q hq=>Nat.lt_of_lt_of_le (Fu q hq) (by first|(simp;done)|(simp;omega)|omega))).mono ?_);rintro e w5 ⟨rfl,jF,hg5,k5,Dx,m5,p5,t5,a5,tX,A5,c5,rfl,aR,jg,ho5,YV⟩;have iw:Gr (·=E.b) w w5:=lC aJ hg5 (by omega) (fun q e=>by cases e);have wI:=aR.lt;have DU:∀q,(Value.slice A5 tX.length c5).ownBlock=some q->w.heap.size<=q:=(fun q hq=>(ho5 q hq).elim ((fun q e=>by cases e) q) (fun h=>by first|omega|(simp at h;omega)));have aT:ag w5 w.heap.size 24 Z7:=hg5.blk bz (fun e=>e.elim (fun e=>by omega) (fun e=>e.elim (fun e=>by omega) (fun e=>(by cases e))));have OE:∀q,(fun q=>q<=w1.heap.size) q->q < w5.heap.size:=(fun q hq=>by have:q<=w1.heap.size:=hq;omega);have HKP:=af (fun (W:World) (hW:RS E W s1) (hb:ag W w1.heap.size 24 (N7 k5 Dx m5 (bs p5) (bs t5) a5 (.slice A5 tX.length c5))) (hp:ah W E.L (fun q=>q<=w1.heap.size) (.slice A5 tX.length c5) tX) (EG:∀q,(fun q=>q<=w1.heap.size) q->q < W.heap.size)=>show Calls Tryz.prog 83 #[.pointer (some ⟨E.b,0,none⟩),.pointer (some ⟨w1.heap.size,0,none⟩)] W (Bb E W w1.heap.size (fun q=>q<=w1.heap.size) (.slice A5 tX.length c5) (tX.length+n+2) nd2 s2) from Hn.params E W _ w1.heap.size (fun q=>q<=w1.heap.size) k5 Dx m5 p5 t5 a5 tX A5 c5 _ _ hW hb hp dO fT kG EG (by have:=YV;omega) HQP.out))
   |(go_at_call 83;(with_reducible refine (HKP.out _ aB bz jg (fun q hq=>Nat.lt_of_lt_of_le (OE q hq) (by first|(simp;done)|(simp;omega)|omega))).mono ?_);rintro e w6 ⟨rfl,lu,dA,k6,op6,m6,p6,t6,a6,Nv,A6,c6,rfl,bE,lH,ho6,hn6⟩;have iX:Gr (·=E.b) w w6:=lC aJ dA (by omega) DU;have Tc:=lu.lt;have Ou:=lu.iy;have Df:=bE.lt;have OG:∀q,(Value.slice A6 Nv.length c6).ownBlock=some q->w.heap.size<=q:=(fun q hq=>(ho6 q hq).elim (DU q) (fun h=>by first|omega|(simp at h;omega)));have bn:ag w6 w.heap.size 24 Z7:=dA.blk bz (fun e=>e.elim (fun e=>by omega) (fun e=>e.elim (fun e=>by omega) (fun e=>(jg).1 _ e cB)))))
  have DT:∀q,(fun q=>q<=w1.heap.size) q->q < w6.heap.size:=fun q hq=>by have:q<=w1.heap.size:=hq;omega
  refine eX 11 3 5 6 7 8 10 1 4 9 E.b 84 #[.pointer (some ⟨E.b,0,none⟩)] (fun _=>False) (fun W=>RS E W s2) (fun t W=>t=xb/\RS E W sb)
   lH dO DT bE E.bL (by omega) fT lu.L (by have:=hn6;omega) (kr E _ _ (by omega) (by omega)) lu (fun t=>bD E _ _ _ E.bL E.gL t) (fun t w u hd=>⟨hd.1,hd.2.setCell fT kG u⟩) (fun W hW=>(HKB.out W hW).mono fun e w' h=>fH h) ?_ ?_
  ·rintro a w' c _ nL _
   exact absurd nL id
  rintro vals w7 A7 c7 u7 ⟨hu7,o5⟩ kH JX dm xR
  obtain rfl:=hu7.symm
  dsimp only [bG,List.take_succ_cons,List.take_zero,List.take_nil]
  have bW:ag w7 w.heap.size 24 Z7:=JX.blk bn (fun e=>e.elim (fun e=>by omega) (fun e=>e.elim (fun e=>by omega) (fun e=>lH.1 _ e cB)))
  have lV:Gr (·=E.b) w w7:=lC (v:=.slice A6 Nv.length c6) iX JX (by omega) OG
  obtain ⟨kb,hkb⟩:=aS (Nv ++ [xb])
  have eF:kb.length=Nv.length+1:=by rw [<-hkb,List.length_append];rfl
  rw [hkb,<-eF] at kH
  rw [<-eF] at dm
  have nZ:=af hkb
  clear eF hkb xR
  obtain ⟨_,Lx,Vg,Vh,Vi,Vj,Vk,GQ,_⟩:=dm.av
  obtain ⟨_,EO,EP,ER,ES,ET,EU,EW,EX⟩:=bW.av
  go_wp2
  exact aX Tryz.results52 rfl rfl dS ⟨aJ,aB,k6,op6,m6,p6,t6,a6,kb,A7,c7,(by rw [<-nZ.out];rfl),rfl,(ah.up (lo:=E.L) (X:=(fun q=>q<=w1.heap.size)) (v:=.slice A7 kb.length c7) (ks:=kb) uu (fun q hq=>by have:¬q<=w1.heap.size:=hq;omega))⟩
 |false=>
  have HT:=af ht
  simp only [ht,Bool.false_eq_true,if_false] at heq
  obtain ⟨nd2,s2,h1,heq⟩:=bF heq
  obtain ⟨xb,sb,h2,heq⟩:=bF heq
  simp only [Option.some.injEq,Prod.mk.injEq] at heq
  obtain ⟨rfl,rfl⟩:=heq
  have HQP:=af h1
  have HKB:=af (fun W hW=>Hn.block E W _ xb sb hW h2)
  clear ht h1 h2
  go_enter Tryz.func52,Tryz.ntmps52
  go_wp2_with (first
   |(go_at_call 25;(with_reducible refine (aA E _ s aB [102,117,110,99] ⟨#[102,117,110,99]⟩ rfl).mono ?_);rintro e w1 ⟨rfl,fB,hg1⟩;have hG1:Gr (·=E.b) w w1:=Gr.trans aJ (Gr.mono hg1 (fun _ _ e=>e));have hs1:=hg1.size;(try simp at hs1);have kW:=fB.lt;have oP:=fB.iy;have az:ag w1 w.heap.size 24 Z7:=bU hg1)
   |(go_at_call 27;(with_reducible refine (au E _ (gM s) aB [40] ⟨#[40]⟩ rfl).mono ?_);rintro e w2 ⟨rfl,hg2⟩;rw [HB.out];have hR2:RS E w2 (gM s):=RS.below aB hg2;have hG2:=aL hG1 hg2;have ax:=bV az hg2;have bq:ag w2 w1.heap.size 24 (N7 9 0 0 ⟨#[]⟩ ⟨#[]⟩ 0 (.slice none 0 0)):=ag.aC bz hg2)
   |(go_at_call 26;(with_reducible refine (dR E _ (gM s) aB).mono ?_);rintro e w3 ⟨rfl,gZ,hg3⟩;have hG3:=bP hG2 hg3;have aF:=ax.call hg3 (by omega);have aM:=bq.call hg3 (by omega);obtain ⟨_,yP,_,_,_,GL,GM,_,pg⟩:=aM.av;have uF:ag ((w3.setCell ⟨w1.heap.size,4,none⟩ (.string (bs (ay (gM s))))).setCell ⟨w1.heap.size,5,none⟩ (.int .i64 (hdp (gM s)))) w1.heap.size 24 #[.int .i64 9,.int .i64 0,.int .i64 0,.string ⟨#[]⟩,.string (bs (ay (gM s))),.int .i64 (hdp (gM s)),.slice none 0 0]:=ag.YH (ag.GH aM _) _)
   |(go_at_call 27;(with_reducible refine (au E _ (aG (gM s)) aB [91] ⟨#[91]⟩ rfl).mono ?_);rintro e w4 ⟨rfl,hg4⟩;rw [HT.out];have jb:RS E w4 (aG (gM s)):=RS.below aB hg4;have hG4:=aL hG3 hg4;have aK:=bV aF hg4;have aW:=bV uF hg4;have Q4:=aW.lt;have dO:(fun q=>q<=w1.heap.size) w1.heap.size:=Nat.le_refl _;have cB:(fun q=>q<=w1.heap.size) w.heap.size:=(by show w.heap.size<=w1.heap.size;omega);have fT:w1.heap.size≠E.b:=(by omega);have kG:w1.heap.size≠E.g:=(by omega);have Fu:∀q,(fun q=>q<=w1.heap.size) q->q < w4.heap.size:=(fun q hq=>by have:q<=w1.heap.size:=hq;omega);have HKP:=af (fun (W:World) (hW:RS E W (aG (gM s))) (hb:ag W w1.heap.size 24 (N7 9 0 0 ⟨#[]⟩ (bs (ay (gM s))) (hdp (gM s)) (.slice none 0 0))) (hp:ah W E.L (fun q=>q<=w1.heap.size) (.slice none 0 0) ([]:List Tr)) (EG:∀q,(fun q=>q<=w1.heap.size) q->q < W.heap.size)=>show Calls Tryz.prog 83 #[.pointer (some ⟨E.b,0,none⟩),.pointer (some ⟨w1.heap.size,0,none⟩)] W (Bb E W w1.heap.size (fun q=>q<=w1.heap.size) (.slice none 0 0) (0+n+2) nd2 s2) from Hn.params E W _ w1.heap.size (fun q=>q<=w1.heap.size) 9 0 0 [] (ay (gM s)) (hdp (gM s)) ([]:List Tr) none 0 _ _ hW hb hp dO fT kG EG (by simp only [List.length_nil];omega) HQP.out))
   |(go_at_call 83;(with_reducible refine (HKP.out _ aB bz (ah.none_ _ _ _) (fun q hq=>Nat.lt_of_lt_of_le (Fu q hq) (by first|(simp;done)|(simp;omega)|omega))).mono ?_);rintro e w5 ⟨rfl,jF,hg5,k5,Dx,m5,p5,t5,a5,tX,A5,c5,rfl,aR,jg,ho5,YV⟩;have iw:Gr (·=E.b) w w5:=lC aJ hg5 (by omega) (fun q e=>by cases e);have Js:=jF.lt;have Jt:=jF.iy;have wI:=aR.lt;have DU:∀q,(Value.slice A5 tX.length c5).ownBlock=some q->w.heap.size<=q:=(fun q hq=>(ho5 q hq).elim ((fun q e=>by cases e) q) (fun h=>by first|omega|(simp at h;omega)));have aT:ag w5 w.heap.size 24 Z7:=hg5.blk bz (fun e=>e.elim (fun e=>by omega) (fun e=>e.elim (fun e=>by omega) (fun e=>(by cases e))))))
  have OE:∀q,(fun q=>q<=w1.heap.size) q->q < w5.heap.size:=fun q hq=>by have:q<=w1.heap.size:=hq;omega
  refine eX 11 3 5 6 7 8 10 1 4 9 E.b 84 #[.pointer (some ⟨E.b,0,none⟩)] (fun _=>False) (fun W=>RS E W s2) (fun t W=>t=xb/\RS E W sb)
   jg dO OE aR E.bL (by omega) fT jF.L (by have:=YV;omega) (kr E _ _ (by omega) (by omega)) jF (fun t=>bD E _ _ _ E.bL E.gL t) (fun t w u hd=>⟨hd.1,hd.2.setCell fT kG u⟩) (fun W hW=>(HKB.out W hW).mono fun e w' h=>fH h) ?_ ?_
  ·rintro a w' c _ nL _
   exact absurd nL id
  rintro vals w6 A6 c6 u6 ⟨hu6,lu⟩ lH afv bE OG
  obtain rfl:=hu6.symm
  dsimp only [bG,List.take_succ_cons,List.take_zero,List.take_nil]
  have bn:ag w6 w.heap.size 24 Z7:=afv.blk aT (fun e=>e.elim (fun e=>by omega) (fun e=>e.elim (fun e=>by omega) (fun e=>jg.1 _ e cB)))
  have iX:Gr (·=E.b) w w6:=lC (v:=.slice A5 tX.length c5) iw afv (by omega) DU
  obtain ⟨kb,hkb⟩:=aS (tX ++ [xb])
  have eF:kb.length=tX.length+1:=by rw [<-hkb,List.length_append];rfl
  rw [hkb,<-eF] at lH
  rw [<-eF] at bE
  have nZ:=af hkb
  clear eF hkb OG
  obtain ⟨_,NV,Vl,NW,Vm,Vn,Vo,NY,_⟩:=bE.av
  obtain ⟨_,Jw,Jy,Jz,JC,JF,JG,JH,JI⟩:=bn.av
  go_wp2
  exact aX Tryz.results52 rfl rfl dS ⟨aJ,aB,k5,Dx,m5,p5,t5,a5,kb,A6,c6,(by rw [<-nZ.out];rfl),rfl,(ah.up (lo:=E.L) (X:=(fun q=>q<=w1.heap.size)) (v:=.slice A6 kb.length c6) (ks:=kb) uu (fun q hq=>by have:¬q<=w1.heap.size:=hq;omega))⟩
end Go.Proofs.YtnhidldofjengaaGreatDoor
